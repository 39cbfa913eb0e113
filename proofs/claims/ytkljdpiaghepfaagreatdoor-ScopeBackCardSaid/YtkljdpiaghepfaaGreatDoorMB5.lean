/-
  What the statement's proof leans on: the ways of walking, n8 mathematics, and what the program's functions return; each theorem says on what conditions.
-/
import Derived.Shelf.Strings.SplitCore
import Derived.Test.YtkljdpiaghepfaaGreatDoorMB4
set_option maxRecDepth 1000000
set_option maxHeartbeats 8000000
set_option linter.unusedVariables false
set_option linter.unusedSimpArgs false
namespace Go.Proofs.YtkljdpiaghepfaaGreatDoor
open Go.RowKit

section
def u6 : Nat → List UInt8 → List (List UInt8)
  | 0, s => [s]
  | k + 1, s => if (yB 46 s).2.2 then (yB 46 s).1 :: u6 k (yB 46 s).2.1 else [s]
theorem pcsK_len : ∀ (k : Nat) (s : List UInt8), 1 ≤ (u6 k s).length ∧ (u6 k s).length ≤ k + 1
  | 0, s => ⟨Nat.le_refl _, Nat.le_refl _⟩
  | k + 1, s => by
    have h := pcsK_len k (yB 46 s).2.1
    unfold u6
    split
    · simp only [List.length_cons]; omega
    · simp only [List.length_cons, List.length_nil]; omega
theorem pcsK_mem : ∀ (k : Nat) (s : List UInt8), ∀ x ∈ u6 k s, x.length ≤ s.length
  | 0, s, x, hx => by rw [List.mem_singleton.1 hx]; exact Nat.le_refl _
  | k + 1, s, x, hx => by
    unfold u6 at hx
    have hl := cutAt_le 46 s
    split at hx
    · rcases List.mem_cons.1 hx with e | hx
      · rw [e]; omega
      · have := pcsK_mem k (yB 46 s).2.1 x hx; omega
    · rw [List.mem_singleton.1 hx]; exact Nat.le_refl _
theorem pcsK_join : ∀ (k : Nat) (l : List (List UInt8)), l ≠ [] → l.length ≤ k + 1 → (∀ x ∈ l, (46 : UInt8) ∉ x) → u6 k (zW 46 l) = l
  | _, [], h, _, _ => absurd rfl h
  | 0, [x], _, _, _ => rfl
  | k + 1, [x], _, _, h => by
    unfold u6
    show (if (yB 46 x).2.2 = true then _ else _) = _
    rw [jQ 46 x (h x (List.mem_singleton.2 rfl))]
    exact if_neg Bool.false_ne_true
  | 0, x :: y :: r, _, hl, _ => by simp at hl
  | k + 1, x :: y :: r, _, hl, h => by
    have ih := pcsK_join k (y :: r) (by simp) (by simpa using hl) fun z hz => h z (List.mem_cons_of_mem _ hz)
    unfold u6
    rw [zW, mQ 46 _ _ (h x (List.mem_cons_self ..)), if_pos rfl]
    dsimp only
    rw [ih]
def sgo (s : List UInt8) : Nat → Int × List UInt8
  | 0 => (7, s)
  | k + 1 => if xJ s (zY ((k + 1 : Nat) : Int)) = true ∧ (s.drop (zY ((k + 1 : Nat) : Int)).length).length < (sgo s k).2.length then (((k + 1 : Nat) : Int), s.drop (zY ((k + 1 : Nat) : Int)).length) else sgo s k
theorem sgo_le (s : List UInt8) : ∀ k, (sgo s k).2.length ≤ s.length
  | 0 => Nat.le_refl _
  | k + 1 => by
    unfold sgo
    split
    · show (s.drop _).length ≤ _; rw [List.length_drop]; omega
    · exact sgo_le s k
def jU (s : List UInt8) : List (List UInt8) := u6 2 (yB 45 (sgo s 8).2).1
def starP (s : List UInt8) : Bool := decide ((jU s).getLast? = some [42])
def vD (s : List UInt8) : Co := ⟨if starP s then 9 else (sgo s 8).1, if starP s then ((jU s).length : Int) - 1 else ((jU s).length : Int), ⟨zO (tg (jU s) 0), zO (tg (jU s) 1), zO (tg (jU s) 2), (yB 45 (sgo s 8).2).2.1, []⟩⟩
theorem nob {d a : UInt8} {r t : List UInt8} (h : d ≠ a) : ¬ (xJ (d :: r) (a :: t) = true) := by rw [q9 h]; decide
theorem sgo_plain {d : UInt8} {r : List UInt8} (h : kF d.toNat = true ∨ d = 42) : sgo (d :: r) 8 = (7, d :: r) := by
  have hd : ∀ a : UInt8, kF a.toNat = false → a ≠ 42 → d ≠ a := fun a ha h42 e => by
    subst e
    rcases h with h | h
    · rw [ha] at h; cases h
    · exact h42 h
  have hb : ∀ k : Nat, 1 ≤ k → k ≤ 8 → ¬ (xJ (d :: r) (zY (k : Int)) = true) := fun k h1 h8 => by
    have hk : k = 1 ∨ k = 2 ∨ k = 3 ∨ k = 4 ∨ k = 5 ∨ k = 6 ∨ k = 7 ∨ k = 8 := by omega
    rcases hk with rfl | rfl | rfl | rfl | rfl | rfl | rfl | rfl
    · exact nob (hd 61 (by decide) (by decide))
    · exact nob (hd 33 (by decide) (by decide))
    · exact nob (hd 60 (by decide) (by decide))
    · exact nob (hd 60 (by decide) (by decide))
    · exact nob (hd 62 (by decide) (by decide))
    · exact nob (hd 62 (by decide) (by decide))
    · exact nob (hd 94 (by decide) (by decide))
    · exact nob (hd 126 (by decide) (by decide))
  have : ∀ k : Nat, k ≤ 8 → sgo (d :: r) k = (7, d :: r) := fun k => by
    induction k with
    | zero => intro _; rfl
    | succ k ih =>
      intro h8
      unfold sgo
      rw [if_neg (fun q => hb (k + 1) (by omega) h8 q.1)]
      exact ih (by omega)
  exact this 8 (by decide)
theorem sgo_sign {op : Int} (h1 : 1 ≤ op) (h8 : op ≤ 8) {d : UInt8} {r : List UInt8} (hd : kF d.toNat = true) : sgo (zY op ++ d :: r) 8 = (op, d :: r) := by
  have h61 : d ≠ 61 := fun e => by subst e; revert hd; decide
  have hop : op = 1 ∨ op = 2 ∨ op = 3 ∨ op = 4 ∨ op = 5 ∨ op = 6 ∨ op = 7 ∨ op = 8 := by omega
  rcases hop with rfl | rfl | rfl | rfl | rfl | rfl | rfl | rfl <;> simp [zY, sgo, xJ, h61]
theorem numD_star : zO [42] = 0 := by decide
theorem tg_star {v : Ver} (hv : v.may = true) {n : Nat} (h : n ≤ 2) (h0 : 0 < n ∨ v.maj = 0) (h1 : 1 < n ∨ v.min = 0) (h2 : 2 < n ∨ v.pat = 0) : zO (tg (y9 v n ++ [[42]]) 0) = v.maj ∧ zO (tg (y9 v n ++ [[42]]) 1) = v.min ∧ zO (tg (y9 v n ++ [[42]]) 2) = v.pat := by
  obtain ⟨m1, m2, m3⟩ := qE hv
  have e1 := d5 m1
  have e2 := d5 m2
  match n, h with
  | 0, _ => exact ⟨numD_star.trans (h0.resolve_left (by decide)).symm, (h1.resolve_left (by decide)).symm, (h2.resolve_left (by decide)).symm⟩
  | 1, _ => exact ⟨e1, numD_star.trans (h1.resolve_left (by decide)).symm, (h2.resolve_left (by decide)).symm⟩
  | 2, _ => exact ⟨e1, e2, numD_star.trans (h2.resolve_left (by decide)).symm⟩
theorem rest_pieces {c : Co} (h : c.may = true) : u6 2 (yB 45 c.rest).1 = (if c.op = 9 then y9 c.v c.parts.toNat ++ [[42]] else y9 c.v c.parts.toNat) ∧ (yB 45 c.rest).2.1 = c.v.pre := by
  obtain ⟨_, hv, hb, h9, hn, hp, k0, k1, k2⟩ := Co.facts h
  unfold Co.rest
  by_cases e : c.op = 9
  · rw [if_pos e, if_pos e]
    have f : ∀ b : UInt8, kF b.toNat = false → b ≠ 42 → ∀ x ∈ y9 c.v c.parts.toNat ++ [[42]], b ∉ x := fun b hb hb2 x hx => by
      rcases List.mem_append.1 hx with hx | hx
      · exact qH hv b hb x hx
      · rw [List.mem_singleton.1 hx]
        intro hm
        exact hb2 (List.mem_singleton.1 hm)
    rw [jQ 45 _ (vX 45 (by decide) _ (f 45 (by decide) (by decide)))]
    have hq := h9 e
    have hpre : c.v.pre = [] := hp.resolve_left (by omega)
    refine ⟨?_, hpre.symm⟩
    refine pcsK_join 2 _ (by simp) ?_ (f 46 (by decide) (by decide))
    rw [List.length_append, qI c.v (by omega)]
    simp only [List.length_cons, List.length_nil]; omega
  · rw [if_neg e, if_neg e]
    have hq := hn e
    have hlen := qI c.v (n := c.parts.toNat) (by omega)
    have hne : y9 c.v c.parts.toNat ≠ [] := fun h0 => by
      rw [h0] at hlen
      simp at hlen; omega
    rw [cut_tail 45 _ _ (vX 45 (by decide) _ (qH hv 45 (by decide)))]
    exact ⟨pcsK_join 2 _ hne (by omega) (qH hv 46 (by decide)), rfl⟩
theorem nums_last {c : Co} (h : c.may = true) (hn : ¬ c.op = 9) : ¬ (y9 c.v c.parts.toNat).getLast? = some [42] := fun hl => by
  have hv := (Co.facts h).2.1
  have := qH hv 42 (by decide) _ (List.mem_of_getLast? hl)
  exact this (List.mem_singleton.2 rfl)
theorem guess_of {c : Co} {s : List UInt8} (h : c.may = true) (hs : (sgo s 8).2 = c.rest) (ho : c.op = 9 ∨ (sgo s 8).1 = c.op) : vD s = c := by
  obtain ⟨_, hv, hb, h9, hn, hp, k0, k1, k2⟩ := Co.facts h
  obtain ⟨p1, p2⟩ := rest_pieces h
  have hpc : jU s = if c.op = 9 then y9 c.v c.parts.toNat ++ [[42]] else y9 c.v c.parts.toNat := by unfold jU; rw [hs]; exact p1
  unfold vD
  rw [hs, p2]
  by_cases e : c.op = 9
  · have hq := h9 e
    rw [if_pos e] at hpc
    have hst : starP s = true := by unfold starP; rw [hpc, List.getLast?_concat]; exact decide_eq_true rfl
    obtain ⟨e1, e2, e3⟩ := tg_star hv (n := c.parts.toNat) (by omega) (by omega) (by omega) (by omega)
    rw [hst, hpc, if_pos rfl, if_pos rfl, e1, e2, e3, List.length_append, qI c.v (by omega), List.length_singleton]
    obtain ⟨op, parts, a, b, d, q, r⟩ := c
    simp only at hb e hq ⊢
    rw [hb, e]
    congr 1
    omega
  · have hq := hn e
    rw [if_neg e] at hpc
    have hst : starP s = false := by unfold starP; rw [hpc]; exact decide_eq_false (nums_last h e)
    obtain ⟨e1, e2, e3⟩ := nums_back hv (n := c.parts.toNat) (by omega) (by omega) (by omega) (by omega)
    rw [hst, hpc, if_neg (by decide), if_neg (by decide), e1, e2, e3, qI c.v (by omega), ho.resolve_left e]
    obtain ⟨op, parts, a, b, d, q, r⟩ := c
    simp only at hb hq ⊢
    rw [hb]
    congr 1
    omega
theorem guess_co {c : Co} {s : List UInt8} (h : c.may = true) (hs : c.text = s ∨ c.text = 94 :: s) : vD s = c := by
  obtain ⟨ho, _⟩ := Co.facts h
  by_cases hn : c.op = 9
  · obtain ⟨d, r, e, hd⟩ := mF h hn
    have ht : c.text = d :: r := by unfold Co.text; rw [hn, show zY 9 = [] from rfl, List.nil_append, e]
    rcases hs with hs | hs
    · rw [ht] at hs
      rw [← hs]
      exact guess_of h (by rw [sgo_plain hd, e]) (.inl hn)
    · rw [ht] at hs
      injection hs with e1 _
      rw [e1] at hd
      exact absurd hd (by decide)
  · obtain ⟨d, r, e, hd⟩ := bY h hn
    have ht : c.text = zY c.op ++ d :: r := by unfold Co.text; rw [e]
    have hs8 := sgo_sign ho.1 (by omega) (r := r) hd
    rcases hs with hs | hs
    · rw [ht] at hs
      rw [← hs]
      exact guess_of h (by rw [hs8, e]) (.inr (by rw [hs8]))
    · rw [ht] at hs
      have hop : c.op = 1 ∨ c.op = 2 ∨ c.op = 3 ∨ c.op = 4 ∨ c.op = 5 ∨ c.op = 6 ∨ c.op = 7 ∨ c.op = 8 := by omega
      have h7 : c.op = 7 := by rcases hop with e2 | e2 | e2 | e2 | e2 | e2 | e2 | e2 <;> rw [e2] at hs <;> first | exact e2 | simp [zY] at hs
      rw [h7] at hs
      have hs2 : d :: r = s := by injection hs
      rw [← hs2]
      exact guess_of h (by rw [sgo_plain (.inl hd), e]) (.inr (by rw [sgo_plain (.inl hd), h7]))
theorem guess_nil : vD [] = ⟨7, 1, ⟨0, 0, 0, [], []⟩⟩ := by decide
theorem fits_may {s : List UInt8} (h : (vD s).print = s ∨ (vD s).print = 94 :: s) : (vD s).may = true := by
  refine print_may fun e => ?_
  rw [e] at h
  rcases h with h | h
  · subst h
    revert e
    rw [guess_nil]
    decide +kernel
  · cases h
theorem prog_some {s : List UInt8} (h : (vD s).print = s ∨ (vD s).print = 94 :: s) : gV s = some (vD s) := by
  have hm := fits_may h
  rw [kP hm] at h
  exact (dO s _).2 ⟨hm, h⟩
theorem prog_none {s : List UInt8} (h : ¬ ((vD s).print = s ∨ (vD s).print = 94 :: s)) : gV s = none := by
  cases hp : gV s with
  | none => rfl
  | some c =>
    obtain ⟨hm, ht⟩ := (dO s c).1 hp
    have hg := guess_co hm ht
    rw [hg, kP hm] at h
    exact absurd ht h
theorem may_core6 {c : Co} (h : c.may = true) : kI c.v = c.v := by
  obtain ⟨_, _, hb, _⟩ := Co.facts h
  obtain ⟨op, parts, a, b, d, q, r⟩ := c
  simp only at hb ⊢
  rw [hb]; rfl
theorem low6 {c : Co} (h : c.may = true) : c.low = ⟨0, c.v, false⟩ := by unfold Co.low; rw [may_core6 h]
def kT (c : Co) : Cu := if c.parts = 3 then ⟨0, c.v, true⟩ else if c.parts = 0 then yJ 1 else gX c.v (c.parts - 1).toNat
theorem beh_aft {c : Co} (h : c.may = true) (h0 : ¬ c.parts = 0) : kT c = c.aft := by
  obtain ⟨_, _, _, h9, hn, _⟩ := Co.facts h
  have hp : 0 ≤ c.parts ∧ c.parts ≤ 3 := by
    by_cases e : c.op = 9
    · have := h9 e; omega
    · have := hn e; omega
  unfold kT Co.aft
  by_cases h3 : c.parts = 3
  · rw [if_pos h3, if_neg (by omega), may_core6 h]
  · rw [if_neg h3, if_neg h0, if_pos (by omega)]
def qW (c : Co) : Int := if ¬ c.v.maj = 0 then 0 else if ¬ c.v.min = 0 then 1 else if ¬ c.v.pat = 0 then 2 else c.parts - 1
theorem lead_turns {c : Co} (h : c.may = true) (h7 : ¬ c.op = 9) : qW c = (turnsK c : Int) := by
  obtain ⟨_, hv, _, _, hn, _, k0, k1, k2⟩ := Co.facts h
  have hq := hn h7
  obtain ⟨m1, m2, m3⟩ := jV hv
  unfold qW turnsK
  repeat' split
  all_goals omega
theorem span_parts {c : Co} (h : c.may = true) (e : c.op = 1 ∨ c.op = 2) : ¬ c.parts = 0 := by
  obtain ⟨_, _, _, _, hn, _⟩ := Co.facts h
  have := hn (by omega); omega
def gY (c : Co) : Cu × Cu :=
  if c.op = 3 then (yJ (-1), ⟨0, c.v, false⟩) else if c.op = 4 then (yJ (-1), kT c) else if c.op = 5 then (kT c, yJ 1) else if c.op = 6 then (⟨0, c.v, false⟩, yJ 1)
  else if c.op = 7 then (⟨0, c.v, false⟩, gX c.v (qW c).toNat) else if c.op = 8 then (⟨0, c.v, false⟩, gX c.v (min (c.parts - 1) 1).toNat) else if c.parts = 0 then (yJ (-1), yJ 1) else (⟨0, c.v, false⟩, kT c)
theorem bound_span {c : Co} (h : c.may = true) : gY c = c.span := by
  obtain ⟨ho, _, _, h9, hn, _⟩ := Co.facts h
  have e0 : ¬ c.op = 9 → kT c = c.aft := fun e => beh_aft h (by have := hn e; omega)
  have el := low6 h
  have hop : c.op = 1 ∨ c.op = 2 ∨ c.op = 3 ∨ c.op = 4 ∨ c.op = 5 ∨ c.op = 6 ∨ c.op = 7 ∨ c.op = 8 ∨ c.op = 9 := by omega
  unfold gY Co.span
  rcases hop with e | e | e | e | e | e | e | e | e
  · have := hn (by omega); simp [e, el, e0 (by omega), show ¬ c.parts = 0 by omega]
  · have := hn (by omega); simp [e, el, e0 (by omega), show ¬ c.parts = 0 by omega]
  · simp [e, el]
  · simp [e, e0 (by omega)]
  · simp [e, e0 (by omega)]
  · simp [e, el]
  · have := lead_turns h (by omega); simp [e, el, this]
  · simp [e, el]
  · have hq := h9 e
    by_cases h0 : c.parts = 0
    · simp [e, h0]
    · have hb : kT c = gX c.v (c.parts - 1).toNat := by unfold kT; rw [if_neg (by omega), if_neg h0]
      simp [e, h0, el, hb]
end
section
def vE (v : Ver) : Array Value := #[.int .i64 v.maj, .int .i64 v.min, .int .i64 v.pat]
theorem rd_nums (v : Ver) : ∀ (k : Nat), k < 3 → kL Tryz.prog 3 (vE v) k = some (.int .i64 (xR v.maj v.min v.pat k))
  | 0, _ => by kernel_rfl
  | 1, _ => by kernel_rfl
  | 2, _ => by kernel_rfl
theorem zero3 {v : Ver} (h : ∀ j, j < 3 → xR v.maj v.min v.pat j = 0) : v.maj = 0 ∧ v.min = 0 ∧ v.pat = 0 := ⟨h 0 (by decide), h 1 (by decide), h 2 (by decide)⟩
theorem may_rest {c : Co} (h : c.may = true) : ∀ j, c.parts.toNat ≤ j → j < 3 → xR c.v.maj c.v.min c.v.pat j = 0 := fun j h1 h3 => by
  obtain ⟨_, _, _, h9, hn, _, k0, k1, k2⟩ := Co.facts h
  have hj : j = 0 ∨ j = 1 ∨ j = 2 := by omega
  rcases hj with rfl | rfl | rfl
  · show c.v.maj = 0; omega
  · show c.v.min = 0; omega
  · show c.v.pat = 0; omega
theorem may_bad {c : Co} {k : Nat} (hk : c.parts.toNat + k < 3) (hn : ¬ xR c.v.maj c.v.min c.v.pat (c.parts.toNat + k) = 0) : c.may = false := by
  cases hm : c.may with
  | false => rfl
  | true => exact absurd (may_rest hm _ (Nat.le_add_right _ _) hk) hn
theorem bG {c : Co} (h1 : 1 ≤ c.op ∧ c.op ≤ 9) (h9 : c.op = 9 → 0 ≤ c.parts ∧ c.parts ≤ 2) (hn : ¬ c.op = 9 → 1 ≤ c.parts ∧ c.parts ≤ 3) (hz : ∀ j, c.parts.toNat ≤ j → j < 3 → xR c.v.maj c.v.min c.v.pat j = 0) :
    c.may = (c.v.may && (decide (c.v.build = []) && (decide (c.v.pre = []) || decide (c.parts = 3)))) := by
  have hp : 0 ≤ c.parts ∧ c.parts ≤ 3 := by
    by_cases e : c.op = 9
    · have := h9 e; omega
    · have := hn e; omega
  have z0 : 0 < c.parts ∨ c.v.maj = 0 := by
    by_cases q : 0 < c.parts
    · exact .inl q
    · exact .inr (hz 0 (by omega) (by decide))
  have z1 : 1 < c.parts ∨ c.v.min = 0 := by
    by_cases q : 1 < c.parts
    · exact .inl q
    · exact .inr (hz 1 (by omega) (by decide))
  have z2 : 2 < c.parts ∨ c.v.pat = 0 := by
    by_cases q : 2 < c.parts
    · exact .inl q
    · exact .inr (hz 2 (by omega) (by decide))
  refine Bool.eq_iff_iff.2 ⟨fun h => ?_, fun h => ?_⟩
  · obtain ⟨_, q1, q2, _, _, q3, _⟩ := Co.facts h
    rw [q1, decide_eq_true q2, Bool.true_and, Bool.true_and, Bool.or_eq_true, decide_eq_true_eq, decide_eq_true_eq]
    rcases q3 with q3 | q3
    · exact .inr (by omega)
    · exact .inl q3
  · simp only [Bool.and_eq_true, Bool.or_eq_true, decide_eq_true_eq] at h
    exact Co.may_iff.2 ⟨h1, h.1, h.2.1, h9, hn, h.2.2.elim .inr (fun q => .inl (by omega)), z0, z1, z2⟩
theorem lead_at {c : Co} {k : Nat} (hk : k < 3) (hz : ∀ j, j < k → xR c.v.maj c.v.min c.v.pat j = 0) (hn : ¬ xR c.v.maj c.v.min c.v.pat k = 0) : qW c = (k : Int) := by
  have h0 := hz 0; have h1 := hz 1
  have hj : k = 0 ∨ k = 1 ∨ k = 2 := by omega
  unfold qW
  rcases hj with rfl | rfl | rfl
  · exact if_pos (show ¬ c.v.maj = 0 from hn)
  · rw [if_neg (by simp [show c.v.maj = 0 from h0 (by decide)])]; exact if_pos (show ¬ c.v.min = 0 from hn)
  · rw [if_neg (by simp [show c.v.maj = 0 from h0 (by decide)]), if_neg (by simp [show c.v.min = 0 from h1 (by decide)])]; exact if_pos (show ¬ c.v.pat = 0 from hn)
theorem lead_end {c : Co} (hz : ∀ j, j < 3 → xR c.v.maj c.v.min c.v.pat j = 0) : qW c = c.parts - 1 := by
  obtain ⟨a, b, d⟩ := zero3 hz
  unfold qW
  rw [if_neg (by simp [a]), if_neg (by simp [b]), if_neg (by simp [d])]
theorem zero_on {v : Ver} {a k : Nat} (hz : ∀ j, a ≤ j → j < a + k → xR v.maj v.min v.pat j = 0) (h : xR v.maj v.min v.pat (a + k) = 0) : ∀ j, a ≤ j → j < a + (k + 1) → xR v.maj v.min v.pat j = 0 := fun j h1 h2 => by
  by_cases e : j = a + k
  · rw [e]; exact h
  · exact hz j h1 (by omega)
theorem zero_on0 {v : Ver} {k : Nat} (hz : ∀ j, j < k → xR v.maj v.min v.pat j = 0) (h : xR v.maj v.min v.pat k = 0) : ∀ j, j < k + 1 → xR v.maj v.min v.pat j = 0 := fun j h2 => by
  by_cases e : j = k
  · rw [e]; exact h
  · exact hz j (by omega)
theorem mR (v : Ver) (W : World) : Calls Tryz.prog 111 #[yF v] W fun e w' => ∃ v' ob', e = .returned v' ∧ (∃ g, v' = .slice (some ⟨g, 0, none⟩) 3 3 ∧ ob' = [⟨g, vE v, 3⟩]) ∧ Own [] W w' ob' := by
  refine zQ (n := 10) Tryz.func111 rfl (by kernel_rfl) (by kernel_rfl) (ZO (Zb (yF v) (fun b1 => Zv (.slice none 0 0) (ZR (Zv (.pointer (some ⟨b1, 0, none⟩)) (Zl 0 ⟨b1, (yF v).cells, 44⟩ (off := 0) (.int .i64 v.maj) (Zv (.pointer (some ⟨b1, 1, none⟩)) ?_)))))))
  exact Zl 0 ⟨b1, (yF v).cells, 44⟩ (off := 1) (.int .i64 v.min) (Zv (.pointer (some ⟨b1, 2, none⟩)) (Zl 0 ⟨b1, (yF v).cells, 44⟩ (off := 2) (.int .i64 v.pat) (vC 3 #[.int .i64 v.maj, .int .i64 v.min, .int .i64 v.pat] (by kernel_rfl) rfl (fun _ => by kernel_rfl) (fun b2 => Zv (.slice (some ⟨b2, 0, none⟩) 3 3) (ZN (zA (ZF (.slice (some ⟨b2, 0, none⟩) 3 3) Tryz.results111 (fun w hO => ⟨_, _, rfl, ⟨_, rfl, rfl⟩, hO.sublist (List.cons_sublist_cons.2 (List.nil_sublist _))⟩))))))))
theorem tU (c : Co) (W : World) (hc : c.short) : Calls Tryz.prog 73 #[coV c] W fun e w' => e = .returned (.bool c.may) ∧ Below W.heap.size W w' := by
  refine zQ (n := 64) Tryz.func73 rfl (by kernel_rfl) (by kernel_rfl) (ZO (Zb (coV c) (fun b1 => Zv (.bool false) (ZR (Zv (.int .i64 1) (Zv (.int .i64 3) (zN ?_)))))))
  refine zC (z6 (ZO (Zv (.pointer (some ⟨b1, 0, none⟩)) (Zl 0 ⟨b1, (coV c).cells, 51⟩ (off := 0) (.int .i64 c.op) ?_))))
  by_cases h1 : (c.op : Int) = 9
  · refine zV (p := (c.op : Int) = 9) true (by kernel_rfl) (fun _ => by kernel_rfl) (decide_eq_true (h1)) ?_
    refine ZY (z7 (Zv (.int .i64 0) (Zv (.int .i64 2) (ZN (z6 (ZO (Zv (.pointer (some ⟨b1, 0, none⟩)) ?_)))))))
    refine Zl 0 ⟨b1, (coV c).cells, 51⟩ (off := 0) (.int .i64 c.op) ?_
    by_cases h2 : (c.op : Int) < 1
    · refine zV (p := (c.op : Int) < 1) true (by kernel_rfl) (fun _ => by kernel_rfl) (decide_eq_true (h2)) ?_
      refine Zv (.bool true) (Zk (Zk (Zk (Zv (.bool true) (Zv (.bool true) (Zk (Zk (Zk (Zk (Zv (.bool true) (Zv (.bool true) ?_)))))))))))
      refine Zk (Zk (Zk (Zk (Zv (.bool true) (ZY (ZO (Zv (.bool false) (zN ?_))))))))
      exact zC (zA (z8 (ZF (.bool false) Tryz.results73 (fun w hO => ⟨by rw [show c.may = false from Bool.eq_false_iff.2 fun q0 => by have q1 := Co.may_iff.1 q0; grind], hO.below⟩))))
    refine Zd (p := (c.op : Int) < 1) false (decide_eq_false (h2)) (Zv (.bool false) (Zv (.pointer (some ⟨b1, 0, none⟩)) (Zl 0 ⟨b1, (coV c).cells, 51⟩ (off := 0) (.int .i64 c.op) ?_)))
    by_cases h3 : (9 : Int) < c.op
    · refine zV (p := (9 : Int) < c.op) true (by kernel_rfl) (fun _ => by kernel_rfl) (decide_eq_true (h3)) ?_
      refine Zv (.bool true) (Zv (.bool true) (Zk (Zk (Zk (Zk (Zv (.bool true) (Zv (.bool true) (Zk (Zk (Zk (Zk ?_)))))))))))
      refine Zv (.bool true) (ZY (ZO (Zv (.bool false) (ZN (zA (z8 (ZF (.bool false) Tryz.results73 ?_)))))))
      exact fun w hO => ⟨by rw [show c.may = false from Bool.eq_false_iff.2 fun q0 => by have q1 := Co.may_iff.1 q0; grind], hO.below⟩
    refine Zd (p := (9 : Int) < c.op) false (decide_eq_false (h3)) (Zv (.bool false) (Zv (.bool false) (Zv (.pointer (some ⟨b1, 1, none⟩)) (Zl 0 ⟨b1, (coV c).cells, 51⟩ (off := 1) (.int .i64 c.parts) (Zv (.int .i64 0) ?_)))))
    by_cases h4 : (c.parts : Int) < 0
    · refine zV (p := (c.parts : Int) < 0) true (by kernel_rfl) (fun _ => by kernel_rfl) (decide_eq_true (h4)) ?_
      refine Zv (.bool true) (Zv (.bool true) (Zk (Zk (Zk (Zk (Zv (.bool true) (ZY (z6 (z7 ?_)))))))))
      exact Zv (.bool false) (ZN (zA (z8 (ZF (.bool false) Tryz.results73 (fun w hO => ⟨by rw [show c.may = false from Bool.eq_false_iff.2 fun q0 => by have q1 := Co.may_iff.1 q0; grind], hO.below⟩)))))
    refine Zd (p := (c.parts : Int) < 0) false (decide_eq_false (h4)) (Zv (.bool false) (Zv (.bool false) (Zv (.pointer (some ⟨b1, 1, none⟩)) (Zl 0 ⟨b1, (coV c).cells, 51⟩ (off := 1) (.int .i64 c.parts) (Zv (.int .i64 2) ?_)))))
    by_cases h5 : (2 : Int) < c.parts
    · refine zV (p := (2 : Int) < c.parts) true (by kernel_rfl) (fun _ => by kernel_rfl) (decide_eq_true (h5)) ?_
      refine Zv (.bool true) (ZY (ZO (Zv (.bool false) (ZN (zA (z8 (ZF (.bool false) Tryz.results73 ?_)))))))
      exact fun w hO => ⟨by rw [show c.may = false from Bool.eq_false_iff.2 fun q0 => by have q1 := Co.may_iff.1 q0; grind], hO.below⟩
    refine Zd (p := (2 : Int) < c.parts) false (decide_eq_false (h5)) (Zv (.bool false) (ZX (ZB (z6 (z6 (uM (by kernel_rfl) (ZT 0 [] _ (.pointer (some ⟨b1, 2, none⟩)) (zK (zK zS)) rfl (ZL 1 [] _ 0 ⟨b1, (coV c).cells, 51⟩ (off := 2) (.agg #[.int .i64 c.v.maj, .int .i64 c.v.min, .int .i64 c.v.pat, .string (mkS c.v.pre), .string (mkS c.v.build)]) (zK (zK zS)) rfl rfl ?_))))))))
    refine ZT 3 [] _ (.pointer (some ⟨b1, 1, none⟩)) (zK (zK zS)) rfl (ZL 4 [] _ 0 ⟨b1, (coV c).cells, 51⟩ (off := 1) (.int .i64 c.parts) (zK (zK zS)) rfl rfl (ZT 7 [] _ (.int .i64 0) (zK (zK zS)) rfl (y8 2 (by kernel_rfl) (jD _ (k := 111) (args := #[.agg #[.int .i64 c.v.maj, .int .i64 c.v.min, .int .i64 c.v.pat, .string (mkS c.v.pre), .string (mkS c.v.build)]]) (fun v' L' => ∃ ob', L' = ob' ++ ([] ++ ([⟨b1, (coV c).cells, 51⟩])) ∧ ∃ g, v' = .slice (some ⟨g, 0, none⟩) 3 3 ∧ ob' = [⟨g, vE c.v, 3⟩]) rfl (by kernel_rfl) (fun _ => by kernel_rfl) (fun w hO => (mR c.v w).mono fun e w' ⟨v', ob', k1, k2, k3⟩ => ⟨v', _, k1, ⟨ob', rfl, k2⟩, Own.joinN hO k3⟩) (fun v' L' ⟨ob', e, _⟩ w hO => by subst e; exact Own.sub [] (Own.sub ob' hO)) (fun v1 L2 hv2 => ?_)))))
    obtain ⟨o1, rfl, hr1⟩ := hv2
    obtain ⟨g1, rfl, ho1⟩ := hr1
    refine dW (L' := (o1 ++ ([] : List Blk)) ++ ([⟨b1, (coV c).cells, 51⟩])) (List.append_assoc _ _ _).symm (bI 5 (o1 ++ ([] : List Blk)) _ (.slice (some ⟨g1, 0 + (if 3 = c.parts.toNat then 0 else c.parts.toNat * 1), none⟩) (3 - c.parts.toNat : Nat) (3 - c.parts.toNat : Nat)) rfl (by kernel_rfl) (by kernel_rfl) (by kernel_rfl) (zK (zK zS)) (by kernel_rfl) (fun w _ => run_sllo (b := g1) (off := 0) (n := 3) (c := 3) (k := .i64) (j := c.parts) (e := 3) (sz := 1) rfl (by kernel_rfl) (by kernel_rfl) (by kernel_rfl) (by kernel_rfl) (by omega) (by omega) w) (ZT 6 (o1 ++ ([] : List Blk)) _ (.int .i64 ((3 - c.parts.toNat : Nat) : Int)) (zK (zK zS)) rfl (xM (by kernel_rfl) (zC (zI (gC (L' := [⟨g1, vE c.v, 3⟩, ⟨b1, (coV c).cells, 51⟩]) (by rw [ho1]; rfl) (yT (fun L f m => ∃ (k : Nat) (j : Nat → Value), (k ≤ 3 - c.parts.toNat ∧ ∀ j, c.parts.toNat ≤ j → j < c.parts.toNat + k → xR c.v.maj c.v.min c.v.pat j = 0) ∧ L = [⟨g1, vE c.v, 3⟩, ⟨b1, (coV c).cells, 51⟩] ∧ f = kE j [(1, .pointer (some ⟨b1, 0, none⟩)), (35, .slice (some ⟨g1, 0 + (if 3 = c.parts.toNat then 0 else c.parts.toNat * 1), none⟩) (3 - c.parts.toNat : Nat) (3 - c.parts.toNat : Nat)), (36, .int .i64 ((3 - c.parts.toNat : Nat) : Int)), (37, .int .i64 (k : Int))] ∧ m = 3 - c.parts.toNat - k) (3 - c.parts.toNat - 0) ⟨0, _, ⟨Nat.zero_le _, fun j h1 h2 => absurd h2 (by omega)⟩, rfl, ZU, rfl⟩ ?_)))))))
    rintro L f m ⟨k, j, hrel, rfl, rfl, rfl⟩
    have hkl := hrel.1
    refine z6 (z7 ?_)
    by_cases h6 : (k : Int) < ((3 - c.parts.toNat : Nat) : Int)
    · refine zV (p := (k : Int) < ((3 - c.parts.toNat : Nat) : Int)) true (by kernel_rfl) (fun _ => by kernel_rfl) (decide_eq_true (h6)) ?_
      refine ZN (z6 (Zt (ZB (z6 (zI (ZO (zT (.pointer (some ⟨g1, c.parts.toNat + k, none⟩)) (by kernel_rfl) (jZ (b := g1) (off := 0 + (if 3 = c.parts.toNat then 0 else c.parts.toNat * 1)) (n := (3 - c.parts.toNat : Nat)) (c := (3 - c.parts.toNat : Nat)) (k := .i64) (j := (k : Int)) (e := 3) (sz := 1) rfl (by kernel_rfl) (by kernel_rfl) (by kernel_rfl) (by kernel_rfl) (by omega) (by omega) (by rw [if_neg (by omega)]; omega)) (j6 0 ⟨g1, vE c.v, 3⟩ (off := c.parts.toNat + k) (.int .i64 (xR c.v.maj c.v.min c.v.pat (c.parts.toNat + k))) (by kernel_rfl) rfl (by kernel_rfl) (by kernel_rfl) (rd_nums c.v _ (by omega)) ?_))))))))
      refine Zv (.int .i64 (xR c.v.maj c.v.min c.v.pat (c.parts.toNat + k))) (ZR (Zv (.int .i64 (xR c.v.maj c.v.min c.v.pat (c.parts.toNat + k))) ?_))
      by_cases h7 : (xR c.v.maj c.v.min c.v.pat (c.parts.toNat + k) : Int) = 0
      · refine vL (p := (xR c.v.maj c.v.min c.v.pat (c.parts.toNat + k) : Int) = 0) true (by kernel_rfl) (fun _ => by kernel_rfl) (decide_eq_true (h7)) ?_
        exact ZX (x4 (zR (zC (z7 (Zu (k := .i64) (((k + 1 : Nat) : Int)) (IntWalk.i64_in _ (by omega)) (Zv (.int .i64 ((k + 1 : Nat) : Int)) (zN (zU (m' := 3 - c.parts.toNat - (k + 1)) (by omega) ⟨k + 1, _, ⟨by omega, zero_on hrel.2 h7⟩, rfl, ZU, rfl⟩))))))))
      refine Zn (p := (xR c.v.maj c.v.min c.v.pat (c.parts.toNat + k) : Int) = 0) false (decide_eq_false (h7)) (ZY (ZO (Zv (.bool false) (ZN (zA (zD (z8 ?_)))))))
      exact y7 (zD (z8 (ZF (.bool false) Tryz.results73 (fun w hO => ⟨by rw [may_bad (k := k) (by omega) h7], hO.below⟩))))
    refine Zd (p := (k : Int) < ((3 - c.parts.toNat : Nat) : Int)) false (decide_eq_false (h6)) (ZN (z6 (Zf (y5 (zB (zM (zH (zC (z6 (z7 ?_))))))))))
    refine Zv (.pointer (some ⟨b1, 2, none⟩)) (Zl 1 ⟨b1, (coV c).cells, 51⟩ (off := 2) (.agg #[.int .i64 c.v.maj, .int .i64 c.v.min, .int .i64 c.v.pat, .string (mkS c.v.pre), .string (mkS c.v.build)]) (Zc (k := 119) (args := #[.agg #[.int .i64 c.v.maj, .int .i64 c.v.min, .int .i64 c.v.pat, .string (mkS c.v.pre), .string (mkS c.v.build)]]) (.bool c.v.may) (fun w _ => jA c.v w (Nat.lt_of_le_of_lt hc.1 (by decide)) (Nat.lt_of_le_of_lt hc.2 (by decide))) (Zv (.bool c.v.may) ?_)))
    cases h8 : c.v.may with
    | true =>
      refine Zv (.pointer (some ⟨b1, 2, none⟩)) (Zv (.pointer (some ⟨b1, 6, none⟩)) (Zl 1 ⟨b1, (coV c).cells, 51⟩ (off := 6) (.string (mkS c.v.build)) ?_))
      by_cases h9 : (c.v.build : List UInt8) = []
      · refine zT (.bool true) (by kernel_rfl) (yY (a := c.v.build) (b := ([])) rfl (by kernel_rfl) (by kernel_rfl) (decide_eq_true (h9))) ?_
        refine Zv (.bool true) (Zv (.bool true) (Zv (.pointer (some ⟨b1, 2, none⟩)) (Zv (.pointer (some ⟨b1, 5, none⟩)) (Zl 1 ⟨b1, (coV c).cells, 51⟩ (off := 5) (.string (mkS c.v.pre)) ?_))))
        by_cases h10 : (c.v.pre : List UInt8) = []
        · refine zT (.bool true) (by kernel_rfl) (yY (a := c.v.pre) (b := ([])) rfl (by kernel_rfl) (by kernel_rfl) (decide_eq_true (h10))) ?_
          exact Zv (.bool true) (Zk (Zk (Zk (Zv (.bool true) (Zv (.bool true) (Zv (.bool true) (ZN (zA (ZF (.bool true) Tryz.results73 (fun w hO => ⟨by rw [bG ⟨by omega, by omega⟩ (fun _ => by omega) (fun _ => by omega) (fun j q1 q2 => hrel.2 j q1 (by omega))]; simp [h1, h2, h3, h4, h5, h6, h8, h9, h10], hO.below⟩))))))))))
        refine zT (.bool false) (by kernel_rfl) (yY (a := c.v.pre) (b := ([])) rfl (by kernel_rfl) (by kernel_rfl) (decide_eq_false (h10))) (Zv (.bool false) (Zv (.pointer (some ⟨b1, 1, none⟩)) (Zl 1 ⟨b1, (coV c).cells, 51⟩ (off := 1) (.int .i64 c.parts) ?_)))
        by_cases h11 : (c.parts : Int) = 3
        · refine zV (p := (c.parts : Int) = 3) true (by kernel_rfl) (fun _ => by kernel_rfl) (decide_eq_true (h11)) ?_
          exact Zv (.bool true) (Zv (.bool true) (Zv (.bool true) (ZN (zA (ZF (.bool true) Tryz.results73 (fun w hO => ⟨by rw [bG ⟨by omega, by omega⟩ (fun _ => by omega) (fun _ => by omega) (fun j q1 q2 => hrel.2 j q1 (by omega))]; simp [h1, h2, h3, h4, h5, h6, h8, h9, h10, h11], hO.below⟩))))))
        exact Zd (p := (c.parts : Int) = 3) false (decide_eq_false (h11)) (Zv (.bool false) (Zv (.bool false) (Zv (.bool false) (ZN (zA (ZF (.bool false) Tryz.results73 (fun w hO => ⟨by rw [bG ⟨by omega, by omega⟩ (fun _ => by omega) (fun _ => by omega) (fun j q1 q2 => hrel.2 j q1 (by omega))]; simp [h1, h2, h3, h4, h5, h6, h8, h9, h10, h11], hO.below⟩)))))))
      refine zT (.bool false) (by kernel_rfl) (yY (a := c.v.build) (b := ([])) rfl (by kernel_rfl) (by kernel_rfl) (decide_eq_false (h9))) (Zv (.bool false) (Zv (.bool false) (Zk (Zk (Zk (Zk (Zk (Zk (Zk (Zk (Zk ?_)))))))))))
      exact Zv (.bool false) (Zv (.bool false) (ZN (zA (ZF (.bool false) Tryz.results73 (fun w hO => ⟨by rw [bG ⟨by omega, by omega⟩ (fun _ => by omega) (fun _ => by omega) (fun j q1 q2 => hrel.2 j q1 (by omega))]; simp [h1, h2, h3, h4, h5, h6, h8, h9], hO.below⟩)))))
    | false =>
      refine Zk (Zk (Zk (Zk (Zv (.bool false) (Zv (.bool false) (Zk (Zk (Zk (Zk (Zk (Zk ?_)))))))))))
      exact Zk (Zk (Zk (Zv (.bool false) (Zv (.bool false) (ZN (zA (ZF (.bool false) Tryz.results73 (fun w hO => ⟨by rw [bG ⟨by omega, by omega⟩ (fun _ => by omega) (fun _ => by omega) (fun j q1 q2 => hrel.2 j q1 (by omega))]; simp [h1, h2, h3, h4, h5, h6, h8], hO.below⟩))))))))
  refine Zd (p := (c.op : Int) = 9) false (decide_eq_false (h1)) (ZX (ZB (z6 (ZO (Zv (.pointer (some ⟨b1, 0, none⟩)) (Zl 0 ⟨b1, (coV c).cells, 51⟩ (off := 0) (.int .i64 c.op) ?_))))))
  by_cases h12 : (c.op : Int) < 1
  · refine zV (p := (c.op : Int) < 1) true (by kernel_rfl) (fun _ => by kernel_rfl) (decide_eq_true (h12)) ?_
    refine Zv (.bool true) (Zk (Zk (Zk (Zv (.bool true) (Zv (.bool true) (Zk (Zk (Zk (Zk (Zv (.bool true) (Zv (.bool true) ?_)))))))))))
    refine Zk (Zk (Zk (Zk (Zv (.bool true) (ZY (ZO (Zv (.bool false) (zN ?_))))))))
    exact zC (zA (z8 (ZF (.bool false) Tryz.results73 (fun w hO => ⟨by rw [show c.may = false from Bool.eq_false_iff.2 fun q0 => by have q1 := Co.may_iff.1 q0; grind], hO.below⟩))))
  refine Zd (p := (c.op : Int) < 1) false (decide_eq_false (h12)) (Zv (.bool false) (Zv (.pointer (some ⟨b1, 0, none⟩)) (Zl 0 ⟨b1, (coV c).cells, 51⟩ (off := 0) (.int .i64 c.op) ?_)))
  by_cases h13 : (9 : Int) < c.op
  · refine zV (p := (9 : Int) < c.op) true (by kernel_rfl) (fun _ => by kernel_rfl) (decide_eq_true (h13)) ?_
    refine Zv (.bool true) (Zv (.bool true) (Zk (Zk (Zk (Zk (Zv (.bool true) (Zv (.bool true) (Zk (Zk (Zk (Zk ?_)))))))))))
    refine Zv (.bool true) (ZY (ZO (Zv (.bool false) (ZN (zA (z8 (ZF (.bool false) Tryz.results73 ?_)))))))
    exact fun w hO => ⟨by rw [show c.may = false from Bool.eq_false_iff.2 fun q0 => by have q1 := Co.may_iff.1 q0; grind], hO.below⟩
  refine Zd (p := (9 : Int) < c.op) false (decide_eq_false (h13)) (Zv (.bool false) (Zv (.bool false) (Zv (.pointer (some ⟨b1, 1, none⟩)) (Zl 0 ⟨b1, (coV c).cells, 51⟩ (off := 1) (.int .i64 c.parts) (Zv (.int .i64 1) ?_)))))
  by_cases h14 : (c.parts : Int) < 1
  · refine zV (p := (c.parts : Int) < 1) true (by kernel_rfl) (fun _ => by kernel_rfl) (decide_eq_true (h14)) ?_
    refine Zv (.bool true) (Zv (.bool true) (Zk (Zk (Zk (Zk (Zv (.bool true) (ZY (z6 (z7 ?_)))))))))
    exact Zv (.bool false) (ZN (zA (z8 (ZF (.bool false) Tryz.results73 (fun w hO => ⟨by rw [show c.may = false from Bool.eq_false_iff.2 fun q0 => by have q1 := Co.may_iff.1 q0; grind], hO.below⟩)))))
  refine Zd (p := (c.parts : Int) < 1) false (decide_eq_false (h14)) (Zv (.bool false) (Zv (.bool false) (Zv (.pointer (some ⟨b1, 1, none⟩)) (Zl 0 ⟨b1, (coV c).cells, 51⟩ (off := 1) (.int .i64 c.parts) (Zv (.int .i64 3) ?_)))))
  by_cases h15 : (3 : Int) < c.parts
  · refine zV (p := (3 : Int) < c.parts) true (by kernel_rfl) (fun _ => by kernel_rfl) (decide_eq_true (h15)) ?_
    refine Zv (.bool true) (ZY (ZO (Zv (.bool false) (ZN (zA (z8 (ZF (.bool false) Tryz.results73 ?_)))))))
    exact fun w hO => ⟨by rw [show c.may = false from Bool.eq_false_iff.2 fun q0 => by have q1 := Co.may_iff.1 q0; grind], hO.below⟩
  refine Zd (p := (3 : Int) < c.parts) false (decide_eq_false (h15)) (Zv (.bool false) (ZX (ZB (z6 (z6 (uM (by kernel_rfl) (ZT 0 [] _ (.pointer (some ⟨b1, 2, none⟩)) (zK (zK zS)) rfl (ZL 1 [] _ 0 ⟨b1, (coV c).cells, 51⟩ (off := 2) (.agg #[.int .i64 c.v.maj, .int .i64 c.v.min, .int .i64 c.v.pat, .string (mkS c.v.pre), .string (mkS c.v.build)]) (zK (zK zS)) rfl rfl ?_))))))))
  refine ZT 3 [] _ (.pointer (some ⟨b1, 1, none⟩)) (zK (zK zS)) rfl (ZL 4 [] _ 0 ⟨b1, (coV c).cells, 51⟩ (off := 1) (.int .i64 c.parts) (zK (zK zS)) rfl rfl (ZT 7 [] _ (.int .i64 0) (zK (zK zS)) rfl (y8 2 (by kernel_rfl) (jD _ (k := 111) (args := #[.agg #[.int .i64 c.v.maj, .int .i64 c.v.min, .int .i64 c.v.pat, .string (mkS c.v.pre), .string (mkS c.v.build)]]) (fun v' L' => ∃ ob', L' = ob' ++ ([] ++ ([⟨b1, (coV c).cells, 51⟩])) ∧ ∃ g, v' = .slice (some ⟨g, 0, none⟩) 3 3 ∧ ob' = [⟨g, vE c.v, 3⟩]) rfl (by kernel_rfl) (fun _ => by kernel_rfl) (fun w hO => (mR c.v w).mono fun e w' ⟨v', ob', k1, k2, k3⟩ => ⟨v', _, k1, ⟨ob', rfl, k2⟩, Own.joinN hO k3⟩) (fun v' L' ⟨ob', e, _⟩ w hO => by subst e; exact Own.sub [] (Own.sub ob' hO)) (fun v1 L2 hv2 => ?_)))))
  obtain ⟨o1, rfl, hr1⟩ := hv2
  obtain ⟨g1, rfl, ho1⟩ := hr1
  refine dW (L' := (o1 ++ ([] : List Blk)) ++ ([⟨b1, (coV c).cells, 51⟩])) (List.append_assoc _ _ _).symm (bI 5 (o1 ++ ([] : List Blk)) _ (.slice (some ⟨g1, 0 + (if 3 = c.parts.toNat then 0 else c.parts.toNat * 1), none⟩) (3 - c.parts.toNat : Nat) (3 - c.parts.toNat : Nat)) rfl (by kernel_rfl) (by kernel_rfl) (by kernel_rfl) (zK (zK zS)) (by kernel_rfl) (fun w _ => run_sllo (b := g1) (off := 0) (n := 3) (c := 3) (k := .i64) (j := c.parts) (e := 3) (sz := 1) rfl (by kernel_rfl) (by kernel_rfl) (by kernel_rfl) (by kernel_rfl) (by omega) (by omega) w) (ZT 6 (o1 ++ ([] : List Blk)) _ (.int .i64 ((3 - c.parts.toNat : Nat) : Int)) (zK (zK zS)) rfl (xM (by kernel_rfl) (zC (zI (gC (L' := [⟨g1, vE c.v, 3⟩, ⟨b1, (coV c).cells, 51⟩]) (by rw [ho1]; rfl) (yT (fun L f m => ∃ (k : Nat) (j : Nat → Value), (k ≤ 3 - c.parts.toNat ∧ ∀ j, c.parts.toNat ≤ j → j < c.parts.toNat + k → xR c.v.maj c.v.min c.v.pat j = 0) ∧ L = [⟨g1, vE c.v, 3⟩, ⟨b1, (coV c).cells, 51⟩] ∧ f = kE j [(1, .pointer (some ⟨b1, 0, none⟩)), (35, .slice (some ⟨g1, 0 + (if 3 = c.parts.toNat then 0 else c.parts.toNat * 1), none⟩) (3 - c.parts.toNat : Nat) (3 - c.parts.toNat : Nat)), (36, .int .i64 ((3 - c.parts.toNat : Nat) : Int)), (37, .int .i64 (k : Int))] ∧ m = 3 - c.parts.toNat - k) (3 - c.parts.toNat - 0) ⟨0, _, ⟨Nat.zero_le _, fun j h1 h2 => absurd h2 (by omega)⟩, rfl, ZU, rfl⟩ ?_)))))))
  rintro L f m ⟨k, j, hrel, rfl, rfl, rfl⟩
  have hkl := hrel.1
  refine z6 (z7 ?_)
  by_cases h16 : (k : Int) < ((3 - c.parts.toNat : Nat) : Int)
  · refine zV (p := (k : Int) < ((3 - c.parts.toNat : Nat) : Int)) true (by kernel_rfl) (fun _ => by kernel_rfl) (decide_eq_true (h16)) ?_
    refine ZN (z6 (Zt (ZB (z6 (zI (ZO (zT (.pointer (some ⟨g1, c.parts.toNat + k, none⟩)) (by kernel_rfl) (jZ (b := g1) (off := 0 + (if 3 = c.parts.toNat then 0 else c.parts.toNat * 1)) (n := (3 - c.parts.toNat : Nat)) (c := (3 - c.parts.toNat : Nat)) (k := .i64) (j := (k : Int)) (e := 3) (sz := 1) rfl (by kernel_rfl) (by kernel_rfl) (by kernel_rfl) (by kernel_rfl) (by omega) (by omega) (by rw [if_neg (by omega)]; omega)) (j6 0 ⟨g1, vE c.v, 3⟩ (off := c.parts.toNat + k) (.int .i64 (xR c.v.maj c.v.min c.v.pat (c.parts.toNat + k))) (by kernel_rfl) rfl (by kernel_rfl) (by kernel_rfl) (rd_nums c.v _ (by omega)) ?_))))))))
    refine Zv (.int .i64 (xR c.v.maj c.v.min c.v.pat (c.parts.toNat + k))) (ZR (Zv (.int .i64 (xR c.v.maj c.v.min c.v.pat (c.parts.toNat + k))) ?_))
    by_cases h17 : (xR c.v.maj c.v.min c.v.pat (c.parts.toNat + k) : Int) = 0
    · refine vL (p := (xR c.v.maj c.v.min c.v.pat (c.parts.toNat + k) : Int) = 0) true (by kernel_rfl) (fun _ => by kernel_rfl) (decide_eq_true (h17)) ?_
      exact ZX (x4 (zR (zC (z7 (Zu (k := .i64) (((k + 1 : Nat) : Int)) (IntWalk.i64_in _ (by omega)) (Zv (.int .i64 ((k + 1 : Nat) : Int)) (zN (zU (m' := 3 - c.parts.toNat - (k + 1)) (by omega) ⟨k + 1, _, ⟨by omega, zero_on hrel.2 h17⟩, rfl, ZU, rfl⟩))))))))
    refine Zn (p := (xR c.v.maj c.v.min c.v.pat (c.parts.toNat + k) : Int) = 0) false (decide_eq_false (h17)) (ZY (ZO (Zv (.bool false) (ZN (zA (zD (z8 ?_)))))))
    exact y7 (zD (z8 (ZF (.bool false) Tryz.results73 (fun w hO => ⟨by rw [may_bad (k := k) (by omega) h17], hO.below⟩))))
  refine Zd (p := (k : Int) < ((3 - c.parts.toNat : Nat) : Int)) false (decide_eq_false (h16)) (ZN (z6 (Zf (y5 (zB (zM (zH (zC (z6 (z7 ?_))))))))))
  refine Zv (.pointer (some ⟨b1, 2, none⟩)) (Zl 1 ⟨b1, (coV c).cells, 51⟩ (off := 2) (.agg #[.int .i64 c.v.maj, .int .i64 c.v.min, .int .i64 c.v.pat, .string (mkS c.v.pre), .string (mkS c.v.build)]) (Zc (k := 119) (args := #[.agg #[.int .i64 c.v.maj, .int .i64 c.v.min, .int .i64 c.v.pat, .string (mkS c.v.pre), .string (mkS c.v.build)]]) (.bool c.v.may) (fun w _ => jA c.v w (Nat.lt_of_le_of_lt hc.1 (by decide)) (Nat.lt_of_le_of_lt hc.2 (by decide))) (Zv (.bool c.v.may) ?_)))
  cases h18 : c.v.may with
  | true =>
    refine Zv (.pointer (some ⟨b1, 2, none⟩)) (Zv (.pointer (some ⟨b1, 6, none⟩)) (Zl 1 ⟨b1, (coV c).cells, 51⟩ (off := 6) (.string (mkS c.v.build)) ?_))
    by_cases h19 : (c.v.build : List UInt8) = []
    · refine zT (.bool true) (by kernel_rfl) (yY (a := c.v.build) (b := ([])) rfl (by kernel_rfl) (by kernel_rfl) (decide_eq_true (h19))) ?_
      refine Zv (.bool true) (Zv (.bool true) (Zv (.pointer (some ⟨b1, 2, none⟩)) (Zv (.pointer (some ⟨b1, 5, none⟩)) (Zl 1 ⟨b1, (coV c).cells, 51⟩ (off := 5) (.string (mkS c.v.pre)) ?_))))
      by_cases h20 : (c.v.pre : List UInt8) = []
      · refine zT (.bool true) (by kernel_rfl) (yY (a := c.v.pre) (b := ([])) rfl (by kernel_rfl) (by kernel_rfl) (decide_eq_true (h20))) ?_
        exact Zv (.bool true) (Zk (Zk (Zk (Zv (.bool true) (Zv (.bool true) (Zv (.bool true) (ZN (zA (ZF (.bool true) Tryz.results73 (fun w hO => ⟨by rw [bG ⟨by omega, by omega⟩ (fun _ => by omega) (fun _ => by omega) (fun j q1 q2 => hrel.2 j q1 (by omega))]; simp [h1, h12, h13, h14, h15, h16, h18, h19, h20], hO.below⟩))))))))))
      refine zT (.bool false) (by kernel_rfl) (yY (a := c.v.pre) (b := ([])) rfl (by kernel_rfl) (by kernel_rfl) (decide_eq_false (h20))) (Zv (.bool false) (Zv (.pointer (some ⟨b1, 1, none⟩)) (Zl 1 ⟨b1, (coV c).cells, 51⟩ (off := 1) (.int .i64 c.parts) ?_)))
      by_cases h21 : (c.parts : Int) = 3
      · refine zV (p := (c.parts : Int) = 3) true (by kernel_rfl) (fun _ => by kernel_rfl) (decide_eq_true (h21)) ?_
        exact Zv (.bool true) (Zv (.bool true) (Zv (.bool true) (ZN (zA (ZF (.bool true) Tryz.results73 (fun w hO => ⟨by rw [bG ⟨by omega, by omega⟩ (fun _ => by omega) (fun _ => by omega) (fun j q1 q2 => hrel.2 j q1 (by omega))]; simp [h1, h12, h13, h14, h15, h16, h18, h19, h20, h21], hO.below⟩))))))
      exact Zd (p := (c.parts : Int) = 3) false (decide_eq_false (h21)) (Zv (.bool false) (Zv (.bool false) (Zv (.bool false) (ZN (zA (ZF (.bool false) Tryz.results73 (fun w hO => ⟨by rw [bG ⟨by omega, by omega⟩ (fun _ => by omega) (fun _ => by omega) (fun j q1 q2 => hrel.2 j q1 (by omega))]; simp [h1, h12, h13, h14, h15, h16, h18, h19, h20, h21], hO.below⟩)))))))
    refine zT (.bool false) (by kernel_rfl) (yY (a := c.v.build) (b := ([])) rfl (by kernel_rfl) (by kernel_rfl) (decide_eq_false (h19))) (Zv (.bool false) (Zv (.bool false) (Zk (Zk (Zk (Zk (Zk (Zk (Zk (Zk (Zk ?_)))))))))))
    exact Zv (.bool false) (Zv (.bool false) (ZN (zA (ZF (.bool false) Tryz.results73 (fun w hO => ⟨by rw [bG ⟨by omega, by omega⟩ (fun _ => by omega) (fun _ => by omega) (fun j q1 q2 => hrel.2 j q1 (by omega))]; simp [h1, h12, h13, h14, h15, h16, h18, h19], hO.below⟩)))))
  | false =>
    refine Zk (Zk (Zk (Zk (Zv (.bool false) (Zv (.bool false) (Zk (Zk (Zk (Zk (Zk (Zk ?_)))))))))))
    exact Zk (Zk (Zk (Zv (.bool false) (Zv (.bool false) (ZN (zA (ZF (.bool false) Tryz.results73 (fun w hO => ⟨by rw [bG ⟨by omega, by omega⟩ (fun _ => by omega) (fun _ => by omega) (fun j q1 q2 => hrel.2 j q1 (by omega))]; simp [h1, h12, h13, h14, h15, h16, h18], hO.below⟩))))))))
theorem csign_any (op : Int) (W : World) : Calls Tryz.prog 108 #[.int .i64 op] W fun e w' => e = .returned (.string (mkS (zY op))) ∧ Below W.heap.size W w' := by
  refine zQ (n := 25) Tryz.func108 rfl (by kernel_rfl) (by kernel_rfl) (ZO (Zv (.string ⟨#[]⟩) (ZR (Zv (.string ⟨#[]⟩) (Zv (.string ⟨#[]⟩) (zN (zC ?_)))))))
  refine z6 (ZO (Zv (.int .i64 op) (ZN (zI (z6 (zI (z6 (zI (z6 ?_)))))))))
  refine zI (z6 (zI (z6 (zI (z6 (zI (z6 (zI (z6 (zI (z6 ?_)))))))))))
  refine z6 (z6 (z7 ?_))
  by_cases h1 : (op : Int) = 2
  · refine zV (p := (op : Int) = 2) true (by kernel_rfl) (fun _ => by kernel_rfl) (decide_eq_true (h1)) ?_
    refine Zv (.bool true) (ZY (y5 (zB (zB (zH (zC (z7 (Zv (.string ⟨#[33]⟩) (zN ?_)))))))))
    refine zR (zC (ZO (Zv (.string ⟨#[61]⟩) (ZN (y5 (zG (by decide) (zB (zG (by decide) (zB ?_)))))))))
    refine zG (by decide) (zB (zG (by decide) (zB (zG (by decide) (zB (zG (by decide) (zB (zH (zC (z6 (z7 ?_)))))))))))
    exact Zv (.string ⟨#[33]⟩) (Zv (.string ⟨#[61]⟩) (zT (.string (mkS ([33] ++ [61]))) (by kernel_rfl) (yG (a := [33]) (b := [61]) rfl (by kernel_rfl) (by kernel_rfl) (by decide)) (Zv (.string (mkS ([33] ++ [61]))) (ZN (zA (ZF (.string (mkS ([33] ++ [61]))) Tryz.results108 (fun w hO => ⟨by unfold zY; simp [h1], hO.below⟩)))))))
  refine Zd (p := (op : Int) = 2) false (decide_eq_false (h1)) (Zv (.bool false) (ZX (ZB (z6 (z6 (z7 ?_))))))
  by_cases h2 : (op : Int) = 1
  · refine zV (p := (op : Int) = 1) true (by kernel_rfl) (fun _ => by kernel_rfl) (decide_eq_true (h2)) ?_
    refine Zv (.bool true) (ZY (y5 (zB (zB (zG (by decide) (zB (zH (zC (z6 ?_)))))))))
    refine z7 (Zv (.string ⟨#[61]⟩) (ZN (y5 (zG (by decide) (zB (zG (by decide) (zB (zG (by decide) (zB (zG (by decide) ?_))))))))))
    refine zB (zG (by decide) (zB (zG (by decide) (zB (zH (zC (ZO (Zv (.string ⟨#[]⟩) (Zv (.string ⟨#[61]⟩) (zT (.string (mkS ([] ++ [61]))) (by kernel_rfl) (yG (a := []) (b := [61]) rfl (by kernel_rfl) (by kernel_rfl) (by decide)) ?_))))))))))
    exact Zv (.string (mkS ([] ++ [61]))) (ZN (zA (ZF (.string (mkS ([] ++ [61]))) Tryz.results108 (fun w hO => ⟨by unfold zY; simp [h1, h2], hO.below⟩))))
  refine Zd (p := (op : Int) = 1) false (decide_eq_false (h2)) (Zv (.bool false) (ZX (ZB (z6 (z6 (z7 ?_))))))
  by_cases h3 : (op : Int) = 4
  · refine zV (p := (op : Int) = 4) true (by kernel_rfl) (fun _ => by kernel_rfl) (decide_eq_true (h3)) ?_
    refine Zv (.bool true) (ZY (y5 (zB (zB (zG (by decide) (zB (zG (by decide) (zB (zH ?_)))))))))
    refine zC (z7 (Zv (.string ⟨#[61]⟩) (zN (zR (zC (ZO (Zv (.string ⟨#[60]⟩) (ZN (y5 ?_)))))))))
    refine zG (by decide) (zB (zG (by decide) (zB (zG (by decide) (zB (zG (by decide) (zB (zH (zC (z6 (z7 ?_)))))))))))
    exact Zv (.string ⟨#[60]⟩) (Zv (.string ⟨#[61]⟩) (zT (.string (mkS ([60] ++ [61]))) (by kernel_rfl) (yG (a := [60]) (b := [61]) rfl (by kernel_rfl) (by kernel_rfl) (by decide)) (Zv (.string (mkS ([60] ++ [61]))) (ZN (zA (ZF (.string (mkS ([60] ++ [61]))) Tryz.results108 (fun w hO => ⟨by unfold zY; simp [h1, h2, h3], hO.below⟩)))))))
  refine Zd (p := (op : Int) = 4) false (decide_eq_false (h3)) (Zv (.bool false) (ZX (ZB (z6 (z6 (z7 ?_))))))
  by_cases h4 : (op : Int) = 3
  · refine zV (p := (op : Int) = 3) true (by kernel_rfl) (fun _ => by kernel_rfl) (decide_eq_true (h4)) ?_
    refine Zv (.bool true) (ZY (y5 (zB (zB (zG (by decide) (zB (zG (by decide) (zB (zG (by decide) ?_)))))))))
    refine zB (zH (zC (ZO (Zv (.string ⟨#[60]⟩) (ZN (y5 (zG (by decide) (zB (zG (by decide) ?_)))))))))
    refine zB (zG (by decide) (zB (zG (by decide) (zB (zH (zC (ZO (Zv (.string ⟨#[60]⟩) (Zv (.string ⟨#[]⟩) (zT (.string (mkS ([60] ++ []))) (by kernel_rfl) (yG (a := [60]) (b := []) rfl (by kernel_rfl) (by kernel_rfl) (by decide)) ?_))))))))))
    exact Zv (.string (mkS ([60] ++ []))) (ZN (zA (ZF (.string (mkS ([60] ++ []))) Tryz.results108 (fun w hO => ⟨by unfold zY; simp [h1, h2, h3, h4], hO.below⟩))))
  refine Zd (p := (op : Int) = 3) false (decide_eq_false (h4)) (Zv (.bool false) (ZX (ZB (z6 (z6 (z7 ?_))))))
  by_cases h5 : (op : Int) = 6
  · refine zV (p := (op : Int) = 6) true (by kernel_rfl) (fun _ => by kernel_rfl) (decide_eq_true (h5)) ?_
    refine Zv (.bool true) (ZY (y5 (zB (zB (zG (by decide) (zB (zG (by decide) (zB (zG (by decide) ?_)))))))))
    refine zB (zG (by decide) (zB (zH (zC (z7 (Zv (.string ⟨#[61]⟩) (zN (zR (zC (z6 (z7 ?_)))))))))))
    refine Zv (.string ⟨#[62]⟩) (ZN (y5 (zG (by decide) (zB (zG (by decide) (zB (zH (zC (z6 (z7 ?_))))))))))
    exact Zv (.string ⟨#[62]⟩) (Zv (.string ⟨#[61]⟩) (zT (.string (mkS ([62] ++ [61]))) (by kernel_rfl) (yG (a := [62]) (b := [61]) rfl (by kernel_rfl) (by kernel_rfl) (by decide)) (Zv (.string (mkS ([62] ++ [61]))) (ZN (zA (ZF (.string (mkS ([62] ++ [61]))) Tryz.results108 (fun w hO => ⟨by unfold zY; simp [h1, h2, h3, h4, h5], hO.below⟩)))))))
  refine Zd (p := (op : Int) = 6) false (decide_eq_false (h5)) (Zv (.bool false) (ZX (ZB (z6 (z6 (z7 ?_))))))
  by_cases h6 : (op : Int) = 5
  · refine zV (p := (op : Int) = 5) true (by kernel_rfl) (fun _ => by kernel_rfl) (decide_eq_true (h6)) ?_
    refine Zv (.bool true) (ZY (y5 (zB (zB (zG (by decide) (zB (zG (by decide) (zB (zG (by decide) ?_)))))))))
    refine zB (zG (by decide) (zB (zG (by decide) (zB (zH (zC (ZO (Zv (.string ⟨#[62]⟩) (zN (zC ?_))))))))))
    refine y5 (zG (by decide) (zB (zG (by decide) (zB (zH (zC (ZO (Zv (.string ⟨#[62]⟩) (Zv (.string ⟨#[]⟩) (zT (.string (mkS ([62] ++ []))) (by kernel_rfl) (yG (a := [62]) (b := []) rfl (by kernel_rfl) (by kernel_rfl) (by decide)) ?_))))))))))
    exact Zv (.string (mkS ([62] ++ []))) (ZN (zA (ZF (.string (mkS ([62] ++ []))) Tryz.results108 (fun w hO => ⟨by unfold zY; simp [h1, h2, h3, h4, h5, h6], hO.below⟩))))
  refine Zd (p := (op : Int) = 5) false (decide_eq_false (h6)) (Zv (.bool false) (ZX (ZB (z6 (z6 (z7 ?_))))))
  by_cases h7 : (op : Int) = 7
  · refine zV (p := (op : Int) = 7) true (by kernel_rfl) (fun _ => by kernel_rfl) (decide_eq_true (h7)) ?_
    refine Zv (.bool true) (ZY (y5 (zB (zB (zG (by decide) (zB (zG (by decide) (zB (zG (by decide) ?_)))))))))
    refine zB (zG (by decide) (zB (zG (by decide) (zB (zG (by decide) (zB (zH (zC (ZO (Zv (.string ⟨#[94]⟩) ?_))))))))))
    refine ZN (y5 (zG (by decide) (zB (zH (zC (ZO (Zv (.string ⟨#[94]⟩) (Zv (.string ⟨#[]⟩) (zT (.string (mkS ([94] ++ []))) (by kernel_rfl) (yG (a := [94]) (b := []) rfl (by kernel_rfl) (by kernel_rfl) (by decide)) ?_)))))))))
    exact Zv (.string (mkS ([94] ++ []))) (ZN (zA (ZF (.string (mkS ([94] ++ []))) Tryz.results108 (fun w hO => ⟨by unfold zY; simp [h1, h2, h3, h4, h5, h6, h7], hO.below⟩))))
  refine Zd (p := (op : Int) = 7) false (decide_eq_false (h7)) (Zv (.bool false) (ZX (ZB (z6 (z7 ?_)))))
  by_cases h8 : (op : Int) = 8
  · refine zV (p := (op : Int) = 8) true (by kernel_rfl) (fun _ => by kernel_rfl) (decide_eq_true (h8)) ?_
    refine Zv (.bool true) (ZY (y5 (zB (zG (by decide) (zB (zG (by decide) (zB (zG (by decide) (zB ?_)))))))))
    refine zG (by decide) (zB (zG (by decide) (zB (zG (by decide) (zB (zG (by decide) (zB (zH (zC (z6 (z7 ?_)))))))))))
    refine Zv (.string ⟨#[126]⟩) (ZN (y5 (zH (zC (ZO (Zv (.string ⟨#[126]⟩) (Zv (.string ⟨#[]⟩) (zT (.string (mkS ([126] ++ []))) (by kernel_rfl) (yG (a := [126]) (b := []) rfl (by kernel_rfl) (by kernel_rfl) (by decide)) (Zv (.string (mkS ([126] ++ []))) ?_)))))))))
    exact ZN (zA (ZF (.string (mkS ([126] ++ []))) Tryz.results108 (fun w hO => ⟨by unfold zY; simp [h1, h2, h3, h4, h5, h6, h7, h8], hO.below⟩)))
  refine Zd (p := (op : Int) = 8) false (decide_eq_false (h8)) (Zv (.bool false) (ZX (ZB (y5 (zG (by decide) (zB (zG (by decide) (zB ?_))))))))
  refine zG (by decide) (zB (zG (by decide) (zB (zG (by decide) (zB (zG (by decide) (zB (zG (by decide) (zB (zG (by decide) (zB ?_)))))))))))
  refine zH (zC (ZO (Zv (.string ⟨#[]⟩) (Zv (.string ⟨#[]⟩) (zT (.string (mkS ([] ++ []))) (by kernel_rfl) (yG (a := []) (b := []) rfl (by kernel_rfl) (by kernel_rfl) (by decide)) (Zv (.string (mkS ([] ++ []))) (ZN (zA (ZF (.string (mkS ([] ++ []))) Tryz.results108 ?_)))))))))
  exact fun w hO => ⟨by unfold zY; simp [h1, h2, h3, h4, h5, h6, h7, h8], hO.below⟩
theorem clead_any (c : Co) (W : World) (hc : c.short) (hp : 0 ≤ c.parts ∧ c.parts ≤ 3) : Calls Tryz.prog 176 #[coV c] W fun e w' => e = .returned (.int .i64 (qW c)) ∧ Below W.heap.size W w' := by
  refine zQ (n := 21) Tryz.func176 rfl (by kernel_rfl) (by kernel_rfl) (ZO (Zb (coV c) (fun b1 => Zv (.int .i64 0) (ZN (z6 (ZO (Zv (.pointer (some ⟨b1, 2, none⟩)) (Zl 0 ⟨b1, (coV c).cells, 51⟩ (off := 2) (.agg #[.int .i64 c.v.maj, .int .i64 c.v.min, .int .i64 c.v.pat, .string (mkS c.v.pre), .string (mkS c.v.build)]) ?_))))))))
  refine yH (k := 111) (args := #[yF c.v]) (fun v' L' => ∃ g, v' = .slice (some ⟨g, 0, none⟩) 3 3 ∧ L' = ⟨g, vE c.v, 3⟩ :: [⟨b1, (coV c).cells, 51⟩]) (by kernel_rfl) (fun _ => by kernel_rfl) (fun w hO => (mR c.v w).mono fun e w' ⟨v', ob', k1, ⟨g, k2, k4⟩, k3⟩ => ⟨v', _, k1, ⟨g, k2, rfl⟩, by subst k4; exact Own.joinN hO k3⟩) (fun v1 L1 hv1 => ?_)
  obtain ⟨g1, rfl, rfl⟩ := hv1
  refine Zv (.int .i64 (3 : Int)) (Zv (.int .i64 0) (ZN (zI (yT (fun L f m => ∃ (k : Nat) (j : Nat → Value), (k ≤ 3 ∧ ∀ j, j < k → xR c.v.maj c.v.min c.v.pat j = 0) ∧ L = [⟨g1, vE c.v, 3⟩, ⟨b1, (coV c).cells, 51⟩] ∧ f = kE j [(1, .pointer (some ⟨b1, 0, none⟩)), (7, .slice (some ⟨g1, 0, none⟩) 3 3), (8, .int .i64 3), (9, .int .i64 (k : Int))] ∧ m = 3 - k) (3 - 0) ⟨0, _, ⟨Nat.zero_le _, fun j h2 => absurd h2 (Nat.not_lt_zero _)⟩, rfl, ZU, rfl⟩ ?_))))
  rintro L f m ⟨k, j, hrel, rfl, rfl, rfl⟩
  have hkl := hrel.1
  refine z6 (z7 ?_)
  by_cases h1 : (k : Int) < 3
  · refine zV (p := (k : Int) < 3) true (by kernel_rfl) (fun _ => by kernel_rfl) (decide_eq_true (h1)) ?_
    refine ZN (z6 (Zt (ZB (z6 (zI (ZO (Zv (.int .i64 (k : Int)) (zT (.pointer (some ⟨g1, 0 + k, none⟩)) (by kernel_rfl) (ZV (b := g1) (off := 0) (n := 3) (c := 3) (k := .i64) (j := (k : Int)) (e := 3) (sz := 1)) ?_))))))))
    refine j6 0 ⟨g1, vE c.v, 3⟩ (off := 0 + k) (.int .i64 (xR c.v.maj c.v.min c.v.pat k)) (by kernel_rfl) rfl (by kernel_rfl) (by kernel_rfl) (by rw [Nat.zero_add]; exact rd_nums c.v k (by omega)) (Zv (.int .i64 (k : Int)) (Zv (.int .i64 (xR c.v.maj c.v.min c.v.pat k)) (ZR (Zv (.int .i64 (xR c.v.maj c.v.min c.v.pat k)) ?_))))
    by_cases h2 : (xR c.v.maj c.v.min c.v.pat k : Int) = 0
    · refine vL (p := (xR c.v.maj c.v.min c.v.pat k : Int) = 0) true (by kernel_rfl) (fun _ => by kernel_rfl) (decide_eq_true (h2)) ?_
      exact ZX (x4 (zR (zC (z7 (Zu (k := .i64) (((k + 1 : Nat) : Int)) (IntWalk.i64_in _ (by omega)) (Zv (.int .i64 ((k + 1 : Nat) : Int)) (zN (zU (m' := 3 - (k + 1)) (by omega) ⟨k + 1, _, ⟨by omega, zero_on0 hrel.2 h2⟩, rfl, ZU, rfl⟩))))))))
    refine Zn (p := (xR c.v.maj c.v.min c.v.pat k : Int) = 0) false (decide_eq_false (h2)) (ZY (ZO (Zv (.int .i64 (k : Int)) (Zv (.int .i64 (k : Int)) (ZN (zA (zD ?_)))))))
    exact z8 (y7 (zD (z8 (ZF (.int .i64 (k : Int)) Tryz.results176 (fun w hO => ⟨by rw [lead_at (by omega) hrel.2 h2], hO.below⟩)))))
  refine Zd (p := (k : Int) < 3) false (decide_eq_false (h1)) (ZN (z6 (Zf (y5 (zB (zM (zH (zC (z6 (z7 ?_))))))))))
  exact Zv (.pointer (some ⟨b1, 1, none⟩)) (Zl 1 ⟨b1, (coV c).cells, 51⟩ (off := 1) (.int .i64 c.parts) (Zu (k := .i64) ((c.parts : Int) - 1) (IntWalk.i64_in _ (by omega)) (Zv (.int .i64 ((c.parts : Int) - 1)) (ZN (zA (ZF (.int .i64 ((c.parts : Int) - 1)) Tryz.results176 (fun w hO => ⟨by rw [lead_end (fun j q2 => hrel.2 j (by omega))], hO.below⟩)))))))
theorem chigh_any (v : Ver) (z0 : Int) (W : World) (hv : v.short) (hz : -1 ≤ z0 ∧ z0 ≤ 2) : Calls Tryz.prog 175 #[yF v, .int .i64 z0] W fun e w' => e = .returned (zF (uA v z0)) ∧ Below W.heap.size W w' := by
  refine zQ (n := 21) Tryz.func175 rfl (by kernel_rfl) (by kernel_rfl) (ZO (Zb (yF v) (fun b1 => Za (.agg #[.int .i64 0, .int .i64 0, .int .i64 0, .int .i64 0, .string ⟨#[]⟩, .string ⟨#[]⟩, .bool false]) (fun b2 => ZN (z6 (zI (yT (fun L f m => ∃ (z : Int) (j : Nat → Value), (-1 ≤ z ∧ z ≤ 2 ∧ uA v z0 = uA v z) ∧ L = [⟨b2, #[.int .i64 0, .int .i64 0, .int .i64 0, .int .i64 0, .string ⟨#[]⟩, .string ⟨#[]⟩, .bool false], 78⟩, ⟨b1, (yF v).cells, 44⟩] ∧ f = kE j [(1, .int .i64 z), (2, .pointer (some ⟨b1, 0, none⟩)), (4, .pointer (some ⟨b2, 0, none⟩))] ∧ m = (z + 1).toNat) ((z0 + 1).toNat) ⟨z0, _, ⟨hz.1, hz.2, rfl⟩, rfl, ZU, rfl⟩ ?_)))))))
  rintro L f m ⟨z, j, hrel, rfl, rfl, rfl⟩
  refine z6 (ZO (Zv (.int .i64 z) ?_))
  by_cases h1 : (0 : Int) ≤ z
  · refine zV (p := (0 : Int) ≤ z) true (by kernel_rfl) (fun _ => by kernel_rfl) (decide_eq_true (h1)) ?_
    refine ZY (ZB (z6 (zI (ZO (Zl 1 ⟨b1, (yF v).cells, 44⟩ (off := 0) (yF v) (Zv (.int .i64 z) (Zc (k := 203) (args := #[yF v, .int .i64 z]) (.tuple #[yF (yW v z), .bool (yD v z)]) (fun w _ => bump_any v z w hv.1 hv.2) ?_)))))))
    refine Zv (.tuple #[yF (yW v z), .bool (yD v z)]) (Zv (yF (yW v z)) (Zv (.bool (yD v z)) (Za (.agg #[.int .i64 0, .int .i64 0, .int .i64 0, .string ⟨#[]⟩, .string ⟨#[]⟩]) (fun b3 => Zs 0 ⟨b3, #[.int .i64 0, .int .i64 0, .int .i64 0, .string ⟨#[]⟩, .string ⟨#[]⟩], 44⟩ (off := 0) (yF (yW v z)) (Zv (.bool (yD v z)) (ZR (Zv (.bool (yD v z)) (zN ?_))))))))
    refine zC ?_
    cases h2 : yD v z with
    | true =>
      refine Zt (ZO (Zl 0 ⟨b3, (yF (yW v z)).cells, 44⟩ (off := 0) (yF (yW v z)) (Zv (.agg #[.int .i64 0, .int .i64 ((yW v z).maj), .int .i64 ((yW v z).min), .int .i64 ((yW v z).pat), .string (mkS (yW v z).pre), .string (mkS (yW v z).build), .bool false]) (Zs 1 ⟨b2, #[.int .i64 0, .int .i64 0, .int .i64 0, .int .i64 0, .string ⟨#[]⟩, .string ⟨#[]⟩, .bool false], 78⟩ (off := 0) (.agg #[.int .i64 0, .int .i64 ((yW v z).maj), .int .i64 ((yW v z).min), .int .i64 ((yW v z).pat), .string (mkS (yW v z).pre), .string (mkS (yW v z).build), .bool false]) (ZN (zA (zD (z8 (y7 ?_)))))))))
      exact zD (z8 (ZC 1 ⟨b2, #[.int .i64 0, .int .i64 ((yW v z).maj), .int .i64 ((yW v z).min), .int .i64 ((yW v z).pat), .string (mkS (yW v z).pre), .string (mkS (yW v z).build), .bool false], 78⟩ (off := 0) (.agg #[.int .i64 0, .int .i64 ((yW v z).maj), .int .i64 ((yW v z).min), .int .i64 ((yW v z).pat), .string (mkS (yW v z).pre), .string (mkS (yW v z).build), .bool false]) Tryz.results175 (fun w hO => ⟨by rw [hrel.2.2, highZ_hit (by omega) (by assumption)]; rfl, hO.below⟩)))
    | false =>
      exact Zf (x4 (zR (zC (z7 (Zv (.int .i64 z) (Zu (k := .i64) ((z : Int) - 1) (IntWalk.i64_in _ (by omega)) (Zv (.int .i64 ((z : Int) - 1)) (zN (xS (fun w hO => Own.sub [_] hO) (zU (m' := (z - 1 + 1).toNat) (by omega) ⟨z - 1, _, ⟨by omega, by omega, by rw [hrel.2.2, highZ_next (by omega) (by assumption)]⟩, rfl, ZU, rfl⟩))))))))))
  refine Zd (p := (0 : Int) ≤ z) false (decide_eq_false (h1)) (ZX (y5 (zB (zM (zH (zC (ZO (Zv (.agg #[.int .i64 1, .int .i64 0, .int .i64 0, .int .i64 0, .string ⟨#[]⟩, .string ⟨#[]⟩, .bool false]) ?_))))))))
  exact Zs 0 ⟨b2, #[.int .i64 0, .int .i64 0, .int .i64 0, .int .i64 0, .string ⟨#[]⟩, .string ⟨#[]⟩, .bool false], 78⟩ (off := 0) (.agg #[.int .i64 1, .int .i64 0, .int .i64 0, .int .i64 0, .string ⟨#[]⟩, .string ⟨#[]⟩, .bool false]) (ZN (zA (ZC 0 ⟨b2, #[.int .i64 1, .int .i64 0, .int .i64 0, .int .i64 0, .string ⟨#[]⟩, .string ⟨#[]⟩, .bool false], 78⟩ (off := 0) (.agg #[.int .i64 1, .int .i64 0, .int .i64 0, .int .i64 0, .string ⟨#[]⟩, .string ⟨#[]⟩, .bool false]) Tryz.results175 (fun w hO => ⟨by rw [hrel.2.2]; unfold uA; rw [if_pos (by omega)]; rfl, hO.below⟩))))
theorem beh_high {c : Co} (hp : 0 ≤ c.parts ∧ c.parts ≤ 3) (h : ¬ c.parts = 3) : kT c = uA c.v (c.parts - 1) := by
  unfold kT uA
  rw [if_neg h]
  by_cases h0 : c.parts = 0
  · rw [if_pos h0, if_pos (by omega)]
  · rw [if_neg h0, if_neg (by omega)]
theorem uD (c : Co) (W : World) (hc : c.short) (hp : 0 ≤ c.parts ∧ c.parts ≤ 3) : Calls Tryz.prog 174 #[coV c] W fun e w' => e = .returned (zF (kT c)) ∧ Below W.heap.size W w' := by
  refine zQ (n := 15) Tryz.func174 rfl (by kernel_rfl) (by kernel_rfl) (ZO (Zb (coV c) (fun b1 => Za (.agg #[.int .i64 0, .int .i64 0, .int .i64 0, .int .i64 0, .string ⟨#[]⟩, .string ⟨#[]⟩, .bool false]) (fun b2 => ZN (z6 (ZO (Zv (.pointer (some ⟨b1, 1, none⟩)) (Zl 1 ⟨b1, (coV c).cells, 51⟩ (off := 1) (.int .i64 c.parts) ?_))))))))
  by_cases h1 : (c.parts : Int) = 3
  · refine zV (p := (c.parts : Int) = 3) true (by kernel_rfl) (fun _ => by kernel_rfl) (decide_eq_true (h1)) ?_
    refine ZY (ZO (Zv (.pointer (some ⟨b1, 2, none⟩)) (Zl 1 ⟨b1, (coV c).cells, 51⟩ (off := 2) (.agg #[.int .i64 c.v.maj, .int .i64 c.v.min, .int .i64 c.v.pat, .string (mkS c.v.pre), .string (mkS c.v.build)]) (Zv (.agg #[.int .i64 0, .int .i64 c.v.maj, .int .i64 c.v.min, .int .i64 c.v.pat, .string (mkS c.v.pre), .string (mkS c.v.build), .bool true]) (Zs 0 ⟨b2, #[.int .i64 0, .int .i64 0, .int .i64 0, .int .i64 0, .string ⟨#[]⟩, .string ⟨#[]⟩, .bool false], 78⟩ (off := 0) (.agg #[.int .i64 0, .int .i64 c.v.maj, .int .i64 c.v.min, .int .i64 c.v.pat, .string (mkS c.v.pre), .string (mkS c.v.build), .bool true]) (ZN (zA ?_)))))))
    exact z8 (ZC 0 ⟨b2, #[.int .i64 0, .int .i64 c.v.maj, .int .i64 c.v.min, .int .i64 c.v.pat, .string (mkS c.v.pre), .string (mkS c.v.build), .bool true], 78⟩ (off := 0) (.agg #[.int .i64 0, .int .i64 c.v.maj, .int .i64 c.v.min, .int .i64 c.v.pat, .string (mkS c.v.pre), .string (mkS c.v.build), .bool true]) Tryz.results174 (fun w hO => ⟨by rw [show kT c = ⟨0, c.v, true⟩ from if_pos h1]; rfl, hO.below⟩))
  refine Zd (p := (c.parts : Int) = 3) false (decide_eq_false (h1)) (ZX (ZB (ZO (Zv (.pointer (some ⟨b1, 2, none⟩)) (Zl 1 ⟨b1, (coV c).cells, 51⟩ (off := 2) (.agg #[.int .i64 c.v.maj, .int .i64 c.v.min, .int .i64 c.v.pat, .string (mkS c.v.pre), .string (mkS c.v.build)]) (Zv (.pointer (some ⟨b1, 1, none⟩)) (Zl 1 ⟨b1, (coV c).cells, 51⟩ (off := 1) (.int .i64 c.parts) ?_)))))))
  exact Zu (k := .i64) ((c.parts : Int) - 1) (IntWalk.i64_in _ (by omega)) (Zc (k := 175) (args := #[.agg #[.int .i64 c.v.maj, .int .i64 c.v.min, .int .i64 c.v.pat, .string (mkS c.v.pre), .string (mkS c.v.build)], .int .i64 ((c.parts : Int) - 1)]) (zF (uA c.v (c.parts - 1))) (fun w _ => chigh_any c.v (c.parts - 1) w hc (by omega)) (Zs 0 ⟨b2, #[.int .i64 0, .int .i64 0, .int .i64 0, .int .i64 0, .string ⟨#[]⟩, .string ⟨#[]⟩, .bool false], 78⟩ (off := 0) (zF (uA c.v (c.parts - 1))) (ZN (zA (ZC 0 ⟨b2, (zF (uA c.v (c.parts - 1))).cells, 78⟩ (off := 0) (zF (uA c.v (c.parts - 1))) Tryz.results174 (fun w hO => ⟨by rw [beh_high hp h1], hO.below⟩))))))
end
section
def cpL (s t : List UInt8) : List UInt8 := if xJ s t = true then s.drop t.length else s
theorem n7 : ∀ (t s : List UInt8), t.isPrefixOf s = xJ s t
  | [], s => by simp [xJ]
  | a :: t, [] => by simp [xJ, List.isPrefixOf]
  | a :: t, b :: s => by
    have ih := n7 t s
    unfold xJ at ih ⊢
    rw [List.isPrefixOf, ih, List.length_cons, List.take_succ_cons]
    by_cases h : a = b
    · subst h; simp
    · simp [h, Ne.symm h]
theorem cutpre_any (s t : List UInt8) (w : World) : Calls Tryz.prog 107 #[.string (mkS s), .string (mkS t)] w fun e w' => e = .returned (.tuple #[.string (mkS (cpL s t)), .bool (xJ s t)]) ∧ Below w.heap.size w w' :=
  (Tryz.strings_CutPrefix (mkS s) (mkS t) w).mono fun e w' ⟨he, hw⟩ => by
    subst hw
    refine ⟨?_, Below.refl _ _⟩
    rw [he, mk_data, mk_data]
    unfold Lib.trimPrefix Lib.hasPrefix cpL
    rw [n7]; rfl
theorem splitK_pcs : ∀ (k : Nat) (s : List UInt8), Lib.splitK [46] 0 k s = u6 k s
  | 0, s => rfl
  | k + 1, s => by
    have hc := cutAt_cut 46 s
    have hge := Lib.index_ge s [46]
    unfold Lib.splitK u6
    rw [← hc]
    unfold Lib.cut
    by_cases h : Lib.index s [46] = -1
    · have h2 : ¬ 0 ≤ Lib.index s [46] := by omega
      simp [h]
    · have h2 : 0 ≤ Lib.index s [46] := by omega
      simp [h, h2, splitK_pcs k]
theorem mH : ∀ (k : Nat) (s : List UInt8), s.length ≤ k → u6 k s = u6 (k + 1) s
  | 0, s, h => by
    obtain rfl := List.eq_nil_of_length_eq_zero (Nat.le_zero.1 h)
    rfl
  | k + 1, s, h => by
    have hl := cutAt_len 46 s
    rw [u6]
    conv => rhs; rw [u6]
    cases hq : (yB 46 s).2.2 with
    | false => rw [if_neg Bool.false_ne_true, if_neg Bool.false_ne_true]
    | true =>
      rw [hq, if_pos rfl] at hl
      rw [if_pos rfl, if_pos rfl, mH k _ (by omega)]
theorem pcsK_min (s : List UInt8) : u6 (min 3 (s.length + 1) - 1) s = u6 2 s := by
  by_cases h0 : s.length = 0
  · rw [h0, show min 3 (0 + 1) - 1 = 0 from rfl, mH 0 s (by omega), mH 1 s (by omega)]
  · by_cases h1 : s.length = 1
    · rw [h1, show min 3 (1 + 1) - 1 = 1 from rfl, mH 1 s (by omega)]
    · rw [show min 3 (s.length + 1) - 1 = 2 by omega]
theorem splitB_pcs (k : Nat) (s : List UInt8) : Lib.splitB ⟨#[46]⟩ 0 k (mkS s) = (u6 k s).map mkS := by
  have h := Lib.splitB_data ⟨#[46]⟩ 0 k (mkS s)
  rw [mk_data, show (⟨#[46]⟩ : ByteArray).data.toList = [46] from rfl, splitK_pcs] at h
  rw [← h, List.map_map]
  refine ((List.map_congr_left fun x _ => ?_).trans (List.map_id _)).symm
  exact Lib.mk_data x
theorem split3_any (s : List UInt8) (W : World) (hs : s.length ≤ 1000000) :
    Calls Tryz.prog 59 #[.string (mkS s), .string ⟨#[46]⟩, .int .i64 0, .int .i64 3] W fun e w' => ∃ v' ob', e = .returned v' ∧ SlT v' (u6 2 s) ob' ∧ Own [] W w' ob' := by
  have hsz := xA s
  have hI : ∀ (x : ByteArray) (c : Array Value), x.size ≤ (mkS s).size → Calls Tryz.prog 106 #[.string x, .string ⟨#[46]⟩] (W.alloc (.cells c 9)) fun e w' => e = .returned (.int .i64 (Lib.indexB x ⟨#[46]⟩)) ∧ w' = W.alloc (.cells c 9) :=
    fun x c _ => (Tryz.strings_Index_one x 46 _).mono fun e w' ⟨he, hw⟩ => ⟨by rw [he, bH]; try rfl, hw⟩
  have hC : Calls Tryz.prog 105 #[.string (mkS s), .string ⟨#[46]⟩] W fun e w' => e = .returned (.int .i64 (Lib.countB (mkS s) ⟨#[46]⟩)) ∧ w' = W :=
    (Tryz.strings_Count_one (mkS s) 46 W).mono fun e w' ⟨he, hw⟩ => ⟨by rw [he]; show _ = Ending.returned (Value.int .i64 ((Lib.count (mkS s).data.toList [46] : Nat) : Int)); rw [Lib.count_one]; rfl, hw⟩
  have c := Any.strings_genSplit_core Tryz.lays221 (by kernel_rfl) (mkS s) ⟨#[46]⟩ 0 3 (min 3 ((mkS s).size + 1)) W (by omega) (by decide) (Nat.zero_le _) hI hC (by decide) (by decide) (by rw [if_neg (by decide)]; omega)
  rw [hsz, splitB_pcs, pcsK_min] at c
  obtain ⟨hl1, hl3⟩ := pcsK_len 2 s
  have hle : (u6 2 s).length ≤ min 3 (s.length + 1) := by
    have h := Lib.splitB_length_le ⟨#[46]⟩ 0 (min 3 (s.length + 1) - 1) (mkS s)
    rw [splitB_pcs, pcsK_min, List.length_map] at h
    omega
  rw [List.length_map] at c
  refine Calls.mono c fun e w' ⟨he, hw⟩ => ?_
  subst hw
  refine ⟨_, _, he, ⟨by rw [vQ]; omega, .inr ⟨W.heap.size, min 3 (s.length + 1), _, rfl, rfl, hle, by unfold maxLen; omega, by rw [Lib.cellsOf_size (by rw [List.length_map]; exact hle), Nat.mul_one], ?_⟩⟩, (Own.start [] W).alloc _ _⟩
  unfold Lib.cellsOf
  rw [List.map_map, List.take_append_of_le_length (by rw [List.length_map]; omega), List.take_of_length_le (by rw [List.length_map]; omega)]
  rfl
end
section
theorem splitn_any (s : List UInt8) (W : World) (hs : s.length ≤ 1000000) : Calls Tryz.prog 62 #[.string (mkS s), .string ⟨#[46]⟩, .int .i64 3] W fun e w' => ∃ v' ob', e = .returned v' ∧ SlT v' (u6 2 s) ob' ∧ Own [] W w' ob' := by
  refine zQ (n := 11) Tryz.func62 rfl (by kernel_rfl) (by kernel_rfl) (ZO (Zv (.slice none 0 0) (ZR (Zv (.string (mkS s)) (Zv (.string ⟨#[46]⟩) (Zv (.int .i64 3) (yH (k := 59) (args := #[.string (mkS s), .string ⟨#[46]⟩, .int .i64 0, .int .i64 3]) (fun v' L' => SlT v' (u6 2 s) L') (by kernel_rfl) (fun _ => by kernel_rfl) (fun w hO => (split3_any s w hs).mono fun e w' ⟨v', ob', k1, k2, k3⟩ => ⟨v', ob', k1, k2, by simpa using Own.joinN hO k3⟩) (fun v1 o1 hr1 => ?_))))))))
  exact Zv (v1) (ZN (zA (ZF (v1) Tryz.results62 (fun w hO => ⟨v1, o1, rfl, hr1, hO⟩))))
theorem sgo_take {s r : List UInt8} {k : Nat} {op : Int} (h : sgo s k = (op, r)) (hb : xJ s (zY ((k + 1 : Nat) : Int)) = true) (hl : ((mkS (cpL s (zY ((k + 1 : Nat) : Int)))).size : Int) < ((mkS r).size : Int)) : sgo s (k + 1) = (((k + 1 : Nat) : Int), cpL s (zY ((k + 1 : Nat) : Int))) := by
  rw [xA, xA] at hl
  unfold cpL at hl ⊢
  rw [if_pos hb] at hl ⊢
  unfold sgo
  rw [h, if_pos ⟨hb, by show _ < r.length; omega⟩]
theorem sgo_not {s r : List UInt8} {k : Nat} {op : Int} (h : sgo s k = (op, r)) (hb : xJ s (zY ((k + 1 : Nat) : Int)) = false) : sgo s (k + 1) = (op, r) := by
  unfold sgo
  rw [h, if_neg (fun q => by rw [hb] at q; exact Bool.false_ne_true q.1)]
theorem sgo_long {s r : List UInt8} {k : Nat} {op : Int} (h : sgo s k = (op, r)) (hb : xJ s (zY ((k + 1 : Nat) : Int)) = true) (hl : ¬ ((mkS (cpL s (zY ((k + 1 : Nat) : Int)))).size : Int) < ((mkS r).size : Int)) : sgo s (k + 1) = (op, r) := by
  rw [xA, xA] at hl
  unfold cpL at hl
  rw [if_pos hb] at hl
  unfold sgo
  rw [h, if_neg (fun q => hl (by have q2 : _ < r.length := q.2; omega))]
theorem ccut_any (s : List UInt8) (W : World) (hs : s.length ≤ 1000000) : Calls Tryz.prog 60 #[.string (mkS s)] W fun e w' => e = .returned (.tuple #[.int .i64 (sgo s 8).1, .string (mkS (sgo s 8).2)]) ∧ Below W.heap.size W w' := by
  refine zQ (n := 33) Tryz.func60 rfl (by kernel_rfl) (by kernel_rfl) (ZO (Zv (.int .i64 0) (Zv (.string ⟨#[]⟩) (ZR (Zv (.string (mkS s)) (Zv (.int .i64 7) (Zv (.string (mkS s)) ?_)))))))
  refine ZN (z6 (ZO (Zv (.int .i64 1) (ZN (zI (yT (fun L f m => ∃ (k : Nat) (op : Int) (r : List UInt8) (j : Nat → Value), (k ≤ 8 ∧ sgo s k = (op, r)) ∧ L = [] ∧ f = kE j [(0, .string (mkS s)), (4, .int .i64 op), (5, .string (mkS r)), (6, .int .i64 ((k + 1 : Nat) : Int))] ∧ m = 8 - k) (8 - 0) ⟨0, _, _, _, ⟨by omega, rfl⟩, rfl, ZU, rfl⟩ ?_))))))
  rintro L f m ⟨k, op, r, j, hrel, rfl, rfl, rfl⟩
  have hkl := hrel.1
  refine z6 (ZO (Zv (.int .i64 ((k + 1 : Nat) : Int)) ?_))
  by_cases h1 : ((k + 1 : Nat) : Int) < 9
  · refine zV (p := ((k + 1 : Nat) : Int) < 9) true (by kernel_rfl) (fun _ => by kernel_rfl) (decide_eq_true (h1)) ?_
    refine ZY (ZB (z6 (zI (ZO (Zv (.string (mkS s)) (Zv (.int .i64 ((k + 1 : Nat) : Int)) (Zc (k := 108) (args := #[.int .i64 ((k + 1 : Nat) : Int)]) (.string (mkS (zY ((k + 1 : Nat) : Int)))) (fun w _ => csign_any _ w) ?_)))))))
    refine Zc (k := 107) (args := #[.string (mkS s), .string (mkS (zY ((k + 1 : Nat) : Int)))]) (.tuple #[.string (mkS (cpL s (zY ((k + 1 : Nat) : Int)))), .bool (xJ s (zY ((k + 1 : Nat) : Int)))]) (fun w _ => cutpre_any s (zY ((k + 1 : Nat) : Int)) w) (Zv (.tuple #[.string (mkS (cpL s (zY ((k + 1 : Nat) : Int)))), .bool (xJ s (zY ((k + 1 : Nat) : Int)))]) (Zv (.string (mkS (cpL s (zY ((k + 1 : Nat) : Int))))) (Zv (.bool (xJ s (zY ((k + 1 : Nat) : Int)))) (Zv (.string (mkS (cpL s (zY ((k + 1 : Nat) : Int))))) (Zv (.bool (xJ s (zY ((k + 1 : Nat) : Int)))) (ZR (Zv (.bool (xJ s (zY ((k + 1 : Nat) : Int)))) (Zv (.bool (xJ s (zY ((k + 1 : Nat) : Int)))) ?_))))))))
    cases h2 : xJ s (zY ((k + 1 : Nat) : Int)) with
    | true =>
      refine Zv (.string (mkS (cpL s (zY ((k + 1 : Nat) : Int))))) (Zv (.int .i64 ((mkS (cpL s (zY ((k + 1 : Nat) : Int)))).size)) (Zv (.string (mkS r)) (Zv (.int .i64 ((mkS r).size)) ?_)))
      by_cases h3 : ((mkS (cpL s (zY ((k + 1 : Nat) : Int)))).size : Int) < (mkS r).size
      · refine zV (p := ((mkS (cpL s (zY ((k + 1 : Nat) : Int)))).size : Int) < (mkS r).size) true (by kernel_rfl) (fun _ => by kernel_rfl) (decide_eq_true (h3)) ?_
        refine Zv (.bool true) (ZY (z7 (Zv (.int .i64 ((k + 1 : Nat) : Int)) (Zv (.string (mkS (cpL s (zY ((k + 1 : Nat) : Int))))) (Zv (.int .i64 ((k + 1 : Nat) : Int)) (Zv (.string (mkS (cpL s (zY ((k + 1 : Nat) : Int))))) (zN (zR (zC ?_)))))))))
        exact z7 (Zv (.int .i64 ((k + 1 : Nat) : Int)) (Zu (k := .i64) (((k + 1 + 1 : Nat) : Int)) (IntWalk.i64_in _ (by omega)) (Zv (.int .i64 ((k + 1 + 1 : Nat) : Int)) (zN (zU (m' := 8 - (k + 1)) (by omega) ⟨k + 1, ((k + 1 : Nat) : Int), cpL s (zY ((k + 1 : Nat) : Int)), _, ⟨by omega, sgo_take hrel.2 h2 h3⟩, rfl, ZU, rfl⟩)))))
      refine Zd (p := ((mkS (cpL s (zY ((k + 1 : Nat) : Int)))).size : Int) < (mkS r).size) false (decide_eq_false (h3)) (Zv (.bool false) (ZX (x4 (zR (zC (z7 (Zv (.int .i64 ((k + 1 : Nat) : Int)) (Zu (k := .i64) (((k + 1 + 1 : Nat) : Int)) (IntWalk.i64_in _ (by omega)) (Zv (.int .i64 ((k + 1 + 1 : Nat) : Int)) ?_)))))))))
      exact zN (zU (m' := 8 - (k + 1)) (by omega) ⟨k + 1, op, r, _, ⟨by omega, sgo_long hrel.2 h2 h3⟩, rfl, ZU, rfl⟩)
    | false =>
      refine Zk (Zk (Zk (Zk (Zk (Zv (.bool false) (ZX (x4 (zR (zC ?_)))))))))
      exact z7 (Zv (.int .i64 ((k + 1 : Nat) : Int)) (Zu (k := .i64) (((k + 1 + 1 : Nat) : Int)) (IntWalk.i64_in _ (by omega)) (Zv (.int .i64 ((k + 1 + 1 : Nat) : Int)) (zN (zU (m' := 8 - (k + 1)) (by omega) ⟨k + 1, op, r, _, ⟨by omega, sgo_not hrel.2 h2⟩, rfl, ZU, rfl⟩)))))
  refine Zd (p := ((k + 1 : Nat) : Int) < 9) false (decide_eq_false (h1)) (ZX (y5 (zB (zM (zH (zC (ZO (Zv (.int .i64 op) ?_))))))))
  exact Zv (.string (mkS r)) (Zv (.int .i64 op) (Zv (.string (mkS r)) (ZN (zA (fin_ret2 (.int .i64 op) (.string (mkS r)) Tryz.results60 (by kernel_rfl) (by kernel_rfl) (fun w hO => ⟨by have hk8 : k = 8 := (by omega); subst hk8; rw [hrel.2], hO.below⟩))))))
theorem nth_ok {v : Ver} (h : v.may = true) {k : Nat} (hk : k < 3) : yC (xR v.maj v.min v.pat k) = true := by
  obtain ⟨m1, m2, m3⟩ := qE h
  have hj : k = 0 ∨ k = 1 ∨ k = 2 := by omega
  rcases hj with rfl | rfl | rfl
  · exact m1
  · exact m2
  · exact m3
theorem nth_in {v : Ver} (h : v.may = true) {k : Nat} (hk : k < 3) : -9223372036854775808 ≤ xR v.maj v.min v.pat k ∧ xR v.maj v.min v.pat k ≤ 9223372036854775807 := by
  have q := nth_ok h hk
  unfold yC at q; simp at q; omega
theorem nums_next (v : Ver) {k : Nat} (hk : k < 3) : y9 v (k + 1) = y9 v k ++ [Lib.itoa (xR v.maj v.min v.pat k)] := by
  have hj : k = 0 ∨ k = 1 ∨ k = 2 := by omega
  rcases hj with rfl | rfl | rfl <;> rfl
theorem own_dropP {M : List Nat} {W w : World} {x y z : Blk} {A : List Blk} (h : Own M W w ([x, y, z] ++ A ++ [])) : Own M W w (y :: z :: A) := h.sublist (by rw [List.append_nil]; exact List.sublist_append_right [x] _)
theorem star_ne {l : List (List UInt8)} : zW 46 (l ++ [[42]]) ≠ [] := fun e => by
  have h := last_join [] l
  rw [show ([] : List UInt8) ++ [42] = [42] from rfl, e] at h
  cases h
theorem nums_ne {c : Co} (h : c.may = true) (hn : ¬ c.op = 9) : zW 46 (y9 c.v c.parts.toNat) ≠ [] := fun e => by
  obtain ⟨d, r, e2, hd⟩ := bY h hn
  unfold Co.rest at e2
  rw [if_neg hn, e, List.nil_append] at e2
  unfold wR at e2
  split at e2
  · cases e2
  · injection e2 with e3 _
    rw [← e3] at hd
    revert hd; decide
theorem text_pre2 {c : Co} (h9 : ¬ c.op = 9) (hp : ¬ c.v.pre = []) : zY c.op ++ zW 46 (y9 c.v c.parts.toNat) ++ ([45] ++ c.v.pre) = c.text := by
  rw [← text_pre h9 hp]; simp
theorem star_text2 {c : Co} (h9 : c.op = 9) : zY c.op ++ zW 46 (y9 c.v c.parts.toNat ++ [[42]]) = c.text := by
  rw [← star_text h9, h9]; rfl
theorem star_pre {c : Co} (h : c.may = true) (h9 : c.op = 9) : c.v.pre = [] := by
  obtain ⟨_, _, _, k9, _, hp, _⟩ := Co.facts h
  have := k9 h9
  exact hp.resolve_left (by omega)
theorem pJ (c : Co) (W : World) (hc : c.short) (ht : HasTab W) : Calls Tryz.prog 64 #[coV c] W fun e w' => e = .returned (.string (mkS c.print)) ∧ Below W.heap.size W w' := by
  refine zQ (n := 50) Tryz.func64 rfl (by kernel_rfl) (by kernel_rfl) (ZO (Zb (coV c) (fun b1 => Zv (.string ⟨#[]⟩) (ZN (z6 (ZO (Zl 0 ⟨b1, (coV c).cells, 51⟩ (off := 0) (coV c) (Zc (k := 73) (args := #[coV c]) (.bool c.may) (fun w _ => tU c w hc) ?_))))))))
  cases h1 : c.may with
  | true =>
    have hcm := h1
    have hcv := (Co.facts hcm).2.1
    have hpn := parts_nat hcm
    have hpr := hpn.2
    have hpc := hpn.1
    refine Zv (.bool false) (ZX (ZB (ZO (Zv (.slice none 0 0) (ZN (z6 ?_))))))
    refine z6 (uM (by kernel_rfl) (ZT 0 [] _ (.pointer (some ⟨b1, 2, none⟩)) (zK (zK zS)) rfl (ZL 1 [] _ 0 ⟨b1, (coV c).cells, 51⟩ (off := 2) (.agg #[.int .i64 c.v.maj, .int .i64 c.v.min, .int .i64 c.v.pat, .string (mkS c.v.pre), .string (mkS c.v.build)]) (zK (zK zS)) rfl rfl (ZT 3 [] _ (.pointer (some ⟨b1, 1, none⟩)) (zK (zK zS)) rfl (ZL 4 [] _ 0 ⟨b1, (coV c).cells, 51⟩ (off := 1) (.int .i64 c.parts) (zK (zK zS)) rfl rfl (ZT 7 [] _ (.int .i64 0) (zK (zK zS)) rfl (y8 2 (by kernel_rfl) (jD _ (k := 111) (args := #[.agg #[.int .i64 c.v.maj, .int .i64 c.v.min, .int .i64 c.v.pat, .string (mkS c.v.pre), .string (mkS c.v.build)]]) (fun v' L' => ∃ ob', L' = ob' ++ ([] ++ ([⟨b1, (coV c).cells, 51⟩])) ∧ ∃ g, v' = .slice (some ⟨g, 0, none⟩) 3 3 ∧ ob' = [⟨g, vE c.v, 3⟩]) rfl (by kernel_rfl) (fun _ => by kernel_rfl) (fun w hO => (mR c.v w).mono fun e w' ⟨v', ob', k1, k2, k3⟩ => ⟨v', _, k1, ⟨ob', rfl, k2⟩, Own.joinN hO k3⟩) (fun v' L' ⟨ob', e, _⟩ w hO => by subst e; exact Own.sub [] (Own.sub ob' hO)) (fun v1 L2 hv2 => ?_)))))))))
    obtain ⟨o1, rfl, hr1⟩ := hv2
    obtain ⟨g1, rfl, ho1⟩ := hr1
    refine dW (L' := (o1 ++ ([] : List Blk)) ++ ([⟨b1, (coV c).cells, 51⟩])) (List.append_assoc _ _ _).symm (bI 5 (o1 ++ ([] : List Blk)) _ (.slice (some ⟨g1, 0, none⟩) c.parts.toNat 3) rfl (by kernel_rfl) (by kernel_rfl) (by kernel_rfl) (zK (zK zS)) (by kernel_rfl) (fun w _ => run_slhi (b := g1) (off := 0) (n := 3) (c := 3) (k := .i64) (j := c.parts) (e := 3) (sz := 1) rfl (by kernel_rfl) (by kernel_rfl) (by kernel_rfl) (by kernel_rfl) (by omega) (by omega) w) (ZT 6 (o1 ++ ([] : List Blk)) _ (.int .i64 (c.parts.toNat : Int)) (zK (zK zS)) rfl (xM (by kernel_rfl) (zC (zI (gC (L' := ⟨g1, vE c.v, 3⟩ :: ⟨b1, (coV c).cells, 51⟩ :: []) (by rw [ho1]; rfl) (yT (fun L f m => ∃ (k : Nat) (va : Value) (oa : List Blk) (j : Nat → Value), (k ≤ c.parts.toNat ∧ SlT va (y9 c.v k) oa) ∧ L = ⟨g1, vE c.v, 3⟩ :: ⟨b1, (coV c).cells, 51⟩ :: oa ∧ f = kE j [(1, .pointer (some ⟨b1, 0, none⟩)), (3, va), (15, .slice (some ⟨g1, 0, none⟩) c.parts.toNat 3), (16, .int .i64 (c.parts.toNat : Int)), (17, .int .i64 (k : Int))] ∧ m = c.parts.toNat - k) (c.parts.toNat - 0) ⟨0, _, [], _, ⟨Nat.zero_le _, Sl.nil _ _⟩, rfl, ZU, rfl⟩ ?_)))))))
    rintro L f m ⟨k, va, oa, j, hrel, rfl, rfl, rfl⟩
    have hkl := hrel.1
    refine z6 (z7 ?_)
    by_cases h2 : (k : Int) < (c.parts.toNat : Int)
    · refine zV (p := (k : Int) < (c.parts.toNat : Int)) true (by kernel_rfl) (fun _ => by kernel_rfl) (decide_eq_true (h2)) ?_
      refine ZN (z6 (Zt (ZB (z6 (zI (ZO (zT (.pointer (some ⟨g1, 0 + k, none⟩)) (by kernel_rfl) (ZV (b := g1) (off := 0) (n := c.parts.toNat) (c := 3) (k := .i64) (j := (k : Int)) (e := 3) (sz := 1)) (j6 0 ⟨g1, vE c.v, 3⟩ (off := 0 + k) (.int .i64 (xR c.v.maj c.v.min c.v.pat k)) (by kernel_rfl) rfl (by kernel_rfl) (by kernel_rfl) (by rw [Nat.zero_add]; exact rd_nums c.v k (by omega)) ?_))))))))
      refine Zv (.int .i64 (xR c.v.maj c.v.min c.v.pat k)) (ZN (z7 (Zv (va) (Zv (.int .i64 (xR c.v.maj c.v.min c.v.pat k)) (Zc (k := 112) (args := #[.int .i64 (xR c.v.maj c.v.min c.v.pat k)]) (.string (mkS (Lib.itoa (xR c.v.maj c.v.min c.v.pat k)))) (fun w hO => digits_mk _ (nth_in hcv (show k < 3 by omega)).1 (nth_in hcv (show k < 3 by omega)).2 w (ht.on hO.below)) (vC 9 #[.string (mkS (Lib.itoa (xR c.v.maj c.v.min c.v.pat k)))] (by kernel_rfl) rfl (fun _ => by kernel_rfl) (fun b2 => ?_)))))))
      obtain ⟨i0, z0, e1, e2, e3, e4, e5⟩ := fI
      have hlk : (y9 c.v k).length ≤ 3 := by have := u7 c.v k; omega
      refine k8 (L' := [⟨b2, #[.string (mkS (Lib.itoa (xR c.v.maj c.v.min c.v.pat k)))], 9⟩, ⟨g1, vE c.v, 3⟩, ⟨b1, (coV c).cells, 51⟩] ++ oa ++ []) (List.append_nil _).symm (g7 (sz := 1) (by kernel_rfl) rfl Tryz.underlying58 e1 e2 e3 e4 (by kernel_rfl) hrel.2 (a := ⟨b2, 0, none⟩) (m := 1) (c := 1) (news := qB [Lib.itoa (xR c.v.maj c.v.min c.v.pat k)]) (by kernel_rfl) rfl (fun w hO j u hj => ?_) (str_cells _) (by unfold maxLen; omega) (by rw [e5]; omega) (fun va2 oa2 hva0 => ?_))
      · rw [xK, cell_of_row w b2 (0 + j) (qB [Lib.itoa (xR c.v.maj c.v.min c.v.pat k)]).toArray 9 _ (hO.held ⟨b2, (qB [Lib.itoa (xR c.v.maj c.v.min c.v.pat k)]).toArray, 9⟩ (List.mem_append_left _ (List.mem_append_left _ (List.mem_cons_self ..))))]; simpa using hj
      have hva2 : SlT va2 ((y9 c.v k) ++ [Lib.itoa (xR c.v.maj c.v.min c.v.pat k)]) oa2 := hva0.to (by rw [List.length_append]; rfl) (by unfold qB; rw [List.map_append])
      exact Zv (va2) (zN (zR (zC (z7 (Zu (k := .i64) (((k + 1 : Nat) : Int)) (IntWalk.i64_in _ (by omega)) (Zv (.int .i64 ((k + 1 : Nat) : Int)) (zN (xS (L' := ⟨g1, vE c.v, 3⟩ :: ⟨b1, (coV c).cells, 51⟩ :: oa2) (fun w hO => own_dropP hO) (zU (m' := c.parts.toNat - (k + 1)) (by omega) ⟨k + 1, va2, oa2, _, ⟨by omega, by rw [nums_next c.v (by omega)]; exact hva2⟩, rfl, ZU, rfl⟩)))))))))
    have hkq : k = c.parts.toNat := by omega
    have hvk : SlT va (y9 c.v c.parts.toNat) oa := hkq ▸ hrel.2
    refine Zd (p := (k : Int) < (c.parts.toNat : Int)) false (decide_eq_false (h2)) (ZN (z6 (Zf (y5 (zB (zM (zH (zC (z6 (z6 ?_))))))))))
    refine z7 (Zv (.pointer (some ⟨b1, 0, none⟩)) (Zl 1 ⟨b1, (coV c).cells, 51⟩ (off := 0) (.int .i64 c.op) ?_))
    by_cases h3 : (c.op : Int) = 9
    · refine zV (p := (c.op : Int) = 9) true (by kernel_rfl) (fun _ => by kernel_rfl) (decide_eq_true (h3)) ?_
      refine ZY (z7 (Zv (va) (vC 9 #[.string ⟨#[42]⟩] (by kernel_rfl) rfl (fun _ => by kernel_rfl) (fun b2 => ?_))))
      obtain ⟨i0, z0, e1, e2, e3, e4, e5⟩ := fI
      have hlk : (y9 c.v c.parts.toNat).length ≤ 3 := by have := u7 c.v c.parts.toNat; omega
      refine k8 (L' := [⟨b2, #[.string ⟨#[42]⟩], 9⟩, ⟨g1, vE c.v, 3⟩, ⟨b1, (coV c).cells, 51⟩] ++ oa ++ []) (List.append_nil _).symm (g7 (sz := 1) (by kernel_rfl) rfl Tryz.underlying58 e1 e2 e3 e4 (by kernel_rfl) hvk (a := ⟨b2, 0, none⟩) (m := 1) (c := 1) (news := qB [[42]]) (by kernel_rfl) rfl (fun w hO j u hj => ?_) (str_cells _) (by unfold maxLen; omega) (by rw [e5]; omega) (fun va2 oa2 hva0 => ?_))
      · rw [xK, cell_of_row w b2 (0 + j) (qB [[42]]).toArray 9 _ (hO.held ⟨b2, (qB [[42]]).toArray, 9⟩ (List.mem_append_left _ (List.mem_append_left _ (List.mem_cons_self ..))))]; simpa using hj
      have hva2 : SlT va2 ((y9 c.v c.parts.toNat) ++ [[42]]) oa2 := hva0.to (by rw [List.length_append]; rfl) (by unfold qB; rw [List.map_append])
      refine Zv (va2) (zN (xS (L' := ⟨g1, vE c.v, 3⟩ :: ⟨b1, (coV c).cells, 51⟩ :: oa2) (fun w hO => own_dropP hO) (zC (ZO (Zv (.pointer (some ⟨b1, 0, none⟩)) (Zl 1 ⟨b1, (coV c).cells, 51⟩ (off := 0) (.int .i64 c.op) (Zc (k := 108) (args := #[.int .i64 c.op]) (.string (mkS (zY c.op))) (fun w _ => csign_any c.op w) (Zv (va2) (Zc (k := 113) (args := #[va2, .int .u8 46]) (.string (mkS (zW 46 (y9 c.v c.parts.toNat ++ [[42]])))) (fun w hO => join_any va2 _ 46 w (SlT.readsT hva2 hO (fun x hx => by simp [hx])) (Nat.le_trans (jJ hcv _) (by decide)) (by rw [List.length_append]; have := u7 c.v c.parts.toNat; simp; omega) star_ne) (zT (.string (mkS ((zY c.op) ++ (zW 46 (y9 c.v c.parts.toNat ++ [[42]]))))) (by kernel_rfl) (yG (a := (zY c.op)) (b := (zW 46 (y9 c.v c.parts.toNat ++ [[42]]))) rfl (by kernel_rfl) (by kernel_rfl) (by have q1 := jK c.op; have q2 := qJ hcv c.parts.toNat; have q4 := jJ hcv c.parts.toNat; have q3 := hc.1; first | omega | (simp only [List.length_append, List.length_cons, List.length_nil]; omega))) ?_))))))))))
      refine Zv (.string (mkS ((zY c.op) ++ (zW 46 (y9 c.v c.parts.toNat ++ [[42]]))))) (ZN (z6 (ZO (Zv (.pointer (some ⟨b1, 2, none⟩)) (Zv (.pointer (some ⟨b1, 5, none⟩)) (Zl 1 ⟨b1, (coV c).cells, 51⟩ (off := 5) (.string (mkS c.v.pre)) (zT (.bool false) (by kernel_rfl) (x6 (a := c.v.pre) (b := ([])) rfl (by kernel_rfl) (by kernel_rfl) (decide_eq_true (star_pre hcm h3))) (zN (zC ?_)))))))))
      exact Zf (ZB (ZO (Zv (.string (mkS ((zY c.op) ++ (zW 46 (y9 c.v c.parts.toNat ++ [[42]]))))) (Zv (.string (mkS ((zY c.op) ++ (zW 46 (y9 c.v c.parts.toNat ++ [[42]]))))) (ZN (zA (ZF (.string (mkS ((zY c.op) ++ (zW 46 (y9 c.v c.parts.toNat ++ [[42]]))))) Tryz.results64 (fun w hO => ⟨by rw [kP hcm, ← star_text2 h3], hO.below⟩))))))))
    refine Zd (p := (c.op : Int) = 9) false (decide_eq_false (h3)) (ZX (ZB (ZO (Zv (.pointer (some ⟨b1, 0, none⟩)) (Zl 1 ⟨b1, (coV c).cells, 51⟩ (off := 0) (.int .i64 c.op) (Zc (k := 108) (args := #[.int .i64 c.op]) (.string (mkS (zY c.op))) (fun w _ => csign_any c.op w) (Zv (va) ?_)))))))
    refine Zc (k := 113) (args := #[va, .int .u8 46]) (.string (mkS (zW 46 (y9 c.v c.parts.toNat)))) (fun w hO => join_any va _ 46 w (SlT.readsT hvk hO (fun x hx => by simp [hx])) (Nat.le_trans (qJ hcv _) (by decide)) (Nat.le_trans (u7 _ _) (by decide)) (nums_ne hcm h3)) (zT (.string (mkS ((zY c.op) ++ (zW 46 (y9 c.v c.parts.toNat))))) (by kernel_rfl) (yG (a := (zY c.op)) (b := (zW 46 (y9 c.v c.parts.toNat))) rfl (by kernel_rfl) (by kernel_rfl) (by have q1 := jK c.op; have q2 := qJ hcv c.parts.toNat; have q4 := jJ hcv c.parts.toNat; have q3 := hc.1; first | omega | (simp only [List.length_append, List.length_cons, List.length_nil]; omega))) (Zv (.string (mkS ((zY c.op) ++ (zW 46 (y9 c.v c.parts.toNat))))) (ZN (z6 (ZO (Zv (.pointer (some ⟨b1, 2, none⟩)) (Zv (.pointer (some ⟨b1, 5, none⟩)) (Zl 1 ⟨b1, (coV c).cells, 51⟩ (off := 5) (.string (mkS c.v.pre)) ?_))))))))
    by_cases h4 : (c.v.pre : List UInt8) = []
    · refine zT (.bool false) (by kernel_rfl) (x6 (a := c.v.pre) (b := ([])) rfl (by kernel_rfl) (by kernel_rfl) (decide_eq_true (h4))) ?_
      refine ZX (ZB (ZO (Zv (.string (mkS ((zY c.op) ++ (zW 46 (y9 c.v c.parts.toNat))))) (Zv (.string (mkS ((zY c.op) ++ (zW 46 (y9 c.v c.parts.toNat))))) (ZN (zA ?_))))))
      exact ZF (.string (mkS ((zY c.op) ++ (zW 46 (y9 c.v c.parts.toNat))))) Tryz.results64 (fun w hO => ⟨by rw [kP hcm, ← text_bare h3 h4], hO.below⟩)
    refine zT (.bool true) (by kernel_rfl) (x6 (a := c.v.pre) (b := ([])) rfl (by kernel_rfl) (by kernel_rfl) (decide_eq_false (h4))) (ZY (z7 (Zv (.string (mkS ((zY c.op) ++ (zW 46 (y9 c.v c.parts.toNat))))) (Zv (.pointer (some ⟨b1, 2, none⟩)) (Zv (.pointer (some ⟨b1, 5, none⟩)) (Zl 1 ⟨b1, (coV c).cells, 51⟩ (off := 5) (.string (mkS c.v.pre)) (zT (.string (mkS ([45] ++ c.v.pre))) (by kernel_rfl) (yG (a := [45]) (b := c.v.pre) rfl (by kernel_rfl) (by kernel_rfl) (by have q1 := jK c.op; have q2 := qJ hcv c.parts.toNat; have q4 := jJ hcv c.parts.toNat; have q3 := hc.1; first | omega | (simp only [List.length_append, List.length_cons, List.length_nil]; omega))) (zT (.string (mkS (((zY c.op) ++ (zW 46 (y9 c.v c.parts.toNat))) ++ ([45] ++ c.v.pre)))) (by kernel_rfl) (yG (a := ((zY c.op) ++ (zW 46 (y9 c.v c.parts.toNat)))) (b := ([45] ++ c.v.pre)) rfl (by kernel_rfl) (by kernel_rfl) (by have q1 := jK c.op; have q2 := qJ hcv c.parts.toNat; have q4 := jJ hcv c.parts.toNat; have q3 := hc.1; first | omega | (simp only [List.length_append, List.length_cons, List.length_nil]; omega))) (Zv (.string (mkS (((zY c.op) ++ (zW 46 (y9 c.v c.parts.toNat))) ++ ([45] ++ c.v.pre)))) ?_)))))))))
    exact ZR (Zv (.string (mkS (((zY c.op) ++ (zW 46 (y9 c.v c.parts.toNat))) ++ ([45] ++ c.v.pre)))) (Zv (.string (mkS (((zY c.op) ++ (zW 46 (y9 c.v c.parts.toNat))) ++ ([45] ++ c.v.pre)))) (ZN (zA (ZF (.string (mkS (((zY c.op) ++ (zW 46 (y9 c.v c.parts.toNat))) ++ ([45] ++ c.v.pre)))) Tryz.results64 (fun w hO => ⟨by rw [kP hcm, ← text_pre2 h3 h4], hO.below⟩))))))
  | false =>
    refine Zv (.bool true) (ZY (ZO (Zv (.string ⟨#[]⟩) (ZN (zA (z8 (ZF (.string ⟨#[]⟩) Tryz.results64 ?_)))))))
    exact fun w hO => ⟨by unfold Co.print; simp [h1]; rfl, hO.below⟩
end
section
theorem unshare_any (A : Option Addr) (cap : Nat) (l : List Sp) (ob : List Blk) (W : World) (hv : SlS (.slice A l.length cap) l ob) (hO : Own (ob.map Blk.b) W W ob) (hn : l.length ≤ 1000000) (hl : xI l) :
    Calls Tryz.prog 132 #[.slice A l.length cap] W fun e w' => ∃ ob', e = .returned (.slice A l.length cap) ∧ SlS (.slice A l.length cap) l ob' ∧ Own (ob.map Blk.b) W w' ob' := by
  unfold SlS at hv ⊢
  refine calls_okL (n := 39) hO Tryz.func132 rfl (by kernel_rfl) (by kernel_rfl) (ZO (Zv (.slice none 0 0) (ZN (z6 (ZO (Zv (.slice A l.length cap) (Zv (.int .i64 (l.length : Int)) (Zv (.int .i64 0) ?_))))))))
  refine ZN (zI (gC (L' := ob ++ []) (List.append_nil _).symm (yT (fun L f m => ∃ (k : Nat) (oc : List Blk) (j : Nat → Value), (k ≤ l.length ∧ Sl 80 14 (.slice A l.length cap) l.length (l.flatMap x9) oc) ∧ L = oc ++ [] ∧ f = kE j [(0, .slice A l.length cap), (5, .slice A l.length cap), (6, .int .i64 (l.length : Int)), (7, .int .i64 (k : Int))] ∧ m = l.length - k) (l.length - 0) ⟨0, ob, _, ⟨Nat.zero_le _, hv⟩, rfl, ZU, rfl⟩ ?_)))
  rintro L f m ⟨k, oc, j, hrel, rfl, rfl, rfl⟩
  have hkl := hrel.1
  refine z6 (z7 ?_)
  by_cases h1 : (k : Int) < (l.length : Int)
  · have hk : k < l.length := by omega
    obtain ⟨g, cur, hA, rfl, hcap, hmax, hsz, hcur⟩ := hrel.2.block (by omega)
    obtain ⟨s, hs⟩ : ∃ s, l[k] = s := ⟨_, rfl⟩
    have hsk : s.short := hs ▸ hl l[k] (List.getElem_mem hk)
    have hset : l.set k s = l := by rw [← hs]; exact List.set_getElem_self _
    refine k8 (L' := [⟨g, cur, 80⟩]) (List.append_nil _) (Zd (p := (k : Int) < (l.length : Int)) true (decide_eq_true (h1)) (ZN (z6 (Zt (ZB (z6 (zI (z6 (z7 ?_)))))))))
    refine Zv (.int .i64 (k : Int)) (Zv (.int .i64 (k : Int)) (ZR (Zv (.slice A l.length cap) (Zv (.int .i64 (k : Int)) (zT (.pointer (some ⟨g, k * 14, none⟩)) (by kernel_rfl) (wW (b := g) (off := 0) (c := cap) (n := l.length) (k := .i64) (j := (k : Int)) (e := 80) (sz := 14) rfl (by kernel_rfl) hA (by kernel_rfl) (by kernel_rfl) (by kernel_rfl) (by omega) (by omega) (by show 0 + k * 14 = k * 14; omega)) (Zv (.pointer (some ⟨g, k * 14, none⟩)) (zN (zC ?_))))))))
    refine ZO (Zv (.pointer (some ⟨g, k * 14, none⟩)) (Zv (.pointer (some ⟨g, k * 14, none⟩)) (Zv (.pointer (some ⟨g, k * 14, none⟩)) (Zv (.pointer (some ⟨g, k * 14 + 0, none⟩)) (Zv (.pointer (some ⟨g, k * 14 + 1, none⟩)) (Zv (.pointer (some ⟨g, k * 14 + 4, none⟩)) (j6 0 ⟨g, cur, 80⟩ (off := k * 14 + 4) (.string (mkS s.lo.v.pre)) (by kernel_rfl) rfl (by kernel_rfl) (by kernel_rfl) (gT yA hcur k 4 (by omega) (by omega) _ (by rw [hs]; kernel_rfl)) (Zc (k := 65) (args := #[.string (mkS s.lo.v.pre)]) (.string (mkS s.lo.v.pre)) (fun w _ => jR (mkS s.lo.v.pre) w (by rw [xA]; have := hsk.1.1; omega)) (Zv (.pointer (some ⟨g, k * 14, none⟩)) (Zv (.pointer (some ⟨g, k * 14 + 0, none⟩)) ?_))))))))))
    refine Zv (.pointer (some ⟨g, k * 14 + 1, none⟩)) (Zv (.pointer (some ⟨g, k * 14 + 4, none⟩)) (s_storeS 0 ⟨g, cur, 80⟩ (off := k * 14 + 4) (.string (mkS s.lo.v.pre)) 1 (by kernel_rfl) rfl rfl (by kernel_rfl) (by kernel_rfl) (by kernel_rfl) (by kernel_rfl) (by kernel_rfl) (by show k * 14 + 4 + 1 ≤ cur.size; omega) (by kernel_rfl) ?_))
    have hse2 := nN yA hcur k 4 (by omega) (Value.string (mkS s.lo.v.pre)).cells s (show 4 + 1 ≤ 14 by decide) (by rw [hs]; rfl)
    rw [hset] at hse2
    obtain ⟨cur2, hc2⟩ : ∃ x, x = kC cur (k * 14 + 4) (Value.string (mkS s.lo.v.pre)).cells := ⟨_, rfl⟩
    rw [← hc2] at hse2
    refine k8 (L' := [⟨g, cur2, 80⟩]) (by rw [hc2]; rfl) ?_
    have hcur2 := hse2.1
    have hsz2 : cur2.size = cap * 14 := by rw [hse2.2]; exact hsz
    refine ZN (z7 (Zv (.pointer (some ⟨g, k * 14, none⟩)) (Zv (.pointer (some ⟨g, k * 14, none⟩)) (Zv (.pointer (some ⟨g, k * 14, none⟩)) (Zv (.pointer (some ⟨g, k * 14 + 7, none⟩)) (Zv (.pointer (some ⟨g, k * 14 + 8, none⟩)) (Zv (.pointer (some ⟨g, k * 14 + 11, none⟩)) (j6 0 ⟨g, cur2, 80⟩ (off := k * 14 + 11) (.string (mkS s.hi.v.pre)) (by kernel_rfl) rfl (by kernel_rfl) (by kernel_rfl) (gT yA hcur2 k 11 (by omega) (by omega) _ (by rw [hs]; kernel_rfl)) (Zc (k := 65) (args := #[.string (mkS s.hi.v.pre)]) (.string (mkS s.hi.v.pre)) (fun w _ => jR (mkS s.hi.v.pre) w (by rw [xA]; have := hsk.2.1; omega)) (Zv (.pointer (some ⟨g, k * 14, none⟩)) ?_))))))))))
    refine Zv (.pointer (some ⟨g, k * 14 + 7, none⟩)) (Zv (.pointer (some ⟨g, k * 14 + 8, none⟩)) (Zv (.pointer (some ⟨g, k * 14 + 11, none⟩)) (s_storeS 0 ⟨g, cur2, 80⟩ (off := k * 14 + 11) (.string (mkS s.hi.v.pre)) 1 (by kernel_rfl) rfl rfl (by kernel_rfl) (by kernel_rfl) (by kernel_rfl) (by kernel_rfl) (by kernel_rfl) (by show k * 14 + 11 + 1 ≤ cur2.size; omega) (by kernel_rfl) ?_)))
    have hse3 := nN yA hcur2 k 11 (by omega) (Value.string (mkS s.hi.v.pre)).cells s (show 11 + 1 ≤ 14 by decide) (by rw [hs]; rfl)
    rw [hset] at hse3
    obtain ⟨cur3, hc3⟩ : ∃ x, x = kC cur2 (k * 14 + 11) (Value.string (mkS s.hi.v.pre)).cells := ⟨_, rfl⟩
    rw [← hc3] at hse3
    refine k8 (L' := [⟨g, cur3, 80⟩]) (by rw [hc3]; rfl) ?_
    have hcur3 := hse3.1
    have hsz3 : cur3.size = cap * 14 := by rw [hse3.2]; exact hsz2
    exact zN (zR (zC (z7 (Zu (k := .i64) (((k + 1 : Nat) : Int)) (IntWalk.i64_in _ (by omega)) (Zv (.int .i64 ((k + 1 : Nat) : Int)) (zN (zU (m' := l.length - (k + 1)) (by omega) ⟨k + 1, [⟨g, cur3, 80⟩], _, ⟨by omega, by rw [uB yA], .inr ⟨g, cap, _, by rw [hA], rfl, hcap, hmax, hsz3, hcur3⟩⟩, rfl, ZU, rfl⟩)))))))
  refine Zd (p := (k : Int) < (l.length : Int)) false (decide_eq_false (h1)) (ZN (z6 (Zf (y5 (zB (zM (zH (zC (z6 (z7 ?_))))))))))
  exact Zv (.slice A l.length cap) (Zv (.slice A l.length cap) (ZN (zA (ZF (.slice A l.length cap) Tryz.results132 (fun w hO => ⟨oc, rfl, hrel.2, by simpa using hO⟩)))))
end
section
theorem mT {l : List Sp} {c d : Cu} (hl : xI l) (hc : c.short) (hd : d.short) : xI (gO l c d) := by
  unfold gO
  split
  · intro x hx
    rcases List.mem_append.1 hx with h | h
    · exact hl x h
    · obtain rfl : x = _ := by simpa using h
      exact ⟨hc, hd⟩
  · exact hl
theorem add_any (A : Option Addr) (cap : Nat) (l : List Sp) (ob : List Blk) (c d : Cu) (W : World) (hv : SlS (.slice A l.length cap) l ob) (hO : Own (ob.map Blk.b) W W ob) (hn : l.length ≤ 1000000) (hl : xI l) (hc : c.short) (hd : d.short) :
    Calls Tryz.prog 131 #[.slice A l.length cap, zF c, zF d] W fun e w' => ∃ v' ob', e = .returned v' ∧ SlS v' (gO l c d) ob' ∧ Own (ob.map Blk.b) W w' ob' := by
  unfold SlS at hv ⊢
  refine calls_okL (n := 19) hO Tryz.func131 rfl (by kernel_rfl) (by kernel_rfl) (ZO (Zb (zF c) (fun b1 => Zb (zF d) (fun b2 => Zv (.slice none 0 0) (ZR (Zl 1 ⟨b1, (zF c).cells, 78⟩ (off := 0) (zF c) (Zl 0 ⟨b2, (zF d).cells, 78⟩ (off := 0) (zF d) ?_)))))))
  refine Zv (.agg #[.int .i64 c.e, .int .i64 c.v.maj, .int .i64 c.v.min, .int .i64 c.v.pat, .string (mkS c.v.pre), .string (mkS c.v.build), .bool c.aft, .int .i64 d.e, .int .i64 d.v.maj, .int .i64 d.v.min, .int .i64 d.v.pat, .string (mkS d.v.pre), .string (mkS d.v.build), .bool d.aft]) (Za (.agg #[.int .i64 0, .int .i64 0, .int .i64 0, .int .i64 0, .string ⟨#[]⟩, .string ⟨#[]⟩, .bool false, .int .i64 0, .int .i64 0, .int .i64 0, .int .i64 0, .string ⟨#[]⟩, .string ⟨#[]⟩, .bool false]) (fun b3 => Zs 0 ⟨b3, #[.int .i64 0, .int .i64 0, .int .i64 0, .int .i64 0, .string ⟨#[]⟩, .string ⟨#[]⟩, .bool false, .int .i64 0, .int .i64 0, .int .i64 0, .int .i64 0, .string ⟨#[]⟩, .string ⟨#[]⟩, .bool false], 80⟩ (off := 0) (.agg #[.int .i64 c.e, .int .i64 c.v.maj, .int .i64 c.v.min, .int .i64 c.v.pat, .string (mkS c.v.pre), .string (mkS c.v.build), .bool c.aft, .int .i64 d.e, .int .i64 d.v.maj, .int .i64 d.v.min, .int .i64 d.v.pat, .string (mkS d.v.pre), .string (mkS d.v.build), .bool d.aft]) (ZN (z6 (ZO (Zl 0 ⟨b3, #[.int .i64 c.e, .int .i64 c.v.maj, .int .i64 c.v.min, .int .i64 c.v.pat, .string (mkS c.v.pre), .string (mkS c.v.build), .bool c.aft, .int .i64 d.e, .int .i64 d.v.maj, .int .i64 d.v.min, .int .i64 d.v.pat, .string (mkS d.v.pre), .string (mkS d.v.build), .bool d.aft], 80⟩ (off := 0) (.agg #[.int .i64 c.e, .int .i64 c.v.maj, .int .i64 c.v.min, .int .i64 c.v.pat, .string (mkS c.v.pre), .string (mkS c.v.build), .bool c.aft, .int .i64 d.e, .int .i64 d.v.maj, .int .i64 d.v.min, .int .i64 d.v.pat, .string (mkS d.v.pre), .string (mkS d.v.build), .bool d.aft]) (Zc (k := 139) (args := #[.agg #[.int .i64 c.e, .int .i64 c.v.maj, .int .i64 c.v.min, .int .i64 c.v.pat, .string (mkS c.v.pre), .string (mkS c.v.build), .bool c.aft, .int .i64 d.e, .int .i64 d.v.maj, .int .i64 d.v.min, .int .i64 d.v.pat, .string (mkS d.v.pre), .string (mkS d.v.build), .bool d.aft]]) (.bool ((Sp.mk c d).may)) (fun w _ => wU ⟨c, d⟩ w ⟨hc, hd⟩) ?_)))))))
  cases h1 : (Sp.mk c d).may with
  | true =>
    refine Zv (.bool false) (ZX (ZB (ZO (Zv (.slice A l.length cap) (Zl 0 ⟨b3, #[.int .i64 c.e, .int .i64 c.v.maj, .int .i64 c.v.min, .int .i64 c.v.pat, .string (mkS c.v.pre), .string (mkS c.v.build), .bool c.aft, .int .i64 d.e, .int .i64 d.v.maj, .int .i64 d.v.min, .int .i64 d.v.pat, .string (mkS d.v.pre), .string (mkS d.v.build), .bool d.aft], 80⟩ (off := 0) (.agg #[.int .i64 c.e, .int .i64 c.v.maj, .int .i64 c.v.min, .int .i64 c.v.pat, .string (mkS c.v.pre), .string (mkS c.v.build), .bool c.aft, .int .i64 d.e, .int .i64 d.v.maj, .int .i64 d.v.min, .int .i64 d.v.pat, .string (mkS d.v.pre), .string (mkS d.v.build), .bool d.aft]) (vC 80 #[.int .i64 c.e, .int .i64 c.v.maj, .int .i64 c.v.min, .int .i64 c.v.pat, .string (mkS c.v.pre), .string (mkS c.v.build), .bool c.aft, .int .i64 d.e, .int .i64 d.v.maj, .int .i64 d.v.min, .int .i64 d.v.pat, .string (mkS d.v.pre), .string (mkS d.v.build), .bool d.aft] (by kernel_rfl) rfl (fun _ => by kernel_rfl) (fun b4 => k8 (L' := [⟨b4, #[.int .i64 c.e, .int .i64 c.v.maj, .int .i64 c.v.min, .int .i64 c.v.pat, .string (mkS c.v.pre), .string (mkS c.v.build), .bool c.aft, .int .i64 d.e, .int .i64 d.v.maj, .int .i64 d.v.min, .int .i64 d.v.pat, .string (mkS d.v.pre), .string (mkS d.v.build), .bool d.aft], 80⟩, ⟨b3, #[.int .i64 c.e, .int .i64 c.v.maj, .int .i64 c.v.min, .int .i64 c.v.pat, .string (mkS c.v.pre), .string (mkS c.v.build), .bool c.aft, .int .i64 d.e, .int .i64 d.v.maj, .int .i64 d.v.min, .int .i64 d.v.pat, .string (mkS d.v.pre), .string (mkS d.v.build), .bool d.aft], 80⟩, ⟨b2, (zF d).cells, 78⟩, ⟨b1, (zF c).cells, 78⟩] ++ ob ++ []) (by rw [List.append_nil]; rfl) ?_)))))))
    obtain ⟨i, z, e1, e2, e3, e4, e5⟩ := vR
    refine g7 (sz := 14) (by kernel_rfl) rfl Tryz.underlying29 e1 e2 e3 e4 (by kernel_rfl) hv (a := ⟨b4, 0, none⟩) (m := 1) (c := 1) (news := x9 ⟨c, d⟩) (by kernel_rfl) rfl (fun w hO j u hj => ?_) (qR _) (by unfold maxLen; omega) (by rw [e5]; omega) (fun v' ob' hv' => ?_)
    · rw [xK, cell_of_row w b4 (0 + j) (x9 ⟨c, d⟩).toArray 80 _ (hO.held ⟨b4, (x9 ⟨c, d⟩).toArray, 80⟩ (List.mem_append_left _ (List.mem_append_left _ (List.mem_cons_self ..))))]; simpa using hj
    refine Zv (v') (ZN (zA (ZF (v') Tryz.results131 (fun w hO => ⟨v', ob', rfl, by unfold gO; rw [h1, if_pos rfl, List.length_append, List.flatMap_append]; simpa using hv', Own.take hO (fun x hx => List.mem_append_left _ (List.mem_append_right _ hx)) ?_⟩))))
    have := hO.apart; rw [List.append_nil, List.map_append, List.nodup_append] at this; exact this.2.1
  | false =>
    refine Zv (.bool true) (ZY (ZO (Zv (.slice A l.length cap) (Zv (.slice A l.length cap) (ZN (zA (z8 ?_)))))))
    exact ZF (.slice A l.length cap) Tryz.results131 (fun w hO => ⟨_, ob, rfl, by unfold gO; rw [h1, if_neg (by decide)]; exact hv, Own.sub [_, _, _] hO⟩)
theorem add_call {M : List Nat} {W w : World} {v : Value} {l : List Sp} {E ob : List Blk} (c d : Cu) (hO : Own M W w (E ++ ob)) (hv : SlS v l ob) (hn : l.length ≤ 1000000) (hl : xI l) (hc : c.short) (hd : d.short) :
    Calls Tryz.prog 131 #[v, zF c, zF d] w fun e w' => ∃ v' L', e = .returned v' ∧ (∃ ob', L' = E ++ ob' ∧ SlS v' (gO l c d) ob') ∧ Own M W w' L' := by
  obtain ⟨A, cap, rfl⟩ := hv.form
  refine (add_any A cap l ob c d w hv (Own.lend (hO.sub E)) hn hl hc hd).mono fun e w' ⟨v', ob', h1, h2, h3⟩ => ⟨v', E ++ ob', h1, ⟨ob', rfl, h2⟩, ?_⟩
  have hp : Own M W w (ob ++ E) := hO.perm List.perm_append_comm
  exact (Own.join hp h3).perm List.perm_append_comm
theorem uI {M : List Nat} {W w : World} {v : Value} {l : List Sp} {E ob : List Blk} (hO : Own M W w (E ++ ob)) (hv : SlS v l ob) (hn : l.length ≤ 1000000) (hl : xI l) :
    Calls Tryz.prog 132 #[v] w fun e w' => ∃ v' L', e = .returned v' ∧ (∃ ob', L' = E ++ ob' ∧ SlS v' l ob') ∧ Own M W w' L' := by
  obtain ⟨A, cap, rfl⟩ := hv.form
  refine (unshare_any A cap l ob w hv (Own.lend (hO.sub E)) hn hl).mono fun e w' ⟨ob', h1, h2, h3⟩ => ⟨_, E ++ ob', h1, ⟨ob', rfl, h2⟩, ?_⟩
  have hp : Own M W w (ob ++ E) := hO.perm List.perm_append_comm
  exact (Own.join hp h3).perm List.perm_append_comm
theorem dB (k : Int) : (yJ k).short := ⟨Nat.zero_le 1000000, Nat.zero_le 1000000⟩
structure NotB (l : List Sp) (k : Nat) (v : Value) (out : List Sp) (f : Cu) (ob : List Blk) : Prop where
  le : k ≤ l.length
  sl : SlS v out ob
  len : out.length ≤ k
  short : xI out
  fs : f.short
  eq : (l.take k).foldl tG ([], yJ (-1)) = (out, f)
theorem NotB.start (l : List Sp) : NotB l 0 (.slice none 0 0) [] (yJ (-1)) [] := ⟨Nat.zero_le _, Sl.nil _ _, Nat.le_refl _, fun s hs => by simp at hs, dB _, by rw [List.take_zero]; rfl⟩
theorem NotB.step {l : List Sp} {k : Nat} {v v2 : Value} {out : List Sp} {f : Cu} {ob ob2 : List Blk} (h : NotB l k v out f ob) (hk : k < l.length) {s : Sp} (hs : l[k] = s) (hss : s.short) (h2 : SlS v2 (gO out f s.lo) ob2) : NotB l (k + 1) v2 (gO out f s.lo) s.hi ob2 :=
  ⟨by omega, h2, by have := h.len; have := mU out f s.lo; omega, mT h.short h.fs hss.1, hss.2, by rw [List.take_succ_eq_append_getElem hk, List.foldl_append, h.eq, hs]; rfl⟩
theorem not4_any (A : Option Addr) (cap : Nat) (l : List Sp) (W : World) (hv : Reads x9 W W.heap.size A l) (hn : l.length ≤ 300000) (hl : xI l) :
    Calls Tryz.prog 135 #[.slice A l.length cap] W fun e w' => ∃ v' ob', e = .returned v' ∧ SlS v' (if zJ l then j0 l else []) ob' ∧ Own [] W w' ob' := by
  refine zQ (n := 30) Tryz.func135 rfl (by kernel_rfl) (by kernel_rfl) (ZO (Zv (.slice none 0 0) (ZN (z6 (ZO (Zv (.slice A l.length cap) (Zc (k := 129) (args := #[.slice A l.length cap]) (.bool (zJ l)) (fun w hO => jC A cap l w (hv.on hO.below hO.size) (by omega) hl) ?_)))))))
  cases h1 : zJ l with
  | true =>
    refine Zv (.bool false) (ZX (ZB (ZO (Zv (.slice none 0 0) (ZN (z6 ?_))))))
    refine z7 (Zv (.agg #[.int .i64 (-1), .int .i64 0, .int .i64 0, .int .i64 0, .string ⟨#[]⟩, .string ⟨#[]⟩, .bool false]) (Za (.agg #[.int .i64 0, .int .i64 0, .int .i64 0, .int .i64 0, .string ⟨#[]⟩, .string ⟨#[]⟩, .bool false]) (fun b1 => Zs 0 ⟨b1, #[.int .i64 0, .int .i64 0, .int .i64 0, .int .i64 0, .string ⟨#[]⟩, .string ⟨#[]⟩, .bool false], 78⟩ (off := 0) (.agg #[.int .i64 (-1), .int .i64 0, .int .i64 0, .int .i64 0, .string ⟨#[]⟩, .string ⟨#[]⟩, .bool false]) (ZN (z6 (ZO (Zv (.slice A l.length cap) (Zv (.int .i64 (l.length : Int)) (Zv (.int .i64 0) ?_)))))))))
    refine ZN (zI (yT (fun L f m => ∃ (k : Nat) (v : Value) (out : List Sp) (fc : Cu) (ob : List Blk) (j : Nat → Value), (NotB l k v out fc ob) ∧ L = ⟨b1, (zF fc).cells, 78⟩ :: ob ∧ f = kE j [(3, v), (4, .pointer (some ⟨b1, 0, none⟩)), (11, .slice A l.length cap), (12, .int .i64 (l.length : Int)), (13, .int .i64 (k : Int))] ∧ m = l.length - k) (l.length - 0) ⟨0, _, [], yJ (-1), [], _, NotB.start l, rfl, ZU, rfl⟩ ?_))
    rintro L f m ⟨k, v, out, fc, ob, j, hrel, rfl, rfl, rfl⟩
    have hkl := hrel.le; have hlen := hrel.len
    refine z6 (z7 ?_)
    by_cases h2 : (k : Int) < (l.length : Int)
    · have hk : k < l.length := by omega
      obtain ⟨b, off, hA, hlt, hcell⟩ := hv (by omega)
      obtain ⟨s, hs⟩ : ∃ s, l[k] = s := ⟨_, rfl⟩
      have hsk : s.short := hs ▸ hl l[k] (List.getElem_mem hk)
      refine Zd (p := (k : Int) < (l.length : Int)) true (decide_eq_true (h2)) (ZN (z6 (Zt (ZB (z6 (zI (ZO (zT (.pointer (some ⟨b, off + k * 14, none⟩)) (by kernel_rfl) (ZA (b := b) (off := off) (c := cap) (n := l.length) (k := .i64) (j := (k : Int)) (e := 80) (sz := 14) hA) ?_))))))))
      refine Zo (yI s) (a := ⟨b, off + k * 14, none⟩) (fun w hO => zZ yA (fun j u h => (hO.below.cell (p := ⟨b, off + j, none⟩) hlt).trans (hcell j u h)) k 0 hk (by omega) _ (by rw [hs]; kernel_rfl)) (Za (.agg #[.int .i64 0, .int .i64 0, .int .i64 0, .int .i64 0, .string ⟨#[]⟩, .string ⟨#[]⟩, .bool false, .int .i64 0, .int .i64 0, .int .i64 0, .int .i64 0, .string ⟨#[]⟩, .string ⟨#[]⟩, .bool false]) (fun b2 => Zs 0 ⟨b2, #[.int .i64 0, .int .i64 0, .int .i64 0, .int .i64 0, .string ⟨#[]⟩, .string ⟨#[]⟩, .bool false, .int .i64 0, .int .i64 0, .int .i64 0, .int .i64 0, .string ⟨#[]⟩, .string ⟨#[]⟩, .bool false], 80⟩ (off := 0) (yI s) (ZR (Zv (v) (Zl 1 ⟨b1, (zF fc).cells, 78⟩ (off := 0) (.agg #[.int .i64 fc.e, .int .i64 fc.v.maj, .int .i64 fc.v.min, .int .i64 fc.v.pat, .string (mkS fc.v.pre), .string (mkS fc.v.build), .bool fc.aft]) (Zv (.pointer (some ⟨b2, 0, none⟩)) (Zl 0 ⟨b2, (yI s).cells, 80⟩ (off := 0) (.agg #[.int .i64 s.lo.e, .int .i64 s.lo.v.maj, .int .i64 s.lo.v.min, .int .i64 s.lo.v.pat, .string (mkS s.lo.v.pre), .string (mkS s.lo.v.build), .bool s.lo.aft]) (yH (k := 131) (args := #[v, zF fc, zF s.lo]) (fun v' L' => ∃ ob', L' = [⟨b2, (yI s).cells, 80⟩, ⟨b1, (zF fc).cells, 78⟩] ++ ob' ∧ SlS v' (gO out fc s.lo) ob') (by kernel_rfl) (fun _ => by kernel_rfl) (fun w hO => add_call (E := [⟨b2, (yI s).cells, 80⟩, ⟨b1, (zF fc).cells, 78⟩]) fc s.lo hO hrel.sl (by omega) hrel.short hrel.fs hsk.1) (fun v2 L2 hv2 => ?_)))))))))
      obtain ⟨ob2, rfl, hs2⟩ := hv2
      refine Zv (v2) (ZN (z7 (Zv (.pointer (some ⟨b2, 7, none⟩)) (Zl 0 ⟨b2, (yI s).cells, 80⟩ (off := 7) (.agg #[.int .i64 s.hi.e, .int .i64 s.hi.v.maj, .int .i64 s.hi.v.min, .int .i64 s.hi.v.pat, .string (mkS s.hi.v.pre), .string (mkS s.hi.v.build), .bool s.hi.aft]) (Zs 1 ⟨b1, (zF fc).cells, 78⟩ (off := 0) (.agg #[.int .i64 s.hi.e, .int .i64 s.hi.v.maj, .int .i64 s.hi.v.min, .int .i64 s.hi.v.pat, .string (mkS s.hi.v.pre), .string (mkS s.hi.v.build), .bool s.hi.aft]) (zN (zR (zC (z7 (Zu (k := .i64) (((k + 1 : Nat) : Int)) (IntWalk.i64_in _ (by omega)) ?_))))))))))
      exact Zv (.int .i64 ((k + 1 : Nat) : Int)) (zN (xS (fun w hO => Own.sub [_] hO) (zU (m' := l.length - (k + 1)) (by omega) ⟨k + 1, v2, gO out fc s.lo, s.hi, ob2, _, hrel.step hk hs hsk hs2, rfl, ZU, rfl⟩)))
    refine Zd (p := (k : Int) < (l.length : Int)) false (decide_eq_false (h2)) (ZN (z6 (Zf (y5 (zB (zM (zH (zC (z6 (z7 ?_))))))))))
    refine Zv (v) (Zl 0 ⟨b1, (zF fc).cells, 78⟩ (off := 0) (.agg #[.int .i64 fc.e, .int .i64 fc.v.maj, .int .i64 fc.v.min, .int .i64 fc.v.pat, .string (mkS fc.v.pre), .string (mkS fc.v.build), .bool fc.aft]) (Zv (.agg #[.int .i64 1, .int .i64 0, .int .i64 0, .int .i64 0, .string ⟨#[]⟩, .string ⟨#[]⟩, .bool false]) (yH (k := 131) (args := #[v, zF fc, zF (yJ 1)]) (fun v' L' => ∃ ob', L' = [⟨b1, (zF fc).cells, 78⟩] ++ ob' ∧ SlS v' (gO out fc (yJ 1)) ob') (by kernel_rfl) (fun _ => by kernel_rfl) (fun w hO => add_call (E := [⟨b1, (zF fc).cells, 78⟩]) fc (yJ 1) hO hrel.sl (by omega) hrel.short hrel.fs (dB 1)) (fun v3 L2 hv2 => ?_))))
    obtain ⟨ob3, rfl, hs3⟩ := hv2
    refine yH (k := 132) (args := #[v3]) (fun v' L' => ∃ ob', L' = [⟨b1, (zF fc).cells, 78⟩] ++ ob' ∧ SlS v' (gO out fc (yJ 1)) ob') (by kernel_rfl) (fun _ => by kernel_rfl) (fun w hO => uI (E := [⟨b1, (zF fc).cells, 78⟩]) hO hs3 (by have := mU out fc (yJ 1); omega) (mT hrel.short hrel.fs (dB 1))) (fun v4 L2 hv2 => ?_)
    obtain ⟨ob4, rfl, hs4⟩ := hv2
    exact Zv (v4) (ZN (zA (ZF (v4) Tryz.results135 (fun w hO => ⟨v4, ob4, rfl, by rw [if_pos rfl, show j0 l = gO out fc (yJ 1) from by rw [← notG_eq h1]; unfold notG; have he := hrel.eq; rw [List.take_of_length_le (by omega)] at he; rw [he]]; exact hs4, Own.sub [_] hO⟩))))
  | false =>
    refine Zv (.bool true) (ZY (ZO (Zv (.slice none 0 0) (ZN (zA (z8 (ZF (.slice none 0 0) Tryz.results135 ?_)))))))
    exact fun w hO => ⟨_, [], rfl, by rw [if_neg (by decide)]; exact Sl.nil _ _, by simpa using hO⟩
end
section
abbrev VSp := {s : Sp // s.may = true ∧ s.short}
instance : Inhabited VSp := ⟨⟨⟨yJ (-1), yJ 1⟩, by decide, dB _, dB _⟩⟩
def jO (x : VSp) : List Value := x9 x.1
def cfV (x y : VSp) : Int := zP x.1.lo y.1.lo
theorem swoV : Go.Sort.SWO (ltOf cfV) := by
  have ml : ∀ x : VSp, x.1.lo.may = true := fun x => (zX x.2.1).1
  refine ⟨fun x => ?_, fun x y z h1 h2 => ?_, fun x y z h1 h2 => ?_⟩
  · unfold ltOf cfV; rw [kR]; rfl
  · unfold ltOf cfV at *
    rw [decide_eq_true_eq] at *
    exact xP (ml x) (ml y) (ml z) h1 h2
  · unfold ltOf cfV at *
    rw [decide_eq_false_iff_not] at *
    have := qL (ml z) (ml y) (ml x) (jH h2) (jH h1)
    have h3 := xF (a := x.1.lo) (b := z.1.lo)
    omega
theorem make1_any (s t : Sp) (W : World) (hs : s.short) (ht : t.short) :
    Calls Tryz.prog 179 #[yI s, yI t] W fun e w' => e = .returned (.int .i64 (zP s.lo t.lo)) ∧ Below W.heap.size W w' := by
  refine zQ (n := 10) Tryz.func179 rfl (by kernel_rfl) (by kernel_rfl) (ZO (Zb (yI s) (fun b1 => Zb (yI t) (fun b2 => Zv (.int .i64 0) (ZR (Zv (.pointer (some ⟨b1, 0, none⟩)) (Zl 1 ⟨b1, (yI s).cells, 80⟩ (off := 0) (.agg #[.int .i64 s.lo.e, .int .i64 s.lo.v.maj, .int .i64 s.lo.v.min, .int .i64 s.lo.v.pat, .string (mkS s.lo.v.pre), .string (mkS s.lo.v.build), .bool s.lo.aft]) ?_)))))))
  exact Zv (.pointer (some ⟨b2, 0, none⟩)) (Zl 0 ⟨b2, (yI t).cells, 80⟩ (off := 0) (.agg #[.int .i64 t.lo.e, .int .i64 t.lo.v.maj, .int .i64 t.lo.v.min, .int .i64 t.lo.v.pat, .string (mkS t.lo.v.pre), .string (mkS t.lo.v.build), .bool t.lo.aft]) (Zc (k := 173) (args := #[.agg #[.int .i64 s.lo.e, .int .i64 s.lo.v.maj, .int .i64 s.lo.v.min, .int .i64 s.lo.v.pat, .string (mkS s.lo.v.pre), .string (mkS s.lo.v.build), .bool s.lo.aft], .agg #[.int .i64 t.lo.e, .int .i64 t.lo.v.maj, .int .i64 t.lo.v.min, .int .i64 t.lo.v.pat, .string (mkS t.lo.v.pre), .string (mkS t.lo.v.build), .bool t.lo.aft]]) (.int .i64 (zP s.lo t.lo)) (fun w _ => hY s.lo t.lo w hs.1 ht.1) (Zv (.int .i64 (zP s.lo t.lo)) (ZN (zA (ZF (.int .i64 (zP s.lo t.lo)) Tryz.results179 (fun w hO => ⟨rfl, hO.below⟩)))))))
theorem lays4 (blk off size : Nat) (w : World) : CmpLays Tryz.prog 179 #[] jO 14 cfV blk off size w := fun m os dk _ x y =>
  (make1_any x.1 y.1 _ x.2.2 y.2.2).mono fun e w' ⟨h1, h2⟩ => ⟨h1, h2.asGrow⟩
theorem flatK_list (d : Array VSp) : (Go.Sort.flatK jO 14 d).toList = d.toList.flatMap jO := by
  apply List.ext_getElem?
  intro t
  have hlen : (d.toList.flatMap jO).length = d.size * 14 := by rw [uB (g := jO) (sz := 14) (fun x : VSp => yA x.1)]; simp
  by_cases ht : t < d.size * 14
  · have hk : t / 14 < d.toList.length := by simp; omega
    have h1 : (Go.Sort.flatK jO 14 d).toList[t]? = some (Go.Sort.flatK jO 14 d)[t]! := by
      rw [getElem!_pos _ t (by simpa using ht), Array.getElem?_toList, Array.getElem?_eq_getElem (by simpa using ht)]
    have h2 := flat_at (g := jO) (sz := 14) (fun x : VSp => yA x.1) d.toList (t / 14) hk
    have h3 : (d.toList.flatMap jO)[t]? = (jO d.toList[t / 14])[t % 14]? := by
      have e : t = t / 14 * 14 + t % 14 := by omega
      have hm : t % 14 < 14 := Nat.mod_lt _ (by decide)
      rw [← h2, List.getElem?_take, if_pos hm, List.getElem?_drop, ← e]
    rw [h1, h3, Go.Sort.get_flatK jO 14 d t ht]
    have hd : d[t / 14]! = d.toList[t / 14] := by rw [getElem!_pos d (t / 14) (by simpa using hk)]; simp
    have hlt : t % 14 < (jO d.toList[t / 14]).length := by rw [show (jO d.toList[t / 14]).length = 14 from yA _]; exact Nat.mod_lt _ (by decide)
    rw [hd, List.getElem?_eq_getElem hlt, getElem!_pos (jO d.toList[t / 14]) (t % 14) hlt]
  · rw [List.getElem?_eq_none (by simpa using Nat.le_of_not_lt ht), List.getElem?_eq_none (by rw [hlen]; omega)]
theorem take_put (cur F : Array Value) (h : F.size ≤ cur.size) : (Go.Sort.putCells id 0 F cur).toList.take F.size = F.toList := by
  apply List.ext_getElem?
  intro j
  by_cases hj : j < F.size
  · rw [List.getElem?_take_of_lt hj, Array.getElem?_toList]
    simp [Go.Sort.putCells, hj, show j < cur.size by omega]
  · rw [List.getElem?_take_eq_none (by omega), List.getElem?_eq_none (by simp; omega)]
theorem size_put (cur F : Array Value) : (Go.Sort.putCells id 0 F cur).size = cur.size := by simp [Go.Sort.putCells]
theorem perm_val {l m : List VSp} (h : l.Perm m) : (l.map (·.1)).Perm (m.map (·.1)) := h.map _
theorem sorted_of (l : List VSp) (h : ∀ i j (hi : i < j) (hj : j < l.length), ¬ zP l[j].1.lo (l[i]'(by omega)).1.lo < 0) : fD (l.map (·.1)) := by
  induction l with
  | nil => trivial
  | cons s r ih =>
    refine ⟨fun t ht => ?_, ih fun i j hi hj => h (i + 1) (j + 1) (by omega) (by simpa using hj)⟩
    obtain ⟨y, hy, rfl⟩ := List.mem_map.1 ht
    obtain ⟨j, hj, rfl⟩ := List.mem_iff_getElem.1 hy
    exact jH (h 0 (j + 1) (by omega) (by simpa using hj))
theorem lift_list (l : List Sp) (hm : ∀ s ∈ l, s.may = true ∧ s.short) : ∃ m : List VSp, m.map (·.1) = l := by
  induction l with
  | nil => exact ⟨[], rfl⟩
  | cons s r ih =>
    obtain ⟨m, e⟩ := ih (fun t ht => hm t (List.mem_cons_of_mem _ ht))
    exact ⟨⟨s, hm s (List.mem_cons_self ..)⟩ :: m, by rw [List.map_cons, e]⟩
theorem sort_any (g cap : Nat) (cur : Array Value) (l : List Sp) (W : World) (hm : ∀ s ∈ l, s.may = true ∧ s.short) (hO : Own [g] W W [⟨g, cur, 80⟩]) (hcap : l.length ≤ cap) (hmax : cap ≤ maxLen) (hsz : cur.size = cap * 14) (hcur : cur.toList.take (l.length * 14) = l.flatMap x9) (hn : l.length ≤ 1000000) :
    Calls Tryz.prog 178 #[.slice (some ⟨g, 0, none⟩) l.length cap, .func (.func 179) #[] #[]] W fun e w' =>
      e = .returned (.tuple #[]) ∧ ∃ l' cur', l'.Perm l ∧ fD l' ∧ cur'.size = cap * 14 ∧ cur'.toList.take (l.length * 14) = l'.flatMap x9 ∧ Own [g] W w' [⟨g, cur', 80⟩] := by
  obtain ⟨m, rfl⟩ := lift_list l hm
  have hlen : (m.map (·.1)).length = m.toArray.size := by simp
  have hg : W.heap[g]? = some (.cells cur 80) := hO.held _ List.mem_cons_self
  have hglt : g < W.heap.size := hO.lt (x := ⟨g, cur, 80⟩) List.mem_cons_self
  have hflat : (m.map (·.1)).flatMap x9 = m.flatMap jO := by rw [List.flatMap_map]; rfl
  have hH : Go.Sort.HoldsK jO 14 W g 0 m.toArray := by
    intro j hj
    have hj' : j < m.length * 14 := by simpa using hj
    have e : (Go.Sort.flatK jO 14 m.toArray).toList[j]? = cur.toList[j]? := by
      rw [flatK_list, show m.toArray.toList = m from by simp, ← hflat, ← hcur, List.getElem?_take, if_pos (by simpa using hj')]
    have e2 : cur[j]? = some (Go.Sort.flatK jO 14 m.toArray)[j]! := by
      rw [← Array.getElem?_toList, ← e, Array.getElem?_toList, Array.getElem?_eq_getElem hj, getElem!_pos _ j hj]
    refine ⟨?_, by simp [World.frozen?, hg]⟩
    simp only [World.cell?, hg, Nat.zero_add]
    simpa using e2
  have hcon := Tryz.slices_SortFunc 14 Tryz.isAgg80 Tryz.sizeOf80 jO (fun x => yA x.1) (fun x v hv => qR x.1 v hv) cfV swoV 179 #[] g 0 cap m.toArray W
    (enters_of Tryz.func179 (by kernel_rfl) rfl) (lays4 g 0 m.toArray.size W) hH hglt (by simp at hlen ⊢; rw [List.length_map] at hn; omega)
  rw [hlen]
  change Calls Tryz.prog 178 _ _ _ at hcon
  refine hcon.mono fun e w' ⟨he, d', n, os, hp, hs, hw⟩ => ⟨he, d'.toList.map (·.1), Go.Sort.putCells id 0 (Go.Sort.flatK jO 14 d') cur, ?_, ?_, ?_, ?_, ?_⟩
  · have h2 := hp.2.2
    have hsz2 := hp.1
    rw [show d'.extract 0 m.toArray.size = d' from by rw [← hsz2]; simp, show m.toArray.extract 0 m.toArray.size = m.toArray from by simp] at h2
    have := perm_val h2
    simpa using this
  · refine sorted_of _ fun i j hi hj => ?_
    have hj' : j < d'.size := by simpa using hj
    have := hs i j (Nat.zero_le _) hi (by rw [← hp.1]; exact hj')
    unfold ltOf cfV at this
    rw [decide_eq_false_iff_not, getElem!_pos d' j hj', getElem!_pos d' i (by omega)] at this
    simpa using this
  · rw [size_put]; exact hsz
  · have hF : (Go.Sort.flatK jO 14 d').size = m.toArray.size * 14 := by rw [Go.Sort.size_flatK, hp.1]
    have := take_put cur (Go.Sort.flatK jO 14 d') (by rw [hF, hsz, ← hlen]; exact Nat.mul_le_mul_right _ hcap)
    rw [hF, flatK_list] at this
    rw [this, List.flatMap_map]; rfl
  · subst hw
    have hheap : ∀ k, k < W.heap.size → (sortWorldK jO 14 W g 0 n d' os).heap[k]? = (Go.Sort.putRowK jO 14 (Go.Sort.ahead W n) g 0 d').heap[k]? := fun k hk => by
      show ((Go.Sort.putRowK jO 14 (Go.Sort.ahead W n) g 0 d').heap ++ os)[k]? = _
      rw [Array.getElem?_append_left (by rw [Go.Sort.size_putRowK]; exact hk)]
    refine ⟨rfl, rfl, rfl, ?_, Nat.le_add_right _ _, fun k hk hne => ?_, fun x hx => ?_, fun x hx => .inr (by rw [List.mem_singleton] at hx; rw [hx]; exact List.mem_singleton_self _), by simp⟩
    · show W.heap.size ≤ ((Go.Sort.putRowK jO 14 (Go.Sort.ahead W n) g 0 d').heap ++ os).size
      rw [Array.size_append, Go.Sort.size_putRowK]; exact Nat.le_add_right _ _
    · rw [hheap k hk]
      have hne' : g ≠ k := fun e => hne (by simp [e])
      simp [Go.Sort.putRowK, Go.Sort.putRow, Go.Sort.mapBlock, Go.Sort.ahead, Array.getElem?_modify, hne']
    · obtain rfl : x = _ := by simpa using hx
      show (sortWorldK jO 14 W g 0 n d' os).heap[g]? = _
      rw [hheap g hglt]
      simp [Go.Sort.putRowK, Go.Sort.putRow, Go.Sort.mapBlock, Go.Sort.ahead, Array.getElem?_modify, hg, Go.Sort.onCells]
end
section
theorem clone4_any (A : Option Addr) (cap : Nat) (l : List Sp) (W : World) (hv : Reads x9 W W.heap.size A l) (hn : l.length ≤ 1000000) :
    Calls Tryz.prog 177 #[.slice A l.length cap] W fun e w' => ∃ v' ob', e = .returned v' ∧ SlS v' l ob' ∧ Own [] W w' ob' := by
  cases A with
  | none =>
    obtain rfl : l = [] := by
      cases l with
      | nil => rfl
      | cons x r => obtain ⟨b, off, e, _⟩ := hv (by simp); cases e
    refine zQ (n := 8) Tryz.func177 rfl (by kernel_rfl) (by kernel_rfl) (ZO (Zv (.slice none 0 0) (ZN (z6 (ZO (Zv (.slice none (([] : List Sp).length) cap) (Zv (.bool true) (zN ?_))))))))
    exact zC (Zt (ZO (Zv (.slice none 0 0) (ZN (zA (z8 (ZF (.slice none 0 0) Tryz.results177 (fun w hO => ⟨_, [], rfl, Sl.nil _ _, by simpa using hO⟩))))))))
  | some a =>
    refine zQ (n := 8) Tryz.func177 rfl (by kernel_rfl) (by kernel_rfl) (ZO (Zv (.slice none 0 0) (ZN (z6 (ZO (Zv (.slice (some a) l.length cap) (Zv (.bool false) (zN ?_))))))))
    refine zC (Zf (ZB (ZO (vC 80 #[] (by kernel_rfl) rfl (fun _ => by kernel_rfl) (fun b1 => Zv (.slice (some a) l.length cap) ?_)))))
    obtain ⟨i, z, e1, e2, e3, e4, e5⟩ := vR
    exact k8 (L' := [] ++ [⟨b1, #[], 80⟩] ++ []) rfl (s_appendR (E := []) (ob := [⟨b1, #[], 80⟩]) (L0 := []) (sz := 14) (l := l) (A := some a) (c := cap) (n := 0) (xs := []) yA (by kernel_rfl) rfl Tryz.underlying29 e1 e2 e3 e4 (by kernel_rfl) ⟨rfl, .inr ⟨b1, 0, #[], rfl, rfl, Nat.le_refl _, Nat.zero_le _, rfl, rfl⟩⟩ (by kernel_rfl) (fun w hO => hv.on hO.below hO.size) qR (by unfold maxLen; omega) (by rw [e5]; omega) (fun va oa hva => Zv (va) (ZN (zA (ZF (va) Tryz.results177 (fun w hO => ⟨va, oa, rfl, hva.to (by simp) (by simp), by simpa using hO⟩))))))
theorem sort_call {M : List Nat} {W w : World} {v : Value} {l : List Sp} {E ob : List Blk} (hO : Own M W w (E ++ ob)) (hv : SlS v l ob) (hn : l.length ≤ 1000000) (hm : ∀ s ∈ l, s.may = true ∧ s.short) :
    Calls Tryz.prog 178 #[v, .func (.func 179) #[] #[]] w fun e w' => ∃ v' L', e = .returned v' ∧ (∃ l' ob', v' = .tuple #[] ∧ L' = E ++ ob' ∧ l'.Perm l ∧ fD l' ∧ SlS v l' ob') ∧ Own M W w' L' := by
  obtain ⟨A, cap, rfl⟩ := hv.form
  by_cases h0 : l.length = 0
  · obtain rfl : l = [] := List.eq_nil_of_length_eq_zero h0
    have h := Tryz.slices_SortFunc_none (α := Nat) A cap (.func (.func 179) #[] #[]) w
    change Calls Tryz.prog 178 _ _ _ at h
    exact h.mono fun e w' ⟨h1, h2⟩ => ⟨_, E ++ ob, h1, ⟨[], ob, rfl, rfl, List.Perm.refl _, trivial, hv⟩, h2 ▸ hO⟩
  · unfold SlS at hv
    obtain ⟨g, cur, rfl, rfl, hcap, hmax, hsz, hcur⟩ := hv.block (by omega)
    refine (sort_any g cap cur l w hm (Own.lend (hO.sub E)) hcap hmax hsz hcur hn).mono fun e w' ⟨h1, l', cur', h2, h3, h4, h5, h6⟩ => ⟨_, E ++ [⟨g, cur', 80⟩], h1, ⟨l', _, rfl, rfl, h2, h3, ?_⟩, ?_⟩
    · unfold SlS
      have hl := h2.length_eq
      rw [← hl] at h5 hcap ⊢
      exact ⟨by rw [uB yA], .inr ⟨g, cap, cur', rfl, rfl, hcap, hmax, h4, h5⟩⟩
    · have hp : Own M W w ([⟨g, cur, 80⟩] ++ E) := hO.perm List.perm_append_comm
      exact (Own.join hp h6).perm List.perm_append_comm
structure Merged (d : List Sp) (k : Nat) (V : Option Addr) (c : Nat) (out : List Sp) (ob : List Blk) : Prop where
  le : k ≤ d.length
  sl : Sl 80 14 (.slice V out.length c) out.length (out.flatMap x9) ob
  len : out.length ≤ k
  short : xI out
  eq : (d.take k).foldl vW [] = out
theorem Merged.start (d : List Sp) : Merged d 0 none 0 [] [] := ⟨Nat.zero_le _, Sl.nil _ _, Nat.le_refl _, fun s hs => by simp at hs, by rw [List.take_zero]; rfl⟩
theorem mstep_app {out : List Sp} {s : Sp} (h : ∀ t ∈ out.getLast?, zP t.hi s.lo < 0) : vW out s = out ++ [s] := by
  unfold vW
  cases hg : out.getLast? with
  | none => have : out = [] := by simpa using hg
            subst this; rfl
  | some t => dsimp only; rw [if_pos (h t hg)]
theorem mstep_set {out : List Sp} {s t : Sp} (h0 : 0 < out.length) (ht : out[out.length - 1]'(by omega) = t) (h : ¬ zP t.hi s.lo < 0) : vW out s = out.set (out.length - 1) ⟨t.lo, yS t.hi s.hi⟩ := by
  have hg : out.getLast? = some t := by rw [List.getLast?_eq_getElem?, List.getElem?_eq_getElem (by omega), ht]
  unfold vW
  rw [hg]
  dsimp only
  rw [if_neg h, List.dropLast_eq_take, List.set_eq_take_append_cons_drop, if_pos (by omega), List.drop_of_length_le (by omega)]
theorem mstep_short {out : List Sp} {s : Sp} (ho : xI out) (hs : s.short) : xI (vW out s) := by
  unfold vW
  split
  · intro x hx; obtain rfl : x = _ := by simpa using hx
    exact hs
  · rename_i t ht
    split
    · intro x hx
      rcases List.mem_append.1 hx with h | h
      · exact ho x h
      · obtain rfl : x = _ := by simpa using h
        exact hs
    · intro x hx
      rcases List.mem_append.1 hx with h | h
      · exact ho x (List.dropLast_subset _ h)
      · obtain rfl : x = _ := by simpa using h
        exact ⟨(ho t (List.mem_of_getLast? ht)).1, dT (ho t (List.mem_of_getLast? ht)).2 hs.2⟩
theorem Merged.step {d : List Sp} {k : Nat} {V V2 : Option Addr} {c c2 : Nat} {out out2 : List Sp} {ob ob2 : List Blk} (h : Merged d k V c out ob) (hk : k < d.length) {s : Sp} (hs : d[k] = s) (hss : s.short) (he : vW out s = out2) (h2 : Sl 80 14 (.slice V2 out2.length c2) out2.length (out2.flatMap x9) ob2) : Merged d (k + 1) V2 c2 out2 ob2 :=
  ⟨by omega, h2, by have := h.len; have := mstep_len out s; rw [he] at this; omega, he ▸ mstep_short h.short hss, by rw [List.take_succ_eq_append_getElem hk, List.foldl_append, h.eq, hs]; exact he⟩
end
section
theorem mJ (A : Option Addr) (cap : Nat) (l : List Sp) (W : World) (hv : Reads x9 W W.heap.size A l) (hn : l.length ≤ 300000) (hl : xI l) :
    Calls Tryz.prog 136 #[.slice A l.length cap] W fun e w' => ∃ v' ob', e = .returned (.tuple #[v', .bool (kY l)]) ∧ SlS v' (if kY l then u9 l else []) ob' ∧ Own [] W w' ob' := by
  refine zQ (n := 69) Tryz.func136 rfl (by kernel_rfl) (by kernel_rfl) (ZO (Zv (.slice none 0 0) (Zv (.bool false) (ZN (z6 (ZO (Zv (.slice A l.length cap) (Zv (.int .i64 (l.length : Int)) ?_))))))))
  refine Zv (.int .i64 0) (ZN (zI (yT (fun L f m => ∃ (k : Nat) (j : Nat → Value), (k ≤ l.length ∧ kY (l.take k) = true) ∧ L = [] ∧ f = kE j [(0, .slice A l.length cap), (11, .slice A l.length cap), (12, .int .i64 (l.length : Int)), (13, .int .i64 (k : Int))] ∧ m = l.length - k) (l.length - 0) ⟨0, _, ⟨Nat.zero_le _, by rw [List.take_zero]; rfl⟩, rfl, ZU, rfl⟩ ?_)))
  rintro L f m ⟨k, j, hrel, rfl, rfl, rfl⟩
  have hkl := hrel.1
  refine z6 (z7 ?_)
  by_cases h1 : (k : Int) < (l.length : Int)
  · have hk : k < l.length := by omega
    obtain ⟨b, off, hA, hlt, hcell⟩ := hv (by omega)
    obtain ⟨s, hs⟩ : ∃ s, l[k] = s := ⟨_, rfl⟩
    have hsk : s.short := hs ▸ hl _ (List.getElem_mem _)
    refine Zd (p := (k : Int) < (l.length : Int)) true (decide_eq_true (h1)) (ZN (z6 (Zt (ZB (z6 (zI (ZO (zT (.pointer (some ⟨b, off + k * 14, none⟩)) (by kernel_rfl) (ZA (b := b) (off := off) (c := cap) (n := l.length) (k := .i64) (j := (k : Int)) (e := 80) (sz := 14) hA) ?_))))))))
    refine Zo (yI s) (a := ⟨b, off + k * 14, none⟩) (fun w hO => zZ yA (fun j u h => (hO.below.cell (p := ⟨b, off + j, none⟩) hlt).trans (hcell j u h)) k 0 hk (by omega) _ (by rw [hs]; kernel_rfl)) (Za (.agg #[.int .i64 0, .int .i64 0, .int .i64 0, .int .i64 0, .string ⟨#[]⟩, .string ⟨#[]⟩, .bool false, .int .i64 0, .int .i64 0, .int .i64 0, .int .i64 0, .string ⟨#[]⟩, .string ⟨#[]⟩, .bool false]) (fun b1 => Zs 0 ⟨b1, #[.int .i64 0, .int .i64 0, .int .i64 0, .int .i64 0, .string ⟨#[]⟩, .string ⟨#[]⟩, .bool false, .int .i64 0, .int .i64 0, .int .i64 0, .int .i64 0, .string ⟨#[]⟩, .string ⟨#[]⟩, .bool false], 80⟩ (off := 0) (yI s) (ZR (Zl 0 ⟨b1, (yI s).cells, 80⟩ (off := 0) (yI s) (Zc (k := 139) (args := #[yI s]) (.bool s.may) (fun w _ => wU s w hsk) ?_)))))
    cases h2 : s.may with
    | true =>
      refine Zv (.bool false) (ZX (x4 (zR (zC (z7 (Zu (k := .i64) (((k + 1 : Nat) : Int)) (IntWalk.i64_in _ (by omega)) (Zv (.int .i64 ((k + 1 : Nat) : Int)) (zN ?_))))))))
      have hnext : kY (l.take (k + 1)) = true := allMay_take l k hk hrel.2 (by rw [hs]; assumption)
      exact xS (fun w hO => Own.sub [_] hO) (zU (m' := l.length - (k + 1)) (by omega) ⟨k + 1, _, ⟨by omega, hnext⟩, rfl, ZU, rfl⟩)
    | false =>
      refine Zv (.bool true) (ZY (ZO (Zv (.slice none 0 0) (Zv (.bool false) (ZN (zA (zD ?_)))))))
      exact z8 (y7 (zD (z8 (fin_ret2 (.slice none 0 0) (.bool false) Tryz.results136 (by kernel_rfl) (by kernel_rfl) (fun w hO => ⟨_, [], by rw [allMay_not l k hk (by rw [hs]; assumption)], by rw [allMay_not l k hk (by rw [hs]; assumption), if_neg (by decide)]; exact Sl.nil _ _, Own.take hO (by simp) (by simp)⟩)))))
  have hall : kY l = true := by have h := hrel.2; rwa [List.take_of_length_le (by omega)] at h
  refine Zd (p := (k : Int) < (l.length : Int)) false (decide_eq_false (h1)) (ZN (z6 (Zf (y5 (zB (zM (zH (zC (z6 (z7 ?_))))))))))
  refine Zv (.slice A l.length cap) (yH (k := 177) (args := #[.slice A l.length cap]) (fun v' L' => SlS v' l L') (by kernel_rfl) (fun _ => by kernel_rfl) (fun w hO => (clone4_any A cap l w (hv.on hO.below hO.size) (by omega)).mono fun e w' ⟨v', ob', h1, h2, h3⟩ => ⟨v', ob', h1, h2, by simpa using Own.joinN hO h3⟩) (fun cv oc hcv => ?_))
  obtain ⟨B, capb, rfl⟩ := hcv.form
  refine Zv (.slice B l.length capb) (ZR (Zv (.slice B l.length capb) (yH (k := 178) (args := #[.slice B l.length capb, .func (.func 179) #[] #[]]) (fun v' L' => ∃ l', v' = .tuple #[] ∧ l'.Perm l ∧ fD l' ∧ SlS (.slice B l.length capb) l' L') (by kernel_rfl) (fun _ => by kernel_rfl) (fun w hO => (sort_call (E := []) hO hcv (by omega) (fun s hs => ⟨allMay_mem.1 hall s hs, hl s hs⟩)).mono fun e w' ⟨v', L', k1, ⟨l', ob', k2, k3, k4, k5, k6⟩, k7⟩ => ⟨v', L', k1, ⟨l', k2, k4, k5, by subst k3; exact k6⟩, k7⟩) (fun v5 od hv5 => ?_))))
  obtain ⟨d, rfl, hdp, hdso, hds⟩ := hv5
  have hdl : d.length = l.length := hdp.length_eq
  have hdm : ∀ s ∈ d, s.may = true ∧ s.short := fun s hs => ⟨allMay_mem.1 hall s (hdp.mem_iff.1 hs), hl s (hdp.mem_iff.1 hs)⟩
  unfold SlS at hds
  rw [← hdl] at hds ⊢
  refine k8 (L' := od ++ []) (by simp) (ZR (Zv (.slice none 0 0) (ZN (z6 (ZO (Zv (.slice B d.length capb) ?_))))))
  refine Zv (.int .i64 (d.length : Int)) (Zv (.int .i64 0) (ZN (zI (yT (fun L f m => ∃ (k : Nat) (V : Option Addr) (q : Nat) (cv : Nat) (out : List Sp) (ob : List Blk) (j : Nat → Value), (q = out.length ∧ Merged d k V cv out ob) ∧ L = od ++ ob ∧ f = kE j [(7, .slice V q cv), (25, .slice B d.length capb), (26, .int .i64 (d.length : Int)), (27, .int .i64 (k : Int))] ∧ m = d.length - k) (d.length - 0) ⟨0, none, 0, 0, [], [], _, ⟨rfl, Merged.start d⟩, rfl, ZU, rfl⟩ ?_))))
  rintro L f m ⟨k, V, q, cv, out, ob, j, hrel, rfl, rfl, rfl⟩
  obtain ⟨hq, hrel⟩ := hrel; subst hq; have hkl := hrel.le; have hlen := hrel.len
  refine z6 (z7 ?_)
  by_cases h3 : (k : Int) < (d.length : Int)
  · have hk : k < d.length := by omega
    obtain ⟨gb, curb, hB, rfl, hcapb, hmaxb, hszb, hcurb⟩ := Sl.block hds (by omega)
    obtain ⟨s, hs⟩ : ∃ s, d[k] = s := ⟨_, rfl⟩
    have hsk : s.short := (hdm s (hs ▸ List.getElem_mem _)).2
    refine Zd (p := (k : Int) < (d.length : Int)) true (decide_eq_true (h3)) (ZN (z6 (Zt (ZB (z6 (zI (ZO (zT (.pointer (some ⟨gb, k * 14, none⟩)) (by kernel_rfl) (wW (b := gb) (off := 0) (c := capb) (n := d.length) (k := .i64) (j := (k : Int)) (e := 80) (sz := 14) rfl (by kernel_rfl) hB (by kernel_rfl) (by kernel_rfl) (by kernel_rfl) (by omega) (by omega) (by show 0 + k * 14 = k * 14; omega)) ?_))))))))
    refine j6 0 ⟨gb, curb, 80⟩ (off := k * 14) (yI s) (by kernel_rfl) rfl (by kernel_rfl) (by kernel_rfl) (gT yA hcurb k 0 (by omega) (by omega) _ (by rw [hs]; kernel_rfl)) (Za (.agg #[.int .i64 0, .int .i64 0, .int .i64 0, .int .i64 0, .string ⟨#[]⟩, .string ⟨#[]⟩, .bool false, .int .i64 0, .int .i64 0, .int .i64 0, .int .i64 0, .string ⟨#[]⟩, .string ⟨#[]⟩, .bool false]) (fun b1 => Zs 0 ⟨b1, #[.int .i64 0, .int .i64 0, .int .i64 0, .int .i64 0, .string ⟨#[]⟩, .string ⟨#[]⟩, .bool false, .int .i64 0, .int .i64 0, .int .i64 0, .int .i64 0, .string ⟨#[]⟩, .string ⟨#[]⟩, .bool false], 80⟩ (off := 0) (yI s) (ZR (Zv (.slice V out.length cv) (Zv (.int .i64 (out.length : Int)) (Zu (k := .i64) (((out.length : Int) : Int) - 1) (IntWalk.i64_in _ (by omega)) (Zv (.int .i64 (((out.length : Int) : Int) - 1)) (zN ?_))))))))
    refine zC (z6 (z6 (uL (by kernel_rfl) (by kernel_rfl) (Zw (.int .i64 (((out.length : Int) : Int) - 1)) ?_))))
    by_cases h4 : (((out.length : Int) : Int) - 1 : Int) < 0
    · refine q_dec (p := (((out.length : Int) : Int) - 1 : Int) < 0) true (by kernel_rfl) (fun _ => by kernel_rfl) (decide_eq_true (h4)) ?_
      refine Zw (.bool true) (Zj (Zj (Zj (Zj (Zj (Zj (Zj (Zj (Zj (Zw (.bool true) (qO ?_)))))))))))
      refine zC (Zt (ZO (Zv (.slice V out.length cv) (Zl 0 ⟨b1, (yI s).cells, 80⟩ (off := 0) (yI s) (vC 80 #[.int .i64 s.lo.e, .int .i64 s.lo.v.maj, .int .i64 s.lo.v.min, .int .i64 s.lo.v.pat, .string (mkS s.lo.v.pre), .string (mkS s.lo.v.build), .bool s.lo.aft, .int .i64 s.hi.e, .int .i64 s.hi.v.maj, .int .i64 s.hi.v.min, .int .i64 s.hi.v.pat, .string (mkS s.hi.v.pre), .string (mkS s.hi.v.build), .bool s.hi.aft] (by kernel_rfl) rfl (fun _ => by kernel_rfl) (fun b2 => k8 (L' := [⟨b2, #[.int .i64 s.lo.e, .int .i64 s.lo.v.maj, .int .i64 s.lo.v.min, .int .i64 s.lo.v.pat, .string (mkS s.lo.v.pre), .string (mkS s.lo.v.build), .bool s.lo.aft, .int .i64 s.hi.e, .int .i64 s.hi.v.maj, .int .i64 s.hi.v.min, .int .i64 s.hi.v.pat, .string (mkS s.hi.v.pre), .string (mkS s.hi.v.build), .bool s.hi.aft], 80⟩, ⟨b1, (yI s).cells, 80⟩, ⟨gb, curb, 80⟩] ++ ob ++ []) (by rw [List.append_nil]; rfl) ?_))))))
      obtain ⟨i, z, e1, e2, e3, e4, e5⟩ := vR
      refine g7 (sz := 14) (by kernel_rfl) rfl Tryz.underlying29 e1 e2 e3 e4 (by kernel_rfl) hrel.sl (a := ⟨b2, 0, none⟩) (m := 1) (c := 1) (news := x9 s) (by kernel_rfl) rfl (fun w hO j u hj => ?_) (qR _) (by unfold maxLen; omega) (by rw [e5]; omega) (fun v2 ob2 hv2 => ?_)
      · rw [xK, cell_of_row w b2 (0 + j) (x9 s).toArray 80 _ (hO.held ⟨b2, (x9 s).toArray, 80⟩ (List.mem_append_left _ (List.mem_append_left _ (List.mem_cons_self ..))))]; simpa using hj
      have hv3 : SlS v2 (out ++ [s]) ob2 := hv2.to (by simp) (by simp)
      obtain ⟨V2, c2, rfl⟩ := hv3.form
      refine Zv (.slice V2 ((out ++ [s]).length) c2) (ZN (y5 (zB (zH (zC (z7 (Zu (k := .i64) (((k + 1 : Nat) : Int)) (IntWalk.i64_in _ (by omega)) (Zv (.int .i64 ((k + 1 : Nat) : Int)) (zN (xS (L' := [⟨gb, curb, 80⟩] ++ ob2) (fun w hO => ?_) ?_))))))))))
      · have h2 := hO.apart; rw [List.append_nil] at hO; exact Own.sub [_, _] hO
      exact zU (m' := d.length - (k + 1)) (by omega) ⟨k + 1, V2, (out ++ [s]).length, c2, out ++ [s], ob2, _, ⟨rfl, hrel.step hk hs hsk (mstep_app (fun t' ht' => by have : out = [] := List.eq_nil_of_length_eq_zero (by omega); subst this; simp at ht')) hv3⟩, rfl, ZU, rfl⟩
    obtain ⟨g, cur, hV, rfl, hcapc, hmaxc, hszc, hcurc⟩ := Sl.block hrel.sl (by omega)
    obtain ⟨t, ht⟩ : ∃ t, out[out.length - 1]'(by omega) = t := ⟨_, rfl⟩
    have htk : t.short := ht ▸ hrel.short _ (List.getElem_mem _)
    refine Ze (p := (((out.length : Int) : Int) - 1 : Int) < 0) false (decide_eq_false (h4)) (Zw (.bool false) (Zw (.slice V out.length cv) (Zw (.int .i64 (((out.length : Int) : Int) - 1)) (kW (.pointer (some ⟨g, (out.length - 1) * 14, none⟩)) (by kernel_rfl) (ZA (b := g) (off := 0) (c := cv) (n := out.length) (k := .i64) (j := (out.length : Int) - 1) (e := 80) (sz := 14) hV) (Zw (.pointer (some ⟨g, (out.length - 1) * 14 + 7, none⟩)) (fP 2 ⟨g, cur, 80⟩ (off := (out.length - 1) * 14 + 7) (zF t.hi) (by kernel_rfl) rfl (by kernel_rfl) (by kernel_rfl) (gT yA hcurc (out.length - 1) 7 (by omega) (by omega) _ (by rw [ht]; kernel_rfl)) (Zw (.pointer (some ⟨b1, 0, none⟩)) (Zm 0 ⟨b1, (yI s).cells, 80⟩ (off := 0) (.agg #[.int .i64 s.lo.e, .int .i64 s.lo.v.maj, .int .i64 s.lo.v.min, .int .i64 s.lo.v.pat, .string (mkS s.lo.v.pre), .string (mkS s.lo.v.build), .bool s.lo.aft]) (Zq (k := 173) (args := #[zF t.hi, .agg #[.int .i64 s.lo.e, .int .i64 s.lo.v.maj, .int .i64 s.lo.v.min, .int .i64 s.lo.v.pat, .string (mkS s.lo.v.pre), .string (mkS s.lo.v.build), .bool s.lo.aft]]) (.int .i64 (zP t.hi s.lo)) (fun w _ => hY t.hi s.lo w htk.2 hsk.1) ?_)))))))))
    by_cases h5 : (zP t.hi s.lo : Int) < 0
    · refine q_dec (p := (zP t.hi s.lo : Int) < 0) true (by kernel_rfl) (fun _ => by kernel_rfl) (decide_eq_true (h5)) ?_
      refine Zw (.bool true) (qO (zC (Zt (ZO (Zv (.slice V out.length cv) (Zl 0 ⟨b1, (yI s).cells, 80⟩ (off := 0) (yI s) (vC 80 #[.int .i64 s.lo.e, .int .i64 s.lo.v.maj, .int .i64 s.lo.v.min, .int .i64 s.lo.v.pat, .string (mkS s.lo.v.pre), .string (mkS s.lo.v.build), .bool s.lo.aft, .int .i64 s.hi.e, .int .i64 s.hi.v.maj, .int .i64 s.hi.v.min, .int .i64 s.hi.v.pat, .string (mkS s.hi.v.pre), .string (mkS s.hi.v.build), .bool s.hi.aft] (by kernel_rfl) rfl (fun _ => by kernel_rfl) (fun b2 => k8 (L' := [⟨b2, #[.int .i64 s.lo.e, .int .i64 s.lo.v.maj, .int .i64 s.lo.v.min, .int .i64 s.lo.v.pat, .string (mkS s.lo.v.pre), .string (mkS s.lo.v.build), .bool s.lo.aft, .int .i64 s.hi.e, .int .i64 s.hi.v.maj, .int .i64 s.hi.v.min, .int .i64 s.hi.v.pat, .string (mkS s.hi.v.pre), .string (mkS s.hi.v.build), .bool s.hi.aft], 80⟩, ⟨b1, (yI s).cells, 80⟩, ⟨gb, curb, 80⟩] ++ [⟨g, cur, 80⟩] ++ []) (by rw [List.append_nil]; rfl) ?_))))))))
      obtain ⟨i, z, e1, e2, e3, e4, e5⟩ := vR
      refine g7 (sz := 14) (by kernel_rfl) rfl Tryz.underlying29 e1 e2 e3 e4 (by kernel_rfl) hrel.sl (a := ⟨b2, 0, none⟩) (m := 1) (c := 1) (news := x9 s) (by kernel_rfl) rfl (fun w hO j u hj => ?_) (qR _) (by unfold maxLen; omega) (by rw [e5]; omega) (fun v2 ob2 hv2 => ?_)
      · rw [xK, cell_of_row w b2 (0 + j) (x9 s).toArray 80 _ (hO.held ⟨b2, (x9 s).toArray, 80⟩ (List.mem_append_left _ (List.mem_append_left _ (List.mem_cons_self ..))))]; simpa using hj
      have hv3 : SlS v2 (out ++ [s]) ob2 := hv2.to (by simp) (by simp)
      obtain ⟨V2, c2, rfl⟩ := hv3.form
      refine Zv (.slice V2 ((out ++ [s]).length) c2) (ZN (y5 (zB (zH (zC (z7 (Zu (k := .i64) (((k + 1 : Nat) : Int)) (IntWalk.i64_in _ (by omega)) (Zv (.int .i64 ((k + 1 : Nat) : Int)) (zN (xS (L' := [⟨gb, curb, 80⟩] ++ ob2) (fun w hO => ?_) ?_))))))))))
      · have h2 := hO.apart; rw [List.append_nil] at hO; exact Own.sub [_, _] hO
      exact zU (m' := d.length - (k + 1)) (by omega) ⟨k + 1, V2, (out ++ [s]).length, c2, out ++ [s], ob2, _, ⟨rfl, hrel.step hk hs hsk (mstep_app (fun t' ht' => by rw [last_at (by omega) ht ht']; assumption)) hv3⟩, rfl, ZU, rfl⟩
    refine Ze (p := (zP t.hi s.lo : Int) < 0) false (decide_eq_false (h5)) (Zw (.bool false) (qO (zC (Zf (ZB (ok_drawt 14 (by kernel_rfl) (by kernel_rfl) (by kernel_rfl) ?_))))))
    simp only [List.take_succ_cons, List.take_zero, List.drop_succ_cons, List.drop_zero]
    refine Zw (.slice V out.length cv) (Zw (.int .i64 (((out.length : Int) : Int) - 1)) (Zw (.slice V out.length cv) (Zw (.int .i64 (((out.length : Int) : Int) - 1)) (kW (.pointer (some ⟨g, (out.length - 1) * 14, none⟩)) (by kernel_rfl) (ZA (b := g) (off := 0) (c := cv) (n := out.length) (k := .i64) (j := (out.length : Int) - 1) (e := 80) (sz := 14) hV) (Zw (.pointer (some ⟨g, (out.length - 1) * 14 + 7, none⟩)) (fP 2 ⟨g, cur, 80⟩ (off := (out.length - 1) * 14 + 7) (zF t.hi) (by kernel_rfl) rfl (by kernel_rfl) (by kernel_rfl) (gT yA hcurc (out.length - 1) 7 (by omega) (by omega) _ (by rw [ht]; kernel_rfl)) (Zw (.pointer (some ⟨b1, 7, none⟩)) (Zm 0 ⟨b1, (yI s).cells, 80⟩ (off := 7) (.agg #[.int .i64 s.hi.e, .int .i64 s.hi.v.maj, .int .i64 s.hi.v.min, .int .i64 s.hi.v.pat, .string (mkS s.hi.v.pre), .string (mkS s.hi.v.build), .bool s.hi.aft]) (Zq (k := 130) (args := #[zF t.hi, .agg #[.int .i64 s.hi.e, .int .i64 s.hi.v.maj, .int .i64 s.hi.v.min, .int .i64 s.hi.v.pat, .string (mkS s.hi.v.pre), .string (mkS s.hi.v.build), .bool s.hi.aft]]) (.tuple #[zF (yO t.hi s.hi), zF (yS t.hi s.hi)]) (fun w _ => gW t.hi s.hi w htk.2 hsk.2) (Zw (.tuple #[zF (yO t.hi s.hi), zF (yS t.hi s.hi)]) (Zw (zF (yO t.hi s.hi)) ?_)))))))))))
    refine Zw (zF (yS t.hi s.hi)) (kW (.pointer (some ⟨g, (out.length - 1) * 14, none⟩)) (by kernel_rfl) (ZA (b := g) (off := 0) (c := cv) (n := out.length) (k := .i64) (j := (out.length : Int) - 1) (e := 80) (sz := 14) hV) (qO (Zv (.pointer (some ⟨g, (out.length - 1) * 14 + 7, none⟩)) (s_storeS 2 ⟨g, cur, 80⟩ (off := (out.length - 1) * 14 + 7) (zF (yS t.hi s.hi)) 7 (by kernel_rfl) rfl rfl (by kernel_rfl) (by kernel_rfl) (by kernel_rfl) (by kernel_rfl) (by kernel_rfl) (by show (out.length - 1) * 14 + 7 + 7 ≤ cur.size; omega) (by kernel_rfl) ?_))))
    have hse := nN yA hcurc (out.length - 1) 7 (by omega) (zF (yS t.hi s.hi)).cells ⟨t.lo, yS t.hi s.hi⟩ (show 7 + 7 ≤ 14 by decide) (by rw [ht]; rfl)
    refine zN (zR (zC (z7 (Zu (k := .i64) (((k + 1 : Nat) : Int)) (IntWalk.i64_in _ (by omega)) (Zv (.int .i64 ((k + 1 : Nat) : Int)) (zN ?_))))))
    have hset : Merged d (k + 1) V cv (out.set (out.length - 1) ⟨t.lo, yS t.hi s.hi⟩) [⟨g, kC cur ((out.length - 1) * 14 + 7) (zF (yS t.hi s.hi)).cells, 80⟩] := hrel.step hk hs hsk (mstep_set (by omega) ht (by assumption)) (by rw [List.length_set]; exact ⟨by rw [uB yA, List.length_set], .inr ⟨g, cv, _, by rw [hV], rfl, hcapc, hmaxc, by rw [hse.2]; exact hszc, hse.1⟩⟩)
    refine xS (L' := [⟨gb, curb, 80⟩] ++ [⟨g, kC cur ((out.length - 1) * 14 + 7) (zF (yS t.hi s.hi)).cells, 80⟩]) (fun w hO => Own.sub [_] hO) ?_
    have hls : (out.set (out.length - 1) ⟨t.lo, yS t.hi s.hi⟩).length = out.length := List.length_set
    exact zU (m' := d.length - (k + 1)) (by omega) ⟨k + 1, V, out.length, cv, out.set (out.length - 1) ⟨t.lo, yS t.hi s.hi⟩, [⟨g, kC cur ((out.length - 1) * 14 + 7) (zF (yS t.hi s.hi)).cells, 80⟩], _, ⟨by rw [List.length_set], hset⟩, rfl, ZU, rfl⟩
  refine Zd (p := (k : Int) < (d.length : Int)) false (decide_eq_false (h3)) (ZN (z6 (Zf (y5 (zB (zM (zH (zC (z6 (z7 ?_))))))))))
  refine Zv (.slice V out.length cv) (yH (k := 132) (args := #[.slice V out.length cv]) (fun v' L' => ∃ ob', L' = od ++ ob' ∧ SlS v' out ob') (by kernel_rfl) (fun _ => by kernel_rfl) (fun w hO => uI (E := od) hO hrel.sl (by omega) hrel.short) (fun v4 L2 hv2 => ?_))
  obtain ⟨ob4, rfl, hs4⟩ := hv2
  exact Zv (v4) (Zv (.bool true) (ZN (zA (fin_ret2 (v4) (.bool true) Tryz.results136 (by kernel_rfl) (by kernel_rfl) (fun w hO => ⟨v4, ob4, by rw [hall], by rw [hall, if_pos rfl, show u9 l = out from by rw [← merge_eq (allMay_mem.1 hall) hdp hdso]; have he := hrel.eq; rw [List.take_of_length_le (by omega)] at he; exact he]; exact hs4, hO.sub od⟩)))))
end
end Go.Proofs.YtkljdpiaghepfaaGreatDoor
