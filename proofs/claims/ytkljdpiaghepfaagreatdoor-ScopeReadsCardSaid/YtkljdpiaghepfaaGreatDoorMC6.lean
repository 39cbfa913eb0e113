/-
  What the statement's proof leans on: the ways of walking, mM mathematics, and what the program's functions return; each theorem says on what conditions.
-/
import Derived.Test.YtkljdpiaghepfaaGreatDoorMC5
set_option maxRecDepth 1000000
set_option maxHeartbeats 8000000
set_option linter.unusedVariables false
set_option linter.unusedSimpArgs false
set_option linter.unnecessarySimpa false
namespace Go.Proofs.YtkljdpiaghepfaaGreatDoor
open Go.RowKit

section
theorem qO (s : List UInt8) : vT s = if zY s (zO 2) then (2, s.drop (zO 2).length) else if zY s (zO 4) then (4, s.drop (zO 4).length) else if zY s (zO 6) then (6, s.drop (zO 6).length) else if zY s (zO 1) then (1, s.drop (zO 1).length) else if zY s (zO 3) then (3, s.drop (zO 3).length) else if zY s (zO 5) then (5, s.drop (zO 5).length) else if zY s (zO 7) then (7, s.drop (zO 7).length) else if zY s (zO 8) then (8, s.drop (zO 8).length) else (if s.getLast? = some 42 then (9, s) else (7, s)) := rfl
theorem u6 {s t : List UInt8} (h : zY s t = true) : t.length ≤ s.length := by
  have q := congrArg List.length (of_decide_eq_true h)
  rw [List.length_take] at q; omega
theorem pre_hit {s : List UInt8} {k : Nat} (hk : k < s.length) (h : s[k] = 45) (hf : (45 : UInt8) ∉ s.take k) : yH 45 s = (s.take k, s.drop (k + 1), true) := by
  have e : s = s.take k ++ 45 :: s.drop (k + 1) := by
    have := (List.take_append_drop k s).symm
    rw [List.drop_eq_getElem_cons hk, h] at this; exact this
  conv => lhs; rw [e]
  exact nU 45 _ _ hf
theorem pre_on {s : List UInt8} {k : Nat} (hk : k < s.length) (h : ¬ s[k] = 45) (hf : (45 : UInt8) ∉ s.take k) : (45 : UInt8) ∉ s.take (k + 1) := by
  rw [List.take_succ_eq_append_getElem hk]
  intro hm
  rcases List.mem_append.1 hm with hm | hm
  · exact hf hm
  · exact h (List.mem_singleton.1 hm).symm
theorem jK {c : UInt8} {n : Nat} (hn : n < 256) : (c.toNat : Int) = (n : Int) ↔ c = UInt8.ofNat n := by
  constructor
  · intro h
    apply UInt8.toNat_inj.1
    rw [UInt8.toNat_ofNat']
    omega
  · intro h
    rw [h, UInt8.toNat_ofNat']; omega
theorem last_is {s : List UInt8} (h : 0 < s.length) {c : UInt8} (hc : s[s.length - 1]'(by omega) = c) : s.getLast? = some c := by
  rw [List.getLast?_eq_getElem?, List.getElem?_eq_getElem (by omega), hc]
def kL (l : List (List UInt8)) : Bool := decide (l.length ≤ 3) && l.all xZ
def zK (l : List (List UInt8)) : Ver := if kL l then ⟨zS (tg l 0), zS (tg l 1), zS (tg l 2), [], []⟩ else Ver.zero
theorem wA {l : List (List UInt8)} {i : Nat} (h : i < l.length) : l[i] = tg l i := by
  unfold tg
  rw [List.getElem?_eq_getElem h]; rfl
theorem nums_bad {l : List (List UInt8)} {i : Nat} (h : i < l.length) (hb : xZ (tg l i) = false) : kL l = false := by
  unfold kL
  cases hq : l.all xZ with
  | false => simp
  | true => rw [← wA h, List.all_eq_true.1 hq _ (List.getElem_mem h)] at hb; cases hb
theorem nums_big {l : List (List UInt8)} (h : 3 < l.length) : kL l = false := by unfold kL; rw [decide_eq_false (by omega)]; rfl
theorem nums_all {l : List (List UInt8)} (h3 : l.length ≤ 3) (h : ∀ i, i < l.length → xZ (tg l i) = true) : kL l = true := by
  unfold kL
  rw [decide_eq_true h3, List.all_eq_true.2]; · rfl
  intro x hx
  obtain ⟨i, hi, rfl⟩ := List.mem_iff_getElem.1 hx
  rw [wA hi]; exact h i hi
theorem wV {l : List (List UInt8)} {i : Nat} (h : l.length ≤ i) : zS (tg l i) = 0 := by
  unfold tg
  rw [List.getElem?_eq_none h]; rfl
theorem rcpre_any (s : List UInt8) (W : World) (hs : s.length ≤ 1000000) : Calls Tryz.prog 76 #[.string (mkS s)] W fun e w' => e = .returned (.tuple #[.string (mkS (yH 45 s).1), .string (mkS (yH 45 s).2.1)]) ∧ Below W.heap.size W w' := by
  have hsz := yY s
  refine Z2 (n := 23) Tryz.func76 rfl (ZO (Zv (.string ⟨#[]⟩) (Zv (.string ⟨#[]⟩) (ZN (z7 (ZO (Zv (.int .i64 0) (zP ?_))))))))
  refine z8 (zL (yL (fun L f m => ∃ (k : Nat) (j : Nat → Value), (k ≤ s.length ∧ (45 : UInt8) ∉ s.take k) ∧ L = [] ∧ f = xF j [(0, .string (mkS s)), (4, .int .i64 (k : Int))] ∧ m = s.length - k) (s.length - 0) ⟨0, _, ⟨Nat.zero_le _, by simp⟩, rfl, ZU, rfl⟩ ?_))
  rintro L f m ⟨k, j, hrel, rfl, rfl, rfl⟩
  have hkl := hrel.1
  refine z7 (ZO (Zv (.int .i64 (k : Int)) (Zv (.string (mkS s)) (Zv (.int .i64 ((mkS s).size)) ?_))))
  by_cases h1 : (k : Int) < (mkS s).size
  · have hk : k < s.length := by omega
    obtain ⟨ch, hch⟩ : ∃ x, s[k] = x := ⟨_, rfl⟩
    refine Zg h1 (ZY (ZB (z7 (zL (ZO (Zv (.string (mkS s)) (Zv (.int .i64 (k : Int)) ?_)))))))
    refine zU (.int .u8 (ch.toNat : Int)) (by kernel_rfl) (fun w => by rw [← hch]; exact jN (s := s) (k := .i64) (j := (k : Int)) rfl (by kernel_rfl) (by kernel_rfl) Tryz.underlying9 (by omega) (by omega) w) ?_
    by_cases h2 : (ch.toNat : Int) = 45
    · refine Zg h2 (ZY (z7 (kM (by kernel_rfl) (by kernel_rfl) (Zw (.string (mkS s)) (Zw (.int .i64 (k : Int)) (xH (.string (mkS (s.take k))) (by kernel_rfl) (nC (s := s) (k := .i64) (j := (k : Int)) rfl (by kernel_rfl) (by kernel_rfl) Tryz.underlying9 (by omega) (by omega)) (Zw (.string (mkS s)) (Zw (.int .i64 (k : Int)) (q_sum (k := .i64) (((k + 1 : Nat) : Int)) (by kernel_rfl) (fun _ => by kernel_rfl) (IntWalk.i64_in _ (by omega)) ?_)))))))))
      refine xH (.string (mkS (s.drop (k + 1)))) (by kernel_rfl) (qQ (s := s) (k := .i64) (j := ((k + 1 : Nat) : Int)) rfl (by kernel_rfl) (by kernel_rfl) Tryz.underlying9 (by omega) (by omega)) (Zw (.string (mkS (s.take k))) (Zw (.string (mkS (s.drop (k + 1)))) (xU (z8 (zB (zF (z6 (zW (zF (z6 (ZG (.string (mkS (s.take k))) (.string (mkS (s.drop (k + 1)))) Tryz.results76 ?_)))))))))))
      exact fun w hO => ⟨by rw [pre_hit hk (by rw [hch]; exact (jK (n := 45) (by decide)).1 h2) hrel.2], hO.below⟩
    refine Zh h2 (ZX (yC (zQ (z8 (zA (Zv (.int .i64 (k : Int)) (Zu (k := .i64) (((k + 1 : Nat) : Int)) (IntWalk.i64_in _ (by omega)) (Zv (.int .i64 ((k + 1 : Nat) : Int)) (zP ?_)))))))))
    exact zT (m' := s.length - (k + 1)) (by omega) ⟨k + 1, _, ⟨by omega, pre_on hk (fun q0 => h2 (by rw [hch] at q0; exact (jK (n := 45) (by decide)).2 q0)) hrel.2⟩, rfl, ZU, rfl⟩
  refine Zh h1 (ZX (y5 (zD (zN (zH (z8 (ZO (Zv (.string (mkS s)) ?_))))))))
  exact Zv (.string (mkS s)) (Zv (.string ⟨#[]⟩) (ZN (zB (ZG (.string (mkS s)) (.string ⟨#[]⟩) Tryz.results76 (fun w hO => ⟨by rw [uY 45 s (by have q0 := hrel.2; rwa [List.take_of_length_le (by omega)] at q0)]; rfl, hO.below⟩)))))
theorem rcsplit_any (s : List UInt8) (W : World) (hs : s.length ≤ 1000000) : Calls Tryz.prog 75 #[.string (mkS s)] W fun e w' => e = .returned (.tuple #[.int .i64 (vT s).1, .string (mkS (vT s).2)]) ∧ Below W.heap.size W w' := by
  have hsz := yY s
  refine Z2 (n := 43) Tryz.func75 rfl (ZO (Zv (.int .i64 0) (Zv (.string ⟨#[]⟩) (ZR (qC 3 Z9 (by kernel_rfl) rfl (fun _ => by kernel_rfl) (fun b1 => Zv (.slice (some ⟨b1, 0, none⟩) 8 8) (zP ?_)))))))
  refine z8 (z7 (ZO (Zv (.int .i64 0) (ZN (zL (yL (fun L f m => (∃  (j : Nat → Value), (True) ∧ L = [⟨b1, Z9, 3⟩] ∧ f = xF j [(0, .string (mkS s)), (4, .slice (some ⟨b1, 0, none⟩) 8 8), (5, .int .i64 0)] ∧ m = 9) ∨ (∃  (j : Nat → Value), (True ∧ zY s (zO 2) = false) ∧ L = [⟨b1, Z9, 3⟩] ∧ f = xF j [(0, .string (mkS s)), (4, .slice (some ⟨b1, 0, none⟩) 8 8), (5, .int .i64 1)] ∧ m = 8) ∨ (∃  (j : Nat → Value), (True ∧ zY s (zO 2) = false ∧ zY s (zO 4) = false) ∧ L = [⟨b1, Z9, 3⟩] ∧ f = xF j [(0, .string (mkS s)), (4, .slice (some ⟨b1, 0, none⟩) 8 8), (5, .int .i64 2)] ∧ m = 7) ∨ (∃  (j : Nat → Value), (True ∧ zY s (zO 2) = false ∧ zY s (zO 4) = false ∧ zY s (zO 6) = false) ∧ L = [⟨b1, Z9, 3⟩] ∧ f = xF j [(0, .string (mkS s)), (4, .slice (some ⟨b1, 0, none⟩) 8 8), (5, .int .i64 3)] ∧ m = 6) ∨ (∃  (j : Nat → Value), (True ∧ zY s (zO 2) = false ∧ zY s (zO 4) = false ∧ zY s (zO 6) = false ∧ zY s (zO 1) = false) ∧ L = [⟨b1, Z9, 3⟩] ∧ f = xF j [(0, .string (mkS s)), (4, .slice (some ⟨b1, 0, none⟩) 8 8), (5, .int .i64 4)] ∧ m = 5) ∨ (∃  (j : Nat → Value), (True ∧ zY s (zO 2) = false ∧ zY s (zO 4) = false ∧ zY s (zO 6) = false ∧ zY s (zO 1) = false ∧ zY s (zO 3) = false) ∧ L = [⟨b1, Z9, 3⟩] ∧ f = xF j [(0, .string (mkS s)), (4, .slice (some ⟨b1, 0, none⟩) 8 8), (5, .int .i64 5)] ∧ m = 4) ∨ (∃  (j : Nat → Value), (True ∧ zY s (zO 2) = false ∧ zY s (zO 4) = false ∧ zY s (zO 6) = false ∧ zY s (zO 1) = false ∧ zY s (zO 3) = false ∧ zY s (zO 5) = false) ∧ L = [⟨b1, Z9, 3⟩] ∧ f = xF j [(0, .string (mkS s)), (4, .slice (some ⟨b1, 0, none⟩) 8 8), (5, .int .i64 6)] ∧ m = 3) ∨ (∃  (j : Nat → Value), (True ∧ zY s (zO 2) = false ∧ zY s (zO 4) = false ∧ zY s (zO 6) = false ∧ zY s (zO 1) = false ∧ zY s (zO 3) = false ∧ zY s (zO 5) = false ∧ zY s (zO 7) = false) ∧ L = [⟨b1, Z9, 3⟩] ∧ f = xF j [(0, .string (mkS s)), (4, .slice (some ⟨b1, 0, none⟩) 8 8), (5, .int .i64 7)] ∧ m = 2) ∨ (∃  (j : Nat → Value), (True ∧ zY s (zO 2) = false ∧ zY s (zO 4) = false ∧ zY s (zO 6) = false ∧ zY s (zO 1) = false ∧ zY s (zO 3) = false ∧ zY s (zO 5) = false ∧ zY s (zO 7) = false ∧ zY s (zO 8) = false) ∧ L = [⟨b1, Z9, 3⟩] ∧ f = xF j [(0, .string (mkS s)), (4, .slice (some ⟨b1, 0, none⟩) 8 8), (5, .int .i64 8)] ∧ m = 1)) 9 (.inl ⟨_, trivial, rfl, ZU, rfl⟩) ?_))))))
  rintro L f m (⟨j, hrel, rfl, rfl, rfl⟩ | ⟨j, hrel, rfl, rfl, rfl⟩ | ⟨j, hrel, rfl, rfl, rfl⟩ | ⟨j, hrel, rfl, rfl, rfl⟩ | ⟨j, hrel, rfl, rfl, rfl⟩ | ⟨j, hrel, rfl, rfl, rfl⟩ | ⟨j, hrel, rfl, rfl, rfl⟩ | ⟨j, hrel, rfl, rfl, rfl⟩ | ⟨j, hrel, rfl, rfl, rfl⟩)
  · refine z7 (ZO (Zv (.int .i64 0) (Zv (.slice (some ⟨b1, 0, none⟩) 8 8) (Zv (.int .i64 (8 : Int)) (Zv Z4 (ZY (yC (z8 ?_))))))))
    refine z7 (zL (ZO (Zv (.slice (some ⟨b1, 0, none⟩) 8 8) (Zv (.int .i64 0) (zU (Zp b1 0) (by kernel_rfl) (yP (b := b1) (off := 0) (n := 8) (c := 8) (k := .i64) (j := 0) (e := 3) (sz := 1) rfl (by kernel_rfl) (by kernel_rfl) (by kernel_rfl) (by kernel_rfl) (by omega) (by omega) (by rfl)) (Zl 0 ⟨b1, Z9, 3⟩ (off := 0) (.int .i64 2) (Zc (k := 123) (args := #[.int .i64 2]) (.string (mkS (zO 2))) (fun w _ => qZ 2 w) (Zv (.string (mkS (zO 2))) (zP (z8 ?_))))))))))
    refine ZO (Zv (.string (mkS s)) (Zv (.string (mkS (zO 2))) (Zc (k := 124) (args := #[.string (mkS s), .string (mkS (zO 2))]) (.bool (zY s (zO 2))) (fun w _ => qD s (zO 2) w) (zP (z8 ?_)))))
    cases h1 : zY s (zO 2) with
    | true =>
      have hble := u6 h1
      refine Zt (z7 (kM (by kernel_rfl) (by kernel_rfl) (Zw (.slice (some ⟨b1, 0, none⟩) 8 8) (Zw (.int .i64 0) (xH (Zp b1 0) (by kernel_rfl) (yP (b := b1) (off := 0) (n := 8) (c := 8) (k := .i64) (j := 0) (e := 3) (sz := 1) rfl (by kernel_rfl) (by kernel_rfl) (by kernel_rfl) (by kernel_rfl) (by omega) (by omega) (by rfl)) (Zm 0 ⟨b1, Z9, 3⟩ (off := 0) (.int .i64 2) (Zw (.string (mkS s)) (Zw (.string (mkS (zO 2))) (Zw (.int .i64 ((mkS (zO 2)).size)) (xH (.string (mkS (s.drop (zO 2).length))) (by kernel_rfl) (qQ (s := s) (k := .i64) (j := (((zO 2).length : Nat) : Int)) rfl (by kernel_rfl) (by kernel_rfl) Tryz.underlying9 (by omega) (by omega)) (Zw (.int .i64 2) ?_)))))))))))
      exact Zw (.string (mkS (s.drop (zO 2).length))) (xU (z8 (zB (zF (z6 (zW (zF (z6 (ZG (.int .i64 2) (.string (mkS (s.drop (zO 2).length))) Tryz.results75 (fun w hO => ⟨by rw [qO]; simp only [h1, if_true, if_false, Bool.false_eq_true], hO.below⟩))))))))))
    | false =>
      exact Zf (yC (zQ (z8 (zA (Zv (.int .i64 0) (Zv (.int .i64 1) (Zv (.int .i64 1) (zP (zT (m' := 8) (by decide) (.inr (.inl ⟨_, ⟨trivial, (by first | assumption | rfl)⟩, rfl, ZU, rfl⟩)))))))))))
  · obtain ⟨_, q0⟩ := hrel
    refine z7 (ZO (Zv (.int .i64 1) (Zv (.slice (some ⟨b1, 0, none⟩) 8 8) (Zv (.int .i64 (8 : Int)) (Zv Z4 (ZY (yC (z8 ?_))))))))
    refine z7 (zL (ZO (Zv (.slice (some ⟨b1, 0, none⟩) 8 8) (Zv (.int .i64 1) (zU (Zp b1 1) (by kernel_rfl) (yP (b := b1) (off := 0) (n := 8) (c := 8) (k := .i64) (j := 1) (e := 3) (sz := 1) rfl (by kernel_rfl) (by kernel_rfl) (by kernel_rfl) (by kernel_rfl) (by omega) (by omega) (by rfl)) (Zl 0 ⟨b1, Z9, 3⟩ (off := 1) (.int .i64 4) (Zc (k := 123) (args := #[.int .i64 4]) (.string (mkS (zO 4))) (fun w _ => qZ 4 w) (Zv (.string (mkS (zO 4))) (zP (z8 ?_))))))))))
    refine ZO (Zv (.string (mkS s)) (Zv (.string (mkS (zO 4))) (Zc (k := 124) (args := #[.string (mkS s), .string (mkS (zO 4))]) (.bool (zY s (zO 4))) (fun w _ => qD s (zO 4) w) (zP (z8 ?_)))))
    cases h2 : zY s (zO 4) with
    | true =>
      have hble := u6 h2
      refine Zt (z7 (kM (by kernel_rfl) (by kernel_rfl) (Zw (.slice (some ⟨b1, 0, none⟩) 8 8) (Zw (.int .i64 1) (xH (Zp b1 1) (by kernel_rfl) (yP (b := b1) (off := 0) (n := 8) (c := 8) (k := .i64) (j := 1) (e := 3) (sz := 1) rfl (by kernel_rfl) (by kernel_rfl) (by kernel_rfl) (by kernel_rfl) (by omega) (by omega) (by rfl)) (Zm 0 ⟨b1, Z9, 3⟩ (off := 1) (.int .i64 4) (Zw (.string (mkS s)) (Zw (.string (mkS (zO 4))) (Zw (.int .i64 ((mkS (zO 4)).size)) (xH (.string (mkS (s.drop (zO 4).length))) (by kernel_rfl) (qQ (s := s) (k := .i64) (j := (((zO 4).length : Nat) : Int)) rfl (by kernel_rfl) (by kernel_rfl) Tryz.underlying9 (by omega) (by omega)) (Zw (.int .i64 4) ?_)))))))))))
      exact Zw (.string (mkS (s.drop (zO 4).length))) (xU (z8 (zB (zF (z6 (zW (zF (z6 (ZG (.int .i64 4) (.string (mkS (s.drop (zO 4).length))) Tryz.results75 (fun w hO => ⟨by rw [qO]; simp only [q0, h2, if_true, if_false, Bool.false_eq_true], hO.below⟩))))))))))
    | false =>
      exact Zf (yC (zQ (z8 (zA (Zv (.int .i64 1) (Zv (.int .i64 2) (Zv (.int .i64 2) (zP (zT (m' := 7) (by decide) (.inr (.inr (.inl ⟨_, ⟨trivial, q0, (by first | assumption | rfl)⟩, rfl, ZU, rfl⟩))))))))))))
  · obtain ⟨_, q0, q1⟩ := hrel
    refine z7 (ZO (Zv (.int .i64 2) (Zv (.slice (some ⟨b1, 0, none⟩) 8 8) (Zv (.int .i64 (8 : Int)) (Zv Z4 (ZY (yC (z8 ?_))))))))
    refine z7 (zL (ZO (Zv (.slice (some ⟨b1, 0, none⟩) 8 8) (Zv (.int .i64 2) (zU (Zp b1 2) (by kernel_rfl) (yP (b := b1) (off := 0) (n := 8) (c := 8) (k := .i64) (j := 2) (e := 3) (sz := 1) rfl (by kernel_rfl) (by kernel_rfl) (by kernel_rfl) (by kernel_rfl) (by omega) (by omega) (by rfl)) (Zl 0 ⟨b1, Z9, 3⟩ (off := 2) (.int .i64 6) (Zc (k := 123) (args := #[.int .i64 6]) (.string (mkS (zO 6))) (fun w _ => qZ 6 w) (Zv (.string (mkS (zO 6))) (zP (z8 ?_))))))))))
    refine ZO (Zv (.string (mkS s)) (Zv (.string (mkS (zO 6))) (Zc (k := 124) (args := #[.string (mkS s), .string (mkS (zO 6))]) (.bool (zY s (zO 6))) (fun w _ => qD s (zO 6) w) (zP (z8 ?_)))))
    cases h3 : zY s (zO 6) with
    | true =>
      have hble := u6 h3
      refine Zt (z7 (kM (by kernel_rfl) (by kernel_rfl) (Zw (.slice (some ⟨b1, 0, none⟩) 8 8) (Zw (.int .i64 2) (xH (Zp b1 2) (by kernel_rfl) (yP (b := b1) (off := 0) (n := 8) (c := 8) (k := .i64) (j := 2) (e := 3) (sz := 1) rfl (by kernel_rfl) (by kernel_rfl) (by kernel_rfl) (by kernel_rfl) (by omega) (by omega) (by rfl)) (Zm 0 ⟨b1, Z9, 3⟩ (off := 2) (.int .i64 6) (Zw (.string (mkS s)) (Zw (.string (mkS (zO 6))) (Zw (.int .i64 ((mkS (zO 6)).size)) (xH (.string (mkS (s.drop (zO 6).length))) (by kernel_rfl) (qQ (s := s) (k := .i64) (j := (((zO 6).length : Nat) : Int)) rfl (by kernel_rfl) (by kernel_rfl) Tryz.underlying9 (by omega) (by omega)) (Zw (.int .i64 6) ?_)))))))))))
      exact Zw (.string (mkS (s.drop (zO 6).length))) (xU (z8 (zB (zF (z6 (zW (zF (z6 (ZG (.int .i64 6) (.string (mkS (s.drop (zO 6).length))) Tryz.results75 (fun w hO => ⟨by rw [qO]; simp only [q0, q1, h3, if_true, if_false, Bool.false_eq_true], hO.below⟩))))))))))
    | false =>
      exact Zf (yC (zQ (z8 (zA (Zv (.int .i64 2) (Zv (.int .i64 3) (Zv (.int .i64 3) (zP (zT (m' := 6) (by decide) (.inr (.inr (.inr (.inl ⟨_, ⟨trivial, q0, q1, (by first | assumption | rfl)⟩, rfl, ZU, rfl⟩)))))))))))))
  · obtain ⟨_, q0, q1, q2⟩ := hrel
    refine z7 (ZO (Zv (.int .i64 3) (Zv (.slice (some ⟨b1, 0, none⟩) 8 8) (Zv (.int .i64 (8 : Int)) (Zv Z4 (ZY (yC (z8 ?_))))))))
    refine z7 (zL (ZO (Zv (.slice (some ⟨b1, 0, none⟩) 8 8) (Zv (.int .i64 3) (zU (Zp b1 3) (by kernel_rfl) (yP (b := b1) (off := 0) (n := 8) (c := 8) (k := .i64) (j := 3) (e := 3) (sz := 1) rfl (by kernel_rfl) (by kernel_rfl) (by kernel_rfl) (by kernel_rfl) (by omega) (by omega) (by rfl)) (Zl 0 ⟨b1, Z9, 3⟩ (off := 3) (.int .i64 1) (Zc (k := 123) (args := #[.int .i64 1]) (.string (mkS (zO 1))) (fun w _ => qZ 1 w) (Zv (.string (mkS (zO 1))) (zP (z8 ?_))))))))))
    refine ZO (Zv (.string (mkS s)) (Zv (.string (mkS (zO 1))) (Zc (k := 124) (args := #[.string (mkS s), .string (mkS (zO 1))]) (.bool (zY s (zO 1))) (fun w _ => qD s (zO 1) w) (zP (z8 ?_)))))
    cases h4 : zY s (zO 1) with
    | true =>
      have hble := u6 h4
      refine Zt (z7 (kM (by kernel_rfl) (by kernel_rfl) (Zw (.slice (some ⟨b1, 0, none⟩) 8 8) (Zw (.int .i64 3) (xH (Zp b1 3) (by kernel_rfl) (yP (b := b1) (off := 0) (n := 8) (c := 8) (k := .i64) (j := 3) (e := 3) (sz := 1) rfl (by kernel_rfl) (by kernel_rfl) (by kernel_rfl) (by kernel_rfl) (by omega) (by omega) (by rfl)) (Zm 0 ⟨b1, Z9, 3⟩ (off := 3) (.int .i64 1) (Zw (.string (mkS s)) (Zw (.string (mkS (zO 1))) (Zw (.int .i64 ((mkS (zO 1)).size)) (xH (.string (mkS (s.drop (zO 1).length))) (by kernel_rfl) (qQ (s := s) (k := .i64) (j := (((zO 1).length : Nat) : Int)) rfl (by kernel_rfl) (by kernel_rfl) Tryz.underlying9 (by omega) (by omega)) (Zw (.int .i64 1) ?_)))))))))))
      exact Zw (.string (mkS (s.drop (zO 1).length))) (xU (z8 (zB (zF (z6 (zW (zF (z6 (ZG (.int .i64 1) (.string (mkS (s.drop (zO 1).length))) Tryz.results75 (fun w hO => ⟨by rw [qO]; simp only [q0, q1, q2, h4, if_true, if_false, Bool.false_eq_true], hO.below⟩))))))))))
    | false =>
      exact Zf (yC (zQ (z8 (zA (Zv (.int .i64 3) (Zv (.int .i64 4) (Zv (.int .i64 4) (zP (zT (m' := 5) (by decide) (.inr (.inr (.inr (.inr (.inl ⟨_, ⟨trivial, q0, q1, q2, (by first | assumption | rfl)⟩, rfl, ZU, rfl⟩))))))))))))))
  · obtain ⟨_, q0, q1, q2, q3⟩ := hrel
    refine z7 (ZO (Zv (.int .i64 4) (Zv (.slice (some ⟨b1, 0, none⟩) 8 8) (Zv (.int .i64 (8 : Int)) (Zv Z4 (ZY (yC (z8 ?_))))))))
    refine z7 (zL (ZO (Zv (.slice (some ⟨b1, 0, none⟩) 8 8) (Zv (.int .i64 4) (zU (Zp b1 4) (by kernel_rfl) (yP (b := b1) (off := 0) (n := 8) (c := 8) (k := .i64) (j := 4) (e := 3) (sz := 1) rfl (by kernel_rfl) (by kernel_rfl) (by kernel_rfl) (by kernel_rfl) (by omega) (by omega) (by rfl)) (Zl 0 ⟨b1, Z9, 3⟩ (off := 4) (.int .i64 3) (Zc (k := 123) (args := #[.int .i64 3]) (.string (mkS (zO 3))) (fun w _ => qZ 3 w) (Zv (.string (mkS (zO 3))) (zP (z8 ?_))))))))))
    refine ZO (Zv (.string (mkS s)) (Zv (.string (mkS (zO 3))) (Zc (k := 124) (args := #[.string (mkS s), .string (mkS (zO 3))]) (.bool (zY s (zO 3))) (fun w _ => qD s (zO 3) w) (zP (z8 ?_)))))
    cases h5 : zY s (zO 3) with
    | true =>
      have hble := u6 h5
      refine Zt (z7 (kM (by kernel_rfl) (by kernel_rfl) (Zw (.slice (some ⟨b1, 0, none⟩) 8 8) (Zw (.int .i64 4) (xH (Zp b1 4) (by kernel_rfl) (yP (b := b1) (off := 0) (n := 8) (c := 8) (k := .i64) (j := 4) (e := 3) (sz := 1) rfl (by kernel_rfl) (by kernel_rfl) (by kernel_rfl) (by kernel_rfl) (by omega) (by omega) (by rfl)) (Zm 0 ⟨b1, Z9, 3⟩ (off := 4) (.int .i64 3) (Zw (.string (mkS s)) (Zw (.string (mkS (zO 3))) (Zw (.int .i64 ((mkS (zO 3)).size)) (xH (.string (mkS (s.drop (zO 3).length))) (by kernel_rfl) (qQ (s := s) (k := .i64) (j := (((zO 3).length : Nat) : Int)) rfl (by kernel_rfl) (by kernel_rfl) Tryz.underlying9 (by omega) (by omega)) (Zw (.int .i64 3) ?_)))))))))))
      exact Zw (.string (mkS (s.drop (zO 3).length))) (xU (z8 (zB (zF (z6 (zW (zF (z6 (ZG (.int .i64 3) (.string (mkS (s.drop (zO 3).length))) Tryz.results75 (fun w hO => ⟨by rw [qO]; simp only [q0, q1, q2, q3, h5, if_true, if_false, Bool.false_eq_true], hO.below⟩))))))))))
    | false =>
      exact Zf (yC (zQ (z8 (zA (Zv (.int .i64 4) (Zv (.int .i64 5) (Zv (.int .i64 5) (zP (zT (m' := 4) (by decide) (.inr (.inr (.inr (.inr (.inr (.inl ⟨_, ⟨trivial, q0, q1, q2, q3, (by first | assumption | rfl)⟩, rfl, ZU, rfl⟩)))))))))))))))
  · obtain ⟨_, q0, q1, q2, q3, q4⟩ := hrel
    refine z7 (ZO (Zv (.int .i64 5) (Zv (.slice (some ⟨b1, 0, none⟩) 8 8) (Zv (.int .i64 (8 : Int)) (Zv Z4 (ZY (yC (z8 ?_))))))))
    refine z7 (zL (ZO (Zv (.slice (some ⟨b1, 0, none⟩) 8 8) (Zv (.int .i64 5) (zU (Zp b1 5) (by kernel_rfl) (yP (b := b1) (off := 0) (n := 8) (c := 8) (k := .i64) (j := 5) (e := 3) (sz := 1) rfl (by kernel_rfl) (by kernel_rfl) (by kernel_rfl) (by kernel_rfl) (by omega) (by omega) (by rfl)) (Zl 0 ⟨b1, Z9, 3⟩ (off := 5) (.int .i64 5) (Zc (k := 123) (args := #[.int .i64 5]) (.string (mkS (zO 5))) (fun w _ => qZ 5 w) (Zv (.string (mkS (zO 5))) (zP (z8 ?_))))))))))
    refine ZO (Zv (.string (mkS s)) (Zv (.string (mkS (zO 5))) (Zc (k := 124) (args := #[.string (mkS s), .string (mkS (zO 5))]) (.bool (zY s (zO 5))) (fun w _ => qD s (zO 5) w) (zP (z8 ?_)))))
    cases h6 : zY s (zO 5) with
    | true =>
      have hble := u6 h6
      refine Zt (z7 (kM (by kernel_rfl) (by kernel_rfl) (Zw (.slice (some ⟨b1, 0, none⟩) 8 8) (Zw (.int .i64 5) (xH (Zp b1 5) (by kernel_rfl) (yP (b := b1) (off := 0) (n := 8) (c := 8) (k := .i64) (j := 5) (e := 3) (sz := 1) rfl (by kernel_rfl) (by kernel_rfl) (by kernel_rfl) (by kernel_rfl) (by omega) (by omega) (by rfl)) (Zm 0 ⟨b1, Z9, 3⟩ (off := 5) (.int .i64 5) (Zw (.string (mkS s)) (Zw (.string (mkS (zO 5))) (Zw (.int .i64 ((mkS (zO 5)).size)) (xH (.string (mkS (s.drop (zO 5).length))) (by kernel_rfl) (qQ (s := s) (k := .i64) (j := (((zO 5).length : Nat) : Int)) rfl (by kernel_rfl) (by kernel_rfl) Tryz.underlying9 (by omega) (by omega)) (Zw (.int .i64 5) ?_)))))))))))
      exact Zw (.string (mkS (s.drop (zO 5).length))) (xU (z8 (zB (zF (z6 (zW (zF (z6 (ZG (.int .i64 5) (.string (mkS (s.drop (zO 5).length))) Tryz.results75 (fun w hO => ⟨by rw [qO]; simp only [q0, q1, q2, q3, q4, h6, if_true, if_false, Bool.false_eq_true], hO.below⟩))))))))))
    | false =>
      exact Zf (yC (zQ (z8 (zA (Zv (.int .i64 5) (Zv (.int .i64 6) (Zv (.int .i64 6) (zP (zT (m' := 3) (by decide) (.inr (.inr (.inr (.inr (.inr (.inr (.inl ⟨_, ⟨trivial, q0, q1, q2, q3, q4, (by first | assumption | rfl)⟩, rfl, ZU, rfl⟩))))))))))))))))
  · obtain ⟨_, q0, q1, q2, q3, q4, q5⟩ := hrel
    refine z7 (ZO (Zv (.int .i64 6) (Zv (.slice (some ⟨b1, 0, none⟩) 8 8) (Zv (.int .i64 (8 : Int)) (Zv Z4 (ZY (yC (z8 ?_))))))))
    refine z7 (zL (ZO (Zv (.slice (some ⟨b1, 0, none⟩) 8 8) (Zv (.int .i64 6) (zU (Zp b1 6) (by kernel_rfl) (yP (b := b1) (off := 0) (n := 8) (c := 8) (k := .i64) (j := 6) (e := 3) (sz := 1) rfl (by kernel_rfl) (by kernel_rfl) (by kernel_rfl) (by kernel_rfl) (by omega) (by omega) (by rfl)) (Zl 0 ⟨b1, Z9, 3⟩ (off := 6) (.int .i64 7) (Zc (k := 123) (args := #[.int .i64 7]) (.string (mkS (zO 7))) (fun w _ => qZ 7 w) (Zv (.string (mkS (zO 7))) (zP (z8 ?_))))))))))
    refine ZO (Zv (.string (mkS s)) (Zv (.string (mkS (zO 7))) (Zc (k := 124) (args := #[.string (mkS s), .string (mkS (zO 7))]) (.bool (zY s (zO 7))) (fun w _ => qD s (zO 7) w) (zP (z8 ?_)))))
    cases h7 : zY s (zO 7) with
    | true =>
      have hble := u6 h7
      refine Zt (z7 (kM (by kernel_rfl) (by kernel_rfl) (Zw (.slice (some ⟨b1, 0, none⟩) 8 8) (Zw (.int .i64 6) (xH (Zp b1 6) (by kernel_rfl) (yP (b := b1) (off := 0) (n := 8) (c := 8) (k := .i64) (j := 6) (e := 3) (sz := 1) rfl (by kernel_rfl) (by kernel_rfl) (by kernel_rfl) (by kernel_rfl) (by omega) (by omega) (by rfl)) (Zm 0 ⟨b1, Z9, 3⟩ (off := 6) (.int .i64 7) (Zw (.string (mkS s)) (Zw (.string (mkS (zO 7))) (Zw (.int .i64 ((mkS (zO 7)).size)) (xH (.string (mkS (s.drop (zO 7).length))) (by kernel_rfl) (qQ (s := s) (k := .i64) (j := (((zO 7).length : Nat) : Int)) rfl (by kernel_rfl) (by kernel_rfl) Tryz.underlying9 (by omega) (by omega)) (Zw (.int .i64 7) ?_)))))))))))
      exact Zw (.string (mkS (s.drop (zO 7).length))) (xU (z8 (zB (zF (z6 (zW (zF (z6 (ZG (.int .i64 7) (.string (mkS (s.drop (zO 7).length))) Tryz.results75 (fun w hO => ⟨by rw [qO]; simp only [q0, q1, q2, q3, q4, q5, h7, if_true, if_false, Bool.false_eq_true], hO.below⟩))))))))))
    | false =>
      exact Zf (yC (zQ (z8 (zA (Zv (.int .i64 6) (Zv (.int .i64 7) (Zv (.int .i64 7) (zP (zT (m' := 2) (by decide) (.inr (.inr (.inr (.inr (.inr (.inr (.inr (.inl ⟨_, ⟨trivial, q0, q1, q2, q3, q4, q5, (by first | assumption | rfl)⟩, rfl, ZU, rfl⟩)))))))))))))))))
  · obtain ⟨_, q0, q1, q2, q3, q4, q5, q6⟩ := hrel
    refine z7 (ZO (Zv (.int .i64 7) (Zv (.slice (some ⟨b1, 0, none⟩) 8 8) (Zv (.int .i64 (8 : Int)) (Zv Z4 (ZY (yC (z8 ?_))))))))
    refine z7 (zL (ZO (Zv (.slice (some ⟨b1, 0, none⟩) 8 8) (Zv (.int .i64 7) (zU (Zp b1 7) (by kernel_rfl) (yP (b := b1) (off := 0) (n := 8) (c := 8) (k := .i64) (j := 7) (e := 3) (sz := 1) rfl (by kernel_rfl) (by kernel_rfl) (by kernel_rfl) (by kernel_rfl) (by omega) (by omega) (by rfl)) (Zl 0 ⟨b1, Z9, 3⟩ (off := 7) (.int .i64 8) (Zc (k := 123) (args := #[.int .i64 8]) (.string (mkS (zO 8))) (fun w _ => qZ 8 w) (Zv (.string (mkS (zO 8))) (zP (z8 ?_))))))))))
    refine ZO (Zv (.string (mkS s)) (Zv (.string (mkS (zO 8))) (Zc (k := 124) (args := #[.string (mkS s), .string (mkS (zO 8))]) (.bool (zY s (zO 8))) (fun w _ => qD s (zO 8) w) (zP (z8 ?_)))))
    cases h8 : zY s (zO 8) with
    | true =>
      have hble := u6 h8
      refine Zt (z7 (kM (by kernel_rfl) (by kernel_rfl) (Zw (.slice (some ⟨b1, 0, none⟩) 8 8) (Zw (.int .i64 7) (xH (Zp b1 7) (by kernel_rfl) (yP (b := b1) (off := 0) (n := 8) (c := 8) (k := .i64) (j := 7) (e := 3) (sz := 1) rfl (by kernel_rfl) (by kernel_rfl) (by kernel_rfl) (by kernel_rfl) (by omega) (by omega) (by rfl)) (Zm 0 ⟨b1, Z9, 3⟩ (off := 7) (.int .i64 8) (Zw (.string (mkS s)) (Zw (.string (mkS (zO 8))) (Zw (.int .i64 ((mkS (zO 8)).size)) (xH (.string (mkS (s.drop (zO 8).length))) (by kernel_rfl) (qQ (s := s) (k := .i64) (j := (((zO 8).length : Nat) : Int)) rfl (by kernel_rfl) (by kernel_rfl) Tryz.underlying9 (by omega) (by omega)) (Zw (.int .i64 8) ?_)))))))))))
      exact Zw (.string (mkS (s.drop (zO 8).length))) (xU (z8 (zB (zF (z6 (zW (zF (z6 (ZG (.int .i64 8) (.string (mkS (s.drop (zO 8).length))) Tryz.results75 (fun w hO => ⟨by rw [qO]; simp only [q0, q1, q2, q3, q4, q5, q6, h8, if_true, if_false, Bool.false_eq_true], hO.below⟩))))))))))
    | false =>
      exact Zf (yC (zQ (z8 (zA (Zv (.int .i64 7) (Zv (.int .i64 8) (Zv (.int .i64 8) (zP (zT (m' := 1) (by decide) (.inr (.inr (.inr (.inr (.inr (.inr (.inr (.inr (⟨_, ⟨trivial, q0, q1, q2, q3, q4, q5, q6, (by first | assumption | rfl)⟩, rfl, ZU, rfl⟩))))))))))))))))))
  obtain ⟨_, q0, q1, q2, q3, q4, q5, q6, q7⟩ := hrel
  refine z7 (ZO (Zv (.int .i64 8) (Zv (.slice (some ⟨b1, 0, none⟩) 8 8) (Zv (.int .i64 (8 : Int)) (Zv Z5 (ZX (y5 (zD ?_))))))))
  refine zN (zH (z8 (z7 (ZO (Zv (.string (mkS s)) (Zv (.int .i64 ((mkS s).size)) ?_))))))
  by_cases h9 : (0 : Int) < (mkS s).size
  · have hk : 0 < s.length := by omega
    obtain ⟨ch, hch⟩ : ∃ x, s[s.length - 1]'(by omega) = x := ⟨_, rfl⟩
    refine Zg h9 (Zv Z4 (Zv (.string (mkS s)) (Zv (.string (mkS s)) (Zv (.int .i64 ((mkS s).size)) (Zu (k := .i64) ((((mkS s).size) : Int) - 1) (IntWalk.i64_in _ (by omega)) (zU (.int .u8 (ch.toNat : Int)) (by kernel_rfl) (fun w => by rw [← hch]; exact jN (s := s) (k := .i64) (j := ((s.length - 1 : Nat) : Int)) rfl (by kernel_rfl) (by rw [show ((s.length - 1 : Nat) : Int) = (mkS s).size - 1 by omega]; kernel_rfl) Tryz.underlying9 (by omega) (by omega) w) ?_))))))
    by_cases h10 : (ch.toNat : Int) = 42
    · refine Zg h10 (Zv Z4 (ZY (ZO (Zv (.string (mkS s)) (Zv (.int .i64 9) (Zv (.string (mkS s)) (zP (z8 ?_))))))))
      exact zB (z6 (ZG (.int .i64 9) (.string (mkS s)) Tryz.results75 (fun w hO => ⟨by rw [qO]; simp only [q0, q1, q2, q3, q4, q5, q6, q7, if_false, Bool.false_eq_true]; rw [if_pos (by rw [last_is hk hch, (jK (n := 42) (by decide)).1 h10]; rfl)], hO.below⟩)))
    refine Zh h10 (Zv Z5 (ZX (ZB (ZO (Zv (.string (mkS s)) (Zv (.int .i64 7) (Zv (.string (mkS s)) ?_)))))))
    exact ZN (zB (ZG (.int .i64 7) (.string (mkS s)) Tryz.results75 (fun w hO => ⟨by rw [qO]; simp only [q0, q1, q2, q3, q4, q5, q6, q7, if_false, Bool.false_eq_true]; rw [if_neg (by rw [last_is hk hch]; intro q9; exact h10 ((jK (n := 42) (by decide)).2 (Option.some.inj q9)))], hO.below⟩)))
  refine Zh h9 (Zv Z5 (Zk (Zk (Zk (Zk (Zk (Zk (Zv Z5 (ZN (Zf ?_))))))))))
  exact ZB (ZO (Zv (.string (mkS s)) (Zv (.int .i64 7) (Zv (.string (mkS s)) (ZN (zB (ZG (.int .i64 7) (.string (mkS s)) Tryz.results75 (fun w hO => ⟨by rw [qO]; simp only [q0, q1, q2, q3, q4, q5, q6, q7, if_false, Bool.false_eq_true]; rw [if_neg (by rw [List.eq_nil_of_length_eq_zero (show s.length = 0 by omega)]; decide)], hO.below⟩))))))))
end
section
theorem pJ (A : Option Addr) (n cap : Nat) (l : List (List UInt8)) (W : World) (hv : Reads wX W W.heap.size A l) (hn : n = l.length) (htl : ∀ i, (tg l i).length ≤ 1000000) (hmx : l.length ≤ 4000000) : Calls Tryz.prog 77 #[.slice A n cap] W fun e w' => e = .returned (.tuple #[y8 (zK l), .bool (kL l)]) ∧ Below W.heap.size W w' := by
  refine Z2 (n := 39) Tryz.func77 rfl (ZO (Za (.agg Z1) (fun b1 => Zv Z5 (ZR (Za (.agg Zp0) (fun b2 => zP (z8 ?_)))))))
  refine z7 (ZO (Zv (.slice A n cap) (Zv (.int .i64 (n : Int)) ?_)))
  by_cases h1 : (3 : Int) < (n : Int)
  · have hk : 3 < l.length := by omega
    obtain ⟨b, off, hA, hlt, hcell⟩ := hv (by omega)
    refine Zg h1 (ZY (ZO (Zv (.agg Z1) (Zs 1 ⟨b1, Z1, 44⟩ (off := 0) (.agg Z1) (Zv Z5 (ZN (zB ?_)))))))
    exact z6 (ZD 1 ⟨b1, Z1, 44⟩ (off := 0) (.agg Z1) Z5 Tryz.results77 (fun w hO => ⟨by have hno : kL l = false := nums_big (by omega); rw [show zK l = Ver.zero from if_neg (by rw [hno]; decide), hno]; rfl, hO.below⟩))
  refine Zh h1 (ZX (ZB (z7 (ZO (Zv (.int .i64 0) (zP (z8 ?_)))))))
  refine zL (yL (fun L f m => (∃  (j : Nat → Value), (0 ≤ l.length) ∧ L = [⟨b2, Zp0, 88⟩, ⟨b1, Z1, 44⟩] ∧ f = xF j [(0, .slice A n cap), (2, Zp b1 0), (4, Zp b2 0), (5, .int .i64 0)] ∧ m = 4) ∨ (∃  (j : Nat → Value), (1 ≤ l.length ∧ xZ (tg l 0) = true) ∧ L = [⟨b2, #[.int .i64 (zS (tg l 0)), .int .i64 0, .int .i64 0], 88⟩, ⟨b1, Z1, 44⟩] ∧ f = xF j [(0, .slice A n cap), (2, Zp b1 0), (4, Zp b2 0), (5, .int .i64 1)] ∧ m = 3) ∨ (∃  (j : Nat → Value), (2 ≤ l.length ∧ xZ (tg l 0) = true ∧ xZ (tg l 1) = true) ∧ L = [⟨b2, #[.int .i64 (zS (tg l 0)), .int .i64 (zS (tg l 1)), .int .i64 0], 88⟩, ⟨b1, Z1, 44⟩] ∧ f = xF j [(0, .slice A n cap), (2, Zp b1 0), (4, Zp b2 0), (5, .int .i64 2)] ∧ m = 2) ∨ (∃  (j : Nat → Value), (3 ≤ l.length ∧ xZ (tg l 0) = true ∧ xZ (tg l 1) = true ∧ xZ (tg l 2) = true) ∧ L = [⟨b2, #[.int .i64 (zS (tg l 0)), .int .i64 (zS (tg l 1)), .int .i64 (zS (tg l 2))], 88⟩, ⟨b1, Z1, 44⟩] ∧ f = xF j [(0, .slice A n cap), (2, Zp b1 0), (4, Zp b2 0), (5, .int .i64 3)] ∧ m = 1)) 4 (.inl ⟨_, Nat.zero_le _, rfl, ZU, rfl⟩) ?_)
  rintro L f m (⟨j, hrel, rfl, rfl, rfl⟩ | ⟨j, hrel, rfl, rfl, rfl⟩ | ⟨j, hrel, rfl, rfl, rfl⟩ | ⟨j, hrel, rfl, rfl, rfl⟩)
  · have qn := hrel
    refine z7 (ZO (Zv (.int .i64 0) (Zv (.slice A n cap) (Zv (.int .i64 (n : Int)) ?_))))
    by_cases h2 : (0 : Int) < (n : Int)
    · have hk : 0 < l.length := by omega
      obtain ⟨b, off, hA, hlt, hcell⟩ := hv (by omega)
      refine Zg h2 (ZY (ZB (z7 (zL (ZO (Zv (.slice A n cap) (Zv (.int .i64 0) ?_)))))))
      refine zU (Zp b (off + 0 * 1)) (by kernel_rfl) (qJ (b := b) (off := off) (c := cap) (n := n) (k := .i64) (j := 0) (e := 9) (sz := 1) rfl (by kernel_rfl) hA (by kernel_rfl) (by kernel_rfl) (by kernel_rfl) (by omega) (by omega) (by rfl)) (Zo (.string (mkS (tg l 0))) (a := ⟨b, off + 0 * 1, none⟩) (fun w hO => y6 vS (fun j u h => (hO.below.cell (p := ⟨b, off + j, none⟩) hlt).trans (hcell j u h)) 0 0 hk (by omega) _ (by rw [wA hk]; kernel_rfl)) (Zc (k := 125) (args := #[.string (mkS (tg l 0))]) (.tuple #[.int .i64 (zS (tg l 0)), .bool (xZ (tg l 0))]) (fun w _ => (uR (tg l 0) w (Nat.le_trans (htl 0) (by decide))).mono fun e w' ⟨q1, q2⟩ => ⟨q1, q2 ▸ Below.refl _ _⟩) (Zv (.tuple #[.int .i64 (zS (tg l 0)), .bool (xZ (tg l 0))]) (Zv (.int .i64 (zS (tg l 0))) (Zv (.bool (xZ (tg l 0))) (Zv (.int .i64 (zS (tg l 0))) (Zv (.bool (xZ (tg l 0))) (ZN (z7 (z7 ?_))))))))))
      refine zA (Zv (.bool (xZ (tg l 0))) ?_)
      cases h3 : xZ (tg l 0) with
      | true =>
        refine Zv Z5 (ZX (ZB (zA (Zv (.int .i64 0) (Zv (.int .i64 (zS (tg l 0))) (Zv (Zp b2 0) (Zs 0 ⟨b2, Zp0, 88⟩ (off := 0) (.int .i64 (zS (tg l 0))) (zP ?_))))))))
        exact zQ (z8 (zA (Zv (.int .i64 0) (Zv (.int .i64 1) (Zv (.int .i64 1) (zP (zT (m' := 3) (by decide) (.inr (.inl ⟨_, ⟨by omega, (by first | assumption | rfl)⟩, rfl, ZU, rfl⟩)))))))))
      | false =>
        refine Zv Z4 (ZY (ZO (Zv (.agg Z1) (Zs 1 ⟨b1, Z1, 44⟩ (off := 0) (.agg Z1) (Zv Z5 (ZN (zB ?_)))))))
        exact z6 (zF (z6 (zW (zF (z6 (ZD 1 ⟨b1, Z1, 44⟩ (off := 0) (.agg Z1) Z5 Tryz.results77 (fun w hO => ⟨by have hno : kL l = false := nums_bad hk (by assumption); rw [show zK l = Ver.zero from if_neg (by rw [hno]; decide), hno]; rfl, hO.below⟩)))))))
    refine Zh h2 (ZX (y5 (zD (zN (zH (z8 (ZO (Zv (Zp b2 0) ?_))))))))
    refine Zl 0 ⟨b2, Zp0, 88⟩ (off := 0) (.int .i64 0) (Zv (Zp b2 1) (Zl 0 ⟨b2, Zp0, 88⟩ (off := 1) (.int .i64 0) (Zv (Zp b2 2) (Zl 0 ⟨b2, Zp0, 88⟩ (off := 2) (.int .i64 0) (Zv (.agg Z1) (Zs 1 ⟨b1, Z1, 44⟩ (off := 0) (.agg Z1) (Zv Z4 (ZN (zB (ZD 1 ⟨b1, Z1, 44⟩ (off := 0) (.agg Z1) Z4 Tryz.results77 ?_))))))))))
    exact fun w hO => ⟨by have hok : kL l = true := nums_all (by omega) (fun i hi => by omega); rw [show zK l = ⟨zS (tg l 0), zS (tg l 1), zS (tg l 2), [], []⟩ from if_pos hok, hok, wV (i := 0) (by omega), wV (i := 1) (by omega), wV (i := 2) (by omega)]; rfl, hO.below⟩
  · obtain ⟨qn, q0⟩ := hrel
    refine z7 (ZO (Zv (.int .i64 1) (Zv (.slice A n cap) (Zv (.int .i64 (n : Int)) ?_))))
    by_cases h4 : (1 : Int) < (n : Int)
    · have hk : 1 < l.length := by omega
      obtain ⟨b, off, hA, hlt, hcell⟩ := hv (by omega)
      refine Zg h4 (ZY (ZB (z7 (zL (ZO (Zv (.slice A n cap) (Zv (.int .i64 1) ?_)))))))
      refine zU (Zp b (off + 1 * 1)) (by kernel_rfl) (qJ (b := b) (off := off) (c := cap) (n := n) (k := .i64) (j := 1) (e := 9) (sz := 1) rfl (by kernel_rfl) hA (by kernel_rfl) (by kernel_rfl) (by kernel_rfl) (by omega) (by omega) (by rfl)) (Zo (.string (mkS (tg l 1))) (a := ⟨b, off + 1 * 1, none⟩) (fun w hO => y6 vS (fun j u h => (hO.below.cell (p := ⟨b, off + j, none⟩) hlt).trans (hcell j u h)) 1 0 hk (by omega) _ (by rw [wA hk]; kernel_rfl)) (Zc (k := 125) (args := #[.string (mkS (tg l 1))]) (.tuple #[.int .i64 (zS (tg l 1)), .bool (xZ (tg l 1))]) (fun w _ => (uR (tg l 1) w (Nat.le_trans (htl 1) (by decide))).mono fun e w' ⟨q1, q2⟩ => ⟨q1, q2 ▸ Below.refl _ _⟩) (Zv (.tuple #[.int .i64 (zS (tg l 1)), .bool (xZ (tg l 1))]) (Zv (.int .i64 (zS (tg l 1))) (Zv (.bool (xZ (tg l 1))) (Zv (.int .i64 (zS (tg l 1))) (Zv (.bool (xZ (tg l 1))) (ZN (z7 (z7 ?_))))))))))
      refine zA (Zv (.bool (xZ (tg l 1))) ?_)
      cases h5 : xZ (tg l 1) with
      | true =>
        refine Zv Z5 (ZX (ZB (zA (Zv (.int .i64 1) (Zv (.int .i64 (zS (tg l 1))) (Zv (Zp b2 1) (Zs 0 ⟨b2, #[.int .i64 (zS (tg l 0)), .int .i64 0, .int .i64 0], 88⟩ (off := 1) (.int .i64 (zS (tg l 1))) (zP ?_))))))))
        exact zQ (z8 (zA (Zv (.int .i64 1) (Zv (.int .i64 2) (Zv (.int .i64 2) (zP (zT (m' := 2) (by decide) (.inr (.inr (.inl ⟨_, ⟨by omega, q0, (by first | assumption | rfl)⟩, rfl, ZU, rfl⟩))))))))))
      | false =>
        refine Zv Z4 (ZY (ZO (Zv (.agg Z1) (Zs 1 ⟨b1, Z1, 44⟩ (off := 0) (.agg Z1) (Zv Z5 (ZN (zB ?_)))))))
        exact z6 (zF (z6 (zW (zF (z6 (ZD 1 ⟨b1, Z1, 44⟩ (off := 0) (.agg Z1) Z5 Tryz.results77 (fun w hO => ⟨by have hno : kL l = false := nums_bad hk (by assumption); rw [show zK l = Ver.zero from if_neg (by rw [hno]; decide), hno]; rfl, hO.below⟩)))))))
    refine Zh h4 (ZX (y5 (zD (zN (zH (z8 (ZO (Zv (Zp b2 0) ?_))))))))
    refine Zl 0 ⟨b2, #[.int .i64 (zS (tg l 0)), .int .i64 0, .int .i64 0], 88⟩ (off := 0) (.int .i64 (zS (tg l 0))) (Zv (Zp b2 1) (Zl 0 ⟨b2, #[.int .i64 (zS (tg l 0)), .int .i64 0, .int .i64 0], 88⟩ (off := 1) (.int .i64 0) (Zv (Zp b2 2) (Zl 0 ⟨b2, #[.int .i64 (zS (tg l 0)), .int .i64 0, .int .i64 0], 88⟩ (off := 2) (.int .i64 0) (Zv (.agg #[.int .i64 (zS (tg l 0)), .int .i64 0, .int .i64 0, .string ⟨#[]⟩, .string ⟨#[]⟩]) (Zs 1 ⟨b1, Z1, 44⟩ (off := 0) (.agg #[.int .i64 (zS (tg l 0)), .int .i64 0, .int .i64 0, .string ⟨#[]⟩, .string ⟨#[]⟩]) (Zv Z4 (ZN (zB (ZD 1 ⟨b1, #[.int .i64 (zS (tg l 0)), .int .i64 0, .int .i64 0, .string ⟨#[]⟩, .string ⟨#[]⟩], 44⟩ (off := 0) (.agg #[.int .i64 (zS (tg l 0)), .int .i64 0, .int .i64 0, .string ⟨#[]⟩, .string ⟨#[]⟩]) Z4 Tryz.results77 ?_))))))))))
    exact fun w hO => ⟨by have hok : kL l = true := nums_all (by omega) (fun i hi => by obtain rfl : i = 0 := (by omega); assumption); rw [show zK l = ⟨zS (tg l 0), zS (tg l 1), zS (tg l 2), [], []⟩ from if_pos hok, hok, wV (i := 1) (by omega), wV (i := 2) (by omega)]; rfl, hO.below⟩
  · obtain ⟨qn, q0, q1⟩ := hrel
    refine z7 (ZO (Zv (.int .i64 2) (Zv (.slice A n cap) (Zv (.int .i64 (n : Int)) ?_))))
    by_cases h6 : (2 : Int) < (n : Int)
    · have hk : 2 < l.length := by omega
      obtain ⟨b, off, hA, hlt, hcell⟩ := hv (by omega)
      refine Zg h6 (ZY (ZB (z7 (zL (ZO (Zv (.slice A n cap) (Zv (.int .i64 2) ?_)))))))
      refine zU (Zp b (off + 2 * 1)) (by kernel_rfl) (qJ (b := b) (off := off) (c := cap) (n := n) (k := .i64) (j := 2) (e := 9) (sz := 1) rfl (by kernel_rfl) hA (by kernel_rfl) (by kernel_rfl) (by kernel_rfl) (by omega) (by omega) (by rfl)) (Zo (.string (mkS (tg l 2))) (a := ⟨b, off + 2 * 1, none⟩) (fun w hO => y6 vS (fun j u h => (hO.below.cell (p := ⟨b, off + j, none⟩) hlt).trans (hcell j u h)) 2 0 hk (by omega) _ (by rw [wA hk]; kernel_rfl)) (Zc (k := 125) (args := #[.string (mkS (tg l 2))]) (.tuple #[.int .i64 (zS (tg l 2)), .bool (xZ (tg l 2))]) (fun w _ => (uR (tg l 2) w (Nat.le_trans (htl 2) (by decide))).mono fun e w' ⟨q1, q2⟩ => ⟨q1, q2 ▸ Below.refl _ _⟩) (Zv (.tuple #[.int .i64 (zS (tg l 2)), .bool (xZ (tg l 2))]) (Zv (.int .i64 (zS (tg l 2))) (Zv (.bool (xZ (tg l 2))) (Zv (.int .i64 (zS (tg l 2))) (Zv (.bool (xZ (tg l 2))) (ZN (z7 (z7 ?_))))))))))
      refine zA (Zv (.bool (xZ (tg l 2))) ?_)
      cases h7 : xZ (tg l 2) with
      | true =>
        refine Zv Z5 (ZX (ZB (zA (Zv (.int .i64 2) (Zv (.int .i64 (zS (tg l 2))) (Zv (Zp b2 2) (Zs 0 ⟨b2, #[.int .i64 (zS (tg l 0)), .int .i64 (zS (tg l 1)), .int .i64 0], 88⟩ (off := 2) (.int .i64 (zS (tg l 2))) (zP ?_))))))))
        exact zQ (z8 (zA (Zv (.int .i64 2) (Zv (.int .i64 3) (Zv (.int .i64 3) (zP (zT (m' := 1) (by decide) (.inr (.inr (.inr (⟨_, ⟨by omega, q0, q1, (by first | assumption | rfl)⟩, rfl, ZU, rfl⟩)))))))))))
      | false =>
        refine Zv Z4 (ZY (ZO (Zv (.agg Z1) (Zs 1 ⟨b1, Z1, 44⟩ (off := 0) (.agg Z1) (Zv Z5 (ZN (zB ?_)))))))
        exact z6 (zF (z6 (zW (zF (z6 (ZD 1 ⟨b1, Z1, 44⟩ (off := 0) (.agg Z1) Z5 Tryz.results77 (fun w hO => ⟨by have hno : kL l = false := nums_bad hk (by assumption); rw [show zK l = Ver.zero from if_neg (by rw [hno]; decide), hno]; rfl, hO.below⟩)))))))
    refine Zh h6 (ZX (y5 (zD (zN (zH (z8 (ZO (Zv (Zp b2 0) ?_))))))))
    refine Zl 0 ⟨b2, #[.int .i64 (zS (tg l 0)), .int .i64 (zS (tg l 1)), .int .i64 0], 88⟩ (off := 0) (.int .i64 (zS (tg l 0))) (Zv (Zp b2 1) (Zl 0 ⟨b2, #[.int .i64 (zS (tg l 0)), .int .i64 (zS (tg l 1)), .int .i64 0], 88⟩ (off := 1) (.int .i64 (zS (tg l 1))) (Zv (Zp b2 2) (Zl 0 ⟨b2, #[.int .i64 (zS (tg l 0)), .int .i64 (zS (tg l 1)), .int .i64 0], 88⟩ (off := 2) (.int .i64 0) (Zv (.agg #[.int .i64 (zS (tg l 0)), .int .i64 (zS (tg l 1)), .int .i64 0, .string ⟨#[]⟩, .string ⟨#[]⟩]) (Zs 1 ⟨b1, Z1, 44⟩ (off := 0) (.agg #[.int .i64 (zS (tg l 0)), .int .i64 (zS (tg l 1)), .int .i64 0, .string ⟨#[]⟩, .string ⟨#[]⟩]) (Zv Z4 (ZN (zB (ZD 1 ⟨b1, #[.int .i64 (zS (tg l 0)), .int .i64 (zS (tg l 1)), .int .i64 0, .string ⟨#[]⟩, .string ⟨#[]⟩], 44⟩ (off := 0) (.agg #[.int .i64 (zS (tg l 0)), .int .i64 (zS (tg l 1)), .int .i64 0, .string ⟨#[]⟩, .string ⟨#[]⟩]) Z4 Tryz.results77 ?_))))))))))
    exact fun w hO => ⟨by have hok : kL l = true := nums_all (by omega) (fun i hi => by have q8 : i = 0 ∨ i = 1 := (by omega); rcases q8 with rfl | rfl <;> assumption); rw [show zK l = ⟨zS (tg l 0), zS (tg l 1), zS (tg l 2), [], []⟩ from if_pos hok, hok, wV (i := 2) (by omega)]; rfl, hO.below⟩
  obtain ⟨qn, q0, q1, q2⟩ := hrel
  refine z7 (ZO (Zv (.int .i64 3) (Zv (.slice A n cap) (Zv (.int .i64 (n : Int)) (Zh h1 (ZX (y5 (zD ?_))))))))
  refine zN (zH (z8 (ZO (Zv (Zp b2 0) (Zl 0 ⟨b2, #[.int .i64 (zS (tg l 0)), .int .i64 (zS (tg l 1)), .int .i64 (zS (tg l 2))], 88⟩ (off := 0) (.int .i64 (zS (tg l 0))) (Zv (Zp b2 1) (Zl 0 ⟨b2, #[.int .i64 (zS (tg l 0)), .int .i64 (zS (tg l 1)), .int .i64 (zS (tg l 2))], 88⟩ (off := 1) (.int .i64 (zS (tg l 1))) (Zv (Zp b2 2) (Zl 0 ⟨b2, #[.int .i64 (zS (tg l 0)), .int .i64 (zS (tg l 1)), .int .i64 (zS (tg l 2))], 88⟩ (off := 2) (.int .i64 (zS (tg l 2))) (Zv (.agg #[.int .i64 (zS (tg l 0)), .int .i64 (zS (tg l 1)), .int .i64 (zS (tg l 2)), .string ⟨#[]⟩, .string ⟨#[]⟩]) ?_))))))))))
  exact Zs 1 ⟨b1, Z1, 44⟩ (off := 0) (.agg #[.int .i64 (zS (tg l 0)), .int .i64 (zS (tg l 1)), .int .i64 (zS (tg l 2)), .string ⟨#[]⟩, .string ⟨#[]⟩]) (Zv Z4 (ZN (zB (ZD 1 ⟨b1, #[.int .i64 (zS (tg l 0)), .int .i64 (zS (tg l 1)), .int .i64 (zS (tg l 2)), .string ⟨#[]⟩, .string ⟨#[]⟩], 44⟩ (off := 0) (.agg #[.int .i64 (zS (tg l 0)), .int .i64 (zS (tg l 1)), .int .i64 (zS (tg l 2)), .string ⟨#[]⟩, .string ⟨#[]⟩]) Z4 Tryz.results77 (fun w hO => ⟨by have hok : kL l = true := nums_all (by omega) (fun i hi => by have q8 : i = 0 ∨ i = 1 ∨ i = 2 := (by omega); rcases q8 with rfl | rfl | rfl <;> assumption); rw [show zK l = ⟨zS (tg l 0), zS (tg l 1), zS (tg l 2), [], []⟩ from if_pos hok, hok]; rfl, hO.below⟩)))))
end
section
def pcV (s : List UInt8) : Co := (gV s).getD ⟨0, 0, Ver.zero⟩
def pcE (s : List UInt8) : Int := if (gV s).isSome then 0 else 6
theorem guess_nums (op : Int) (r : List UInt8) : guessC op r = if kL (gW op r) then some ⟨op, ((gW op r).length : Int), { zK (gW op r) with pre := (yH 45 r).2.1 }⟩ else none := by
  unfold guessC zK
  by_cases h : kL (gW op r) = true
  · have h2 := h
    unfold kL at h2
    rw [Bool.and_eq_true, decide_eq_true_eq] at h2
    rw [if_pos h2, if_pos h, if_pos h]
  · have h2 : ¬ ((gW op r).length ≤ 3 ∧ (gW op r).all xZ = true) := fun q => h (by unfold kL; rw [decide_eq_true q.1, q.2]; rfl)
    rw [if_neg h2, if_neg h]
theorem gN {s r tl : List UInt8} {op : Int} {gl : List (List UInt8)} (h1 : (vT s).1 = op) (h2 : (vT s).2 = r) (h3 : gW op r = gl) (h4 : (yH 45 r).2.1 = tl) :
    gV s = (if kL gl then some ⟨op, (gl.length : Int), { zK gl with pre := tl }⟩ else none : Option Co).filter (fits s) := by
  unfold gV
  rw [h1, h2, guess_nums, h3, h4]
theorem d9 {s : List UInt8} (h : gV s = none) : pcV s = ⟨0, 0, Ver.zero⟩ ∧ pcE s = 6 := by unfold pcV pcE; rw [h]; exact ⟨rfl, rfl⟩
theorem fS {s : List UInt8} {c : Co} (h : gV s = some c) : pcV s = c ∧ pcE s = 0 := by unfold pcV pcE; rw [h]; exact ⟨rfl, rfl⟩
theorem split6_le (s : List UInt8) : (vT s).2.length ≤ s.length := by
  unfold vT
  repeat' split
  all_goals first | exact Nat.le_refl _ | (rw [List.length_drop]; omega)
theorem m6 {op : Int} {r ah : List UInt8} (h : (yH 45 r).1 = ah) : gW op r = (pcs ah).take (gW op r).length ∧ (gW op r).length ≤ (pcs ah).length := by
  unfold gW
  rw [h]
  split
  · rw [List.length_dropLast]
    exact ⟨List.dropLast_eq_take, by omega⟩
  · exact ⟨(List.take_of_length_le (Nat.le_refl _)).symm, Nat.le_refl _⟩
theorem Reads.front {α : Type} {g : α → List Value} {w : World} {B : Nat} {A : Option Addr} {l : List α} (h : Reads g w B A l) (k : Nat) : Reads g w B A (l.take k) := fun h0 => by
  rw [List.length_take] at h0
  obtain ⟨b, off, e, hlt, hc⟩ := h (by omega)
  refine ⟨b, off, e, hlt, fun j u hj => hc j u ?_⟩
  have e2 : l.flatMap g = (l.take k).flatMap g ++ (l.drop k).flatMap g := by rw [← List.flatMap_append, List.take_append_drop]
  rw [e2, List.getElem?_append_left (List.getElem?_eq_some_iff.1 hj).1]
  exact hj
theorem pcs_pos6 (s : List UInt8) : 0 < (pcs s).length := List.length_pos_iff.2 (pcs_ne s)
theorem tg_short {l : List (List UInt8)} (h : ∀ x ∈ l, x.length ≤ 1000000) (i : Nat) : (tg l i).length ≤ 1000000 := by
  unfold tg
  cases hq : l[i]? with
  | none => exact Nat.zero_le _
  | some x => exact h x (List.mem_of_getElem? hq)
theorem pcs_count (s : List UInt8) : (pcs s).length ≤ s.length + 1 := by
  unfold pcs
  rw [n9]
  have := List.length_filter_le (· == (46 : UInt8)) s
  omega
theorem rcParse_any (s : List UInt8) (W : World) (hs : s.length ≤ 1000000) : Calls Tryz.prog 42 #[.string (mkS s)] W fun e w' => e = .returned (.tuple #[coV (pcV s), .int .i64 (pcE s)]) ∧ Below W.heap.size W w' := by
  obtain ⟨op, hop⟩ : ∃ x, (vT s).1 = x := ⟨_, rfl⟩
  obtain ⟨r, hr⟩ : ∃ x, (vT s).2 = x := ⟨_, rfl⟩
  obtain ⟨ah, hah⟩ : ∃ x, (yH 45 r).1 = x := ⟨_, rfl⟩
  obtain ⟨tl, htl⟩ : ∃ x, (yH 45 r).2.1 = x := ⟨_, rfl⟩
  obtain ⟨gl, hgl⟩ : ∃ x, gW op r = x := ⟨_, rfl⟩
  have hrl : r.length ≤ s.length := hr ▸ split6_le s
  have hal : ah.length + tl.length ≤ r.length := by rw [← hah, ← htl]; exact cutAt_le 45 r
  have hpl := pcs_count ah
  have hp0 := pcs_pos6 ah
  refine Z2 (n := 64) Tryz.func42 rfl (ZO (Za (.agg Z0) (fun b1 => Zv (.int .i64 0) (ZR (Zv (.string (mkS s)) (Zc (k := 75) (args := #[.string (mkS s)]) (.tuple #[.int .i64 op, .string (mkS r)]) (fun w _ => jA (by rw [hop, hr]) (rcsplit_any s w hs)) (Zv (.tuple #[.int .i64 op, .string (mkS r)]) ?_)))))))
  refine Zv (.int .i64 op) (Zv (.string (mkS r)) (Zv (.int .i64 op) (Zv (.string (mkS r)) (ZR (Zv (.string (mkS r)) (Zc (k := 76) (args := #[.string (mkS r)]) (.tuple #[.string (mkS ah), .string (mkS tl)]) (fun w _ => jA (by rw [hah, htl]) (rcpre_any r w (by omega))) (Zv (.tuple #[.string (mkS ah), .string (mkS tl)]) (Zv (.string (mkS ah)) ?_))))))))
  refine Zv (.string (mkS tl)) (Zv (.string (mkS ah)) (Zv (.string (mkS tl)) (ZR (Zv (.string (mkS ah)) (Zr (k := 41) (args := #[.string (mkS ah), .int .u8 46]) (fun v' L' => ∃ ob', L' = ob' ++ ([⟨b1, Z0, 51⟩]) ∧ SlT v' (pcs ah) ob') (fun w hO => (rsplit_own ah w (by omega)).mono fun e w' ⟨v', ob', k1, k2, k3⟩ => ⟨v', _, k1, ⟨ob', rfl, k2⟩, Own.joinN hO k3⟩) (fun v1 L1 hv1 => ?_))))))
  obtain ⟨o1, rfl, hsl⟩ := hv1
  obtain ⟨A1, c1, rfl⟩ := hsl.form
  obtain ⟨g1, cur1, rfl, rfl, hc1, hm1, hz1, ht1⟩ := Sl.block hsl (pcs_pos6 ah)
  refine Zv (.slice (some ⟨g1, 0, none⟩) ((pcs ah).length) c1) (ZN (z7 (ZO (Zv (.int .i64 op) ?_))))
  by_cases h1 : (op : Int) = 9
  · refine Zg h1 (ZN (j6 (fun L f => ∃ (n : Nat) (j : Nat → Value), n = gl.length ∧ L = [⟨g1, cur1, 9⟩, ⟨b1, Z0, 51⟩] ∧ f = xF j [(0, .string (mkS s)), (2, Zp b1 0), (4, .int .i64 op), (7, .string (mkS tl)), (8, .slice (some ⟨g1, 0, none⟩) n c1)]) ?_ ?_))
    · exact Zt (zA (Zv (.slice (some ⟨g1, 0, none⟩) ((pcs ah).length) c1) (Zv (.slice (some ⟨g1, 0, none⟩) ((pcs ah).length) c1) (Zv (.int .i64 ((pcs ah).length : Int)) (Zu (k := .i64) ((((pcs ah).length : Int) : Int) - 1) (IntWalk.i64_in _ (by omega)) (zU (.slice (some ⟨g1, 0, none⟩) ((((pcs ah).length : Int) - 1).toNat) c1) (by kernel_rfl) (dT (b := g1) (off := 0) (n := (pcs ah).length) (c := c1) (k := .i64) (j := ((pcs ah).length : Int) - 1) (e := 9) (sz := 1) rfl (by kernel_rfl) (by kernel_rfl) (by kernel_rfl) (by kernel_rfl) (by omega) (by omega)) (Zv (.slice (some ⟨g1, 0, none⟩) ((((pcs ah).length : Int) - 1).toNat) c1) (zP (yQ ⟨(((pcs ah).length : Int) - 1).toNat, _, by rw [← hgl]; unfold gW; rw [hah, if_pos h1, List.length_dropLast]; omega, rfl, ZU⟩)))))))))
    · rintro L f ⟨n, j, hng, rfl, rfl⟩
      have hglt : (pcs ah).take n = gl := by rw [hng, ← hgl]; exact (m6 hah).1.symm
      have hgn : gl.length ≤ (pcs ah).length := by rw [← hgl]; exact (m6 hah).2
      have hgs : ∀ x ∈ gl, x.length ≤ 1000000 := fun x hx => by rw [← hglt] at hx; exact Nat.le_trans (wG ah x (List.mem_of_mem_take hx)) (by omega)
      refine z8 (ZO (Zv (.slice (some ⟨g1, 0, none⟩) n c1) (Zc (k := 77) (args := #[.slice (some ⟨g1, 0, none⟩) n c1]) (.tuple #[y8 (zK gl), .bool (kL gl)]) (fun w hO => pJ (some ⟨g1, 0, none⟩) n c1 gl w (hglt ▸ (SlT.reads hsl rfl hO (fun x hx => by rw [List.mem_singleton.1 hx]; simp)).front n) hng (tg_short hgs) (by omega)) (Zv (.tuple #[y8 (zK gl), .bool (kL gl)]) (Zv (y8 (zK gl)) (Zv (.bool (kL gl)) (Za (.agg Z1) (fun b2 => Zs 0 ⟨b2, Z1, 44⟩ (off := 0) (y8 (zK gl)) (Zv (.bool (kL gl)) (zP ?_))))))))))
      refine z8 (z7 (ZO (Zv (.bool (kL gl)) ?_)))
      cases h2 : kL gl with
      | true =>
        refine Zv Z5 (ZX (ZB (ZO (Zv (.string (mkS tl)) (Zv (Zp b2 3) (Zs 0 ⟨b2, (y8 (zK gl)).cells, 44⟩ (off := 3) (.string (mkS tl)) (zP ?_)))))))
        refine z8 (ZO (Zv (.int .i64 op) (Zv (.slice (some ⟨g1, 0, none⟩) n c1) (Zv (.int .i64 (n : Int)) (Zl 0 ⟨b2, #[.int .i64 ((zK gl).maj), .int .i64 ((zK gl).min), .int .i64 ((zK gl).pat), .string (mkS tl), .string (mkS (zK gl).build)], 44⟩ (off := 0) (.agg #[.int .i64 ((zK gl).maj), .int .i64 ((zK gl).min), .int .i64 ((zK gl).pat), .string (mkS tl), .string (mkS (zK gl).build)]) (Zv (.agg #[.int .i64 op, .int .i64 (n : Int), .int .i64 ((zK gl).maj), .int .i64 ((zK gl).min), .int .i64 ((zK gl).pat), .string (mkS tl), .string (mkS (zK gl).build)]) (Za (.agg Z0) (fun b3 => Zs 0 ⟨b3, Z0, 51⟩ (off := 0) (.agg #[.int .i64 op, .int .i64 (n : Int), .int .i64 ((zK gl).maj), .int .i64 ((zK gl).min), .int .i64 ((zK gl).pat), .string (mkS tl), .string (mkS (zK gl).build)]) (zP (z8 ?_))))))))))
        refine z7 (ZO (Zl 0 ⟨b3, #[.int .i64 op, .int .i64 (n : Int), .int .i64 ((zK gl).maj), .int .i64 ((zK gl).min), .int .i64 ((zK gl).pat), .string (mkS tl), .string (mkS (zK gl).build)], 51⟩ (off := 0) (.agg #[.int .i64 op, .int .i64 (n : Int), .int .i64 ((zK gl).maj), .int .i64 ((zK gl).min), .int .i64 ((zK gl).pat), .string (mkS tl), .string (mkS (zK gl).build)]) ?_))
        have hcs : ((⟨op, (n : Int), { zK gl with pre := tl }⟩ : Co)).short := ⟨by show tl.length ≤ _; omega, by show (zK gl).build.length ≤ _; unfold zK; split <;> exact Nat.zero_le _⟩
        obtain ⟨pt, hpt⟩ : ∃ x, Co.print (⟨op, (n : Int), { zK gl with pre := tl }⟩ : Co) = x := ⟨_, rfl⟩
        refine Zc (k := 78) (args := #[.agg #[.int .i64 op, .int .i64 (n : Int), .int .i64 ((zK gl).maj), .int .i64 ((zK gl).min), .int .i64 ((zK gl).pat), .string (mkS tl), .string (mkS (zK gl).build)]]) (.string (mkS pt)) (fun w _ => jA (by rw [← hpt]) (jT (⟨op, (n : Int), { zK gl with pre := tl }⟩ : Co) w hcs)) (Zv (.string (mkS pt)) (ZR (Zv (.string (mkS pt)) ?_)))
        by_cases h3 : (pt : List UInt8) = []
        · refine zU Z4 (by kernel_rfl) (yM (a := pt) (b := ([])) rfl (by kernel_rfl) (by kernel_rfl) (decide_eq_true (h3))) (Zv Z4 (Zk (Zk (Zk (Zk (Zk (Zk (Zk (Zk (Zk (Zv Z4 ?_)))))))))))
          refine ZY (ZO (Zv (.agg Z0) (Zs 3 ⟨b1, Z0, 51⟩ (off := 0) (.agg Z0) (Zv (.int .i64 6) (ZN (zB (z6 ?_)))))))
          exact ZD 3 ⟨b1, Z0, 51⟩ (off := 0) (.agg Z0) (.int .i64 6) Tryz.results42 (fun w hO => ⟨by have q := d9 (s := s) (by rw [gN hop hr hgl htl, h2, ← hng]; exact Option.filter_eq_none_iff.2 fun q0 q1 => by obtain rfl := Option.some.inj q1; unfold fits; rw [hpt, decide_eq_true (show pt = [] from h3)]; simp); rw [q.1, q.2]; rfl, hO.below⟩)
        refine zU Z5 (by kernel_rfl) (yM (a := pt) (b := ([])) rfl (by kernel_rfl) (by kernel_rfl) (decide_eq_false (h3))) (Zv Z5 (Zv (.string (mkS pt)) (Zv (.string (mkS s)) ?_)))
        by_cases h4 : (pt : List UInt8) = s
        · refine zU Z5 (by kernel_rfl) (yV (a := pt) (b := s) rfl (by kernel_rfl) (by kernel_rfl) (decide_eq_true (h4))) (Zv Z5 (Zk (Zk (Zk (Zk (Zv Z5 (Zv Z5 (ZX (yC ?_)))))))))
          exact z8 (ZO (Zl 0 ⟨b3, #[.int .i64 op, .int .i64 (n : Int), .int .i64 ((zK gl).maj), .int .i64 ((zK gl).min), .int .i64 ((zK gl).pat), .string (mkS tl), .string (mkS (zK gl).build)], 51⟩ (off := 0) (.agg #[.int .i64 op, .int .i64 (n : Int), .int .i64 ((zK gl).maj), .int .i64 ((zK gl).min), .int .i64 ((zK gl).pat), .string (mkS tl), .string (mkS (zK gl).build)]) (Zs 3 ⟨b1, Z0, 51⟩ (off := 0) (.agg #[.int .i64 op, .int .i64 (n : Int), .int .i64 ((zK gl).maj), .int .i64 ((zK gl).min), .int .i64 ((zK gl).pat), .string (mkS tl), .string (mkS (zK gl).build)]) (Zv (.int .i64 0) (ZN (zB (ZD 3 ⟨b1, #[.int .i64 op, .int .i64 (n : Int), .int .i64 ((zK gl).maj), .int .i64 ((zK gl).min), .int .i64 ((zK gl).pat), .string (mkS tl), .string (mkS (zK gl).build)], 51⟩ (off := 0) (.agg #[.int .i64 op, .int .i64 (n : Int), .int .i64 ((zK gl).maj), .int .i64 ((zK gl).min), .int .i64 ((zK gl).pat), .string (mkS tl), .string (mkS (zK gl).build)]) (.int .i64 0) Tryz.results42 (fun w hO => ⟨by have q := fS (s := s) (c := (⟨op, (n : Int), { zK gl with pre := tl }⟩ : Co)) (by rw [gN hop hr hgl htl, h2, ← hng]; exact Option.filter_eq_some_iff.2 ⟨rfl, by unfold fits; rw [hpt, decide_eq_false (show ¬ pt = [] from h3), decide_eq_true (show pt = s from h4)]; simp⟩); rw [q.1, q.2]; rfl, hO.below⟩))))))))
        refine zU Z4 (by kernel_rfl) (yV (a := pt) (b := s) rfl (by kernel_rfl) (by kernel_rfl) (decide_eq_false (h4))) (Zv Z4 (Zv (.string (mkS pt)) (Zv (.string (mkS s)) (zU (.string (mkS ([94] ++ s))) (by kernel_rfl) (yZ (a := [94]) (b := s) rfl (by kernel_rfl) (by kernel_rfl) (by simp only [List.length_append, List.length_cons, List.length_nil]; omega)) ?_))))
        by_cases h5 : (pt : List UInt8) = ([94] ++ s)
        · refine zU Z5 (by kernel_rfl) (yV (a := pt) (b := ([94] ++ s)) rfl (by kernel_rfl) (by kernel_rfl) (decide_eq_true (h5))) (Zv Z5 (Zv Z5 (ZX (ZB (ZO (Zl 0 ⟨b3, #[.int .i64 op, .int .i64 (n : Int), .int .i64 ((zK gl).maj), .int .i64 ((zK gl).min), .int .i64 ((zK gl).pat), .string (mkS tl), .string (mkS (zK gl).build)], 51⟩ (off := 0) (.agg #[.int .i64 op, .int .i64 (n : Int), .int .i64 ((zK gl).maj), .int .i64 ((zK gl).min), .int .i64 ((zK gl).pat), .string (mkS tl), .string (mkS (zK gl).build)]) (Zs 3 ⟨b1, Z0, 51⟩ (off := 0) (.agg #[.int .i64 op, .int .i64 (n : Int), .int .i64 ((zK gl).maj), .int .i64 ((zK gl).min), .int .i64 ((zK gl).pat), .string (mkS tl), .string (mkS (zK gl).build)]) ?_)))))))
          exact Zv (.int .i64 0) (ZN (zB (ZD 3 ⟨b1, #[.int .i64 op, .int .i64 (n : Int), .int .i64 ((zK gl).maj), .int .i64 ((zK gl).min), .int .i64 ((zK gl).pat), .string (mkS tl), .string (mkS (zK gl).build)], 51⟩ (off := 0) (.agg #[.int .i64 op, .int .i64 (n : Int), .int .i64 ((zK gl).maj), .int .i64 ((zK gl).min), .int .i64 ((zK gl).pat), .string (mkS tl), .string (mkS (zK gl).build)]) (.int .i64 0) Tryz.results42 (fun w hO => ⟨by have q := fS (s := s) (c := (⟨op, (n : Int), { zK gl with pre := tl }⟩ : Co)) (by rw [gN hop hr hgl htl, h2, ← hng]; exact Option.filter_eq_some_iff.2 ⟨rfl, by unfold fits; rw [hpt, decide_eq_false (show ¬ pt = [] from h3), decide_eq_false (show ¬ pt = s from h4), decide_eq_true (show pt = 94 :: s from h5)]; simp⟩); rw [q.1, q.2]; rfl, hO.below⟩))))
        refine zU Z4 (by kernel_rfl) (yV (a := pt) (b := ([94] ++ s)) rfl (by kernel_rfl) (by kernel_rfl) (decide_eq_false (h5))) (Zv Z4 (Zv Z4 (ZY (ZO (Zv (.agg Z0) (Zs 3 ⟨b1, Z0, 51⟩ (off := 0) (.agg Z0) (Zv (.int .i64 6) (zP ?_))))))))
        exact z8 (zB (z6 (ZD 3 ⟨b1, Z0, 51⟩ (off := 0) (.agg Z0) (.int .i64 6) Tryz.results42 (fun w hO => ⟨by have q := d9 (s := s) (by rw [gN hop hr hgl htl, h2, ← hng]; exact Option.filter_eq_none_iff.2 fun q0 q1 => by obtain rfl := Option.some.inj q1; unfold fits; rw [hpt, decide_eq_false (show ¬ pt = [] from h3), decide_eq_false (show ¬ pt = s from h4), decide_eq_false (show ¬ pt = 94 :: s from h5)]; simp); rw [q.1, q.2]; rfl, hO.below⟩))))
      | false =>
        refine Zv Z4 (ZY (ZO (Zv (.agg Z0) (Zs 2 ⟨b1, Z0, 51⟩ (off := 0) (.agg Z0) (Zv (.int .i64 6) (ZN (zB ?_)))))))
        exact z6 (ZD 2 ⟨b1, Z0, 51⟩ (off := 0) (.agg Z0) (.int .i64 6) Tryz.results42 (fun w hO => ⟨by have q := d9 (s := s) (by rw [gN hop hr hgl htl, h2]; rfl); rw [q.1, q.2]; rfl, hO.below⟩))
  refine Zh h1 (ZN (j6 (fun L f => ∃ (n : Nat) (j : Nat → Value), n = gl.length ∧ L = [⟨g1, cur1, 9⟩, ⟨b1, Z0, 51⟩] ∧ f = xF j [(0, .string (mkS s)), (2, Zp b1 0), (4, .int .i64 op), (7, .string (mkS tl)), (8, .slice (some ⟨g1, 0, none⟩) n c1)]) ?_ ?_))
  · exact Zf (yC (yQ ⟨(pcs ah).length, _, by rw [← hgl]; unfold gW; rw [hah, if_neg h1], rfl, ZU⟩))
  · rintro L f ⟨n, j, hng, rfl, rfl⟩
    have hglt : (pcs ah).take n = gl := by rw [hng, ← hgl]; exact (m6 hah).1.symm
    have hgn : gl.length ≤ (pcs ah).length := by rw [← hgl]; exact (m6 hah).2
    have hgs : ∀ x ∈ gl, x.length ≤ 1000000 := fun x hx => by rw [← hglt] at hx; exact Nat.le_trans (wG ah x (List.mem_of_mem_take hx)) (by omega)
    refine z8 (ZO (Zv (.slice (some ⟨g1, 0, none⟩) n c1) (Zc (k := 77) (args := #[.slice (some ⟨g1, 0, none⟩) n c1]) (.tuple #[y8 (zK gl), .bool (kL gl)]) (fun w hO => pJ (some ⟨g1, 0, none⟩) n c1 gl w (hglt ▸ (SlT.reads hsl rfl hO (fun x hx => by rw [List.mem_singleton.1 hx]; simp)).front n) hng (tg_short hgs) (by omega)) (Zv (.tuple #[y8 (zK gl), .bool (kL gl)]) (Zv (y8 (zK gl)) (Zv (.bool (kL gl)) (Za (.agg Z1) (fun b2 => Zs 0 ⟨b2, Z1, 44⟩ (off := 0) (y8 (zK gl)) (Zv (.bool (kL gl)) (zP ?_))))))))))
    refine z8 (z7 (ZO (Zv (.bool (kL gl)) ?_)))
    cases h6 : kL gl with
    | true =>
      refine Zv Z5 (ZX (ZB (ZO (Zv (.string (mkS tl)) (Zv (Zp b2 3) (Zs 0 ⟨b2, (y8 (zK gl)).cells, 44⟩ (off := 3) (.string (mkS tl)) (zP ?_)))))))
      refine z8 (ZO (Zv (.int .i64 op) (Zv (.slice (some ⟨g1, 0, none⟩) n c1) (Zv (.int .i64 (n : Int)) (Zl 0 ⟨b2, #[.int .i64 ((zK gl).maj), .int .i64 ((zK gl).min), .int .i64 ((zK gl).pat), .string (mkS tl), .string (mkS (zK gl).build)], 44⟩ (off := 0) (.agg #[.int .i64 ((zK gl).maj), .int .i64 ((zK gl).min), .int .i64 ((zK gl).pat), .string (mkS tl), .string (mkS (zK gl).build)]) (Zv (.agg #[.int .i64 op, .int .i64 (n : Int), .int .i64 ((zK gl).maj), .int .i64 ((zK gl).min), .int .i64 ((zK gl).pat), .string (mkS tl), .string (mkS (zK gl).build)]) (Za (.agg Z0) (fun b3 => Zs 0 ⟨b3, Z0, 51⟩ (off := 0) (.agg #[.int .i64 op, .int .i64 (n : Int), .int .i64 ((zK gl).maj), .int .i64 ((zK gl).min), .int .i64 ((zK gl).pat), .string (mkS tl), .string (mkS (zK gl).build)]) (zP (z8 ?_))))))))))
      refine z7 (ZO (Zl 0 ⟨b3, #[.int .i64 op, .int .i64 (n : Int), .int .i64 ((zK gl).maj), .int .i64 ((zK gl).min), .int .i64 ((zK gl).pat), .string (mkS tl), .string (mkS (zK gl).build)], 51⟩ (off := 0) (.agg #[.int .i64 op, .int .i64 (n : Int), .int .i64 ((zK gl).maj), .int .i64 ((zK gl).min), .int .i64 ((zK gl).pat), .string (mkS tl), .string (mkS (zK gl).build)]) ?_))
      have hcs : ((⟨op, (n : Int), { zK gl with pre := tl }⟩ : Co)).short := ⟨by show tl.length ≤ _; omega, by show (zK gl).build.length ≤ _; unfold zK; split <;> exact Nat.zero_le _⟩
      obtain ⟨pt, hpt⟩ : ∃ x, Co.print (⟨op, (n : Int), { zK gl with pre := tl }⟩ : Co) = x := ⟨_, rfl⟩
      refine Zc (k := 78) (args := #[.agg #[.int .i64 op, .int .i64 (n : Int), .int .i64 ((zK gl).maj), .int .i64 ((zK gl).min), .int .i64 ((zK gl).pat), .string (mkS tl), .string (mkS (zK gl).build)]]) (.string (mkS pt)) (fun w _ => jA (by rw [← hpt]) (jT (⟨op, (n : Int), { zK gl with pre := tl }⟩ : Co) w hcs)) (Zv (.string (mkS pt)) (ZR (Zv (.string (mkS pt)) ?_)))
      by_cases h7 : (pt : List UInt8) = []
      · refine zU Z4 (by kernel_rfl) (yM (a := pt) (b := ([])) rfl (by kernel_rfl) (by kernel_rfl) (decide_eq_true (h7))) (Zv Z4 (Zk (Zk (Zk (Zk (Zk (Zk (Zk (Zk (Zk (Zv Z4 ?_)))))))))))
        refine ZY (ZO (Zv (.agg Z0) (Zs 3 ⟨b1, Z0, 51⟩ (off := 0) (.agg Z0) (Zv (.int .i64 6) (ZN (zB (z6 ?_)))))))
        exact ZD 3 ⟨b1, Z0, 51⟩ (off := 0) (.agg Z0) (.int .i64 6) Tryz.results42 (fun w hO => ⟨by have q := d9 (s := s) (by rw [gN hop hr hgl htl, h6, ← hng]; exact Option.filter_eq_none_iff.2 fun q0 q1 => by obtain rfl := Option.some.inj q1; unfold fits; rw [hpt, decide_eq_true (show pt = [] from h7)]; simp); rw [q.1, q.2]; rfl, hO.below⟩)
      refine zU Z5 (by kernel_rfl) (yM (a := pt) (b := ([])) rfl (by kernel_rfl) (by kernel_rfl) (decide_eq_false (h7))) (Zv Z5 (Zv (.string (mkS pt)) (Zv (.string (mkS s)) ?_)))
      by_cases h8 : (pt : List UInt8) = s
      · refine zU Z5 (by kernel_rfl) (yV (a := pt) (b := s) rfl (by kernel_rfl) (by kernel_rfl) (decide_eq_true (h8))) (Zv Z5 (Zk (Zk (Zk (Zk (Zv Z5 (Zv Z5 (ZX (yC ?_)))))))))
        exact z8 (ZO (Zl 0 ⟨b3, #[.int .i64 op, .int .i64 (n : Int), .int .i64 ((zK gl).maj), .int .i64 ((zK gl).min), .int .i64 ((zK gl).pat), .string (mkS tl), .string (mkS (zK gl).build)], 51⟩ (off := 0) (.agg #[.int .i64 op, .int .i64 (n : Int), .int .i64 ((zK gl).maj), .int .i64 ((zK gl).min), .int .i64 ((zK gl).pat), .string (mkS tl), .string (mkS (zK gl).build)]) (Zs 3 ⟨b1, Z0, 51⟩ (off := 0) (.agg #[.int .i64 op, .int .i64 (n : Int), .int .i64 ((zK gl).maj), .int .i64 ((zK gl).min), .int .i64 ((zK gl).pat), .string (mkS tl), .string (mkS (zK gl).build)]) (Zv (.int .i64 0) (ZN (zB (ZD 3 ⟨b1, #[.int .i64 op, .int .i64 (n : Int), .int .i64 ((zK gl).maj), .int .i64 ((zK gl).min), .int .i64 ((zK gl).pat), .string (mkS tl), .string (mkS (zK gl).build)], 51⟩ (off := 0) (.agg #[.int .i64 op, .int .i64 (n : Int), .int .i64 ((zK gl).maj), .int .i64 ((zK gl).min), .int .i64 ((zK gl).pat), .string (mkS tl), .string (mkS (zK gl).build)]) (.int .i64 0) Tryz.results42 (fun w hO => ⟨by have q := fS (s := s) (c := (⟨op, (n : Int), { zK gl with pre := tl }⟩ : Co)) (by rw [gN hop hr hgl htl, h6, ← hng]; exact Option.filter_eq_some_iff.2 ⟨rfl, by unfold fits; rw [hpt, decide_eq_false (show ¬ pt = [] from h7), decide_eq_true (show pt = s from h8)]; simp⟩); rw [q.1, q.2]; rfl, hO.below⟩))))))))
      refine zU Z4 (by kernel_rfl) (yV (a := pt) (b := s) rfl (by kernel_rfl) (by kernel_rfl) (decide_eq_false (h8))) (Zv Z4 (Zv (.string (mkS pt)) (Zv (.string (mkS s)) (zU (.string (mkS ([94] ++ s))) (by kernel_rfl) (yZ (a := [94]) (b := s) rfl (by kernel_rfl) (by kernel_rfl) (by simp only [List.length_append, List.length_cons, List.length_nil]; omega)) ?_))))
      by_cases h9 : (pt : List UInt8) = ([94] ++ s)
      · refine zU Z5 (by kernel_rfl) (yV (a := pt) (b := ([94] ++ s)) rfl (by kernel_rfl) (by kernel_rfl) (decide_eq_true (h9))) (Zv Z5 (Zv Z5 (ZX (ZB (ZO (Zl 0 ⟨b3, #[.int .i64 op, .int .i64 (n : Int), .int .i64 ((zK gl).maj), .int .i64 ((zK gl).min), .int .i64 ((zK gl).pat), .string (mkS tl), .string (mkS (zK gl).build)], 51⟩ (off := 0) (.agg #[.int .i64 op, .int .i64 (n : Int), .int .i64 ((zK gl).maj), .int .i64 ((zK gl).min), .int .i64 ((zK gl).pat), .string (mkS tl), .string (mkS (zK gl).build)]) (Zs 3 ⟨b1, Z0, 51⟩ (off := 0) (.agg #[.int .i64 op, .int .i64 (n : Int), .int .i64 ((zK gl).maj), .int .i64 ((zK gl).min), .int .i64 ((zK gl).pat), .string (mkS tl), .string (mkS (zK gl).build)]) ?_)))))))
        exact Zv (.int .i64 0) (ZN (zB (ZD 3 ⟨b1, #[.int .i64 op, .int .i64 (n : Int), .int .i64 ((zK gl).maj), .int .i64 ((zK gl).min), .int .i64 ((zK gl).pat), .string (mkS tl), .string (mkS (zK gl).build)], 51⟩ (off := 0) (.agg #[.int .i64 op, .int .i64 (n : Int), .int .i64 ((zK gl).maj), .int .i64 ((zK gl).min), .int .i64 ((zK gl).pat), .string (mkS tl), .string (mkS (zK gl).build)]) (.int .i64 0) Tryz.results42 (fun w hO => ⟨by have q := fS (s := s) (c := (⟨op, (n : Int), { zK gl with pre := tl }⟩ : Co)) (by rw [gN hop hr hgl htl, h6, ← hng]; exact Option.filter_eq_some_iff.2 ⟨rfl, by unfold fits; rw [hpt, decide_eq_false (show ¬ pt = [] from h7), decide_eq_false (show ¬ pt = s from h8), decide_eq_true (show pt = 94 :: s from h9)]; simp⟩); rw [q.1, q.2]; rfl, hO.below⟩))))
      refine zU Z4 (by kernel_rfl) (yV (a := pt) (b := ([94] ++ s)) rfl (by kernel_rfl) (by kernel_rfl) (decide_eq_false (h9))) (Zv Z4 (Zv Z4 (ZY (ZO (Zv (.agg Z0) (Zs 3 ⟨b1, Z0, 51⟩ (off := 0) (.agg Z0) (Zv (.int .i64 6) (zP ?_))))))))
      exact z8 (zB (z6 (ZD 3 ⟨b1, Z0, 51⟩ (off := 0) (.agg Z0) (.int .i64 6) Tryz.results42 (fun w hO => ⟨by have q := d9 (s := s) (by rw [gN hop hr hgl htl, h6, ← hng]; exact Option.filter_eq_none_iff.2 fun q0 q1 => by obtain rfl := Option.some.inj q1; unfold fits; rw [hpt, decide_eq_false (show ¬ pt = [] from h7), decide_eq_false (show ¬ pt = s from h8), decide_eq_false (show ¬ pt = 94 :: s from h9)]; simp); rw [q.1, q.2]; rfl, hO.below⟩))))
    | false =>
      refine Zv Z4 (ZY (ZO (Zv (.agg Z0) (Zs 2 ⟨b1, Z0, 51⟩ (off := 0) (.agg Z0) (Zv (.int .i64 6) (ZN (zB ?_)))))))
      exact z6 (ZD 2 ⟨b1, Z0, 51⟩ (off := 0) (.agg Z0) (.int .i64 6) Tryz.results42 (fun w hO => ⟨by have q := d9 (s := s) (by rw [gN hop hr hgl htl, h6]; rfl); rw [q.1, q.2]; rfl, hO.below⟩))
end
section
def coC (c : Co) : List Value := (coV c).cells.toList
theorem uM (c : Co) : (coC c).length = 7 := rfl
theorem co_cells (c : Co) : ∀ u ∈ coC c, u.oneCell' = true := by
  intro u hu
  unfold coC coV at hu
  simp only [Value.cells, List.mem_cons, List.not_mem_nil, or_false] at hu
  rcases hu with rfl | rfl | rfl | rfl | rfl | rfl | rfl <;> rfl
structure Al where
  A : Option Addr
  l : List Co
  cap : Nat
def alC (x : Al) : List Value := [.slice x.A x.l.length x.cap]
theorem gS (x : Al) : (alC x).length = 1 := rfl
theorem al_cells (x : Al) : ∀ u ∈ alC x, u.oneCell' = true := fun u hu => by rw [List.mem_singleton.1 hu]; rfl
def yU (xs : List Al) : List (List Co) := xs.map Al.l
theorem xK (xs : List Al) : (yU xs).length = xs.length := List.length_map ..
theorem jD {xs : List Al} {i : Nat} (hi : i < xs.length) {x : Al} (h : xs[i] = x) : (yU xs)[i]'(by rw [xK]; exact hi) = x.l := by
  unfold yU; rw [List.getElem_map, h]
def ShortA (l : List Co) : Prop := ∀ c ∈ l, c.short
structure RgIn (w : World) (B : Nat) (A : Option Addr) (xs : List Al) : Prop where
  top : Reads alC w B A xs
  each : ∀ x ∈ xs, Reads coC w B x.A x.l
  n : xs.length ≤ 1000
  m : ∀ x ∈ xs, x.l.length ≤ 1000
  short : ∀ x ∈ xs, ShortA x.l
theorem RgIn.on {w w' : World} {B B' : Nat} {A : Option Addr} {xs : List Al} (h : RgIn w B A xs) (hb : Below B w w') (hB : B ≤ B') : RgIn w' B' A xs := ⟨h.top.on hb hB, fun x hx => (h.each x hx).on hb hB, h.n, h.m, h.short⟩
theorem tT {α : Type} {p : α → Prop} {l : List α} {i : Nat} (h : ∀ x ∈ l.take i, p x) (hi : i < l.length) {x : α} (hx : l[i] = x) (hp : p x) : ∀ y ∈ l.take (i + 1), p y := fun y hy => by
  rw [List.take_succ_eq_append_getElem hi] at hy
  rcases List.mem_append.1 hy with hy | hy
  · exact h y hy
  · rw [List.mem_singleton.1 hy, hx]; exact hp
theorem take_end {α : Type} {p : α → Prop} {l : List α} {i : Nat} (h : ∀ x ∈ l.take i, p x) (hi : l.length ≤ i) : ∀ y ∈ l, p y := by rwa [List.take_of_length_le hi] at h
theorem fewA_len {l : List Co} (h : ¬ (1 ≤ l.length ∧ l.length ≤ 6)) : fewA l = false := by unfold fewA; rw [decide_eq_false h]; rfl
theorem fewA_one {l : List Co} {c : Co} (hm : c ∈ l) (h : c.may = false) : fewA l = false := by
  cases hf : fewA l with
  | false => rfl
  | true => rw [(fewA.facts hf).2 c hm] at h; cases h
theorem fewA_all {l : List Co} (h1 : 1 ≤ l.length ∧ l.length ≤ 6) (h : ∀ c ∈ l, c.may = true) : fewA l = true := by
  unfold fewA; rw [decide_eq_true h1, List.all_eq_true.2 h]; rfl
theorem few_len {xs : List Al} (h : ¬ (1 ≤ xs.length ∧ xs.length ≤ 6)) : fewR (yU xs) = false := by unfold fewR; rw [xK, decide_eq_false h]; rfl
theorem few_one {xs : List Al} {x : Al} (hm : x ∈ xs) (h : fewA x.l = false) : fewR (yU xs) = false := by
  cases hf : fewR (yU xs) with
  | false => rfl
  | true => rw [(fewR.facts hf).2 x.l (List.mem_map.2 ⟨x, hm, rfl⟩)] at h; cases h
theorem few_all {xs : List Al} (h1 : 1 ≤ xs.length ∧ xs.length ≤ 6) (h : ∀ x ∈ xs, fewA x.l = true) : fewR (yU xs) = true := by
  unfold fewR; rw [xK, decide_eq_true h1, List.all_eq_true.2 fun a ha => by obtain ⟨x, hx, rfl⟩ := List.mem_map.1 ha; exact h x hx]; rfl
theorem few_mem {xs : List Al} (h : fewR (yU xs) = true) : (1 ≤ xs.length ∧ xs.length ≤ 6) ∧ ∀ x ∈ xs, (1 ≤ x.l.length ∧ x.l.length ≤ 6) ∧ ∀ c ∈ x.l, c.may = true := by
  obtain ⟨h1, h2⟩ := fewR.facts h
  rw [xK] at h1
  exact ⟨h1, fun x hx => fewA.facts (h2 x.l (List.mem_map.2 ⟨x, hx, rfl⟩))⟩
theorem joinB_step (sep : List UInt8) {l : List (List UInt8)} {i : Nat} (hi : i < l.length) : vQ sep (l.take (i + 1)) = (if i = 0 then [] else vQ sep (l.take i) ++ sep) ++ l[i] := by
  rw [List.take_succ_eq_append_getElem hi, joinB_snoc]
  by_cases h : i = 0
  · subst h; rfl
  · have hne : l.take i ≠ [] := fun e => by
      have h3 : (l.take i).length = 0 := by rw [e]; rfl
      rw [List.length_take] at h3; omega
    rw [if_neg hne, if_neg h]
theorem b8 {l : List Co} {k : Nat} (hk : k < l.length) {c : Co} (hc : l[k] = c) : xR (l.take (k + 1)) = (if k = 0 then [] else xR (l.take k) ++ [44, 32]) ++ c.print := by
  unfold xR
  rw [List.map_take, List.map_take, joinB_step _ (by rw [List.length_map]; exact hk), List.getElem_map, hc]
theorem rgText_step {r : List (List Co)} {i : Nat} (hi : i < r.length) {a : List Co} (ha : r[i] = a) : kH (r.take (i + 1)) = (if i = 0 then [] else kH (r.take i) ++ [32, 124, 124, 32]) ++ xR a := by
  unfold kH
  rw [List.map_take, List.map_take, joinB_step _ (by rw [List.length_map]; exact hi), List.getElem_map, ha]
theorem mU {c : Co} (h : c.may = true) : c.print.length ≤ 300 := by
  obtain ⟨_, hv, _⟩ := Co.facts h
  have hp := preOk_short (may_pre hv)
  rw [qW h]
  unfold Co.text Co.rest
  rw [List.length_append]
  have h1 : (zO c.op).length ≤ 2 := by
    unfold zO
    repeat' split
    all_goals decide
  split
  · have := uP hv c.parts.toNat; omega
  · rw [List.length_append]
    have := vL hv c.parts.toNat
    have : (mE 45 c.v.pre).length ≤ 37 := by
      unfold mE
      split
      · exact Nat.zero_le _
      · rw [List.length_cons]; omega
    omega
end
section
theorem rsfew_any (A : Option Addr) (cap : Nat) (xs : List Al) (W : World) (hv : RgIn W W.heap.size A xs) : Calls Tryz.prog 44 #[.agg #[.slice A xs.length cap]] W fun e w' => e = .returned (.bool (fewR (yU xs))) ∧ Below W.heap.size W w' := by
  have hn := hv.n
  refine Z2 (n := 58) Tryz.func44 rfl (ZO (Zb (.agg #[.slice A xs.length cap]) (fun b1 => Zv Z5 (ZN (z7 (ZO (Zv (Zp b1 0) (Zl 0 ⟨b1, #[.slice A xs.length cap], 25⟩ (off := 0) (.slice A xs.length cap) ?_))))))))
  refine Zv (.int .i64 (xs.length : Int)) ?_
  by_cases h1 : (xs.length : Int) < 1
  · refine Zg h1 (Zv Z4 (Zk (Zk (Zk (Zk (Zv Z4 (ZY (z7 (zA ?_)))))))))
    exact Zv Z5 (ZN (zB (z6 (ZF Z5 Tryz.results44 (fun w hO => ⟨by rw [few_len (by omega)], hO.below⟩)))))
  refine Zh h1 (Zv Z5 (Zv (Zp b1 0) (Zl 0 ⟨b1, #[.slice A xs.length cap], 25⟩ (off := 0) (.slice A xs.length cap) (Zv (.int .i64 (xs.length : Int)) ?_))))
  by_cases h2 : (6 : Int) < (xs.length : Int)
  · refine Zg h2 (Zv Z4 (ZY (ZO (Zv Z5 (ZN (zB (z6 ?_)))))))
    exact ZF Z5 Tryz.results44 (fun w hO => ⟨by rw [few_len (by omega)], hO.below⟩)
  refine Zh h2 (Zv Z5 (ZX (ZB (z7 (ZO (Zv (.int .i64 0) (zP ?_)))))))
  refine z8 (zL (yL (fun L f m => ∃ (i : Nat) (j : Nat → Value), (i ≤ xs.length ∧ ∀ x ∈ xs.take i, fewA x.l = true) ∧ L = [⟨b1, #[.slice A xs.length cap], 25⟩] ∧ f = xF j [(1, Zp b1 0), (3, .int .i64 (i : Int))] ∧ m = xs.length - i) (xs.length - 0) ⟨0, _, ⟨Nat.zero_le _, by simp⟩, rfl, ZU, rfl⟩ ?_))
  rintro L f m ⟨i, j, hrel, rfl, rfl, rfl⟩
  have hrel0 := hrel; have hil := hrel.1
  refine z7 (ZO (Zv (.int .i64 (i : Int)) (Zv (Zp b1 0) (Zl 0 ⟨b1, #[.slice A xs.length cap], 25⟩ (off := 0) (.slice A xs.length cap) (Zv (.int .i64 (xs.length : Int)) ?_)))))
  by_cases h3 : (i : Int) < (xs.length : Int)
  · have hi : i < xs.length := by omega
    obtain ⟨b, off, hA, hlt, hcell⟩ := hv.top (by omega)
    obtain ⟨x, hx⟩ : ∃ x, xs[i] = x := ⟨_, rfl⟩
    have hxm : x ∈ xs := hx ▸ List.getElem_mem hi
    have hxn := hv.m x hxm
    refine Zg h3 (ZY (ZB (z7 (zL (z7 (ZO (Zv (Zp b1 0) ?_)))))))
    refine Zl 0 ⟨b1, #[.slice A xs.length cap], 25⟩ (off := 0) (.slice A xs.length cap) (Zv (.int .i64 (i : Int)) (zU (Zp b (off + i * 1)) (by kernel_rfl) (ZA (b := b) (off := off) (c := cap) (n := xs.length) (k := .i64) (j := (i : Int)) (e := 47) (sz := 1) hA) (Zo (.slice x.A x.l.length x.cap) (a := ⟨b, off + i * 1, none⟩) (fun w hO => y6 gS (fun j u h => (hO.below.cell (p := ⟨b, off + j, none⟩) hlt).trans (hcell j u h)) i 0 hi (by omega) _ (by rw [hx]; kernel_rfl)) (Zv (.int .i64 (x.l.length : Int)) ?_))))
    by_cases h4 : (x.l.length : Int) < 1
    · refine Zg h4 (Zv Z4 (Zk (Zk (Zk (Zk (Zk (Zk (Zk (Zv Z4 (zP (z8 ?_)))))))))))
      refine Zt (ZO (Zv Z5 (ZN (zB (z6 (zF (z6 (zW (zF ?_)))))))))
      exact z6 (ZF Z5 Tryz.results44 (fun w hO => ⟨by rw [few_one hxm (fewA_len (by omega))], hO.below⟩))
    refine Zh h4 (Zv Z5 (Zv (Zp b1 0) (Zl 0 ⟨b1, #[.slice A xs.length cap], 25⟩ (off := 0) (.slice A xs.length cap) (Zv (.int .i64 (i : Int)) (zU (Zp b (off + i * 1)) (by kernel_rfl) (ZA (b := b) (off := off) (c := cap) (n := xs.length) (k := .i64) (j := (i : Int)) (e := 47) (sz := 1) hA) (Zo (.slice x.A x.l.length x.cap) (a := ⟨b, off + i * 1, none⟩) (fun w hO => y6 gS (fun j u h => (hO.below.cell (p := ⟨b, off + j, none⟩) hlt).trans (hcell j u h)) i 0 hi (by omega) _ (by rw [hx]; kernel_rfl)) (Zv (.int .i64 (x.l.length : Int)) ?_)))))))
    by_cases h5 : (6 : Int) < (x.l.length : Int)
    · refine Zg h5 (Zv Z4 (ZY (ZO (Zv Z5 (ZN (zB (z6 ?_)))))))
      exact zF (z6 (zW (zF (z6 (ZF Z5 Tryz.results44 (fun w hO => ⟨by rw [few_one hxm (fewA_len (by omega))], hO.below⟩))))))
    refine Zh h5 (Zv Z5 (ZX (ZB (ZO (Zv (.int .i64 0) (zP (z8 ?_)))))))
    refine zL (yL (fun L f m => ∃ (k : Nat) (j : Nat → Value), (k ≤ x.l.length ∧ ∀ c ∈ x.l.take k, c.may = true) ∧ L = [⟨b1, #[.slice A xs.length cap], 25⟩] ∧ f = xF j [(1, Zp b1 0), (3, .int .i64 (i : Int)), (4, .int .i64 (k : Int))] ∧ m = x.l.length - k) (x.l.length - 0) ⟨0, _, ⟨Nat.zero_le _, by simp⟩, rfl, ZU, rfl⟩ ?_)
    rintro L f m ⟨k, j, hrel, rfl, rfl, rfl⟩
    have hkl := hrel.1
    refine z7 (ZO (Zv (.int .i64 (k : Int)) (Zv (Zp b1 0) (Zl 0 ⟨b1, #[.slice A xs.length cap], 25⟩ (off := 0) (.slice A xs.length cap) (Zv (.int .i64 (i : Int)) (zU (Zp b (off + i * 1)) (by kernel_rfl) (ZA (b := b) (off := off) (c := cap) (n := xs.length) (k := .i64) (j := (i : Int)) (e := 47) (sz := 1) hA) (Zo (.slice x.A x.l.length x.cap) (a := ⟨b, off + i * 1, none⟩) (fun w hO => y6 gS (fun j u h => (hO.below.cell (p := ⟨b, off + j, none⟩) hlt).trans (hcell j u h)) i 0 hi (by omega) _ (by rw [hx]; kernel_rfl)) (Zv (.int .i64 (x.l.length : Int)) ?_))))))))
    by_cases h6 : (k : Int) < (x.l.length : Int)
    · have hk : k < x.l.length := by omega
      obtain ⟨b2, off2, hA2, hlt2, hcell2⟩ := hv.each x hxm (by omega)
      obtain ⟨c, hc⟩ : ∃ c, x.l[k] = c := ⟨_, rfl⟩
      have hcm : c ∈ x.l := hc ▸ List.getElem_mem hk
      have hcS : c.short := hv.short x hxm c hcm
      refine Zg h6 (ZY (ZB (z7 (zL (ZO (Zv (Zp b1 0) (Zl 0 ⟨b1, #[.slice A xs.length cap], 25⟩ (off := 0) (.slice A xs.length cap) ?_)))))))
      refine Zv (.int .i64 (i : Int)) (zU (Zp b (off + i * 1)) (by kernel_rfl) (ZA (b := b) (off := off) (c := cap) (n := xs.length) (k := .i64) (j := (i : Int)) (e := 47) (sz := 1) hA) (Zo (.slice x.A x.l.length x.cap) (a := ⟨b, off + i * 1, none⟩) (fun w hO => y6 gS (fun j u h => (hO.below.cell (p := ⟨b, off + j, none⟩) hlt).trans (hcell j u h)) i 0 hi (by omega) _ (by rw [hx]; kernel_rfl)) (Zv (.int .i64 (k : Int)) (zU (Zp b2 (off2 + k * 7)) (by kernel_rfl) (ZA (b := b2) (off := off2) (c := x.cap) (n := x.l.length) (k := .i64) (j := (k : Int)) (e := 51) (sz := 7) hA2) (Zo (coV c) (a := ⟨b2, off2 + k * 7, none⟩) (fun w hO => y6 uM (fun j u h => (hO.below.cell (p := ⟨b2, off2 + j, none⟩) hlt2).trans (hcell2 j u h)) k 0 hk (by omega) _ (by rw [hc]; kernel_rfl)) (Zc (k := 79) (args := #[coV c]) (.bool c.may) (fun w _ => nG c w hcS) ?_))))))
      cases h7 : c.may with
      | true =>
        refine Zv Z5 (ZX (yC (zQ (z8 (zA (Zv (.int .i64 (k : Int)) (Zu (k := .i64) (((k + 1 : Nat) : Int)) (IntWalk.i64_in _ (by omega)) (Zv (.int .i64 ((k + 1 : Nat) : Int)) (zP ?_)))))))))
        exact zT (m' := x.l.length - (k + 1)) (by omega) ⟨k + 1, _, ⟨by omega, tT hrel.2 hk hc (by assumption)⟩, rfl, ZU, rfl⟩
      | false =>
        refine Zv Z4 (ZY (ZO (Zv Z5 (ZN (zB (zF (z6 ?_)))))))
        exact zW (zF (zF (z6 (zW (zF (z6 (ZF Z5 Tryz.results44 (fun w hO => ⟨by rw [few_one hxm (fewA_one hcm (by assumption))], hO.below⟩))))))))
    refine Zh h6 (ZX (y5 (zD (zN (zH (zQ (z8 (zA (Zv (.int .i64 (i : Int)) ?_)))))))))
    exact Zu (k := .i64) (((i + 1 : Nat) : Int)) (IntWalk.i64_in _ (by omega)) (Zv (.int .i64 ((i + 1 : Nat) : Int)) (zP (zT (m' := xs.length - (i + 1)) (by omega) ⟨i + 1, _, ⟨by omega, tT hrel0.2 hi hx (fewA_all (by omega) (take_end hrel.2 (by omega)))⟩, rfl, ZU, rfl⟩)))
  refine Zh h3 (ZX (y5 (zD (zN (zH (z8 (ZO (Zv Z4 ?_))))))))
  exact ZN (zB (ZF Z4 Tryz.results44 (fun w hO => ⟨by rw [few_all (by omega) (take_end hrel.2 (by omega))], hO.below⟩)))
theorem rstext_any (A : Option Addr) (cap : Nat) (xs : List Al) (W : World) (hv : RgIn W W.heap.size A xs) (hf : fewR (yU xs) = true) : Calls Tryz.prog 45 #[.agg #[.slice A xs.length cap]] W fun e w' => e = .returned (.string (mkS (kH (yU xs)))) ∧ Below W.heap.size W w' := by
  have hn := (few_mem hf).1.2
  refine Z2 (n := 43) Tryz.func45 rfl (ZO (Zb (.agg #[.slice A xs.length cap]) (fun b1 => Zv (.string ⟨#[]⟩) (ZR (Zv (.string ⟨#[]⟩) (zP (z8 ?_)))))))
  refine z7 (ZO (Zv (.int .i64 0) (ZN (zL (yL (fun L f m => ∃ (i : Nat) (s : List UInt8) (j : Nat → Value), (i ≤ xs.length ∧ s = kH ((yU xs).take i) ∧ s.length ≤ i * 3000) ∧ L = [⟨b1, #[.slice A xs.length cap], 25⟩] ∧ f = xF j [(1, Zp b1 0), (3, .string (mkS s)), (4, .int .i64 (i : Int))] ∧ m = xs.length - i) (xs.length - 0) ⟨0, [], _, ⟨Nat.zero_le _, rfl, Nat.zero_le _⟩, rfl, ZU, rfl⟩ ?_)))))
  rintro L f m ⟨i, s, j, hrel, rfl, rfl, rfl⟩
  have hrel0 := hrel; have hil := hrel.1; have hsl := hrel.2.2; have hsq := yY s
  refine z7 (ZO (Zv (.int .i64 (i : Int)) (Zv (Zp b1 0) (Zl 0 ⟨b1, #[.slice A xs.length cap], 25⟩ (off := 0) (.slice A xs.length cap) (Zv (.int .i64 (xs.length : Int)) ?_)))))
  by_cases h1 : (i : Int) < (xs.length : Int)
  · have hi : i < xs.length := by omega
    obtain ⟨b, off, hA, hlt, hcell⟩ := hv.top (by omega)
    obtain ⟨x, hx⟩ : ∃ x, xs[i] = x := ⟨_, rfl⟩
    have hxm : x ∈ xs := hx ▸ List.getElem_mem hi
    have hxn := hv.m x hxm
    refine Zg h1 (ZY (ZB (z7 (zL (z7 (ZO (Zv (.int .i64 (i : Int)) ?_)))))))
    by_cases h2 : (0 : Int) < (i : Int)
    · refine Zg h2 (ZY (zA (Zv (.string (mkS s)) (zU (.string (mkS (s ++ [32, 124, 124, 32]))) (by kernel_rfl) (yZ (a := s) (b := [32, 124, 124, 32]) rfl (by kernel_rfl) (by kernel_rfl) (by (try simp only [List.length_append, List.length_cons, List.length_nil]); omega)) (Zv (.string (mkS (s ++ [32, 124, 124, 32]))) (ZN (z7 (zA ?_))))))))
      refine Zv (.int .i64 0) (ZN (zL ?_))
      obtain ⟨p, hp⟩ : ∃ p, p = (s ++ [32, 124, 124, 32]) := ⟨_, rfl⟩
      have htp : (if i = 0 then [] else kH ((yU xs).take i) ++ [32, 124, 124, 32]) = p := by rw [if_neg (by omega), ← hrel.2.1, hp]
      have hpl : p.length ≤ i * 3000 + 4 := by rw [hp]; (try simp only [List.length_append, List.length_cons, List.length_nil]); omega
      rw [← hp]
      have hxf := (few_mem hf).2 x hxm
      refine yL (fun L f m => ∃ (k : Nat) (t : List UInt8) (j : Nat → Value), (k ≤ x.l.length ∧ t = p ++ xR (x.l.take k) ∧ t.length ≤ p.length + k * 400) ∧ L = [⟨b1, #[.slice A xs.length cap], 25⟩] ∧ f = xF j [(1, Zp b1 0), (3, .string (mkS t)), (4, .int .i64 (i : Int)), (5, .int .i64 (k : Int))] ∧ m = x.l.length - k) (x.l.length - 0) ⟨0, p, _, ⟨Nat.zero_le _, by simp [xR, vQ], by omega⟩, rfl, ZU, rfl⟩ ?_
      rintro L f m ⟨k, t, j, hrel, rfl, rfl, rfl⟩
      have hkl := hrel.1; have htl := hrel.2.2; have htq := yY t; have hx6 := hxf.1.2
      refine z7 (ZO (Zv (.int .i64 (k : Int)) (Zv (Zp b1 0) (Zl 0 ⟨b1, #[.slice A xs.length cap], 25⟩ (off := 0) (.slice A xs.length cap) (Zv (.int .i64 (i : Int)) (zU (Zp b (off + i * 1)) (by kernel_rfl) (ZA (b := b) (off := off) (c := cap) (n := xs.length) (k := .i64) (j := (i : Int)) (e := 47) (sz := 1) hA) (Zo (.slice x.A x.l.length x.cap) (a := ⟨b, off + i * 1, none⟩) (fun w hO => y6 gS (fun j u h => (hO.below.cell (p := ⟨b, off + j, none⟩) hlt).trans (hcell j u h)) i 0 hi (by omega) _ (by rw [hx]; kernel_rfl)) (Zv (.int .i64 (x.l.length : Int)) ?_))))))))
      by_cases h3 : (k : Int) < (x.l.length : Int)
      · have hk : k < x.l.length := by omega
        obtain ⟨b2, off2, hA2, hlt2, hcell2⟩ := hv.each x hxm (by omega)
        obtain ⟨c, hc⟩ : ∃ c, x.l[k] = c := ⟨_, rfl⟩
        have hcm : c ∈ x.l := hc ▸ List.getElem_mem hk
        have hcS : c.short := hv.short x hxm c hcm
        have hcy := hxf.2 c hcm
        have hcl := mU hcy
        refine Zg h3 (ZY (ZB (z7 (zL (z7 (ZO (Zv (.int .i64 (k : Int)) ?_)))))))
        by_cases h4 : (0 : Int) < (k : Int)
        · refine Zg h4 (ZY (zA (Zv (.string (mkS t)) (zU (.string (mkS (t ++ [44, 32]))) (by kernel_rfl) (yZ (a := t) (b := [44, 32]) rfl (by kernel_rfl) (by kernel_rfl) (by (try simp only [List.length_append, List.length_cons, List.length_nil]); omega)) (Zv (.string (mkS (t ++ [44, 32]))) (ZN (zA (Zv (.string (mkS (t ++ [44, 32]))) ?_))))))))
          refine Zv (Zp b1 0) (Zl 0 ⟨b1, #[.slice A xs.length cap], 25⟩ (off := 0) (.slice A xs.length cap) (Zv (.int .i64 (i : Int)) (zU (Zp b (off + i * 1)) (by kernel_rfl) (ZA (b := b) (off := off) (c := cap) (n := xs.length) (k := .i64) (j := (i : Int)) (e := 47) (sz := 1) hA) (Zo (.slice x.A x.l.length x.cap) (a := ⟨b, off + i * 1, none⟩) (fun w hO => y6 gS (fun j u h => (hO.below.cell (p := ⟨b, off + j, none⟩) hlt).trans (hcell j u h)) i 0 hi (by omega) _ (by rw [hx]; kernel_rfl)) (Zv (.int .i64 (k : Int)) (zU (Zp b2 (off2 + k * 7)) (by kernel_rfl) (ZA (b := b2) (off := off2) (c := x.cap) (n := x.l.length) (k := .i64) (j := (k : Int)) (e := 51) (sz := 7) hA2) (Zo (coV c) (a := ⟨b2, off2 + k * 7, none⟩) (fun w hO => y6 uM (fun j u h => (hO.below.cell (p := ⟨b2, off2 + j, none⟩) hlt2).trans (hcell2 j u h)) k 0 hk (by omega) _ (by rw [hc]; kernel_rfl)) (Zc (k := 78) (args := #[coV c]) (.string (mkS c.print)) (fun w _ => jT c w hcS) (zU (.string (mkS ((t ++ [44, 32]) ++ c.print))) (by kernel_rfl) (yZ (a := (t ++ [44, 32])) (b := c.print) rfl (by kernel_rfl) (by kernel_rfl) (by (try simp only [List.length_append, List.length_cons, List.length_nil]); omega)) (Zv (.string (mkS ((t ++ [44, 32]) ++ c.print))) (zP ?_)))))))))))
          exact zQ (z8 (zA (Zv (.int .i64 (k : Int)) (Zu (k := .i64) (((k + 1 : Nat) : Int)) (IntWalk.i64_in _ (by omega)) (Zv (.int .i64 ((k + 1 : Nat) : Int)) (zP (zT (m' := x.l.length - (k + 1)) (by omega) ⟨k + 1, ((t ++ [44, 32]) ++ c.print), _, ⟨by omega, by rw [hrel.2.1, b8 hk hc, if_neg (by omega)]; simp only [List.append_assoc], by have := mU hcy; (try simp only [List.length_append, List.length_cons, List.length_nil]); omega⟩, rfl, ZU, rfl⟩)))))))
        refine Zh h4 (ZX (ZB (zA (Zv (.string (mkS t)) (Zv (Zp b1 0) (Zl 0 ⟨b1, #[.slice A xs.length cap], 25⟩ (off := 0) (.slice A xs.length cap) (Zv (.int .i64 (i : Int)) (zU (Zp b (off + i * 1)) (by kernel_rfl) (ZA (b := b) (off := off) (c := cap) (n := xs.length) (k := .i64) (j := (i : Int)) (e := 47) (sz := 1) hA) ?_))))))))
        refine Zo (.slice x.A x.l.length x.cap) (a := ⟨b, off + i * 1, none⟩) (fun w hO => y6 gS (fun j u h => (hO.below.cell (p := ⟨b, off + j, none⟩) hlt).trans (hcell j u h)) i 0 hi (by omega) _ (by rw [hx]; kernel_rfl)) (Zv (.int .i64 (k : Int)) (zU (Zp b2 (off2 + k * 7)) (by kernel_rfl) (ZA (b := b2) (off := off2) (c := x.cap) (n := x.l.length) (k := .i64) (j := (k : Int)) (e := 51) (sz := 7) hA2) (Zo (coV c) (a := ⟨b2, off2 + k * 7, none⟩) (fun w hO => y6 uM (fun j u h => (hO.below.cell (p := ⟨b2, off2 + j, none⟩) hlt2).trans (hcell2 j u h)) k 0 hk (by omega) _ (by rw [hc]; kernel_rfl)) (Zc (k := 78) (args := #[coV c]) (.string (mkS c.print)) (fun w _ => jT c w hcS) (zU (.string (mkS (t ++ c.print))) (by kernel_rfl) (yZ (a := t) (b := c.print) rfl (by kernel_rfl) (by kernel_rfl) (by (try simp only [List.length_append, List.length_cons, List.length_nil]); omega)) (Zv (.string (mkS (t ++ c.print))) (zP (zQ (z8 (zA (Zv (.int .i64 (k : Int)) ?_)))))))))))
        exact Zu (k := .i64) (((k + 1 : Nat) : Int)) (IntWalk.i64_in _ (by omega)) (Zv (.int .i64 ((k + 1 : Nat) : Int)) (zP (zT (m' := x.l.length - (k + 1)) (by omega) ⟨k + 1, (t ++ c.print), _, ⟨by omega, by rw [hrel.2.1, b8 hk hc, if_pos (by omega), show k = 0 by omega]; simp [xR, vQ], by have := mU hcy; (try simp only [List.length_append, List.length_cons, List.length_nil]); omega⟩, rfl, ZU, rfl⟩)))
      refine Zh h3 (ZX (y5 (zD (zN (zH (zQ (z8 (zA (Zv (.int .i64 (i : Int)) ?_)))))))))
      exact Zu (k := .i64) (((i + 1 : Nat) : Int)) (IntWalk.i64_in _ (by omega)) (Zv (.int .i64 ((i + 1 : Nat) : Int)) (zP (zT (m' := xs.length - (i + 1)) (by omega) ⟨i + 1, t, _, ⟨by omega, by rw [hrel.2.1, List.take_of_length_le (by omega : x.l.length ≤ k), rgText_step (by rw [xK]; exact hi) (jD hi hx), htp], by have := hrel.2.2; have := hxf.1.2; omega⟩, rfl, ZU, rfl⟩)))
    refine Zh h2 (ZX (ZB (ZO (Zv (.int .i64 0) (ZN (zL ?_))))))
    obtain ⟨p, hp⟩ : ∃ p, p = s := ⟨_, rfl⟩
    have htp : (if i = 0 then [] else kH ((yU xs).take i) ++ [32, 124, 124, 32]) = p := by rw [if_pos (by omega), hp, hrel.2.1, show i = 0 by omega]; rfl
    have hpl : p.length ≤ i * 3000 + 4 := by rw [hp]; (try simp only [List.length_append, List.length_cons, List.length_nil]); omega
    rw [← hp]
    have hxf := (few_mem hf).2 x hxm
    refine yL (fun L f m => ∃ (k : Nat) (t : List UInt8) (j : Nat → Value), (k ≤ x.l.length ∧ t = p ++ xR (x.l.take k) ∧ t.length ≤ p.length + k * 400) ∧ L = [⟨b1, #[.slice A xs.length cap], 25⟩] ∧ f = xF j [(1, Zp b1 0), (3, .string (mkS t)), (4, .int .i64 (i : Int)), (5, .int .i64 (k : Int))] ∧ m = x.l.length - k) (x.l.length - 0) ⟨0, p, _, ⟨Nat.zero_le _, by simp [xR, vQ], by omega⟩, rfl, ZU, rfl⟩ ?_
    rintro L f m ⟨k, t, j, hrel, rfl, rfl, rfl⟩
    have hkl := hrel.1; have htl := hrel.2.2; have htq := yY t; have hx6 := hxf.1.2
    refine z7 (ZO (Zv (.int .i64 (k : Int)) (Zv (Zp b1 0) (Zl 0 ⟨b1, #[.slice A xs.length cap], 25⟩ (off := 0) (.slice A xs.length cap) (Zv (.int .i64 (i : Int)) (zU (Zp b (off + i * 1)) (by kernel_rfl) (ZA (b := b) (off := off) (c := cap) (n := xs.length) (k := .i64) (j := (i : Int)) (e := 47) (sz := 1) hA) (Zo (.slice x.A x.l.length x.cap) (a := ⟨b, off + i * 1, none⟩) (fun w hO => y6 gS (fun j u h => (hO.below.cell (p := ⟨b, off + j, none⟩) hlt).trans (hcell j u h)) i 0 hi (by omega) _ (by rw [hx]; kernel_rfl)) (Zv (.int .i64 (x.l.length : Int)) ?_))))))))
    by_cases h5 : (k : Int) < (x.l.length : Int)
    · have hk : k < x.l.length := by omega
      obtain ⟨b2, off2, hA2, hlt2, hcell2⟩ := hv.each x hxm (by omega)
      obtain ⟨c, hc⟩ : ∃ c, x.l[k] = c := ⟨_, rfl⟩
      have hcm : c ∈ x.l := hc ▸ List.getElem_mem hk
      have hcS : c.short := hv.short x hxm c hcm
      have hcy := hxf.2 c hcm
      have hcl := mU hcy
      refine Zg h5 (ZY (ZB (z7 (zL (z7 (ZO (Zv (.int .i64 (k : Int)) ?_)))))))
      by_cases h6 : (0 : Int) < (k : Int)
      · refine Zg h6 (ZY (zA (Zv (.string (mkS t)) (zU (.string (mkS (t ++ [44, 32]))) (by kernel_rfl) (yZ (a := t) (b := [44, 32]) rfl (by kernel_rfl) (by kernel_rfl) (by (try simp only [List.length_append, List.length_cons, List.length_nil]); omega)) (Zv (.string (mkS (t ++ [44, 32]))) (ZN (zA (Zv (.string (mkS (t ++ [44, 32]))) ?_))))))))
        refine Zv (Zp b1 0) (Zl 0 ⟨b1, #[.slice A xs.length cap], 25⟩ (off := 0) (.slice A xs.length cap) (Zv (.int .i64 (i : Int)) (zU (Zp b (off + i * 1)) (by kernel_rfl) (ZA (b := b) (off := off) (c := cap) (n := xs.length) (k := .i64) (j := (i : Int)) (e := 47) (sz := 1) hA) (Zo (.slice x.A x.l.length x.cap) (a := ⟨b, off + i * 1, none⟩) (fun w hO => y6 gS (fun j u h => (hO.below.cell (p := ⟨b, off + j, none⟩) hlt).trans (hcell j u h)) i 0 hi (by omega) _ (by rw [hx]; kernel_rfl)) (Zv (.int .i64 (k : Int)) (zU (Zp b2 (off2 + k * 7)) (by kernel_rfl) (ZA (b := b2) (off := off2) (c := x.cap) (n := x.l.length) (k := .i64) (j := (k : Int)) (e := 51) (sz := 7) hA2) (Zo (coV c) (a := ⟨b2, off2 + k * 7, none⟩) (fun w hO => y6 uM (fun j u h => (hO.below.cell (p := ⟨b2, off2 + j, none⟩) hlt2).trans (hcell2 j u h)) k 0 hk (by omega) _ (by rw [hc]; kernel_rfl)) (Zc (k := 78) (args := #[coV c]) (.string (mkS c.print)) (fun w _ => jT c w hcS) (zU (.string (mkS ((t ++ [44, 32]) ++ c.print))) (by kernel_rfl) (yZ (a := (t ++ [44, 32])) (b := c.print) rfl (by kernel_rfl) (by kernel_rfl) (by (try simp only [List.length_append, List.length_cons, List.length_nil]); omega)) (Zv (.string (mkS ((t ++ [44, 32]) ++ c.print))) (zP ?_)))))))))))
        exact zQ (z8 (zA (Zv (.int .i64 (k : Int)) (Zu (k := .i64) (((k + 1 : Nat) : Int)) (IntWalk.i64_in _ (by omega)) (Zv (.int .i64 ((k + 1 : Nat) : Int)) (zP (zT (m' := x.l.length - (k + 1)) (by omega) ⟨k + 1, ((t ++ [44, 32]) ++ c.print), _, ⟨by omega, by rw [hrel.2.1, b8 hk hc, if_neg (by omega)]; simp only [List.append_assoc], by have := mU hcy; (try simp only [List.length_append, List.length_cons, List.length_nil]); omega⟩, rfl, ZU, rfl⟩)))))))
      refine Zh h6 (ZX (ZB (zA (Zv (.string (mkS t)) (Zv (Zp b1 0) (Zl 0 ⟨b1, #[.slice A xs.length cap], 25⟩ (off := 0) (.slice A xs.length cap) (Zv (.int .i64 (i : Int)) (zU (Zp b (off + i * 1)) (by kernel_rfl) (ZA (b := b) (off := off) (c := cap) (n := xs.length) (k := .i64) (j := (i : Int)) (e := 47) (sz := 1) hA) ?_))))))))
      refine Zo (.slice x.A x.l.length x.cap) (a := ⟨b, off + i * 1, none⟩) (fun w hO => y6 gS (fun j u h => (hO.below.cell (p := ⟨b, off + j, none⟩) hlt).trans (hcell j u h)) i 0 hi (by omega) _ (by rw [hx]; kernel_rfl)) (Zv (.int .i64 (k : Int)) (zU (Zp b2 (off2 + k * 7)) (by kernel_rfl) (ZA (b := b2) (off := off2) (c := x.cap) (n := x.l.length) (k := .i64) (j := (k : Int)) (e := 51) (sz := 7) hA2) (Zo (coV c) (a := ⟨b2, off2 + k * 7, none⟩) (fun w hO => y6 uM (fun j u h => (hO.below.cell (p := ⟨b2, off2 + j, none⟩) hlt2).trans (hcell2 j u h)) k 0 hk (by omega) _ (by rw [hc]; kernel_rfl)) (Zc (k := 78) (args := #[coV c]) (.string (mkS c.print)) (fun w _ => jT c w hcS) (zU (.string (mkS (t ++ c.print))) (by kernel_rfl) (yZ (a := t) (b := c.print) rfl (by kernel_rfl) (by kernel_rfl) (by (try simp only [List.length_append, List.length_cons, List.length_nil]); omega)) (Zv (.string (mkS (t ++ c.print))) (zP (zQ (z8 (zA (Zv (.int .i64 (k : Int)) ?_)))))))))))
      exact Zu (k := .i64) (((k + 1 : Nat) : Int)) (IntWalk.i64_in _ (by omega)) (Zv (.int .i64 ((k + 1 : Nat) : Int)) (zP (zT (m' := x.l.length - (k + 1)) (by omega) ⟨k + 1, (t ++ c.print), _, ⟨by omega, by rw [hrel.2.1, b8 hk hc, if_pos (by omega), show k = 0 by omega]; simp [xR, vQ], by have := mU hcy; (try simp only [List.length_append, List.length_cons, List.length_nil]); omega⟩, rfl, ZU, rfl⟩)))
    refine Zh h5 (ZX (y5 (zD (zN (zH (zQ (z8 (zA (Zv (.int .i64 (i : Int)) ?_)))))))))
    exact Zu (k := .i64) (((i + 1 : Nat) : Int)) (IntWalk.i64_in _ (by omega)) (Zv (.int .i64 ((i + 1 : Nat) : Int)) (zP (zT (m' := xs.length - (i + 1)) (by omega) ⟨i + 1, t, _, ⟨by omega, by rw [hrel.2.1, List.take_of_length_le (by omega : x.l.length ≤ k), rgText_step (by rw [xK]; exact hi) (jD hi hx), htp], by have := hrel.2.2; have := hxf.1.2; omega⟩, rfl, ZU, rfl⟩)))
  refine Zh h1 (ZX (y5 (zD (zN (zH (z8 (ZO (Zv (.string (mkS s)) ?_))))))))
  exact Zv (.string (mkS s)) (ZN (zB (ZF (.string (mkS s)) Tryz.results45 (fun w hO => ⟨by rw [hrel.2.1, List.take_of_length_le (by rw [xK]; omega)], hO.below⟩))))
theorem rsMay_any (A : Option Addr) (cap : Nat) (xs : List Al) (W : World) (hv : RgIn W W.heap.size A xs) : Calls Tryz.prog 20 #[.agg #[.slice A xs.length cap]] W fun e w' => e = .returned (.bool (rgMay (yU xs))) ∧ Below W.heap.size W w' := by
  refine Z2 (n := 11) Tryz.func20 rfl (ZO (Zb (.agg #[.slice A xs.length cap]) (fun b1 => Zv Z5 (ZR (Zl 0 ⟨b1, #[.slice A xs.length cap], 25⟩ (off := 0) (.agg #[.slice A xs.length cap]) (Zc (k := 44) (args := #[.agg #[.slice A xs.length cap]]) (.bool (fewR (yU xs))) (fun w hO => rsfew_any A cap xs w (hv.on hO.below hO.below.size)) (Zv (.bool (fewR (yU xs))) ?_)))))))
  cases h1 : fewR (yU xs) with
  | true =>
    refine Zl 0 ⟨b1, #[.slice A xs.length cap], 25⟩ (off := 0) (.agg #[.slice A xs.length cap]) (Zc (k := 45) (args := #[.agg #[.slice A xs.length cap]]) (.string (mkS (kH (yU xs)))) (fun w hO => rstext_any A cap xs w (hv.on hO.below hO.below.size) h1) (Zv (.int .i64 ((mkS (kH (yU xs))).size)) ?_))
    by_cases h2 : ((mkS (kH (yU xs))).size : Int) ≤ 96
    · exact Zg h2 (Zv Z4 (Zv Z4 (ZN (zB (ZF Z4 Tryz.results20 (fun w hO => ⟨by unfold rgMay; rw [h1, decide_eq_true (by have := yY (kH (yU xs)); omega)]; rfl, hO.below⟩))))))
    exact Zh h2 (Zv Z5 (Zv Z5 (ZN (zB (ZF Z5 Tryz.results20 (fun w hO => ⟨by unfold rgMay; rw [h1, decide_eq_false (by have := yY (kH (yU xs)); omega)]; rfl, hO.below⟩))))))
  | false =>
    exact Zk (Zk (Zk (Zk (Zv Z5 (Zv Z5 (ZN (zB (ZF Z5 Tryz.results20 (fun w hO => ⟨by unfold rgMay; rw [h1]; rfl, hO.below⟩)))))))))
end
section
theorem mk_mid (s : List UInt8) (i j : Nat) : (mkS s).extract i j = mkS ((s.drop i).take (j - i)) := by rw [bM, mk_data]
theorem run_strmid {P : Program} {ρ : Operand → Value} {o : Oper} {t : TypeId} {x y z : Operand} {s : List UInt8} {k q : IntKind} {i j : Int} (ho : o.op = .slice t x (some y) (some z) none) (hx : ρ x = .string (mkS s)) (hy : ρ y = .int k i) (hz : ρ z = .int q j)
    (hu : P.underlying t = some .string) (h0 : 0 ≤ i) (h1 : i ≤ j) (h3 : j ≤ s.length) (w : World) : (execOp ρ o).run P w = .ok (.value (.string (mkS ((s.drop i.toNat).take (j.toNat - i.toNat))))) w := by
  unfold execOp
  have h2 : j ≤ ((mkS s).size : Int) := by rw [yY]; exact h3
  have h4 : 0 ≤ j := Int.le_trans h0 h1
  simp [ho, hx, hy, hz, Instr.sliceAt, Instr.slice, Instr.sliceBounds, Instr.sliceBound, Sem.run_bind, asIntOf, run_underlying hu, h0, h1, h2, h4, mk_mid]
  try (intro h9; exfalso; omega)
end
section
theorem bareF_len0 {u : List UInt8} (h : u.length = 0) : xI u = u := by rw [List.eq_nil_of_length_eq_zero h]; rfl
theorem cons_of {u : List UInt8} (h : 0 < u.length) {c : UInt8} (hc : u[0] = c) : u = c :: u.drop 1 := by
  have := List.drop_eq_getElem_cons h
  rw [List.drop_zero, hc] at this; exact this
theorem bareF_stop {u : List UInt8} (h : 0 < u.length) {c : UInt8} (hc : u[0] = c) (hn : ¬ (c.toNat : Int) = 32) : xI u = u := by
  rw [cons_of h hc, xI, if_neg fun e : c = 32 => hn ((jK (n := 32) (by decide)).2 e)]
theorem bareF_go {u : List UInt8} (h : 0 < u.length) {c : UInt8} (hc : u[0] = c) (hn : (c.toNat : Int) = 32) : xI (u.drop 1) = xI u := by
  conv => rhs; rw [cons_of h hc, xI, if_pos (show c = 32 from (jK (n := 32) (by decide)).1 hn)]
theorem snoc_of {u : List UInt8} (h : 0 < u.length) {c : UInt8} (hc : u[u.length - 1]'(by omega) = c) : u = u.take (u.length - 1) ++ [c] := by
  have := List.take_succ_eq_append_getElem (l := u) (i := u.length - 1) (by omega)
  rw [hc, show u.length - 1 + 1 = u.length from by omega, List.take_length] at this; exact this
theorem rev_of {u : List UInt8} (h : 0 < u.length) {c : UInt8} (hc : u[u.length - 1]'(by omega) = c) : u.reverse = c :: (u.take (u.length - 1)).reverse := by
  conv => lhs; rw [snoc_of h hc]
  rw [List.reverse_append]; rfl
theorem rev_stop {u : List UInt8} (h : 0 < u.length) {c : UInt8} (hc : u[u.length - 1]'(by omega) = c) (hn : ¬ (c.toNat : Int) = 32) : xI u.reverse = u.reverse := by
  rw [rev_of h hc, xI, if_neg fun e : c = 32 => hn ((jK (n := 32) (by decide)).2 e)]
theorem rev_go {u : List UInt8} (h : 0 < u.length) {c : UInt8} (hc : u[u.length - 1]'(by omega) = c) (hn : (c.toNat : Int) = 32) : xI (u.take (u.length - 1)).reverse = xI u.reverse := by
  conv => rhs; rw [rev_of h hc, xI, if_pos (show c = 32 from (jK (n := 32) (by decide)).1 hn)]
theorem nX {s u v : List UInt8} (h1 : xI s = u) (h2 : xI v.reverse = xI u.reverse) (h3 : xI v.reverse = v.reverse) : yS s = v := by
  unfold yS
  rw [h1, ← h2, h3, List.reverse_reverse]
structure AlI (s : List UInt8) (i f : Nat) (u : Value) (P : List (List UInt8)) (ob : List Blk) : Prop where
  fi : f ≤ i + 1
  il : i ≤ s.length
  fl : f ≤ s.length
  sl : SlT u P ob
  eq : P ++ kS ((s.drop f).take (i - f)) (s.drop (max i f)) = kS [] s
  pl : P.length ≤ i
theorem AlI.start (s : List UInt8) : AlI s 0 0 (.slice none 0 0) [] [] := ⟨by omega, by omega, by omega, Sl.nil _ _, by simp, Nat.le_refl _⟩
theorem two_of {s : List UInt8} {i : Nat} (h : i + 1 < s.length) {c d : UInt8} (hc : s[i]'(by omega) = c) (hd : s[i + 1] = d) : s.drop i = c :: d :: s.drop (i + 2) := by
  rw [List.drop_eq_getElem_cons (show i < s.length by omega), hc, List.drop_eq_getElem_cons h, hd]
theorem AlI.on {s : List UInt8} {i f : Nat} {u : Value} {P : List (List UInt8)} {ob : List Blk} (h : AlI s i f u P ob) (hi : i + 1 < s.length) {c d : UInt8} (hc : s[i]'(by omega) = c) (hd : s[i + 1] = d) (hn : ¬ ((c.toNat : Int) = 124 ∧ (d.toNat : Int) = 124 ∧ f ≤ i)) : AlI s (i + 1) f u P ob := by
  have hfi := h.fi
  refine ⟨by omega, by omega, h.fl, h.sl, ?_, by have := h.pl; omega⟩
  rw [← h.eq]
  congr 1
  by_cases hf : f ≤ i
  · rw [show max (i + 1) f = i + 1 by omega, show max i f = i by omega, two_of hi hc hd, kS, if_neg fun e : c = 124 ∧ d = 124 => hn ⟨(jK (n := 124) (by decide)).2 e.1, (jK (n := 124) (by decide)).2 e.2, hf⟩]
    congr 1
    · rw [show i + 1 - f = (i - f) + 1 by omega, List.take_succ_eq_append_getElem (by rw [List.length_drop]; omega)]
      congr 1
      rw [List.getElem_drop]
      congr 1
      rw [← hc]
      congr 1
      omega
    · rw [List.drop_eq_getElem_cons hi, hd]
  · rw [show i + 1 - f = 0 by omega, show i - f = 0 by omega, show max (i + 1) f = f by omega, show max i f = f by omega]
theorem AlI.hit {s : List UInt8} {i f : Nat} {u : Value} {P : List (List UInt8)} {ob : List Blk} (h : AlI s i f u P ob) (hi : i + 1 < s.length) {c d : UInt8} (hc : s[i]'(by omega) = c) (hd : s[i + 1] = d) (h1 : (c.toNat : Int) = 124) (h2 : (d.toNat : Int) = 124) (hf : f ≤ i) {u2 : Value} {ob2 : List Blk}
    (hu : Sl 9 1 u2 (P.length + 1) (qN P ++ wX ((s.drop f).take (i - f))) ob2) : AlI s (i + 1) (i + 2) u2 (P ++ [(s.drop f).take (i - f)]) ob2 := by
  refine ⟨by omega, by omega, by omega, hu.to (by simp) (by simp [qN, wX]), ?_, by have := h.pl; rw [List.length_append]; simp; omega⟩
  rw [← h.eq, List.append_assoc]
  congr 1
  rw [show max i f = i by omega, two_of hi hc hd, kS, if_pos ⟨(jK (n := 124) (by decide)).1 h1, (jK (n := 124) (by decide)).1 h2⟩, show i + 1 - (i + 2) = 0 by omega, show max (i + 1) (i + 2) = i + 2 by omega]
  rfl
theorem altsL_short {x acc : List UInt8} (h : x.length ≤ 1) : kS acc x = [acc ++ x] := by
  match x, h with
  | [], _ => simp [kS]
  | [c], _ => rfl
theorem AlI.fin {s : List UInt8} {i f : Nat} {u : Value} {P : List (List UInt8)} {ob : List Blk} (h : AlI s i f u P ob) (hi : ¬ i + 1 < s.length) : P ++ [s.drop f] = kS [] s := by
  rw [← h.eq, altsL_short (by rw [List.length_drop]; omega)]
  congr 2
  by_cases hf : f ≤ i
  · rw [show max i f = i by omega]
    conv => lhs; rw [← List.take_append_drop (i - f) (s.drop f)]
    rw [List.drop_drop, show f + (i - f) = i by omega]
  · rw [show i - f = 0 by omega, show max i f = f by omega]; rfl
theorem own_ends {M : List Nat} {W w : World} {x : Blk} {A : List Blk} (h : Own M W w ([x] ++ A ++ [])) : Own M W w (A ++ []) := h.sublist (by rw [List.append_nil, List.append_nil]; exact List.sublist_append_right [x] A)
theorem rsbare_any (s : List UInt8) (W : World) (hs : s.length ≤ 1000000) : Calls Tryz.prog 43 #[.string (mkS s)] W fun e w' => e = .returned (.string (mkS (yS s))) ∧ Below W.heap.size W w' := by
  have hsz := yY s
  refine Z2 (n := 30) Tryz.func43 rfl (ZO (Zv (.string ⟨#[]⟩) (ZN (z7 (zL (yL (fun L f m => ∃ (u : List UInt8) (j : Nat → Value), (xI u = xI s ∧ u.length ≤ s.length) ∧ L = [] ∧ f = xF j [(0, .string (mkS u))] ∧ m = u.length) (s.length) ⟨s, _, ⟨rfl, Nat.le_refl _⟩, rfl, ZU, rfl⟩ ?_))))))
  rintro L f m ⟨u, j, hrel, rfl, rfl, rfl⟩
  have hul := hrel.2; have huq := yY u
  refine z7 (ZO (Zv (.string (mkS u)) (Zv (.int .i64 ((mkS u).size)) ?_)))
  by_cases h1 : (0 : Int) < (mkS u).size
  · have hu0 : 0 < u.length := by omega
    obtain ⟨ch, hch⟩ : ∃ x, u[0]'(by omega) = x := ⟨_, rfl⟩
    refine Zg h1 (Zv Z4 (Zv (.string (mkS u)) (zU (.int .u8 (ch.toNat : Int)) (by kernel_rfl) (fun w => by rw [← hch]; exact jN (s := u) (k := .i64) (j := 0) rfl (by kernel_rfl) (by kernel_rfl) Tryz.underlying9 (by omega) (by omega) w) ?_)))
    by_cases h2 : (ch.toNat : Int) = 32
    · refine Zg h2 (Zv Z4 (ZY (ZB (zL (zA (Zv (.string (mkS u)) (zU (.string (mkS (u.drop 1))) (by kernel_rfl) (qQ (s := u) (k := .i64) (j := 1) rfl (by kernel_rfl) (by kernel_rfl) Tryz.underlying9 (by omega) (by omega)) (Zv (.string (mkS (u.drop 1))) ?_))))))))
      refine zP (zQ ?_)
      have hdl : (u.drop 1).length = u.length - 1 := List.length_drop ..
      exact zT (m' := (u.drop 1).length) (by omega) ⟨u.drop 1, _, ⟨by rw [bareF_go hu0 hch h2]; exact hrel.1, by rw [List.length_drop]; omega⟩, rfl, ZU, rfl⟩
    refine Zh h2 (Zv Z5 (ZX (y5 (zD (zN (zH (z8 (z7 (zL ?_)))))))))
    have hbu : xI s = u := by rw [← hrel.1]; exact bareF_stop hu0 hch h2
    clear hrel hch hu0
    refine yL (fun L f m => ∃ (v : List UInt8) (j : Nat → Value), (xI v.reverse = xI u.reverse ∧ v.length ≤ u.length) ∧ L = [] ∧ f = xF j [(0, .string (mkS v))] ∧ m = v.length) (u.length) ⟨u, _, ⟨rfl, Nat.le_refl _⟩, rfl, ZU, rfl⟩ ?_
    rintro L f m ⟨v, j, hrel, rfl, rfl, rfl⟩
    have hvl := hrel.2; have hvq := yY v
    refine z7 (ZO (Zv (.string (mkS v)) (Zv (.int .i64 ((mkS v).size)) ?_)))
    by_cases h3 : (0 : Int) < (mkS v).size
    · have hu0 : 0 < v.length := by omega
      obtain ⟨cz, hcz⟩ : ∃ x, v[v.length - 1]'(by omega) = x := ⟨_, rfl⟩
      refine Zg h3 (Zv Z4 (Zv (.string (mkS v)) (Zv (.string (mkS v)) (Zv (.int .i64 ((mkS v).size)) (Zu (k := .i64) ((((mkS v).size) : Int) - 1) (IntWalk.i64_in _ (by omega)) (zU (.int .u8 (cz.toNat : Int)) (by kernel_rfl) (fun w => by rw [← hcz]; exact jN (s := v) (k := .i64) (j := ((v.length - 1 : Nat) : Int)) rfl (by kernel_rfl) (by rw [show ((v.length - 1 : Nat) : Int) = (mkS v).size - 1 by omega]; kernel_rfl) Tryz.underlying9 (by omega) (by omega) w) ?_))))))
      by_cases h4 : (cz.toNat : Int) = 32
      · refine Zg h4 (Zv Z4 (ZY (ZB (zL (zA (Zv (.string (mkS v)) (Zv (.string (mkS v)) (Zv (.int .i64 ((mkS v).size)) ?_))))))))
        refine Zu (k := .i64) ((((mkS v).size) : Int) - 1) (IntWalk.i64_in _ (by omega)) (zU (.string (mkS (v.take (v.length - 1)))) (by kernel_rfl) (nC (s := v) (k := .i64) (j := ((v.length - 1 : Nat) : Int)) rfl (by kernel_rfl) (by rw [show ((v.length - 1 : Nat) : Int) = (mkS v).size - 1 by omega]; kernel_rfl) Tryz.underlying9 (by omega) (by omega)) (Zv (.string (mkS (v.take (v.length - 1)))) (zP (zQ ?_))))
        have hdl : (v.take (v.length - 1)).length = v.length - 1 := by rw [List.length_take]; omega
        exact zT (m' := (v.take (v.length - 1)).length) (by omega) ⟨v.take (v.length - 1), _, ⟨by rw [rev_go hu0 hcz h4]; exact hrel.1, by rw [List.length_take]; omega⟩, rfl, ZU, rfl⟩
      refine Zh h4 (Zv Z5 (ZX (y5 (zD (zN (zH (z8 (z7 (zA ?_)))))))))
      exact Zv (.string (mkS v)) (Zv (.string (mkS v)) (ZN (zB (ZF (.string (mkS v)) Tryz.results43 (fun w hO => ⟨by rw [nX hbu hrel.1 (rev_stop hu0 hcz h4)], hO.below⟩)))))
    refine Zh h3 (Zv Z5 (Zk (Zk (Zk (Zk (Zk (Zk (Zv Z5 (ZN (Zf ?_))))))))))
    refine y5 (zD (zN (zH (z8 (ZO (Zv (.string (mkS v)) (Zv (.string (mkS v)) (ZN (zB ?_)))))))))
    exact ZF (.string (mkS v)) Tryz.results43 (fun w hO => ⟨by rw [nX hbu hrel.1 (by rw [List.eq_nil_of_length_eq_zero (show v.length = 0 by omega)]; rfl)], hO.below⟩)
  refine Zh h1 (Zv Z5 (Zk (Zk (Zk (Zv Z5 (ZX (y5 (zD (zN ?_)))))))))
  refine zH (z8 (z7 (zL ?_)))
  have hbu : xI s = u := by rw [← hrel.1]; exact bareF_len0 (by omega)
  clear hrel
  refine yL (fun L f m => ∃ (v : List UInt8) (j : Nat → Value), (xI v.reverse = xI u.reverse ∧ v.length ≤ u.length) ∧ L = [] ∧ f = xF j [(0, .string (mkS v))] ∧ m = v.length) (u.length) ⟨u, _, ⟨rfl, Nat.le_refl _⟩, rfl, ZU, rfl⟩ ?_
  rintro L f m ⟨v, j, hrel, rfl, rfl, rfl⟩
  have hvl := hrel.2; have hvq := yY v
  refine z7 (ZO (Zv (.string (mkS v)) (Zv (.int .i64 ((mkS v).size)) ?_)))
  by_cases h5 : (0 : Int) < (mkS v).size
  · have hu0 : 0 < v.length := by omega
    obtain ⟨cz, hcz⟩ : ∃ x, v[v.length - 1]'(by omega) = x := ⟨_, rfl⟩
    refine Zg h5 (Zv Z4 (Zv (.string (mkS v)) (Zv (.string (mkS v)) (Zv (.int .i64 ((mkS v).size)) (Zu (k := .i64) ((((mkS v).size) : Int) - 1) (IntWalk.i64_in _ (by omega)) (zU (.int .u8 (cz.toNat : Int)) (by kernel_rfl) (fun w => by rw [← hcz]; exact jN (s := v) (k := .i64) (j := ((v.length - 1 : Nat) : Int)) rfl (by kernel_rfl) (by rw [show ((v.length - 1 : Nat) : Int) = (mkS v).size - 1 by omega]; kernel_rfl) Tryz.underlying9 (by omega) (by omega) w) ?_))))))
    by_cases h6 : (cz.toNat : Int) = 32
    · refine Zg h6 (Zv Z4 (ZY (ZB (zL (zA (Zv (.string (mkS v)) (Zv (.string (mkS v)) (Zv (.int .i64 ((mkS v).size)) ?_))))))))
      refine Zu (k := .i64) ((((mkS v).size) : Int) - 1) (IntWalk.i64_in _ (by omega)) (zU (.string (mkS (v.take (v.length - 1)))) (by kernel_rfl) (nC (s := v) (k := .i64) (j := ((v.length - 1 : Nat) : Int)) rfl (by kernel_rfl) (by rw [show ((v.length - 1 : Nat) : Int) = (mkS v).size - 1 by omega]; kernel_rfl) Tryz.underlying9 (by omega) (by omega)) (Zv (.string (mkS (v.take (v.length - 1)))) (zP (zQ ?_))))
      have hdl : (v.take (v.length - 1)).length = v.length - 1 := by rw [List.length_take]; omega
      exact zT (m' := (v.take (v.length - 1)).length) (by omega) ⟨v.take (v.length - 1), _, ⟨by rw [rev_go hu0 hcz h6]; exact hrel.1, by rw [List.length_take]; omega⟩, rfl, ZU, rfl⟩
    refine Zh h6 (Zv Z5 (ZX (y5 (zD (zN (zH (z8 (z7 (zA ?_)))))))))
    exact Zv (.string (mkS v)) (Zv (.string (mkS v)) (ZN (zB (ZF (.string (mkS v)) Tryz.results43 (fun w hO => ⟨by rw [nX hbu hrel.1 (rev_stop hu0 hcz h6)], hO.below⟩)))))
  refine Zh h5 (Zv Z5 (Zk (Zk (Zk (Zk (Zk (Zk (Zv Z5 (ZN (Zf ?_))))))))))
  refine y5 (zD (zN (zH (z8 (ZO (Zv (.string (mkS v)) (Zv (.string (mkS v)) (ZN (zB ?_)))))))))
  exact ZF (.string (mkS v)) Tryz.results43 (fun w hO => ⟨by rw [nX hbu hrel.1 (by rw [List.eq_nil_of_length_eq_zero (show v.length = 0 by omega)]; rfl)], hO.below⟩)
theorem rsalts_any (s : List UInt8) (W : World) (hs : s.length ≤ 1000000) : Calls Tryz.prog 40 #[.string (mkS s)] W fun e w' => ∃ v' ob', e = .returned v' ∧ SlT v' (kS [] s) ob' ∧ Own [] W w' ob' := by
  have hsz := yY s
  refine Z2 (n := 44) Tryz.func40 rfl (ZO (Zv (.slice none 0 0) (ZR (Zv (.slice none 0 0) (ZN (z7 ?_))))))
  refine zA (Zv (.int .i64 0) (ZN (z7 (ZO (Zv (.int .i64 0) (ZN (zL (yL (fun L f m => ∃ (i : Nat) (q : Nat) (u : Value) (P : List (List UInt8)) (ob : List Blk) (j : Nat → Value), (AlI s i q u P ob) ∧ L = ob ++ [] ∧ f = xF j [(0, .string (mkS s)), (3, u), (4, .int .i64 (q : Int)), (5, .int .i64 (i : Int))] ∧ m = s.length - i) (s.length - 0) ⟨0, 0, _, [], [], _, AlI.start s, rfl, ZU, rfl⟩ ?_))))))))
  rintro L f m ⟨i, q, u, P, ob, j, hrel, rfl, rfl, rfl⟩
  have hfi := hrel.fi; have hil := hrel.il; have hfl := hrel.fl
  refine z7 (ZO (Zv (.int .i64 (i : Int)) (Zu (k := .i64) (((i + 1 : Nat) : Int)) (IntWalk.i64_in _ (by omega)) (Zv (.string (mkS s)) (Zv (.int .i64 ((mkS s).size)) ?_)))))
  by_cases h1 : ((i + 1 : Nat) : Int) < (mkS s).size
  · have hi : i + 1 < s.length := by omega
    obtain ⟨c, hc⟩ : ∃ x, s[i]'(by omega) = x := ⟨_, rfl⟩
    obtain ⟨d, hd⟩ : ∃ x, s[i + 1] = x := ⟨_, rfl⟩
    refine Zg h1 (ZY (ZB (z7 (zL (ZO (Zv (.string (mkS s)) (Zv (.int .i64 (i : Int)) ?_)))))))
    refine zU (.int .u8 (c.toNat : Int)) (by kernel_rfl) (fun w => by rw [← hc]; exact jN (s := s) (k := .i64) (j := (i : Int)) rfl (by kernel_rfl) (by kernel_rfl) Tryz.underlying9 (by omega) (by omega) w) ?_
    by_cases h2 : (c.toNat : Int) = 124
    · refine Zg h2 (Zv Z4 (Zv (.string (mkS s)) (Zv (.int .i64 (i : Int)) (Zu (k := .i64) (((i + 1 : Nat) : Int)) (IntWalk.i64_in _ (by omega)) (zU (.int .u8 (d.toNat : Int)) (by kernel_rfl) (fun w => by rw [← hd]; exact jN (s := s) (k := .i64) (j := ((i + 1 : Nat) : Int)) rfl (by kernel_rfl) (by kernel_rfl) Tryz.underlying9 (by omega) (by omega) w) ?_)))))
      by_cases h3 : (d.toNat : Int) = 124
      · refine Zg h3 (Zv Z4 (Zv Z4 (Zv (.int .i64 (i : Int)) (Zv (.int .i64 (q : Int)) ?_))))
        by_cases h4 : (q : Int) ≤ (i : Int)
        · refine Zg h4 (Zv Z4 (ZY (ZO (Zv (u) (Zv (.string (mkS s)) (Zv (.int .i64 (q : Int)) (Zv (.int .i64 (i : Int)) (zU (.string (mkS ((s.drop q).take (i - q)))) (by kernel_rfl) (run_strmid (s := s) (k := .i64) (q := .i64) (i := (q : Int)) (j := (i : Int)) rfl (by kernel_rfl) (by kernel_rfl) (by kernel_rfl) Tryz.underlying9 (by omega) (by omega) (by omega)) ?_))))))))
          refine qC 9 #[.string (mkS ((s.drop q).take (i - q)))] (by kernel_rfl) rfl (fun _ => by kernel_rfl) (fun b1 => ?_)
          obtain ⟨i0, z0, e1, e2, e3, e4, e5⟩ := bI
          have hpl := hrel.pl
          refine xT (L' := [⟨b1, #[.string (mkS ((s.drop q).take (i - q)))], 9⟩] ++ ob ++ []) (by simp) (kR (sz := 1) (by kernel_rfl) rfl Tryz.underlying58 e1 e2 e3 e4 (by kernel_rfl) hrel.sl (a := ⟨b1, 0, none⟩) (m := 1) (c := 1) (news := wX ((s.drop q).take (i - q))) (by kernel_rfl) rfl (fun w hO j u hj => ?_) (fun u hu => by rw [List.mem_singleton.1 hu]; rfl) (by unfold maxLen; omega) (by rw [e5]; omega) (fun u2 ob2 hu2 => ?_))
          · rw [yW, cell_of_row w b1 (0 + j) (wX ((s.drop q).take (i - q))).toArray 9 _ (hO.held ⟨b1, (wX ((s.drop q).take (i - q))).toArray, 9⟩ (List.mem_append_left _ (List.mem_append_left _ (List.mem_cons_self ..))))]; simpa using hj
          refine gJ (L' := ob2 ++ []) (fun w hO => own_ends hO) (Zv (u2) (ZN (zA (Zv (.int .i64 (i : Int)) (Zu (k := .i64) (((i + 2 : Nat) : Int)) (IntWalk.i64_in _ (by omega)) (Zv (.int .i64 ((i + 2 : Nat) : Int)) (zP (zQ (z8 (zA ?_))))))))))
          exact Zv (.int .i64 (i : Int)) (Zu (k := .i64) (((i + 1 : Nat) : Int)) (IntWalk.i64_in _ (by omega)) (Zv (.int .i64 ((i + 1 : Nat) : Int)) (zP (zT (m' := s.length - (i + 1)) (by omega) ⟨i + 1, i + 2, u2, _, ob2, _, hrel.hit hi hc hd (by assumption) (by assumption) (by omega) hu2, rfl, ZU, rfl⟩))))
        refine Zh h4 (Zv Z5 (ZX (yC (zQ (z8 (zA (Zv (.int .i64 (i : Int)) (Zu (k := .i64) (((i + 1 : Nat) : Int)) (IntWalk.i64_in _ (by omega)) (Zv (.int .i64 ((i + 1 : Nat) : Int)) ?_)))))))))
        exact zP (zT (m' := s.length - (i + 1)) (by omega) ⟨i + 1, q, u, P, ob, _, hrel.on hi hc hd (by omega), rfl, ZU, rfl⟩)
      refine Zh h3 (Zv Z5 (Zv Z5 (Zk (Zk (Zk (Zv Z5 (ZX (yC (zQ ?_)))))))))
      exact z8 (zA (Zv (.int .i64 (i : Int)) (Zu (k := .i64) (((i + 1 : Nat) : Int)) (IntWalk.i64_in _ (by omega)) (Zv (.int .i64 ((i + 1 : Nat) : Int)) (zP (zT (m' := s.length - (i + 1)) (by omega) ⟨i + 1, q, u, P, ob, _, hrel.on hi hc hd (by omega), rfl, ZU, rfl⟩))))))
    refine Zh h2 (Zv Z5 (Zk (Zk (Zk (Zk (Zk (Zv Z5 (Zv Z5 (Zk (Zk (Zk ?_)))))))))))
    refine Zv Z5 (ZX (yC (zQ (z8 (zA (Zv (.int .i64 (i : Int)) (Zu (k := .i64) (((i + 1 : Nat) : Int)) (IntWalk.i64_in _ (by omega)) (Zv (.int .i64 ((i + 1 : Nat) : Int)) (zP ?_)))))))))
    exact zT (m' := s.length - (i + 1)) (by omega) ⟨i + 1, q, u, P, ob, _, hrel.on hi hc hd (by omega), rfl, ZU, rfl⟩
  refine Zh h1 (ZX (y5 (zD (zN (zH (z8 (ZO (Zv (u) ?_))))))))
  refine Zv (.string (mkS s)) (Zv (.int .i64 (q : Int)) (zU (.string (mkS (s.drop q))) (by kernel_rfl) (qQ (s := s) (k := .i64) (j := (q : Int)) rfl (by kernel_rfl) (by kernel_rfl) Tryz.underlying9 (by omega) (by omega)) (qC 9 #[.string (mkS (s.drop q))] (by kernel_rfl) rfl (fun _ => by kernel_rfl) (fun b1 => ?_))))
  obtain ⟨i0, z0, e1, e2, e3, e4, e5⟩ := bI
  have hpl := hrel.pl
  refine xT (L' := [⟨b1, #[.string (mkS (s.drop q))], 9⟩] ++ ob ++ []) (by simp) (kR (sz := 1) (by kernel_rfl) rfl Tryz.underlying58 e1 e2 e3 e4 (by kernel_rfl) hrel.sl (a := ⟨b1, 0, none⟩) (m := 1) (c := 1) (news := wX (s.drop q)) (by kernel_rfl) rfl (fun w hO j u hj => ?_) (fun u hu => by rw [List.mem_singleton.1 hu]; rfl) (by unfold maxLen; omega) (by rw [e5]; omega) (fun u2 ob2 hu2 => ?_))
  · rw [yW, cell_of_row w b1 (0 + j) (wX (s.drop q)).toArray 9 _ (hO.held ⟨b1, (wX (s.drop q)).toArray, 9⟩ (List.mem_append_left _ (List.mem_append_left _ (List.mem_cons_self ..))))]; simpa using hj
  exact gJ (L' := ob2 ++ []) (fun w hO => own_ends hO) (Zv (u2) (ZN (zB (ZF (u2) Tryz.results40 (fun w hO => ⟨_, ob2, rfl, by rw [← hrel.fin (by omega)]; exact hu2.to (by simp) (by simp [qN, wX]), by simpa using hO⟩)))))
end
section
theorem coInfo : (Tryz.prog.info? 51).map (fun i => (i.zero.map (·.cells.size), i.size, i.bytes)) = some (some 7, 7, 72) := by kernel_rfl
theorem co_info : ∃ i z, Tryz.prog.info? 51 = some i ∧ i.zero = some z ∧ i.size = 7 ∧ z.cells.size = 7 ∧ i.bytes = 72 := by
  have h := coInfo
  cases hi : Tryz.prog.info? 51 with
  | none => rw [hi] at h; cases h
  | some i =>
    rw [hi] at h
    simp only [Option.map_some, Option.some.injEq, Prod.mk.injEq] at h
    cases hz : i.zero with
    | none => rw [hz] at h; simp at h
    | some z => rw [hz] at h; simp at h; exact ⟨i, z, rfl, hz, h.2.1, h.1, h.2.2⟩
theorem alInfo : (Tryz.prog.info? 47).map (fun i => (i.zero.map (·.cells.size), i.size, i.bytes)) = some (some 1, 1, 24) := by kernel_rfl
theorem al_info : ∃ i z, Tryz.prog.info? 47 = some i ∧ i.zero = some z ∧ i.size = 1 ∧ z.cells.size = 1 ∧ i.bytes = 24 := by
  have h := alInfo
  cases hi : Tryz.prog.info? 47 with
  | none => rw [hi] at h; cases h
  | some i =>
    rw [hi] at h
    simp only [Option.map_some, Option.some.injEq, Prod.mk.injEq] at h
    cases hz : i.zero with
    | none => rw [hz] at h; simp at h
    | some z => rw [hz] at h; simp at h; exact ⟨i, z, rfl, hz, h.2.1, h.1, h.2.2⟩
def SlCo (v : Value) (l : List Co) (ob : List Blk) : Prop := Sl 51 7 v l.length (l.flatMap coC) ob
theorem Sl.form {T sz n : Nat} {v : Value} {xs : List Value} {ob : List Blk} (h : Sl T sz v n xs ob) : ∃ A cap, v = .slice A n cap := by
  rcases h.2 with ⟨h1, h2, _⟩ | ⟨g, cap, cur, h1, _⟩
  · exact ⟨none, 0, by rw [h1, h2]⟩
  · exact ⟨_, _, h1⟩
structure RgA (u : Value) (xs : List Al) (o1 o2 : List Blk) : Prop where
  top : Sl 47 1 u xs.length (xs.flatMap alC) o1
  each : ∀ x ∈ xs, ∃ o, (∀ b ∈ o, b ∈ o2) ∧ SlCo (.slice x.A x.l.length x.cap) x.l o
def RgO (v : Value) (r : List (List Co)) (ob : List Blk) : Prop := ∃ xs u o1 o2, v = .agg #[u] ∧ ob = o1 ++ o2 ∧ yU xs = r ∧ RgA u xs o1 o2
theorem RgA.nil : RgA (.slice none 0 0) [] [] [] := ⟨Sl.nil _ _, fun x hx => by simp at hx⟩
theorem RgO.nil : RgO (.agg #[.slice none 0 0]) [] [] := ⟨[], _, [], [], rfl, rfl, rfl, RgA.nil⟩
theorem RgA.add {u u2 : Value} {xs : List Al} {o1 o2 o3 oa : List Blk} {A : Option Addr} {cap : Nat} {a : List Co} (h : RgA u xs o1 o2) (h2 : Sl 47 1 u2 (xs.length + 1) (xs.flatMap alC ++ alC ⟨A, a, cap⟩) o3) (ha : SlCo (.slice A a.length cap) a oa) : RgA u2 (xs ++ [⟨A, a, cap⟩]) o3 (oa ++ o2) :=
  ⟨h2.to (by simp) (by simp), fun x hx => by
    rcases List.mem_append.1 hx with hx | hx
    · obtain ⟨o, k1, k2⟩ := h.each x hx
      exact ⟨o, fun b hb => List.mem_append_right _ (k1 b hb), k2⟩
    · obtain rfl := List.mem_singleton.1 hx
      exact ⟨oa, fun b hb => List.mem_append_left _ hb, ha⟩⟩
structure FineR (r : List (List Co)) : Prop where
  n : r.length ≤ 1000
  m : ∀ a ∈ r, a.length ≤ 1000 ∧ ShortA a
theorem RgA.inn {A : Option Addr} {n cap : Nat} {xs : List Al} {o1 o2 L : List Blk} {M : List Nat} {W w : World} (h : RgA (.slice A n cap) xs o1 o2) (hn : xs.length = n) (hO : Own M W w L) (h1 : ∀ x ∈ o1, x ∈ L) (h2 : ∀ x ∈ o2, x ∈ L) (hf : FineR (yU xs)) : RgIn w w.heap.size A xs := by
  subst hn
  refine ⟨Sl.reads h.top rfl hO h1, fun x hx => ?_, by have := hf.n; rwa [xK] at this, fun x hx => (hf.m x.l (List.mem_map.2 ⟨x, hx, rfl⟩)).1, fun x hx => (hf.m x.l (List.mem_map.2 ⟨x, hx, rfl⟩)).2⟩
  obtain ⟨o, k1, k2⟩ := h.each x hx
  exact Sl.reads k2 rfl hO fun b hb => h2 b (k1 b hb)
theorem SlT.blk {v : Value} {l : List (List UInt8)} {ob : List Blk} (h : SlT v l ob) (hn : l ≠ []) : ∃ g cur cap, v = .slice (some ⟨g, 0, none⟩) l.length cap ∧ ob = [⟨g, cur, 9⟩] ∧ cur.toList.take (l.length * 1) = l.flatMap wX := by
  obtain ⟨A, cap, rfl⟩ := h.form
  have h0 : 0 < l.length := by cases l with
    | nil => exact absurd rfl hn
    | cons _ _ => simp
  obtain ⟨g, cur, rfl, e, _, _, _, e2⟩ := Sl.block h h0
  exact ⟨g, cur, cap, rfl, e, by rw [e2, bB]⟩
theorem pc_ok {s : List UInt8} (h : pcE s = 0) : gV s = some (pcV s) := by
  cases hp : gV s with
  | none => rw [(d9 hp).2] at h; exact absurd h (by decide)
  | some c => rw [(fS hp).1]
theorem pc_err {s : List UInt8} (h : ¬ pcE s = 0) : gV s = none := by
  cases hp : gV s with
  | none => rfl
  | some c => exact absurd (fS hp).2 h
theorem parseP_may {s : List UInt8} {c : Co} (h : parseP s = some c) : c.may = true := ((fT _ c).1 h).1
theorem co_short {c : Co} (h : c.may = true) : c.short := by
  obtain ⟨_, hv, hb, _⟩ := Co.facts h
  exact may_short hv hb
theorem parseA_fine {s : List UInt8} {a : List Co} (h : parseA s = some a) (hs : s.length ≤ 100) : a.length ≤ 1000 ∧ ∀ c ∈ a, c.may = true := by
  refine ⟨?_, fun c hc => ?_⟩
  · rw [wM h, n9]
    have := List.length_filter_le (fun x : UInt8 => x == 44) s
    omega
  · obtain ⟨x, _, e⟩ := allO_back h c hc
    exact parseP_may e
theorem fine_part {s : List UInt8} (hs : s.length ≤ 96) {l : List (List UInt8)} (hl : ∀ x ∈ l, x ∈ kS [] s) (hn : l.length ≤ 97) {r : List (List Co)} (h : wN parseA l = some r) : FineR r := by
  refine ⟨by rw [wM h]; omega, fun a ha => ?_⟩
  obtain ⟨x, hx, e⟩ := allO_back h a ha
  have := mW s [] x (hl x hx)
  have := parseA_fine e (by simp at this; omega)
  exact ⟨this.1, fun c hc => co_short (this.2 c hc)⟩
theorem fine_few {r : List (List Co)} (h : fewR r = true) : FineR r := by
  obtain ⟨h1, h2⟩ := fewR.facts h
  refine ⟨by omega, fun a ha => ?_⟩
  obtain ⟨k1, k2⟩ := fewA.facts (h2 a ha)
  exact ⟨by omega, fun c hc => co_short (k2 c hc)⟩
theorem nZ {α β : Type} {f : α → Option β} {l : List α} {i : Nat} (hi : i < l.length) {y : α} (hy : l[i] = y) {m : List β} {z : β} (h : wN f (l.take i) = some m) (hz : f y = some z) : wN f (l.take (i + 1)) = some (m ++ [z]) := by
  rw [List.take_succ_eq_append_getElem hi, hy]
  exact allO_snoc h hz
theorem nY {s : List UInt8} {l m : List (List UInt8)} (hl : l = kS [] s) {i k : Nat} (hi : i < l.length) {y z : List UInt8} (hy : l[i] = y) (hm : m = x4 44 [] y) (hk : k < m.length) (hz : m[k] = z) (h : ¬ pcE (yS z) = 0) : qS s = none := by
  have h1 : parseA y = none := allO_none (x := z) (by rw [← hm, ← hz]; exact List.getElem_mem hk) (pc_err h)
  exact allO_none (x := y) (by rw [← hl, ← hy]; exact List.getElem_mem hi) h1
theorem nQ {s : List UInt8} (hs : s.length ≤ 96) (h : qS s = none) : xP s = 6 ∧ yE s = none := by
  unfold xP yE
  rw [if_neg (by omega), if_neg (by omega), h]; exact ⟨rfl, rfl⟩
theorem errG_few {s : List UInt8} (hs : s.length ≤ 96) {r : List (List Co)} (h : qS s = some r) (hf : fewR r = false) : xP s = 6 ∧ yE s = none := by
  unfold xP yE
  rw [if_neg (by omega), if_neg (by omega), h]
  simp [hf, rgMay, Option.filter]
theorem errG_big {s : List UInt8} (hs : s.length ≤ 96) {r : List (List Co)} (h : qS s = some r) (hf : fewR r = true) (hb : 96 < (kH r).length) : xP s = 3 ∧ yE s = none := by
  unfold xP yE
  rw [if_neg (by omega), if_neg (by omega), h]
  simp [hf, rgMay, Option.filter]; omega
theorem nS {s : List UInt8} (hs : s.length ≤ 96) {r : List (List Co)} (h : qS s = some r) (hf : fewR r = true) (hb : (kH r).length ≤ 96) : xP s = 0 ∧ yE s = some r := by
  unfold xP yE
  rw [if_neg (by omega), if_neg (by omega), h]
  simp [hf, rgMay, Option.filter, hb]
theorem nR {s : List UInt8} (hs : 96 < s.length) : xP s = 3 ∧ yE s = none := by
  unfold xP yE
  rw [if_pos hs, if_pos hs]; exact ⟨rfl, rfl⟩
theorem rsplit44_own (s : List UInt8) (W : World) (hs : s.length ≤ 1000000) :
    Calls Tryz.prog 41 #[.string (mkS s), .int .u8 44] W fun e w' => ∃ v' ob', e = .returned v' ∧ SlT v' (x4 44 [] s) ob' ∧ Own [] W w' ob' :=
  (rsplit_any (mkS s) 44 W (by rw [yY]; exact hs)).mono fun e w' ⟨v, h1, h2, h3⟩ => by
    unfold dY at h2
    rw [mk_data] at h2
    obtain ⟨ob, k1, k2⟩ := Own.row h2 h3
    exact ⟨v, ob, h1, k1, k2⟩
theorem bareF_len : ∀ (s : List UInt8), (xI s).length ≤ s.length
  | [] => Nat.le_refl _
  | c :: l => by
    rw [xI]
    split
    · have := bareF_len l; rw [List.length_cons]; omega
    · exact Nat.le_refl _
theorem bareL_len (s : List UInt8) : (yS s).length ≤ s.length := by
  unfold yS
  rw [List.length_reverse]
  have h1 := bareF_len (xI s).reverse
  rw [List.length_reverse] at h1
  have := bareF_len s
  omega
theorem fR {y : List UInt8} (h : y.length ≤ 96) : (x4 44 [] y).length ≤ 97 ∧ ∀ z ∈ x4 44 [] y, z.length ≤ 96 := by
  refine ⟨?_, fun z hz => by have := split_le 44 y [] z hz; simp at this; omega⟩
  rw [n9]
  have := List.length_filter_le (fun x : UInt8 => x == 44) y
  omega
section
variable {M : List Nat} {W w : World}
theorem own_two {x y : Blk} {A : List Blk} (h : Own M W w (x :: y :: A)) : Own M W w A := h.sublist ((List.sublist_cons_self y A).trans (List.sublist_cons_self x (y :: A)))
theorem own_turn {x y r t g : Blk} {oa o1 o2 : List Blk} (h : Own M W w (([x, y, g, r, t] ++ oa) ++ o1 ++ o2)) : Own M W w (g :: r :: t :: (o1 ++ (oa ++ o2))) := by
  have h1 : Own M W w (x :: y :: g :: r :: t :: ((oa ++ o1) ++ o2)) := by simpa [List.append_assoc] using h
  refine (own_two h1).perm (List.Perm.cons _ (List.Perm.cons _ (List.Perm.cons _ ?_)))
  rw [← List.append_assoc]
  exact List.Perm.append_right _ List.perm_append_comm
end
end
section
theorem rsParse_any (s : List UInt8) (W : World) (hs : s.length ≤ 1000000) : Calls Tryz.prog 13 #[.string (mkS s)] W fun e w' => ∃ v' ob', e = .returned (.tuple #[v', .int .i64 (xP s)]) ∧ RgO v' ((yE s).getD []) ob' ∧ Own [] W w' ob' := by
  have hsz := yY s
  refine Z2 (n := 67) Tryz.func13 rfl (ZO (Za (.agg #[.slice none 0 0]) (fun b1 => Zv (.int .i64 0) (ZN (z7 (ZO (Zv (.string (mkS s)) (Zv (.int .i64 ((mkS s).size)) ?_))))))))
  by_cases h1 : (96 : Int) < (mkS s).size
  · refine Zg h1 (ZY (ZO (Zv (.agg #[.slice none 0 0]) (Zs 0 ⟨b1, #[.slice none 0 0], 25⟩ (off := 0) (.agg #[.slice none 0 0]) (Zv (.int .i64 3) (ZN (zB ?_)))))))
    exact z6 (ZD 0 ⟨b1, #[.slice none 0 0], 25⟩ (off := 0) (.agg #[.slice none 0 0]) (.int .i64 3) Tryz.results13 (fun w hO => ⟨.agg #[.slice none 0 0], [], by rw [(nR (s := s) (by omega)).1], by rw [(nR (s := s) (by omega)).2]; exact RgO.nil, kF hO⟩))
  have hs6 : s.length ≤ 96 := by omega
  refine Zh h1 (ZX (ZB (ZO (Za (.agg #[.slice none 0 0]) (fun b2 => ZN (z7 ?_))))))
  refine zA (Zv (.string (mkS s)) (Zr (k := 40) (args := #[.string (mkS s)]) (fun v' L' => ∃ ob', L' = ob' ++ ([⟨b2, #[.slice none 0 0], 25⟩, ⟨b1, #[.slice none 0 0], 25⟩]) ∧ SlT v' (kS [] s) ob') (fun w hO => (rsalts_any s w hs).mono fun e w' ⟨v', ob', k1, k2, k3⟩ => ⟨v', _, k1, ⟨ob', rfl, k2⟩, Own.joinN hO k3⟩) (fun lv L2 hv2 => ?_)))
  obtain ⟨ol, rfl, hol⟩ := hv2
  obtain ⟨l, hll⟩ : ∃ l, l = kS [] s := ⟨_, rfl⟩
  rw [← hll] at hol
  have hln : l.length ≤ 97 := by rw [hll]; have := m9 s []; omega
  have hlm : ∀ x ∈ l, x.length ≤ 96 := fun x hx => by have := mW s [] x (hll ▸ hx); simp at this; omega
  obtain ⟨g, cur, lcap, rfl, rfl, hcur⟩ := SlT.blk hol (by rw [hll]; exact altsL_ne s [])
  refine Zv (.slice (some ⟨g, 0, none⟩) l.length lcap) (ZN (z7 (ZO (Zv (.int .i64 0) (ZN (zL (yL (fun L f m => ∃ (i : Nat) (A : Option Addr) (cap : Nat) (xs : List Al) (o1 : List Blk) (o2 : List Blk) (j : Nat → Value), (i ≤ l.length ∧ RgA (.slice A xs.length cap) xs o1 o2 ∧ wN parseA (l.take i) = some (yU xs)) ∧ L = ⟨g, cur, 9⟩ :: ⟨b2, #[.slice A xs.length cap], 25⟩ :: ⟨b1, #[.slice none 0 0], 25⟩ :: (o1 ++ o2) ∧ f = xF j [(2, Zp b1 0), (4, Zp b2 0), (5, .slice (some ⟨g, 0, none⟩) l.length lcap), (6, .int .i64 (i : Int))] ∧ m = l.length - i) (l.length - 0) ⟨0, none, 0, [], [], [], _, ⟨Nat.zero_le _, RgA.nil, rfl⟩, rfl, ZU, rfl⟩ ?_)))))))
  rintro L f m ⟨i, A, cap, xs, o1, o2, j, hrel, rfl, rfl, rfl⟩
  have hrel0 := hrel; have hra := hrel.2.1; have hil := hrel.1
  refine z7 (ZO (Zv (.int .i64 (i : Int)) (Zv (.slice (some ⟨g, 0, none⟩) l.length lcap) (Zv (.int .i64 (l.length : Int)) ?_))))
  by_cases h2 : (i : Int) < (l.length : Int)
  · have hi : i < l.length := by omega
    obtain ⟨y, hy⟩ : ∃ y, l[i] = y := ⟨_, rfl⟩
    have hyl : y.length ≤ 96 := hlm y (hy ▸ List.getElem_mem hi)
    refine Zg h2 (ZY (ZB (z7 (zL (ZO (Zv (.slice none 0 0) (zP ?_)))))))
    refine z8 (ZO (Zv (.slice (some ⟨g, 0, none⟩) l.length lcap) (Zv (.int .i64 (i : Int)) (zU (Zp g (i * 1)) (by kernel_rfl) (yP (b := g) (off := 0) (n := l.length) (c := lcap) (k := .i64) (j := (i : Int)) (e := 9) (sz := 1) rfl (by kernel_rfl) (by kernel_rfl) (by kernel_rfl) (by kernel_rfl) (by omega) (by omega) (by show 0 + i * 1 = i * 1; omega)) (jB 0 ⟨g, cur, 9⟩ (off := i * 1) (.string (mkS y)) (by kernel_rfl) rfl (by kernel_rfl) (by kernel_rfl) (x6 vS hcur i 0 (by omega) (by omega) _ (by rw [hy]; kernel_rfl)) (Zr (k := 41) (args := #[.string (mkS y), .int .u8 44]) (fun v' L' => ∃ ob', L' = ob' ++ (⟨g, cur, 9⟩ :: (⟨b2, #[.slice A xs.length cap], 25⟩ :: (⟨b1, #[.slice none 0 0], 25⟩ :: ((o1 ++ o2))))) ∧ SlT v' (x4 44 [] y) ob') (fun w hO => (rsplit44_own y w (by omega)).mono fun e w' ⟨v', ob', k1, k2, k3⟩ => ⟨v', _, k1, ⟨ob', rfl, k2⟩, Own.joinN hO k3⟩) (fun mv L2 hv2 => ?_)))))))
    obtain ⟨om, rfl, hom⟩ := hv2
    obtain ⟨m', hml⟩ : ∃ m', m' = x4 44 [] y := ⟨_, rfl⟩
    rw [← hml] at hom
    have hmn : m'.length ≤ 97 := by rw [hml]; exact (fR hyl).1
    have hmm : ∀ x ∈ m', x.length ≤ 96 := fun x hx => (fR hyl).2 x (hml ▸ hx)
    obtain ⟨g2, cur2, mcap, rfl, rfl, hcur2⟩ := SlT.blk hom (by rw [hml]; exact uO 44 y [])
    refine Zv (.slice (some ⟨g2, 0, none⟩) m'.length mcap) (ZN (z7 (ZO (Zv (.int .i64 0) (ZN (zL (yL (fun L f m => ∃ (k : Nat) (B : Option Addr) (cb : Nat) (a : List Co) (oa : List Blk) (j : Nat → Value), (k ≤ m'.length ∧ SlCo (.slice B a.length cb) a oa ∧ wN parseP (m'.take k) = some a) ∧ L = ⟨g2, cur2, 9⟩ :: ⟨g, cur, 9⟩ :: ⟨b2, #[.slice A xs.length cap], 25⟩ :: ⟨b1, #[.slice none 0 0], 25⟩ :: (oa ++ (o1 ++ o2)) ∧ f = xF j [(2, Zp b1 0), (4, Zp b2 0), (5, .slice (some ⟨g, 0, none⟩) l.length lcap), (6, .int .i64 (i : Int)), (7, .slice B a.length cb), (8, .slice (some ⟨g2, 0, none⟩) m'.length mcap), (9, .int .i64 (k : Int))] ∧ m = m'.length - k) (m'.length - 0) ⟨0, none, 0, [], [], _, ⟨Nat.zero_le _, Sl.nil _ _, rfl⟩, rfl, ZU, rfl⟩ ?_)))))))
    rintro L f m ⟨k, B, cb, a, oa, j, hrel, rfl, rfl, rfl⟩
    have hkl := hrel.1
    refine z7 (ZO (Zv (.int .i64 (k : Int)) (Zv (.slice (some ⟨g2, 0, none⟩) m'.length mcap) (Zv (.int .i64 (m'.length : Int)) ?_))))
    by_cases h3 : (k : Int) < (m'.length : Int)
    · have hk : k < m'.length := by omega
      obtain ⟨z, hz⟩ : ∃ z, m'[k] = z := ⟨_, rfl⟩
      have hzl : z.length ≤ 96 := hmm z (hz ▸ List.getElem_mem hk)
      have hbz := bareL_len z
      refine Zg h3 (ZY (ZB (z7 (zL (ZO (Zv (.slice (some ⟨g2, 0, none⟩) m'.length mcap) (Zv (.int .i64 (k : Int)) ?_)))))))
      refine zU (Zp g2 (k * 1)) (by kernel_rfl) (yP (b := g2) (off := 0) (n := m'.length) (c := mcap) (k := .i64) (j := (k : Int)) (e := 9) (sz := 1) rfl (by kernel_rfl) (by kernel_rfl) (by kernel_rfl) (by kernel_rfl) (by omega) (by omega) (by show 0 + k * 1 = k * 1; omega)) (jB 0 ⟨g2, cur2, 9⟩ (off := k * 1) (.string (mkS z)) (by kernel_rfl) rfl (by kernel_rfl) (by kernel_rfl) (x6 vS hcur2 k 0 (by omega) (by omega) _ (by rw [hz]; kernel_rfl)) (Zc (k := 43) (args := #[.string (mkS z)]) (.string (mkS (yS z))) (fun w _ => rsbare_any z w (by omega)) (Zc (k := 42) (args := #[.string (mkS (yS z))]) (.tuple #[coV (pcV (yS z)), .int .i64 (pcE (yS z))]) (fun w _ => rcParse_any (yS z) w (by omega)) (Zv (.tuple #[coV (pcV (yS z)), .int .i64 (pcE (yS z))]) (Zv (coV (pcV (yS z))) (Zv (.int .i64 (pcE (yS z))) (Za (.agg Z0) (fun b3 => Zs 0 ⟨b3, Z0, 51⟩ (off := 0) (coV (pcV (yS z))) (Zv (.int .i64 (pcE (yS z))) (zP (z8 ?_)))))))))))
      refine z7 (ZO (Zv (.int .i64 (pcE (yS z))) ?_))
      by_cases h4 : (pcE (yS z) : Int) = 0
      · refine Zn (p := (pcE (yS z) : Int) = 0) true (decide_eq_true (h4)) (ZX (ZB (zA (Zv (.slice B a.length cb) (Zl 0 ⟨b3, (coV (pcV (yS z))).cells, 51⟩ (off := 0) (coV (pcV (yS z))) (qC 51 #[.int .i64 ((pcV (yS z)).op), .int .i64 ((pcV (yS z)).parts), .int .i64 ((pcV (yS z)).v.maj), .int .i64 ((pcV (yS z)).v.min), .int .i64 ((pcV (yS z)).v.pat), .string (mkS (pcV (yS z)).v.pre), .string (mkS (pcV (yS z)).v.build)] (by kernel_rfl) rfl (fun _ => by kernel_rfl) (fun b4 => ?_)))))))
        obtain ⟨i0, z0, e1, e2, e3, e4, e5⟩ := co_info
        have hal : a.length ≤ 97 := by have q := wM hrel.2.2; rw [List.length_take] at q; omega
        refine xT (L' := [⟨b4, #[.int .i64 ((pcV (yS z)).op), .int .i64 ((pcV (yS z)).parts), .int .i64 ((pcV (yS z)).v.maj), .int .i64 ((pcV (yS z)).v.min), .int .i64 ((pcV (yS z)).v.pat), .string (mkS (pcV (yS z)).v.pre), .string (mkS (pcV (yS z)).v.build)], 51⟩, ⟨b3, (coV (pcV (yS z))).cells, 51⟩, ⟨g2, cur2, 9⟩, ⟨g, cur, 9⟩, ⟨b2, #[.slice A xs.length cap], 25⟩, ⟨b1, #[.slice none 0 0], 25⟩] ++ oa ++ (o1 ++ o2)) (by rw [List.append_assoc]; kernel_rfl) (kR (sz := 7) (by kernel_rfl) rfl Tryz.underlying47 e1 e2 e3 e4 (by kernel_rfl) hrel.2.1 (a := ⟨b4, 0, none⟩) (m := 1) (c := 1) (news := coC (pcV (yS z))) (by kernel_rfl) rfl (fun w hO j u hj => ?_) (co_cells _) (by unfold maxLen; omega) (by rw [e5]; omega) (fun u2 ob2 hu2 => ?_))
        · rw [yW, cell_of_row w b4 (0 + j) (coC (pcV (yS z))).toArray 51 _ (hO.held ⟨b4, (coC (pcV (yS z))).toArray, 51⟩ (List.mem_append_left _ (List.mem_append_left _ (List.mem_cons_self ..))))]; simpa using hj
        have hu3 : SlCo u2 (a ++ [pcV (yS z)]) ob2 := hu2.to (by simp) (by simp)
        obtain ⟨B2, cb2, rfl⟩ := Sl.form hu3
        exact gJ (L' := ⟨g2, cur2, 9⟩ :: ⟨g, cur, 9⟩ :: ⟨b2, #[.slice A xs.length cap], 25⟩ :: ⟨b1, #[.slice none 0 0], 25⟩ :: (ob2 ++ (o1 ++ o2))) (fun w hO => own_two (by simpa using hO)) (Zv (.slice B2 ((a ++ [pcV (yS z)]).length) cb2) (zP (zQ (z8 (zA (Zv (.int .i64 (k : Int)) (Zu (k := .i64) (((k + 1 : Nat) : Int)) (IntWalk.i64_in _ (by omega)) (Zv (.int .i64 ((k + 1 : Nat) : Int)) (zP (zT (m' := m'.length - (k + 1)) (by omega) ⟨k + 1, B2, cb2, _, ob2, _, ⟨by omega, hu3, nZ hk hz hrel.2.2 (pc_ok (by assumption))⟩, rfl, ZU, rfl⟩))))))))))
      refine Zn (p := (pcE (yS z) : Int) = 0) false (decide_eq_false (h4)) (ZY (ZO (Zv (.agg #[.slice none 0 0]) (Zs 4 ⟨b1, #[.slice none 0 0], 25⟩ (off := 0) (.agg #[.slice none 0 0]) (Zv (.int .i64 6) (ZN (zB ?_)))))))
      refine z6 (zF (z6 (zW (zF (z6 (zF (z6 (zW (zF (z6 (ZD 4 ⟨b1, #[.slice none 0 0], 25⟩ (off := 0) (.agg #[.slice none 0 0]) (.int .i64 6) Tryz.results13 ?_)))))))))))
      exact fun w hO => ⟨.agg #[.slice none 0 0], [], by rw [(nQ hs6 (nY hll hi hy hml hk hz (by assumption))).1], by rw [(nQ hs6 (nY hll hi hy hml hk hz (by assumption))).2]; exact RgO.nil, kF hO⟩
    refine Zh h3 (ZX (y5 (zD (zN (zH (z8 (zA (Zv (Zp b2 0) (Zl 2 ⟨b2, #[.slice A xs.length cap], 25⟩ (off := 0) (.slice A xs.length cap) ?_)))))))))
    refine Zv (.slice B a.length cb) (qC 47 #[.slice B a.length cb] (by kernel_rfl) rfl (fun _ => by kernel_rfl) (fun b3 => ?_))
    obtain ⟨i0, z0, e1, e2, e3, e4, e5⟩ := al_info
    have hal : xs.length ≤ 97 := by have q := wM hrel0.2.2; rw [List.length_take, xK] at q; omega
    refine xT (L' := ([⟨b3, #[.slice B a.length cb], 47⟩, ⟨g2, cur2, 9⟩, ⟨g, cur, 9⟩, ⟨b2, #[.slice A xs.length cap], 25⟩, ⟨b1, #[.slice none 0 0], 25⟩] ++ oa) ++ o1 ++ o2) (by rw [List.append_assoc, List.append_assoc]; kernel_rfl) (kR (sz := 1) (by kernel_rfl) rfl Tryz.underlying23 e1 e2 e3 e4 (by kernel_rfl) hra.top (a := ⟨b3, 0, none⟩) (m := 1) (c := 1) (news := alC (Al.mk B a cb)) (by kernel_rfl) rfl (fun w hO j u hj => ?_) (al_cells _) (by unfold maxLen; omega) (by rw [e5]; omega) (fun u2 ob2 hu2 => ?_))
    · rw [yW, cell_of_row w b3 (0 + j) (alC (Al.mk B a cb)).toArray 47 _ (hO.held ⟨b3, (alC (Al.mk B a cb)).toArray, 47⟩ (by simp [alC]))]; simpa using hj
    have hra2 := hra.add hu2 hrel.2.1
    obtain ⟨A2, cap2, rfl⟩ := Sl.form hra2.top
    exact gJ (L' := ⟨g, cur, 9⟩ :: ⟨b2, #[.slice A xs.length cap], 25⟩ :: ⟨b1, #[.slice none 0 0], 25⟩ :: (ob2 ++ (oa ++ o2))) (fun w hO => own_turn hO) (Zv (Zp b2 0) (Zs 1 ⟨b2, #[.slice A xs.length cap], 25⟩ (off := 0) (.slice A2 ((xs ++ [Al.mk B a cb]).length) cap2) (zP (zQ (z8 (zA (Zv (.int .i64 (i : Int)) (Zu (k := .i64) (((i + 1 : Nat) : Int)) (IntWalk.i64_in _ (by omega)) (Zv (.int .i64 ((i + 1 : Nat) : Int)) (zP (zT (m' := l.length - (i + 1)) (by omega) ⟨i + 1, A2, cap2, _, ob2, (oa ++ o2), _, ⟨by omega, hra2, by rw [show yU (xs ++ [Al.mk B a cb]) = yU xs ++ [a] from by simp [yU]]; exact nZ hi hy hrel0.2.2 (by have q := hrel.2.2; rw [List.take_of_length_le (by omega), hml] at q; exact q)⟩, rfl, ZU, rfl⟩)))))))))))
  have hall : qS s = some (yU xs) := by have q := hrel0.2.2; rw [List.take_of_length_le (by omega), hll] at q; exact q
  have hfine : FineR (yU xs) := fine_part hs6 (fun x hx => hll ▸ hx) hln (by rw [hll]; exact hall)
  refine Zh h2 (ZX (y5 (zD (zN (zH (z8 (z7 (z7 (zA ?_)))))))))
  refine Zl 1 ⟨b2, #[.slice A xs.length cap], 25⟩ (off := 0) (.agg #[.slice A xs.length cap]) (Zc (k := 44) (args := #[.agg #[.slice A xs.length cap]]) (.bool (fewR (yU xs))) (fun w hO => rsfew_any A cap xs w (hra.inn rfl hO (fun x hx => by simp [hx]) (fun x hx => by simp [hx]) hfine)) ?_)
  cases h5 : fewR (yU xs) with
  | true =>
    refine Zv Z5 (ZX (ZB (z7 (ZO (Zl 1 ⟨b2, #[.slice A xs.length cap], 25⟩ (off := 0) (.agg #[.slice A xs.length cap]) (Zc (k := 45) (args := #[.agg #[.slice A xs.length cap]]) (.string (mkS (kH (yU xs)))) (fun w hO => rstext_any A cap xs w (hra.inn rfl hO (fun x hx => by simp [hx]) (fun x hx => by simp [hx]) hfine) h5) (Zv (.int .i64 ((mkS (kH (yU xs))).size)) ?_)))))))
    by_cases h6 : (96 : Int) < (mkS (kH (yU xs))).size
    · refine Zg h6 (ZY (ZO (Zv (.agg #[.slice none 0 0]) (Zs 2 ⟨b1, #[.slice none 0 0], 25⟩ (off := 0) (.agg #[.slice none 0 0]) (Zv (.int .i64 3) (ZN (zB ?_)))))))
      exact z6 (ZD 2 ⟨b1, #[.slice none 0 0], 25⟩ (off := 0) (.agg #[.slice none 0 0]) (.int .i64 3) Tryz.results13 (fun w hO => ⟨.agg #[.slice none 0 0], [], by rw [(errG_big hs6 hall (by assumption) (by have := yY (kH (yU xs)); omega)).1], by rw [(errG_big hs6 hall (by assumption) (by have := yY (kH (yU xs)); omega)).2]; exact RgO.nil, kF hO⟩))
    refine Zh h6 (ZX (ZB (ZO (Zl 1 ⟨b2, #[.slice A xs.length cap], 25⟩ (off := 0) (.agg #[.slice A xs.length cap]) (Zs 2 ⟨b1, #[.slice none 0 0], 25⟩ (off := 0) (.agg #[.slice A xs.length cap]) (Zv (.int .i64 0) (zP ?_)))))))
    exact z8 (zB (ZD 2 ⟨b1, #[.slice A xs.length cap], 25⟩ (off := 0) (.agg #[.slice A xs.length cap]) (.int .i64 0) Tryz.results13 (fun w hO => ⟨.agg #[.slice A xs.length cap], o1 ++ o2, by rw [(nS hs6 hall (by assumption) (by have := yY (kH (yU xs)); omega)).1], by rw [(nS hs6 hall (by assumption) (by have := yY (kH (yU xs)); omega)).2]; exact ⟨xs, _, o1, o2, rfl, rfl, rfl, hra⟩, Own.sub [_, _, _] hO⟩)))
  | false =>
    refine Zv Z4 (ZY (ZO (Zv (.agg #[.slice none 0 0]) (Zs 2 ⟨b1, #[.slice none 0 0], 25⟩ (off := 0) (.agg #[.slice none 0 0]) (Zv (.int .i64 6) (ZN (zB ?_)))))))
    exact z6 (ZD 2 ⟨b1, #[.slice none 0 0], 25⟩ (off := 0) (.agg #[.slice none 0 0]) (.int .i64 6) Tryz.results13 (fun w hO => ⟨.agg #[.slice none 0 0], [], by rw [(errG_few hs6 hall (by assumption)).1], by rw [(errG_few hs6 hall (by assumption)).2]; exact RgO.nil, kF hO⟩))
end
section
theorem none_in (w : World) (n : Nat) : SetIn w n none none gH := ⟨fun h0 => absurd h0 (Nat.lt_irrefl 0), fun h0 => absurd h0 (Nat.lt_irrefl 0), Nat.zero_le _, Nat.zero_le _, fun s hs => by simp [gH] at hs, fun s hs => by simp [gH] at hs⟩
theorem sls_lit (s : Sp) (b : Nat) (cur : Array Value) (h : cur.toList = yR s) : SlS (.slice (some ⟨b, 0, none⟩) 1 1) [s] [⟨b, cur, 80⟩] := by
  have e : ([s] : List Sp).flatMap yR = yR s := List.append_nil _
  have hc : cur.toList.length = 14 := by rw [h]; rfl
  refine ⟨by rw [e]; rfl, .inr ⟨b, 1, cur, rfl, rfl, Nat.le_refl _, by decide, by rw [← Array.length_toList, hc], ?_⟩⟩
  rw [e, h]
  exact List.take_of_length_le (Nat.le_refl 14)
end
end Go.Proofs.YtkljdpiaghepfaaGreatDoor
