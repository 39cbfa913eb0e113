/-
  What the statement's proof leans on: the ways of walking, n7 mathematics, and what the program's functions return; each theorem says on what conditions.
-/
import Derived.Shelf.Strings.SplitCore
import Derived.Test.YtkljdpiaghepfaaGreatDoorMF6
set_option maxRecDepth 1000000
set_option maxHeartbeats 8000000
set_option linter.unusedVariables false
set_option linter.unusedSimpArgs false
set_option linter.unnecessarySimpa false
namespace Go.Proofs.YtkljdpiaghepfaaGreatDoor
open Go.RowKit

section
def vV (v : Ver) : Array Value := #[.int .i64 v.maj, .int .i64 v.min, .int .i64 v.pat]
theorem rd_nums (v : Ver) : ∀ (k : Nat), k < 3 → kV Tryz.prog 3 (vV v) k = some (.int .i64 (xQ v.maj v.min v.pat k))
  | 0, _ => by kernel_rfl
  | 1, _ => by kernel_rfl
  | 2, _ => by kernel_rfl
theorem zero3 {v : Ver} (h : ∀ j, j < 3 → xQ v.maj v.min v.pat j = 0) : v.maj = 0 ∧ v.min = 0 ∧ v.pat = 0 := ⟨h 0 (by decide), h 1 (by decide), h 2 (by decide)⟩
theorem may_rest {c : Co} (h : c.may = true) : ∀ j, c.parts.toNat ≤ j → j < 3 → xQ c.v.maj c.v.min c.v.pat j = 0 := fun j h1 h3 => by
  obtain ⟨_, _, _, h9, hn, _, k0, k1, k2⟩ := Co.facts h
  have hj : j = 0 ∨ j = 1 ∨ j = 2 := by omega
  rcases hj with rfl | rfl | rfl
  · show c.v.maj = 0; omega
  · show c.v.min = 0; omega
  · show c.v.pat = 0; omega
theorem may_bad {c : Co} {k : Nat} (hk : c.parts.toNat + k < 3) (hn : ¬ xQ c.v.maj c.v.min c.v.pat (c.parts.toNat + k) = 0) : c.may = false := by
  cases hm : c.may with
  | false => rfl
  | true => exact absurd (may_rest hm _ (Nat.le_add_right _ _) hk) hn
theorem bF {c : Co} (h1 : 1 ≤ c.op ∧ c.op ≤ 9) (h9 : c.op = 9 → 0 ≤ c.parts ∧ c.parts ≤ 2) (hn : ¬ c.op = 9 → 1 ≤ c.parts ∧ c.parts ≤ 3) (hz : ∀ j, c.parts.toNat ≤ j → j < 3 → xQ c.v.maj c.v.min c.v.pat j = 0) :
    c.may = (c.v.may && (decide (c.v.build = []) && (decide (c.v.pre = []) || decide (c.parts = 3)))) := by
  have hp : 0 ≤ c.parts ∧ c.parts ≤ 3 := by
    by_cases e : c.op = 9
    · have := h9 e; omega
    · have := hn e; omega
  have z0 : 0 < c.parts ∨ c.v.maj = 0 := by
    by_cases q : 0 < c.parts
    · exact .inl q
    · exact .inr (hz 0 (by omega) (by decide))
  have z1 : 1 < c.parts ∨ c.v.min = 0 := by
    by_cases q : 1 < c.parts
    · exact .inl q
    · exact .inr (hz 1 (by omega) (by decide))
  have z2 : 2 < c.parts ∨ c.v.pat = 0 := by
    by_cases q : 2 < c.parts
    · exact .inl q
    · exact .inr (hz 2 (by omega) (by decide))
  refine Bool.eq_iff_iff.2 ⟨fun h => ?_, fun h => ?_⟩
  · obtain ⟨_, q1, q2, _, _, q3, _⟩ := Co.facts h
    rw [q1, decide_eq_true q2, Bool.true_and, Bool.true_and, Bool.or_eq_true, decide_eq_true_eq, decide_eq_true_eq]
    rcases q3 with q3 | q3
    · exact .inr (by omega)
    · exact .inl q3
  · simp only [Bool.and_eq_true, Bool.or_eq_true, decide_eq_true_eq] at h
    exact Co.may_iff.2 ⟨h1, h.1, h.2.1, h9, hn, h.2.2.elim .inr (fun q => .inl (by omega)), z0, z1, z2⟩
theorem lead_at {c : Co} {k : Nat} (hk : k < 3) (hz : ∀ j, j < k → xQ c.v.maj c.v.min c.v.pat j = 0) (hn : ¬ xQ c.v.maj c.v.min c.v.pat k = 0) : vH c = (k : Int) := by
  have h0 := hz 0; have h1 := hz 1
  have hj : k = 0 ∨ k = 1 ∨ k = 2 := by omega
  unfold vH
  rcases hj with rfl | rfl | rfl
  · exact if_pos (show ¬ c.v.maj = 0 from hn)
  · rw [if_neg (by simp [show c.v.maj = 0 from h0 (by decide)])]; exact if_pos (show ¬ c.v.min = 0 from hn)
  · rw [if_neg (by simp [show c.v.maj = 0 from h0 (by decide)]), if_neg (by simp [show c.v.min = 0 from h1 (by decide)])]; exact if_pos (show ¬ c.v.pat = 0 from hn)
theorem lead_end {c : Co} (hz : ∀ j, j < 3 → xQ c.v.maj c.v.min c.v.pat j = 0) : vH c = c.parts - 1 := by
  obtain ⟨a, b, d⟩ := zero3 hz
  unfold vH
  rw [if_neg (by simp [a]), if_neg (by simp [b]), if_neg (by simp [d])]
theorem zero_on {v : Ver} {a k : Nat} (hz : ∀ j, a ≤ j → j < a + k → xQ v.maj v.min v.pat j = 0) (h : xQ v.maj v.min v.pat (a + k) = 0) : ∀ j, a ≤ j → j < a + (k + 1) → xQ v.maj v.min v.pat j = 0 := fun j h1 h2 => by
  by_cases e : j = a + k
  · rw [e]; exact h
  · exact hz j h1 (by omega)
theorem zero_on0 {v : Ver} {k : Nat} (hz : ∀ j, j < k → xQ v.maj v.min v.pat j = 0) (h : xQ v.maj v.min v.pat k = 0) : ∀ j, j < k + 1 → xQ v.maj v.min v.pat j = 0 := fun j h2 => by
  by_cases e : j = k
  · rw [e]; exact h
  · exact hz j (by omega)
theorem mP (v : Ver) (W : World) : Calls Tryz.prog 111 #[y6 v] W fun e w' => ∃ v' ob', e = .returned v' ∧ (∃ g, v' = .slice (some ⟨g, 0, none⟩) 3 3 ∧ ob' = [⟨g, vV v, 3⟩]) ∧ Own [] W w' ob' := by
  refine Z2 (n := 10) Tryz.func111 rfl (ZO (Zb (y6 v) (fun b1 => Zv (.slice none 0 0) (ZR (Zv (Zp b1 0) (Zl 0 ⟨b1, (y6 v).cells, 44⟩ (off := 0) (.int .i64 v.maj) (Zv (Zp b1 1) ?_)))))))
  exact Zl 0 ⟨b1, (y6 v).cells, 44⟩ (off := 1) (.int .i64 v.min) (Zv (Zp b1 2) (Zl 0 ⟨b1, (y6 v).cells, 44⟩ (off := 2) (.int .i64 v.pat) (vC 3 #[.int .i64 v.maj, .int .i64 v.min, .int .i64 v.pat] (by kernel_rfl) rfl (fun _ => by kernel_rfl) (fun b2 => Zv (.slice (some ⟨b2, 0, none⟩) 3 3) (ZN (zC (ZF (.slice (some ⟨b2, 0, none⟩) 3 3) Tryz.results111 (fun w hO => ⟨_, _, rfl, ⟨_, rfl, rfl⟩, hO.sublist (List.cons_sublist_cons.2 (List.nil_sublist _))⟩))))))))
theorem tL (c : Co) (W : World) (hc : c.short) : Calls Tryz.prog 73 #[coV c] W fun e w' => e = .returned (.bool c.may) ∧ Below W.heap.size W w' := by
  refine Z2 (n := 64) Tryz.func73 rfl (ZO (Zb (coV c) (fun b1 => Zv Z5 (ZR (Zv (.int .i64 1) (Zv (.int .i64 3) (zO ?_)))))))
  refine zB (z7 (ZO (Zv (Zp b1 0) (Zl 0 ⟨b1, (coV c).cells, 51⟩ (off := 0) (.int .i64 c.op) ?_))))
  by_cases h1 : (c.op : Int) = 9
  · refine Zg h1 (ZY (zA (Zv (.int .i64 0) (Zv (.int .i64 2) (ZN (z7 (z7 (zA ?_))))))))
    refine Zv (Zp b1 0) (Zl 0 ⟨b1, (coV c).cells, 51⟩ (off := 0) (.int .i64 c.op) ?_)
    by_cases h2 : (c.op : Int) < 1
    · refine Zg h2 (Zv Z4 (Zk (Zk (Zk (Zv Z4 (Zv Z4 (Zk (Zk (Zk (Zk (Zv Z4 ?_)))))))))))
      refine Zv Z4 (Zk (Zk (Zk (Zk (Zv Z4 (ZY (ZO (Zv Z5 ?_))))))))
      exact ZN (zC (z6 (ZF Z5 Tryz.results73 (fun w hO => ⟨by rw [show c.may = false from Bool.eq_false_iff.2 fun q0 => by have q1 := Co.may_iff.1 q0; grind], hO.below⟩))))
    refine Zh h2 (Zv Z5 (Zv (Zp b1 0) (Zl 0 ⟨b1, (coV c).cells, 51⟩ (off := 0) (.int .i64 c.op) ?_)))
    by_cases h3 : (9 : Int) < c.op
    · refine Zg h3 (Zv Z4 (Zv Z4 (Zk (Zk (Zk (Zk (Zv Z4 (Zv Z4 (Zk (Zk (Zk ?_)))))))))))
      refine Zk (Zv Z4 (ZY (ZO (Zv Z5 (ZN (zC (z6 ?_)))))))
      exact ZF Z5 Tryz.results73 (fun w hO => ⟨by rw [show c.may = false from Bool.eq_false_iff.2 fun q0 => by have q1 := Co.may_iff.1 q0; grind], hO.below⟩)
    refine Zh h3 (Zv Z5 (Zv Z5 (Zv (Zp b1 1) (Zl 0 ⟨b1, (coV c).cells, 51⟩ (off := 1) (.int .i64 c.parts) (Zv (.int .i64 0) ?_)))))
    by_cases h4 : (c.parts : Int) < 0
    · refine Zg h4 (Zv Z4 (Zv Z4 (Zk (Zk (Zk (Zk (Zv Z4 (ZY (z7 ?_)))))))))
      exact zA (Zv Z5 (ZN (zC (z6 (ZF Z5 Tryz.results73 (fun w hO => ⟨by rw [show c.may = false from Bool.eq_false_iff.2 fun q0 => by have q1 := Co.may_iff.1 q0; grind], hO.below⟩))))))
    refine Zh h4 (Zv Z5 (Zv Z5 (Zv (Zp b1 1) (Zl 0 ⟨b1, (coV c).cells, 51⟩ (off := 1) (.int .i64 c.parts) (Zv (.int .i64 2) ?_)))))
    by_cases h5 : (2 : Int) < c.parts
    · refine Zg h5 (Zv Z4 (ZY (ZO (Zv Z5 (ZN (zC (z6 ?_)))))))
      exact ZF Z5 Tryz.results73 (fun w hO => ⟨by rw [show c.may = false from Bool.eq_false_iff.2 fun q0 => by have q1 := Co.may_iff.1 q0; grind], hO.below⟩)
    refine Zh h5 (Zv Z5 (ZX (ZB (z7 (z7 (j0 (by kernel_rfl) (ZT 0 [] _ (Zp b1 2) (zD (zD zH)) rfl (ZL 1 [] _ 0 ⟨b1, (coV c).cells, 51⟩ (off := 2) (.agg (ZP c.v)) (zD (zD zH)) rfl rfl ?_))))))))
    refine ZT 3 [] _ (Zp b1 1) (zD (zD zH)) rfl (ZL 4 [] _ 0 ⟨b1, (coV c).cells, 51⟩ (off := 1) (.int .i64 c.parts) (zD (zD zH)) rfl rfl (ZT 7 [] _ (.int .i64 0) (zD (zD zH)) rfl (Zz 2 (kA _ (k := 111) (args := #[.agg (ZP c.v)]) (fun v' L' => ∃ ob', L' = ob' ++ ([] ++ ([⟨b1, (coV c).cells, 51⟩])) ∧ ∃ g, v' = .slice (some ⟨g, 0, none⟩) 3 3 ∧ ob' = [⟨g, vV c.v, 3⟩]) rfl (by kernel_rfl) (fun _ => by kernel_rfl) (fun w hO => (mP c.v w).mono fun e w' ⟨v', ob', k1, k2, k3⟩ => ⟨v', _, k1, ⟨ob', rfl, k2⟩, Own.joinN hO k3⟩) (fun v' L' ⟨ob', e, _⟩ w hO => by subst e; exact Own.sub [] (Own.sub ob' hO)) (fun v1 L2 hv2 => ?_)))))
    obtain ⟨o1, rfl, hr1⟩ := hv2
    obtain ⟨g1, rfl, ho1⟩ := hr1
    refine gK (L' := (o1 ++ ([] : List Blk)) ++ ([⟨b1, (coV c).cells, 51⟩])) (List.append_assoc _ _ _).symm (vS 5 (o1 ++ ([] : List Blk)) _ (.slice (some ⟨g1, 0 + (if 3 = c.parts.toNat then 0 else c.parts.toNat * 1), none⟩) (3 - c.parts.toNat : Nat) (3 - c.parts.toNat : Nat)) rfl (by kernel_rfl) (by kernel_rfl) (by kernel_rfl) (zD (zD zH)) (by kernel_rfl) (fun w _ => fK (b := g1) (off := 0) (n := 3) (c := 3) (k := .i64) (j := c.parts) (e := 3) (sz := 1) rfl (by kernel_rfl) (by kernel_rfl) (by kernel_rfl) (by kernel_rfl) (by omega) (by omega) w) (ZT 6 (o1 ++ ([] : List Blk)) _ (.int .i64 ((3 - c.parts.toNat : Nat) : Int)) (zD (zD zH)) rfl (ZZ (zB (zM (gW (L' := [⟨g1, vV c.v, 3⟩, ⟨b1, (coV c).cells, 51⟩]) (by rw [ho1]; rfl) (yN (fun L f m => ∃ (k : Nat) (j : Nat → Value), (k ≤ 3 - c.parts.toNat ∧ ∀ j, c.parts.toNat ≤ j → j < c.parts.toNat + k → xQ c.v.maj c.v.min c.v.pat j = 0) ∧ L = [⟨g1, vV c.v, 3⟩, ⟨b1, (coV c).cells, 51⟩] ∧ f = xZ j [(1, Zp b1 0), (35, .slice (some ⟨g1, 0 + (if 3 = c.parts.toNat then 0 else c.parts.toNat * 1), none⟩) (3 - c.parts.toNat : Nat) (3 - c.parts.toNat : Nat)), (36, .int .i64 ((3 - c.parts.toNat : Nat) : Int)), (37, .int .i64 (k : Int))] ∧ m = 3 - c.parts.toNat - k) (3 - c.parts.toNat - 0) ⟨0, _, ⟨Nat.zero_le _, fun j h1 h2 => absurd h2 (by omega)⟩, rfl, ZU, rfl⟩ ?_)))))))
    rintro L f m ⟨k, j, hrel, rfl, rfl, rfl⟩
    have hkl := hrel.1
    refine z7 (zA ?_)
    by_cases h6 : (k : Int) < ((3 - c.parts.toNat : Nat) : Int)
    · refine Zg h6 (ZN (z7 (Zt (ZB (z7 (zM (ZO (zV (Zp g1 (c.parts.toNat + k)) (by kernel_rfl) (xP (b := g1) (off := 0 + (if 3 = c.parts.toNat then 0 else c.parts.toNat * 1)) (n := (3 - c.parts.toNat : Nat)) (c := (3 - c.parts.toNat : Nat)) (k := .i64) (j := (k : Int)) (e := 3) (sz := 1) rfl (by kernel_rfl) (by kernel_rfl) (by kernel_rfl) (by kernel_rfl) (by omega) (by omega) (by rw [if_neg (by omega)]; omega)) ?_))))))))
      refine jP 0 ⟨g1, vV c.v, 3⟩ (off := c.parts.toNat + k) (.int .i64 (xQ c.v.maj c.v.min c.v.pat (c.parts.toNat + k))) (by kernel_rfl) rfl (by kernel_rfl) (by kernel_rfl) (rd_nums c.v _ (by omega)) (Zv (.int .i64 (xQ c.v.maj c.v.min c.v.pat (c.parts.toNat + k))) (ZR (Zv (.int .i64 (xQ c.v.maj c.v.min c.v.pat (c.parts.toNat + k))) ?_)))
      by_cases h7 : (xQ c.v.maj c.v.min c.v.pat (c.parts.toNat + k) : Int) = 0
      · exact Zn (p := (xQ c.v.maj c.v.min c.v.pat (c.parts.toNat + k) : Int) = 0) true (decide_eq_true (h7)) (ZX (yP (zP (zB (zA (Zu (k := .i64) (((k + 1 : Nat) : Int)) (IntWalk.i64_in _ (by omega)) (Zv (.int .i64 ((k + 1 : Nat) : Int)) (zO (zS (m' := 3 - c.parts.toNat - (k + 1)) (by omega) ⟨k + 1, _, ⟨by omega, zero_on hrel.2 h7⟩, rfl, ZU, rfl⟩)))))))))
      refine Zn (p := (xQ c.v.maj c.v.min c.v.pat (c.parts.toNat + k) : Int) = 0) false (decide_eq_false (h7)) (ZY (ZO (Zv Z5 (ZN (zC (zG (z6 ?_)))))))
      exact y5 (zG (z6 (ZF Z5 Tryz.results73 (fun w hO => ⟨by rw [may_bad (k := k) (by omega) h7], hO.below⟩))))
    refine Zh h6 (ZN (z7 (Zf (y7 (zF (zN (zJ (zB (z7 (zA ?_))))))))))
    refine Zv (Zp b1 2) (Zl 1 ⟨b1, (coV c).cells, 51⟩ (off := 2) (.agg (ZP c.v)) (Zc (k := 119) (args := #[.agg (ZP c.v)]) (.bool c.v.may) (fun w _ => jT c.v w (Nat.lt_of_le_of_lt hc.1 (by decide)) (Nat.lt_of_le_of_lt hc.2 (by decide))) (Zv (.bool c.v.may) ?_)))
    cases h8 : c.v.may with
    | true =>
      refine Zv (Zp b1 2) (Zv (Zp b1 6) (Zl 1 ⟨b1, (coV c).cells, 51⟩ (off := 6) (.string (mkS c.v.build)) ?_))
      by_cases h9 : (c.v.build : List UInt8) = []
      · refine zV Z4 (by kernel_rfl) (yM (a := c.v.build) (b := ([])) rfl (by kernel_rfl) (by kernel_rfl) (decide_eq_true (h9))) (Zv Z4 (Zv Z4 (Zv (Zp b1 2) (Zv (Zp b1 5) (Zl 1 ⟨b1, (coV c).cells, 51⟩ (off := 5) (.string (mkS c.v.pre)) ?_)))))
        by_cases h10 : (c.v.pre : List UInt8) = []
        · refine zV Z4 (by kernel_rfl) (yM (a := c.v.pre) (b := ([])) rfl (by kernel_rfl) (by kernel_rfl) (decide_eq_true (h10))) (Zv Z4 (Zk (Zk (Zk (Zv Z4 (Zv Z4 (Zv Z4 (ZN (zC (ZF Z4 Tryz.results73 ?_))))))))))
          exact fun w hO => ⟨by rw [bF ⟨by omega, by omega⟩ (fun _ => by omega) (fun _ => by omega) (fun j q1 q2 => hrel.2 j q1 (by omega))]; simp [h1, h2, h3, h4, h5, h6, h8, h9, h10], hO.below⟩
        refine zV Z5 (by kernel_rfl) (yM (a := c.v.pre) (b := ([])) rfl (by kernel_rfl) (by kernel_rfl) (decide_eq_false (h10))) (Zv Z5 (Zv (Zp b1 1) (Zl 1 ⟨b1, (coV c).cells, 51⟩ (off := 1) (.int .i64 c.parts) ?_)))
        by_cases h11 : (c.parts : Int) = 3
        · exact Zg h11 (Zv Z4 (Zv Z4 (Zv Z4 (ZN (zC (ZF Z4 Tryz.results73 (fun w hO => ⟨by rw [bF ⟨by omega, by omega⟩ (fun _ => by omega) (fun _ => by omega) (fun j q1 q2 => hrel.2 j q1 (by omega))]; simp [h1, h2, h3, h4, h5, h6, h8, h9, h10, h11], hO.below⟩)))))))
        exact Zh h11 (Zv Z5 (Zv Z5 (Zv Z5 (ZN (zC (ZF Z5 Tryz.results73 (fun w hO => ⟨by rw [bF ⟨by omega, by omega⟩ (fun _ => by omega) (fun _ => by omega) (fun j q1 q2 => hrel.2 j q1 (by omega))]; simp [h1, h2, h3, h4, h5, h6, h8, h9, h10, h11], hO.below⟩)))))))
      refine zV Z5 (by kernel_rfl) (yM (a := c.v.build) (b := ([])) rfl (by kernel_rfl) (by kernel_rfl) (decide_eq_false (h9))) (Zv Z5 (Zv Z5 (Zk (Zk (Zk (Zk (Zk (Zk (Zk (Zk (Zk ?_)))))))))))
      exact Zv Z5 (Zv Z5 (ZN (zC (ZF Z5 Tryz.results73 (fun w hO => ⟨by rw [bF ⟨by omega, by omega⟩ (fun _ => by omega) (fun _ => by omega) (fun j q1 q2 => hrel.2 j q1 (by omega))]; simp [h1, h2, h3, h4, h5, h6, h8, h9], hO.below⟩)))))
    | false =>
      refine Zk (Zk (Zk (Zk (Zv Z5 (Zv Z5 (Zk (Zk (Zk (Zk (Zk (Zk ?_)))))))))))
      exact Zk (Zk (Zk (Zv Z5 (Zv Z5 (ZN (zC (ZF Z5 Tryz.results73 (fun w hO => ⟨by rw [bF ⟨by omega, by omega⟩ (fun _ => by omega) (fun _ => by omega) (fun j q1 q2 => hrel.2 j q1 (by omega))]; simp [h1, h2, h3, h4, h5, h6, h8], hO.below⟩))))))))
  refine Zh h1 (ZX (ZB (z7 (ZO (Zv (Zp b1 0) (Zl 0 ⟨b1, (coV c).cells, 51⟩ (off := 0) (.int .i64 c.op) ?_))))))
  by_cases h12 : (c.op : Int) < 1
  · refine Zg h12 (Zv Z4 (Zk (Zk (Zk (Zv Z4 (Zv Z4 (Zk (Zk (Zk (Zk (Zv Z4 ?_)))))))))))
    refine Zv Z4 (Zk (Zk (Zk (Zk (Zv Z4 (ZY (ZO (Zv Z5 ?_))))))))
    exact ZN (zC (z6 (ZF Z5 Tryz.results73 (fun w hO => ⟨by rw [show c.may = false from Bool.eq_false_iff.2 fun q0 => by have q1 := Co.may_iff.1 q0; grind], hO.below⟩))))
  refine Zh h12 (Zv Z5 (Zv (Zp b1 0) (Zl 0 ⟨b1, (coV c).cells, 51⟩ (off := 0) (.int .i64 c.op) ?_)))
  by_cases h13 : (9 : Int) < c.op
  · refine Zg h13 (Zv Z4 (Zv Z4 (Zk (Zk (Zk (Zk (Zv Z4 (Zv Z4 (Zk (Zk (Zk ?_)))))))))))
    refine Zk (Zv Z4 (ZY (ZO (Zv Z5 (ZN (zC (z6 ?_)))))))
    exact ZF Z5 Tryz.results73 (fun w hO => ⟨by rw [show c.may = false from Bool.eq_false_iff.2 fun q0 => by have q1 := Co.may_iff.1 q0; grind], hO.below⟩)
  refine Zh h13 (Zv Z5 (Zv Z5 (Zv (Zp b1 1) (Zl 0 ⟨b1, (coV c).cells, 51⟩ (off := 1) (.int .i64 c.parts) (Zv (.int .i64 1) ?_)))))
  by_cases h14 : (c.parts : Int) < 1
  · refine Zg h14 (Zv Z4 (Zv Z4 (Zk (Zk (Zk (Zk (Zv Z4 (ZY (z7 ?_)))))))))
    exact zA (Zv Z5 (ZN (zC (z6 (ZF Z5 Tryz.results73 (fun w hO => ⟨by rw [show c.may = false from Bool.eq_false_iff.2 fun q0 => by have q1 := Co.may_iff.1 q0; grind], hO.below⟩))))))
  refine Zh h14 (Zv Z5 (Zv Z5 (Zv (Zp b1 1) (Zl 0 ⟨b1, (coV c).cells, 51⟩ (off := 1) (.int .i64 c.parts) (Zv (.int .i64 3) ?_)))))
  by_cases h15 : (3 : Int) < c.parts
  · refine Zg h15 (Zv Z4 (ZY (ZO (Zv Z5 (ZN (zC (z6 ?_)))))))
    exact ZF Z5 Tryz.results73 (fun w hO => ⟨by rw [show c.may = false from Bool.eq_false_iff.2 fun q0 => by have q1 := Co.may_iff.1 q0; grind], hO.below⟩)
  refine Zh h15 (Zv Z5 (ZX (ZB (z7 (z7 (j0 (by kernel_rfl) (ZT 0 [] _ (Zp b1 2) (zD (zD zH)) rfl (ZL 1 [] _ 0 ⟨b1, (coV c).cells, 51⟩ (off := 2) (.agg (ZP c.v)) (zD (zD zH)) rfl rfl ?_))))))))
  refine ZT 3 [] _ (Zp b1 1) (zD (zD zH)) rfl (ZL 4 [] _ 0 ⟨b1, (coV c).cells, 51⟩ (off := 1) (.int .i64 c.parts) (zD (zD zH)) rfl rfl (ZT 7 [] _ (.int .i64 0) (zD (zD zH)) rfl (Zz 2 (kA _ (k := 111) (args := #[.agg (ZP c.v)]) (fun v' L' => ∃ ob', L' = ob' ++ ([] ++ ([⟨b1, (coV c).cells, 51⟩])) ∧ ∃ g, v' = .slice (some ⟨g, 0, none⟩) 3 3 ∧ ob' = [⟨g, vV c.v, 3⟩]) rfl (by kernel_rfl) (fun _ => by kernel_rfl) (fun w hO => (mP c.v w).mono fun e w' ⟨v', ob', k1, k2, k3⟩ => ⟨v', _, k1, ⟨ob', rfl, k2⟩, Own.joinN hO k3⟩) (fun v' L' ⟨ob', e, _⟩ w hO => by subst e; exact Own.sub [] (Own.sub ob' hO)) (fun v1 L2 hv2 => ?_)))))
  obtain ⟨o1, rfl, hr1⟩ := hv2
  obtain ⟨g1, rfl, ho1⟩ := hr1
  refine gK (L' := (o1 ++ ([] : List Blk)) ++ ([⟨b1, (coV c).cells, 51⟩])) (List.append_assoc _ _ _).symm (vS 5 (o1 ++ ([] : List Blk)) _ (.slice (some ⟨g1, 0 + (if 3 = c.parts.toNat then 0 else c.parts.toNat * 1), none⟩) (3 - c.parts.toNat : Nat) (3 - c.parts.toNat : Nat)) rfl (by kernel_rfl) (by kernel_rfl) (by kernel_rfl) (zD (zD zH)) (by kernel_rfl) (fun w _ => fK (b := g1) (off := 0) (n := 3) (c := 3) (k := .i64) (j := c.parts) (e := 3) (sz := 1) rfl (by kernel_rfl) (by kernel_rfl) (by kernel_rfl) (by kernel_rfl) (by omega) (by omega) w) (ZT 6 (o1 ++ ([] : List Blk)) _ (.int .i64 ((3 - c.parts.toNat : Nat) : Int)) (zD (zD zH)) rfl (ZZ (zB (zM (gW (L' := [⟨g1, vV c.v, 3⟩, ⟨b1, (coV c).cells, 51⟩]) (by rw [ho1]; rfl) (yN (fun L f m => ∃ (k : Nat) (j : Nat → Value), (k ≤ 3 - c.parts.toNat ∧ ∀ j, c.parts.toNat ≤ j → j < c.parts.toNat + k → xQ c.v.maj c.v.min c.v.pat j = 0) ∧ L = [⟨g1, vV c.v, 3⟩, ⟨b1, (coV c).cells, 51⟩] ∧ f = xZ j [(1, Zp b1 0), (35, .slice (some ⟨g1, 0 + (if 3 = c.parts.toNat then 0 else c.parts.toNat * 1), none⟩) (3 - c.parts.toNat : Nat) (3 - c.parts.toNat : Nat)), (36, .int .i64 ((3 - c.parts.toNat : Nat) : Int)), (37, .int .i64 (k : Int))] ∧ m = 3 - c.parts.toNat - k) (3 - c.parts.toNat - 0) ⟨0, _, ⟨Nat.zero_le _, fun j h1 h2 => absurd h2 (by omega)⟩, rfl, ZU, rfl⟩ ?_)))))))
  rintro L f m ⟨k, j, hrel, rfl, rfl, rfl⟩
  have hkl := hrel.1
  refine z7 (zA ?_)
  by_cases h16 : (k : Int) < ((3 - c.parts.toNat : Nat) : Int)
  · refine Zg h16 (ZN (z7 (Zt (ZB (z7 (zM (ZO (zV (Zp g1 (c.parts.toNat + k)) (by kernel_rfl) (xP (b := g1) (off := 0 + (if 3 = c.parts.toNat then 0 else c.parts.toNat * 1)) (n := (3 - c.parts.toNat : Nat)) (c := (3 - c.parts.toNat : Nat)) (k := .i64) (j := (k : Int)) (e := 3) (sz := 1) rfl (by kernel_rfl) (by kernel_rfl) (by kernel_rfl) (by kernel_rfl) (by omega) (by omega) (by rw [if_neg (by omega)]; omega)) ?_))))))))
    refine jP 0 ⟨g1, vV c.v, 3⟩ (off := c.parts.toNat + k) (.int .i64 (xQ c.v.maj c.v.min c.v.pat (c.parts.toNat + k))) (by kernel_rfl) rfl (by kernel_rfl) (by kernel_rfl) (rd_nums c.v _ (by omega)) (Zv (.int .i64 (xQ c.v.maj c.v.min c.v.pat (c.parts.toNat + k))) (ZR (Zv (.int .i64 (xQ c.v.maj c.v.min c.v.pat (c.parts.toNat + k))) ?_)))
    by_cases h17 : (xQ c.v.maj c.v.min c.v.pat (c.parts.toNat + k) : Int) = 0
    · exact Zn (p := (xQ c.v.maj c.v.min c.v.pat (c.parts.toNat + k) : Int) = 0) true (decide_eq_true (h17)) (ZX (yP (zP (zB (zA (Zu (k := .i64) (((k + 1 : Nat) : Int)) (IntWalk.i64_in _ (by omega)) (Zv (.int .i64 ((k + 1 : Nat) : Int)) (zO (zS (m' := 3 - c.parts.toNat - (k + 1)) (by omega) ⟨k + 1, _, ⟨by omega, zero_on hrel.2 h17⟩, rfl, ZU, rfl⟩)))))))))
    refine Zn (p := (xQ c.v.maj c.v.min c.v.pat (c.parts.toNat + k) : Int) = 0) false (decide_eq_false (h17)) (ZY (ZO (Zv Z5 (ZN (zC (zG (z6 ?_)))))))
    exact y5 (zG (z6 (ZF Z5 Tryz.results73 (fun w hO => ⟨by rw [may_bad (k := k) (by omega) h17], hO.below⟩))))
  refine Zh h16 (ZN (z7 (Zf (y7 (zF (zN (zJ (zB (z7 (zA ?_))))))))))
  refine Zv (Zp b1 2) (Zl 1 ⟨b1, (coV c).cells, 51⟩ (off := 2) (.agg (ZP c.v)) (Zc (k := 119) (args := #[.agg (ZP c.v)]) (.bool c.v.may) (fun w _ => jT c.v w (Nat.lt_of_le_of_lt hc.1 (by decide)) (Nat.lt_of_le_of_lt hc.2 (by decide))) (Zv (.bool c.v.may) ?_)))
  cases h18 : c.v.may with
  | true =>
    refine Zv (Zp b1 2) (Zv (Zp b1 6) (Zl 1 ⟨b1, (coV c).cells, 51⟩ (off := 6) (.string (mkS c.v.build)) ?_))
    by_cases h19 : (c.v.build : List UInt8) = []
    · refine zV Z4 (by kernel_rfl) (yM (a := c.v.build) (b := ([])) rfl (by kernel_rfl) (by kernel_rfl) (decide_eq_true (h19))) (Zv Z4 (Zv Z4 (Zv (Zp b1 2) (Zv (Zp b1 5) (Zl 1 ⟨b1, (coV c).cells, 51⟩ (off := 5) (.string (mkS c.v.pre)) ?_)))))
      by_cases h20 : (c.v.pre : List UInt8) = []
      · refine zV Z4 (by kernel_rfl) (yM (a := c.v.pre) (b := ([])) rfl (by kernel_rfl) (by kernel_rfl) (decide_eq_true (h20))) (Zv Z4 (Zk (Zk (Zk (Zv Z4 (Zv Z4 (Zv Z4 (ZN (zC (ZF Z4 Tryz.results73 ?_))))))))))
        exact fun w hO => ⟨by rw [bF ⟨by omega, by omega⟩ (fun _ => by omega) (fun _ => by omega) (fun j q1 q2 => hrel.2 j q1 (by omega))]; simp [h1, h12, h13, h14, h15, h16, h18, h19, h20], hO.below⟩
      refine zV Z5 (by kernel_rfl) (yM (a := c.v.pre) (b := ([])) rfl (by kernel_rfl) (by kernel_rfl) (decide_eq_false (h20))) (Zv Z5 (Zv (Zp b1 1) (Zl 1 ⟨b1, (coV c).cells, 51⟩ (off := 1) (.int .i64 c.parts) ?_)))
      by_cases h21 : (c.parts : Int) = 3
      · exact Zg h21 (Zv Z4 (Zv Z4 (Zv Z4 (ZN (zC (ZF Z4 Tryz.results73 (fun w hO => ⟨by rw [bF ⟨by omega, by omega⟩ (fun _ => by omega) (fun _ => by omega) (fun j q1 q2 => hrel.2 j q1 (by omega))]; simp [h1, h12, h13, h14, h15, h16, h18, h19, h20, h21], hO.below⟩)))))))
      exact Zh h21 (Zv Z5 (Zv Z5 (Zv Z5 (ZN (zC (ZF Z5 Tryz.results73 (fun w hO => ⟨by rw [bF ⟨by omega, by omega⟩ (fun _ => by omega) (fun _ => by omega) (fun j q1 q2 => hrel.2 j q1 (by omega))]; simp [h1, h12, h13, h14, h15, h16, h18, h19, h20, h21], hO.below⟩)))))))
    refine zV Z5 (by kernel_rfl) (yM (a := c.v.build) (b := ([])) rfl (by kernel_rfl) (by kernel_rfl) (decide_eq_false (h19))) (Zv Z5 (Zv Z5 (Zk (Zk (Zk (Zk (Zk (Zk (Zk (Zk (Zk ?_)))))))))))
    exact Zv Z5 (Zv Z5 (ZN (zC (ZF Z5 Tryz.results73 (fun w hO => ⟨by rw [bF ⟨by omega, by omega⟩ (fun _ => by omega) (fun _ => by omega) (fun j q1 q2 => hrel.2 j q1 (by omega))]; simp [h1, h12, h13, h14, h15, h16, h18, h19], hO.below⟩)))))
  | false =>
    refine Zk (Zk (Zk (Zk (Zv Z5 (Zv Z5 (Zk (Zk (Zk (Zk (Zk (Zk ?_)))))))))))
    exact Zk (Zk (Zk (Zv Z5 (Zv Z5 (ZN (zC (ZF Z5 Tryz.results73 (fun w hO => ⟨by rw [bF ⟨by omega, by omega⟩ (fun _ => by omega) (fun _ => by omega) (fun j q1 q2 => hrel.2 j q1 (by omega))]; simp [h1, h12, h13, h14, h15, h16, h18], hO.below⟩))))))))
theorem csign_any (op : Int) (W : World) : Calls Tryz.prog 108 #[.int .i64 op] W fun e w' => e = .returned (.string (mkS (yA op))) ∧ Below W.heap.size W w' := by
  refine Z2 (n := 25) Tryz.func108 rfl (ZO (Zv (.string ⟨#[]⟩) (ZR (Zv (.string ⟨#[]⟩) (Zv (.string ⟨#[]⟩) (zO (zB ?_)))))))
  refine z7 (ZO (Zv (.int .i64 op) (ZN (zM (z7 (zM (z7 (zM (z7 ?_)))))))))
  refine zM (z7 (zM (z7 (zM (z7 (zM (z7 (zM (z7 (zM (z7 ?_)))))))))))
  refine z7 (z7 (zA ?_))
  by_cases h1 : (op : Int) = 2
  · refine Zg h1 (Zv Z4 (ZY (y7 (zF (zF (zJ (zB (zA (Zv (.string ⟨#[33]⟩) ?_)))))))))
    refine zO (zP (zB (ZO (Zv (.string ⟨#[61]⟩) (ZN (y7 (zK (by decide) (zF (zK (by decide) ?_)))))))))
    refine zF (zK (by decide) (zF (zK (by decide) (zF (zK (by decide) (zF (zK (by decide) (zF (zJ (zB (z7 ?_)))))))))))
    exact zA (Zv (.string ⟨#[33]⟩) (Zv (.string ⟨#[61]⟩) (zV (.string (mkS ([33] ++ [61]))) (by kernel_rfl) (yY (a := [33]) (b := [61]) rfl (by kernel_rfl) (by kernel_rfl) (by decide)) (Zv (.string (mkS ([33] ++ [61]))) (ZN (zC (ZF (.string (mkS ([33] ++ [61]))) Tryz.results108 (fun w hO => ⟨by unfold yA; simp [h1], hO.below⟩))))))))
  refine Zh h1 (Zv Z5 (ZX (ZB (z7 (z7 (zA ?_))))))
  by_cases h2 : (op : Int) = 1
  · refine Zg h2 (Zv Z4 (ZY (y7 (zF (zF (zK (by decide) (zF (zJ (zB ?_)))))))))
    refine ZO (Zv (.string ⟨#[61]⟩) (ZN (y7 (zK (by decide) (zF (zK (by decide) (zF (zK (by decide) (zF ?_)))))))))
    refine zK (by decide) (zF (zK (by decide) (zF (zK (by decide) (zF (zJ (zB (ZO (Zv (.string ⟨#[]⟩) (Zv (.string ⟨#[61]⟩) ?_))))))))))
    exact zV (.string (mkS ([] ++ [61]))) (by kernel_rfl) (yY (a := []) (b := [61]) rfl (by kernel_rfl) (by kernel_rfl) (by decide)) (Zv (.string (mkS ([] ++ [61]))) (ZN (zC (ZF (.string (mkS ([] ++ [61]))) Tryz.results108 (fun w hO => ⟨by unfold yA; simp [h1, h2], hO.below⟩)))))
  refine Zh h2 (Zv Z5 (ZX (ZB (z7 (z7 (zA ?_))))))
  by_cases h3 : (op : Int) = 4
  · refine Zg h3 (Zv Z4 (ZY (y7 (zF (zF (zK (by decide) (zF (zK (by decide) (zF ?_)))))))))
    refine zJ (zB (zA (Zv (.string ⟨#[61]⟩) (zO (zP (zB (ZO (Zv (.string ⟨#[60]⟩) (zO (zB ?_))))))))))
    refine y7 (zK (by decide) (zF (zK (by decide) (zF (zK (by decide) (zF (zK (by decide) (zF (zJ (zB (z7 ?_)))))))))))
    exact zA (Zv (.string ⟨#[60]⟩) (Zv (.string ⟨#[61]⟩) (zV (.string (mkS ([60] ++ [61]))) (by kernel_rfl) (yY (a := [60]) (b := [61]) rfl (by kernel_rfl) (by kernel_rfl) (by decide)) (Zv (.string (mkS ([60] ++ [61]))) (ZN (zC (ZF (.string (mkS ([60] ++ [61]))) Tryz.results108 (fun w hO => ⟨by unfold yA; simp [h1, h2, h3], hO.below⟩))))))))
  refine Zh h3 (Zv Z5 (ZX (ZB (z7 (z7 (zA ?_))))))
  by_cases h4 : (op : Int) = 3
  · refine Zg h4 (Zv Z4 (ZY (y7 (zF (zF (zK (by decide) (zF (zK (by decide) (zF ?_)))))))))
    refine zK (by decide) (zF (zJ (zB (ZO (Zv (.string ⟨#[60]⟩) (ZN (y7 (zK (by decide) (zF ?_)))))))))
    refine zK (by decide) (zF (zK (by decide) (zF (zK (by decide) (zF (zJ (zB (ZO (Zv (.string ⟨#[60]⟩) (Zv (.string ⟨#[]⟩) ?_))))))))))
    exact zV (.string (mkS ([60] ++ []))) (by kernel_rfl) (yY (a := [60]) (b := []) rfl (by kernel_rfl) (by kernel_rfl) (by decide)) (Zv (.string (mkS ([60] ++ []))) (ZN (zC (ZF (.string (mkS ([60] ++ []))) Tryz.results108 (fun w hO => ⟨by unfold yA; simp [h1, h2, h3, h4], hO.below⟩)))))
  refine Zh h4 (Zv Z5 (ZX (ZB (z7 (z7 (zA ?_))))))
  by_cases h5 : (op : Int) = 6
  · refine Zg h5 (Zv Z4 (ZY (y7 (zF (zF (zK (by decide) (zF (zK (by decide) (zF ?_)))))))))
    refine zK (by decide) (zF (zK (by decide) (zF (zJ (zB (zA (Zv (.string ⟨#[61]⟩) (zO (zP (zB (z7 ?_)))))))))))
    refine zA (Zv (.string ⟨#[62]⟩) (ZN (y7 (zK (by decide) (zF (zK (by decide) (zF (zJ (zB (z7 ?_))))))))))
    exact zA (Zv (.string ⟨#[62]⟩) (Zv (.string ⟨#[61]⟩) (zV (.string (mkS ([62] ++ [61]))) (by kernel_rfl) (yY (a := [62]) (b := [61]) rfl (by kernel_rfl) (by kernel_rfl) (by decide)) (Zv (.string (mkS ([62] ++ [61]))) (ZN (zC (ZF (.string (mkS ([62] ++ [61]))) Tryz.results108 (fun w hO => ⟨by unfold yA; simp [h1, h2, h3, h4, h5], hO.below⟩))))))))
  refine Zh h5 (Zv Z5 (ZX (ZB (z7 (z7 (zA ?_))))))
  by_cases h6 : (op : Int) = 5
  · refine Zg h6 (Zv Z4 (ZY (y7 (zF (zF (zK (by decide) (zF (zK (by decide) (zF ?_)))))))))
    refine zK (by decide) (zF (zK (by decide) (zF (zK (by decide) (zF (zJ (zB (ZO (Zv (.string ⟨#[62]⟩) (zO ?_))))))))))
    refine zB (y7 (zK (by decide) (zF (zK (by decide) (zF (zJ (zB (ZO (Zv (.string ⟨#[62]⟩) (Zv (.string ⟨#[]⟩) ?_))))))))))
    exact zV (.string (mkS ([62] ++ []))) (by kernel_rfl) (yY (a := [62]) (b := []) rfl (by kernel_rfl) (by kernel_rfl) (by decide)) (Zv (.string (mkS ([62] ++ []))) (ZN (zC (ZF (.string (mkS ([62] ++ []))) Tryz.results108 (fun w hO => ⟨by unfold yA; simp [h1, h2, h3, h4, h5, h6], hO.below⟩)))))
  refine Zh h6 (Zv Z5 (ZX (ZB (z7 (z7 (zA ?_))))))
  by_cases h7 : (op : Int) = 7
  · refine Zg h7 (Zv Z4 (ZY (y7 (zF (zF (zK (by decide) (zF (zK (by decide) (zF ?_)))))))))
    refine zK (by decide) (zF (zK (by decide) (zF (zK (by decide) (zF (zK (by decide) (zF (zJ (zB (z7 (zA ?_)))))))))))
    refine Zv (.string ⟨#[94]⟩) (ZN (y7 (zK (by decide) (zF (zJ (zB (ZO (Zv (.string ⟨#[94]⟩) (Zv (.string ⟨#[]⟩) ?_)))))))))
    exact zV (.string (mkS ([94] ++ []))) (by kernel_rfl) (yY (a := [94]) (b := []) rfl (by kernel_rfl) (by kernel_rfl) (by decide)) (Zv (.string (mkS ([94] ++ []))) (ZN (zC (ZF (.string (mkS ([94] ++ []))) Tryz.results108 (fun w hO => ⟨by unfold yA; simp [h1, h2, h3, h4, h5, h6, h7], hO.below⟩)))))
  refine Zh h7 (Zv Z5 (ZX (ZB (z7 (zA ?_)))))
  by_cases h8 : (op : Int) = 8
  · refine Zg h8 (Zv Z4 (ZY (y7 (zF (zK (by decide) (zF (zK (by decide) (zF (zK (by decide) ?_)))))))))
    refine zF (zK (by decide) (zF (zK (by decide) (zF (zK (by decide) (zF (zK (by decide) (zF (zJ (zB (z7 ?_)))))))))))
    refine zA (Zv (.string ⟨#[126]⟩) (ZN (y7 (zJ (zB (ZO (Zv (.string ⟨#[126]⟩) (Zv (.string ⟨#[]⟩) (zV (.string (mkS ([126] ++ []))) (by kernel_rfl) (yY (a := [126]) (b := []) rfl (by kernel_rfl) (by kernel_rfl) (by decide)) ?_)))))))))
    exact Zv (.string (mkS ([126] ++ []))) (ZN (zC (ZF (.string (mkS ([126] ++ []))) Tryz.results108 (fun w hO => ⟨by unfold yA; simp [h1, h2, h3, h4, h5, h6, h7, h8], hO.below⟩))))
  refine Zh h8 (Zv Z5 (ZX (ZB (y7 (zK (by decide) (zF (zK (by decide) (zF ?_))))))))
  refine zK (by decide) (zF (zK (by decide) (zF (zK (by decide) (zF (zK (by decide) (zF (zK (by decide) (zF (zK (by decide) (zF ?_)))))))))))
  refine zJ (zB (ZO (Zv (.string ⟨#[]⟩) (Zv (.string ⟨#[]⟩) (zV (.string (mkS ([] ++ []))) (by kernel_rfl) (yY (a := []) (b := []) rfl (by kernel_rfl) (by kernel_rfl) (by decide)) (Zv (.string (mkS ([] ++ []))) (ZN (zC (ZF (.string (mkS ([] ++ []))) Tryz.results108 ?_)))))))))
  exact fun w hO => ⟨by unfold yA; simp [h1, h2, h3, h4, h5, h6, h7, h8], hO.below⟩
theorem clead_any (c : Co) (W : World) (hc : c.short) (hp : 0 ≤ c.parts ∧ c.parts ≤ 3) : Calls Tryz.prog 176 #[coV c] W fun e w' => e = .returned (.int .i64 (vH c)) ∧ Below W.heap.size W w' := by
  refine Z2 (n := 21) Tryz.func176 rfl (ZO (Zb (coV c) (fun b1 => Zv (.int .i64 0) (ZN (z7 (ZO (Zv (Zp b1 2) (Zl 0 ⟨b1, (coV c).cells, 51⟩ (off := 2) (.agg (ZP c.v)) ?_))))))))
  refine Zr (k := 111) (args := #[y6 c.v]) (fun v' L' => ∃ g, v' = .slice (some ⟨g, 0, none⟩) 3 3 ∧ L' = ⟨g, vV c.v, 3⟩ :: [⟨b1, (coV c).cells, 51⟩]) (fun w hO => (mP c.v w).mono fun e w' ⟨v', ob', k1, ⟨g, k2, k4⟩, k3⟩ => ⟨v', _, k1, ⟨g, k2, rfl⟩, by subst k4; exact Own.joinN hO k3⟩) (fun v1 L1 hv1 => ?_)
  obtain ⟨g1, rfl, rfl⟩ := hv1
  refine Zv (.int .i64 (3 : Int)) (Zv (.int .i64 0) (ZN (zM (yN (fun L f m => ∃ (k : Nat) (j : Nat → Value), (k ≤ 3 ∧ ∀ j, j < k → xQ c.v.maj c.v.min c.v.pat j = 0) ∧ L = [⟨g1, vV c.v, 3⟩, ⟨b1, (coV c).cells, 51⟩] ∧ f = xZ j [(1, Zp b1 0), (7, .slice (some ⟨g1, 0, none⟩) 3 3), (8, .int .i64 3), (9, .int .i64 (k : Int))] ∧ m = 3 - k) (3 - 0) ⟨0, _, ⟨Nat.zero_le _, fun j h2 => absurd h2 (Nat.not_lt_zero _)⟩, rfl, ZU, rfl⟩ ?_))))
  rintro L f m ⟨k, j, hrel, rfl, rfl, rfl⟩
  have hkl := hrel.1
  refine z7 (zA ?_)
  by_cases h1 : (k : Int) < 3
  · refine Zg h1 (ZN (z7 (Zt (ZB (z7 (zM (ZO (Zv (.int .i64 (k : Int)) ?_))))))))
    refine zV (Zp g1 (0 + k)) (by kernel_rfl) (ZV (b := g1) (off := 0) (n := 3) (c := 3) (k := .i64) (j := (k : Int)) (e := 3) (sz := 1)) (jP 0 ⟨g1, vV c.v, 3⟩ (off := 0 + k) (.int .i64 (xQ c.v.maj c.v.min c.v.pat k)) (by kernel_rfl) rfl (by kernel_rfl) (by kernel_rfl) (by rw [Nat.zero_add]; exact rd_nums c.v k (by omega)) (Zv (.int .i64 (k : Int)) (Zv (.int .i64 (xQ c.v.maj c.v.min c.v.pat k)) (ZR (Zv (.int .i64 (xQ c.v.maj c.v.min c.v.pat k)) ?_)))))
    by_cases h2 : (xQ c.v.maj c.v.min c.v.pat k : Int) = 0
    · exact Zn (p := (xQ c.v.maj c.v.min c.v.pat k : Int) = 0) true (decide_eq_true (h2)) (ZX (yP (zP (zB (zA (Zu (k := .i64) (((k + 1 : Nat) : Int)) (IntWalk.i64_in _ (by omega)) (Zv (.int .i64 ((k + 1 : Nat) : Int)) (zO (zS (m' := 3 - (k + 1)) (by omega) ⟨k + 1, _, ⟨by omega, zero_on0 hrel.2 h2⟩, rfl, ZU, rfl⟩)))))))))
    refine Zn (p := (xQ c.v.maj c.v.min c.v.pat k : Int) = 0) false (decide_eq_false (h2)) (ZY (ZO (Zv (.int .i64 (k : Int)) (Zv (.int .i64 (k : Int)) (ZN (zC (zG ?_)))))))
    exact z6 (y5 (zG (z6 (ZF (.int .i64 (k : Int)) Tryz.results176 (fun w hO => ⟨by rw [lead_at (by omega) hrel.2 h2], hO.below⟩)))))
  refine Zh h1 (ZN (z7 (Zf (y7 (zF (zN (zJ (zB (z7 (zA ?_))))))))))
  exact Zv (Zp b1 1) (Zl 1 ⟨b1, (coV c).cells, 51⟩ (off := 1) (.int .i64 c.parts) (Zu (k := .i64) ((c.parts : Int) - 1) (IntWalk.i64_in _ (by omega)) (Zv (.int .i64 ((c.parts : Int) - 1)) (ZN (zC (ZF (.int .i64 ((c.parts : Int) - 1)) Tryz.results176 (fun w hO => ⟨by rw [lead_end (fun j q2 => hrel.2 j (by omega))], hO.below⟩)))))))
theorem chigh_any (v : Ver) (z0 : Int) (W : World) (hv : v.short) (hz : -1 ≤ z0 ∧ z0 ≤ 2) : Calls Tryz.prog 175 #[y6 v, .int .i64 z0] W fun e w' => e = .returned (z8 (vZ v z0)) ∧ Below W.heap.size W w' := by
  refine Z2 (n := 21) Tryz.func175 rfl (ZO (Zb (y6 v) (fun b1 => Za (.agg ZE) (fun b2 => ZN (z7 (zM (yN (fun L f m => ∃ (z : Int) (j : Nat → Value), (-1 ≤ z ∧ z ≤ 2 ∧ vZ v z0 = vZ v z) ∧ L = [⟨b2, ZE, 78⟩, ⟨b1, (y6 v).cells, 44⟩] ∧ f = xZ j [(1, .int .i64 z), (2, Zp b1 0), (4, Zp b2 0)] ∧ m = (z + 1).toNat) ((z0 + 1).toNat) ⟨z0, _, ⟨hz.1, hz.2, rfl⟩, rfl, ZU, rfl⟩ ?_)))))))
  rintro L f m ⟨z, j, hrel, rfl, rfl, rfl⟩
  refine z7 (ZO (Zv (.int .i64 z) ?_))
  by_cases h1 : (0 : Int) ≤ z
  · refine Zg h1 (ZY (ZB (z7 (zM (ZO (Zl 1 ⟨b1, (y6 v).cells, 44⟩ (off := 0) (y6 v) (Zv (.int .i64 z) ?_)))))))
    refine Zc (k := 203) (args := #[y6 v, .int .i64 z]) (.tuple #[y6 (yD v z), .bool (y8 v z)]) (fun w _ => bump_any v z w hv.1 hv.2) (Zv (.tuple #[y6 (yD v z), .bool (y8 v z)]) (Zv (y6 (yD v z)) (Zv (.bool (y8 v z)) (Za (.agg Z7) (fun b3 => Zs 0 ⟨b3, Z7, 44⟩ (off := 0) (y6 (yD v z)) (Zv (.bool (y8 v z)) (ZR (Zv (.bool (y8 v z)) ?_))))))))
    refine zO (zB ?_)
    cases h2 : y8 v z with
    | true =>
      refine Zt (ZO (Zl 0 ⟨b3, (y6 (yD v z)).cells, 44⟩ (off := 0) (y6 (yD v z)) (Zv (.agg #[.int .i64 0, .int .i64 ((yD v z).maj), .int .i64 ((yD v z).min), .int .i64 ((yD v z).pat), .string (mkS (yD v z).pre), .string (mkS (yD v z).build), .bool false]) (Zs 1 ⟨b2, ZE, 78⟩ (off := 0) (.agg #[.int .i64 0, .int .i64 ((yD v z).maj), .int .i64 ((yD v z).min), .int .i64 ((yD v z).pat), .string (mkS (yD v z).pre), .string (mkS (yD v z).build), .bool false]) (ZN (zC (zG (z6 (y5 ?_)))))))))
      exact zG (z6 (ZC 1 ⟨b2, #[.int .i64 0, .int .i64 ((yD v z).maj), .int .i64 ((yD v z).min), .int .i64 ((yD v z).pat), .string (mkS (yD v z).pre), .string (mkS (yD v z).build), .bool false], 78⟩ (off := 0) (.agg #[.int .i64 0, .int .i64 ((yD v z).maj), .int .i64 ((yD v z).min), .int .i64 ((yD v z).pat), .string (mkS (yD v z).pre), .string (mkS (yD v z).build), .bool false]) Tryz.results175 (fun w hO => ⟨by rw [hrel.2.2, highZ_hit (by omega) (by assumption)]; rfl, hO.below⟩)))
    | false =>
      exact Zf (yP (zP (zB (zA (Zv (.int .i64 z) (Zu (k := .i64) ((z : Int) - 1) (IntWalk.i64_in _ (by omega)) (Zv (.int .i64 ((z : Int) - 1)) (zO (xB (fun w hO => Own.sub [_] hO) (zS (m' := (z - 1 + 1).toNat) (by omega) ⟨z - 1, _, ⟨by omega, by omega, by rw [hrel.2.2, highZ_next (by omega) (by assumption)]⟩, rfl, ZU, rfl⟩))))))))))
  refine Zh h1 (ZX (y7 (zF (zN (zJ (zB (ZO (Zv (.agg Z6) ?_))))))))
  exact Zs 0 ⟨b2, ZE, 78⟩ (off := 0) (.agg Z6) (ZN (zC (ZC 0 ⟨b2, Z6, 78⟩ (off := 0) (.agg Z6) Tryz.results175 (fun w hO => ⟨by rw [hrel.2.2]; unfold vZ; rw [if_pos (by omega)]; rfl, hO.below⟩))))
theorem beh_high {c : Co} (hp : 0 ≤ c.parts ∧ c.parts ≤ 3) (h : ¬ c.parts = 3) : g7 c = vZ c.v (c.parts - 1) := by
  unfold g7 vZ
  rw [if_neg h]
  by_cases h0 : c.parts = 0
  · rw [if_pos h0, if_pos (by omega)]
  · rw [if_neg h0, if_neg (by omega)]
theorem uN (c : Co) (W : World) (hc : c.short) (hp : 0 ≤ c.parts ∧ c.parts ≤ 3) : Calls Tryz.prog 174 #[coV c] W fun e w' => e = .returned (z8 (g7 c)) ∧ Below W.heap.size W w' := by
  refine Z2 (n := 15) Tryz.func174 rfl (ZO (Zb (coV c) (fun b1 => Za (.agg ZE) (fun b2 => ZN (z7 (ZO (Zv (Zp b1 1) (Zl 1 ⟨b1, (coV c).cells, 51⟩ (off := 1) (.int .i64 c.parts) ?_))))))))
  by_cases h1 : (c.parts : Int) = 3
  · refine Zg h1 (ZY (ZO (Zv (Zp b1 2) (Zl 1 ⟨b1, (coV c).cells, 51⟩ (off := 2) (.agg (ZP c.v)) (Zv (.agg #[.int .i64 0, .int .i64 c.v.maj, .int .i64 c.v.min, .int .i64 c.v.pat, .string (mkS c.v.pre), .string (mkS c.v.build), .bool true]) (Zs 0 ⟨b2, ZE, 78⟩ (off := 0) (.agg #[.int .i64 0, .int .i64 c.v.maj, .int .i64 c.v.min, .int .i64 c.v.pat, .string (mkS c.v.pre), .string (mkS c.v.build), .bool true]) (zO (zB ?_))))))))
    exact zC (z6 (ZC 0 ⟨b2, #[.int .i64 0, .int .i64 c.v.maj, .int .i64 c.v.min, .int .i64 c.v.pat, .string (mkS c.v.pre), .string (mkS c.v.build), .bool true], 78⟩ (off := 0) (.agg #[.int .i64 0, .int .i64 c.v.maj, .int .i64 c.v.min, .int .i64 c.v.pat, .string (mkS c.v.pre), .string (mkS c.v.build), .bool true]) Tryz.results174 (fun w hO => ⟨by rw [show g7 c = ⟨0, c.v, true⟩ from if_pos h1]; rfl, hO.below⟩)))
  refine Zh h1 (ZX (ZB (ZO (Zv (Zp b1 2) (Zl 1 ⟨b1, (coV c).cells, 51⟩ (off := 2) (.agg (ZP c.v)) (Zv (Zp b1 1) (Zl 1 ⟨b1, (coV c).cells, 51⟩ (off := 1) (.int .i64 c.parts) ?_)))))))
  exact Zu (k := .i64) ((c.parts : Int) - 1) (IntWalk.i64_in _ (by omega)) (Zc (k := 175) (args := #[.agg (ZP c.v), .int .i64 ((c.parts : Int) - 1)]) (z8 (vZ c.v (c.parts - 1))) (fun w _ => chigh_any c.v (c.parts - 1) w hc (by omega)) (Zs 0 ⟨b2, ZE, 78⟩ (off := 0) (z8 (vZ c.v (c.parts - 1))) (ZN (zC (ZC 0 ⟨b2, (z8 (vZ c.v (c.parts - 1))).cells, 78⟩ (off := 0) (z8 (vZ c.v (c.parts - 1))) Tryz.results174 (fun w hO => ⟨by rw [beh_high hp h1], hO.below⟩))))))
end
section
def cpL (s t : List UInt8) : List UInt8 := if xK s t = true then s.drop t.length else s
theorem n5 : ∀ (t s : List UInt8), t.isPrefixOf s = xK s t
  | [], s => by simp [xK]
  | a :: t, [] => by simp [xK, List.isPrefixOf]
  | a :: t, b :: s => by
    have ih := n5 t s
    unfold xK at ih ⊢
    rw [List.isPrefixOf, ih, List.length_cons, List.take_succ_cons]
    by_cases h : a = b
    · subst h; simp
    · simp [h, Ne.symm h]
theorem cutpre_any (s t : List UInt8) (w : World) : Calls Tryz.prog 107 #[.string (mkS s), .string (mkS t)] w fun e w' => e = .returned (.tuple #[.string (mkS (cpL s t)), .bool (xK s t)]) ∧ Below w.heap.size w w' :=
  (Tryz.strings_CutPrefix (mkS s) (mkS t) w).mono fun e w' ⟨he, hw⟩ => by
    subst hw
    refine ⟨?_, Below.refl _ _⟩
    rw [he, mk_data, mk_data]
    unfold Lib.trimPrefix Lib.hasPrefix cpL
    rw [n5]; rfl
theorem splitK_pcs : ∀ (k : Nat) (s : List UInt8), Lib.splitK [46] 0 k s = uJ k s
  | 0, s => rfl
  | k + 1, s => by
    have hc := cutAt_cut 46 s
    have hge := Lib.index_ge s [46]
    unfold Lib.splitK uJ
    rw [← hc]
    unfold Lib.cut
    by_cases h : Lib.index s [46] = -1
    · have h2 : ¬ 0 ≤ Lib.index s [46] := by omega
      simp [h]
    · have h2 : 0 ≤ Lib.index s [46] := by omega
      simp [h, h2, splitK_pcs k]
theorem mG : ∀ (k : Nat) (s : List UInt8), s.length ≤ k → uJ k s = uJ (k + 1) s
  | 0, s, h => by
    obtain rfl := List.eq_nil_of_length_eq_zero (Nat.le_zero.1 h)
    rfl
  | k + 1, s, h => by
    have hl := cutAt_len 46 s
    rw [uJ]
    conv => rhs; rw [uJ]
    cases hq : (yG 46 s).2.2 with
    | false => rw [if_neg Bool.false_ne_true, if_neg Bool.false_ne_true]
    | true =>
      rw [hq, if_pos rfl] at hl
      rw [if_pos rfl, if_pos rfl, mG k _ (by omega)]
theorem pcsK_min (s : List UInt8) : uJ (min 3 (s.length + 1) - 1) s = uJ 2 s := by
  by_cases h0 : s.length = 0
  · rw [h0, show min 3 (0 + 1) - 1 = 0 from rfl, mG 0 s (by omega), mG 1 s (by omega)]
  · by_cases h1 : s.length = 1
    · rw [h1, show min 3 (1 + 1) - 1 = 1 from rfl, mG 1 s (by omega)]
    · rw [show min 3 (s.length + 1) - 1 = 2 by omega]
theorem splitB_pcs (k : Nat) (s : List UInt8) : Lib.splitB ⟨#[46]⟩ 0 k (mkS s) = (uJ k s).map mkS := by
  have h := Lib.splitB_data ⟨#[46]⟩ 0 k (mkS s)
  rw [mk_data, show (⟨#[46]⟩ : ByteArray).data.toList = [46] from rfl, splitK_pcs] at h
  rw [← h, List.map_map]
  refine ((List.map_congr_left fun x _ => ?_).trans (List.map_id _)).symm
  exact Lib.mk_data x
theorem split3_any (s : List UInt8) (W : World) (hs : s.length ≤ 1000000) :
    Calls Tryz.prog 59 #[.string (mkS s), .string ⟨#[46]⟩, .int .i64 0, .int .i64 3] W fun e w' => ∃ v' ob', e = .returned v' ∧ SlT v' (uJ 2 s) ob' ∧ Own [] W w' ob' := by
  have hsz := xH s
  have hI : ∀ (x : ByteArray) (c : Array Value), x.size ≤ (mkS s).size → Calls Tryz.prog 106 #[.string x, .string ⟨#[46]⟩] (W.alloc (.cells c 9)) fun e w' => e = .returned (.int .i64 (Lib.indexB x ⟨#[46]⟩)) ∧ w' = W.alloc (.cells c 9) :=
    fun x c _ => (Tryz.strings_Index_one x 46 _).mono fun e w' ⟨he, hw⟩ => ⟨by rw [he, bG]; try rfl, hw⟩
  have hC : Calls Tryz.prog 105 #[.string (mkS s), .string ⟨#[46]⟩] W fun e w' => e = .returned (.int .i64 (Lib.countB (mkS s) ⟨#[46]⟩)) ∧ w' = W :=
    (Tryz.strings_Count_one (mkS s) 46 W).mono fun e w' ⟨he, hw⟩ => ⟨by rw [he]; show _ = Ending.returned (Value.int .i64 ((Lib.count (mkS s).data.toList [46] : Nat) : Int)); rw [Lib.count_one]; rfl, hw⟩
  have c := Any.strings_genSplit_core Tryz.lays221 (by kernel_rfl) (mkS s) ⟨#[46]⟩ 0 3 (min 3 ((mkS s).size + 1)) W (by omega) (by decide) (Nat.zero_le _) hI hC (by decide) (by decide) (by rw [if_neg (by decide)]; omega)
  rw [hsz, splitB_pcs, pcsK_min] at c
  obtain ⟨hl1, hl3⟩ := pcsK_len 2 s
  have hle : (uJ 2 s).length ≤ min 3 (s.length + 1) := by
    have h := Lib.splitB_length_le ⟨#[46]⟩ 0 (min 3 (s.length + 1) - 1) (mkS s)
    rw [splitB_pcs, pcsK_min, List.length_map] at h
    omega
  rw [List.length_map] at c
  refine Calls.mono c fun e w' ⟨he, hw⟩ => ?_
  subst hw
  refine ⟨_, _, he, ⟨by rw [j8]; omega, .inr ⟨W.heap.size, min 3 (s.length + 1), _, rfl, rfl, hle, by unfold maxLen; omega, by rw [Lib.cellsOf_size (by rw [List.length_map]; exact hle), Nat.mul_one], ?_⟩⟩, (Own.start [] W).alloc _ _⟩
  unfold Lib.cellsOf
  rw [List.map_map, List.take_append_of_le_length (by rw [List.length_map]; omega), List.take_of_length_le (by rw [List.length_map]; omega)]
  rfl
end
section
theorem splitn_any (s : List UInt8) (W : World) (hs : s.length ≤ 1000000) : Calls Tryz.prog 62 #[.string (mkS s), .string ⟨#[46]⟩, .int .i64 3] W fun e w' => ∃ v' ob', e = .returned v' ∧ SlT v' (uJ 2 s) ob' ∧ Own [] W w' ob' := by
  refine Z2 (n := 11) Tryz.func62 rfl (ZO (Zv (.slice none 0 0) (ZR (Zv (.string (mkS s)) (Zv (.string ⟨#[46]⟩) (Zv (.int .i64 3) (Zr (k := 59) (args := #[.string (mkS s), .string ⟨#[46]⟩, .int .i64 0, .int .i64 3]) (fun v' L' => SlT v' (uJ 2 s) L') (fun w hO => (split3_any s w hs).mono fun e w' ⟨v', ob', k1, k2, k3⟩ => ⟨v', ob', k1, k2, by simpa using Own.joinN hO k3⟩) (fun v1 o1 hr1 => ?_))))))))
  exact Zv (v1) (ZN (zC (ZF (v1) Tryz.results62 (fun w hO => ⟨v1, o1, rfl, hr1, hO⟩))))
theorem sgo_take {s r : List UInt8} {k : Nat} {op : Int} (h : sgo s k = (op, r)) (hb : xK s (yA ((k + 1 : Nat) : Int)) = true) (hl : ((mkS (cpL s (yA ((k + 1 : Nat) : Int)))).size : Int) < ((mkS r).size : Int)) : sgo s (k + 1) = (((k + 1 : Nat) : Int), cpL s (yA ((k + 1 : Nat) : Int))) := by
  rw [xH, xH] at hl
  unfold cpL at hl ⊢
  rw [if_pos hb] at hl ⊢
  unfold sgo
  rw [h, if_pos ⟨hb, by show _ < r.length; omega⟩]
theorem sgo_not {s r : List UInt8} {k : Nat} {op : Int} (h : sgo s k = (op, r)) (hb : xK s (yA ((k + 1 : Nat) : Int)) = false) : sgo s (k + 1) = (op, r) := by
  unfold sgo
  rw [h, if_neg (fun q => by rw [hb] at q; exact Bool.false_ne_true q.1)]
theorem sgo_long {s r : List UInt8} {k : Nat} {op : Int} (h : sgo s k = (op, r)) (hb : xK s (yA ((k + 1 : Nat) : Int)) = true) (hl : ¬ ((mkS (cpL s (yA ((k + 1 : Nat) : Int)))).size : Int) < ((mkS r).size : Int)) : sgo s (k + 1) = (op, r) := by
  rw [xH, xH] at hl
  unfold cpL at hl
  rw [if_pos hb] at hl
  unfold sgo
  rw [h, if_neg (fun q => hl (by have q2 : _ < r.length := q.2; omega))]
theorem ccut_any (s : List UInt8) (W : World) (hs : s.length ≤ 1000000) : Calls Tryz.prog 60 #[.string (mkS s)] W fun e w' => e = .returned (.tuple #[.int .i64 (sgo s 8).1, .string (mkS (sgo s 8).2)]) ∧ Below W.heap.size W w' := by
  refine Z2 (n := 33) Tryz.func60 rfl (ZO (Zv (.int .i64 0) (Zv (.string ⟨#[]⟩) (ZR (Zv (.string (mkS s)) (Zv (.int .i64 7) (Zv (.string (mkS s)) ?_)))))))
  refine ZN (z7 (ZO (Zv (.int .i64 1) (ZN (zM (yN (fun L f m => ∃ (k : Nat) (op : Int) (r : List UInt8) (j : Nat → Value), (k ≤ 8 ∧ sgo s k = (op, r)) ∧ L = [] ∧ f = xZ j [(0, .string (mkS s)), (4, .int .i64 op), (5, .string (mkS r)), (6, .int .i64 ((k + 1 : Nat) : Int))] ∧ m = 8 - k) (8 - 0) ⟨0, _, _, _, ⟨by omega, rfl⟩, rfl, ZU, rfl⟩ ?_))))))
  rintro L f m ⟨k, op, r, j, hrel, rfl, rfl, rfl⟩
  have hkl := hrel.1
  refine z7 (ZO (Zv (.int .i64 ((k + 1 : Nat) : Int)) ?_))
  by_cases h1 : ((k + 1 : Nat) : Int) < 9
  · refine Zg h1 (ZY (ZB (z7 (zM (ZO (Zv (.string (mkS s)) (Zv (.int .i64 ((k + 1 : Nat) : Int)) ?_)))))))
    refine Zc (k := 108) (args := #[.int .i64 ((k + 1 : Nat) : Int)]) (.string (mkS (yA ((k + 1 : Nat) : Int)))) (fun w _ => csign_any _ w) (Zc (k := 107) (args := #[.string (mkS s), .string (mkS (yA ((k + 1 : Nat) : Int)))]) (.tuple #[.string (mkS (cpL s (yA ((k + 1 : Nat) : Int)))), .bool (xK s (yA ((k + 1 : Nat) : Int)))]) (fun w _ => cutpre_any s (yA ((k + 1 : Nat) : Int)) w) (Zv (.tuple #[.string (mkS (cpL s (yA ((k + 1 : Nat) : Int)))), .bool (xK s (yA ((k + 1 : Nat) : Int)))]) (Zv (.string (mkS (cpL s (yA ((k + 1 : Nat) : Int))))) (Zv (.bool (xK s (yA ((k + 1 : Nat) : Int)))) (Zv (.string (mkS (cpL s (yA ((k + 1 : Nat) : Int))))) (Zv (.bool (xK s (yA ((k + 1 : Nat) : Int)))) (ZR (Zv (.bool (xK s (yA ((k + 1 : Nat) : Int)))) ?_))))))))
    refine Zv (.bool (xK s (yA ((k + 1 : Nat) : Int)))) ?_
    cases h2 : xK s (yA ((k + 1 : Nat) : Int)) with
    | true =>
      refine Zv (.string (mkS (cpL s (yA ((k + 1 : Nat) : Int))))) (Zv (.int .i64 ((mkS (cpL s (yA ((k + 1 : Nat) : Int)))).size)) (Zv (.string (mkS r)) (Zv (.int .i64 ((mkS r).size)) ?_)))
      by_cases h3 : ((mkS (cpL s (yA ((k + 1 : Nat) : Int)))).size : Int) < (mkS r).size
      · refine Zg h3 (Zv Z4 (ZY (zA (Zv (.int .i64 ((k + 1 : Nat) : Int)) (Zv (.string (mkS (cpL s (yA ((k + 1 : Nat) : Int))))) (Zv (.int .i64 ((k + 1 : Nat) : Int)) (Zv (.string (mkS (cpL s (yA ((k + 1 : Nat) : Int))))) (zO (zP ?_)))))))))
        exact zB (zA (Zv (.int .i64 ((k + 1 : Nat) : Int)) (Zu (k := .i64) (((k + 1 + 1 : Nat) : Int)) (IntWalk.i64_in _ (by omega)) (Zv (.int .i64 ((k + 1 + 1 : Nat) : Int)) (zO (zS (m' := 8 - (k + 1)) (by omega) ⟨k + 1, ((k + 1 : Nat) : Int), cpL s (yA ((k + 1 : Nat) : Int)), _, ⟨by omega, sgo_take hrel.2 h2 h3⟩, rfl, ZU, rfl⟩))))))
      refine Zh h3 (Zv Z5 (ZX (yP (zP (zB (zA (Zv (.int .i64 ((k + 1 : Nat) : Int)) (Zu (k := .i64) (((k + 1 + 1 : Nat) : Int)) (IntWalk.i64_in _ (by omega)) (Zv (.int .i64 ((k + 1 + 1 : Nat) : Int)) ?_)))))))))
      exact zO (zS (m' := 8 - (k + 1)) (by omega) ⟨k + 1, op, r, _, ⟨by omega, sgo_long hrel.2 h2 h3⟩, rfl, ZU, rfl⟩)
    | false =>
      refine Zk (Zk (Zk (Zk (Zk (Zv Z5 (ZX (yP (zP (zB ?_)))))))))
      exact zA (Zv (.int .i64 ((k + 1 : Nat) : Int)) (Zu (k := .i64) (((k + 1 + 1 : Nat) : Int)) (IntWalk.i64_in _ (by omega)) (Zv (.int .i64 ((k + 1 + 1 : Nat) : Int)) (zO (zS (m' := 8 - (k + 1)) (by omega) ⟨k + 1, op, r, _, ⟨by omega, sgo_not hrel.2 h2⟩, rfl, ZU, rfl⟩)))))
  refine Zh h1 (ZX (y7 (zF (zN (zJ (zB (ZO (Zv (.int .i64 op) ?_))))))))
  exact Zv (.string (mkS r)) (Zv (.int .i64 op) (Zv (.string (mkS r)) (ZN (zC (ZG (.int .i64 op) (.string (mkS r)) Tryz.results60 (fun w hO => ⟨by have hk8 : k = 8 := (by omega); subst hk8; rw [hrel.2], hO.below⟩))))))
theorem nth_ok {v : Ver} (h : v.may = true) {k : Nat} (hk : k < 3) : yH (xQ v.maj v.min v.pat k) = true := by
  obtain ⟨m1, m2, m3⟩ := vG h
  have hj : k = 0 ∨ k = 1 ∨ k = 2 := by omega
  rcases hj with rfl | rfl | rfl
  · exact m1
  · exact m2
  · exact m3
theorem nth_in {v : Ver} (h : v.may = true) {k : Nat} (hk : k < 3) : -9223372036854775808 ≤ xQ v.maj v.min v.pat k ∧ xQ v.maj v.min v.pat k ≤ 9223372036854775807 := by
  have q := nth_ok h hk
  unfold yH at q; simp at q; omega
theorem nums_next (v : Ver) {k : Nat} (hk : k < 3) : yF v (k + 1) = yF v k ++ [Lib.itoa (xQ v.maj v.min v.pat k)] := by
  have hj : k = 0 ∨ k = 1 ∨ k = 2 := by omega
  rcases hj with rfl | rfl | rfl <;> rfl
theorem own_dropP {M : List Nat} {W w : World} {x y z : Blk} {A : List Blk} (h : Own M W w ([x, y, z] ++ A ++ [])) : Own M W w (y :: z :: A) := h.sublist (by rw [List.append_nil]; exact List.sublist_append_right [x] _)
theorem star_ne {l : List (List UInt8)} : yC 46 (l ++ [[42]]) ≠ [] := fun e => by
  have h := last_join [] l
  rw [show ([] : List UInt8) ++ [42] = [42] from rfl, e] at h
  cases h
theorem nums_ne {c : Co} (h : c.may = true) (hn : ¬ c.op = 9) : yC 46 (yF c.v c.parts.toNat) ≠ [] := fun e => by
  obtain ⟨d, r, e2, hd⟩ := bX h hn
  unfold Co.rest at e2
  rw [if_neg hn, e, List.nil_append] at e2
  unfold fE at e2
  split at e2
  · cases e2
  · injection e2 with e3 _
    rw [← e3] at hd
    revert hd; decide
theorem text_pre2 {c : Co} (h9 : ¬ c.op = 9) (hp : ¬ c.v.pre = []) : yA c.op ++ yC 46 (yF c.v c.parts.toNat) ++ ([45] ++ c.v.pre) = c.text := by
  rw [← text_pre h9 hp]; simp
theorem star_text2 {c : Co} (h9 : c.op = 9) : yA c.op ++ yC 46 (yF c.v c.parts.toNat ++ [[42]]) = c.text := by
  rw [← star_text h9, h9]; rfl
theorem star_pre {c : Co} (h : c.may = true) (h9 : c.op = 9) : c.v.pre = [] := by
  obtain ⟨_, _, _, k9, _, hp, _⟩ := Co.facts h
  have := k9 h9
  exact hp.resolve_left (by omega)
theorem pE (c : Co) (W : World) (hc : c.short) (ht : HasTab W) : Calls Tryz.prog 64 #[coV c] W fun e w' => e = .returned (.string (mkS c.print)) ∧ Below W.heap.size W w' := by
  refine Z2 (n := 50) Tryz.func64 rfl (ZO (Zb (coV c) (fun b1 => Zv (.string ⟨#[]⟩) (ZN (z7 (ZO (Zl 0 ⟨b1, (coV c).cells, 51⟩ (off := 0) (coV c) (Zc (k := 73) (args := #[coV c]) (.bool c.may) (fun w _ => tL c w hc) ?_))))))))
  cases h1 : c.may with
  | true =>
    have hcm := h1
    have hcv := (Co.facts hcm).2.1
    have hpn := parts_nat hcm
    have hpr := hpn.2
    have hpc := hpn.1
    refine Zv Z5 (ZX (ZB (ZO (Zv (.slice none 0 0) (ZN (z7 ?_))))))
    refine z7 (j0 (by kernel_rfl) (ZT 0 [] _ (Zp b1 2) (zD (zD zH)) rfl (ZL 1 [] _ 0 ⟨b1, (coV c).cells, 51⟩ (off := 2) (.agg (ZP c.v)) (zD (zD zH)) rfl rfl (ZT 3 [] _ (Zp b1 1) (zD (zD zH)) rfl (ZL 4 [] _ 0 ⟨b1, (coV c).cells, 51⟩ (off := 1) (.int .i64 c.parts) (zD (zD zH)) rfl rfl (ZT 7 [] _ (.int .i64 0) (zD (zD zH)) rfl (Zz 2 (kA _ (k := 111) (args := #[.agg (ZP c.v)]) (fun v' L' => ∃ ob', L' = ob' ++ ([] ++ ([⟨b1, (coV c).cells, 51⟩])) ∧ ∃ g, v' = .slice (some ⟨g, 0, none⟩) 3 3 ∧ ob' = [⟨g, vV c.v, 3⟩]) rfl (by kernel_rfl) (fun _ => by kernel_rfl) (fun w hO => (mP c.v w).mono fun e w' ⟨v', ob', k1, k2, k3⟩ => ⟨v', _, k1, ⟨ob', rfl, k2⟩, Own.joinN hO k3⟩) (fun v' L' ⟨ob', e, _⟩ w hO => by subst e; exact Own.sub [] (Own.sub ob' hO)) (fun v1 L2 hv2 => ?_)))))))))
    obtain ⟨o1, rfl, hr1⟩ := hv2
    obtain ⟨g1, rfl, ho1⟩ := hr1
    refine gK (L' := (o1 ++ ([] : List Blk)) ++ ([⟨b1, (coV c).cells, 51⟩])) (List.append_assoc _ _ _).symm (vS 5 (o1 ++ ([] : List Blk)) _ (.slice (some ⟨g1, 0, none⟩) c.parts.toNat 3) rfl (by kernel_rfl) (by kernel_rfl) (by kernel_rfl) (zD (zD zH)) (by kernel_rfl) (fun w _ => fL (b := g1) (off := 0) (n := 3) (c := 3) (k := .i64) (j := c.parts) (e := 3) (sz := 1) rfl (by kernel_rfl) (by kernel_rfl) (by kernel_rfl) (by kernel_rfl) (by omega) (by omega) w) (ZT 6 (o1 ++ ([] : List Blk)) _ (.int .i64 (c.parts.toNat : Int)) (zD (zD zH)) rfl (ZZ (zB (zM (gW (L' := ⟨g1, vV c.v, 3⟩ :: ⟨b1, (coV c).cells, 51⟩ :: []) (by rw [ho1]; rfl) (yN (fun L f m => ∃ (k : Nat) (va : Value) (oa : List Blk) (j : Nat → Value), (k ≤ c.parts.toNat ∧ SlT va (yF c.v k) oa) ∧ L = ⟨g1, vV c.v, 3⟩ :: ⟨b1, (coV c).cells, 51⟩ :: oa ∧ f = xZ j [(1, Zp b1 0), (3, va), (15, .slice (some ⟨g1, 0, none⟩) c.parts.toNat 3), (16, .int .i64 (c.parts.toNat : Int)), (17, .int .i64 (k : Int))] ∧ m = c.parts.toNat - k) (c.parts.toNat - 0) ⟨0, _, [], _, ⟨Nat.zero_le _, Sl.nil _ _⟩, rfl, ZU, rfl⟩ ?_)))))))
    rintro L f m ⟨k, va, oa, j, hrel, rfl, rfl, rfl⟩
    have hkl := hrel.1
    refine z7 (zA ?_)
    by_cases h2 : (k : Int) < (c.parts.toNat : Int)
    · refine Zg h2 (ZN (z7 (Zt (ZB (z7 (zM (ZO (zV (Zp g1 (0 + k)) (by kernel_rfl) (ZV (b := g1) (off := 0) (n := c.parts.toNat) (c := 3) (k := .i64) (j := (k : Int)) (e := 3) (sz := 1)) ?_))))))))
      refine jP 0 ⟨g1, vV c.v, 3⟩ (off := 0 + k) (.int .i64 (xQ c.v.maj c.v.min c.v.pat k)) (by kernel_rfl) rfl (by kernel_rfl) (by kernel_rfl) (by rw [Nat.zero_add]; exact rd_nums c.v k (by omega)) (Zv (.int .i64 (xQ c.v.maj c.v.min c.v.pat k)) (ZN (zA (Zv (va) (Zv (.int .i64 (xQ c.v.maj c.v.min c.v.pat k)) (Zc (k := 112) (args := #[.int .i64 (xQ c.v.maj c.v.min c.v.pat k)]) (.string (mkS (Lib.itoa (xQ c.v.maj c.v.min c.v.pat k)))) (fun w hO => digits_mk _ (nth_in hcv (show k < 3 by omega)).1 (nth_in hcv (show k < 3 by omega)).2 w (ht.on hO.below)) (vC 9 #[.string (mkS (Lib.itoa (xQ c.v.maj c.v.min c.v.pat k)))] (by kernel_rfl) rfl (fun _ => by kernel_rfl) (fun b2 => ?_))))))))
      obtain ⟨i0, z0, e1, e2, e3, e4, e5⟩ := fH
      have hlk : (yF c.v k).length ≤ 3 := by have := uK c.v k; omega
      refine kB (L' := [⟨b2, #[.string (mkS (Lib.itoa (xQ c.v.maj c.v.min c.v.pat k)))], 9⟩, ⟨g1, vV c.v, 3⟩, ⟨b1, (coV c).cells, 51⟩] ++ oa ++ []) (List.append_nil _).symm (gB (sz := 1) (by kernel_rfl) rfl Tryz.underlying58 e1 e2 e3 e4 (by kernel_rfl) hrel.2 (a := ⟨b2, 0, none⟩) (m := 1) (c := 1) (news := qQ [Lib.itoa (xQ c.v.maj c.v.min c.v.pat k)]) (by kernel_rfl) rfl (fun w hO j u hj => ?_) (str_cells _) (by unfold maxLen; omega) (by rw [e5]; omega) (fun va2 oa2 hva0 => ?_))
      · rw [yQ, cell_of_row w b2 (0 + j) (qQ [Lib.itoa (xQ c.v.maj c.v.min c.v.pat k)]).toArray 9 _ (hO.held ⟨b2, (qQ [Lib.itoa (xQ c.v.maj c.v.min c.v.pat k)]).toArray, 9⟩ (List.mem_append_left _ (List.mem_append_left _ (List.mem_cons_self ..))))]; simpa using hj
      have hva2 : SlT va2 ((yF c.v k) ++ [Lib.itoa (xQ c.v.maj c.v.min c.v.pat k)]) oa2 := hva0.to (by rw [List.length_append]; rfl) (by unfold qQ; rw [List.map_append])
      exact Zv (va2) (zO (zP (zB (zA (Zu (k := .i64) (((k + 1 : Nat) : Int)) (IntWalk.i64_in _ (by omega)) (Zv (.int .i64 ((k + 1 : Nat) : Int)) (zO (xB (L' := ⟨g1, vV c.v, 3⟩ :: ⟨b1, (coV c).cells, 51⟩ :: oa2) (fun w hO => own_dropP hO) (zS (m' := c.parts.toNat - (k + 1)) (by omega) ⟨k + 1, va2, oa2, _, ⟨by omega, by rw [nums_next c.v (by omega)]; exact hva2⟩, rfl, ZU, rfl⟩)))))))))
    have hkq : k = c.parts.toNat := by omega
    have hvk : SlT va (yF c.v c.parts.toNat) oa := hkq ▸ hrel.2
    refine Zh h2 (ZN (z7 (Zf (y7 (zF (zN (zJ (zB (z7 (z7 ?_))))))))))
    refine zA (Zv (Zp b1 0) (Zl 1 ⟨b1, (coV c).cells, 51⟩ (off := 0) (.int .i64 c.op) ?_))
    by_cases h3 : (c.op : Int) = 9
    · refine Zg h3 (ZY (zA (Zv (va) (vC 9 #[.string ⟨#[42]⟩] (by kernel_rfl) rfl (fun _ => by kernel_rfl) (fun b2 => ?_)))))
      obtain ⟨i0, z0, e1, e2, e3, e4, e5⟩ := fH
      have hlk : (yF c.v c.parts.toNat).length ≤ 3 := by have := uK c.v c.parts.toNat; omega
      refine kB (L' := [⟨b2, #[.string ⟨#[42]⟩], 9⟩, ⟨g1, vV c.v, 3⟩, ⟨b1, (coV c).cells, 51⟩] ++ oa ++ []) (List.append_nil _).symm (gB (sz := 1) (by kernel_rfl) rfl Tryz.underlying58 e1 e2 e3 e4 (by kernel_rfl) hvk (a := ⟨b2, 0, none⟩) (m := 1) (c := 1) (news := qQ [[42]]) (by kernel_rfl) rfl (fun w hO j u hj => ?_) (str_cells _) (by unfold maxLen; omega) (by rw [e5]; omega) (fun va2 oa2 hva0 => ?_))
      · rw [yQ, cell_of_row w b2 (0 + j) (qQ [[42]]).toArray 9 _ (hO.held ⟨b2, (qQ [[42]]).toArray, 9⟩ (List.mem_append_left _ (List.mem_append_left _ (List.mem_cons_self ..))))]; simpa using hj
      have hva2 : SlT va2 ((yF c.v c.parts.toNat) ++ [[42]]) oa2 := hva0.to (by rw [List.length_append]; rfl) (by unfold qQ; rw [List.map_append])
      refine Zv (va2) (zO (xB (L' := ⟨g1, vV c.v, 3⟩ :: ⟨b1, (coV c).cells, 51⟩ :: oa2) (fun w hO => own_dropP hO) (zB (ZO (Zv (Zp b1 0) (Zl 1 ⟨b1, (coV c).cells, 51⟩ (off := 0) (.int .i64 c.op) (Zc (k := 108) (args := #[.int .i64 c.op]) (.string (mkS (yA c.op))) (fun w _ => csign_any c.op w) (Zv (va2) (Zc (k := 113) (args := #[va2, .int .u8 46]) (.string (mkS (yC 46 (yF c.v c.parts.toNat ++ [[42]])))) (fun w hO => join_any va2 _ 46 w (SlT.readsT hva2 hO (fun x hx => by simp [hx])) (Nat.le_trans (jZ hcv _) (by decide)) (by rw [List.length_append]; have := uK c.v c.parts.toNat; simp; omega) star_ne) (zV (.string (mkS ((yA c.op) ++ (yC 46 (yF c.v c.parts.toNat ++ [[42]]))))) (by kernel_rfl) (yY (a := (yA c.op)) (b := (yC 46 (yF c.v c.parts.toNat ++ [[42]]))) rfl (by kernel_rfl) (by kernel_rfl) (by have q1 := u0 c.op; have q2 := qY hcv c.parts.toNat; have q4 := jZ hcv c.parts.toNat; have q3 := hc.1; first | omega | (simp only [List.length_append, List.length_cons, List.length_nil]; omega))) ?_))))))))))
      refine Zv (.string (mkS ((yA c.op) ++ (yC 46 (yF c.v c.parts.toNat ++ [[42]]))))) (ZN (z7 (ZO (Zv (Zp b1 2) (Zv (Zp b1 5) (Zl 1 ⟨b1, (coV c).cells, 51⟩ (off := 5) (.string (mkS c.v.pre)) (zV Z5 (by kernel_rfl) (xC (a := c.v.pre) (b := ([])) rfl (by kernel_rfl) (by kernel_rfl) (decide_eq_true (star_pre hcm h3))) (zO (zB ?_)))))))))
      exact Zf (ZB (ZO (Zv (.string (mkS ((yA c.op) ++ (yC 46 (yF c.v c.parts.toNat ++ [[42]]))))) (Zv (.string (mkS ((yA c.op) ++ (yC 46 (yF c.v c.parts.toNat ++ [[42]]))))) (ZN (zC (ZF (.string (mkS ((yA c.op) ++ (yC 46 (yF c.v c.parts.toNat ++ [[42]]))))) Tryz.results64 (fun w hO => ⟨by rw [qF hcm, ← star_text2 h3], hO.below⟩))))))))
    refine Zh h3 (ZX (ZB (ZO (Zv (Zp b1 0) (Zl 1 ⟨b1, (coV c).cells, 51⟩ (off := 0) (.int .i64 c.op) (Zc (k := 108) (args := #[.int .i64 c.op]) (.string (mkS (yA c.op))) (fun w _ => csign_any c.op w) (Zv (va) ?_)))))))
    refine Zc (k := 113) (args := #[va, .int .u8 46]) (.string (mkS (yC 46 (yF c.v c.parts.toNat)))) (fun w hO => join_any va _ 46 w (SlT.readsT hvk hO (fun x hx => by simp [hx])) (Nat.le_trans (qY hcv _) (by decide)) (Nat.le_trans (uK _ _) (by decide)) (nums_ne hcm h3)) (zV (.string (mkS ((yA c.op) ++ (yC 46 (yF c.v c.parts.toNat))))) (by kernel_rfl) (yY (a := (yA c.op)) (b := (yC 46 (yF c.v c.parts.toNat))) rfl (by kernel_rfl) (by kernel_rfl) (by have q1 := u0 c.op; have q2 := qY hcv c.parts.toNat; have q4 := jZ hcv c.parts.toNat; have q3 := hc.1; first | omega | (simp only [List.length_append, List.length_cons, List.length_nil]; omega))) (Zv (.string (mkS ((yA c.op) ++ (yC 46 (yF c.v c.parts.toNat))))) (ZN (z7 (ZO (Zv (Zp b1 2) (Zv (Zp b1 5) (Zl 1 ⟨b1, (coV c).cells, 51⟩ (off := 5) (.string (mkS c.v.pre)) ?_))))))))
    by_cases h4 : (c.v.pre : List UInt8) = []
    · refine zV Z5 (by kernel_rfl) (xC (a := c.v.pre) (b := ([])) rfl (by kernel_rfl) (by kernel_rfl) (decide_eq_true (h4))) (ZX (ZB (ZO (Zv (.string (mkS ((yA c.op) ++ (yC 46 (yF c.v c.parts.toNat))))) (Zv (.string (mkS ((yA c.op) ++ (yC 46 (yF c.v c.parts.toNat))))) (zO (zB ?_)))))))
      exact zC (ZF (.string (mkS ((yA c.op) ++ (yC 46 (yF c.v c.parts.toNat))))) Tryz.results64 (fun w hO => ⟨by rw [qF hcm, ← text_bare h3 h4], hO.below⟩))
    refine zV Z4 (by kernel_rfl) (xC (a := c.v.pre) (b := ([])) rfl (by kernel_rfl) (by kernel_rfl) (decide_eq_false (h4))) (ZY (zA (Zv (.string (mkS ((yA c.op) ++ (yC 46 (yF c.v c.parts.toNat))))) (Zv (Zp b1 2) (Zv (Zp b1 5) (Zl 1 ⟨b1, (coV c).cells, 51⟩ (off := 5) (.string (mkS c.v.pre)) (zV (.string (mkS ([45] ++ c.v.pre))) (by kernel_rfl) (yY (a := [45]) (b := c.v.pre) rfl (by kernel_rfl) (by kernel_rfl) (by have q1 := u0 c.op; have q2 := qY hcv c.parts.toNat; have q4 := jZ hcv c.parts.toNat; have q3 := hc.1; first | omega | (simp only [List.length_append, List.length_cons, List.length_nil]; omega))) (zV (.string (mkS (((yA c.op) ++ (yC 46 (yF c.v c.parts.toNat))) ++ ([45] ++ c.v.pre)))) (by kernel_rfl) (yY (a := ((yA c.op) ++ (yC 46 (yF c.v c.parts.toNat)))) (b := ([45] ++ c.v.pre)) rfl (by kernel_rfl) (by kernel_rfl) (by have q1 := u0 c.op; have q2 := qY hcv c.parts.toNat; have q4 := jZ hcv c.parts.toNat; have q3 := hc.1; first | omega | (simp only [List.length_append, List.length_cons, List.length_nil]; omega))) (Zv (.string (mkS (((yA c.op) ++ (yC 46 (yF c.v c.parts.toNat))) ++ ([45] ++ c.v.pre)))) ?_)))))))))
    exact ZR (Zv (.string (mkS (((yA c.op) ++ (yC 46 (yF c.v c.parts.toNat))) ++ ([45] ++ c.v.pre)))) (Zv (.string (mkS (((yA c.op) ++ (yC 46 (yF c.v c.parts.toNat))) ++ ([45] ++ c.v.pre)))) (ZN (zC (ZF (.string (mkS (((yA c.op) ++ (yC 46 (yF c.v c.parts.toNat))) ++ ([45] ++ c.v.pre)))) Tryz.results64 (fun w hO => ⟨by rw [qF hcm, ← text_pre2 h3 h4], hO.below⟩))))))
  | false =>
    refine Zv Z4 (ZY (ZO (Zv (.string ⟨#[]⟩) (ZN (zC (z6 (ZF (.string ⟨#[]⟩) Tryz.results64 ?_)))))))
    exact fun w hO => ⟨by unfold Co.print; simp [h1]; rfl, hO.below⟩
end
section
theorem unshare_any (A : Option Addr) (cap : Nat) (l : List Sp) (ob : List Blk) (W : World) (hv : SlS (.slice A l.length cap) l ob) (hO : Own (ob.map Blk.b) W W ob) (hn : l.length ≤ 1000000) (hl : yU l) :
    Calls Tryz.prog 132 #[.slice A l.length cap] W fun e w' => ∃ ob', e = .returned (.slice A l.length cap) ∧ SlS (.slice A l.length cap) l ob' ∧ Own (ob.map Blk.b) W w' ob' := by
  unfold SlS at hv ⊢
  refine mQ (n := 39) hO Tryz.func132 rfl (by kernel_rfl) (by kernel_rfl) (ZO (Zv (.slice none 0 0) (ZN (z7 (ZO (Zv (.slice A l.length cap) (Zv (.int .i64 (l.length : Int)) (Zv (.int .i64 0) ?_))))))))
  refine ZN (zM (gW (L' := ob ++ []) (List.append_nil _).symm (yN (fun L f m => ∃ (k : Nat) (oc : List Blk) (j : Nat → Value), (k ≤ l.length ∧ Sl 80 14 (.slice A l.length cap) l.length (l.flatMap yJ) oc) ∧ L = oc ++ [] ∧ f = xZ j [(0, .slice A l.length cap), (5, .slice A l.length cap), (6, .int .i64 (l.length : Int)), (7, .int .i64 (k : Int))] ∧ m = l.length - k) (l.length - 0) ⟨0, ob, _, ⟨Nat.zero_le _, hv⟩, rfl, ZU, rfl⟩ ?_)))
  rintro L f m ⟨k, oc, j, hrel, rfl, rfl, rfl⟩
  have hkl := hrel.1
  refine z7 (zA ?_)
  by_cases h1 : (k : Int) < (l.length : Int)
  · have hk : k < l.length := by omega
    obtain ⟨g, cur, hA, rfl, hcap, hmax, hsz, hcur⟩ := hrel.2.block (by omega)
    obtain ⟨s, hs⟩ : ∃ s, l[k] = s := ⟨_, rfl⟩
    have hsk : s.short := hs ▸ hl l[k] (List.getElem_mem hk)
    have hset : l.set k s = l := by rw [← hs]; exact List.set_getElem_self _
    refine kB (L' := [⟨g, cur, 80⟩]) (List.append_nil _) (Zg h1 (ZN (z7 (Zt (ZB (z7 (zM (z7 (zA ?_)))))))))
    refine Zv (.int .i64 (k : Int)) (Zv (.int .i64 (k : Int)) (ZR (Zv (.slice A l.length cap) (Zv (.int .i64 (k : Int)) (zV (Zp g (k * 14)) (by kernel_rfl) (vL (b := g) (off := 0) (c := cap) (n := l.length) (k := .i64) (j := (k : Int)) (e := 80) (sz := 14) rfl (by kernel_rfl) hA (by kernel_rfl) (by kernel_rfl) (by kernel_rfl) (by omega) (by omega) (by show 0 + k * 14 = k * 14; omega)) (Zv (Zp g (k * 14)) (zO (zB ?_))))))))
    refine ZO (Zv (Zp g (k * 14)) (Zv (Zp g (k * 14)) (Zv (Zp g (k * 14)) (Zv (Zp g (k * 14 + 0)) (Zv (Zp g (k * 14 + 1)) (Zv (Zp g (k * 14 + 4)) (jP 0 ⟨g, cur, 80⟩ (off := k * 14 + 4) (.string (mkS s.lo.v.pre)) (by kernel_rfl) rfl (by kernel_rfl) (by kernel_rfl) (x4 zY hcur k 4 (by omega) (by omega) _ (by rw [hs]; kernel_rfl)) (Zc (k := 65) (args := #[.string (mkS s.lo.v.pre)]) (.string (mkS s.lo.v.pre)) (fun w _ => uD (mkS s.lo.v.pre) w (by rw [xH]; have := hsk.1.1; omega)) (Zv (Zp g (k * 14)) (Zv (Zp g (k * 14 + 0)) ?_))))))))))
    refine Zv (Zp g (k * 14 + 1)) (Zv (Zp g (k * 14 + 4)) (pS 0 ⟨g, cur, 80⟩ (off := k * 14 + 4) (.string (mkS s.lo.v.pre)) 1 (by kernel_rfl) rfl rfl (by kernel_rfl) (by kernel_rfl) (by kernel_rfl) (by kernel_rfl) (by kernel_rfl) (by show k * 14 + 4 + 1 ≤ cur.size; omega) (by kernel_rfl) ?_))
    have hse2 := dN zY hcur k 4 (by omega) (Value.string (mkS s.lo.v.pre)).cells s (show 4 + 1 ≤ 14 by decide) (by rw [hs]; rfl)
    rw [hset] at hse2
    obtain ⟨cur2, hc2⟩ : ∃ x, x = kF cur (k * 14 + 4) (Value.string (mkS s.lo.v.pre)).cells := ⟨_, rfl⟩
    rw [← hc2] at hse2
    refine kB (L' := [⟨g, cur2, 80⟩]) (by rw [hc2]; rfl) ?_
    have hcur2 := hse2.1
    have hsz2 : cur2.size = cap * 14 := by rw [hse2.2]; exact hsz
    refine ZN (zA (Zv (Zp g (k * 14)) (Zv (Zp g (k * 14)) (Zv (Zp g (k * 14)) (Zv (Zp g (k * 14 + 7)) (Zv (Zp g (k * 14 + 8)) (Zv (Zp g (k * 14 + 11)) (jP 0 ⟨g, cur2, 80⟩ (off := k * 14 + 11) (.string (mkS s.hi.v.pre)) (by kernel_rfl) rfl (by kernel_rfl) (by kernel_rfl) (x4 zY hcur2 k 11 (by omega) (by omega) _ (by rw [hs]; kernel_rfl)) (Zc (k := 65) (args := #[.string (mkS s.hi.v.pre)]) (.string (mkS s.hi.v.pre)) (fun w _ => uD (mkS s.hi.v.pre) w (by rw [xH]; have := hsk.2.1; omega)) (Zv (Zp g (k * 14)) ?_))))))))))
    refine Zv (Zp g (k * 14 + 7)) (Zv (Zp g (k * 14 + 8)) (Zv (Zp g (k * 14 + 11)) (pS 0 ⟨g, cur2, 80⟩ (off := k * 14 + 11) (.string (mkS s.hi.v.pre)) 1 (by kernel_rfl) rfl rfl (by kernel_rfl) (by kernel_rfl) (by kernel_rfl) (by kernel_rfl) (by kernel_rfl) (by show k * 14 + 11 + 1 ≤ cur2.size; omega) (by kernel_rfl) ?_)))
    have hse3 := dN zY hcur2 k 11 (by omega) (Value.string (mkS s.hi.v.pre)).cells s (show 11 + 1 ≤ 14 by decide) (by rw [hs]; rfl)
    rw [hset] at hse3
    obtain ⟨cur3, hc3⟩ : ∃ x, x = kF cur2 (k * 14 + 11) (Value.string (mkS s.hi.v.pre)).cells := ⟨_, rfl⟩
    rw [← hc3] at hse3
    refine kB (L' := [⟨g, cur3, 80⟩]) (by rw [hc3]; rfl) ?_
    have hcur3 := hse3.1
    have hsz3 : cur3.size = cap * 14 := by rw [hse3.2]; exact hsz2
    exact zO (zP (zB (zA (Zu (k := .i64) (((k + 1 : Nat) : Int)) (IntWalk.i64_in _ (by omega)) (Zv (.int .i64 ((k + 1 : Nat) : Int)) (zO (zS (m' := l.length - (k + 1)) (by omega) ⟨k + 1, [⟨g, cur3, 80⟩], _, ⟨by omega, by rw [kJ zY], .inr ⟨g, cap, _, by rw [hA], rfl, hcap, hmax, hsz3, hcur3⟩⟩, rfl, ZU, rfl⟩)))))))
  refine Zh h1 (ZN (z7 (Zf (y7 (zF (zN (zJ (zB (z7 (zA ?_))))))))))
  exact Zv (.slice A l.length cap) (Zv (.slice A l.length cap) (ZN (zC (ZF (.slice A l.length cap) Tryz.results132 (fun w hO => ⟨oc, rfl, hrel.2, by simpa using hO⟩)))))
end
section
theorem mR {l : List Sp} {c d : Cu} (hl : yU l) (hc : c.short) (hd : d.short) : yU (gY l c d) := by
  unfold gY
  split
  · intro x hx
    rcases List.mem_append.1 hx with h | h
    · exact hl x h
    · obtain rfl : x = _ := by simpa using h
      exact ⟨hc, hd⟩
  · exact hl
theorem add_any (A : Option Addr) (cap : Nat) (l : List Sp) (ob : List Blk) (c d : Cu) (W : World) (hv : SlS (.slice A l.length cap) l ob) (hO : Own (ob.map Blk.b) W W ob) (hn : l.length ≤ 1000000) (hl : yU l) (hc : c.short) (hd : d.short) :
    Calls Tryz.prog 131 #[.slice A l.length cap, z8 c, z8 d] W fun e w' => ∃ v' ob', e = .returned v' ∧ SlS v' (gY l c d) ob' ∧ Own (ob.map Blk.b) W w' ob' := by
  unfold SlS at hv ⊢
  refine mQ (n := 19) hO Tryz.func131 rfl (by kernel_rfl) (by kernel_rfl) (ZO (Zb (z8 c) (fun b1 => Zb (z8 d) (fun b2 => Zv (.slice none 0 0) (ZR (Zl 1 ⟨b1, (z8 c).cells, 78⟩ (off := 0) (z8 c) (Zl 0 ⟨b2, (z8 d).cells, 78⟩ (off := 0) (z8 d) ?_)))))))
  refine Zv (.agg (ZJ2 c d)) (Za (.agg Z0) (fun b3 => Zs 0 ⟨b3, Z0, 80⟩ (off := 0) (.agg (ZJ2 c d)) (ZN (z7 (ZO (Zl 0 ⟨b3, (ZJ2 c d), 80⟩ (off := 0) (.agg (ZJ2 c d)) (Zc (k := 139) (args := #[.agg (ZJ2 c d)]) (.bool ((Sp.mk c d).may)) (fun w _ => wW ⟨c, d⟩ w ⟨hc, hd⟩) ?_)))))))
  cases h1 : (Sp.mk c d).may with
  | true =>
    refine Zv Z5 (ZX (ZB (ZO (Zv (.slice A l.length cap) (Zl 0 ⟨b3, (ZJ2 c d), 80⟩ (off := 0) (.agg (ZJ2 c d)) (vC 80 (ZJ2 c d) (by kernel_rfl) rfl (fun _ => by kernel_rfl) (fun b4 => kB (L' := [⟨b4, (ZJ2 c d), 80⟩, ⟨b3, (ZJ2 c d), 80⟩, ⟨b2, (z8 d).cells, 78⟩, ⟨b1, (z8 c).cells, 78⟩] ++ ob ++ []) (by rw [List.append_nil]; rfl) ?_)))))))
    obtain ⟨i, z, e1, e2, e3, e4, e5⟩ := kO
    refine gB (sz := 14) (by kernel_rfl) rfl Tryz.underlying29 e1 e2 e3 e4 (by kernel_rfl) hv (a := ⟨b4, 0, none⟩) (m := 1) (c := 1) (news := yJ ⟨c, d⟩) (by kernel_rfl) rfl (fun w hO j u hj => ?_) (xM _) (by unfold maxLen; omega) (by rw [e5]; omega) (fun v' ob' hv' => ?_)
    · rw [yQ, cell_of_row w b4 (0 + j) (yJ ⟨c, d⟩).toArray 80 _ (hO.held ⟨b4, (yJ ⟨c, d⟩).toArray, 80⟩ (List.mem_append_left _ (List.mem_append_left _ (List.mem_cons_self ..))))]; simpa using hj
    refine Zv (v') (ZN (zC (ZF (v') Tryz.results131 (fun w hO => ⟨v', ob', rfl, by unfold gY; rw [h1, if_pos rfl, List.length_append, List.flatMap_append]; simpa using hv', Own.take hO (fun x hx => List.mem_append_left _ (List.mem_append_right _ hx)) ?_⟩))))
    have := hO.apart; rw [List.append_nil, List.map_append, List.nodup_append] at this; exact this.2.1
  | false =>
    refine Zv Z4 (ZY (ZO (Zv (.slice A l.length cap) (Zv (.slice A l.length cap) (ZN (zC (z6 ?_)))))))
    exact ZF (.slice A l.length cap) Tryz.results131 (fun w hO => ⟨_, ob, rfl, by unfold gY; rw [h1, if_neg (by decide)]; exact hv, Own.sub [_, _, _] hO⟩)
theorem add_call {M : List Nat} {W w : World} {v : Value} {l : List Sp} {E ob : List Blk} (c d : Cu) (hO : Own M W w (E ++ ob)) (hv : SlS v l ob) (hn : l.length ≤ 1000000) (hl : yU l) (hc : c.short) (hd : d.short) :
    Calls Tryz.prog 131 #[v, z8 c, z8 d] w fun e w' => ∃ v' L', e = .returned v' ∧ (∃ ob', L' = E ++ ob' ∧ SlS v' (gY l c d) ob') ∧ Own M W w' L' := by
  obtain ⟨A, cap, rfl⟩ := hv.form
  refine (add_any A cap l ob c d w hv (Own.lend (hO.sub E)) hn hl hc hd).mono fun e w' ⟨v', ob', h1, h2, h3⟩ => ⟨v', E ++ ob', h1, ⟨ob', rfl, h2⟩, ?_⟩
  have hp : Own M W w (ob ++ E) := hO.perm List.perm_append_comm
  exact (Own.join hp h3).perm List.perm_append_comm
theorem uT {M : List Nat} {W w : World} {v : Value} {l : List Sp} {E ob : List Blk} (hO : Own M W w (E ++ ob)) (hv : SlS v l ob) (hn : l.length ≤ 1000000) (hl : yU l) :
    Calls Tryz.prog 132 #[v] w fun e w' => ∃ v' L', e = .returned v' ∧ (∃ ob', L' = E ++ ob' ∧ SlS v' l ob') ∧ Own M W w' L' := by
  obtain ⟨A, cap, rfl⟩ := hv.form
  refine (unshare_any A cap l ob w hv (Own.lend (hO.sub E)) hn hl).mono fun e w' ⟨ob', h1, h2, h3⟩ => ⟨_, E ++ ob', h1, ⟨ob', rfl, h2⟩, ?_⟩
  have hp : Own M W w (ob ++ E) := hO.perm List.perm_append_comm
  exact (Own.join hp h3).perm List.perm_append_comm
theorem d8 (k : Int) : (zT k).short := ⟨Nat.zero_le 1000000, Nat.zero_le 1000000⟩
structure NotB (l : List Sp) (k : Nat) (v : Value) (out : List Sp) (f : Cu) (ob : List Blk) : Prop where
  le : k ≤ l.length
  sl : SlS v out ob
  len : out.length ≤ k
  short : yU out
  fs : f.short
  eq : (l.take k).foldl tB ([], zT (-1)) = (out, f)
theorem NotB.start (l : List Sp) : NotB l 0 (.slice none 0 0) [] (zT (-1)) [] := ⟨Nat.zero_le _, Sl.nil _ _, Nat.le_refl _, fun s hs => by simp at hs, d8 _, by rw [List.take_zero]; rfl⟩
theorem NotB.step {l : List Sp} {k : Nat} {v v2 : Value} {out : List Sp} {f : Cu} {ob ob2 : List Blk} (h : NotB l k v out f ob) (hk : k < l.length) {s : Sp} (hs : l[k] = s) (hss : s.short) (h2 : SlS v2 (gY out f s.lo) ob2) : NotB l (k + 1) v2 (gY out f s.lo) s.hi ob2 :=
  ⟨by omega, h2, by have := h.len; have := mS out f s.lo; omega, mR h.short h.fs hss.1, hss.2, by rw [List.take_succ_eq_append_getElem hk, List.foldl_append, h.eq, hs]; rfl⟩
theorem not4_any (A : Option Addr) (cap : Nat) (l : List Sp) (W : World) (hv : Reads yJ W W.heap.size A l) (hn : l.length ≤ 300000) (hl : yU l) :
    Calls Tryz.prog 135 #[.slice A l.length cap] W fun e w' => ∃ v' ob', e = .returned v' ∧ SlS v' (if zL l then v8 l else []) ob' ∧ Own [] W w' ob' := by
  refine Z2 (n := 30) Tryz.func135 rfl (ZO (Zv (.slice none 0 0) (ZN (z7 (ZO (Zv (.slice A l.length cap) (Zc (k := 129) (args := #[.slice A l.length cap]) (.bool (zL l)) (fun w hO => jV A cap l w (hv.on hO.below hO.size) (by omega) hl) ?_)))))))
  cases h1 : zL l with
  | true =>
    refine Zv Z5 (ZX (ZB (ZO (Zv (.slice none 0 0) (ZN (z7 ?_))))))
    refine zA (Zv (.agg Z1) (Za (.agg ZE) (fun b1 => Zs 0 ⟨b1, ZE, 78⟩ (off := 0) (.agg Z1) (ZN (z7 (ZO (Zv (.slice A l.length cap) (Zv (.int .i64 (l.length : Int)) (Zv (.int .i64 0) ?_)))))))))
    refine ZN (zM (yN (fun L f m => ∃ (k : Nat) (v : Value) (out : List Sp) (fc : Cu) (ob : List Blk) (j : Nat → Value), (NotB l k v out fc ob) ∧ L = ⟨b1, (z8 fc).cells, 78⟩ :: ob ∧ f = xZ j [(3, v), (4, Zp b1 0), (11, .slice A l.length cap), (12, .int .i64 (l.length : Int)), (13, .int .i64 (k : Int))] ∧ m = l.length - k) (l.length - 0) ⟨0, _, [], zT (-1), [], _, NotB.start l, rfl, ZU, rfl⟩ ?_))
    rintro L f m ⟨k, v, out, fc, ob, j, hrel, rfl, rfl, rfl⟩
    have hkl := hrel.le; have hlen := hrel.len
    refine z7 (zA ?_)
    by_cases h2 : (k : Int) < (l.length : Int)
    · have hk : k < l.length := by omega
      obtain ⟨b, off, hA, hlt, hcell⟩ := hv (by omega)
      obtain ⟨s, hs⟩ : ∃ s, l[k] = s := ⟨_, rfl⟩
      have hsk : s.short := hs ▸ hl l[k] (List.getElem_mem hk)
      refine Zg h2 (ZN (z7 (Zt (ZB (z7 (zM (ZO (zV (Zp b (off + k * 14)) (by kernel_rfl) (ZA (b := b) (off := off) (c := cap) (n := l.length) (k := .i64) (j := (k : Int)) (e := 80) (sz := 14) hA) ?_))))))))
      refine Zo (yO s) (a := ⟨b, off + k * 14, none⟩) (fun w hO => zX zY (fun j u h => (hO.below.cell (p := ⟨b, off + j, none⟩) hlt).trans (hcell j u h)) k 0 hk (by omega) _ (by rw [hs]; kernel_rfl)) (Za (.agg Z0) (fun b2 => Zs 0 ⟨b2, Z0, 80⟩ (off := 0) (yO s) (ZR (Zv (v) (Zl 1 ⟨b1, (z8 fc).cells, 78⟩ (off := 0) (.agg (ZJ fc)) (Zv (Zp b2 0) (Zl 0 ⟨b2, (yO s).cells, 80⟩ (off := 0) (.agg (ZJ s.lo)) (Zr (k := 131) (args := #[v, z8 fc, z8 s.lo]) (fun v' L' => ∃ ob', L' = [⟨b2, (yO s).cells, 80⟩, ⟨b1, (z8 fc).cells, 78⟩] ++ ob' ∧ SlS v' (gY out fc s.lo) ob') (fun w hO => add_call (E := [⟨b2, (yO s).cells, 80⟩, ⟨b1, (z8 fc).cells, 78⟩]) fc s.lo hO hrel.sl (by omega) hrel.short hrel.fs hsk.1) (fun v2 L2 hv2 => ?_)))))))))
      obtain ⟨ob2, rfl, hs2⟩ := hv2
      refine Zv (v2) (ZN (zA (Zv (Zp b2 7) (Zl 0 ⟨b2, (yO s).cells, 80⟩ (off := 7) (.agg (ZJ s.hi)) (Zs 1 ⟨b1, (z8 fc).cells, 78⟩ (off := 0) (.agg (ZJ s.hi)) (zO (zP (zB (zA (Zu (k := .i64) (((k + 1 : Nat) : Int)) (IntWalk.i64_in _ (by omega)) ?_))))))))))
      exact Zv (.int .i64 ((k + 1 : Nat) : Int)) (zO (xB (fun w hO => Own.sub [_] hO) (zS (m' := l.length - (k + 1)) (by omega) ⟨k + 1, v2, gY out fc s.lo, s.hi, ob2, _, hrel.step hk hs hsk hs2, rfl, ZU, rfl⟩)))
    refine Zh h2 (ZN (z7 (Zf (y7 (zF (zN (zJ (zB (z7 (zA ?_))))))))))
    refine Zv (v) (Zl 0 ⟨b1, (z8 fc).cells, 78⟩ (off := 0) (.agg (ZJ fc)) (Zv (.agg Z6) (Zr (k := 131) (args := #[v, z8 fc, z8 (zT 1)]) (fun v' L' => ∃ ob', L' = [⟨b1, (z8 fc).cells, 78⟩] ++ ob' ∧ SlS v' (gY out fc (zT 1)) ob') (fun w hO => add_call (E := [⟨b1, (z8 fc).cells, 78⟩]) fc (zT 1) hO hrel.sl (by omega) hrel.short hrel.fs (d8 1)) (fun v3 L2 hv2 => ?_))))
    obtain ⟨ob3, rfl, hs3⟩ := hv2
    refine Zr (k := 132) (args := #[v3]) (fun v' L' => ∃ ob', L' = [⟨b1, (z8 fc).cells, 78⟩] ++ ob' ∧ SlS v' (gY out fc (zT 1)) ob') (fun w hO => uT (E := [⟨b1, (z8 fc).cells, 78⟩]) hO hs3 (by have := mS out fc (zT 1); omega) (mR hrel.short hrel.fs (d8 1))) (fun v4 L2 hv2 => ?_)
    obtain ⟨ob4, rfl, hs4⟩ := hv2
    exact Zv (v4) (ZN (zC (ZF (v4) Tryz.results135 (fun w hO => ⟨v4, ob4, rfl, by rw [if_pos rfl, show v8 l = gY out fc (zT 1) from by rw [← notG_eq h1]; unfold notG; have he := hrel.eq; rw [List.take_of_length_le (by omega)] at he; rw [he]]; exact hs4, Own.sub [_] hO⟩))))
  | false =>
    refine Zv Z4 (ZY (ZO (Zv (.slice none 0 0) (ZN (zC (z6 (ZF (.slice none 0 0) Tryz.results135 ?_)))))))
    exact fun w hO => ⟨_, [], rfl, by rw [if_neg (by decide)]; exact Sl.nil _ _, by simpa using hO⟩
end
section
abbrev VSp := {s : Sp // s.may = true ∧ s.short}
instance : Inhabited VSp := ⟨⟨⟨zT (-1), zT 1⟩, by decide, d8 _, d8 _⟩⟩
def uB (x : VSp) : List Value := yJ x.1
def cfV (x y : VSp) : Int := zQ x.1.lo y.1.lo
theorem swoV : Go.Sort.SWO (ltOf cfV) := by
  have ml : ∀ x : VSp, x.1.lo.may = true := fun x => (y9 x.2.1).1
  refine ⟨fun x => ?_, fun x y z h1 h2 => ?_, fun x y z h1 h2 => ?_⟩
  · unfold ltOf cfV; rw [g0]; rfl
  · unfold ltOf cfV at *
    rw [decide_eq_true_eq] at *
    exact xT (ml x) (ml y) (ml z) h1 h2
  · unfold ltOf cfV at *
    rw [decide_eq_false_iff_not] at *
    have := v6 (ml z) (ml y) (ml x) (jY h2) (jY h1)
    have h3 := xI (a := x.1.lo) (b := z.1.lo)
    omega
theorem make1_any (s t : Sp) (W : World) (hs : s.short) (ht : t.short) :
    Calls Tryz.prog 179 #[yO s, yO t] W fun e w' => e = .returned (.int .i64 (zQ s.lo t.lo)) ∧ Below W.heap.size W w' := by
  refine Z2 (n := 10) Tryz.func179 rfl (ZO (Zb (yO s) (fun b1 => Zb (yO t) (fun b2 => Zv (.int .i64 0) (ZR (Zv (Zp b1 0) (Zl 1 ⟨b1, (yO s).cells, 80⟩ (off := 0) (.agg (ZJ s.lo)) ?_)))))))
  exact Zv (Zp b2 0) (Zl 0 ⟨b2, (yO t).cells, 80⟩ (off := 0) (.agg (ZJ t.lo)) (Zc (k := 173) (args := #[.agg (ZJ s.lo), .agg (ZJ t.lo)]) (.int .i64 (zQ s.lo t.lo)) (fun w _ => hJ s.lo t.lo w hs.1 ht.1) (Zv (.int .i64 (zQ s.lo t.lo)) (ZN (zC (ZF (.int .i64 (zQ s.lo t.lo)) Tryz.results179 (fun w hO => ⟨rfl, hO.below⟩)))))))
theorem lays4 (blk off size : Nat) (w : World) : CmpLays Tryz.prog 179 #[] uB 14 cfV blk off size w := fun m os dk _ x y =>
  (make1_any x.1 y.1 _ x.2.2 y.2.2).mono fun e w' ⟨h1, h2⟩ => ⟨h1, h2.asGrow⟩
theorem flatK_list (d : Array VSp) : (Go.Sort.flatK uB 14 d).toList = d.toList.flatMap uB := by
  apply List.ext_getElem?
  intro t
  have hlen : (d.toList.flatMap uB).length = d.size * 14 := by rw [kJ (g := uB) (sz := 14) (fun x : VSp => zY x.1)]; simp
  by_cases ht : t < d.size * 14
  · have hk : t / 14 < d.toList.length := by simp; omega
    have h1 : (Go.Sort.flatK uB 14 d).toList[t]? = some (Go.Sort.flatK uB 14 d)[t]! := by
      rw [getElem!_pos _ t (by simpa using ht), Array.getElem?_toList, Array.getElem?_eq_getElem (by simpa using ht)]
    have h2 := flat_at (g := uB) (sz := 14) (fun x : VSp => zY x.1) d.toList (t / 14) hk
    have h3 : (d.toList.flatMap uB)[t]? = (uB d.toList[t / 14])[t % 14]? := by
      have e : t = t / 14 * 14 + t % 14 := by omega
      have hm : t % 14 < 14 := Nat.mod_lt _ (by decide)
      rw [← h2, List.getElem?_take, if_pos hm, List.getElem?_drop, ← e]
    rw [h1, h3, Go.Sort.get_flatK uB 14 d t ht]
    have hd : d[t / 14]! = d.toList[t / 14] := by rw [getElem!_pos d (t / 14) (by simpa using hk)]; simp
    have hlt : t % 14 < (uB d.toList[t / 14]).length := by rw [show (uB d.toList[t / 14]).length = 14 from zY _]; exact Nat.mod_lt _ (by decide)
    rw [hd, List.getElem?_eq_getElem hlt, getElem!_pos (uB d.toList[t / 14]) (t % 14) hlt]
  · rw [List.getElem?_eq_none (by simpa using Nat.le_of_not_lt ht), List.getElem?_eq_none (by rw [hlen]; omega)]
theorem take_put (cur F : Array Value) (h : F.size ≤ cur.size) : (Go.Sort.putCells id 0 F cur).toList.take F.size = F.toList := by
  apply List.ext_getElem?
  intro j
  by_cases hj : j < F.size
  · rw [List.getElem?_take_of_lt hj, Array.getElem?_toList]
    simp [Go.Sort.putCells, hj, show j < cur.size by omega]
  · rw [List.getElem?_take_eq_none (by omega), List.getElem?_eq_none (by simp; omega)]
theorem size_put (cur F : Array Value) : (Go.Sort.putCells id 0 F cur).size = cur.size := by simp [Go.Sort.putCells]
theorem perm_val {l m : List VSp} (h : l.Perm m) : (l.map (·.1)).Perm (m.map (·.1)) := h.map _
theorem sorted_of (l : List VSp) (h : ∀ i j (hi : i < j) (hj : j < l.length), ¬ zQ l[j].1.lo (l[i]'(by omega)).1.lo < 0) : fD (l.map (·.1)) := by
  induction l with
  | nil => trivial
  | cons s r ih =>
    refine ⟨fun t ht => ?_, ih fun i j hi hj => h (i + 1) (j + 1) (by omega) (by simpa using hj)⟩
    obtain ⟨y, hy, rfl⟩ := List.mem_map.1 ht
    obtain ⟨j, hj, rfl⟩ := List.mem_iff_getElem.1 hy
    exact jY (h 0 (j + 1) (by omega) (by simpa using hj))
theorem lift_list (l : List Sp) (hm : ∀ s ∈ l, s.may = true ∧ s.short) : ∃ m : List VSp, m.map (·.1) = l := by
  induction l with
  | nil => exact ⟨[], rfl⟩
  | cons s r ih =>
    obtain ⟨m, e⟩ := ih (fun t ht => hm t (List.mem_cons_of_mem _ ht))
    exact ⟨⟨s, hm s (List.mem_cons_self ..)⟩ :: m, by rw [List.map_cons, e]⟩
theorem sort_any (g cap : Nat) (cur : Array Value) (l : List Sp) (W : World) (hm : ∀ s ∈ l, s.may = true ∧ s.short) (hO : Own [g] W W [⟨g, cur, 80⟩]) (hcap : l.length ≤ cap) (hmax : cap ≤ maxLen) (hsz : cur.size = cap * 14) (hcur : cur.toList.take (l.length * 14) = l.flatMap yJ) (hn : l.length ≤ 1000000) :
    Calls Tryz.prog 178 #[.slice (some ⟨g, 0, none⟩) l.length cap, .func (.func 179) #[] #[]] W fun e w' =>
      e = .returned (.tuple #[]) ∧ ∃ l' cur', l'.Perm l ∧ fD l' ∧ cur'.size = cap * 14 ∧ cur'.toList.take (l.length * 14) = l'.flatMap yJ ∧ Own [g] W w' [⟨g, cur', 80⟩] := by
  obtain ⟨m, rfl⟩ := lift_list l hm
  have hlen : (m.map (·.1)).length = m.toArray.size := by simp
  have hg : W.heap[g]? = some (.cells cur 80) := hO.held _ List.mem_cons_self
  have hglt : g < W.heap.size := hO.lt (x := ⟨g, cur, 80⟩) List.mem_cons_self
  have hflat : (m.map (·.1)).flatMap yJ = m.flatMap uB := by rw [List.flatMap_map]; rfl
  have hH : Go.Sort.HoldsK uB 14 W g 0 m.toArray := by
    intro j hj
    have hj' : j < m.length * 14 := by simpa using hj
    have e : (Go.Sort.flatK uB 14 m.toArray).toList[j]? = cur.toList[j]? := by
      rw [flatK_list, show m.toArray.toList = m from by simp, ← hflat, ← hcur, List.getElem?_take, if_pos (by simpa using hj')]
    have e2 : cur[j]? = some (Go.Sort.flatK uB 14 m.toArray)[j]! := by
      rw [← Array.getElem?_toList, ← e, Array.getElem?_toList, Array.getElem?_eq_getElem hj, getElem!_pos _ j hj]
    refine ⟨?_, by simp [World.frozen?, hg]⟩
    simp only [World.cell?, hg, Nat.zero_add]
    simpa using e2
  have hcon := Tryz.slices_SortFunc 14 Tryz.isAgg80 Tryz.sizeOf80 uB (fun x => zY x.1) (fun x v hv => xM x.1 v hv) cfV swoV 179 #[] g 0 cap m.toArray W
    (enters_of Tryz.func179 (by kernel_rfl) rfl) (lays4 g 0 m.toArray.size W) hH hglt (by simp at hlen ⊢; rw [List.length_map] at hn; omega)
  rw [hlen]
  change Calls Tryz.prog 178 _ _ _ at hcon
  refine hcon.mono fun e w' ⟨he, d', n, os, hp, hs, hw⟩ => ⟨he, d'.toList.map (·.1), Go.Sort.putCells id 0 (Go.Sort.flatK uB 14 d') cur, ?_, ?_, ?_, ?_, ?_⟩
  · have h2 := hp.2.2
    have hsz2 := hp.1
    rw [show d'.extract 0 m.toArray.size = d' from by rw [← hsz2]; simp, show m.toArray.extract 0 m.toArray.size = m.toArray from by simp] at h2
    have := perm_val h2
    simpa using this
  · refine sorted_of _ fun i j hi hj => ?_
    have hj' : j < d'.size := by simpa using hj
    have := hs i j (Nat.zero_le _) hi (by rw [← hp.1]; exact hj')
    unfold ltOf cfV at this
    rw [decide_eq_false_iff_not, getElem!_pos d' j hj', getElem!_pos d' i (by omega)] at this
    simpa using this
  · rw [size_put]; exact hsz
  · have hF : (Go.Sort.flatK uB 14 d').size = m.toArray.size * 14 := by rw [Go.Sort.size_flatK, hp.1]
    have := take_put cur (Go.Sort.flatK uB 14 d') (by rw [hF, hsz, ← hlen]; exact Nat.mul_le_mul_right _ hcap)
    rw [hF, flatK_list] at this
    rw [this, List.flatMap_map]; rfl
  · subst hw
    have hheap : ∀ k, k < W.heap.size → (sortWorldK uB 14 W g 0 n d' os).heap[k]? = (Go.Sort.putRowK uB 14 (Go.Sort.ahead W n) g 0 d').heap[k]? := fun k hk => by
      show ((Go.Sort.putRowK uB 14 (Go.Sort.ahead W n) g 0 d').heap ++ os)[k]? = _
      rw [Array.getElem?_append_left (by rw [Go.Sort.size_putRowK]; exact hk)]
    refine ⟨rfl, rfl, rfl, ?_, Nat.le_add_right _ _, fun k hk hne => ?_, fun x hx => ?_, fun x hx => .inr (by rw [List.mem_singleton] at hx; rw [hx]; exact List.mem_singleton_self _), by simp⟩
    · show W.heap.size ≤ ((Go.Sort.putRowK uB 14 (Go.Sort.ahead W n) g 0 d').heap ++ os).size
      rw [Array.size_append, Go.Sort.size_putRowK]; exact Nat.le_add_right _ _
    · rw [hheap k hk]
      have hne' : g ≠ k := fun e => hne (by simp [e])
      simp [Go.Sort.putRowK, Go.Sort.putRow, Go.Sort.mapBlock, Go.Sort.ahead, Array.getElem?_modify, hne']
    · obtain rfl : x = _ := by simpa using hx
      show (sortWorldK uB 14 W g 0 n d' os).heap[g]? = _
      rw [hheap g hglt]
      simp [Go.Sort.putRowK, Go.Sort.putRow, Go.Sort.mapBlock, Go.Sort.ahead, Array.getElem?_modify, hg, Go.Sort.onCells]
end
section
theorem clone4_any (A : Option Addr) (cap : Nat) (l : List Sp) (W : World) (hv : Reads yJ W W.heap.size A l) (hn : l.length ≤ 1000000) :
    Calls Tryz.prog 177 #[.slice A l.length cap] W fun e w' => ∃ v' ob', e = .returned v' ∧ SlS v' l ob' ∧ Own [] W w' ob' := by
  cases A with
  | none =>
    obtain rfl : l = [] := by
      cases l with
      | nil => rfl
      | cons x r => obtain ⟨b, off, e, _⟩ := hv (by simp); cases e
    refine Z2 (n := 8) Tryz.func177 rfl (ZO (Zv (.slice none 0 0) (ZN (z7 (ZO (Zv (.slice none (([] : List Sp).length) cap) (Zv Z4 (zO ?_))))))))
    exact zB (Zt (ZO (Zv (.slice none 0 0) (ZN (zC (z6 (ZF (.slice none 0 0) Tryz.results177 (fun w hO => ⟨_, [], rfl, Sl.nil _ _, by simpa using hO⟩))))))))
  | some a =>
    refine Z2 (n := 8) Tryz.func177 rfl (ZO (Zv (.slice none 0 0) (ZN (z7 (ZO (Zv (.slice (some a) l.length cap) (Zv Z5 (zO ?_))))))))
    refine zB (Zf (ZB (ZO (vC 80 #[] (by kernel_rfl) rfl (fun _ => by kernel_rfl) (fun b1 => Zv (.slice (some a) l.length cap) ?_)))))
    obtain ⟨i, z, e1, e2, e3, e4, e5⟩ := kO
    exact kB (L' := [] ++ [⟨b1, #[], 80⟩] ++ []) rfl (j9 (E := []) (ob := [⟨b1, #[], 80⟩]) (L0 := []) (sz := 14) (l := l) (A := some a) (c := cap) (n := 0) (xs := []) zY (by kernel_rfl) rfl Tryz.underlying29 e1 e2 e3 e4 (by kernel_rfl) ⟨rfl, .inr ⟨b1, 0, #[], rfl, rfl, Nat.le_refl _, Nat.zero_le _, rfl, rfl⟩⟩ (by kernel_rfl) (fun w hO => hv.on hO.below hO.size) xM (by unfold maxLen; omega) (by rw [e5]; omega) (fun va oa hva => Zv (va) (ZN (zC (ZF (va) Tryz.results177 (fun w hO => ⟨va, oa, rfl, hva.to (by simp) (by simp), by simpa using hO⟩))))))
theorem sort_call {M : List Nat} {W w : World} {v : Value} {l : List Sp} {E ob : List Blk} (hO : Own M W w (E ++ ob)) (hv : SlS v l ob) (hn : l.length ≤ 1000000) (hm : ∀ s ∈ l, s.may = true ∧ s.short) :
    Calls Tryz.prog 178 #[v, .func (.func 179) #[] #[]] w fun e w' => ∃ v' L', e = .returned v' ∧ (∃ l' ob', v' = .tuple #[] ∧ L' = E ++ ob' ∧ l'.Perm l ∧ fD l' ∧ SlS v l' ob') ∧ Own M W w' L' := by
  obtain ⟨A, cap, rfl⟩ := hv.form
  by_cases h0 : l.length = 0
  · obtain rfl : l = [] := List.eq_nil_of_length_eq_zero h0
    have h := Tryz.slices_SortFunc_none (α := Nat) A cap (.func (.func 179) #[] #[]) w
    change Calls Tryz.prog 178 _ _ _ at h
    exact h.mono fun e w' ⟨h1, h2⟩ => ⟨_, E ++ ob, h1, ⟨[], ob, rfl, rfl, List.Perm.refl _, trivial, hv⟩, h2 ▸ hO⟩
  · unfold SlS at hv
    obtain ⟨g, cur, rfl, rfl, hcap, hmax, hsz, hcur⟩ := hv.block (by omega)
    refine (sort_any g cap cur l w hm (Own.lend (hO.sub E)) hcap hmax hsz hcur hn).mono fun e w' ⟨h1, l', cur', h2, h3, h4, h5, h6⟩ => ⟨_, E ++ [⟨g, cur', 80⟩], h1, ⟨l', _, rfl, rfl, h2, h3, ?_⟩, ?_⟩
    · unfold SlS
      have hl := h2.length_eq
      rw [← hl] at h5 hcap ⊢
      exact ⟨by rw [kJ zY], .inr ⟨g, cap, cur', rfl, rfl, hcap, hmax, h4, h5⟩⟩
    · have hp : Own M W w ([⟨g, cur, 80⟩] ++ E) := hO.perm List.perm_append_comm
      exact (Own.join hp h6).perm List.perm_append_comm
structure Merged (d : List Sp) (k : Nat) (V : Option Addr) (c : Nat) (out : List Sp) (ob : List Blk) : Prop where
  le : k ≤ d.length
  sl : Sl 80 14 (.slice V out.length c) out.length (out.flatMap yJ) ob
  len : out.length ≤ k
  short : yU out
  eq : (d.take k).foldl jH [] = out
theorem Merged.start (d : List Sp) : Merged d 0 none 0 [] [] := ⟨Nat.zero_le _, Sl.nil _ _, Nat.le_refl _, fun s hs => by simp at hs, by rw [List.take_zero]; rfl⟩
theorem mstep_app {out : List Sp} {s : Sp} (h : ∀ t ∈ out.getLast?, zQ t.hi s.lo < 0) : jH out s = out ++ [s] := by
  unfold jH
  cases hg : out.getLast? with
  | none => have : out = [] := by simpa using hg
            subst this; rfl
  | some t => dsimp only; rw [if_pos (h t hg)]
theorem mstep_set {out : List Sp} {s t : Sp} (h0 : 0 < out.length) (ht : out[out.length - 1]'(by omega) = t) (h : ¬ zQ t.hi s.lo < 0) : jH out s = out.set (out.length - 1) ⟨t.lo, yZ t.hi s.hi⟩ := by
  have hg : out.getLast? = some t := by rw [List.getLast?_eq_getElem?, List.getElem?_eq_getElem (by omega), ht]
  unfold jH
  rw [hg]
  dsimp only
  rw [if_neg h, List.dropLast_eq_take, List.set_eq_take_append_cons_drop, if_pos (by omega), List.drop_of_length_le (by omega)]
theorem mstep_short {out : List Sp} {s : Sp} (ho : yU out) (hs : s.short) : yU (jH out s) := by
  unfold jH
  split
  · intro x hx; obtain rfl : x = _ := by simpa using hx
    exact hs
  · rename_i t ht
    split
    · intro x hx
      rcases List.mem_append.1 hx with h | h
      · exact ho x h
      · obtain rfl : x = _ := by simpa using h
        exact hs
    · intro x hx
      rcases List.mem_append.1 hx with h | h
      · exact ho x (List.dropLast_subset _ h)
      · obtain rfl : x = _ := by simpa using h
        exact ⟨(ho t (List.mem_of_getLast? ht)).1, dW (ho t (List.mem_of_getLast? ht)).2 hs.2⟩
theorem Merged.step {d : List Sp} {k : Nat} {V V2 : Option Addr} {c c2 : Nat} {out out2 : List Sp} {ob ob2 : List Blk} (h : Merged d k V c out ob) (hk : k < d.length) {s : Sp} (hs : d[k] = s) (hss : s.short) (he : jH out s = out2) (h2 : Sl 80 14 (.slice V2 out2.length c2) out2.length (out2.flatMap yJ) ob2) : Merged d (k + 1) V2 c2 out2 ob2 :=
  ⟨by omega, h2, by have := h.len; have := mstep_len out s; rw [he] at this; omega, he ▸ mstep_short h.short hss, by rw [List.take_succ_eq_append_getElem hk, List.foldl_append, h.eq, hs]; exact he⟩
end
section
theorem mJ (A : Option Addr) (cap : Nat) (l : List Sp) (W : World) (hv : Reads yJ W W.heap.size A l) (hn : l.length ≤ 300000) (hl : yU l) :
    Calls Tryz.prog 136 #[.slice A l.length cap] W fun e w' => ∃ v' ob', e = .returned (.tuple #[v', .bool (xO l)]) ∧ SlS v' (if xO l then vX l else []) ob' ∧ Own [] W w' ob' := by
  refine Z2 (n := 69) Tryz.func136 rfl (ZO (Zv (.slice none 0 0) (Zv Z5 (ZN (z7 (ZO (Zv (.slice A l.length cap) (Zv (.int .i64 (l.length : Int)) ?_))))))))
  refine Zv (.int .i64 0) (ZN (zM (yN (fun L f m => ∃ (k : Nat) (j : Nat → Value), (k ≤ l.length ∧ xO (l.take k) = true) ∧ L = [] ∧ f = xZ j [(0, .slice A l.length cap), (11, .slice A l.length cap), (12, .int .i64 (l.length : Int)), (13, .int .i64 (k : Int))] ∧ m = l.length - k) (l.length - 0) ⟨0, _, ⟨Nat.zero_le _, by rw [List.take_zero]; rfl⟩, rfl, ZU, rfl⟩ ?_)))
  rintro L f m ⟨k, j, hrel, rfl, rfl, rfl⟩
  have hkl := hrel.1
  refine z7 (zA ?_)
  by_cases h1 : (k : Int) < (l.length : Int)
  · have hk : k < l.length := by omega
    obtain ⟨b, off, hA, hlt, hcell⟩ := hv (by omega)
    obtain ⟨s, hs⟩ : ∃ s, l[k] = s := ⟨_, rfl⟩
    have hsk : s.short := hs ▸ hl _ (List.getElem_mem _)
    refine Zg h1 (ZN (z7 (Zt (ZB (z7 (zM (ZO (zV (Zp b (off + k * 14)) (by kernel_rfl) (ZA (b := b) (off := off) (c := cap) (n := l.length) (k := .i64) (j := (k : Int)) (e := 80) (sz := 14) hA) ?_))))))))
    refine Zo (yO s) (a := ⟨b, off + k * 14, none⟩) (fun w hO => zX zY (fun j u h => (hO.below.cell (p := ⟨b, off + j, none⟩) hlt).trans (hcell j u h)) k 0 hk (by omega) _ (by rw [hs]; kernel_rfl)) (Za (.agg Z0) (fun b1 => Zs 0 ⟨b1, Z0, 80⟩ (off := 0) (yO s) (ZR (Zl 0 ⟨b1, (yO s).cells, 80⟩ (off := 0) (yO s) (Zc (k := 139) (args := #[yO s]) (.bool s.may) (fun w _ => wW s w hsk) ?_)))))
    cases h2 : s.may with
    | true =>
      refine Zv Z5 (ZX (yP (zP (zB (zA (Zu (k := .i64) (((k + 1 : Nat) : Int)) (IntWalk.i64_in _ (by omega)) (Zv (.int .i64 ((k + 1 : Nat) : Int)) (zO ?_))))))))
      have hnext : xO (l.take (k + 1)) = true := allMay_take l k hk hrel.2 (by rw [hs]; assumption)
      exact xB (fun w hO => Own.sub [_] hO) (zS (m' := l.length - (k + 1)) (by omega) ⟨k + 1, _, ⟨by omega, hnext⟩, rfl, ZU, rfl⟩)
    | false =>
      refine Zv Z4 (ZY (ZO (Zv (.slice none 0 0) (Zv Z5 (ZN (zC (zG ?_)))))))
      exact z6 (y5 (zG (z6 (ZG (.slice none 0 0) Z5 Tryz.results136 (fun w hO => ⟨_, [], by rw [fB l k hk (by rw [hs]; assumption)], by rw [fB l k hk (by rw [hs]; assumption), if_neg (by decide)]; exact Sl.nil _ _, Own.take hO (by simp) (by simp)⟩)))))
  have hall : xO l = true := by have h := hrel.2; rwa [List.take_of_length_le (by omega)] at h
  refine Zh h1 (ZN (z7 (Zf (y7 (zF (zN (zJ (zB (z7 (zA ?_))))))))))
  refine Zv (.slice A l.length cap) (Zr (k := 177) (args := #[.slice A l.length cap]) (fun v' L' => SlS v' l L') (fun w hO => (clone4_any A cap l w (hv.on hO.below hO.size) (by omega)).mono fun e w' ⟨v', ob', h1, h2, h3⟩ => ⟨v', ob', h1, h2, by simpa using Own.joinN hO h3⟩) (fun cv oc hcv => ?_))
  obtain ⟨B, capb, rfl⟩ := hcv.form
  refine Zv (.slice B l.length capb) (ZR (Zv (.slice B l.length capb) (Zr (k := 178) (args := #[.slice B l.length capb, .func (.func 179) #[] #[]]) (fun v' L' => ∃ l', v' = .tuple #[] ∧ l'.Perm l ∧ fD l' ∧ SlS (.slice B l.length capb) l' L') (fun w hO => (sort_call (E := []) hO hcv (by omega) (fun s hs => ⟨allMay_mem.1 hall s hs, hl s hs⟩)).mono fun e w' ⟨v', L', k1, ⟨l', ob', k2, k3, k4, k5, k6⟩, k7⟩ => ⟨v', L', k1, ⟨l', k2, k4, k5, by subst k3; exact k6⟩, k7⟩) (fun v5 od hv5 => ?_))))
  obtain ⟨d, rfl, hdp, hdso, hds⟩ := hv5
  have hdl : d.length = l.length := hdp.length_eq
  have hdm : ∀ s ∈ d, s.may = true ∧ s.short := fun s hs => ⟨allMay_mem.1 hall s (hdp.mem_iff.1 hs), hl s (hdp.mem_iff.1 hs)⟩
  unfold SlS at hds
  rw [← hdl] at hds ⊢
  refine kB (L' := od ++ []) (by simp) (ZR (Zv (.slice none 0 0) (ZN (z7 (ZO (Zv (.slice B d.length capb) ?_))))))
  refine Zv (.int .i64 (d.length : Int)) (Zv (.int .i64 0) (ZN (zM (yN (fun L f m => ∃ (k : Nat) (V : Option Addr) (q : Nat) (cv : Nat) (out : List Sp) (ob : List Blk) (j : Nat → Value), (q = out.length ∧ Merged d k V cv out ob) ∧ L = od ++ ob ∧ f = xZ j [(7, .slice V q cv), (25, .slice B d.length capb), (26, .int .i64 (d.length : Int)), (27, .int .i64 (k : Int))] ∧ m = d.length - k) (d.length - 0) ⟨0, none, 0, 0, [], [], _, ⟨rfl, Merged.start d⟩, rfl, ZU, rfl⟩ ?_))))
  rintro L f m ⟨k, V, q, cv, out, ob, j, hrel, rfl, rfl, rfl⟩
  obtain ⟨hq, hrel⟩ := hrel; subst hq; have hkl := hrel.le; have hlen := hrel.len
  refine z7 (zA ?_)
  by_cases h3 : (k : Int) < (d.length : Int)
  · have hk : k < d.length := by omega
    obtain ⟨gb, curb, hB, rfl, hcapb, hmaxb, hszb, hcurb⟩ := Sl.block hds (by omega)
    obtain ⟨s, hs⟩ : ∃ s, d[k] = s := ⟨_, rfl⟩
    have hsk : s.short := (hdm s (hs ▸ List.getElem_mem _)).2
    refine Zg h3 (ZN (z7 (Zt (ZB (z7 (zM (ZO (zV (Zp gb (k * 14)) (by kernel_rfl) (vL (b := gb) (off := 0) (c := capb) (n := d.length) (k := .i64) (j := (k : Int)) (e := 80) (sz := 14) rfl (by kernel_rfl) hB (by kernel_rfl) (by kernel_rfl) (by kernel_rfl) (by omega) (by omega) (by show 0 + k * 14 = k * 14; omega)) ?_))))))))
    refine jP 0 ⟨gb, curb, 80⟩ (off := k * 14) (yO s) (by kernel_rfl) rfl (by kernel_rfl) (by kernel_rfl) (x4 zY hcurb k 0 (by omega) (by omega) _ (by rw [hs]; kernel_rfl)) (Za (.agg Z0) (fun b1 => Zs 0 ⟨b1, Z0, 80⟩ (off := 0) (yO s) (ZR (Zv (.slice V out.length cv) (Zv (.int .i64 (out.length : Int)) (Zu (k := .i64) (((out.length : Int) : Int) - 1) (IntWalk.i64_in _ (by omega)) (Zv (.int .i64 (((out.length : Int) : Int) - 1)) (zO ?_))))))))
    refine zB (z7 (z7 (qM (by kernel_rfl) (by kernel_rfl) (Zw (.int .i64 (((out.length : Int) : Int) - 1)) ?_))))
    by_cases h4 : (((out.length : Int) : Int) - 1 : Int) < 0
    · refine Zi h4 (Zw Z4 (Zj (Zj (Zj (Zj (Zj (Zj (Zj (Zj (Zj (Zw Z4 ?_)))))))))))
      refine kP (zB (Zt (ZO (Zv (.slice V out.length cv) (Zl 0 ⟨b1, (yO s).cells, 80⟩ (off := 0) (yO s) (vC 80 (ZJ2 s.lo s.hi) (by kernel_rfl) rfl (fun _ => by kernel_rfl) (fun b2 => kB (L' := [⟨b2, (ZJ2 s.lo s.hi), 80⟩, ⟨b1, (yO s).cells, 80⟩, ⟨gb, curb, 80⟩] ++ ob ++ []) (by rw [List.append_nil]; rfl) ?_)))))))
      obtain ⟨i, z, e1, e2, e3, e4, e5⟩ := kO
      refine gB (sz := 14) (by kernel_rfl) rfl Tryz.underlying29 e1 e2 e3 e4 (by kernel_rfl) hrel.sl (a := ⟨b2, 0, none⟩) (m := 1) (c := 1) (news := yJ s) (by kernel_rfl) rfl (fun w hO j u hj => ?_) (xM _) (by unfold maxLen; omega) (by rw [e5]; omega) (fun v2 ob2 hv2 => ?_)
      · rw [yQ, cell_of_row w b2 (0 + j) (yJ s).toArray 80 _ (hO.held ⟨b2, (yJ s).toArray, 80⟩ (List.mem_append_left _ (List.mem_append_left _ (List.mem_cons_self ..))))]; simpa using hj
      have hv3 : SlS v2 (out ++ [s]) ob2 := hv2.to (by simp) (by simp)
      obtain ⟨V2, c2, rfl⟩ := hv3.form
      refine Zv (.slice V2 ((out ++ [s]).length) c2) (ZN (y7 (zF (zJ (zB (zA (Zu (k := .i64) (((k + 1 : Nat) : Int)) (IntWalk.i64_in _ (by omega)) (Zv (.int .i64 ((k + 1 : Nat) : Int)) (zO (xB (L' := [⟨gb, curb, 80⟩] ++ ob2) (fun w hO => ?_) ?_))))))))))
      · have h2 := hO.apart; rw [List.append_nil] at hO; exact Own.sub [_, _] hO
      exact zS (m' := d.length - (k + 1)) (by omega) ⟨k + 1, V2, (out ++ [s]).length, c2, out ++ [s], ob2, _, ⟨rfl, hrel.step hk hs hsk (mstep_app (fun t' ht' => by have : out = [] := List.eq_nil_of_length_eq_zero (by omega); subst this; simp at ht')) hv3⟩, rfl, ZU, rfl⟩
    obtain ⟨g, cur, hV, rfl, hcapc, hmaxc, hszc, hcurc⟩ := Sl.block hrel.sl (by omega)
    obtain ⟨t, ht⟩ : ∃ t, out[out.length - 1]'(by omega) = t := ⟨_, rfl⟩
    have htk : t.short := ht ▸ hrel.short _ (List.getElem_mem _)
    refine ZI h4 (Zw Z5 (Zw (.slice V out.length cv) (Zw (.int .i64 (((out.length : Int) : Int) - 1)) (gC (Zp g ((out.length - 1) * 14)) (by kernel_rfl) (ZA (b := g) (off := 0) (c := cv) (n := out.length) (k := .i64) (j := (out.length : Int) - 1) (e := 80) (sz := 14) hV) (Zw (Zp g ((out.length - 1) * 14 + 7)) (jR 2 ⟨g, cur, 80⟩ (off := (out.length - 1) * 14 + 7) (z8 t.hi) (by kernel_rfl) rfl (by kernel_rfl) (by kernel_rfl) (x4 zY hcurc (out.length - 1) 7 (by omega) (by omega) _ (by rw [ht]; kernel_rfl)) (Zw (Zp b1 0) (Zm 0 ⟨b1, (yO s).cells, 80⟩ (off := 0) (.agg (ZJ s.lo)) (Zq (k := 173) (args := #[z8 t.hi, .agg (ZJ s.lo)]) (.int .i64 (zQ t.hi s.lo)) (fun w _ => hJ t.hi s.lo w htk.2 hsk.1) ?_)))))))))
    by_cases h5 : (zQ t.hi s.lo : Int) < 0
    · refine Zi h5 (Zw Z4 (kP (zB (Zt (ZO (Zv (.slice V out.length cv) (Zl 0 ⟨b1, (yO s).cells, 80⟩ (off := 0) (yO s) (vC 80 (ZJ2 s.lo s.hi) (by kernel_rfl) rfl (fun _ => by kernel_rfl) (fun b2 => kB (L' := [⟨b2, (ZJ2 s.lo s.hi), 80⟩, ⟨b1, (yO s).cells, 80⟩, ⟨gb, curb, 80⟩] ++ [⟨g, cur, 80⟩] ++ []) (by rw [List.append_nil]; rfl) ?_)))))))))
      obtain ⟨i, z, e1, e2, e3, e4, e5⟩ := kO
      refine gB (sz := 14) (by kernel_rfl) rfl Tryz.underlying29 e1 e2 e3 e4 (by kernel_rfl) hrel.sl (a := ⟨b2, 0, none⟩) (m := 1) (c := 1) (news := yJ s) (by kernel_rfl) rfl (fun w hO j u hj => ?_) (xM _) (by unfold maxLen; omega) (by rw [e5]; omega) (fun v2 ob2 hv2 => ?_)
      · rw [yQ, cell_of_row w b2 (0 + j) (yJ s).toArray 80 _ (hO.held ⟨b2, (yJ s).toArray, 80⟩ (List.mem_append_left _ (List.mem_append_left _ (List.mem_cons_self ..))))]; simpa using hj
      have hv3 : SlS v2 (out ++ [s]) ob2 := hv2.to (by simp) (by simp)
      obtain ⟨V2, c2, rfl⟩ := hv3.form
      refine Zv (.slice V2 ((out ++ [s]).length) c2) (ZN (y7 (zF (zJ (zB (zA (Zu (k := .i64) (((k + 1 : Nat) : Int)) (IntWalk.i64_in _ (by omega)) (Zv (.int .i64 ((k + 1 : Nat) : Int)) (zO (xB (L' := [⟨gb, curb, 80⟩] ++ ob2) (fun w hO => ?_) ?_))))))))))
      · have h2 := hO.apart; rw [List.append_nil] at hO; exact Own.sub [_, _] hO
      exact zS (m' := d.length - (k + 1)) (by omega) ⟨k + 1, V2, (out ++ [s]).length, c2, out ++ [s], ob2, _, ⟨rfl, hrel.step hk hs hsk (mstep_app (fun t' ht' => by rw [last_at (by omega) ht ht']; assumption)) hv3⟩, rfl, ZU, rfl⟩
    refine ZI h5 (Zw Z5 (kP (zB (Zf (ZB (tA 14 (by kernel_rfl) (by kernel_rfl) (by kernel_rfl) ?_))))))
    simp only [List.take_succ_cons, List.take_zero, List.drop_succ_cons, List.drop_zero]
    refine Zw (.slice V out.length cv) (Zw (.int .i64 (((out.length : Int) : Int) - 1)) (Zw (.slice V out.length cv) (Zw (.int .i64 (((out.length : Int) : Int) - 1)) (gC (Zp g ((out.length - 1) * 14)) (by kernel_rfl) (ZA (b := g) (off := 0) (c := cv) (n := out.length) (k := .i64) (j := (out.length : Int) - 1) (e := 80) (sz := 14) hV) (Zw (Zp g ((out.length - 1) * 14 + 7)) (jR 2 ⟨g, cur, 80⟩ (off := (out.length - 1) * 14 + 7) (z8 t.hi) (by kernel_rfl) rfl (by kernel_rfl) (by kernel_rfl) (x4 zY hcurc (out.length - 1) 7 (by omega) (by omega) _ (by rw [ht]; kernel_rfl)) (Zw (Zp b1 7) (Zm 0 ⟨b1, (yO s).cells, 80⟩ (off := 7) (.agg (ZJ s.hi)) (Zq (k := 130) (args := #[z8 t.hi, .agg (ZJ s.hi)]) (.tuple #[z8 (yV t.hi s.hi), z8 (yZ t.hi s.hi)]) (fun w _ => qC t.hi s.hi w htk.2 hsk.2) (Zw (.tuple #[z8 (yV t.hi s.hi), z8 (yZ t.hi s.hi)]) (Zw (z8 (yV t.hi s.hi)) ?_)))))))))))
    refine Zw (z8 (yZ t.hi s.hi)) (gC (Zp g ((out.length - 1) * 14)) (by kernel_rfl) (ZA (b := g) (off := 0) (c := cv) (n := out.length) (k := .i64) (j := (out.length : Int) - 1) (e := 80) (sz := 14) hV) (kP (Zv (Zp g ((out.length - 1) * 14 + 7)) (pS 2 ⟨g, cur, 80⟩ (off := (out.length - 1) * 14 + 7) (z8 (yZ t.hi s.hi)) 7 (by kernel_rfl) rfl rfl (by kernel_rfl) (by kernel_rfl) (by kernel_rfl) (by kernel_rfl) (by kernel_rfl) (by show (out.length - 1) * 14 + 7 + 7 ≤ cur.size; omega) (by kernel_rfl) ?_))))
    have hse := dN zY hcurc (out.length - 1) 7 (by omega) (z8 (yZ t.hi s.hi)).cells ⟨t.lo, yZ t.hi s.hi⟩ (show 7 + 7 ≤ 14 by decide) (by rw [ht]; rfl)
    refine zO (zP (zB (zA (Zu (k := .i64) (((k + 1 : Nat) : Int)) (IntWalk.i64_in _ (by omega)) (Zv (.int .i64 ((k + 1 : Nat) : Int)) (zO ?_))))))
    have hset : Merged d (k + 1) V cv (out.set (out.length - 1) ⟨t.lo, yZ t.hi s.hi⟩) [⟨g, kF cur ((out.length - 1) * 14 + 7) (z8 (yZ t.hi s.hi)).cells, 80⟩] := hrel.step hk hs hsk (mstep_set (by omega) ht (by assumption)) (by rw [List.length_set]; exact ⟨by rw [kJ zY, List.length_set], .inr ⟨g, cv, _, by rw [hV], rfl, hcapc, hmaxc, by rw [hse.2]; exact hszc, hse.1⟩⟩)
    refine xB (L' := [⟨gb, curb, 80⟩] ++ [⟨g, kF cur ((out.length - 1) * 14 + 7) (z8 (yZ t.hi s.hi)).cells, 80⟩]) (fun w hO => Own.sub [_] hO) ?_
    have hls : (out.set (out.length - 1) ⟨t.lo, yZ t.hi s.hi⟩).length = out.length := List.length_set
    exact zS (m' := d.length - (k + 1)) (by omega) ⟨k + 1, V, out.length, cv, out.set (out.length - 1) ⟨t.lo, yZ t.hi s.hi⟩, [⟨g, kF cur ((out.length - 1) * 14 + 7) (z8 (yZ t.hi s.hi)).cells, 80⟩], _, ⟨by rw [List.length_set], hset⟩, rfl, ZU, rfl⟩
  refine Zh h3 (ZN (z7 (Zf (y7 (zF (zN (zJ (zB (z7 (zA ?_))))))))))
  refine Zv (.slice V out.length cv) (Zr (k := 132) (args := #[.slice V out.length cv]) (fun v' L' => ∃ ob', L' = od ++ ob' ∧ SlS v' out ob') (fun w hO => uT (E := od) hO hrel.sl (by omega) hrel.short) (fun v4 L2 hv2 => ?_))
  obtain ⟨ob4, rfl, hs4⟩ := hv2
  exact Zv (v4) (Zv Z4 (ZN (zC (ZG (v4) Z4 Tryz.results136 (fun w hO => ⟨v4, ob4, by rw [hall], by rw [hall, if_pos rfl, show vX l = out from by rw [← merge_eq (allMay_mem.1 hall) hdp hdso]; have he := hrel.eq; rw [List.take_of_length_le (by omega)] at he; exact he]; exact hs4, hO.sub od⟩)))))
end
end Go.Proofs.YtkljdpiaghepfaaGreatDoor
