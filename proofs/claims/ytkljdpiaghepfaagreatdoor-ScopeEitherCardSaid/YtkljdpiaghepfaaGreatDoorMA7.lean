/-
  What the statement's proof leans on: the ways of walking, plain mathematics, and what the program's functions return; each theorem says on what conditions.
-/
import Derived.Below
import Derived.ChangeSame
import Derived.ProofKit
import Derived.OpenShut
import Derived.LaidSub
import Derived.Carry
import Derived.SliceStrings
import Derived.Lib.LaidTab
import Derived.Deep.DeepHandedRow
import Derived.ChangeArms
import Derived.Deep.Fields
import Derived.Test.YtkljdpiaghepfaaGreatDoorMA6
set_option maxRecDepth 1000000
set_option maxHeartbeats 8000000
set_option linter.unusedVariables false
set_option linter.unusedSimpArgs false
namespace Go.Proofs.YtkljdpiaghepfaaGreatDoor
open Go.RowKit

section
def m8 (v : Ver) : Ver := { v with pre := [] }
theorem pC {v : Ver} (h : v.build = []) : m8 v = m7 v := by
  obtain ⟨a, b, c, p, q⟩ := v
  simp only at h; subst h; rfl
theorem rel_least {v : Ver} : m7 v = Ver.zero ↔ qO v = true := by
  unfold m7 qO Ver.rel Ver.zero
  simp only [Ver.mk.injEq, and_true, Bool.and_eq_true, decide_eq_true_eq, and_assoc]
theorem relA_zero {v : Ver} (h : m7 v = Ver.zero) : relA v = zY (-1) := by unfold relA; rw [rel_least.1 h]; rfl
theorem relA_one {v : Ver} (h : ¬ m7 v = Ver.zero) : relA v = ⟨0, m7 v, false⟩ := by
  unfold relA
  rw [show qO v = false from Bool.eq_false_iff.2 fun e => h (rel_least.2 e)]; rfl
theorem rel_self {v : Ver} (h1 : v.pre = []) (h2 : v.build = []) : m7 v = v := by
  obtain ⟨a, b, c, p, q⟩ := v
  simp only at h1 h2; subst h1; subst h2; rfl
theorem next_pre {v : Ver} (h : v.may = true) (hp : v.pre ≠ []) : yY v = m7 v ∧ gA v = true := by
  have e : v.pre.isEmpty = false := by cases hq : v.pre with
    | nil => exact absurd hq hp
    | cons _ _ => rfl
  unfold yY gA
  rw [h, e]; exact ⟨rfl, rfl⟩
theorem next_pos {v : Ver} (h : v.may = true) (hp : v.pre = []) (ho : gA v = true) : ¬ m8 (yY v) = Ver.zero := by
  intro e
  rcases next_is h with ⟨k, _⟩ | ⟨_, a, b, c, e1, e2, ⟨_, e3⟩ | ⟨e3, _⟩⟩
  · rw [ho] at k; cases k
  · have hn := jQ h
    rw [e1] at e
    have h4 : (Ver.rel a b c).code = 0 := by
      have : Ver.rel a b c = Ver.zero := e
      rw [this]; rfl
    rw [h4] at e3
    unfold Ver.code at e3; omega
  · exact e3 hp
theorem pre0_next (v : Ver) : m8 (yY v) = yY v := by
  have h := (tF v).1
  generalize yY v = u at h ⊢
  obtain ⟨a, b, c, p, q⟩ := u
  simp only at h; subst h; rfl
theorem mL {c : Cu} (h : ¬ c.e = 0) : kC c = c := by unfold kC; rw [if_pos h]
theorem fH {c : Cu} (hm : c.may = true) (h0 : c.e = 0) (ha : c.aft = true) (ho : gA c.v = false) : kC c = zY 1 := by
  have hb := qW hm
  have hp : c.v.pre = [] := Classical.byContradiction fun hp => by rw [(next_pre (vD hm) hp).2] at ho; cases ho
  unfold kC relB
  rw [if_neg (by omega), if_pos ⟨ha, hp⟩, rel_self hp hb, ho]; rfl
theorem wX {c : Cu} (hm : c.may = true) (h0 : c.e = 0) (ha : c.aft = true) (ho : gA c.v = true) (hz : m8 (yY c.v) = Ver.zero) : kC c = zY (-1) := by
  have hp : ¬ c.v.pre = [] := fun hp => next_pos (vD hm) hp ho hz
  unfold kC
  rw [if_neg (by omega), if_neg (fun h => hp h.2)]
  refine relA_zero ?_
  rw [← (next_pre (vD hm) hp).1, ← pre0_next]; exact hz
theorem wW {c : Cu} (hm : c.may = true) (h0 : c.e = 0) (ha : c.aft = true) (ho : gA c.v = true) (hz : ¬ m8 (yY c.v) = Ver.zero) : kC c = ⟨0, m8 (yY c.v), false⟩ := by
  have hb := qW hm
  rw [pre0_next] at hz ⊢
  unfold kC
  by_cases hp : c.v.pre = []
  · rw [if_neg (by omega), if_pos ⟨ha, hp⟩]
    unfold relB
    rw [rel_self hp hb, ho]; rfl
  · rw [(next_pre (vD hm) hp).1] at hz ⊢
    rw [if_neg (by omega), if_neg (fun h => hp h.2)]
    exact relA_one hz
theorem pU {c : Cu} (hm : c.may = true) (h0 : c.e = 0) (ha : c.aft = false) (hz : m8 c.v = Ver.zero) : kC c = zY (-1) := by
  unfold kC
  rw [if_neg (by omega), if_neg (fun h => by rw [ha] at h; cases h.1)]
  exact relA_zero (by rw [← pC (qW hm)]; exact hz)
theorem mM {c : Cu} (hm : c.may = true) (h0 : c.e = 0) (ha : c.aft = false) (hz : ¬ m8 c.v = Ver.zero) : kC c = ⟨0, m8 c.v, false⟩ := by
  unfold kC
  rw [if_neg (by omega), if_neg (fun h => by rw [ha] at h; cases h.1), pC (qW hm)]
  exact relA_one (by rw [← pC (qW hm)]; exact hz)
theorem turn_right {c : Cu} (hm : c.may = true) : decide (c = kC c) = x2 c := by
  cases h : x2 c with
  | false => exact decide_eq_false fun e => by rw [e, (fG hm).2] at h; cases h
  | true =>
    refine decide_eq_true ?_
    by_cases h0 : c.e = 0
    · have hr := h
      unfold x2 at hr
      rw [decide_eq_false (by simpa using h0), Bool.false_or] at hr
      simp only [Bool.and_eq_true, Bool.not_eq_true', decide_eq_true_eq] at hr
      obtain ⟨⟨ha, hp⟩, hl⟩ := hr
      have e1 : m8 c.v = c.v := by
        have := qW hm
        rw [pC this, rel_self hp this]
      rw [mM hm h0 ha (by rw [e1]; intro e; rw [e] at hl; revert hl; decide), e1]
      obtain ⟨e, v, a⟩ := c
      simp only at h0 ha; subst h0; subst ha; rfl
    · exact (mL h0).symm
theorem pV (c : Cu) (W : World) (hc : c.short) (hm : c.may = true) : Calls Tryz.prog 138 #[zA c] W fun e w' => e = .returned (zA (kC c)) ∧ Below W.heap.size W w' := by
  refine zR (n := 30) Tryz.func138 rfl (by kernel_rfl) (by kernel_rfl) (ZO (Zb (zA c) (fun b1 => Za (.agg #[.int .i64 0, .int .i64 0, .int .i64 0, .int .i64 0, .string ⟨#[]⟩, .string ⟨#[]⟩, .bool false]) (fun b2 => ZN (z7 (ZO (Zv (.pointer (some ⟨b1, 0, none⟩)) (Zl 1 ⟨b1, (zA c).cells, 78⟩ (off := 0) (.int .i64 c.e) ?_))))))))
  by_cases h1 : (c.e : Int) = 0
  · refine vL (p := (c.e : Int) = 0) true (by kernel_rfl) (fun _ => by kernel_rfl) (decide_eq_true (h1)) ?_
    refine ZX (ZB (ZO (Zv (.pointer (some ⟨b1, 1, none⟩)) (Zl 1 ⟨b1, (zA c).cells, 78⟩ (off := 1) (.agg #[.int .i64 c.v.maj, .int .i64 c.v.min, .int .i64 c.v.pat, .string (mkS c.v.pre), .string (mkS c.v.build)]) (Za (.agg #[.int .i64 0, .int .i64 0, .int .i64 0, .string ⟨#[]⟩, .string ⟨#[]⟩]) (fun b3 => Zs 0 ⟨b3, #[.int .i64 0, .int .i64 0, .int .i64 0, .string ⟨#[]⟩, .string ⟨#[]⟩], 44⟩ (off := 0) (.agg #[.int .i64 c.v.maj, .int .i64 c.v.min, .int .i64 c.v.pat, .string (mkS c.v.pre), .string (mkS c.v.build)]) (Zv (.bool true) ?_)))))))
    refine ZN (z7 (ZO (Zv (.pointer (some ⟨b1, 6, none⟩)) (Zl 2 ⟨b1, (zA c).cells, 78⟩ (off := 6) (.bool c.aft) (zT (zC ?_))))))
    cases h2 : c.aft with
    | true =>
      refine Zt (zB (Zl 0 ⟨b3, #[.int .i64 c.v.maj, .int .i64 c.v.min, .int .i64 c.v.pat, .string (mkS c.v.pre), .string (mkS c.v.build)], 44⟩ (off := 0) (.agg #[.int .i64 c.v.maj, .int .i64 c.v.min, .int .i64 c.v.pat, .string (mkS c.v.pre), .string (mkS c.v.build)]) (Zc (k := 181) (args := #[.agg #[.int .i64 c.v.maj, .int .i64 c.v.min, .int .i64 c.v.pat, .string (mkS c.v.pre), .string (mkS c.v.build)]]) (.tuple #[yE (yY c.v), .bool (gA c.v)]) (fun w _ => vnext_any c.v w hc.1 hc.2) (Zv (.tuple #[yE (yY c.v), .bool (gA c.v)]) (Zv (yE (yY c.v)) (Zv (.bool (gA c.v)) (Zs 0 ⟨b3, #[.int .i64 c.v.maj, .int .i64 c.v.min, .int .i64 c.v.pat, .string (mkS c.v.pre), .string (mkS c.v.build)], 44⟩ (off := 0) (yE (yY c.v)) (Zv (.bool (gA c.v)) (ZN (z7 ?_))))))))))
      refine zB (Zv (.pointer (some ⟨b3, 3, none⟩)) (Zs 0 ⟨b3, (yE (yY c.v)).cells, 44⟩ (off := 3) (.string ⟨#[]⟩) (ZN (z7 (zN (ZO (Zv (.bool (gA c.v)) ?_)))))))
      cases h3 : gA c.v with
      | true =>
        refine Zv (.bool false) (Zv (.bool false) (ZX (ZO (Zl 0 ⟨b3, #[.int .i64 ((yY c.v).maj), .int .i64 ((yY c.v).min), .int .i64 ((yY c.v).pat), .string ⟨#[]⟩, .string (mkS (yY c.v).build)], 44⟩ (off := 0) (.agg #[.int .i64 ((yY c.v).maj), .int .i64 ((yY c.v).min), .int .i64 ((yY c.v).pat), .string ⟨#[]⟩, .string (mkS (yY c.v).build)]) (Zv (.agg #[.int .i64 0, .int .i64 0, .int .i64 0, .string ⟨#[]⟩, .string ⟨#[]⟩]) ?_)))))
        by_cases h4 : m8 (yY c.v) = Ver.zero
        · refine y5 (.bool true) (by kernel_rfl) (vP (u := m8 (yY c.v)) (v := Ver.zero) rfl (by kernel_rfl) (by kernel_rfl) (decide_eq_true (h4))) ?_
          refine Zv (.bool true) (ZY (ZO (Zv (.agg #[.int .i64 (-1), .int .i64 0, .int .i64 0, .int .i64 0, .string ⟨#[]⟩, .string ⟨#[]⟩, .bool false]) (Zs 1 ⟨b2, #[.int .i64 0, .int .i64 0, .int .i64 0, .int .i64 0, .string ⟨#[]⟩, .string ⟨#[]⟩, .bool false], 78⟩ (off := 0) (.agg #[.int .i64 (-1), .int .i64 0, .int .i64 0, .int .i64 0, .string ⟨#[]⟩, .string ⟨#[]⟩, .bool false]) (ZN (zD (zI ?_)))))))
          exact z6 (ZC 1 ⟨b2, #[.int .i64 (-1), .int .i64 0, .int .i64 0, .int .i64 0, .string ⟨#[]⟩, .string ⟨#[]⟩, .bool false], 78⟩ (off := 0) (.agg #[.int .i64 (-1), .int .i64 0, .int .i64 0, .int .i64 0, .string ⟨#[]⟩, .string ⟨#[]⟩, .bool false]) Tryz.results138 (fun w hO => ⟨by first | rw [mL (by omega)] | (rw [fH hm (by omega) (by assumption) (by assumption)]; rfl) | (rw [wX hm (by omega) (by assumption) (by assumption) (by assumption)]; rfl) | (rw [wW hm (by omega) (by assumption) (by assumption) (by assumption)]; rfl) | (rw [pU hm (by omega) (by assumption) (by assumption)]; rfl) | (rw [mM hm (by omega) (by assumption) (by assumption)]; rfl), hO.below⟩))
        refine y5 (.bool false) (by kernel_rfl) (vP (u := m8 (yY c.v)) (v := Ver.zero) rfl (by kernel_rfl) (by kernel_rfl) (decide_eq_false (h4))) (Zv (.bool false) (ZX (xB (zS (zC (ZO (Zl 0 ⟨b3, #[.int .i64 ((yY c.v).maj), .int .i64 ((yY c.v).min), .int .i64 ((yY c.v).pat), .string ⟨#[]⟩, .string (mkS (yY c.v).build)], 44⟩ (off := 0) (.agg #[.int .i64 ((yY c.v).maj), .int .i64 ((yY c.v).min), .int .i64 ((yY c.v).pat), .string ⟨#[]⟩, .string (mkS (yY c.v).build)]) (Zv (.agg #[.int .i64 0, .int .i64 ((yY c.v).maj), .int .i64 ((yY c.v).min), .int .i64 ((yY c.v).pat), .string ⟨#[]⟩, .string (mkS (yY c.v).build), .bool false]) ?_))))))))
        exact Zs 1 ⟨b2, #[.int .i64 0, .int .i64 0, .int .i64 0, .int .i64 0, .string ⟨#[]⟩, .string ⟨#[]⟩, .bool false], 78⟩ (off := 0) (.agg #[.int .i64 0, .int .i64 ((yY c.v).maj), .int .i64 ((yY c.v).min), .int .i64 ((yY c.v).pat), .string ⟨#[]⟩, .string (mkS (yY c.v).build), .bool false]) (ZN (zD (ZC 1 ⟨b2, #[.int .i64 0, .int .i64 ((yY c.v).maj), .int .i64 ((yY c.v).min), .int .i64 ((yY c.v).pat), .string ⟨#[]⟩, .string (mkS (yY c.v).build), .bool false], 78⟩ (off := 0) (.agg #[.int .i64 0, .int .i64 ((yY c.v).maj), .int .i64 ((yY c.v).min), .int .i64 ((yY c.v).pat), .string ⟨#[]⟩, .string (mkS (yY c.v).build), .bool false]) Tryz.results138 (fun w hO => ⟨by first | rw [mL (by omega)] | (rw [fH hm (by omega) (by assumption) (by assumption)]; rfl) | (rw [wX hm (by omega) (by assumption) (by assumption) (by assumption)]; rfl) | (rw [wW hm (by omega) (by assumption) (by assumption) (by assumption)]; rfl) | (rw [pU hm (by omega) (by assumption) (by assumption)]; rfl) | (rw [mM hm (by omega) (by assumption) (by assumption)]; rfl), hO.below⟩))))
      | false =>
        refine Zv (.bool true) (Zv (.bool true) (ZY (ZO (Zv (.agg #[.int .i64 1, .int .i64 0, .int .i64 0, .int .i64 0, .string ⟨#[]⟩, .string ⟨#[]⟩, .bool false]) (Zs 1 ⟨b2, #[.int .i64 0, .int .i64 0, .int .i64 0, .int .i64 0, .string ⟨#[]⟩, .string ⟨#[]⟩, .bool false], 78⟩ (off := 0) (.agg #[.int .i64 1, .int .i64 0, .int .i64 0, .int .i64 0, .string ⟨#[]⟩, .string ⟨#[]⟩, .bool false]) (ZN (zD ?_)))))))
        exact zI (z6 (ZC 1 ⟨b2, #[.int .i64 1, .int .i64 0, .int .i64 0, .int .i64 0, .string ⟨#[]⟩, .string ⟨#[]⟩, .bool false], 78⟩ (off := 0) (.agg #[.int .i64 1, .int .i64 0, .int .i64 0, .int .i64 0, .string ⟨#[]⟩, .string ⟨#[]⟩, .bool false]) Tryz.results138 (fun w hO => ⟨by first | rw [mL (by omega)] | (rw [fH hm (by omega) (by assumption) (by assumption)]; rfl) | (rw [wX hm (by omega) (by assumption) (by assumption) (by assumption)]; rfl) | (rw [wW hm (by omega) (by assumption) (by assumption) (by assumption)]; rfl) | (rw [pU hm (by omega) (by assumption) (by assumption)]; rfl) | (rw [mM hm (by omega) (by assumption) (by assumption)]; rfl), hO.below⟩)))
    | false =>
      refine Zf (ZB (ZO (Zv (.pointer (some ⟨b3, 3, none⟩)) (Zs 0 ⟨b3, #[.int .i64 c.v.maj, .int .i64 c.v.min, .int .i64 c.v.pat, .string (mkS c.v.pre), .string (mkS c.v.build)], 44⟩ (off := 3) (.string ⟨#[]⟩) (ZN (z7 (zN (z7 ?_))))))))
      refine zB (Zv (.bool true) (Zv (.bool false) (Zv (.bool false) (ZX (ZO (Zl 0 ⟨b3, #[.int .i64 c.v.maj, .int .i64 c.v.min, .int .i64 c.v.pat, .string ⟨#[]⟩, .string (mkS c.v.build)], 44⟩ (off := 0) (.agg #[.int .i64 c.v.maj, .int .i64 c.v.min, .int .i64 c.v.pat, .string ⟨#[]⟩, .string (mkS c.v.build)]) (Zv (.agg #[.int .i64 0, .int .i64 0, .int .i64 0, .string ⟨#[]⟩, .string ⟨#[]⟩]) ?_)))))))
      by_cases h5 : m8 c.v = Ver.zero
      · refine y5 (.bool true) (by kernel_rfl) (vP (u := m8 c.v) (v := Ver.zero) rfl (by kernel_rfl) (by kernel_rfl) (decide_eq_true (h5))) ?_
        refine Zv (.bool true) (ZY (ZO (Zv (.agg #[.int .i64 (-1), .int .i64 0, .int .i64 0, .int .i64 0, .string ⟨#[]⟩, .string ⟨#[]⟩, .bool false]) (Zs 1 ⟨b2, #[.int .i64 0, .int .i64 0, .int .i64 0, .int .i64 0, .string ⟨#[]⟩, .string ⟨#[]⟩, .bool false], 78⟩ (off := 0) (.agg #[.int .i64 (-1), .int .i64 0, .int .i64 0, .int .i64 0, .string ⟨#[]⟩, .string ⟨#[]⟩, .bool false]) (ZN (zD (zI ?_)))))))
        exact z6 (ZC 1 ⟨b2, #[.int .i64 (-1), .int .i64 0, .int .i64 0, .int .i64 0, .string ⟨#[]⟩, .string ⟨#[]⟩, .bool false], 78⟩ (off := 0) (.agg #[.int .i64 (-1), .int .i64 0, .int .i64 0, .int .i64 0, .string ⟨#[]⟩, .string ⟨#[]⟩, .bool false]) Tryz.results138 (fun w hO => ⟨by first | rw [mL (by omega)] | (rw [fH hm (by omega) (by assumption) (by assumption)]; rfl) | (rw [wX hm (by omega) (by assumption) (by assumption) (by assumption)]; rfl) | (rw [wW hm (by omega) (by assumption) (by assumption) (by assumption)]; rfl) | (rw [pU hm (by omega) (by assumption) (by assumption)]; rfl) | (rw [mM hm (by omega) (by assumption) (by assumption)]; rfl), hO.below⟩))
      refine y5 (.bool false) (by kernel_rfl) (vP (u := m8 c.v) (v := Ver.zero) rfl (by kernel_rfl) (by kernel_rfl) (decide_eq_false (h5))) (Zv (.bool false) (ZX (xB (zS (zC (ZO (Zl 0 ⟨b3, #[.int .i64 c.v.maj, .int .i64 c.v.min, .int .i64 c.v.pat, .string ⟨#[]⟩, .string (mkS c.v.build)], 44⟩ (off := 0) (.agg #[.int .i64 c.v.maj, .int .i64 c.v.min, .int .i64 c.v.pat, .string ⟨#[]⟩, .string (mkS c.v.build)]) (Zv (.agg #[.int .i64 0, .int .i64 c.v.maj, .int .i64 c.v.min, .int .i64 c.v.pat, .string ⟨#[]⟩, .string (mkS c.v.build), .bool false]) ?_))))))))
      exact Zs 1 ⟨b2, #[.int .i64 0, .int .i64 0, .int .i64 0, .int .i64 0, .string ⟨#[]⟩, .string ⟨#[]⟩, .bool false], 78⟩ (off := 0) (.agg #[.int .i64 0, .int .i64 c.v.maj, .int .i64 c.v.min, .int .i64 c.v.pat, .string ⟨#[]⟩, .string (mkS c.v.build), .bool false]) (ZN (zD (ZC 1 ⟨b2, #[.int .i64 0, .int .i64 c.v.maj, .int .i64 c.v.min, .int .i64 c.v.pat, .string ⟨#[]⟩, .string (mkS c.v.build), .bool false], 78⟩ (off := 0) (.agg #[.int .i64 0, .int .i64 c.v.maj, .int .i64 c.v.min, .int .i64 c.v.pat, .string ⟨#[]⟩, .string (mkS c.v.build), .bool false]) Tryz.results138 (fun w hO => ⟨by first | rw [mL (by omega)] | (rw [fH hm (by omega) (by assumption) (by assumption)]; rfl) | (rw [wX hm (by omega) (by assumption) (by assumption) (by assumption)]; rfl) | (rw [wW hm (by omega) (by assumption) (by assumption) (by assumption)]; rfl) | (rw [pU hm (by omega) (by assumption) (by assumption)]; rfl) | (rw [mM hm (by omega) (by assumption) (by assumption)]; rfl), hO.below⟩))))
  refine Zn (p := (c.e : Int) = 0) false (decide_eq_false (h1)) (ZY (ZO (Zl 1 ⟨b1, (zA c).cells, 78⟩ (off := 0) (zA c) (Zs 0 ⟨b2, #[.int .i64 0, .int .i64 0, .int .i64 0, .int .i64 0, .string ⟨#[]⟩, .string ⟨#[]⟩, .bool false], 78⟩ (off := 0) (zA c) (ZN (zD (z6 ?_)))))))
  exact ZC 0 ⟨b2, (zA c).cells, 78⟩ (off := 0) (zA c) Tryz.results138 (fun w hO => ⟨by first | rw [mL (by omega)] | (rw [fH hm (by omega) (by assumption) (by assumption)]; rfl) | (rw [wX hm (by omega) (by assumption) (by assumption) (by assumption)]; rfl) | (rw [wW hm (by omega) (by assumption) (by assumption) (by assumption)]; rfl) | (rw [pU hm (by omega) (by assumption) (by assumption)]; rfl) | (rw [mM hm (by omega) (by assumption) (by assumption)]; rfl), hO.below⟩)
theorem mayRel_any (c : Cu) (W : World) (hc : c.short) (hm : c.may = true) : Calls Tryz.prog 208 #[zA c] W fun e w' => e = .returned (.bool (x2 c)) ∧ Below W.heap.size W w' := by
  rw [← turn_right hm]
  refine zR (n := 7) Tryz.func208 rfl (by kernel_rfl) (by kernel_rfl) (ZO (Zb (zA c) (fun b1 => Zv (.bool false) (ZN (z7 (qP (by kernel_rfl) (by kernel_rfl) (Zm 0 ⟨b1, (zA c).cells, 78⟩ (off := 0) (zA c) (Zm 0 ⟨b1, (zA c).cells, 78⟩ (off := 0) (zA c) (Zq (k := 138) (args := #[zA c]) (zA (kC c)) (fun w _ => pV c w hc hm) ?_)))))))))
  by_cases h1 : c = kC c
  · refine gD (.bool true) (by kernel_rfl) (vQ (u := c) (v := kC c) rfl (by kernel_rfl) (by kernel_rfl) (decide_eq_true (h1))) ?_
    exact Zw (.bool true) (g0 (zC (zD (ZF (.bool true) Tryz.results208 (fun w hO => ⟨by rw [decide_eq_true h1], hO.below⟩)))))
  exact gD (.bool false) (by kernel_rfl) (vQ (u := c) (v := kC c) rfl (by kernel_rfl) (by kernel_rfl) (decide_eq_false (h1))) (Zw (.bool false) (g0 (zC (zD (ZF (.bool false) Tryz.results208 (fun w hO => ⟨by rw [decide_eq_false h1], hO.below⟩))))))
def gQ (s : Sp) : Bool := !x2 s.lo || !x2 s.hi
theorem wN {l : List Sp} : (!l.any gQ) = l.all fun x => x2 x.lo && x2 x.hi := by
  rw [List.not_any_eq_all_not]
  congr 1
  funext s
  unfold gQ
  simp
theorem foreign1_any (s : Sp) (W : World) (hs : s.short) (hm : s.may = true) : Calls Tryz.prog 207 #[yF s] W fun e w' => e = .returned (.bool (gQ s)) ∧ Below W.heap.size W w' := by
  obtain ⟨m1, m2⟩ := zZ hm
  refine zR (n := 13) Tryz.func207 rfl (by kernel_rfl) (by kernel_rfl) (ZO (Zb (yF s) (fun b1 => Zv (.bool false) (ZR (Zv (.pointer (some ⟨b1, 0, none⟩)) (Zl 0 ⟨b1, (yF s).cells, 80⟩ (off := 0) (.agg #[.int .i64 s.lo.e, .int .i64 s.lo.v.maj, .int .i64 s.lo.v.min, .int .i64 s.lo.v.pat, .string (mkS s.lo.v.pre), .string (mkS s.lo.v.build), .bool s.lo.aft]) (Zc (k := 208) (args := #[.agg #[.int .i64 s.lo.e, .int .i64 s.lo.v.maj, .int .i64 s.lo.v.min, .int .i64 s.lo.v.pat, .string (mkS s.lo.v.pre), .string (mkS s.lo.v.build), .bool s.lo.aft]]) (.bool (x2 s.lo)) (fun w _ => mayRel_any s.lo w hs.1 m1) ?_)))))))
  cases h1 : x2 s.lo with
  | true =>
    refine Zv (.bool false) (Zv (.bool false) (Zv (.pointer (some ⟨b1, 7, none⟩)) (Zl 0 ⟨b1, (yF s).cells, 80⟩ (off := 7) (.agg #[.int .i64 s.hi.e, .int .i64 s.hi.v.maj, .int .i64 s.hi.v.min, .int .i64 s.hi.v.pat, .string (mkS s.hi.v.pre), .string (mkS s.hi.v.build), .bool s.hi.aft]) (Zc (k := 208) (args := #[.agg #[.int .i64 s.hi.e, .int .i64 s.hi.v.maj, .int .i64 s.hi.v.min, .int .i64 s.hi.v.pat, .string (mkS s.hi.v.pre), .string (mkS s.hi.v.build), .bool s.hi.aft]]) (.bool (x2 s.hi)) (fun w _ => mayRel_any s.hi w hs.2 m2) ?_))))
    cases h2 : x2 s.hi with
    | true =>
      exact Zv (.bool false) (Zv (.bool false) (Zv (.bool false) (ZN (zD (ZF (.bool false) Tryz.results207 (fun w hO => ⟨by unfold gQ; simp [h1, h2], hO.below⟩))))))
    | false =>
      exact Zv (.bool true) (Zv (.bool true) (Zv (.bool true) (ZN (zD (ZF (.bool true) Tryz.results207 (fun w hO => ⟨by unfold gQ; simp [h1, h2], hO.below⟩))))))
  | false =>
    refine Zv (.bool true) (Zv (.bool true) (Zk (Zk (Zk (Zk (Zv (.bool true) (Zv (.bool true) (ZN (zD (ZF (.bool true) Tryz.results207 ?_))))))))))
    exact fun w hO => ⟨by unfold gQ; simp [h1], hO.below⟩
def pI : List Sp → Int → Int
  | [], _ => -1
  | s :: r, k => if gQ s then k else pI r (k + 1)
theorem idxR_any : ∀ (l : List Sp) (k : Int), 0 ≤ k → decide (0 ≤ pI l k) = l.any gQ
  | [], k, _ => rfl
  | s :: r, k, hk => by
    unfold pI
    rw [List.any_cons]
    cases h : gQ s with
    | true => rw [if_pos rfl, Bool.true_or]; exact decide_eq_true hk
    | false => rw [if_neg (by decide), Bool.false_or]; exact idxR_any r (k + 1) (by omega)
theorem idxr_any (A : Option Addr) (cap : Nat) (l : List Sp) (W : World) (hv : Reads yT W W.heap.size A l) (hn : l.length ≤ 1000000) (hl : yU l) (hmay : ∀ s ∈ l, s.may = true) :
    Calls Tryz.prog 226 #[.slice A l.length cap, .func (.func 207) #[] #[]] W fun e w' => e = .returned (.int .i64 (pI l 0)) ∧ Below W.heap.size W w' := by
  refine zR (n := 19) Tryz.func226 rfl (by kernel_rfl) (by kernel_rfl) (ZO (Zv (.int .i64 0) (ZN (z7 (ZO (Zv (.slice A l.length cap) (Zv (.int .i64 (l.length : Int)) (Zv (.int .i64 0) ?_))))))))
  refine ZN (zN (x9 (fun L f m => ∃ (k : Nat) (j : Nat → Value), (k ≤ l.length ∧ pI l 0 = pI (l.drop k) (k : Int)) ∧ L = [] ∧ f = g7 j [(0, .slice A l.length cap), (1, .func (.func 207) #[] #[]), (7, .int .i64 (l.length : Int)), (8, .int .i64 (k : Int))] ∧ m = l.length - k) (l.length - 0) ⟨0, _, ⟨Nat.zero_le _, by rw [List.drop_zero]; rfl⟩, rfl, ZU, rfl⟩ ?_))
  rintro L f m ⟨k, j, hrel, rfl, rfl, rfl⟩
  have hkl := hrel.1
  refine z7 (zB ?_)
  by_cases h1 : (k : Int) < (l.length : Int)
  · have hk : k < l.length := by omega
    obtain ⟨b, off, hA, hlt, hcel⟩ := hv (by omega)
    obtain ⟨s, hs⟩ : ∃ s, l[k] = s := ⟨_, rfl⟩
    have hsk : s.short := hs ▸ hl l[k] (List.getElem_mem hk)
    have hsm : s.may = true := hs ▸ hmay l[k] (List.getElem_mem hk)
    refine Zd (p := (k : Int) < (l.length : Int)) true (decide_eq_true (h1)) (ZN (z7 (Zt (ZB (z7 (zN (ZO (Zv (.int .i64 (k : Int)) ?_))))))))
    refine Zv (.int .i64 (k : Int)) (ZR (Zv (.func (.func 207) #[] #[]) (Zv (.slice A l.length cap) (Zv (.int .i64 (k : Int)) (y5 (.pointer (some ⟨b, off + k * 14, none⟩)) (by kernel_rfl) (ZA (b := b) (off := off) (c := cap) (n := l.length) (k := .i64) (j := (k : Int)) (e := 80) (sz := 14) hA) (Zo (yF s) (a := ⟨b, off + k * 14, none⟩) (fun w hO => yP zV (fun j u h => (hO.below.cell (p := ⟨b, off + j, none⟩) hlt).trans (hcel j u h)) k 0 hk (by omega) _ (by rw [hs]; kernel_rfl)) (Zc (k := 207) (args := #[yF s]) (.bool (gQ s)) (fun w hO => foreign1_any s w hsk hsm) (zT ?_))))))))
    refine zC ?_
    cases h2 : gQ s with
    | true =>
      refine Zt (ZO (Zv (.int .i64 (k : Int)) (Zv (.int .i64 (k : Int)) (ZN (zD (zI (z6 (yB (zI ?_)))))))))
      exact z6 (ZF (.int .i64 (k : Int)) Tryz.results226 (fun w hO => ⟨by rw [hrel.2, List.drop_eq_getElem_cons hk, hs]; simp only [pI, h2]; rfl, hO.below⟩))
    | false =>
      refine Zf (xB (zS (zC (zB (Zu (k := .i64) (((k + 1 : Nat) : Int)) (IntWalk.i64_in _ (by omega)) (Zv (.int .i64 ((k + 1 : Nat) : Int)) (zT ?_)))))))
      have hnext : pI l 0 = pI (l.drop (k + 1)) ((k + 1 : Nat) : Int) := by rw [hrel.2, List.drop_eq_getElem_cons hk, hs]; simp only [pI, h2]; rfl
      exact zW (m' := l.length - (k + 1)) (by omega) ⟨k + 1, _, ⟨by omega, hnext⟩, rfl, ZU, rfl⟩
  refine Zd (p := (k : Int) < (l.length : Int)) false (decide_eq_false (h1)) (ZN (z7 (Zf (y7 (z8 (zQ (zJ (zC (z7 (zB ?_))))))))))
  exact Zv (.int .i64 (-1)) (ZN (zD (ZF (.int .i64 (-1)) Tryz.results226 (fun w hO => ⟨by rw [hrel.2, List.drop_of_length_le (by omega)]; rfl, hO.below⟩))))
theorem containsr_any (A : Option Addr) (cap : Nat) (l : List Sp) (W : World) (hv : Reads yT W W.heap.size A l) (hn : l.length ≤ 1000000) (hl : yU l) (hmay : ∀ s ∈ l, s.may = true) :
    Calls Tryz.prog 209 #[.slice A l.length cap, .func (.func 207) #[] #[]] W fun e w' => e = .returned (.bool (l.any gQ)) ∧ Below W.heap.size W w' := by
  rw [← idxR_any l 0 (by omega)]
  refine zR (n := 9) Tryz.func209 rfl (by kernel_rfl) (by kernel_rfl) (ZO (Zv (.bool false) (ZR (Zv (.slice A l.length cap) (Zv (.func (.func 207) #[] #[]) (Zc (k := 226) (args := #[.slice A l.length cap, .func (.func 207) #[] #[]]) (.int .i64 (pI l 0)) (fun w hO => idxr_any A cap l w (hv.on hO.below hO.size) hn hl hmay) ?_))))))
  by_cases h1 : (0 : Int) ≤ pI l 0
  · refine yI (p := (0 : Int) ≤ pI l 0) true (by kernel_rfl) (fun _ => by kernel_rfl) (decide_eq_true (h1)) ?_
    exact Zv (.bool true) (ZN (zD (ZF (.bool true) Tryz.results209 (fun w hO => ⟨by simp only [decide_eq_true h1], hO.below⟩))))
  exact Zd (p := (0 : Int) ≤ pI l 0) false (decide_eq_false (h1)) (Zv (.bool false) (ZN (zD (ZF (.bool false) Tryz.results209 (fun w hO => ⟨by simp only [decide_eq_false h1], hO.below⟩)))))
theorem nY (A B : Option Addr) (c d : Nat) (a : St) (W : World) (hs : SetIn W W.heap.size A B a) (ca : a.rel.length ≤ c ∧ a.pre.length ≤ d) : Calls Tryz.prog 182 #[.agg #[.slice A a.rel.length c, .slice B a.pre.length d]] W fun e w' => e = .returned (.bool a.may) ∧ Below W.heap.size W w' := by
  refine zR (n := 19) Tryz.func182 rfl (by kernel_rfl) (by kernel_rfl) (ZO (Zb (.agg #[.slice A a.rel.length c, .slice B a.pre.length d]) (fun b1 => Zv (.bool false) (ZR (Zv (.func (.func 207) #[] #[]) (zT (zC ?_)))))))
  refine ZO (Zv (.pointer (some ⟨b1, 0, none⟩)) (Zl 0 ⟨b1, #[.slice A a.rel.length c, .slice B a.pre.length d], 31⟩ (off := 0) (.slice A a.rel.length c) (Zc (k := 129) (args := #[.slice A a.rel.length c]) (.bool (zK a.rel)) (fun w hO => j7 A c a.rel w (hs.rel.on hO.below hO.size) (Nat.le_trans hs.lr (by decide)) hs.sr) (Zv (.bool (zK a.rel)) ?_))))
  cases h1 : zK a.rel with
  | true =>
    refine Zv (.pointer (some ⟨b1, 1, none⟩)) (Zl 0 ⟨b1, #[.slice A a.rel.length c, .slice B a.pre.length d], 31⟩ (off := 1) (.slice B a.pre.length d) (Zc (k := 129) (args := #[.slice B a.pre.length d]) (.bool (zK a.pre)) (fun w hO => j7 B d a.pre w (hs.pre.on hO.below hO.size) (Nat.le_trans hs.lp (by decide)) hs.sp) (Zv (.bool (zK a.pre)) (Zv (.bool (zK a.pre)) ?_))))
    cases h2 : zK a.pre with
    | true =>
      refine Zv (.pointer (some ⟨b1, 0, none⟩)) (Zl 0 ⟨b1, #[.slice A a.rel.length c, .slice B a.pre.length d], 31⟩ (off := 0) (.slice A a.rel.length c) (Zv (.func (.func 207) #[] #[]) (Zc (k := 209) (args := #[.slice A a.rel.length c, .func (.func 207) #[] #[]]) (.bool (a.rel.any gQ)) (fun w hO => containsr_any A c a.rel w (hs.rel.on hO.below hO.size) (Nat.le_trans hs.lr (by decide)) hs.sr (x4 h1)) ?_)))
      cases h3 : a.rel.any gQ with
      | true =>
        exact Zv (.bool false) (Zv (.bool false) (Zv (.bool false) (ZN (zD (ZF (.bool false) Tryz.results182 (fun w hO => ⟨by unfold St.may; rw [← wN]; simp [h1, h2, h3], hO.below⟩))))))
      | false =>
        exact Zv (.bool true) (Zv (.bool true) (Zv (.bool true) (ZN (zD (ZF (.bool true) Tryz.results182 (fun w hO => ⟨by unfold St.may; rw [← wN]; simp [h1, h2, h3], hO.below⟩))))))
    | false =>
      exact Zk (Zk (Zk (Zk (Zk (Zv (.bool false) (Zv (.bool false) (ZN (zD (ZF (.bool false) Tryz.results182 (fun w hO => ⟨by unfold St.may; rw [← wN]; simp [h1, h2], hO.below⟩))))))))))
  | false =>
    refine Zk (Zk (Zk (Zv (.bool false) (Zv (.bool false) (Zk (Zk (Zk (Zk (Zk (Zv (.bool false) (Zv (.bool false) ?_)))))))))))
    exact ZN (zD (ZF (.bool false) Tryz.results182 (fun w hO => ⟨by unfold St.may; rw [← wN]; simp [h1], hO.below⟩)))
theorem qK (W : World) : Calls Tryz.prog 47 #[] W fun e w' => e = .returned (.agg #[.slice none 0 0, .slice none 0 0]) ∧ Below W.heap.size W w' := by
  refine zR (n := 2) Tryz.func47 rfl (by kernel_rfl) (by kernel_rfl) (ZO (Za (.agg #[.slice none 0 0, .slice none 0 0]) (fun b1 => ZR (Zv (.agg #[.slice none 0 0, .slice none 0 0]) (Zs 0 ⟨b1, #[.slice none 0 0, .slice none 0 0], 31⟩ (off := 0) (.agg #[.slice none 0 0, .slice none 0 0]) (zT (zC ?_)))))))
  exact zD (ZC 0 ⟨b1, #[.slice none 0 0, .slice none 0 0], 31⟩ (off := 0) (.agg #[.slice none 0 0, .slice none 0 0]) Tryz.results47 (fun w hO => ⟨rfl, hO.below⟩))
end
section
theorem not1_any (A B : Option Addr) (cap capb : Nat) (x y : List Sp) (W : World) (hv : Reads yT W W.heap.size A x) (hu : Reads yT W W.heap.size B y) (hx : RF x 100000) (hy : RF y 100000) (hca : x.length ≤ cap) (hcb : y.length ≤ capb) : Calls Tryz.prog 172 #[.slice A x.length cap, .slice B y.length capb] W fun e w' => ∃ v' ob', e = .returned v' ∧ SlS v' (vW x) ob' ∧ Own [] W w' ob' := by
  refine zR (n := 7) Tryz.func172 rfl (by kernel_rfl) (by kernel_rfl) (ZO (Zv (.slice none 0 0) (ZR (Zv (.slice A x.length cap) (yD (k := 135) (args := #[.slice A x.length cap]) (fun v' L' => ∃ ob', L' = ob' ++ ([]) ∧ SlS v' (vW x) ob') (by kernel_rfl) (fun _ => by kernel_rfl) (fun w hO => (not4_any A cap x w (hv.on hO.below hO.size) (Nat.le_trans hx.len (by decide)) hx.short).mono fun e w' ⟨v', ob', k1, k2, k3⟩ => ⟨v', _, k1, ⟨ob', rfl, by rw [if_pos hx.may] at k2; exact k2⟩, Own.joinN hO k3⟩) (fun v1 L1 hv1 => ?_))))))
  obtain ⟨o1, rfl, hr1⟩ := hv1
  obtain ⟨V1, c1, rfl⟩ := hr1.form
  exact kA (L' := o1) (List.append_nil _) (Zv (.slice V1 ((vW x).length) c1) (ZN (zD (ZF (.slice V1 ((vW x).length) c1) Tryz.results172 (fun w hO => ⟨_, o1, rfl, hr1, by simpa using hO⟩)))))
theorem combOr_any (A B A' B' : Option Addr) (c d c' d' : Nat) (a b : St) (W : World) (hs : SetIn W W.heap.size A B a) (ht : SetIn W W.heap.size A' B' b) (ca : a.rel.length ≤ c ∧ a.pre.length ≤ d) (cb : b.rel.length ≤ c' ∧ b.pre.length ≤ d') : Calls Tryz.prog 140 #[.agg #[.slice A a.rel.length c, .slice B a.pre.length d], .agg #[.slice A' b.rel.length c', .slice B' b.pre.length d'], .func (.func 83) #[] #[]] W fun e w' => ∃ v' ob', e = .returned v' ∧ SetO v' (if a.may && b.may then orT a b else g9) ob' ∧ Own [] W w' ob' := by
  refine zR (n := 29) Tryz.func140 rfl (by kernel_rfl) (by kernel_rfl) (ZO (Zb (.agg #[.slice A a.rel.length c, .slice B a.pre.length d]) (fun b1 => Zb (.agg #[.slice A' b.rel.length c', .slice B' b.pre.length d']) (fun b2 => Za (.agg #[.slice none 0 0, .slice none 0 0]) (fun b3 => ZN (z7 (ZO (Zl 2 ⟨b1, #[.slice A a.rel.length c, .slice B a.pre.length d], 31⟩ (off := 0) (.agg #[.slice A a.rel.length c, .slice B a.pre.length d]) ?_))))))))
  refine Zc (k := 182) (args := #[.agg #[.slice A a.rel.length c, .slice B a.pre.length d]]) (.bool a.may) (fun w hO => nY A B c d a w (hs.on hO.below hO.size) ca) ?_
  cases h1 : a.may with
  | true =>
    refine Zv (.bool false) (Zv (.bool false) (Zl 1 ⟨b2, #[.slice A' b.rel.length c', .slice B' b.pre.length d'], 31⟩ (off := 0) (.agg #[.slice A' b.rel.length c', .slice B' b.pre.length d']) (Zc (k := 182) (args := #[.agg #[.slice A' b.rel.length c', .slice B' b.pre.length d']]) (.bool b.may) (fun w hO => nY A' B' c' d' b w (ht.on hO.below hO.size) cb) ?_)))
    cases h2 : b.may with
    | true =>
      refine Zv (.bool false) (Zv (.bool false) (ZX (ZB (z7 (kM [⟨b2, #[.slice A' b.rel.length c', .slice B' b.pre.length d'], 31⟩, ⟨b1, #[.slice A a.rel.length c, .slice B a.pre.length d], 31⟩] (by kernel_rfl) (fun w hO => Own.sub [⟨b3, #[.slice none 0 0, .slice none 0 0], 31⟩] hO) (ZT 0 [⟨b3, #[.slice none 0 0, .slice none 0 0], 31⟩] _ (.func (.func 83) #[] #[]) (zF zG) rfl (ZT 1 [⟨b3, #[.slice none 0 0, .slice none 0 0], 31⟩] _ (.pointer (some ⟨b1, 0, none⟩)) (zF zG) rfl (ZL 2 [⟨b3, #[.slice none 0 0, .slice none 0 0], 31⟩] _ 1 ⟨b1, #[.slice A a.rel.length c, .slice B a.pre.length d], 31⟩ (off := 0) (.slice A a.rel.length c) (zF zG) rfl rfl ?_))))))))
      refine ZT 3 [⟨b3, #[.slice none 0 0, .slice none 0 0], 31⟩] _ (.pointer (some ⟨b2, 0, none⟩)) (zF zG) rfl (ZL 4 [⟨b3, #[.slice none 0 0, .slice none 0 0], 31⟩] _ 0 ⟨b2, #[.slice A' b.rel.length c', .slice B' b.pre.length d'], 31⟩ (off := 0) (.slice A' b.rel.length c') (zF zG) rfl rfl (ZT 6 [⟨b3, #[.slice none 0 0, .slice none 0 0], 31⟩] _ (.func (.func 83) #[] #[]) (zF zG) rfl (ZT 7 [⟨b3, #[.slice none 0 0, .slice none 0 0], 31⟩] _ (.pointer (some ⟨b1, 1, none⟩)) (zF zG) rfl (ZL 8 [⟨b3, #[.slice none 0 0, .slice none 0 0], 31⟩] _ 1 ⟨b1, #[.slice A a.rel.length c, .slice B a.pre.length d], 31⟩ (off := 1) (.slice B a.pre.length d) (zF zG) rfl rfl (ZT 9 [⟨b3, #[.slice none 0 0, .slice none 0 0], 31⟩] _ (.pointer (some ⟨b2, 1, none⟩)) (zF zG) rfl (ZL 10 [⟨b3, #[.slice none 0 0, .slice none 0 0], 31⟩] _ 0 ⟨b2, #[.slice A' b.rel.length c', .slice B' b.pre.length d'], 31⟩ (off := 1) (.slice B' b.pre.length d') (zF zG) rfl rfl (zX 5 (by kernel_rfl) (gO _ (k := 83) (args := #[.slice A a.rel.length c, .slice A' b.rel.length c']) (fun v' L' => ∃ ob', L' = ob' ++ ([⟨b3, #[.slice none 0 0, .slice none 0 0], 31⟩] ++ ([⟨b2, #[.slice A' b.rel.length c', .slice B' b.pre.length d'], 31⟩, ⟨b1, #[.slice A a.rel.length c, .slice B a.pre.length d], 31⟩])) ∧ SlS v' (orL a.rel b.rel) ob') rfl (by kernel_rfl) (fun _ => by kernel_rfl) (fun w hO => (or4_any A A' c c' a.rel b.rel w (hs.rel.on hO.below hO.size) (ht.rel.on hO.below hO.size) (SF.of h1 hs.lr hs.lp).rel.len (SF.of h2 ht.lr ht.lp).rel.len (SF.of h1 hs.lr hs.lp).rel.short (SF.of h2 ht.lr ht.lp).rel.short).mono fun e w' ⟨v', ob', k1, k2, k3⟩ => ⟨v', _, k1, ⟨ob', rfl, by rw [if_pos (by rw [(SF.of h1 hs.lr hs.lp).rel.may, (SF.of h2 ht.lr ht.lp).rel.may]; rfl)] at k2; exact k2⟩, Own.joinN hO k3⟩) (fun v' L' ⟨ob', e, _⟩ w hO => by subst e; exact Own.sub [⟨b3, #[.slice none 0 0, .slice none 0 0], 31⟩] (Own.sub ob' hO)) (fun v1 L2 hv2 => ?_)))))))))
      obtain ⟨o1, rfl, hr1⟩ := hv2
      obtain ⟨V1, c1, rfl⟩ := hr1.form
      refine v6 (L' := (o1 ++ ([⟨b3, #[.slice none 0 0, .slice none 0 0], 31⟩] : List Blk)) ++ ([⟨b2, #[.slice A' b.rel.length c', .slice B' b.pre.length d'], 31⟩, ⟨b1, #[.slice A a.rel.length c, .slice B a.pre.length d], 31⟩])) (List.append_assoc _ _ _).symm (zX 11 (by kernel_rfl) (gO _ (k := 83) (args := #[.slice B a.pre.length d, .slice B' b.pre.length d']) (fun v' L' => ∃ ob', L' = ob' ++ ((o1 ++ ([⟨b3, #[.slice none 0 0, .slice none 0 0], 31⟩] : List Blk)) ++ ([⟨b2, #[.slice A' b.rel.length c', .slice B' b.pre.length d'], 31⟩, ⟨b1, #[.slice A a.rel.length c, .slice B a.pre.length d], 31⟩])) ∧ SlS v' (orL a.pre b.pre) ob') rfl (by kernel_rfl) (fun _ => by kernel_rfl) (fun w hO => (or4_any B B' d d' a.pre b.pre w (hs.pre.on hO.below hO.size) (ht.pre.on hO.below hO.size) (SF.of h1 hs.lr hs.lp).pre.len (SF.of h2 ht.lr ht.lp).pre.len (SF.of h1 hs.lr hs.lp).pre.short (SF.of h2 ht.lr ht.lp).pre.short).mono fun e w' ⟨v', ob', k1, k2, k3⟩ => ⟨v', _, k1, ⟨ob', rfl, by rw [if_pos (by rw [(SF.of h1 hs.lr hs.lp).pre.may, (SF.of h2 ht.lr ht.lp).pre.may]; rfl)] at k2; exact k2⟩, Own.joinN hO k3⟩) (fun v' L' ⟨ob', e, _⟩ w hO => by subst e; exact Own.sub (o1 ++ ([⟨b3, #[.slice none 0 0, .slice none 0 0], 31⟩] : List Blk)) (Own.sub ob' hO)) (fun v2 L2 hv2 => ?_)))
      obtain ⟨o2, rfl, hr2⟩ := hv2
      obtain ⟨V2, c2, rfl⟩ := hr2.form
      exact v6 (L' := (o2 ++ (o1 ++ ([⟨b3, #[.slice none 0 0, .slice none 0 0], 31⟩] : List Blk))) ++ ([⟨b2, #[.slice A' b.rel.length c', .slice B' b.pre.length d'], 31⟩, ⟨b1, #[.slice A a.rel.length c, .slice B a.pre.length d], 31⟩])) (List.append_assoc _ _ _).symm (ZT 12 (o2 ++ (o1 ++ ([⟨b3, #[.slice none 0 0, .slice none 0 0], 31⟩] : List Blk))) _ (.agg #[.slice V1 ((orL a.rel b.rel).length) c1, .slice V2 ((orL a.pre b.pre).length) c2]) (zF zG) rfl (zX 13 (by kernel_rfl) (hs_front (E' := (⟨b3, #[.slice none 0 0, .slice none 0 0], 31⟩ :: (o2 ++ (o1 ++ ([] : List Blk))))) (by simpa [List.append_assoc] using (List.perm_middle (a := ⟨b3, #[.slice none 0 0, .slice none 0 0], 31⟩) (l₁ := (o2 ++ (o1 ++ ([] : List Blk)))) (l₂ := []))) (ZS (⟨b3, #[.slice none 0 0, .slice none 0 0], 31⟩ :: (o2 ++ (o1 ++ ([] : List Blk)))) _ 0 ⟨b3, #[.slice none 0 0, .slice none 0 0], 31⟩ (off := 0) (.agg #[.slice V1 ((orL a.rel b.rel).length) c1, .slice V2 ((orL a.pre b.pre).length) c2]) rfl rfl (x3 (by kernel_rfl) (zC (zD (ZC 0 ⟨b3, #[.slice V1 ((orL a.rel b.rel).length) c1, .slice V2 ((orL a.pre b.pre).length) c2], 31⟩ (off := 0) (.agg #[.slice V1 ((orL a.rel b.rel).length) c1, .slice V2 ((orL a.pre b.pre).length) c2]) Tryz.results140 (fun w hO => ⟨_, _, rfl, by rw [if_pos (by simp [h1, h2])]; exact ⟨_, _, o1, o2, rfl, rfl, hr1, hr2⟩, own_mid hO⟩)))))))))
    | false =>
      refine Zv (.bool true) (Zv (.bool true) (ZY (ZO (Zc (k := 47) (args := #[]) (.agg #[.slice none 0 0, .slice none 0 0]) (fun w _ => qK w) (Zs 0 ⟨b3, #[.slice none 0 0, .slice none 0 0], 31⟩ (off := 0) (.agg #[.slice none 0 0, .slice none 0 0]) (ZN (zD ?_)))))))
      exact z6 (ZC 0 ⟨b3, #[.slice none 0 0, .slice none 0 0], 31⟩ (off := 0) (.agg #[.slice none 0 0, .slice none 0 0]) Tryz.results140 (fun w hO => ⟨_, [], rfl, by rw [if_neg (by simp [h1, h2])]; exact SetO.none, gZ hO⟩))
  | false =>
    refine Zv (.bool true) (Zv (.bool true) (Zk (Zk (Zk (Zv (.bool true) (ZY (ZO (Zc (k := 47) (args := #[]) (.agg #[.slice none 0 0, .slice none 0 0]) (fun w _ => qK w) ?_))))))))
    exact Zs 0 ⟨b3, #[.slice none 0 0, .slice none 0 0], 31⟩ (off := 0) (.agg #[.slice none 0 0, .slice none 0 0]) (ZN (zD (z6 (ZC 0 ⟨b3, #[.slice none 0 0, .slice none 0 0], 31⟩ (off := 0) (.agg #[.slice none 0 0, .slice none 0 0]) Tryz.results140 (fun w hO => ⟨_, [], rfl, by rw [if_neg (by simp [h1])]; exact SetO.none, gZ hO⟩)))))
theorem combNot_any (A B A' B' : Option Addr) (c d c' d' : Nat) (a b : St) (W : World) (hs : SetIn W W.heap.size A B a) (ht : SetIn W W.heap.size A' B' b) (ca : a.rel.length ≤ c ∧ a.pre.length ≤ d) (cb : b.rel.length ≤ c' ∧ b.pre.length ≤ d') : Calls Tryz.prog 140 #[.agg #[.slice A a.rel.length c, .slice B a.pre.length d], .agg #[.slice A' b.rel.length c', .slice B' b.pre.length d'], .func (.func 172) #[] #[]] W fun e w' => ∃ v' ob', e = .returned v' ∧ SetO v' (if a.may && b.may then notT a else g9) ob' ∧ Own [] W w' ob' := by
  refine zR (n := 29) Tryz.func140 rfl (by kernel_rfl) (by kernel_rfl) (ZO (Zb (.agg #[.slice A a.rel.length c, .slice B a.pre.length d]) (fun b1 => Zb (.agg #[.slice A' b.rel.length c', .slice B' b.pre.length d']) (fun b2 => Za (.agg #[.slice none 0 0, .slice none 0 0]) (fun b3 => ZN (z7 (ZO (Zl 2 ⟨b1, #[.slice A a.rel.length c, .slice B a.pre.length d], 31⟩ (off := 0) (.agg #[.slice A a.rel.length c, .slice B a.pre.length d]) ?_))))))))
  refine Zc (k := 182) (args := #[.agg #[.slice A a.rel.length c, .slice B a.pre.length d]]) (.bool a.may) (fun w hO => nY A B c d a w (hs.on hO.below hO.size) ca) ?_
  cases h1 : a.may with
  | true =>
    refine Zv (.bool false) (Zv (.bool false) (Zl 1 ⟨b2, #[.slice A' b.rel.length c', .slice B' b.pre.length d'], 31⟩ (off := 0) (.agg #[.slice A' b.rel.length c', .slice B' b.pre.length d']) (Zc (k := 182) (args := #[.agg #[.slice A' b.rel.length c', .slice B' b.pre.length d']]) (.bool b.may) (fun w hO => nY A' B' c' d' b w (ht.on hO.below hO.size) cb) ?_)))
    cases h2 : b.may with
    | true =>
      refine Zv (.bool false) (Zv (.bool false) (ZX (ZB (z7 (kM [⟨b2, #[.slice A' b.rel.length c', .slice B' b.pre.length d'], 31⟩, ⟨b1, #[.slice A a.rel.length c, .slice B a.pre.length d], 31⟩] (by kernel_rfl) (fun w hO => Own.sub [⟨b3, #[.slice none 0 0, .slice none 0 0], 31⟩] hO) (ZT 0 [⟨b3, #[.slice none 0 0, .slice none 0 0], 31⟩] _ (.func (.func 172) #[] #[]) (zF zG) rfl (ZT 1 [⟨b3, #[.slice none 0 0, .slice none 0 0], 31⟩] _ (.pointer (some ⟨b1, 0, none⟩)) (zF zG) rfl (ZL 2 [⟨b3, #[.slice none 0 0, .slice none 0 0], 31⟩] _ 1 ⟨b1, #[.slice A a.rel.length c, .slice B a.pre.length d], 31⟩ (off := 0) (.slice A a.rel.length c) (zF zG) rfl rfl ?_))))))))
      refine ZT 3 [⟨b3, #[.slice none 0 0, .slice none 0 0], 31⟩] _ (.pointer (some ⟨b2, 0, none⟩)) (zF zG) rfl (ZL 4 [⟨b3, #[.slice none 0 0, .slice none 0 0], 31⟩] _ 0 ⟨b2, #[.slice A' b.rel.length c', .slice B' b.pre.length d'], 31⟩ (off := 0) (.slice A' b.rel.length c') (zF zG) rfl rfl (ZT 6 [⟨b3, #[.slice none 0 0, .slice none 0 0], 31⟩] _ (.func (.func 172) #[] #[]) (zF zG) rfl (ZT 7 [⟨b3, #[.slice none 0 0, .slice none 0 0], 31⟩] _ (.pointer (some ⟨b1, 1, none⟩)) (zF zG) rfl (ZL 8 [⟨b3, #[.slice none 0 0, .slice none 0 0], 31⟩] _ 1 ⟨b1, #[.slice A a.rel.length c, .slice B a.pre.length d], 31⟩ (off := 1) (.slice B a.pre.length d) (zF zG) rfl rfl (ZT 9 [⟨b3, #[.slice none 0 0, .slice none 0 0], 31⟩] _ (.pointer (some ⟨b2, 1, none⟩)) (zF zG) rfl (ZL 10 [⟨b3, #[.slice none 0 0, .slice none 0 0], 31⟩] _ 0 ⟨b2, #[.slice A' b.rel.length c', .slice B' b.pre.length d'], 31⟩ (off := 1) (.slice B' b.pre.length d') (zF zG) rfl rfl (zX 5 (by kernel_rfl) (gO _ (k := 172) (args := #[.slice A a.rel.length c, .slice A' b.rel.length c']) (fun v' L' => ∃ ob', L' = ob' ++ ([⟨b3, #[.slice none 0 0, .slice none 0 0], 31⟩] ++ ([⟨b2, #[.slice A' b.rel.length c', .slice B' b.pre.length d'], 31⟩, ⟨b1, #[.slice A a.rel.length c, .slice B a.pre.length d], 31⟩])) ∧ SlS v' (vW a.rel) ob') rfl (by kernel_rfl) (fun _ => by kernel_rfl) (fun w hO => (not1_any A A' c c' a.rel b.rel w (hs.rel.on hO.below hO.size) (ht.rel.on hO.below hO.size) (SF.of h1 hs.lr hs.lp).rel (SF.of h2 ht.lr ht.lp).rel ca.1 cb.1).mono fun e w' ⟨v', ob', k1, k2, k3⟩ => ⟨v', _, k1, ⟨ob', rfl, k2⟩, Own.joinN hO k3⟩) (fun v' L' ⟨ob', e, _⟩ w hO => by subst e; exact Own.sub [⟨b3, #[.slice none 0 0, .slice none 0 0], 31⟩] (Own.sub ob' hO)) (fun v1 L2 hv2 => ?_)))))))))
      obtain ⟨o1, rfl, hr1⟩ := hv2
      obtain ⟨V1, c1, rfl⟩ := hr1.form
      refine v6 (L' := (o1 ++ ([⟨b3, #[.slice none 0 0, .slice none 0 0], 31⟩] : List Blk)) ++ ([⟨b2, #[.slice A' b.rel.length c', .slice B' b.pre.length d'], 31⟩, ⟨b1, #[.slice A a.rel.length c, .slice B a.pre.length d], 31⟩])) (List.append_assoc _ _ _).symm (zX 11 (by kernel_rfl) (gO _ (k := 172) (args := #[.slice B a.pre.length d, .slice B' b.pre.length d']) (fun v' L' => ∃ ob', L' = ob' ++ ((o1 ++ ([⟨b3, #[.slice none 0 0, .slice none 0 0], 31⟩] : List Blk)) ++ ([⟨b2, #[.slice A' b.rel.length c', .slice B' b.pre.length d'], 31⟩, ⟨b1, #[.slice A a.rel.length c, .slice B a.pre.length d], 31⟩])) ∧ SlS v' (vW a.pre) ob') rfl (by kernel_rfl) (fun _ => by kernel_rfl) (fun w hO => (not1_any B B' d d' a.pre b.pre w (hs.pre.on hO.below hO.size) (ht.pre.on hO.below hO.size) (SF.of h1 hs.lr hs.lp).pre (SF.of h2 ht.lr ht.lp).pre ca.2 cb.2).mono fun e w' ⟨v', ob', k1, k2, k3⟩ => ⟨v', _, k1, ⟨ob', rfl, k2⟩, Own.joinN hO k3⟩) (fun v' L' ⟨ob', e, _⟩ w hO => by subst e; exact Own.sub (o1 ++ ([⟨b3, #[.slice none 0 0, .slice none 0 0], 31⟩] : List Blk)) (Own.sub ob' hO)) (fun v2 L2 hv2 => ?_)))
      obtain ⟨o2, rfl, hr2⟩ := hv2
      obtain ⟨V2, c2, rfl⟩ := hr2.form
      exact v6 (L' := (o2 ++ (o1 ++ ([⟨b3, #[.slice none 0 0, .slice none 0 0], 31⟩] : List Blk))) ++ ([⟨b2, #[.slice A' b.rel.length c', .slice B' b.pre.length d'], 31⟩, ⟨b1, #[.slice A a.rel.length c, .slice B a.pre.length d], 31⟩])) (List.append_assoc _ _ _).symm (ZT 12 (o2 ++ (o1 ++ ([⟨b3, #[.slice none 0 0, .slice none 0 0], 31⟩] : List Blk))) _ (.agg #[.slice V1 ((vW a.rel).length) c1, .slice V2 ((vW a.pre).length) c2]) (zF zG) rfl (zX 13 (by kernel_rfl) (hs_front (E' := (⟨b3, #[.slice none 0 0, .slice none 0 0], 31⟩ :: (o2 ++ (o1 ++ ([] : List Blk))))) (by simpa [List.append_assoc] using (List.perm_middle (a := ⟨b3, #[.slice none 0 0, .slice none 0 0], 31⟩) (l₁ := (o2 ++ (o1 ++ ([] : List Blk)))) (l₂ := []))) (ZS (⟨b3, #[.slice none 0 0, .slice none 0 0], 31⟩ :: (o2 ++ (o1 ++ ([] : List Blk)))) _ 0 ⟨b3, #[.slice none 0 0, .slice none 0 0], 31⟩ (off := 0) (.agg #[.slice V1 ((vW a.rel).length) c1, .slice V2 ((vW a.pre).length) c2]) rfl rfl (x3 (by kernel_rfl) (zC (zD (ZC 0 ⟨b3, #[.slice V1 ((vW a.rel).length) c1, .slice V2 ((vW a.pre).length) c2], 31⟩ (off := 0) (.agg #[.slice V1 ((vW a.rel).length) c1, .slice V2 ((vW a.pre).length) c2]) Tryz.results140 (fun w hO => ⟨_, _, rfl, by rw [if_pos (by simp [h1, h2])]; exact ⟨_, _, o1, o2, rfl, rfl, hr1, hr2⟩, own_mid hO⟩)))))))))
    | false =>
      refine Zv (.bool true) (Zv (.bool true) (ZY (ZO (Zc (k := 47) (args := #[]) (.agg #[.slice none 0 0, .slice none 0 0]) (fun w _ => qK w) (Zs 0 ⟨b3, #[.slice none 0 0, .slice none 0 0], 31⟩ (off := 0) (.agg #[.slice none 0 0, .slice none 0 0]) (ZN (zD ?_)))))))
      exact z6 (ZC 0 ⟨b3, #[.slice none 0 0, .slice none 0 0], 31⟩ (off := 0) (.agg #[.slice none 0 0, .slice none 0 0]) Tryz.results140 (fun w hO => ⟨_, [], rfl, by rw [if_neg (by simp [h1, h2])]; exact SetO.none, gZ hO⟩))
  | false =>
    refine Zv (.bool true) (Zv (.bool true) (Zk (Zk (Zk (Zv (.bool true) (ZY (ZO (Zc (k := 47) (args := #[]) (.agg #[.slice none 0 0, .slice none 0 0]) (fun w _ => qK w) ?_))))))))
    exact Zs 0 ⟨b3, #[.slice none 0 0, .slice none 0 0], 31⟩ (off := 0) (.agg #[.slice none 0 0, .slice none 0 0]) (ZN (zD (z6 (ZC 0 ⟨b3, #[.slice none 0 0, .slice none 0 0], 31⟩ (off := 0) (.agg #[.slice none 0 0, .slice none 0 0]) Tryz.results140 (fun w hO => ⟨_, [], rfl, by rw [if_neg (by simp [h1])]; exact SetO.none, gZ hO⟩)))))
end
section
theorem tA {M : List Nat} {W w : World} {x : Blk} {A L : List Blk} (h : Own M W w (A ++ (x :: L))) : Own M W w (x :: A) :=
  (h.sublist ((List.Sublist.refl A).append (List.Sublist.cons_cons x (List.nil_sublist L)))).perm (List.perm_append_comm (l₁ := A) (l₂ := [x]))
theorem own_tl {M : List Nat} {W w : World} {x : Blk} {A : List Blk} (h : Own M W w (x :: A)) : Own M W w A := h.sublist (List.sublist_cons_self x A)
theorem notT_none : notT g9 = allT := St.eq not_nil not_nil
theorem sOr_any (A B A' B' : Option Addr) (c d c' d' : Nat) (a b : St) (W : World) (hs : SetIn W W.heap.size A B a) (ht : SetIn W W.heap.size A' B' b) (ca : a.rel.length ≤ c ∧ a.pre.length ≤ d) (cb : b.rel.length ≤ c' ∧ b.pre.length ≤ d') : Calls Tryz.prog 86 #[.agg #[.slice A a.rel.length c, .slice B a.pre.length d], .agg #[.slice A' b.rel.length c', .slice B' b.pre.length d']] W fun e w' => ∃ v' ob', e = .returned v' ∧ SetO v' (if a.may && b.may then orT a b else g9) ob' ∧ Own [] W w' ob' := by
  refine zR (n := 8) Tryz.func86 rfl (by kernel_rfl) (by kernel_rfl) (ZO (Zb (.agg #[.slice A a.rel.length c, .slice B a.pre.length d]) (fun b1 => Zb (.agg #[.slice A' b.rel.length c', .slice B' b.pre.length d']) (fun b2 => Za (.agg #[.slice none 0 0, .slice none 0 0]) (fun b3 => ZR (Zl 2 ⟨b1, #[.slice A a.rel.length c, .slice B a.pre.length d], 31⟩ (off := 0) (.agg #[.slice A a.rel.length c, .slice B a.pre.length d]) (Zl 1 ⟨b2, #[.slice A' b.rel.length c', .slice B' b.pre.length d'], 31⟩ (off := 0) (.agg #[.slice A' b.rel.length c', .slice B' b.pre.length d']) ?_)))))))
  refine yD (k := 140) (args := #[.agg #[.slice A a.rel.length c, .slice B a.pre.length d], .agg #[.slice A' b.rel.length c', .slice B' b.pre.length d'], .func (.func 83) #[] #[]]) (fun v' L' => ∃ ob', L' = ob' ++ ([⟨b3, #[.slice none 0 0, .slice none 0 0], 31⟩, ⟨b2, #[.slice A' b.rel.length c', .slice B' b.pre.length d'], 31⟩, ⟨b1, #[.slice A a.rel.length c, .slice B a.pre.length d], 31⟩]) ∧ SetO v' (if a.may && b.may then orT a b else g9) ob') (by kernel_rfl) (fun _ => by kernel_rfl) (fun w hO => (combOr_any A B A' B' c d c' d' a b w (hs.on hO.below hO.size) (ht.on hO.below hO.size) ca cb).mono fun e w' ⟨v', ob', k1, k2, k3⟩ => ⟨v', _, k1, ⟨ob', rfl, k2⟩, Own.joinN hO k3⟩) (fun v1 L1 hv1 => ?_)
  obtain ⟨o1, rfl, hr1⟩ := hv1
  obtain ⟨V1, U1, c1, d1, rfl⟩ := hr1.form
  exact vY (L' := ⟨b3, #[.slice none 0 0, .slice none 0 0], 31⟩ :: o1) (fun w hO => tA hO) (Zs 0 ⟨b3, #[.slice none 0 0, .slice none 0 0], 31⟩ (off := 0) (.agg #[.slice V1 (((if a.may && b.may then orT a b else g9)).rel.length) c1, .slice U1 (((if a.may && b.may then orT a b else g9)).pre.length) d1]) (ZN (zD (ZC 0 ⟨b3, #[.slice V1 (((if a.may && b.may then orT a b else g9)).rel.length) c1, .slice U1 (((if a.may && b.may then orT a b else g9)).pre.length) d1], 31⟩ (off := 0) (.agg #[.slice V1 (((if a.may && b.may then orT a b else g9)).rel.length) c1, .slice U1 (((if a.may && b.may then orT a b else g9)).pre.length) d1]) Tryz.results86 (fun w hO => ⟨_, o1, rfl, hr1, own_tl hO⟩)))))
theorem sNot_any (A B : Option Addr) (c d : Nat) (a : St) (W : World) (hs : SetIn W W.heap.size A B a) (ca : a.rel.length ≤ c ∧ a.pre.length ≤ d) : Calls Tryz.prog 128 #[.agg #[.slice A a.rel.length c, .slice B a.pre.length d]] W fun e w' => ∃ v' ob', e = .returned v' ∧ SetO v' (if a.may then notT a else g9) ob' ∧ Own [] W w' ob' := by
  refine zR (n := 6) Tryz.func128 rfl (by kernel_rfl) (by kernel_rfl) (ZO (Zb (.agg #[.slice A a.rel.length c, .slice B a.pre.length d]) (fun b1 => Za (.agg #[.slice none 0 0, .slice none 0 0]) (fun b2 => ZR (Zl 1 ⟨b1, #[.slice A a.rel.length c, .slice B a.pre.length d], 31⟩ (off := 0) (.agg #[.slice A a.rel.length c, .slice B a.pre.length d]) (Zl 1 ⟨b1, #[.slice A a.rel.length c, .slice B a.pre.length d], 31⟩ (off := 0) (.agg #[.slice A a.rel.length c, .slice B a.pre.length d]) (yD (k := 140) (args := #[.agg #[.slice A a.rel.length c, .slice B a.pre.length d], .agg #[.slice A a.rel.length c, .slice B a.pre.length d], .func (.func 172) #[] #[]]) (fun v' L' => ∃ ob', L' = ob' ++ ([⟨b2, #[.slice none 0 0, .slice none 0 0], 31⟩, ⟨b1, #[.slice A a.rel.length c, .slice B a.pre.length d], 31⟩]) ∧ SetO v' (if a.may then notT a else g9) ob') (by kernel_rfl) (fun _ => by kernel_rfl) (fun w hO => (combNot_any A B A B c d c d a a w (hs.on hO.below hO.size) (hs.on hO.below hO.size) ca ca).mono fun e w' ⟨v', ob', k1, k2, k3⟩ => ⟨v', _, k1, ⟨ob', rfl, by rw [Bool.and_self] at k2; exact k2⟩, Own.joinN hO k3⟩) (fun v1 L1 hv1 => ?_))))))))
  obtain ⟨o1, rfl, hr1⟩ := hv1
  obtain ⟨V1, U1, c1, d1, rfl⟩ := hr1.form
  exact vY (L' := ⟨b2, #[.slice none 0 0, .slice none 0 0], 31⟩ :: o1) (fun w hO => tA hO) (Zs 0 ⟨b2, #[.slice none 0 0, .slice none 0 0], 31⟩ (off := 0) (.agg #[.slice V1 (((if a.may then notT a else g9)).rel.length) c1, .slice U1 (((if a.may then notT a else g9)).pre.length) d1]) (ZN (zD (ZC 0 ⟨b2, #[.slice V1 (((if a.may then notT a else g9)).rel.length) c1, .slice U1 (((if a.may then notT a else g9)).pre.length) d1], 31⟩ (off := 0) (.agg #[.slice V1 (((if a.may then notT a else g9)).rel.length) c1, .slice U1 (((if a.may then notT a else g9)).pre.length) d1]) Tryz.results128 (fun w hO => ⟨_, o1, rfl, hr1, own_tl hO⟩)))))
theorem sAll_any (W : World) : Calls Tryz.prog 80 #[] W fun e w' => ∃ v' ob', e = .returned v' ∧ SetO v' (allT) ob' ∧ Own [] W w' ob' := by
  refine zR (n := 3) Tryz.func80 rfl (by kernel_rfl) (by kernel_rfl) (ZO (Za (.agg #[.slice none 0 0, .slice none 0 0]) (fun b1 => ZR (Zc (k := 47) (args := #[]) (.agg #[.slice none 0 0, .slice none 0 0]) (fun w _ => qK w) (yD (k := 128) (args := #[.agg #[.slice none 0 0, .slice none 0 0]]) (fun v' L' => ∃ ob', L' = ob' ++ ([⟨b1, #[.slice none 0 0, .slice none 0 0], 31⟩]) ∧ SetO v' (allT) ob') (by kernel_rfl) (fun _ => by kernel_rfl) (fun w hO => (sNot_any none none 0 0 g9 w (none_in _ _) ⟨Nat.le_refl 0, Nat.le_refl 0⟩).mono fun e w' ⟨v', ob', k1, k2, k3⟩ => ⟨v', _, k1, ⟨ob', rfl, by rw [if_pos none_sf.may, notT_none] at k2; exact k2⟩, Own.joinN hO k3⟩) (fun v1 L1 hv1 => ?_))))))
  obtain ⟨o1, rfl, hr1⟩ := hv1
  obtain ⟨V1, U1, c1, d1, rfl⟩ := hr1.form
  exact vY (L' := ⟨b1, #[.slice none 0 0, .slice none 0 0], 31⟩ :: o1) (fun w hO => tA hO) (Zs 0 ⟨b1, #[.slice none 0 0, .slice none 0 0], 31⟩ (off := 0) (.agg #[.slice V1 ((allT).rel.length) c1, .slice U1 ((allT).pre.length) d1]) (ZN (zD (ZC 0 ⟨b1, #[.slice V1 ((allT).rel.length) c1, .slice U1 ((allT).pre.length) d1], 31⟩ (off := 0) (.agg #[.slice V1 ((allT).rel.length) c1, .slice U1 ((allT).pre.length) d1]) Tryz.results80 (fun w hO => ⟨_, o1, rfl, hr1, own_tl hO⟩)))))
end
section
theorem own_mk5 {M : List Nat} {W w : World} {x y : Blk} {A B : List Blk} (h : Own M W w (A ++ (x :: (B ++ [y])))) : Own M W w (x :: y :: A) :=
  (h.sublist ((List.Sublist.refl A).append (List.Sublist.cons_cons x (List.sublist_append_right B [y])))).perm (List.perm_append_comm (l₁ := A) (l₂ := [x, y]))
theorem own_mk6 {M : List Nat} {W w : World} {x y : Blk} {A B : List Blk} (h : Own M W w (A ++ (x :: y :: B))) : Own M W w (x :: y :: (A ++ B)) :=
  h.perm (by
    have e : A ++ ([x, y] ++ B) = A ++ [x, y] ++ B := (List.append_assoc ..).symm
    show (A ++ ([x, y] ++ B)).Perm ([x, y] ++ (A ++ B))
    rw [e, ← List.append_assoc]
    exact List.Perm.append_right B List.perm_append_comm)
theorem sMake_any (A B : Option Addr) (c d : Nat) (l q : List Sp) (W : World) (hv : Reads yT W W.heap.size A l) (hu : Reads yT W W.heap.size B q) (hn : l.length ≤ 100000) (hk : q.length ≤ 100000) (hl : yU l) (hm : yU q) (ca : l.length ≤ c) (cb : q.length ≤ d) :
    Calls Tryz.prog 85 #[.slice A l.length c, .slice B q.length d] W fun e w' => ∃ v' ob', e = .returned (.tuple #[v', .bool (zK l && zK q)]) ∧ SetO v' (if zK l && zK q then ⟨gG l, q⟩ else g9) ob' ∧ Own [] W w' ob' := by
  refine zR (n := 52) Tryz.func85 rfl (by kernel_rfl) (by kernel_rfl) (ZO (Za (.agg #[.slice none 0 0, .slice none 0 0]) (fun b1 => Zv (.bool false) (ZN (z7 (ZO (Zv (.slice A l.length c) (Zc (k := 129) (args := #[.slice A l.length c]) (.bool (zK l)) (fun w hO => j7 A c l w (hv.on hO.below hO.below.size) (Nat.le_trans hn (by decide)) hl) ?_))))))))
  cases h1 : zK l with
  | true =>
    refine Zv (.bool false) (Zv (.bool false) (Zv (.slice B q.length d) (Zc (k := 129) (args := #[.slice B q.length d]) (.bool (zK q)) (fun w hO => j7 B d q w (hu.on hO.below hO.below.size) (Nat.le_trans hk (by decide)) hm) ?_)))
    cases h2 : zK q with
    | true =>
      refine Zv (.bool false) (Zv (.bool false) (ZX (ZB (ZO (Zv (.slice none 0 0) (zT (zC ?_)))))))
      refine z7 (ZO (Zv (.slice A l.length c) (Zv (.int .i64 (l.length : Int)) (Zv (.int .i64 0) (ZN (zN (q5 (L' := [] ++ [⟨b1, #[.slice none 0 0, .slice none 0 0], 31⟩]) rfl (x9 (fun L f m => ∃ (k : Nat) (u : Value) (acc : List Sp) (ob : List Blk) (j : Nat → Value), (MkI l k u acc ob) ∧ L = ob ++ [⟨b1, #[.slice none 0 0, .slice none 0 0], 31⟩] ∧ f = g7 j [(1, .slice B q.length d), (4, .pointer (some ⟨b1, 0, none⟩)), (6, u), (19, .slice A l.length c), (20, .int .i64 (l.length : Int)), (21, .int .i64 (k : Int))] ∧ m = l.length - k) (l.length - 0) ⟨0, _, [], [], _, ⟨Nat.zero_le _, Sl.nil _ _, rfl⟩, rfl, ZU, rfl⟩ ?_))))))))
      rintro L f m ⟨k, u, acc, ob, j, hrel, rfl, rfl, rfl⟩
      have hkl := hrel.le
      refine z7 (zB ?_)
      by_cases h3 : (k : Int) < (l.length : Int)
      · have hlk : k < l.length := by omega
        obtain ⟨b, off, hA, hlt, hcell⟩ := hv (by omega)
        obtain ⟨s, he⟩ : ∃ s, l[k] = s := ⟨_, rfl⟩
        have hsk : s.short := he ▸ hl _ (List.getElem_mem _)
        have hsm : s.lo.may = true ∧ s.hi.may = true := zZ (he ▸ x4 h1 _ (List.getElem_mem _))
        obtain ⟨x, hx⟩ : ∃ x, kC s.lo = x := ⟨_, rfl⟩
        obtain ⟨y, hy⟩ : ∃ y, kC s.hi = y := ⟨_, rfl⟩
        have hxS : x.short := hx ▸ turn_short hsk.1
        have hyS : y.short := hy ▸ turn_short hsk.2
        refine Zd (p := (k : Int) < (l.length : Int)) true (decide_eq_true (h3)) (ZN (z7 (Zt (ZB (z7 (zN (ZO (y5 (.pointer (some ⟨b, off + k * 14, none⟩)) (by kernel_rfl) (ZA (b := b) (off := off) (c := c) (n := l.length) (k := .i64) (j := (k : Int)) (e := 80) (sz := 14) hA) ?_))))))))
        refine Zo (yF s) (a := ⟨b, off + k * 14, none⟩) (fun w hO => yP zV (fun j u h => (hO.below.cell (p := ⟨b, off + j, none⟩) hlt).trans (hcell j u h)) k 0 hlk (by omega) _ (by rw [he]; kernel_rfl)) (Za (.agg #[.int .i64 0, .int .i64 0, .int .i64 0, .int .i64 0, .string ⟨#[]⟩, .string ⟨#[]⟩, .bool false, .int .i64 0, .int .i64 0, .int .i64 0, .int .i64 0, .string ⟨#[]⟩, .string ⟨#[]⟩, .bool false]) (fun b2 => Zs 0 ⟨b2, #[.int .i64 0, .int .i64 0, .int .i64 0, .int .i64 0, .string ⟨#[]⟩, .string ⟨#[]⟩, .bool false, .int .i64 0, .int .i64 0, .int .i64 0, .int .i64 0, .string ⟨#[]⟩, .string ⟨#[]⟩, .bool false], 80⟩ (off := 0) (yF s) (ZN (z7 (ok_drawt 7 (by kernel_rfl) (by kernel_rfl) (by kernel_rfl) ?_)))))
        simp only [List.take_succ_cons, List.take_zero, List.drop_succ_cons, List.drop_zero]
        refine Zw (.pointer (some ⟨b2, 0, none⟩)) (Zm 0 ⟨b2, (yF s).cells, 80⟩ (off := 0) (.agg #[.int .i64 s.lo.e, .int .i64 s.lo.v.maj, .int .i64 s.lo.v.min, .int .i64 s.lo.v.pat, .string (mkS s.lo.v.pre), .string (mkS s.lo.v.build), .bool s.lo.aft]) (Zq (k := 138) (args := #[.agg #[.int .i64 s.lo.e, .int .i64 s.lo.v.maj, .int .i64 s.lo.v.min, .int .i64 s.lo.v.pat, .string (mkS s.lo.v.pre), .string (mkS s.lo.v.build), .bool s.lo.aft]]) (zA x) (fun w _ => bG (by rw [hx]) (pV s.lo w hsk.1 hsm.1)) (Zw (.pointer (some ⟨b2, 7, none⟩)) (Zm 0 ⟨b2, (yF s).cells, 80⟩ (off := 7) (.agg #[.int .i64 s.hi.e, .int .i64 s.hi.v.maj, .int .i64 s.hi.v.min, .int .i64 s.hi.v.pat, .string (mkS s.hi.v.pre), .string (mkS s.hi.v.build), .bool s.hi.aft]) (Zq (k := 138) (args := #[.agg #[.int .i64 s.hi.e, .int .i64 s.hi.v.maj, .int .i64 s.hi.v.min, .int .i64 s.hi.v.pat, .string (mkS s.hi.v.pre), .string (mkS s.hi.v.build), .bool s.hi.aft]]) (zA y) (fun w _ => bG (by rw [hy]) (pV s.hi w hsk.2 hsm.2)) (Zw (.agg #[.int .i64 x.e, .int .i64 x.v.maj, .int .i64 x.v.min, .int .i64 x.v.pat, .string (mkS x.v.pre), .string (mkS x.v.build), .bool x.aft, .int .i64 y.e, .int .i64 y.v.maj, .int .i64 y.v.min, .int .i64 y.v.pat, .string (mkS y.v.pre), .string (mkS y.v.build), .bool y.aft]) (g0 (Zs 0 ⟨b2, (yF s).cells, 80⟩ (off := 0) (.agg #[.int .i64 x.e, .int .i64 x.v.maj, .int .i64 x.v.min, .int .i64 x.v.pat, .string (mkS x.v.pre), .string (mkS x.v.build), .bool x.aft, .int .i64 y.e, .int .i64 y.v.maj, .int .i64 y.v.min, .int .i64 y.v.pat, .string (mkS y.v.pre), .string (mkS y.v.build), .bool y.aft]) (ZN (z7 ?_))))))))))
        refine zB (Zl 0 ⟨b2, #[.int .i64 x.e, .int .i64 x.v.maj, .int .i64 x.v.min, .int .i64 x.v.pat, .string (mkS x.v.pre), .string (mkS x.v.build), .bool x.aft, .int .i64 y.e, .int .i64 y.v.maj, .int .i64 y.v.min, .int .i64 y.v.pat, .string (mkS y.v.pre), .string (mkS y.v.build), .bool y.aft], 80⟩ (off := 0) (.agg #[.int .i64 x.e, .int .i64 x.v.maj, .int .i64 x.v.min, .int .i64 x.v.pat, .string (mkS x.v.pre), .string (mkS x.v.build), .bool x.aft, .int .i64 y.e, .int .i64 y.v.maj, .int .i64 y.v.min, .int .i64 y.v.pat, .string (mkS y.v.pre), .string (mkS y.v.build), .bool y.aft]) (Zc (k := 139) (args := #[.agg #[.int .i64 x.e, .int .i64 x.v.maj, .int .i64 x.v.min, .int .i64 x.v.pat, .string (mkS x.v.pre), .string (mkS x.v.build), .bool x.aft, .int .i64 y.e, .int .i64 y.v.maj, .int .i64 y.v.min, .int .i64 y.v.pat, .string (mkS y.v.pre), .string (mkS y.v.build), .bool y.aft]]) (.bool ((⟨x, y⟩ : Sp).may)) (fun w _ => wH ⟨x, y⟩ w ⟨hxS, hyS⟩) (zT (zC ?_))))
        cases h4 : (⟨x, y⟩ : Sp).may with
        | true =>
          refine Zt (zB (Zv (u) (Zl 0 ⟨b2, #[.int .i64 x.e, .int .i64 x.v.maj, .int .i64 x.v.min, .int .i64 x.v.pat, .string (mkS x.v.pre), .string (mkS x.v.build), .bool x.aft, .int .i64 y.e, .int .i64 y.v.maj, .int .i64 y.v.min, .int .i64 y.v.pat, .string (mkS y.v.pre), .string (mkS y.v.build), .bool y.aft], 80⟩ (off := 0) (.agg #[.int .i64 x.e, .int .i64 x.v.maj, .int .i64 x.v.min, .int .i64 x.v.pat, .string (mkS x.v.pre), .string (mkS x.v.build), .bool x.aft, .int .i64 y.e, .int .i64 y.v.maj, .int .i64 y.v.min, .int .i64 y.v.pat, .string (mkS y.v.pre), .string (mkS y.v.build), .bool y.aft]) (jE 80 #[.int .i64 x.e, .int .i64 x.v.maj, .int .i64 x.v.min, .int .i64 x.v.pat, .string (mkS x.v.pre), .string (mkS x.v.build), .bool x.aft, .int .i64 y.e, .int .i64 y.v.maj, .int .i64 y.v.min, .int .i64 y.v.pat, .string (mkS y.v.pre), .string (mkS y.v.build), .bool y.aft] (by kernel_rfl) rfl (fun _ => by kernel_rfl) (fun b3 => ?_)))))
          obtain ⟨i0, z0, e1, e2, e3, e4, e5⟩ := gI
          have hln : acc.length ≤ k := by rw [hrel.eq]; exact turnL_len l k
          refine kA (L' := [⟨b3, #[.int .i64 x.e, .int .i64 x.v.maj, .int .i64 x.v.min, .int .i64 x.v.pat, .string (mkS x.v.pre), .string (mkS x.v.build), .bool x.aft, .int .i64 y.e, .int .i64 y.v.maj, .int .i64 y.v.min, .int .i64 y.v.pat, .string (mkS y.v.pre), .string (mkS y.v.build), .bool y.aft], 80⟩, ⟨b2, #[.int .i64 x.e, .int .i64 x.v.maj, .int .i64 x.v.min, .int .i64 x.v.pat, .string (mkS x.v.pre), .string (mkS x.v.build), .bool x.aft, .int .i64 y.e, .int .i64 y.v.maj, .int .i64 y.v.min, .int .i64 y.v.pat, .string (mkS y.v.pre), .string (mkS y.v.build), .bool y.aft], 80⟩] ++ ob ++ [⟨b1, #[.slice none 0 0, .slice none 0 0], 31⟩]) (by rw [List.append_assoc]; kernel_rfl) (q7 (sz := 14) (by kernel_rfl) rfl Tryz.underlying29 e1 e2 e3 e4 (by kernel_rfl) hrel.sl (a := ⟨b3, 0, none⟩) (m := 1) (c := 1) (news := yT ⟨x, y⟩) (by kernel_rfl) rfl (fun w hO j u hj => ?_) (kD _) (by unfold maxLen; omega) (by rw [e5]; omega) (fun u2 ob2 hu2 => ?_))
          · rw [x6, cell_of_row w b3 (0 + j) (yT ⟨x, y⟩).toArray 80 _ (hO.held ⟨b3, (yT ⟨x, y⟩).toArray, 80⟩ (List.mem_append_left _ (List.mem_append_left _ (List.mem_cons_self ..))))]; simpa using hj
          exact Zv (u2) (zT (zS (zC (zB (Zu (k := .i64) (((k + 1 : Nat) : Int)) (IntWalk.i64_in _ (by omega)) (Zv (.int .i64 ((k + 1 : Nat) : Int)) (zT (kF (L' := ob2 ++ [⟨b1, #[.slice none 0 0, .slice none 0 0], 31⟩]) (fun w hO => own_drop hO) (zW (m' := l.length - (k + 1)) (by omega) ⟨k + 1, u2, _, ob2, _, hrel.grow hlk he hx hy (by assumption) hu2, rfl, ZU, rfl⟩)))))))))
        | false =>
          exact Zf (xB (zS (zC (zB (Zu (k := .i64) (((k + 1 : Nat) : Int)) (IntWalk.i64_in _ (by omega)) (Zv (.int .i64 ((k + 1 : Nat) : Int)) (zT (kF (L' := ob ++ [⟨b1, #[.slice none 0 0, .slice none 0 0], 31⟩]) (fun w hO => Own.sub [_] hO) (zW (m' := l.length - (k + 1)) (by omega) ⟨k + 1, u, acc, ob, _, hrel.keep hlk he hx hy (by assumption), rfl, ZU, rfl⟩)))))))))
      refine Zd (p := (k : Int) < (l.length : Int)) false (decide_eq_false (h3)) (ZN (z7 (Zf (y7 (z8 (zQ (zJ (zC (z7 (zB ?_))))))))))
      refine Za (.agg #[.slice none 0 0, .slice none 0 0]) (fun b2 => ZR (Zv (u) ?_))
      have hke : acc = (l.map jD).filter (·.may) := by have h := hrel.eq; unfold nQ at h; rwa [List.take_of_length_le (by omega)] at h
      have hall : xL acc = true := allMay_mem.2 (by rw [hrel.eq]; exact turnL_may l k)
      have hsh : yU acc := fun s hs => sp_short (allMay_mem.1 hall s hs)
      have hln : acc.length ≤ k := by rw [hrel.eq]; exact turnL_len l k
      have hsl := hrel.sl
      clear hrel
      obtain ⟨C, cc, rfl⟩ := hsl.form
      refine yD (k := 136) (args := #[.slice C acc.length cc]) (fun v' L' => ∃ mv ob', v' = .tuple #[mv, .bool true] ∧ L' = ob' ++ (⟨b2, #[.slice none 0 0, .slice none 0 0], 31⟩ :: (ob ++ ([⟨b1, #[.slice none 0 0, .slice none 0 0], 31⟩]))) ∧ SlS mv (gG l) ob') (by kernel_rfl) (fun _ => by kernel_rfl) (fun w hO => (fQ C cc acc w (Sl.reads hsl rfl hO (fun x hx => by simp [hx])) (by omega) hsh).mono fun e w' ⟨v', ob', k1, k2, k3⟩ => ⟨_, _, k1, ⟨v', ob', by rw [hall], rfl, by rw [hall, if_pos rfl, hke] at k2; exact k2⟩, Own.joinN hO k3⟩) (fun tv L2 hv2 => ?_)
      obtain ⟨v2, o2, rfl, rfl, hr2⟩ := hv2
      obtain ⟨V2, c2, rfl⟩ := hr2.form
      refine vY (L' := ⟨b2, #[.slice none 0 0, .slice none 0 0], 31⟩ :: ⟨b1, #[.slice none 0 0, .slice none 0 0], 31⟩ :: o2) (fun w hO => own_mk5 hO) (Zv (.tuple #[.slice V2 ((gG l).length) c2, .bool true]) (Zv (.slice V2 ((gG l).length) c2) (Zv (.bool true) (Zv (.pointer (some ⟨b2, 0, none⟩)) (Zs 0 ⟨b2, #[.slice none 0 0, .slice none 0 0], 31⟩ (off := 0) (.slice V2 ((gG l).length) c2) (ZR (Zv (.slice B q.length d) ?_)))))))
      have hqa : xL q = true := allMay_mem.2 (x4 h2)
      refine yD (k := 136) (args := #[.slice B q.length d]) (fun v' L' => ∃ mv ob', v' = .tuple #[mv, .bool true] ∧ L' = ob' ++ (⟨b2, #[.slice V2 ((gG l).length) c2, .slice none 0 0], 31⟩ :: (⟨b1, #[.slice none 0 0, .slice none 0 0], 31⟩ :: (o2))) ∧ SlS mv q ob') (by kernel_rfl) (fun _ => by kernel_rfl) (fun w hO => (fQ B d q w (hu.on hO.below hO.below.size) (Nat.le_trans hk (by decide)) hm).mono fun e w' ⟨v', ob', k1, k2, k3⟩ => ⟨_, _, k1, ⟨v', ob', by rw [hqa], rfl, by rw [hqa, if_pos rfl, make_self h2] at k2; exact k2⟩, Own.joinN hO k3⟩) (fun tv L3 hv3 => ?_)
      obtain ⟨v3, o3, rfl, rfl, hr3⟩ := hv3
      obtain ⟨V3, c3, rfl⟩ := hr3.form
      refine vY (L' := ⟨b2, #[.slice V2 ((gG l).length) c2, .slice none 0 0], 31⟩ :: ⟨b1, #[.slice none 0 0, .slice none 0 0], 31⟩ :: (o3 ++ o2)) (fun w hO => own_mk6 hO) (Zv (.tuple #[.slice V3 q.length c3, .bool true]) (Zv (.slice V3 q.length c3) (Zv (.bool true) (Zv (.pointer (some ⟨b2, 1, none⟩)) (Zs 0 ⟨b2, #[.slice V2 ((gG l).length) c2, .slice none 0 0], 31⟩ (off := 1) (.slice V3 q.length c3) (ZR (Zl 0 ⟨b2, #[.slice V2 ((gG l).length) c2, .slice V3 q.length c3], 31⟩ (off := 0) (.agg #[.slice V2 ((gG l).length) c2, .slice V3 q.length c3]) (Zs 1 ⟨b1, #[.slice none 0 0, .slice none 0 0], 31⟩ (off := 0) (.agg #[.slice V2 ((gG l).length) c2, .slice V3 q.length c3]) ?_))))))))
      exact Zv (.bool true) (ZN (zD (ZD 1 ⟨b1, #[.slice V2 ((gG l).length) c2, .slice V3 q.length c3], 31⟩ (off := 0) (.agg #[.slice V2 ((gG l).length) c2, .slice V3 q.length c3]) (.bool true) Tryz.results85 (fun w hO => ⟨_, _, rfl, by rw [if_pos (by simp [h1, h2])]; exact ⟨_, _, o2, o3, rfl, rfl, hr2, hr3⟩, own_tl (own_tl hO)⟩))))
    | false =>
      refine Zv (.bool true) (Zv (.bool true) (ZY (ZO (Zc (k := 47) (args := #[]) (.agg #[.slice none 0 0, .slice none 0 0]) (fun w _ => qK w) (Zs 0 ⟨b1, #[.slice none 0 0, .slice none 0 0], 31⟩ (off := 0) (.agg #[.slice none 0 0, .slice none 0 0]) (Zv (.bool false) (zT (zC ?_))))))))
      exact zD (z6 (ZD 0 ⟨b1, #[.slice none 0 0, .slice none 0 0], 31⟩ (off := 0) (.agg #[.slice none 0 0, .slice none 0 0]) (.bool false) Tryz.results85 (fun w hO => ⟨_, [], by first | rfl | (simp [h1, h2]; done), by rw [if_neg (by simp [h1, h2])]; exact SetO.none, gZ hO⟩)))
  | false =>
    refine Zv (.bool true) (Zv (.bool true) (Zk (Zk (Zk (Zv (.bool true) (ZY (ZO (Zc (k := 47) (args := #[]) (.agg #[.slice none 0 0, .slice none 0 0]) (fun w _ => qK w) ?_))))))))
    exact Zs 0 ⟨b1, #[.slice none 0 0, .slice none 0 0], 31⟩ (off := 0) (.agg #[.slice none 0 0, .slice none 0 0]) (Zv (.bool false) (ZN (zD (z6 (ZD 0 ⟨b1, #[.slice none 0 0, .slice none 0 0], 31⟩ (off := 0) (.agg #[.slice none 0 0, .slice none 0 0]) (.bool false) Tryz.results85 (fun w hO => ⟨_, [], by first | rfl | (simp [h1]; done), by rw [if_neg (by simp [h1])]; exact SetO.none, gZ hO⟩))))))
end
section
section
variable {M : List Nat} {W w : World} {x y z : Blk} {A B C D E F G : List Blk}
theorem own_ev1 (h : Own M W w (A ++ (B ++ (C ++ (D ++ (x :: (E ++ (F ++ [y])))))))) : Own M W w (C ++ (A ++ [y])) := by
  have h0 : [y].Sublist (D ++ (x :: (E ++ (F ++ [y])))) := (((List.sublist_append_right F [y]).trans (List.sublist_append_right E _)).trans (List.sublist_cons_self x _)).trans (List.sublist_append_right D _)
  have h1 : Own M W w (A ++ (C ++ [y])) := h.sublist (List.Sublist.append (List.Sublist.refl A) ((List.Sublist.append (List.Sublist.refl C) h0).trans (List.sublist_append_right B _)))
  exact h1.perm (by rw [← List.append_assoc, ← List.append_assoc]; exact List.Perm.append_right [y] List.perm_append_comm)
theorem own_ev2 (h : Own M W w (x :: (A ++ (B ++ (E ++ (F ++ [y])))))) : Own M W w (x :: y :: A) := by
  have h0 : [y].Sublist (B ++ (E ++ (F ++ [y]))) := ((List.sublist_append_right F [y]).trans (List.sublist_append_right E _)).trans (List.sublist_append_right B _)
  have h1 : Own M W w (x :: (A ++ [y])) := h.sublist (List.Sublist.cons_cons x (List.Sublist.append (List.Sublist.refl A) h0))
  exact h1.perm (List.Perm.cons x List.perm_append_comm)
theorem own_so1 (h : Own M W w (A ++ (x :: y :: z :: B))) : Own M W w (y :: z :: A) := by
  have h1 : Own M W w (A ++ [y, z]) := h.sublist (List.Sublist.append (List.Sublist.refl A) ((List.Sublist.cons_cons y (List.Sublist.cons_cons z (List.nil_sublist B))).trans (List.sublist_cons_self x _)))
  exact h1.perm List.perm_append_comm
theorem own_st1 (h : Own M W w ((x :: (A ++ [y, z])) ++ B ++ C)) : Own M W w (y :: z :: (B ++ (A ++ C))) := by
  have h1 : Own M W w (A ++ ([y, z] ++ (B ++ C))) := by
    have h2 : Own M W w ([x] ++ (A ++ ([y, z] ++ (B ++ C)))) := by simpa [List.append_assoc] using h
    exact h2.sublist (List.sublist_append_right [x] _)
  refine h1.perm ((List.perm_append_comm_assoc A [y, z] (B ++ C)).trans ?_)
  show ([y, z] ++ (A ++ (B ++ C))).Perm ([y, z] ++ (B ++ (A ++ C)))
  exact List.Perm.append_left _ (List.perm_append_comm_assoc A B C)
theorem own_st2 (h : Own M W w (A ++ (x :: y :: B))) : Own M W w (x :: A) := by
  have h1 : Own M W w (A ++ [x]) := h.sublist (List.Sublist.append (List.Sublist.refl A) (List.Sublist.cons_cons x (List.nil_sublist _)))
  exact h1.perm List.perm_append_comm
end
theorem gmake_al (A B : Option Addr) (c d : Nat) (a : List Co) (W : World) {n : Nat} (hv : Reads yT W W.heap.size A (xK a)) (hu : Reads yT W W.heap.size B (wC (xK a) (xI a))) (h1 : RF (xK a) 4000) (h2 : RF (wC (xK a) (xI a)) n) (ca : (xK a).length ≤ c) (cb : (wC (xK a) (xI a)).length ≤ d) (hn : n ≤ 100000 := by decide) :
    Calls Tryz.prog 85 #[.slice A (xK a).length c, .slice B (wC (xK a) (xI a)).length d] W fun e w' => ∃ v' ob', e = .returned (.tuple #[v', .bool true]) ∧ SetO v' (x1 a) ob' ∧ Own [] W w' ob' :=
  (sMake_any A B c d _ _ W hv hu (Nat.le_trans h1.len (by decide)) (Nat.le_trans h2.len hn) h1.short h2.short ca cb).mono fun e w' ⟨v', ob', q1, q2, q3⟩ => by
    rw [h1.may, h2.may] at q1 q2
    exact ⟨v', ob', q1, q2, q3⟩
theorem gevery_any (A : Option Addr) (cap : Nat) (a : List Co) (W : World) (hv : Reads coC W W.heap.size A a) (hn : a.length ≤ 1000) (hsh : ShortA a) : Calls Tryz.prog 48 #[.slice A a.length cap] W fun e w' => ∃ v' ob', e = .returned v' ∧ SetO v' (x1 a) ob' ∧ Own [] W w' ob' := by
  refine zR (n := 37) Tryz.func48 rfl (by kernel_rfl) (by kernel_rfl) (ZO (Za (.agg #[.slice none 0 0, .slice none 0 0]) (fun b1 => ZR (yD (k := 80) (args := #[]) (fun v' L' => ∃ ob', L' = ob' ++ ([⟨b1, #[.slice none 0 0, .slice none 0 0], 31⟩]) ∧ SetO v' allT ob') (by kernel_rfl) (fun _ => by kernel_rfl) (fun w hO => (sAll_any w).mono fun e w' ⟨v', ob', k1, k2, k3⟩ => ⟨v', _, k1, ⟨ob', rfl, k2⟩, Own.joinN hO k3⟩) (fun v0 Lx1 hvx1 => ?_)))))
  obtain ⟨o0, rfl, h0⟩ := hvx1
  obtain ⟨_, _, p1, p2, rfl, rfl, hq1, hq2⟩ := h0
  obtain ⟨V0, c0, rfl⟩ := hq1.form
  obtain ⟨U0, d0, rfl⟩ := hq2.form
  refine vY (L' := p1 ++ ([⟨b1, #[.slice none 0 0, .slice none 0 0], 31⟩])) (fun w hO => own_tail hO) (Zv (.slice V0 allT.rel.length c0) (Zc (k := 47) (args := #[]) (.agg #[.slice none 0 0, .slice none 0 0]) (fun w _ => qK w) (Zv (.slice none 0 0) (Zv (.slice V0 allT.rel.length c0) (Zv (.slice none 0 0) (ZN (z7 (ZO (Zv (.slice A a.length cap) ?_)))))))))
  refine Zv (.int .i64 (a.length : Int)) (Zv (.int .i64 0) (ZN (zN (q5 (L' := p1 ++ ([] ++ [⟨b1, #[.slice none 0 0, .slice none 0 0], 31⟩])) (by simp) (x9 (fun L f m => ∃ (k : Nat) (V1 : Option Addr) (c1 : Nat) (o1 : List Blk) (V2 : Option Addr) (c2 : Nat) (o2 : List Blk) (j : Nat → Value), (k ≤ a.length ∧ SlS (.slice V1 (xK (a.take k)).length c1) (xK (a.take k)) o1 ∧ SlS (.slice V2 (xI (a.take k)).length c2) (xI (a.take k)) o2) ∧ L = o1 ++ (o2 ++ [⟨b1, #[.slice none 0 0, .slice none 0 0], 31⟩]) ∧ f = g7 j [(0, .slice A a.length cap), (2, .pointer (some ⟨b1, 0, none⟩)), (3, .slice V1 (xK (a.take k)).length c1), (4, .slice V2 (xI (a.take k)).length c2), (13, .slice A a.length cap), (14, .int .i64 (a.length : Int)), (15, .int .i64 (k : Int))] ∧ m = a.length - k) (a.length - 0) ⟨0, _, _, _, none, 0, [], _, ⟨Nat.zero_le _, hq1, Sl.nil _ _⟩, rfl, ZU, rfl⟩ ?_)))))
  rintro L f m ⟨k, V1, c1, o1, V2, c2, o2, j, hrel, rfl, rfl, rfl⟩
  obtain ⟨hkl, gq1, gq2⟩ := hrel
  refine z7 (zB ?_)
  by_cases h1 : (k : Int) < (a.length : Int)
  · have hk : k < a.length := by omega
    obtain ⟨bp, off, hA, hlt, hcell⟩ := hv (by omega)
    obtain ⟨c, hc⟩ : ∃ c, a[k] = c := ⟨_, rfl⟩
    have hcS : c.short := hsh c (hc ▸ List.getElem_mem hk)
    refine Zd (p := (k : Int) < (a.length : Int)) true (decide_eq_true (h1)) (ZN (z7 (Zt (ZB (z7 (zN (ZO (y5 (.pointer (some ⟨bp, off + k * 7, none⟩)) (by kernel_rfl) (ZA (b := bp) (off := off) (c := cap) (n := a.length) (k := .i64) (j := (k : Int)) (e := 51) (sz := 7) hA) ?_))))))))
    refine Zo (coV c) (a := ⟨bp, off + k * 7, none⟩) (fun w hO => yP coC_len (fun j u h => (hO.below.cell (p := ⟨bp, off + j, none⟩) hlt).trans (hcell j u h)) k 0 hk (by omega) _ (by rw [hc]; kernel_rfl)) (Za (.agg #[.int .i64 0, .int .i64 0, .int .i64 0, .int .i64 0, .int .i64 0, .string ⟨#[]⟩, .string ⟨#[]⟩]) (fun b2 => Zs 0 ⟨b2, #[.int .i64 0, .int .i64 0, .int .i64 0, .int .i64 0, .int .i64 0, .string ⟨#[]⟩, .string ⟨#[]⟩], 51⟩ (off := 0) (coV c) (ZR (Zv (.slice V1 ((xK (a.take k)).length) c1) (Zl 0 ⟨b2, (coV c).cells, 51⟩ (off := 0) (coV c) (yD (k := 82) (args := #[coV c]) (fun v' L' => ∃ ob', L' = ob' ++ (⟨b2, (coV c).cells, 51⟩ :: (o1 ++ (o2 ++ ([⟨b1, #[.slice none 0 0, .slice none 0 0], 31⟩])))) ∧ SlS v' c.region ob') (by kernel_rfl) (fun _ => by kernel_rfl) (fun w hO => (cRegion_any c w hcS).mono fun e w' ⟨v', ob', k1, k2, k3⟩ => ⟨v', _, k1, ⟨ob', rfl, k2⟩, Own.joinN hO k3⟩) (fun vr Lx2 hvx2 => ?_)))))))
    obtain ⟨oR, rfl, hR⟩ := hvx2
    obtain ⟨VR, cR, rfl⟩ := hR.form
    refine yD (k := 81) (args := #[.slice V1 ((xK (a.take k)).length) c1, .slice VR c.region.length cR]) (fun v' L' => ∃ ob', L' = ob' ++ (oR ++ (⟨b2, (coV c).cells, 51⟩ :: (o1 ++ (o2 ++ ([⟨b1, #[.slice none 0 0, .slice none 0 0], 31⟩]))))) ∧ SlS v' (xK (a.take (k + 1))) ob') (by kernel_rfl) (fun _ => by kernel_rfl) (fun w hO => (and4_any V1 VR c1 cR (xK (a.take k)) c.region w (Sl.reads gq1 rfl hO (fun x hx => by simp [hx])) (Sl.reads hR rfl hO (fun x hx => by simp [hx])) (Nat.le_trans (hJ a k hn).len (by decide)) (Nat.le_trans (uG c).len (by decide)) (hJ a k hn).short (uG c).short (wI gq1) (wI hR)).mono fun e w' ⟨v', ob', k1, k2, k3⟩ => ⟨v', _, k1, ⟨ob', rfl, by rw [if_pos (by rw [(hJ a k hn).may, (uG c).may]; rfl), ← altRel_next hk hc] at k2; exact k2⟩, Own.joinN hO k3⟩) (fun va Lx3 hvx3 => ?_)
    obtain ⟨oA, rfl, hA2⟩ := hvx3
    obtain ⟨VA, cA, rfl⟩ := hA2.form
    refine Zv (.slice VA ((xK (a.take (k + 1))).length) cA) (ZN (zB (Zv (.slice V2 ((xI (a.take k)).length) c2) (nX ⟨b2, (coV c).cells, 51⟩ (off := 0) (coV c) (by kernel_rfl) rfl (by simp) (by kernel_rfl) (by kernel_rfl) (yD (k := 84) (args := #[coV c]) (fun v' L' => ∃ ob', L' = ob' ++ (oA ++ (oR ++ (⟨b2, (coV c).cells, 51⟩ :: (o1 ++ (o2 ++ ([⟨b1, #[.slice none 0 0, .slice none 0 0], 31⟩])))))) ∧ SlS v' c.zone ob') (by kernel_rfl) (fun _ => by kernel_rfl) (fun w hO => (cZone_any c w hcS).mono fun e w' ⟨v', ob', k1, k2, k3⟩ => ⟨v', _, k1, ⟨ob', rfl, k2⟩, Own.joinN hO k3⟩) (fun vz Lx4 hvx4 => ?_))))))
    obtain ⟨oZ, rfl, hZ⟩ := hvx4
    obtain ⟨VZ, cZ, rfl⟩ := hZ.form
    refine yD (k := 83) (args := #[.slice V2 ((xI (a.take k)).length) c2, .slice VZ c.zone.length cZ]) (fun v' L' => ∃ ob', L' = ob' ++ (oZ ++ (oA ++ (oR ++ (⟨b2, (coV c).cells, 51⟩ :: (o1 ++ (o2 ++ ([⟨b1, #[.slice none 0 0, .slice none 0 0], 31⟩]))))))) ∧ SlS v' (xI (a.take (k + 1))) ob') (by kernel_rfl) (fun _ => by kernel_rfl) (fun w hO => (or4_any V2 VZ c2 cZ (xI (a.take k)) c.zone w (Sl.reads gq2 rfl hO (fun x hx => by simp [hx])) (Sl.reads hZ rfl hO (fun x hx => by simp [hx])) (Nat.le_trans (dG a k hn).len (by decide)) (Nat.le_trans (fE c).len (by decide)) (dG a k hn).short (fE c).short).mono fun e w' ⟨v', ob', k1, k2, k3⟩ => ⟨v', _, k1, ⟨ob', rfl, by rw [if_pos (by rw [(dG a k hn).may, (fE c).may]; rfl), ← altZone_next hk hc] at k2; exact k2⟩, Own.joinN hO k3⟩) (fun vo Lx5 hvx5 => ?_)
    obtain ⟨oO, rfl, hO2⟩ := hvx5
    obtain ⟨VO, cO, rfl⟩ := hO2.form
    exact Zv (.slice VO ((xI (a.take (k + 1))).length) cO) (zT (zS (zC (zB (Zu (k := .i64) (((k + 1 : Nat) : Int)) (IntWalk.i64_in _ (by omega)) (Zv (.int .i64 ((k + 1 : Nat) : Int)) (zT (kF (fun w hO => own_ev1 hO) (zW (m' := a.length - (k + 1)) (by omega) ⟨k + 1, VA, cA, oA, VO, cO, oO, _, ⟨by omega, hA2, hO2⟩, rfl, ZU, rfl⟩)))))))))
  have htk : a.take k = a := List.take_of_length_le (by omega)
  have hRL := hJ a k hn
  have hZL := dG a k hn
  have hAZ := hRL.and1 hZL
  refine Zd (p := (k : Int) < (a.length : Int)) false (decide_eq_false (h1)) (ZN (z7 (Zf (y7 (z8 (zQ (zJ (zC (z7 (zB ?_))))))))))
  refine Zv (.slice V1 ((xK (a.take k)).length) c1) (Zv (.slice V1 ((xK (a.take k)).length) c1) (Zv (.slice V2 ((xI (a.take k)).length) c2) (yD (k := 81) (args := #[.slice V1 ((xK (a.take k)).length) c1, .slice V2 ((xI (a.take k)).length) c2]) (fun v' L' => ∃ ob', L' = ob' ++ (o1 ++ (o2 ++ ([⟨b1, #[.slice none 0 0, .slice none 0 0], 31⟩]))) ∧ SlS v' (wC (xK (a.take k)) (xI (a.take k))) ob') (by kernel_rfl) (fun _ => by kernel_rfl) (fun w hO => (and4_any V1 V2 c1 c2 (xK (a.take k)) (xI (a.take k)) w (Sl.reads gq1 rfl hO (fun x hx => by simp [hx])) (Sl.reads gq2 rfl hO (fun x hx => by simp [hx])) (Nat.le_trans hRL.len (by decide)) (Nat.le_trans hZL.len (by decide)) hRL.short hZL.short (wI gq1) (wI gq2)).mono fun e w' ⟨v', ob', k1, k2, k3⟩ => ⟨v', _, k1, ⟨ob', rfl, by rw [if_pos (by rw [hRL.may, hZL.may]; rfl)] at k2; exact k2⟩, Own.joinN hO k3⟩) (fun vb Lx6 hvx6 => ?_))))
  obtain ⟨oB, rfl, hB⟩ := hvx6
  obtain ⟨VB, cB, rfl⟩ := hB.form
  refine yD (k := 85) (args := #[.slice V1 ((xK (a.take k)).length) c1, .slice VB ((wC (xK (a.take k)) (xI (a.take k))).length) cB]) (fun v' L' => ∃ ob', L' = ob' ++ (oB ++ (o1 ++ (o2 ++ ([⟨b1, #[.slice none 0 0, .slice none 0 0], 31⟩])))) ∧ ∃ mv, v' = .tuple #[mv, .bool true] ∧ SetO mv (x1 (a.take k)) ob') (by kernel_rfl) (fun _ => by kernel_rfl) (fun w hO => (gmake_al V1 VB c1 cB (a.take k) w (Sl.reads gq1 rfl hO (fun x hx => by simp [hx])) (Sl.reads hB rfl hO (fun x hx => by simp [hx])) hRL hAZ (wI gq1) (wI hB)).mono fun e w' ⟨v', ob', k1, k2, k3⟩ => ⟨Value.tuple #[v', .bool true], _, k1, ⟨ob', rfl, ⟨v', rfl, k2⟩⟩, Own.joinN hO k3⟩) (fun tv Lx7 hvx7 => ?_)
  obtain ⟨oM, rfl, hM0⟩ := hvx7
  obtain ⟨mv, rfl, hM⟩ := hM0
  obtain ⟨VM, UM, cM, dM, rfl⟩ := hM.form
  refine Zv (.tuple #[.agg #[.slice VM ((x1 (a.take k)).rel.length) cM, .slice UM ((x1 (a.take k)).pre.length) dM], .bool true]) (Zv (.agg #[.slice VM ((x1 (a.take k)).rel.length) cM, .slice UM ((x1 (a.take k)).pre.length) dM]) (Zv (.bool true) (Za (.agg #[.slice none 0 0, .slice none 0 0]) (fun b2 => Zs 0 ⟨b2, #[.slice none 0 0, .slice none 0 0], 31⟩ (off := 0) (.agg #[.slice VM ((x1 (a.take k)).rel.length) cM, .slice UM ((x1 (a.take k)).pre.length) dM]) (Zv (.bool true) (ZR (Zl 0 ⟨b2, #[.slice VM ((x1 (a.take k)).rel.length) cM, .slice UM ((x1 (a.take k)).pre.length) dM], 31⟩ (off := 0) (.agg #[.slice VM ((x1 (a.take k)).rel.length) cM, .slice UM ((x1 (a.take k)).pre.length) dM]) (vY (L' := ⟨b2, #[.slice VM ((x1 (a.take k)).rel.length) cM, .slice UM ((x1 (a.take k)).pre.length) dM], 31⟩ :: (⟨b1, #[.slice none 0 0, .slice none 0 0], 31⟩ :: (oM))) (fun w hO => own_ev2 hO) ?_))))))))
  exact Zs 1 ⟨b1, #[.slice none 0 0, .slice none 0 0], 31⟩ (off := 0) (.agg #[.slice VM ((x1 (a.take k)).rel.length) cM, .slice UM ((x1 (a.take k)).pre.length) dM]) (ZN (zD (ZC 1 ⟨b1, #[.slice VM ((x1 (a.take k)).rel.length) cM, .slice UM ((x1 (a.take k)).pre.length) dM], 31⟩ (off := 0) (.agg #[.slice VM ((x1 (a.take k)).rel.length) cM, .slice UM ((x1 (a.take k)).pre.length) dM]) Tryz.results48 (fun w hO => ⟨_, oM, rfl, by rw [htk] at hM ⊢; exact hM, Own.sub [_, _] hO⟩))))
theorem gsome_any (A : Option Addr) (cap : Nat) (xs : List Se) (r : List (List Co)) (W : World) (hv : SsIn W W.heap.size A xs) (hr : xs.map Se.s = r.map x1) (hf : fewR r = true) : Calls Tryz.prog 49 #[.slice A xs.length cap] W fun e w' => ∃ v' ob', e = .returned v' ∧ SetO v' (x5 r) ob' ∧ Own [] W w' ob' := by
  have hn : xs.length = r.length := by have q := congrArg List.length hr; rwa [List.length_map, List.length_map] at q
  have hr6 := (fewR.facts hf).1
  have hfin := fin_alts hf
  refine zR (n := 18) Tryz.func49 rfl (by kernel_rfl) (by kernel_rfl) (ZO (Za (.agg #[.slice none 0 0, .slice none 0 0]) (fun b1 => ZR (Zc (k := 47) (args := #[]) (.agg #[.slice none 0 0, .slice none 0 0]) (fun w _ => qK w) (Za (.agg #[.slice none 0 0, .slice none 0 0]) (fun b2 => Zs 0 ⟨b2, #[.slice none 0 0, .slice none 0 0], 31⟩ (off := 0) (.agg #[.slice none 0 0, .slice none 0 0]) (zT ?_)))))))
  refine zC (z7 (ZO (Zv (.slice A xs.length cap) (Zv (.int .i64 (xs.length : Int)) (Zv (.int .i64 0) (ZN (zN (q5 (L' := ⟨b2, #[.slice none 0 0, .slice none 0 0], 31⟩ :: ⟨b1, #[.slice none 0 0, .slice none 0 0], 31⟩ :: []) rfl (x9 (fun L f m => ∃ (k : Nat) (V : Option Addr) (U : Option Addr) (c : Nat) (d : Nat) (ob : List Blk) (j : Nat → Value), (k ≤ xs.length ∧ SetO (.agg #[.slice V (x5 (r.take k)).rel.length c, .slice U (x5 (r.take k)).pre.length d]) (x5 (r.take k)) ob) ∧ L = ⟨b2, #[.slice V ((x5 (r.take k)).rel.length) c, .slice U ((x5 (r.take k)).pre.length) d], 31⟩ :: ⟨b1, #[.slice none 0 0, .slice none 0 0], 31⟩ :: ob ∧ f = g7 j [(2, .pointer (some ⟨b1, 0, none⟩)), (3, .pointer (some ⟨b2, 0, none⟩)), (7, .slice A xs.length cap), (8, .int .i64 (xs.length : Int)), (9, .int .i64 (k : Int))] ∧ m = xs.length - k) (xs.length - 0) ⟨0, none, none, 0, 0, [], _, ⟨Nat.zero_le _, SetO.none⟩, rfl, ZU, rfl⟩ ?_)))))))))
  rintro L f m ⟨k, V, U, c, d, ob, j, hrel, rfl, rfl, rfl⟩
  obtain ⟨hkl, hac⟩ := hrel
  refine z7 (zB ?_)
  by_cases h1 : (k : Int) < (xs.length : Int)
  · have hk : k < xs.length := by omega
    obtain ⟨bp, off, hA, hlt, hcell⟩ := hv.top (by omega)
    obtain ⟨x, hx⟩ : ∃ x, xs[k] = x := ⟨_, rfl⟩
    have hxm : x ∈ xs := hx ▸ List.getElem_mem hk
    have hxf : SF x.s 198 := hfin x.s (hr ▸ List.mem_map.2 ⟨x, hxm, rfl⟩)
    have hxr : x1 (r[k]'(by omega)) = x.s := se_at hr hk (by omega) hx
    refine Zd (p := (k : Int) < (xs.length : Int)) true (decide_eq_true (h1)) (ZN (z7 (Zt (ZB (z7 (zN (ZO (y5 (.pointer (some ⟨bp, off + k * 2, none⟩)) (by kernel_rfl) (ZA (b := bp) (off := off) (c := cap) (n := xs.length) (k := .i64) (j := (k : Int)) (e := 31) (sz := 2) hA) ?_))))))))
    refine Zo (.agg #[.slice x.A x.s.rel.length x.c, .slice x.B x.s.pre.length x.d]) (a := ⟨bp, off + k * 2, none⟩) (fun w hO => yP seC_len (fun j u h => (hO.below.cell (p := ⟨bp, off + j, none⟩) hlt).trans (hcell j u h)) k 0 hk (by omega) _ (by rw [hx]; kernel_rfl)) (Za (.agg #[.slice none 0 0, .slice none 0 0]) (fun b3 => Zs 0 ⟨b3, #[.slice none 0 0, .slice none 0 0], 31⟩ (off := 0) (.agg #[.slice x.A x.s.rel.length x.c, .slice x.B x.s.pre.length x.d]) (ZN (zB (Zl 1 ⟨b2, #[.slice V ((x5 (r.take k)).rel.length) c, .slice U ((x5 (r.take k)).pre.length) d], 31⟩ (off := 0) (.agg #[.slice V ((x5 (r.take k)).rel.length) c, .slice U ((x5 (r.take k)).pre.length) d]) (Zl 0 ⟨b3, #[.slice x.A x.s.rel.length x.c, .slice x.B x.s.pre.length x.d], 31⟩ (off := 0) (.agg #[.slice x.A x.s.rel.length x.c, .slice x.B x.s.pre.length x.d]) (yD (k := 86) (args := #[.agg #[.slice V ((x5 (r.take k)).rel.length) c, .slice U ((x5 (r.take k)).pre.length) d], .agg #[.slice x.A x.s.rel.length x.c, .slice x.B x.s.pre.length x.d]]) (fun v' L' => ∃ ob', L' = ob' ++ (⟨b3, #[.slice x.A x.s.rel.length x.c, .slice x.B x.s.pre.length x.d], 31⟩ :: (⟨b2, #[.slice V ((x5 (r.take k)).rel.length) c, .slice U ((x5 (r.take k)).pre.length) d], 31⟩ :: (⟨b1, #[.slice none 0 0, .slice none 0 0], 31⟩ :: (ob)))) ∧ SetO v' (x5 (r.take (k + 1))) ob') (by kernel_rfl) (fun _ => by kernel_rfl) (fun w hO => (sOr_any V U x.A x.B c d x.c x.d (x5 (r.take k)) x.s w (SetO.inn hac hO (fun x hx => by simp [hx]) (orAll_le hf k) (by decide)) ((hv.each x hxm).on hO.below hO.below.size) hac.caps (hv.caps x hxm)).mono fun e w' ⟨v', ob', k1, k2, k3⟩ => ⟨v', _, k1, ⟨ob', rfl, by rw [if_pos (by rw [(orAll_le hf k).may, hxf.may]; rfl), ← hxr, ← orAll_next (by omega) rfl] at k2; exact k2⟩, Own.joinN hO k3⟩) (fun vo Lx1 hvx1 => ?_))))))))
    obtain ⟨oO, rfl, hO2⟩ := hvx1
    obtain ⟨V2, U2, c2, d2, rfl⟩ := hO2.form
    exact vY (L' := ⟨b2, #[.slice V ((x5 (r.take k)).rel.length) c, .slice U ((x5 (r.take k)).pre.length) d], 31⟩ :: (⟨b1, #[.slice none 0 0, .slice none 0 0], 31⟩ :: (oO))) (fun w hO => own_so1 hO) (Zs 0 ⟨b2, #[.slice V ((x5 (r.take k)).rel.length) c, .slice U ((x5 (r.take k)).pre.length) d], 31⟩ (off := 0) (.agg #[.slice V2 ((x5 (r.take (k + 1))).rel.length) c2, .slice U2 ((x5 (r.take (k + 1))).pre.length) d2]) (zT (zS (zC (zB (Zu (k := .i64) (((k + 1 : Nat) : Int)) (IntWalk.i64_in _ (by omega)) (Zv (.int .i64 ((k + 1 : Nat) : Int)) (zT (zW (m' := xs.length - (k + 1)) (by omega) ⟨k + 1, V2, U2, c2, d2, oO, _, ⟨by omega, hO2⟩, rfl, ZU, rfl⟩)))))))))
  have htk : r.take k = r := List.take_of_length_le (by omega)
  refine Zd (p := (k : Int) < (xs.length : Int)) false (decide_eq_false (h1)) (ZN (z7 (Zf (y7 (z8 (zQ (zJ (zC (z7 (zB ?_))))))))))
  exact Zl 0 ⟨b2, #[.slice V ((x5 (r.take k)).rel.length) c, .slice U ((x5 (r.take k)).pre.length) d], 31⟩ (off := 0) (.agg #[.slice V ((x5 (r.take k)).rel.length) c, .slice U ((x5 (r.take k)).pre.length) d]) (Zs 1 ⟨b1, #[.slice none 0 0, .slice none 0 0], 31⟩ (off := 0) (.agg #[.slice V ((x5 (r.take k)).rel.length) c, .slice U ((x5 (r.take k)).pre.length) d]) (ZN (zD (ZC 1 ⟨b1, #[.slice V ((x5 (r.take k)).rel.length) c, .slice U ((x5 (r.take k)).pre.length) d], 31⟩ (off := 0) (.agg #[.slice V ((x5 (r.take k)).rel.length) c, .slice U ((x5 (r.take k)).pre.length) d]) Tryz.results49 (fun w hO => ⟨_, ob, rfl, by rw [htk] at hac ⊢; exact hac, Own.sub [_, _] hO⟩)))))
theorem gSet_any (A : Option Addr) (cap : Nat) (xs : List Al) (W : World) (hv : RgIn W W.heap.size A xs) (ht : HasLib W) : Calls Tryz.prog 23 #[.agg #[.slice A xs.length cap]] W fun e w' => ∃ v' ob', e = .returned v' ∧ SetO v' (zU (xT xs)) ob' ∧ Own [] W w' ob' := by
  have hn := hv.n
  refine zR (n := 25) Tryz.func23 rfl (by kernel_rfl) (by kernel_rfl) (ZO (Zb (.agg #[.slice A xs.length cap]) (fun b1 => Za (.agg #[.slice none 0 0, .slice none 0 0]) (fun b2 => ZN (z7 (ZO (Zl 1 ⟨b1, #[.slice A xs.length cap], 25⟩ (off := 0) (.agg #[.slice A xs.length cap]) (Zc (k := 19) (args := #[.agg #[.slice A xs.length cap]]) (.bool (rgMay (xT xs))) (fun w hO => gMay_any A cap xs w (hv.on hO.below hO.below.size) (ht.on hO.below)) ?_))))))))
  cases h1 : rgMay (xT xs) with
  | true =>
    have hfw : fewR (xT xs) = true := (rgMay.facts h1).1
    obtain ⟨hxs6, hxe⟩ := few_mem hfw
    refine Zv (.bool false) (ZX (ZB (ZO (Zv (.slice none 0 0) (ZN (z7 ?_))))))
    refine ZO (Zv (.pointer (some ⟨b1, 0, none⟩)) (Zl 1 ⟨b1, #[.slice A xs.length cap], 25⟩ (off := 0) (.slice A xs.length cap) (Zv (.int .i64 (xs.length : Int)) (Zv (.int .i64 0) (ZN (zN (q5 (L' := ⟨b2, #[.slice none 0 0, .slice none 0 0], 31⟩ :: ⟨b1, #[.slice A xs.length cap], 25⟩ :: ([] ++ [])) rfl (x9 (fun L f m => ∃ (i : Nat) (U : Option Addr) (nq : Nat) (cu : Nat) (ys : List Se) (oX : List Blk) (oY : List Blk) (j : Nat → Value), (nq = ys.length ∧ i ≤ xs.length ∧ SsO (.slice U nq cu) ys oX oY ∧ ys.map Se.s = (((xT xs).take i).map x1)) ∧ L = ⟨b2, #[.slice none 0 0, .slice none 0 0], 31⟩ :: ⟨b1, #[.slice A xs.length cap], 25⟩ :: (oX ++ oY) ∧ f = g7 j [(1, .pointer (some ⟨b1, 0, none⟩)), (2, .pointer (some ⟨b2, 0, none⟩)), (3, .slice U nq cu), (11, .slice A xs.length cap), (12, .int .i64 (xs.length : Int)), (13, .int .i64 (i : Int))] ∧ m = xs.length - i) (xs.length - 0) ⟨0, none, 0, 0, [], [], [], _, ⟨rfl, Nat.zero_le _, SsO.nil, rfl⟩, rfl, ZU, rfl⟩ ?_))))))))
    rintro L f m ⟨i, U, nq, cu, ys, oX, oY, j, hrel, rfl, rfl, rfl⟩
    obtain ⟨hnq, hil, hss, hys⟩ := hrel; subst hnq
    refine z7 (zB ?_)
    by_cases h2 : (i : Int) < (xs.length : Int)
    · have hi : i < xs.length := by omega
      obtain ⟨bp, off, hA, hlt, hcell⟩ := hv.top (by omega)
      obtain ⟨x, hx⟩ : ∃ x, xs[i] = x := ⟨_, rfl⟩
      have hxm : x ∈ xs := hx ▸ List.getElem_mem hi
      have hxr : (xT xs)[i]'(by rw [g8]; exact hi) = x.l := rgOf_get hi hx
      refine Zd (p := (i : Int) < (xs.length : Int)) true (decide_eq_true (h2)) (ZN (z7 (Zt (ZB (z7 (zN (ZO (y5 (.pointer (some ⟨bp, off + i * 1, none⟩)) (by kernel_rfl) (ZA (b := bp) (off := off) (c := cap) (n := xs.length) (k := .i64) (j := (i : Int)) (e := 47) (sz := 1) hA) ?_))))))))
      refine Zo (.slice x.A x.l.length x.cap) (a := ⟨bp, off + i * 1, none⟩) (fun w hO => yP alC_len (fun j u h => (hO.below.cell (p := ⟨bp, off + j, none⟩) hlt).trans (hcell j u h)) i 0 hi (by omega) _ (by rw [hx]; kernel_rfl)) (Zv (.slice x.A x.l.length x.cap) (ZN (zB (Zv (.slice U ys.length cu) (Zv (.slice x.A x.l.length x.cap) (yD (k := 48) (args := #[.slice x.A x.l.length x.cap]) (fun v' L' => ∃ ob', L' = ob' ++ (⟨b2, #[.slice none 0 0, .slice none 0 0], 31⟩ :: (⟨b1, #[.slice A xs.length cap], 25⟩ :: (oX ++ (oY)))) ∧ SetO v' (x1 x.l) ob') (by kernel_rfl) (fun _ => by kernel_rfl) (fun w hO => (gevery_any x.A x.cap x.l w ((hv.each x hxm).on hO.below hO.below.size) (hv.m x hxm) (hv.short x hxm)).mono fun e w' ⟨v', ob', k1, k2, k3⟩ => ⟨v', _, k1, ⟨ob', rfl, k2⟩, Own.joinN hO k3⟩) (fun ve Lx1 hvx1 => ?_)))))))
      obtain ⟨oE, rfl, hE⟩ := hvx1
      obtain ⟨VE, UE, cE, dE, rfl⟩ := hE.form
      refine jE 31 #[.slice VE ((x1 x.l).rel.length) cE, .slice UE ((x1 x.l).pre.length) dE] (by kernel_rfl) rfl (fun _ => by kernel_rfl) (fun b3 => ?_)
      obtain ⟨i1, z1, e1, e2, e3, e4, e5⟩ := se_info
      have hyl : ys.length ≤ 6 := by have q := congrArg List.length hys; rw [List.length_map, List.length_map, List.length_take, g8] at q; omega
      refine kA (L' := (⟨b3, #[.slice VE ((x1 x.l).rel.length) cE, .slice UE ((x1 x.l).pre.length) dE], 31⟩ :: (oE ++ [⟨b2, #[.slice none 0 0, .slice none 0 0], 31⟩, ⟨b1, #[.slice A xs.length cap], 25⟩])) ++ oX ++ oY) (by simp <;> rfl) (q7 (sz := 2) (by kernel_rfl) rfl Tryz.underlying66 e1 e2 e3 e4 (by kernel_rfl) hss.top (a := ⟨b3, 0, none⟩) (m := 1) (c := 1) (news := seC ⟨VE, UE, x1 x.l, cE, dE⟩) (by kernel_rfl) rfl (fun w hO j u hj => ?_) (se_cells _) (by unfold maxLen; omega) (by rw [e5]; omega) (fun u2 oX2 hu0 => ?_))
      · rw [x6, cell_of_row w b3 (0 + j) (seC ⟨VE, UE, x1 x.l, cE, dE⟩).toArray 31 _ (hO.held ⟨b3, (seC ⟨VE, UE, x1 x.l, cE, dE⟩).toArray, 31⟩ (List.mem_append_left _ (List.mem_append_left _ (List.mem_cons_self ..))))]; simpa using hj
      have hss2 := hss.add hu0 hE
      obtain ⟨U2, cu2, rfl⟩ := Sl.form hu0
      exact Zv (.slice U2 (ys.length + 1) cu2) (zT (zS (zC (zB (Zu (k := .i64) (((i + 1 : Nat) : Int)) (IntWalk.i64_in _ (by omega)) (Zv (.int .i64 ((i + 1 : Nat) : Int)) (zT (kF (fun w hO => own_st1 hO) (zW (m' := xs.length - (i + 1)) (by omega) ⟨i + 1, U2, ys.length + 1, cu2, ys ++ [⟨VE, UE, x1 x.l, cE, dE⟩], oX2, (oE ++ oY), _, ⟨by simp, by omega, hss2, by rw [List.take_succ_eq_append_getElem (by rw [g8]; exact hi), hxr, List.map_append, List.map_append, hys]; rfl⟩, rfl, ZU, rfl⟩)))))))))
    have htk : (xT xs).take i = xT xs := List.take_of_length_le (by rw [g8]; omega)
    rw [htk] at hys
    have hyf : ∀ y ∈ ys, SF y.s 198 := fun y hy => fin_alts hfw y.s (hys ▸ List.mem_map.2 ⟨y, hy, rfl⟩)
    refine Zd (p := (i : Int) < (xs.length : Int)) false (decide_eq_false (h2)) (ZN (z7 (Zf (y7 (z8 (zQ (zJ (zC (z7 (zB ?_))))))))))
    refine Zv (.slice U ys.length cu) (yD (k := 49) (args := #[.slice U ys.length cu]) (fun v' L' => ∃ ob', L' = ob' ++ (⟨b2, #[.slice none 0 0, .slice none 0 0], 31⟩ :: (⟨b1, #[.slice A xs.length cap], 25⟩ :: (oX ++ (oY)))) ∧ SetO v' (x5 (xT xs)) ob') (by kernel_rfl) (fun _ => by kernel_rfl) (fun w hO => (gsome_any U cu ys (xT xs) w (SsO.inn hss rfl hO (fun x hx => by simp [hx]) (fun x hx => by simp [hx]) hyf) hys hfw).mono fun e w' ⟨v', ob', k1, k2, k3⟩ => ⟨v', _, k1, ⟨ob', rfl, k2⟩, Own.joinN hO k3⟩) (fun vs Lx2 hvx2 => ?_))
    obtain ⟨oS, rfl, hS⟩ := hvx2
    obtain ⟨VS, US, cS, dS, rfl⟩ := hS.form
    exact vY (L' := ⟨b2, #[.slice none 0 0, .slice none 0 0], 31⟩ :: (oS)) (fun w hO => own_st2 hO) (Zs 0 ⟨b2, #[.slice none 0 0, .slice none 0 0], 31⟩ (off := 0) (.agg #[.slice VS ((x5 (xT xs)).rel.length) cS, .slice US ((x5 (xT xs)).pre.length) dS]) (ZN (zD (ZC 0 ⟨b2, #[.slice VS ((x5 (xT xs)).rel.length) cS, .slice US ((x5 (xT xs)).pre.length) dS], 31⟩ (off := 0) (.agg #[.slice VS ((x5 (xT xs)).rel.length) cS, .slice US ((x5 (xT xs)).pre.length) dS]) Tryz.results23 (fun w hO => ⟨_, oS, rfl, by unfold zU; rw [if_pos h1]; exact hS, Own.sub [_] hO⟩)))))
  | false =>
    refine Zv (.bool true) (ZY (ZO (Zc (k := 47) (args := #[]) (.agg #[.slice none 0 0, .slice none 0 0]) (fun w _ => qK w) (Zs 0 ⟨b2, #[.slice none 0 0, .slice none 0 0], 31⟩ (off := 0) (.agg #[.slice none 0 0, .slice none 0 0]) (ZN (zD (z6 ?_)))))))
    exact ZC 0 ⟨b2, #[.slice none 0 0, .slice none 0 0], 31⟩ (off := 0) (.agg #[.slice none 0 0, .slice none 0 0]) Tryz.results23 (fun w hO => ⟨_, [], rfl, by unfold zU; rw [if_neg (by simp [h1])]; exact SetO.none, gZ hO⟩)
end
section
theorem fewR_text {r : List (List Co)} (h : r ≠ []) {t : List UInt8} (ht : wD r = t) : (t = [] → fewR r = false) ∧ (¬ t = [] → fewR r = true ∧ qZ r = t) := by
  refine ⟨fun q => textR_nil.1 (ht.trans q), fun q => ?_⟩
  cases hf : fewR r with
  | false => exact absurd (ht.symm.trans (textR_nil.2 hf)) q
  | true => refine ⟨rfl, ?_⟩; unfold wD at ht; rw [hf] at ht; exact ht
theorem all_ne {s : List UInt8} {r : List (List Co)} (h : kU s = some r) : r ≠ [] := fun e => by
  have h2 := bW h
  rw [e] at h2
  exact fB s [] (List.eq_nil_of_length_eq_zero h2.symm)
theorem nE (s : List UInt8) (W : World) (hs : s.length ≤ 1000000) (ht : HasLib W) : Calls Tryz.prog 12 #[.string (mkS s)] W fun e w' => ∃ v' ob', e = .returned (.tuple #[v', .int .i64 (yW s)]) ∧ RgO v' ((zM s).getD []) ob' ∧ Own [] W w' ob' := by
  have hsz := xR s
  refine zR (n := 62) Tryz.func12 rfl (by kernel_rfl) (by kernel_rfl) (ZO (Za (.agg #[.slice none 0 0]) (fun b1 => Zv (.int .i64 0) (ZN (z7 (ZO (Zv (.string (mkS s)) (Zv (.int .i64 ((mkS s).size)) ?_))))))))
  by_cases h1 : (96 : Int) < (mkS s).size
  · refine yI (p := (96 : Int) < (mkS s).size) true (by kernel_rfl) (fun _ => by kernel_rfl) (decide_eq_true (h1)) ?_
    refine ZY (ZO (Zv (.agg #[.slice none 0 0]) (Zs 0 ⟨b1, #[.slice none 0 0], 25⟩ (off := 0) (.agg #[.slice none 0 0]) (Zv (.int .i64 3) (ZN (zD (z6 ?_)))))))
    exact ZD 0 ⟨b1, #[.slice none 0 0], 25⟩ (off := 0) (.agg #[.slice none 0 0]) (.int .i64 3) Tryz.results12 (fun w hO => ⟨.agg #[.slice none 0 0], [], by rw [(errG_long (s := s) (by omega)).1], by rw [(errG_long (s := s) (by omega)).2]; exact RgO.nil, gZ hO⟩)
  have hs6 : s.length ≤ 96 := by omega
  refine Zd (p := (96 : Int) < (mkS s).size) false (decide_eq_false (h1)) (ZX (ZB (ZO (Za (.agg #[.slice none 0 0]) (fun b2 => ZN (z7 ?_))))))
  refine ZO (Zv (.string (mkS s)) (yD (k := 36) (args := #[.string (mkS s), .string ⟨#[124, 124]⟩]) (fun v' L' => ∃ ob', L' = ob' ++ ([⟨b2, #[.slice none 0 0], 25⟩, ⟨b1, #[.slice none 0 0], 25⟩]) ∧ SlT v' (xG [] s) ob') (by kernel_rfl) (fun _ => by kernel_rfl) (fun w hO => (split_bars s w hs (ht.on hO.below)).mono fun e w' ⟨v', ob', k1, k2, k3⟩ => ⟨v', _, k1, ⟨ob', rfl, k2⟩, Own.joinN hO k3⟩) (fun lv L2 hv2 => ?_)))
  obtain ⟨ol, rfl, hol⟩ := hv2
  obtain ⟨l, hll⟩ : ∃ l, l = xG [] s := ⟨_, rfl⟩
  rw [← hll] at hol
  have hln : l.length ≤ 97 := by rw [hll]; have := nO s []; omega
  have hlm : ∀ x ∈ l, x.length ≤ 96 := fun x hx => by have := pS s [] x (hll ▸ hx); simp at this; omega
  obtain ⟨g, cur, lcap, rfl, rfl, hcur⟩ := SlT.blk hol (by rw [hll]; exact fB s [])
  refine Zv (.int .i64 (l.length : Int)) (Zv (.int .i64 0) (ZN (zN (q5 (L' := ⟨g, cur, 9⟩ :: ⟨b2, #[.slice none 0 0], 25⟩ :: ⟨b1, #[.slice none 0 0], 25⟩ :: ([] ++ [])) rfl (x9 (fun L f m => ∃ (i : Nat) (A : Option Addr) (cap : Nat) (xs : List Al) (o1 : List Blk) (o2 : List Blk) (j : Nat → Value), (i ≤ l.length ∧ RgA (.slice A xs.length cap) xs o1 o2 ∧ jZ mW (l.take i) = some (xT xs)) ∧ L = ⟨g, cur, 9⟩ :: ⟨b2, #[.slice A xs.length cap], 25⟩ :: ⟨b1, #[.slice none 0 0], 25⟩ :: (o1 ++ o2) ∧ f = g7 j [(2, .pointer (some ⟨b1, 0, none⟩)), (4, .pointer (some ⟨b2, 0, none⟩)), (18, .slice (some ⟨g, 0, none⟩) l.length lcap), (19, .int .i64 (l.length : Int)), (20, .int .i64 (i : Int))] ∧ m = l.length - i) (l.length - 0) ⟨0, none, 0, [], [], [], _, ⟨Nat.zero_le _, RgA.nil, rfl⟩, rfl, ZU, rfl⟩ ?_)))))
  rintro L f m ⟨i, A, cap, xs, o1, o2, j, hrel, rfl, rfl, rfl⟩
  have hrel0 := hrel; have hra := hrel.2.1; have hil := hrel.1
  refine z7 (zB ?_)
  by_cases h2 : (i : Int) < (l.length : Int)
  · have hi : i < l.length := by omega
    obtain ⟨y, hy⟩ : ∃ y, l[i] = y := ⟨_, rfl⟩
    have hyl : y.length ≤ 96 := hlm y (hy ▸ List.getElem_mem hi)
    refine Zd (p := (i : Int) < (l.length : Int)) true (decide_eq_true (h2)) (ZN (z7 (Zt (ZB (z7 (zN (ZO (y5 (.pointer (some ⟨g, i * 1, none⟩)) (by kernel_rfl) (ZV (b := g) (off := 0) (n := l.length) (c := lcap) (k := .i64) (j := (i : Int)) (e := 9) (sz := 1)) ?_))))))))
    refine j0 0 ⟨g, cur, 9⟩ (off := i * 1) (.string (mkS y)) (by kernel_rfl) rfl (by kernel_rfl) (by kernel_rfl) (x8 wZ hcur i 0 (by omega) (by omega) _ (by rw [hy]; kernel_rfl)) (Zv (.string (mkS y)) (ZR (Zv (.slice none 0 0) (ZN (z7 (z7 (zB ?_)))))))
    refine Zv (.string (mkS y)) (yD (k := 36) (args := #[.string (mkS y), .string ⟨#[44]⟩]) (fun v' L' => ∃ ob', L' = ob' ++ (⟨g, cur, 9⟩ :: (⟨b2, #[.slice A xs.length cap], 25⟩ :: (⟨b1, #[.slice none 0 0], 25⟩ :: ((o1 ++ o2))))) ∧ SlT v' (yR 44 [] y) ob') (by kernel_rfl) (fun _ => by kernel_rfl) (fun w hO => (split_comma y w (by omega) (ht.on hO.below)).mono fun e w' ⟨v', ob', k1, k2, k3⟩ => ⟨v', _, k1, ⟨ob', rfl, k2⟩, Own.joinN hO k3⟩) (fun mv L2 hv2 => ?_))
    obtain ⟨om, rfl, hom⟩ := hv2
    obtain ⟨m', hml⟩ : ∃ m', m' = yR 44 [] y := ⟨_, rfl⟩
    rw [← hml] at hom
    have hmn : m'.length ≤ 97 := by rw [hml]; exact (pieces_len hyl).1
    have hmm : ∀ x ∈ m', x.length ≤ 96 := fun x hx => (pieces_len hyl).2 x (hml ▸ hx)
    obtain ⟨g2, cur2, mcap, rfl, rfl, hcur2⟩ := SlT.blk hom (by rw [hml]; exact b8 44 y [])
    refine Zv (.int .i64 (m'.length : Int)) (Zv (.int .i64 0) (ZN (zN (q5 (L' := ⟨g2, cur2, 9⟩ :: ⟨g, cur, 9⟩ :: ⟨b2, #[.slice A xs.length cap], 25⟩ :: ⟨b1, #[.slice none 0 0], 25⟩ :: ([] ++ (o1 ++ o2))) rfl (x9 (fun L f m => ∃ (k : Nat) (B : Option Addr) (cb : Nat) (a : List Co) (oa : List Blk) (j : Nat → Value), (k ≤ m'.length ∧ SlCo (.slice B a.length cb) a oa ∧ jZ parseP (m'.take k) = some a) ∧ L = ⟨g2, cur2, 9⟩ :: ⟨g, cur, 9⟩ :: ⟨b2, #[.slice A xs.length cap], 25⟩ :: ⟨b1, #[.slice none 0 0], 25⟩ :: (oa ++ (o1 ++ o2)) ∧ f = g7 j [(2, .pointer (some ⟨b1, 0, none⟩)), (4, .pointer (some ⟨b2, 0, none⟩)), (18, .slice (some ⟨g, 0, none⟩) l.length lcap), (19, .int .i64 (l.length : Int)), (20, .int .i64 (i : Int)), (7, .slice B a.length cb), (25, .slice (some ⟨g2, 0, none⟩) m'.length mcap), (26, .int .i64 (m'.length : Int)), (27, .int .i64 (k : Int))] ∧ m = m'.length - k) (m'.length - 0) ⟨0, none, 0, [], [], _, ⟨Nat.zero_le _, Sl.nil _ _, rfl⟩, rfl, ZU, rfl⟩ ?_)))))
    rintro L f m ⟨k, B, cb, a, oa, j, hrel, rfl, rfl, rfl⟩
    have hkl := hrel.1
    refine z7 (zB ?_)
    by_cases h3 : (k : Int) < (m'.length : Int)
    · have hk : k < m'.length := by omega
      obtain ⟨z, hz⟩ : ∃ z, m'[k] = z := ⟨_, rfl⟩
      have hzl : z.length ≤ 96 := hmm z (hz ▸ List.getElem_mem hk)
      have hbz := bareL_len z
      refine Zd (p := (k : Int) < (m'.length : Int)) true (decide_eq_true (h3)) (ZN (z7 (Zt (ZB (z7 (zN (ZO (y5 (.pointer (some ⟨g2, k * 1, none⟩)) (by kernel_rfl) (ZV (b := g2) (off := 0) (n := m'.length) (c := mcap) (k := .i64) (j := (k : Int)) (e := 9) (sz := 1)) ?_))))))))
      refine j0 0 ⟨g2, cur2, 9⟩ (off := k * 1) (.string (mkS z)) (by kernel_rfl) rfl (by kernel_rfl) (by kernel_rfl) (x8 wZ hcur2 k 0 (by omega) (by omega) _ (by rw [hz]; kernel_rfl)) (Zv (.string (mkS z)) (ZR (Zv (.string (mkS z)) (Zc (k := 38) (args := #[.string (mkS z), .string ⟨#[32]⟩]) (.string (mkS (xU z))) (fun w _ => trim_any z w (by omega)) (Zc (k := 37) (args := #[.string (mkS (xU z))]) (.tuple #[coV (pcV (xU z)), .int .i64 (pcE (xU z))]) (fun w hO => cParse_any (xU z) w (by omega) (ht.tab.on hO.below)) (Zv (.tuple #[coV (pcV (xU z)), .int .i64 (pcE (xU z))]) (Zv (coV (pcV (xU z))) (Zv (.int .i64 (pcE (xU z))) ?_))))))))
      refine Za (.agg #[.int .i64 0, .int .i64 0, .int .i64 0, .int .i64 0, .int .i64 0, .string ⟨#[]⟩, .string ⟨#[]⟩]) (fun b3 => Zs 0 ⟨b3, #[.int .i64 0, .int .i64 0, .int .i64 0, .int .i64 0, .int .i64 0, .string ⟨#[]⟩, .string ⟨#[]⟩], 51⟩ (off := 0) (coV (pcV (xU z))) (Zv (.int .i64 (pcE (xU z))) (ZN (z7 (ZO (Zv (.int .i64 (pcE (xU z))) ?_))))))
      by_cases h4 : ((pcE (xU z)) : Int) = 0
      · refine vL (p := ((pcE (xU z)) : Int) = 0) true (by kernel_rfl) (fun _ => by kernel_rfl) (decide_eq_true (h4)) ?_
        refine ZX (ZB (zB (Zv (.slice B a.length cb) (Zl 0 ⟨b3, (coV (pcV (xU z))).cells, 51⟩ (off := 0) (coV (pcV (xU z))) (jE 51 #[.int .i64 ((pcV (xU z)).op), .int .i64 ((pcV (xU z)).parts), .int .i64 ((pcV (xU z)).v.maj), .int .i64 ((pcV (xU z)).v.min), .int .i64 ((pcV (xU z)).v.pat), .string (mkS (pcV (xU z)).v.pre), .string (mkS (pcV (xU z)).v.build)] (by kernel_rfl) rfl (fun _ => by kernel_rfl) (fun b4 => ?_))))))
        obtain ⟨i0, z0, e1, e2, e3, e4, e5⟩ := co_info
        have hal : a.length ≤ 97 := by have q := bW hrel.2.2; rw [List.length_take] at q; omega
        refine kA (L' := [⟨b4, #[.int .i64 ((pcV (xU z)).op), .int .i64 ((pcV (xU z)).parts), .int .i64 ((pcV (xU z)).v.maj), .int .i64 ((pcV (xU z)).v.min), .int .i64 ((pcV (xU z)).v.pat), .string (mkS (pcV (xU z)).v.pre), .string (mkS (pcV (xU z)).v.build)], 51⟩, ⟨b3, (coV (pcV (xU z))).cells, 51⟩, ⟨g2, cur2, 9⟩, ⟨g, cur, 9⟩, ⟨b2, #[.slice A xs.length cap], 25⟩, ⟨b1, #[.slice none 0 0], 25⟩] ++ oa ++ (o1 ++ o2)) (by rw [List.append_assoc]; kernel_rfl) (q7 (sz := 7) (by kernel_rfl) rfl Tryz.underlying47 e1 e2 e3 e4 (by kernel_rfl) hrel.2.1 (a := ⟨b4, 0, none⟩) (m := 1) (c := 1) (news := coC (pcV (xU z))) (by kernel_rfl) rfl (fun w hO j u hj => ?_) (co_cells _) (by unfold maxLen; omega) (by rw [e5]; omega) (fun u2 ob2 hu2 => ?_))
        · rw [x6, cell_of_row w b4 (0 + j) (coC (pcV (xU z))).toArray 51 _ (hO.held ⟨b4, (coC (pcV (xU z))).toArray, 51⟩ (List.mem_append_left _ (List.mem_append_left _ (List.mem_cons_self ..))))]; simpa using hj
        have hu3 : SlCo u2 (a ++ [(pcV (xU z))]) ob2 := hu2.to (by simp) (by simp)
        obtain ⟨B2, cb2, rfl⟩ := Sl.form hu3
        exact vY (L' := ⟨g2, cur2, 9⟩ :: (⟨g, cur, 9⟩ :: (⟨b2, #[.slice A xs.length cap], 25⟩ :: (⟨b1, #[.slice none 0 0], 25⟩ :: (ob2 ++ ((o1 ++ o2))))))) (fun w hO => own_two (by simpa using hO)) (Zv (.slice B2 ((a ++ [(pcV (xU z))]).length) cb2) (zT (zS (zC (zB (Zu (k := .i64) (((k + 1 : Nat) : Int)) (IntWalk.i64_in _ (by omega)) (Zv (.int .i64 ((k + 1 : Nat) : Int)) (zT (zW (m' := m'.length - (k + 1)) (by omega) ⟨k + 1, B2, cb2, _, ob2, _, ⟨by omega, hu3, allO_next hk hz hrel.2.2 (pc_ok (by assumption))⟩, rfl, ZU, rfl⟩)))))))))
      refine Zn (p := ((pcE (xU z)) : Int) = 0) false (decide_eq_false (h4)) (ZY (ZO (Zv (.agg #[.slice none 0 0]) (Zs 4 ⟨b1, #[.slice none 0 0], 25⟩ (off := 0) (.agg #[.slice none 0 0]) (Zv (.int .i64 6) (ZN (zD ?_)))))))
      refine z6 (zI (z6 (yB (zI (z6 (zI (z6 (yB (zI (z6 (ZD 4 ⟨b1, #[.slice none 0 0], 25⟩ (off := 0) (.agg #[.slice none 0 0]) (.int .i64 6) Tryz.results12 ?_)))))))))))
      exact fun w hO => ⟨.agg #[.slice none 0 0], [], by rw [(errG_none hs6 (all_fails hll hi hy hml hk hz (by assumption))).1], by rw [(errG_none hs6 (all_fails hll hi hy hml hk hz (by assumption))).2]; exact RgO.nil, gZ hO⟩
    refine Zd (p := (k : Int) < (m'.length : Int)) false (decide_eq_false (h3)) (ZN (z7 (Zf (y7 (z8 (zQ (zJ (zC (zB (Zv (.pointer (some ⟨b2, 0, none⟩)) ?_))))))))))
    refine Zl 2 ⟨b2, #[.slice A xs.length cap], 25⟩ (off := 0) (.slice A xs.length cap) (Zv (.slice B a.length cb) (jE 47 #[.slice B a.length cb] (by kernel_rfl) rfl (fun _ => by kernel_rfl) (fun b3 => ?_)))
    obtain ⟨i0, z0, e1, e2, e3, e4, e5⟩ := al_info
    have hal : xs.length ≤ 97 := by have q := bW hrel0.2.2; rw [List.length_take, g8] at q; omega
    refine kA (L' := ([⟨b3, #[.slice B a.length cb], 47⟩, ⟨g2, cur2, 9⟩, ⟨g, cur, 9⟩, ⟨b2, #[.slice A xs.length cap], 25⟩, ⟨b1, #[.slice none 0 0], 25⟩] ++ oa) ++ o1 ++ o2) (by rw [List.append_assoc, List.append_assoc]; kernel_rfl) (q7 (sz := 1) (by kernel_rfl) rfl Tryz.underlying23 e1 e2 e3 e4 (by kernel_rfl) hra.top (a := ⟨b3, 0, none⟩) (m := 1) (c := 1) (news := alC (Al.mk B a cb)) (by kernel_rfl) rfl (fun w hO j u hj => ?_) (al_cells _) (by unfold maxLen; omega) (by rw [e5]; omega) (fun u2 ob2 hu2 => ?_))
    · rw [x6, cell_of_row w b3 (0 + j) (alC (Al.mk B a cb)).toArray 47 _ (hO.held ⟨b3, (alC (Al.mk B a cb)).toArray, 47⟩ (by simp [alC]))]; simpa using hj
    have hra2 := hra.add hu2 hrel.2.1
    obtain ⟨A2, cap2, rfl⟩ := Sl.form hra2.top
    exact vY (L' := ⟨g, cur, 9⟩ :: (⟨b2, #[.slice A xs.length cap], 25⟩ :: (⟨b1, #[.slice none 0 0], 25⟩ :: ((ob2 ++ (oa ++ o2)))))) (fun w hO => own_turn hO) (Zv (.pointer (some ⟨b2, 0, none⟩)) (Zs 1 ⟨b2, #[.slice A xs.length cap], 25⟩ (off := 0) (.slice A2 ((xs ++ [(Al.mk B a cb)]).length) cap2) (zT (zS (zC (zB (Zu (k := .i64) (((i + 1 : Nat) : Int)) (IntWalk.i64_in _ (by omega)) (Zv (.int .i64 ((i + 1 : Nat) : Int)) (zT (zW (m' := l.length - (i + 1)) (by omega) ⟨i + 1, A2, cap2, _, ob2, (oa ++ o2), _, ⟨by omega, hra2, by rw [show xT (xs ++ [Al.mk B a cb]) = xT xs ++ [a] from by simp [xT]]; exact allO_next hi hy hrel0.2.2 (by have q := hrel.2.2; rw [List.take_of_length_le (by omega), hml] at q; exact q)⟩, rfl, ZU, rfl⟩))))))))))
  have hall : kU s = some (xT xs) := by have q := hrel0.2.2; rw [List.take_of_length_le (by omega), hll] at q; exact q
  have hfine : FineR (xT xs) := fine_part hs6 (fun x hx => hll ▸ hx) hln (by rw [hll]; exact hall)
  obtain ⟨t, et⟩ : ∃ t, wD (xT xs) = t := ⟨_, rfl⟩
  obtain ⟨htn, hty⟩ := fewR_text (all_ne hall) et
  have htz := xR t
  refine Zd (p := (i : Int) < (l.length : Int)) false (decide_eq_false (h2)) (ZN (z7 (Zf (y7 (z8 (zQ (zJ (zC (z7 (zB ?_))))))))))
  refine Zl 1 ⟨b2, #[.slice A xs.length cap], 25⟩ (off := 0) (.agg #[.slice A xs.length cap]) (Zc (k := 39) (args := #[.agg #[.slice A xs.length cap]]) (.string (mkS t)) (fun w hO => bG (by rw [et]) (gtext_any A cap xs w (hra.inn rfl hO (fun x hx => by simp [hx]) (fun x hx => by simp [hx]) hfine) (ht.on hO.below))) (Zv (.string (mkS t)) (ZN (z7 (ZO (Zv (.string (mkS t)) ?_))))))
  by_cases h5 : (t : List UInt8) = []
  · refine y5 (.bool true) (by kernel_rfl) (yZ (a := t) (b := ([])) rfl (by kernel_rfl) (by kernel_rfl) (decide_eq_true (h5))) ?_
    refine ZY (ZO (Zv (.agg #[.slice none 0 0]) (Zs 2 ⟨b1, #[.slice none 0 0], 25⟩ (off := 0) (.agg #[.slice none 0 0]) (Zv (.int .i64 6) (ZN (zD (z6 ?_)))))))
    exact ZD 2 ⟨b1, #[.slice none 0 0], 25⟩ (off := 0) (.agg #[.slice none 0 0]) (.int .i64 6) Tryz.results12 (fun w hO => ⟨.agg #[.slice none 0 0], [], by rw [(errG_few hs6 hall (htn (by assumption))).1], by rw [(errG_few hs6 hall (htn (by assumption))).2]; exact RgO.nil, gZ hO⟩)
  obtain ⟨hfw, htx⟩ := hty h5
  refine y5 (.bool false) (by kernel_rfl) (yZ (a := t) (b := ([])) rfl (by kernel_rfl) (by kernel_rfl) (decide_eq_false (h5))) (ZX (ZB (z7 (ZO (Zv (.string (mkS t)) (Zv (.int .i64 ((mkS t).size)) ?_))))))
  by_cases h6 : (96 : Int) < (mkS t).size
  · refine yI (p := (96 : Int) < (mkS t).size) true (by kernel_rfl) (fun _ => by kernel_rfl) (decide_eq_true (h6)) ?_
    refine ZY (ZO (Zv (.agg #[.slice none 0 0]) (Zs 2 ⟨b1, #[.slice none 0 0], 25⟩ (off := 0) (.agg #[.slice none 0 0]) (Zv (.int .i64 3) (ZN (zD (z6 ?_)))))))
    exact ZD 2 ⟨b1, #[.slice none 0 0], 25⟩ (off := 0) (.agg #[.slice none 0 0]) (.int .i64 3) Tryz.results12 (fun w hO => ⟨.agg #[.slice none 0 0], [], by rw [(errG_big hs6 hall hfw (by rw [htx]; omega)).1], by rw [(errG_big hs6 hall hfw (by rw [htx]; omega)).2]; exact RgO.nil, gZ hO⟩)
  refine Zd (p := (96 : Int) < (mkS t).size) false (decide_eq_false (h6)) (ZX (ZB (ZO (Zl 1 ⟨b2, #[.slice A xs.length cap], 25⟩ (off := 0) (.agg #[.slice A xs.length cap]) (Zs 2 ⟨b1, #[.slice none 0 0], 25⟩ (off := 0) (.agg #[.slice A xs.length cap]) (Zv (.int .i64 0) (zT ?_)))))))
  exact zC (zD (ZD 2 ⟨b1, #[.slice A xs.length cap], 25⟩ (off := 0) (.agg #[.slice A xs.length cap]) (.int .i64 0) Tryz.results12 (fun w hO => ⟨.agg #[.slice A xs.length cap], o1 ++ o2, by rw [(errG_fine hs6 hall hfw (by rw [htx]; omega)).1], by rw [(errG_fine hs6 hall hfw (by rw [htx]; omega)).2]; exact ⟨xs, _, o1, o2, rfl, rfl, rfl, hra⟩, Own.sub [_, _, _] hO⟩)))
theorem fine_allP (s : List UInt8) : FineR ((zM s).getD []) := by
  cases h : zM s with
  | none => exact ⟨Nat.zero_le _, fun a ha => by simp at ha⟩
  | some r =>
    have := fine_get (jA h).1
    rwa [h] at this
theorem own_of {M : List Nat} {W w : World} {x y : Blk} {A B : List Blk} (h : Own M W w (A ++ (x :: (B ++ [y])))) : Own M W w (y :: A) := by
  have h1 : Own M W w (A ++ [y]) := h.sublist (List.Sublist.append (List.Sublist.refl A) ((List.sublist_append_right B [y]).trans (List.sublist_cons_self x _)))
  exact h1.perm List.perm_append_comm
theorem gOf_any (s : List UInt8) (W : World) (hs : s.length ≤ 1000000) (ht : HasLib W) : Calls Tryz.prog 14 #[.string (mkS s)] W fun e w' => ∃ v' ob', e = .returned (.tuple #[v', .int .i64 (yW s)]) ∧ SetO v' (zU ((zM s).getD [])) ob' ∧ Own [] W w' ob' := by
  refine zR (n := 14) Tryz.func14 rfl (by kernel_rfl) (by kernel_rfl) (ZO (Za (.agg #[.slice none 0 0, .slice none 0 0]) (fun b1 => Zv (.int .i64 0) (ZR (Zv (.string (mkS s)) (yD (k := 12) (args := #[.string (mkS s)]) (fun v' L' => ∃ ob', L' = ob' ++ ([⟨b1, #[.slice none 0 0, .slice none 0 0], 31⟩]) ∧ ∃ rv, v' = .tuple #[rv, .int .i64 (yW s)] ∧ RgO rv ((zM s).getD []) ob') (by kernel_rfl) (fun _ => by kernel_rfl) (fun w hO => (nE s w hs (ht.on hO.below)).mono fun e w' ⟨v', ob', k1, k2, k3⟩ => ⟨Value.tuple #[v', .int .i64 (yW s)], _, k1, ⟨ob', rfl, ⟨v', rfl, k2⟩⟩, Own.joinN hO k3⟩) (fun vp Lx1 hvx1 => ?_)))))))
  obtain ⟨op, rfl, hp0⟩ := hvx1
  obtain ⟨rv, rfl, hp⟩ := hp0
  obtain ⟨xs, u, o1, o2, rfl, rfl, hxs, hra⟩ := hp
  obtain ⟨A, cap, rfl⟩ := Sl.form hra.top
  refine Zv (.tuple #[.agg #[.slice A xs.length cap], .int .i64 (yW s)]) (Zv (.agg #[.slice A xs.length cap]) (Zv (.int .i64 (yW s)) (Za (.agg #[.slice none 0 0]) (fun b2 => Zs 0 ⟨b2, #[.slice none 0 0], 25⟩ (off := 0) (.agg #[.slice A xs.length cap]) (Zv (.int .i64 (yW s)) (ZR (Zl 0 ⟨b2, #[.slice A xs.length cap], 25⟩ (off := 0) (.agg #[.slice A xs.length cap]) (yD (k := 23) (args := #[.agg #[.slice A xs.length cap]]) (fun v' L' => ∃ ob', L' = ob' ++ (⟨b2, #[.slice A xs.length cap], 25⟩ :: ((o1 ++ o2) ++ ([⟨b1, #[.slice none 0 0, .slice none 0 0], 31⟩]))) ∧ SetO v' (zU (xT xs)) ob') (by kernel_rfl) (fun _ => by kernel_rfl) (fun w hO => (gSet_any A cap xs w (hra.inn rfl hO (fun x hx => by simp [hx]) (fun x hx => by simp [hx]) (by rw [hxs]; exact fine_allP s)) (ht.on hO.below)).mono fun e w' ⟨v', ob', k1, k2, k3⟩ => ⟨v', _, k1, ⟨ob', rfl, k2⟩, Own.joinN hO k3⟩) (fun vs Lx2 hvx2 => ?_)))))))))
  obtain ⟨oS, rfl, hS⟩ := hvx2
  obtain ⟨VS, US, cS, dS, rfl⟩ := hS.form
  exact Zv (.int .i64 (yW s)) (vY (L' := ⟨b1, #[.slice none 0 0, .slice none 0 0], 31⟩ :: (oS)) (fun w hO => own_of hO) (Zs 0 ⟨b1, #[.slice none 0 0, .slice none 0 0], 31⟩ (off := 0) (.agg #[.slice VS ((zU (xT xs)).rel.length) cS, .slice US ((zU (xT xs)).pre.length) dS]) (Zv (.int .i64 (yW s)) (ZN (zD (ZD 0 ⟨b1, #[.slice VS ((zU (xT xs)).rel.length) cS, .slice US ((zU (xT xs)).pre.length) dS], 31⟩ (off := 0) (.agg #[.slice VS ((zU (xT xs)).rel.length) cS, .slice US ((zU (xT xs)).pre.length) dS]) (.int .i64 (yW s)) Tryz.results14 (fun w hO => ⟨_, oS, rfl, by rw [← hxs]; exact hS, Own.sub [_] hO⟩)))))))
end
section
open Go.ChangeShapes Go.WideShapes Go.ChangeAt Go.RowKit
theorem own : ownKnob Tryz.prog.godebug = none := by kernel_rfl
theorem mB {H : Type} {enc : TypeId × Value → H} {P : Program} (hl : laidOutB P = true) {W W' : World} (hb : Below W.heap.size W W') :
    ∀ (ts : List TypeId), (∀ t ∈ ts, P.readableRec t = true ∧ t < P.types.size) → ∀ (vs : List Value) (ds : List (DataW H)) (ps : List MemPlace), DataW.TrodAll enc P W 0 (fun _ => true) true ts vs ds ps → (∀ p ∈ ps, p.block < W.heap.size) →
      DataW.TrodAll enc P W' 0 (fun b => decide (b < W.heap.size)) true ts vs ds ps
  | [], _, vs, ds, ps, h, _ => by
    obtain ⟨rfl, rfl, rfl⟩ := trodAll_nil h
    exact trodAll_mk0
  | t :: ts, hr, vs, ds, ps, h, hlt => by
    obtain ⟨v, vs', d, ds', p, q, rfl, rfl, rfl, hd, hrest⟩ := trodAll_cons h
    exact ⟨p, q, Go.RowKit.Below.trod hl (hr t (by simp)).1 (hr t (by simp)).2 hd hb.old (fun x hx => hlt x (by simp [hx])), mB hl hb ts (fun t' ht' => hr t' (by simp [ht'])) vs' ds' q hrest (fun x hx => hlt x (by simp [hx])), rfl⟩
theorem law_end {H : Type} {enc : TypeId × Value → H} {P : Program} {f : Func} {s : ChangeSpec} {W W' : World} {args : Array Value} {ds gs : List (DataW H)} {before : List MemPlace} {T : TypeId}
    (hl : laidOutB P = true) (hr : ∀ t ∈ f.params.toList, P.readableRec t = true ∧ t < P.types.size) (hv : s.vars = []) (hT : f.resultTypes = #[T]) (hB : P.underlying T = some .bool)
    (hW : DataW.Whole enc P f.params.toList s.vars false W args.toList ds gs before) (hf : s.fn H (ds ++ gs) = { results := [.lit (.bool true)], args := ds }) (hb : Below W.heap.size W W') :
    s.post enc P f false true false false W args (.bool true) W' := by
  have hlt : ∀ p ∈ before, p.block < W.heap.size := fun p hp => hW.lt p hp
  have hW' := hW
  obtain ⟨p, q, hA, hV, rfl, _, _⟩ := hW
  rw [hv] at hV
  obtain ⟨rfl, rfl⟩ := trodVars_none hV
  have h2 := mB hl hb _ hr _ _ _ hA (fun x hx => hlt x (by simp [hx]))
  refine ⟨ds, [], p ++ [], [], p, [], hW', ?_, ?_, ?_, World.keptBut_mono (fun x hx => ⟨hx, Or.inr (Or.inl (by simpa using hx))⟩) (hb.frame (· ∈ p ++ [])), fun h => by cases h⟩
  · rw [hf, hT]
    exact trodAll_cons_mk (shut_bool hB true) trodAll_mk0
  · rw [hf]; exact h2
  · rw [hf, hv]; rfl
theorem laidOut : laidOutB Tryz.prog = true := by kernel_rfl
theorem cell_lt {W : World} {a : Addr} {v : Value} (h : W.cell? a = some v) : a.block < W.heap.size := by
  rcases Nat.lt_or_ge a.block W.heap.size with h1 | h1
  · exact h1
  · unfold World.cell? at h
    rw [Array.getElem?_eq_none h1] at h
    simp at h
theorem strCells1 : Tryz.prog.cellsOf 9 = 1 := by kernel_rfl
theorem open_texts {H : Type} {enc : TypeId × Value → H} {W : World} {base : Nat} {v : Value} {d : DataW H} {ps : List MemPlace} (hval : Value.okWide Tryz.prog W .any base 58 v)
    (h : DataW.Trod enc Tryz.prog W 0 (fun _ => true) true 58 v d ps) : ∃ l : List (List UInt8), ReadsT W W.heap.size v l ∧ l.length ≤ maxLen ∧ ∀ x ∈ l, x.length ≤ maxLen := by
  obtain ⟨A, len, cap, rfl⟩ := okWide_slice Tryz.underlying58 hval
  obtain ⟨fuel, hf⟩ := h
  rcases open_strings Tryz.underlying58 Tryz.underlying9 strCells1 hf with ⟨hcs, _⟩ | ⟨a, len', cap', ss, hcs, _, hl, hm, hz, _, hcell, hws⟩
  · simp [Value.cells] at hcs
    obtain ⟨rfl, rfl, rfl⟩ := hcs
    exact ⟨[], ⟨none, 0, rfl, fun h => by cases h⟩, by simp, by simp⟩
  · simp [Value.cells] at hcs
    obtain ⟨rfl, rfl, rfl⟩ := hcs
    simp only [if_true] at hz
    have hlen : ((ss.take len).map (·.data.toList)).length = len := by rw [List.length_map, List.length_take]; omega
    refine ⟨(ss.take len).map (·.data.toList), ⟨some a, cap, by rw [hlen], fun h0 => ⟨a, rfl, ?_, fun j hj => ?_⟩⟩, by rw [hlen]; omega, fun x hx => ?_⟩
    · have := cell_lt (hcell 0 (by omega))
      rwa [addr_block] at this
    · have hj2 : j < ss.length := by omega
      rw [hcell j hj2, List.getElem_map, List.getElem_take]
      simp only [List.getD, List.getElem?_eq_getElem hj2, Option.getD_some]
      rfl
    · obtain ⟨s, hs, rfl⟩ := List.mem_map.1 hx
      have := hws s (List.mem_of_mem_take hs)
      rw [qR]; exact this
def litCells : DataW Unit → List Value
  | .lit (.int k n) => [Value.int k n]
  | .agg l => l.flatMap fun d => match d with | .lit (.int k n) => [Value.int k n] | _ => []
  | _ => []
def tabCells : DataW Unit → Array Value
  | .agg l => (l.flatMap litCells).toArray
  | _ => #[]
def layAt (h : Array Obj) (g : Nat) (d : DataW Unit) : Array Obj := h.modify g fun
  | .cells _ t frozen => .cells (tabCells d) t frozen
  | o => o
theorem powType : (Tryz.prog.globals[3]?).map (·.type) = some 222 := by kernel_rfl
theorem powNamed : Tryz.prog.globalNamed "internal/strconv.uint64pow10" = some 3 := by kernel_rfl
theorem powCells : Tryz.prog.cellsOf 222 = 20 := by kernel_rfl
theorem u64Cells : Tryz.prog.cellsOf 190 = 1 := by kernel_rfl
theorem hasTab_of {W : World} {l : List (String × DataW Unit)} (h : laidMetH Tryz.prog l W) (e : (l.filter fun x => x.1 == "internal/strconv.uint64pow10") = [("internal/strconv.uint64pow10", Lib.tabData .u64 Lib.pow10Tab)]) : HasTab W := by
  have h2 := h.filter (fun x => x.1 == "internal/strconv.uint64pow10")
  rw [e] at h2
  exact Lib.tabBelow_of_tabIs (Lib.tabIs_of_head (rest := []) powNamed powType Tryz.underlying222 Tryz.underlying190 u64Cells powCells h2)
end
section
theorem fine_all (s : List UInt8) : FineR ((zM s).getD []) := by
  cases h : zM s with
  | none => exact ⟨Nat.zero_le _, fun a ha => by simp at ha⟩
  | some r =>
    have := fine_get (jA h).1
    rwa [h] at this
def aRg : List (List Co) := [[⟨7, 2, ⟨1, 2, 0, [], []⟩⟩, ⟨2, 3, ⟨1, 3, 0, [], []⟩⟩], [⟨8, 1, ⟨2, 0, 0, [], []⟩⟩]]
theorem aG1 : zM [94, 49, 46, 50, 44, 33, 61, 49, 46, 51, 46, 48, 124, 124, 126, 50] = some aRg := by decide +kernel
theorem aG2 : zM [94, 49, 46, 50, 44, 32, 33, 61, 49, 46, 51, 46, 48, 32, 124, 124, 32, 126, 50] = some aRg := by decide +kernel
theorem aG3 : yW [94, 49, 46, 50, 44] = 6 := by decide +kernel
theorem aMay7 : rgMay aRg = true := by decide +kernel
theorem aPr7 : d6 aRg = [94, 49, 46, 50, 44, 32, 33, 61, 49, 46, 51, 46, 48, 32, 124, 124, 32, 126, 50] := by decide +kernel
theorem aHas1 : q6 (zU aRg) ⟨2, 9, 0, [], []⟩ = true := by rw [rgSet_has aMay7 (by decide +kernel)]; decide +kernel
theorem aHas2 : q6 (zU aRg) ⟨1, 3, 0, [], []⟩ = false := by rw [rgSet_has aMay7 (by decide +kernel)]; decide +kernel
theorem aD1 : (zM [94, 49, 46, 50, 44, 33, 61, 49, 46, 51, 46, 48, 124, 124, 126, 50]).getD [] = aRg := by rw [aG1]; rfl
theorem aD2 : (zM [94, 49, 46, 50, 44, 32, 33, 61, 49, 46, 51, 46, 48, 32, 124, 124, 32, 126, 50]).getD [] = aRg := by rw [aG2]; rfl
theorem uZ (W : World) (ht : HasLib W) : Calls Tryz.prog 11 #[] W fun e w' => e = .returned (.bool true) ∧ Below W.heap.size W w' := by
  refine zR (n := 45) Tryz.func11 rfl (by kernel_rfl) (by kernel_rfl) (ZO (Zv (.bool false) (ZR (yD (k := 12) (args := #[.string ⟨#[94, 49, 46, 50, 44, 33, 61, 49, 46, 51, 46, 48, 124, 124, 126, 50]⟩]) (fun v' L' => ∃ sv ob', v' = .tuple #[sv, .int .i64 0] ∧ L' = ob' ++ ([]) ∧ RgO sv (aRg) ob') (by kernel_rfl) (fun _ => by kernel_rfl) (fun w hO => (nE ([94, 49, 46, 50, 44, 33, 61, 49, 46, 51, 46, 48, 124, 124, 126, 50]) w (by decide) (ht.on hO.below)).mono fun e w' ⟨v', ob', k1, k2, k3⟩ => ⟨.tuple #[v', .int .i64 0], _, k1.trans (by rw [show yW ([94, 49, 46, 50, 44, 33, 61, 49, 46, 51, 46, 48, 124, 124, 126, 50]) = 0 from (jA aG1).1]), ⟨v', ob', rfl, rfl, by rw [show (zM ([94, 49, 46, 50, 44, 33, 61, 49, 46, 51, 46, 48, 124, 124, 126, 50])).getD [] = aRg from aD1] at k2; exact k2⟩, Own.joinN hO k3⟩) (fun tv L1 hv1 => ?_)))))
  obtain ⟨sv1, o1, rfl, rfl, hr1⟩ := hv1
  obtain ⟨xs1, u1, p1, q1, rfl, rfl, hx1, ha1⟩ := hr1
  obtain ⟨A1, c1, rfl⟩ := Sl.form ha1.top
  refine kA (L' := p1 ++ q1) (List.append_nil _) (Zv (.tuple #[.agg #[.slice A1 xs1.length c1], .int .i64 0]) (Zv (.agg #[.slice A1 xs1.length c1]) (Zv (.int .i64 0) (Za (.agg #[.slice none 0 0]) (fun b1 => Zs 0 ⟨b1, #[.slice none 0 0], 25⟩ (off := 0) (.agg #[.slice A1 xs1.length c1]) (Zv (.int .i64 0) (ZR (yD (k := 14) (args := #[.string ⟨#[94, 49, 46, 50, 44, 32, 33, 61, 49, 46, 51, 46, 48, 32, 124, 124, 32, 126, 50]⟩]) (fun v' L' => ∃ sv ob', v' = .tuple #[sv, .int .i64 0] ∧ L' = ob' ++ (⟨b1, #[.slice A1 xs1.length c1], 25⟩ :: ((p1 ++ q1))) ∧ SetO sv (zU (aRg)) ob') (by kernel_rfl) (fun _ => by kernel_rfl) (fun w hO => (gOf_any ([94, 49, 46, 50, 44, 32, 33, 61, 49, 46, 51, 46, 48, 32, 124, 124, 32, 126, 50]) w (by decide) (ht.on hO.below)).mono fun e w' ⟨v', ob', k1, k2, k3⟩ => ⟨.tuple #[v', .int .i64 0], _, k1.trans (by rw [show yW ([94, 49, 46, 50, 44, 32, 33, 61, 49, 46, 51, 46, 48, 32, 124, 124, 32, 126, 50]) = 0 from (jA aG2).1]), ⟨v', ob', rfl, rfl, by rw [show (zM ([94, 49, 46, 50, 44, 32, 33, 61, 49, 46, 51, 46, 48, 32, 124, 124, 32, 126, 50])).getD [] = aRg from aD2] at k2; exact k2⟩, Own.joinN hO k3⟩) (fun tv L2 hv2 => ?_)))))))))
  obtain ⟨sv2, o2, rfl, rfl, hr2⟩ := hv2
  obtain ⟨V2, U2, c2, d2, rfl⟩ := hr2.form
  refine Zv (.tuple #[.agg #[.slice V2 ((zU (aRg)).rel.length) c2, .slice U2 ((zU (aRg)).pre.length) d2], .int .i64 0]) (Zv (.agg #[.slice V2 ((zU (aRg)).rel.length) c2, .slice U2 ((zU (aRg)).pre.length) d2]) (Zv (.int .i64 0) (Za (.agg #[.slice none 0 0, .slice none 0 0]) (fun b2 => Zs 0 ⟨b2, #[.slice none 0 0, .slice none 0 0], 31⟩ (off := 0) (.agg #[.slice V2 ((zU (aRg)).rel.length) c2, .slice U2 ((zU (aRg)).pre.length) d2]) (Zv (.int .i64 0) (ZR (yD (k := 12) (args := #[.string ⟨#[94, 49, 46, 50, 44]⟩]) (fun v' L' => ∃ sv ob', v' = .tuple #[sv, .int .i64 6] ∧ L' = ob' ++ (⟨b2, #[.slice V2 ((zU (aRg)).rel.length) c2, .slice U2 ((zU (aRg)).pre.length) d2], 31⟩ :: (o2 ++ (⟨b1, #[.slice A1 xs1.length c1], 25⟩ :: ((p1 ++ q1))))) ∧ RgO sv ((zM [94, 49, 46, 50, 44]).getD []) ob') (by kernel_rfl) (fun _ => by kernel_rfl) (fun w hO => (nE ([94, 49, 46, 50, 44]) w (by decide) (ht.on hO.below)).mono fun e w' ⟨v', ob', k1, k2, k3⟩ => ⟨.tuple #[v', .int .i64 6], _, k1.trans (by rw [show yW ([94, 49, 46, 50, 44]) = 6 from aG3]), ⟨v', ob', rfl, rfl, by rw [show (zM ([94, 49, 46, 50, 44])).getD [] = (zM [94, 49, 46, 50, 44]).getD [] from rfl] at k2; exact k2⟩, Own.joinN hO k3⟩) (fun tv L3 hv3 => ?_))))))))
  obtain ⟨sv3, o3, rfl, rfl, hr3⟩ := hv3
  obtain ⟨xs3, u3, p3, q3, rfl, rfl, hx3, ha3⟩ := hr3
  obtain ⟨A3, c3, rfl⟩ := Sl.form ha3.top
  refine Zv (.tuple #[.agg #[.slice A3 xs3.length c3], .int .i64 6]) (Zv (.agg #[.slice A3 xs3.length c3]) (Zv (.int .i64 6) (Za (.agg #[.slice none 0 0]) (fun b3 => Zs 0 ⟨b3, #[.slice none 0 0], 25⟩ (off := 0) (.agg #[.slice A3 xs3.length c3]) (Zv (.int .i64 6) (ZR (Zv (.int .i64 0) (Zv (.bool true) ?_))))))))
  refine Zv (.bool true) (Zv (.int .i64 0) (Zv (.bool true) (Zv (.bool true) (Zv (.bool true) (nX ⟨b1, #[.slice A1 xs1.length c1], 25⟩ (off := 0) (.agg #[.slice A1 xs1.length c1]) (by kernel_rfl) rfl (by simp) (by kernel_rfl) (by kernel_rfl) (Zc (k := 21) (args := #[.agg #[.slice A1 xs1.length c1]]) (.string (mkS [94, 49, 46, 50, 44, 32, 33, 61, 49, 46, 51, 46, 48, 32, 124, 124, 32, 126, 50])) (fun w hO => bG (by rw [hx1, aPr7]) (gPrint_any A1 c1 xs1 w (RgA.inn ha1 rfl hO (fun x hx => by simp [hx]) (fun x hx => by simp [hx]) (by rw [hx1]; exact (aD1 ▸ fine_all ([94, 49, 46, 50, 44, 33, 61, 49, 46, 51, 46, 48, 124, 124, 126, 50])))) (ht.on hO.below))) (y5 (.bool true) (by kernel_rfl) (yZ (a := ([94, 49, 46, 50, 44, 32, 33, 61, 49, 46, 51, 46, 48, 32, 124, 124, 32, 126, 50])) (b := ([94, 49, 46, 50, 44, 32, 33, 61, 49, 46, 51, 46, 48, 32, 124, 124, 32, 126, 50])) rfl (by kernel_rfl) (by kernel_rfl) (decide_eq_true (rfl))) (Zv (.bool true) (Zv (.bool true) (Zv (.int .i64 6) (Zv (.bool true) ?_)))))))))))
  refine Zv (.bool true) (Zv (.bool true) (nX ⟨b2, #[.slice V2 ((zU (aRg)).rel.length) c2, .slice U2 ((zU (aRg)).pre.length) d2], 31⟩ (off := 0) (.agg #[.slice V2 ((zU (aRg)).rel.length) c2, .slice U2 ((zU (aRg)).pre.length) d2]) (by kernel_rfl) rfl (by simp) (by kernel_rfl) (by kernel_rfl) (Zv (.agg #[.int .i64 2, .int .i64 9, .int .i64 0, .string ⟨#[]⟩, .string ⟨#[]⟩]) (Zc (k := 30) (args := #[.agg #[.slice V2 ((zU (aRg)).rel.length) c2, .slice U2 ((zU (aRg)).pre.length) d2], .agg #[.int .i64 2, .int .i64 9, .int .i64 0, .string ⟨#[]⟩, .string ⟨#[]⟩]]) (.bool true) (fun w hO => ret_b (aHas1) (rsetHas_any V2 U2 c2 d2 (zU (aRg)) ⟨2, 9, 0, [], []⟩ w (SetO.inn hr2 hO (fun x hx => by simp [hx]) ((v8 (aRg))) (by decide)) ⟨by decide, by decide⟩)) (Zv (.bool true) (Zv (.bool true) (nX ⟨b2, #[.slice V2 ((zU (aRg)).rel.length) c2, .slice U2 ((zU (aRg)).pre.length) d2], 31⟩ (off := 0) (.agg #[.slice V2 ((zU (aRg)).rel.length) c2, .slice U2 ((zU (aRg)).pre.length) d2]) (by kernel_rfl) rfl (by simp) (by kernel_rfl) (by kernel_rfl) (Zv (.agg #[.int .i64 1, .int .i64 3, .int .i64 0, .string ⟨#[]⟩, .string ⟨#[]⟩]) (Zc (k := 30) (args := #[.agg #[.slice V2 ((zU (aRg)).rel.length) c2, .slice U2 ((zU (aRg)).pre.length) d2], .agg #[.int .i64 1, .int .i64 3, .int .i64 0, .string ⟨#[]⟩, .string ⟨#[]⟩]]) (.bool false) (fun w hO => ret_b (aHas2) (rsetHas_any V2 U2 c2 d2 (zU (aRg)) ⟨1, 3, 0, [], []⟩ w (SetO.inn hr2 hO (fun x hx => by simp [hx]) ((v8 (aRg))) (by decide)) ⟨by decide, by decide⟩)) (Zv (.bool true) (Zv (.bool true) ?_)))))))))))
  exact Zv (.bool true) (ZN (zD (ZF (.bool true) Tryz.results11 (fun w hO => ⟨rfl, hO.below⟩))))
end
section
section
variable {M : List Nat} {P : Program} {n : Nat} {ops : Array Oper} {W : World} {L0 : List Blk} {Q : Exit → Act → World → Prop} {fuel : Nat} {listed : Array Bool} {f : Nat → Value}
theorem h_ndec (i : Nat) (E : List Blk) (oi : Oper) (p : Prop) [Decidable p] (b : Bool) (hi : ops[i]? = some oi) (hs : Region.noSelect ops = true) (hf : Region.free .any ops listed i = true) (hr : (Region.ready .any ops listed).contains i = true)
    (hQ : PQ Q) (hw : xN ops n f oi = true) (hrun : ∀ w, (execOp (ev n f) oi).run P w = .ok (.value (.bool (!decide p))) w) (hb : decide p = b)
    (h : gW M P n ops W L0 Q fuel (listed.setIfInBounds i true) (E ++ L0) (upd f oi.dst (.bool (!b)))) : gW M P n ops W L0 Q (fuel + 1) listed (E ++ L0) f :=
  jK i E oi (.bool (!b)) hi hs hf hr hQ hw (fun w _ => by rw [hrun w, hb]) h
end
end
section
open Go.ChangeShapes Go.WideShapes Go.ChangeAt Go.RowKit Go.Deep
theorem mk_self (p : ByteArray) : mkS p.data.toList = p := by unfold mkS; simp
def Ver.wide (v : Ver) : Prop := v.pre.length ≤ maxLen ∧ v.build.length ≤ maxLen
def Ver.i64 (v : Ver) : Prop := ((-9223372036854775808 ≤ v.maj ∧ v.maj ≤ 9223372036854775807) ∧ (-9223372036854775808 ≤ v.min ∧ v.min ≤ 9223372036854775807)) ∧ (-9223372036854775808 ≤ v.pat ∧ v.pat ≤ 9223372036854775807)
section
variable {H : Type} {enc : TypeId × Value → H} {W : World}
def Cu.wide (c : Cu) : Prop := c.v.wide ∧ c.v.i64 ∧ (-9223372036854775808 ≤ c.e ∧ c.e ≤ 9223372036854775807)
def Sp.wide (s : Sp) : Prop := s.lo.wide ∧ s.hi.wide
end
end
end Go.Proofs.YtkljdpiaghepfaaGreatDoor
