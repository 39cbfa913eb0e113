/-
  What the statement's proof leans on: the ways of walking, n8 mathematics, and what the program's functions return; each theorem says on what conditions.
-/
import Derived.Below
import Derived.ChangeSame
import Derived.ProofKit
import Derived.OpenShut
import Derived.LaidSub
import Derived.Carry
import Derived.SliceStrings
import Derived.Lib.LaidTab
import Derived.Deep.DeepHandedRow
import Derived.ChangeSlices
import Derived.Test.YtkljdpiaghepfaaGreatDoorMB6
set_option maxRecDepth 1000000
set_option maxHeartbeats 8000000
set_option linter.unusedVariables false
set_option linter.unusedSimpArgs false
namespace Go.Proofs.YtkljdpiaghepfaaGreatDoor
open Go.RowKit

section
def mW (v : Ver) : Ver := { v with pre := [] }
theorem tE {v : Ver} (h : v.build = []) : mW v = mV v := by
  obtain ⟨a, b, c, p, q⟩ := v
  simp only at h; subst h; rfl
theorem rel_least {v : Ver} : mV v = Ver.zero ↔ qN v = true := by
  unfold mV qN Ver.rel Ver.zero
  simp only [Ver.mk.injEq, and_true, Bool.and_eq_true, decide_eq_true_eq, and_assoc]
theorem relA_zero {v : Ver} (h : mV v = Ver.zero) : relA v = yJ (-1) := by unfold relA; rw [rel_least.1 h]; rfl
theorem relA_one {v : Ver} (h : ¬ mV v = Ver.zero) : relA v = ⟨0, mV v, false⟩ := by
  unfold relA
  rw [show qN v = false from Bool.eq_false_iff.2 fun e => h (rel_least.2 e)]; rfl
theorem rel_self {v : Ver} (h1 : v.pre = []) (h2 : v.build = []) : mV v = v := by
  obtain ⟨a, b, c, p, q⟩ := v
  simp only at h1 h2; subst h1; subst h2; rfl
theorem next_pre {v : Ver} (h : v.may = true) (hp : v.pre ≠ []) : yX v = mV v ∧ kZ v = true := by
  have e : v.pre.isEmpty = false := by cases hq : v.pre with
    | nil => exact absurd hq hp
    | cons _ _ => rfl
  unfold yX kZ
  rw [h, e]; exact ⟨rfl, rfl⟩
theorem next_pos {v : Ver} (h : v.may = true) (hp : v.pre = []) (ho : kZ v = true) : ¬ mW (yX v) = Ver.zero := by
  intro e
  rcases next_is h with ⟨k, _⟩ | ⟨_, a, b, c, e1, e2, ⟨_, e3⟩ | ⟨e3, _⟩⟩
  · rw [ho] at k; cases k
  · have hn := jV h
    rw [e1] at e
    have h4 : (Ver.rel a b c).code = 0 := by
      have : Ver.rel a b c = Ver.zero := e
      rw [this]; rfl
    rw [h4] at e3
    unfold Ver.code at e3; omega
  · exact e3 hp
theorem pre0_next (v : Ver) : mW (yX v) = yX v := by
  have h := (next_flat v).1
  generalize yX v = u at h ⊢
  obtain ⟨a, b, c, p, q⟩ := u
  simp only at h; subst h; rfl
theorem nJ {c : Cu} (h : ¬ c.e = 0) : kG c = c := by unfold kG; rw [if_pos h]
theorem mC {c : Cu} (hm : c.may = true) (h0 : c.e = 0) (ha : c.aft = true) (ho : kZ c.v = false) : kG c = yJ 1 := by
  have hb := v6 hm
  have hp : c.v.pre = [] := Classical.byContradiction fun hp => by rw [(next_pre (vF hm) hp).2] at ho; cases ho
  unfold kG relB
  rw [if_neg (by omega), if_pos ⟨ha, hp⟩, rel_self hp hb, ho]; rfl
theorem bO {c : Cu} (hm : c.may = true) (h0 : c.e = 0) (ha : c.aft = true) (ho : kZ c.v = true) (hz : mW (yX c.v) = Ver.zero) : kG c = yJ (-1) := by
  have hp : ¬ c.v.pre = [] := fun hp => next_pos (vF hm) hp ho hz
  unfold kG
  rw [if_neg (by omega), if_neg (fun h => hp h.2)]
  refine relA_zero ?_
  rw [← (next_pre (vF hm) hp).1, ← pre0_next]; exact hz
theorem bN {c : Cu} (hm : c.may = true) (h0 : c.e = 0) (ha : c.aft = true) (ho : kZ c.v = true) (hz : ¬ mW (yX c.v) = Ver.zero) : kG c = ⟨0, mW (yX c.v), false⟩ := by
  have hb := v6 hm
  rw [pre0_next] at hz ⊢
  unfold kG
  by_cases hp : c.v.pre = []
  · rw [if_neg (by omega), if_pos ⟨ha, hp⟩]
    unfold relB
    rw [rel_self hp hb, ho]; rfl
  · rw [(next_pre (vF hm) hp).1] at hz ⊢
    rw [if_neg (by omega), if_neg (fun h => hp h.2)]
    exact relA_one hz
theorem tr_at0 {c : Cu} (hm : c.may = true) (h0 : c.e = 0) (ha : c.aft = false) (hz : mW c.v = Ver.zero) : kG c = yJ (-1) := by
  unfold kG
  rw [if_neg (by omega), if_neg (fun h => by rw [ha] at h; cases h.1)]
  exact relA_zero (by rw [← tE (v6 hm)]; exact hz)
theorem nK {c : Cu} (hm : c.may = true) (h0 : c.e = 0) (ha : c.aft = false) (hz : ¬ mW c.v = Ver.zero) : kG c = ⟨0, mW c.v, false⟩ := by
  unfold kG
  rw [if_neg (by omega), if_neg (fun h => by rw [ha] at h; cases h.1), tE (v6 hm)]
  exact relA_one (by rw [← tE (v6 hm)]; exact hz)
theorem turn_right {c : Cu} (hm : c.may = true) : decide (c = kG c) = x1 c := by
  cases h : x1 c with
  | false => exact decide_eq_false fun e => by rw [e, (mB hm).2] at h; cases h
  | true =>
    refine decide_eq_true ?_
    by_cases h0 : c.e = 0
    · have hr := h
      unfold x1 at hr
      rw [decide_eq_false (by simpa using h0), Bool.false_or] at hr
      simp only [Bool.and_eq_true, Bool.not_eq_true', decide_eq_true_eq] at hr
      obtain ⟨⟨ha, hp⟩, hl⟩ := hr
      have e1 : mW c.v = c.v := by
        have := v6 hm
        rw [tE this, rel_self hp this]
      rw [nK hm h0 ha (by rw [e1]; intro e; rw [e] at hl; revert hl; decide), e1]
      obtain ⟨e, v, a⟩ := c
      simp only at h0 ha; subst h0; subst ha; rfl
    · exact (nJ h0).symm
theorem toRel_any (c : Cu) (W : World) (hc : c.short) (hm : c.may = true) : Calls Tryz.prog 138 #[zF c] W fun e w' => e = .returned (zF (kG c)) ∧ Below W.heap.size W w' := by
  refine zQ (n := 30) Tryz.func138 rfl (by kernel_rfl) (by kernel_rfl) (ZO (Zb (zF c) (fun b1 => Za (.agg #[.int .i64 0, .int .i64 0, .int .i64 0, .int .i64 0, .string ⟨#[]⟩, .string ⟨#[]⟩, .bool false]) (fun b2 => ZN (z6 (ZO (Zv (.pointer (some ⟨b1, 0, none⟩)) (Zl 1 ⟨b1, (zF c).cells, 78⟩ (off := 0) (.int .i64 c.e) ?_))))))))
  by_cases h1 : (c.e : Int) = 0
  · refine vL (p := (c.e : Int) = 0) true (by kernel_rfl) (fun _ => by kernel_rfl) (decide_eq_true (h1)) ?_
    refine ZX (ZB (ZO (Zv (.pointer (some ⟨b1, 1, none⟩)) (Zl 1 ⟨b1, (zF c).cells, 78⟩ (off := 1) (.agg #[.int .i64 c.v.maj, .int .i64 c.v.min, .int .i64 c.v.pat, .string (mkS c.v.pre), .string (mkS c.v.build)]) (Za (.agg #[.int .i64 0, .int .i64 0, .int .i64 0, .string ⟨#[]⟩, .string ⟨#[]⟩]) (fun b3 => Zs 0 ⟨b3, #[.int .i64 0, .int .i64 0, .int .i64 0, .string ⟨#[]⟩, .string ⟨#[]⟩], 44⟩ (off := 0) (.agg #[.int .i64 c.v.maj, .int .i64 c.v.min, .int .i64 c.v.pat, .string (mkS c.v.pre), .string (mkS c.v.build)]) (Zv (.bool true) ?_)))))))
    refine ZN (z6 (ZO (Zv (.pointer (some ⟨b1, 6, none⟩)) (Zl 2 ⟨b1, (zF c).cells, 78⟩ (off := 6) (.bool c.aft) (zN (zC ?_))))))
    cases h2 : c.aft with
    | true =>
      refine Zt (z7 (Zl 0 ⟨b3, #[.int .i64 c.v.maj, .int .i64 c.v.min, .int .i64 c.v.pat, .string (mkS c.v.pre), .string (mkS c.v.build)], 44⟩ (off := 0) (.agg #[.int .i64 c.v.maj, .int .i64 c.v.min, .int .i64 c.v.pat, .string (mkS c.v.pre), .string (mkS c.v.build)]) (Zc (k := 181) (args := #[.agg #[.int .i64 c.v.maj, .int .i64 c.v.min, .int .i64 c.v.pat, .string (mkS c.v.pre), .string (mkS c.v.build)]]) (.tuple #[yF (yX c.v), .bool (kZ c.v)]) (fun w _ => vnext_any c.v w hc.1 hc.2) (Zv (.tuple #[yF (yX c.v), .bool (kZ c.v)]) (Zv (yF (yX c.v)) (Zv (.bool (kZ c.v)) (Zs 0 ⟨b3, #[.int .i64 c.v.maj, .int .i64 c.v.min, .int .i64 c.v.pat, .string (mkS c.v.pre), .string (mkS c.v.build)], 44⟩ (off := 0) (yF (yX c.v)) (Zv (.bool (kZ c.v)) (ZN (z6 ?_))))))))))
      refine z7 (Zv (.pointer (some ⟨b3, 3, none⟩)) (Zs 0 ⟨b3, (yF (yX c.v)).cells, 44⟩ (off := 3) (.string ⟨#[]⟩) (ZN (z6 (zI (ZO (Zv (.bool (kZ c.v)) ?_)))))))
      cases h3 : kZ c.v with
      | true =>
        refine Zv (.bool false) (Zv (.bool false) (ZX (ZO (Zl 0 ⟨b3, #[.int .i64 ((yX c.v).maj), .int .i64 ((yX c.v).min), .int .i64 ((yX c.v).pat), .string ⟨#[]⟩, .string (mkS (yX c.v).build)], 44⟩ (off := 0) (.agg #[.int .i64 ((yX c.v).maj), .int .i64 ((yX c.v).min), .int .i64 ((yX c.v).pat), .string ⟨#[]⟩, .string (mkS (yX c.v).build)]) (Zv (.agg #[.int .i64 0, .int .i64 0, .int .i64 0, .string ⟨#[]⟩, .string ⟨#[]⟩]) ?_)))))
        by_cases h4 : mW (yX c.v) = Ver.zero
        · refine zT (.bool true) (by kernel_rfl) (vT (u := mW (yX c.v)) (v := Ver.zero) rfl (by kernel_rfl) (by kernel_rfl) (decide_eq_true (h4))) ?_
          refine Zv (.bool true) (ZY (ZO (Zv (.agg #[.int .i64 (-1), .int .i64 0, .int .i64 0, .int .i64 0, .string ⟨#[]⟩, .string ⟨#[]⟩, .bool false]) (Zs 1 ⟨b2, #[.int .i64 0, .int .i64 0, .int .i64 0, .int .i64 0, .string ⟨#[]⟩, .string ⟨#[]⟩, .bool false], 78⟩ (off := 0) (.agg #[.int .i64 (-1), .int .i64 0, .int .i64 0, .int .i64 0, .string ⟨#[]⟩, .string ⟨#[]⟩, .bool false]) (ZN (zA (zD ?_)))))))
          exact z8 (ZC 1 ⟨b2, #[.int .i64 (-1), .int .i64 0, .int .i64 0, .int .i64 0, .string ⟨#[]⟩, .string ⟨#[]⟩, .bool false], 78⟩ (off := 0) (.agg #[.int .i64 (-1), .int .i64 0, .int .i64 0, .int .i64 0, .string ⟨#[]⟩, .string ⟨#[]⟩, .bool false]) Tryz.results138 (fun w hO => ⟨by first | rw [nJ (by omega)] | (rw [mC hm (by omega) (by assumption) (by assumption)]; rfl) | (rw [bO hm (by omega) (by assumption) (by assumption) (by assumption)]; rfl) | (rw [bN hm (by omega) (by assumption) (by assumption) (by assumption)]; rfl) | (rw [tr_at0 hm (by omega) (by assumption) (by assumption)]; rfl) | (rw [nK hm (by omega) (by assumption) (by assumption)]; rfl), hO.below⟩))
        refine zT (.bool false) (by kernel_rfl) (vT (u := mW (yX c.v)) (v := Ver.zero) rfl (by kernel_rfl) (by kernel_rfl) (decide_eq_false (h4))) (Zv (.bool false) (ZX (x4 (zR (zC (ZO (Zl 0 ⟨b3, #[.int .i64 ((yX c.v).maj), .int .i64 ((yX c.v).min), .int .i64 ((yX c.v).pat), .string ⟨#[]⟩, .string (mkS (yX c.v).build)], 44⟩ (off := 0) (.agg #[.int .i64 ((yX c.v).maj), .int .i64 ((yX c.v).min), .int .i64 ((yX c.v).pat), .string ⟨#[]⟩, .string (mkS (yX c.v).build)]) (Zv (.agg #[.int .i64 0, .int .i64 ((yX c.v).maj), .int .i64 ((yX c.v).min), .int .i64 ((yX c.v).pat), .string ⟨#[]⟩, .string (mkS (yX c.v).build), .bool false]) ?_))))))))
        exact Zs 1 ⟨b2, #[.int .i64 0, .int .i64 0, .int .i64 0, .int .i64 0, .string ⟨#[]⟩, .string ⟨#[]⟩, .bool false], 78⟩ (off := 0) (.agg #[.int .i64 0, .int .i64 ((yX c.v).maj), .int .i64 ((yX c.v).min), .int .i64 ((yX c.v).pat), .string ⟨#[]⟩, .string (mkS (yX c.v).build), .bool false]) (ZN (zA (ZC 1 ⟨b2, #[.int .i64 0, .int .i64 ((yX c.v).maj), .int .i64 ((yX c.v).min), .int .i64 ((yX c.v).pat), .string ⟨#[]⟩, .string (mkS (yX c.v).build), .bool false], 78⟩ (off := 0) (.agg #[.int .i64 0, .int .i64 ((yX c.v).maj), .int .i64 ((yX c.v).min), .int .i64 ((yX c.v).pat), .string ⟨#[]⟩, .string (mkS (yX c.v).build), .bool false]) Tryz.results138 (fun w hO => ⟨by first | rw [nJ (by omega)] | (rw [mC hm (by omega) (by assumption) (by assumption)]; rfl) | (rw [bO hm (by omega) (by assumption) (by assumption) (by assumption)]; rfl) | (rw [bN hm (by omega) (by assumption) (by assumption) (by assumption)]; rfl) | (rw [tr_at0 hm (by omega) (by assumption) (by assumption)]; rfl) | (rw [nK hm (by omega) (by assumption) (by assumption)]; rfl), hO.below⟩))))
      | false =>
        refine Zv (.bool true) (Zv (.bool true) (ZY (ZO (Zv (.agg #[.int .i64 1, .int .i64 0, .int .i64 0, .int .i64 0, .string ⟨#[]⟩, .string ⟨#[]⟩, .bool false]) (Zs 1 ⟨b2, #[.int .i64 0, .int .i64 0, .int .i64 0, .int .i64 0, .string ⟨#[]⟩, .string ⟨#[]⟩, .bool false], 78⟩ (off := 0) (.agg #[.int .i64 1, .int .i64 0, .int .i64 0, .int .i64 0, .string ⟨#[]⟩, .string ⟨#[]⟩, .bool false]) (ZN (zA ?_)))))))
        exact zD (z8 (ZC 1 ⟨b2, #[.int .i64 1, .int .i64 0, .int .i64 0, .int .i64 0, .string ⟨#[]⟩, .string ⟨#[]⟩, .bool false], 78⟩ (off := 0) (.agg #[.int .i64 1, .int .i64 0, .int .i64 0, .int .i64 0, .string ⟨#[]⟩, .string ⟨#[]⟩, .bool false]) Tryz.results138 (fun w hO => ⟨by first | rw [nJ (by omega)] | (rw [mC hm (by omega) (by assumption) (by assumption)]; rfl) | (rw [bO hm (by omega) (by assumption) (by assumption) (by assumption)]; rfl) | (rw [bN hm (by omega) (by assumption) (by assumption) (by assumption)]; rfl) | (rw [tr_at0 hm (by omega) (by assumption) (by assumption)]; rfl) | (rw [nK hm (by omega) (by assumption) (by assumption)]; rfl), hO.below⟩)))
    | false =>
      refine Zf (ZB (ZO (Zv (.pointer (some ⟨b3, 3, none⟩)) (Zs 0 ⟨b3, #[.int .i64 c.v.maj, .int .i64 c.v.min, .int .i64 c.v.pat, .string (mkS c.v.pre), .string (mkS c.v.build)], 44⟩ (off := 3) (.string ⟨#[]⟩) (ZN (z6 (zI (z6 ?_))))))))
      refine z7 (Zv (.bool true) (Zv (.bool false) (Zv (.bool false) (ZX (ZO (Zl 0 ⟨b3, #[.int .i64 c.v.maj, .int .i64 c.v.min, .int .i64 c.v.pat, .string ⟨#[]⟩, .string (mkS c.v.build)], 44⟩ (off := 0) (.agg #[.int .i64 c.v.maj, .int .i64 c.v.min, .int .i64 c.v.pat, .string ⟨#[]⟩, .string (mkS c.v.build)]) (Zv (.agg #[.int .i64 0, .int .i64 0, .int .i64 0, .string ⟨#[]⟩, .string ⟨#[]⟩]) ?_)))))))
      by_cases h5 : mW c.v = Ver.zero
      · refine zT (.bool true) (by kernel_rfl) (vT (u := mW c.v) (v := Ver.zero) rfl (by kernel_rfl) (by kernel_rfl) (decide_eq_true (h5))) ?_
        refine Zv (.bool true) (ZY (ZO (Zv (.agg #[.int .i64 (-1), .int .i64 0, .int .i64 0, .int .i64 0, .string ⟨#[]⟩, .string ⟨#[]⟩, .bool false]) (Zs 1 ⟨b2, #[.int .i64 0, .int .i64 0, .int .i64 0, .int .i64 0, .string ⟨#[]⟩, .string ⟨#[]⟩, .bool false], 78⟩ (off := 0) (.agg #[.int .i64 (-1), .int .i64 0, .int .i64 0, .int .i64 0, .string ⟨#[]⟩, .string ⟨#[]⟩, .bool false]) (ZN (zA (zD ?_)))))))
        exact z8 (ZC 1 ⟨b2, #[.int .i64 (-1), .int .i64 0, .int .i64 0, .int .i64 0, .string ⟨#[]⟩, .string ⟨#[]⟩, .bool false], 78⟩ (off := 0) (.agg #[.int .i64 (-1), .int .i64 0, .int .i64 0, .int .i64 0, .string ⟨#[]⟩, .string ⟨#[]⟩, .bool false]) Tryz.results138 (fun w hO => ⟨by first | rw [nJ (by omega)] | (rw [mC hm (by omega) (by assumption) (by assumption)]; rfl) | (rw [bO hm (by omega) (by assumption) (by assumption) (by assumption)]; rfl) | (rw [bN hm (by omega) (by assumption) (by assumption) (by assumption)]; rfl) | (rw [tr_at0 hm (by omega) (by assumption) (by assumption)]; rfl) | (rw [nK hm (by omega) (by assumption) (by assumption)]; rfl), hO.below⟩))
      refine zT (.bool false) (by kernel_rfl) (vT (u := mW c.v) (v := Ver.zero) rfl (by kernel_rfl) (by kernel_rfl) (decide_eq_false (h5))) (Zv (.bool false) (ZX (x4 (zR (zC (ZO (Zl 0 ⟨b3, #[.int .i64 c.v.maj, .int .i64 c.v.min, .int .i64 c.v.pat, .string ⟨#[]⟩, .string (mkS c.v.build)], 44⟩ (off := 0) (.agg #[.int .i64 c.v.maj, .int .i64 c.v.min, .int .i64 c.v.pat, .string ⟨#[]⟩, .string (mkS c.v.build)]) (Zv (.agg #[.int .i64 0, .int .i64 c.v.maj, .int .i64 c.v.min, .int .i64 c.v.pat, .string ⟨#[]⟩, .string (mkS c.v.build), .bool false]) ?_))))))))
      exact Zs 1 ⟨b2, #[.int .i64 0, .int .i64 0, .int .i64 0, .int .i64 0, .string ⟨#[]⟩, .string ⟨#[]⟩, .bool false], 78⟩ (off := 0) (.agg #[.int .i64 0, .int .i64 c.v.maj, .int .i64 c.v.min, .int .i64 c.v.pat, .string ⟨#[]⟩, .string (mkS c.v.build), .bool false]) (ZN (zA (ZC 1 ⟨b2, #[.int .i64 0, .int .i64 c.v.maj, .int .i64 c.v.min, .int .i64 c.v.pat, .string ⟨#[]⟩, .string (mkS c.v.build), .bool false], 78⟩ (off := 0) (.agg #[.int .i64 0, .int .i64 c.v.maj, .int .i64 c.v.min, .int .i64 c.v.pat, .string ⟨#[]⟩, .string (mkS c.v.build), .bool false]) Tryz.results138 (fun w hO => ⟨by first | rw [nJ (by omega)] | (rw [mC hm (by omega) (by assumption) (by assumption)]; rfl) | (rw [bO hm (by omega) (by assumption) (by assumption) (by assumption)]; rfl) | (rw [bN hm (by omega) (by assumption) (by assumption) (by assumption)]; rfl) | (rw [tr_at0 hm (by omega) (by assumption) (by assumption)]; rfl) | (rw [nK hm (by omega) (by assumption) (by assumption)]; rfl), hO.below⟩))))
  refine Zn (p := (c.e : Int) = 0) false (decide_eq_false (h1)) (ZY (ZO (Zl 1 ⟨b1, (zF c).cells, 78⟩ (off := 0) (zF c) (Zs 0 ⟨b2, #[.int .i64 0, .int .i64 0, .int .i64 0, .int .i64 0, .string ⟨#[]⟩, .string ⟨#[]⟩, .bool false], 78⟩ (off := 0) (zF c) (ZN (zA (z8 ?_)))))))
  exact ZC 0 ⟨b2, (zF c).cells, 78⟩ (off := 0) (zF c) Tryz.results138 (fun w hO => ⟨by first | rw [nJ (by omega)] | (rw [mC hm (by omega) (by assumption) (by assumption)]; rfl) | (rw [bO hm (by omega) (by assumption) (by assumption) (by assumption)]; rfl) | (rw [bN hm (by omega) (by assumption) (by assumption) (by assumption)]; rfl) | (rw [tr_at0 hm (by omega) (by assumption) (by assumption)]; rfl) | (rw [nK hm (by omega) (by assumption) (by assumption)]; rfl), hO.below⟩)
theorem mayRel_any (c : Cu) (W : World) (hc : c.short) (hm : c.may = true) : Calls Tryz.prog 208 #[zF c] W fun e w' => e = .returned (.bool (x1 c)) ∧ Below W.heap.size W w' := by
  rw [← turn_right hm]
  refine zQ (n := 7) Tryz.func208 rfl (by kernel_rfl) (by kernel_rfl) (ZO (Zb (zF c) (fun b1 => Zv (.bool false) (ZN (z6 (uL (by kernel_rfl) (by kernel_rfl) (Zm 0 ⟨b1, (zF c).cells, 78⟩ (off := 0) (zF c) (Zm 0 ⟨b1, (zF c).cells, 78⟩ (off := 0) (zF c) (Zq (k := 138) (args := #[zF c]) (zF (kG c)) (fun w _ => toRel_any c w hc hm) ?_)))))))))
  by_cases h1 : c = kG c
  · refine kW (.bool true) (by kernel_rfl) (vU (u := c) (v := kG c) rfl (by kernel_rfl) (by kernel_rfl) (decide_eq_true (h1))) ?_
    exact Zw (.bool true) (qO (zC (zA (ZF (.bool true) Tryz.results208 (fun w hO => ⟨by rw [decide_eq_true h1], hO.below⟩)))))
  exact kW (.bool false) (by kernel_rfl) (vU (u := c) (v := kG c) rfl (by kernel_rfl) (by kernel_rfl) (decide_eq_false (h1))) (Zw (.bool false) (qO (zC (zA (ZF (.bool false) Tryz.results208 (fun w hO => ⟨by rw [decide_eq_false h1], hO.below⟩))))))
def gM (s : Sp) : Bool := !x1 s.lo || !x1 s.hi
theorem bC {l : List Sp} : (!l.any gM) = l.all fun x => x1 x.lo && x1 x.hi := by
  rw [List.not_any_eq_all_not]
  congr 1
  funext s
  unfold gM
  simp
theorem foreign1_any (s : Sp) (W : World) (hs : s.short) (hm : s.may = true) : Calls Tryz.prog 207 #[yI s] W fun e w' => e = .returned (.bool (gM s)) ∧ Below W.heap.size W w' := by
  obtain ⟨m1, m2⟩ := zX hm
  refine zQ (n := 13) Tryz.func207 rfl (by kernel_rfl) (by kernel_rfl) (ZO (Zb (yI s) (fun b1 => Zv (.bool false) (ZR (Zv (.pointer (some ⟨b1, 0, none⟩)) (Zl 0 ⟨b1, (yI s).cells, 80⟩ (off := 0) (.agg #[.int .i64 s.lo.e, .int .i64 s.lo.v.maj, .int .i64 s.lo.v.min, .int .i64 s.lo.v.pat, .string (mkS s.lo.v.pre), .string (mkS s.lo.v.build), .bool s.lo.aft]) (Zc (k := 208) (args := #[.agg #[.int .i64 s.lo.e, .int .i64 s.lo.v.maj, .int .i64 s.lo.v.min, .int .i64 s.lo.v.pat, .string (mkS s.lo.v.pre), .string (mkS s.lo.v.build), .bool s.lo.aft]]) (.bool (x1 s.lo)) (fun w _ => mayRel_any s.lo w hs.1 m1) ?_)))))))
  cases h1 : x1 s.lo with
  | true =>
    refine Zv (.bool false) (Zv (.bool false) (Zv (.pointer (some ⟨b1, 7, none⟩)) (Zl 0 ⟨b1, (yI s).cells, 80⟩ (off := 7) (.agg #[.int .i64 s.hi.e, .int .i64 s.hi.v.maj, .int .i64 s.hi.v.min, .int .i64 s.hi.v.pat, .string (mkS s.hi.v.pre), .string (mkS s.hi.v.build), .bool s.hi.aft]) (Zc (k := 208) (args := #[.agg #[.int .i64 s.hi.e, .int .i64 s.hi.v.maj, .int .i64 s.hi.v.min, .int .i64 s.hi.v.pat, .string (mkS s.hi.v.pre), .string (mkS s.hi.v.build), .bool s.hi.aft]]) (.bool (x1 s.hi)) (fun w _ => mayRel_any s.hi w hs.2 m2) ?_))))
    cases h2 : x1 s.hi with
    | true =>
      exact Zv (.bool false) (Zv (.bool false) (Zv (.bool false) (ZN (zA (ZF (.bool false) Tryz.results207 (fun w hO => ⟨by unfold gM; simp [h1, h2], hO.below⟩))))))
    | false =>
      exact Zv (.bool true) (Zv (.bool true) (Zv (.bool true) (ZN (zA (ZF (.bool true) Tryz.results207 (fun w hO => ⟨by unfold gM; simp [h1, h2], hO.below⟩))))))
  | false =>
    refine Zv (.bool true) (Zv (.bool true) (Zk (Zk (Zk (Zk (Zv (.bool true) (Zv (.bool true) (ZN (zA (ZF (.bool true) Tryz.results207 ?_))))))))))
    exact fun w hO => ⟨by unfold gM; simp [h1], hO.below⟩
def tL : List Sp → Int → Int
  | [], _ => -1
  | s :: r, k => if gM s then k else tL r (k + 1)
theorem idxR_any : ∀ (l : List Sp) (k : Int), 0 ≤ k → decide (0 ≤ tL l k) = l.any gM
  | [], k, _ => rfl
  | s :: r, k, hk => by
    unfold tL
    rw [List.any_cons]
    cases h : gM s with
    | true => rw [if_pos rfl, Bool.true_or]; exact decide_eq_true hk
    | false => rw [if_neg (by decide), Bool.false_or]; exact idxR_any r (k + 1) (by omega)
theorem idxr_any (A : Option Addr) (cap : Nat) (l : List Sp) (W : World) (hv : Reads x9 W W.heap.size A l) (hn : l.length ≤ 1000000) (hl : xI l) (hmay : ∀ s ∈ l, s.may = true) :
    Calls Tryz.prog 226 #[.slice A l.length cap, .func (.func 207) #[] #[]] W fun e w' => e = .returned (.int .i64 (tL l 0)) ∧ Below W.heap.size W w' := by
  refine zQ (n := 19) Tryz.func226 rfl (by kernel_rfl) (by kernel_rfl) (ZO (Zv (.int .i64 0) (ZN (z6 (ZO (Zv (.slice A l.length cap) (Zv (.int .i64 (l.length : Int)) (Zv (.int .i64 0) ?_))))))))
  refine ZN (zI (yT (fun L f m => ∃ (k : Nat) (j : Nat → Value), (k ≤ l.length ∧ tL l 0 = tL (l.drop k) (k : Int)) ∧ L = [] ∧ f = kE j [(0, .slice A l.length cap), (1, .func (.func 207) #[] #[]), (7, .int .i64 (l.length : Int)), (8, .int .i64 (k : Int))] ∧ m = l.length - k) (l.length - 0) ⟨0, _, ⟨Nat.zero_le _, by rw [List.drop_zero]; rfl⟩, rfl, ZU, rfl⟩ ?_))
  rintro L f m ⟨k, j, hrel, rfl, rfl, rfl⟩
  have hkl := hrel.1
  refine z6 (z7 ?_)
  by_cases h1 : (k : Int) < (l.length : Int)
  · have hk : k < l.length := by omega
    obtain ⟨b, off, hA, hlt, hcel⟩ := hv (by omega)
    obtain ⟨s, hs⟩ : ∃ s, l[k] = s := ⟨_, rfl⟩
    have hsk : s.short := hs ▸ hl l[k] (List.getElem_mem hk)
    have hsm : s.may = true := hs ▸ hmay l[k] (List.getElem_mem hk)
    refine Zd (p := (k : Int) < (l.length : Int)) true (decide_eq_true (h1)) (ZN (z6 (Zt (ZB (z6 (zI (ZO (Zv (.int .i64 (k : Int)) ?_))))))))
    refine Zv (.int .i64 (k : Int)) (ZR (Zv (.func (.func 207) #[] #[]) (Zv (.slice A l.length cap) (Zv (.int .i64 (k : Int)) (zT (.pointer (some ⟨b, off + k * 14, none⟩)) (by kernel_rfl) (ZA (b := b) (off := off) (c := cap) (n := l.length) (k := .i64) (j := (k : Int)) (e := 80) (sz := 14) hA) (Zo (yI s) (a := ⟨b, off + k * 14, none⟩) (fun w hO => zZ yA (fun j u h => (hO.below.cell (p := ⟨b, off + j, none⟩) hlt).trans (hcel j u h)) k 0 hk (by omega) _ (by rw [hs]; kernel_rfl)) (Zc (k := 207) (args := #[yI s]) (.bool (gM s)) (fun w hO => foreign1_any s w hsk hsm) (zN ?_))))))))
    refine zC ?_
    cases h2 : gM s with
    | true =>
      refine Zt (ZO (Zv (.int .i64 (k : Int)) (Zv (.int .i64 (k : Int)) (ZN (zA (zD (z8 (y7 (zD ?_)))))))))
      exact z8 (ZF (.int .i64 (k : Int)) Tryz.results226 (fun w hO => ⟨by rw [hrel.2, List.drop_eq_getElem_cons hk, hs]; simp only [tL, h2]; rfl, hO.below⟩))
    | false =>
      refine Zf (x4 (zR (zC (z7 (Zu (k := .i64) (((k + 1 : Nat) : Int)) (IntWalk.i64_in _ (by omega)) (Zv (.int .i64 ((k + 1 : Nat) : Int)) (zN ?_)))))))
      have hnext : tL l 0 = tL (l.drop (k + 1)) ((k + 1 : Nat) : Int) := by rw [hrel.2, List.drop_eq_getElem_cons hk, hs]; simp only [tL, h2]; rfl
      exact zU (m' := l.length - (k + 1)) (by omega) ⟨k + 1, _, ⟨by omega, hnext⟩, rfl, ZU, rfl⟩
  refine Zd (p := (k : Int) < (l.length : Int)) false (decide_eq_false (h1)) (ZN (z6 (Zf (y5 (zB (zM (zH (zC (z6 (z7 ?_))))))))))
  exact Zv (.int .i64 (-1)) (ZN (zA (ZF (.int .i64 (-1)) Tryz.results226 (fun w hO => ⟨by rw [hrel.2, List.drop_of_length_le (by omega)]; rfl, hO.below⟩))))
theorem containsr_any (A : Option Addr) (cap : Nat) (l : List Sp) (W : World) (hv : Reads x9 W W.heap.size A l) (hn : l.length ≤ 1000000) (hl : xI l) (hmay : ∀ s ∈ l, s.may = true) :
    Calls Tryz.prog 209 #[.slice A l.length cap, .func (.func 207) #[] #[]] W fun e w' => e = .returned (.bool (l.any gM)) ∧ Below W.heap.size W w' := by
  rw [← idxR_any l 0 (by omega)]
  refine zQ (n := 9) Tryz.func209 rfl (by kernel_rfl) (by kernel_rfl) (ZO (Zv (.bool false) (ZR (Zv (.slice A l.length cap) (Zv (.func (.func 207) #[] #[]) (Zc (k := 226) (args := #[.slice A l.length cap, .func (.func 207) #[] #[]]) (.int .i64 (tL l 0)) (fun w hO => idxr_any A cap l w (hv.on hO.below hO.size) hn hl hmay) ?_))))))
  by_cases h1 : (0 : Int) ≤ tL l 0
  · refine zV (p := (0 : Int) ≤ tL l 0) true (by kernel_rfl) (fun _ => by kernel_rfl) (decide_eq_true (h1)) ?_
    exact Zv (.bool true) (ZN (zA (ZF (.bool true) Tryz.results209 (fun w hO => ⟨by simp only [decide_eq_true h1], hO.below⟩))))
  exact Zd (p := (0 : Int) ≤ tL l 0) false (decide_eq_false (h1)) (Zv (.bool false) (ZN (zA (ZF (.bool false) Tryz.results209 (fun w hO => ⟨by simp only [decide_eq_false h1], hO.below⟩)))))
theorem t7 (A B : Option Addr) (c d : Nat) (a : St) (W : World) (hs : SetIn W W.heap.size A B a) (ca : a.rel.length ≤ c ∧ a.pre.length ≤ d) : Calls Tryz.prog 182 #[.agg #[.slice A a.rel.length c, .slice B a.pre.length d]] W fun e w' => e = .returned (.bool a.may) ∧ Below W.heap.size W w' := by
  refine zQ (n := 19) Tryz.func182 rfl (by kernel_rfl) (by kernel_rfl) (ZO (Zb (.agg #[.slice A a.rel.length c, .slice B a.pre.length d]) (fun b1 => Zv (.bool false) (ZR (Zv (.func (.func 207) #[] #[]) (zN (zC ?_)))))))
  refine ZO (Zv (.pointer (some ⟨b1, 0, none⟩)) (Zl 0 ⟨b1, #[.slice A a.rel.length c, .slice B a.pre.length d], 31⟩ (off := 0) (.slice A a.rel.length c) (Zc (k := 129) (args := #[.slice A a.rel.length c]) (.bool (zJ a.rel)) (fun w hO => jC A c a.rel w (hs.rel.on hO.below hO.size) (Nat.le_trans hs.lr (by decide)) hs.sr) (Zv (.bool (zJ a.rel)) ?_))))
  cases h1 : zJ a.rel with
  | true =>
    refine Zv (.pointer (some ⟨b1, 1, none⟩)) (Zl 0 ⟨b1, #[.slice A a.rel.length c, .slice B a.pre.length d], 31⟩ (off := 1) (.slice B a.pre.length d) (Zc (k := 129) (args := #[.slice B a.pre.length d]) (.bool (zJ a.pre)) (fun w hO => jC B d a.pre w (hs.pre.on hO.below hO.size) (Nat.le_trans hs.lp (by decide)) hs.sp) (Zv (.bool (zJ a.pre)) (Zv (.bool (zJ a.pre)) ?_))))
    cases h2 : zJ a.pre with
    | true =>
      refine Zv (.pointer (some ⟨b1, 0, none⟩)) (Zl 0 ⟨b1, #[.slice A a.rel.length c, .slice B a.pre.length d], 31⟩ (off := 0) (.slice A a.rel.length c) (Zv (.func (.func 207) #[] #[]) (Zc (k := 209) (args := #[.slice A a.rel.length c, .func (.func 207) #[] #[]]) (.bool (a.rel.any gM)) (fun w hO => containsr_any A c a.rel w (hs.rel.on hO.below hO.size) (Nat.le_trans hs.lr (by decide)) hs.sr (x3 h1)) ?_)))
      cases h3 : a.rel.any gM with
      | true =>
        exact Zv (.bool false) (Zv (.bool false) (Zv (.bool false) (ZN (zA (ZF (.bool false) Tryz.results182 (fun w hO => ⟨by unfold St.may; rw [← bC]; simp [h1, h2, h3], hO.below⟩))))))
      | false =>
        exact Zv (.bool true) (Zv (.bool true) (Zv (.bool true) (ZN (zA (ZF (.bool true) Tryz.results182 (fun w hO => ⟨by unfold St.may; rw [← bC]; simp [h1, h2, h3], hO.below⟩))))))
    | false =>
      exact Zk (Zk (Zk (Zk (Zk (Zv (.bool false) (Zv (.bool false) (ZN (zA (ZF (.bool false) Tryz.results182 (fun w hO => ⟨by unfold St.may; rw [← bC]; simp [h1, h2], hO.below⟩))))))))))
  | false =>
    refine Zk (Zk (Zk (Zv (.bool false) (Zv (.bool false) (Zk (Zk (Zk (Zk (Zk (Zv (.bool false) (Zv (.bool false) ?_)))))))))))
    exact ZN (zA (ZF (.bool false) Tryz.results182 (fun w hO => ⟨by unfold St.may; rw [← bC]; simp [h1], hO.below⟩)))
theorem qG (W : World) : Calls Tryz.prog 47 #[] W fun e w' => e = .returned (.agg #[.slice none 0 0, .slice none 0 0]) ∧ Below W.heap.size W w' := by
  refine zQ (n := 2) Tryz.func47 rfl (by kernel_rfl) (by kernel_rfl) (ZO (Za (.agg #[.slice none 0 0, .slice none 0 0]) (fun b1 => ZR (Zv (.agg #[.slice none 0 0, .slice none 0 0]) (Zs 0 ⟨b1, #[.slice none 0 0, .slice none 0 0], 31⟩ (off := 0) (.agg #[.slice none 0 0, .slice none 0 0]) (zN (zC ?_)))))))
  exact zA (ZC 0 ⟨b1, #[.slice none 0 0, .slice none 0 0], 31⟩ (off := 0) (.agg #[.slice none 0 0, .slice none 0 0]) Tryz.results47 (fun w hO => ⟨rfl, hO.below⟩))
end
section
theorem not1_any (A B : Option Addr) (cap capb : Nat) (x y : List Sp) (W : World) (hv : Reads x9 W W.heap.size A x) (hu : Reads x9 W W.heap.size B y) (hx : RF x 100000) (hy : RF y 100000) (hca : x.length ≤ cap) (hcb : y.length ≤ capb) : Calls Tryz.prog 172 #[.slice A x.length cap, .slice B y.length capb] W fun e w' => ∃ v' ob', e = .returned v' ∧ SlS v' (j0 x) ob' ∧ Own [] W w' ob' := by
  refine zQ (n := 7) Tryz.func172 rfl (by kernel_rfl) (by kernel_rfl) (ZO (Zv (.slice none 0 0) (ZR (Zv (.slice A x.length cap) (yH (k := 135) (args := #[.slice A x.length cap]) (fun v' L' => ∃ ob', L' = ob' ++ ([]) ∧ SlS v' (j0 x) ob') (by kernel_rfl) (fun _ => by kernel_rfl) (fun w hO => (not4_any A cap x w (hv.on hO.below hO.size) (Nat.le_trans hx.len (by decide)) hx.short).mono fun e w' ⟨v', ob', k1, k2, k3⟩ => ⟨v', _, k1, ⟨ob', rfl, by rw [if_pos hx.may] at k2; exact k2⟩, Own.joinN hO k3⟩) (fun v1 L1 hv1 => ?_))))))
  obtain ⟨o1, rfl, hr1⟩ := hv1
  obtain ⟨V1, c1, rfl⟩ := hr1.form
  exact k8 (L' := o1) (List.append_nil _) (Zv (.slice V1 ((j0 x).length) c1) (ZN (zA (ZF (.slice V1 ((j0 x).length) c1) Tryz.results172 (fun w hO => ⟨_, o1, rfl, hr1, by simpa using hO⟩)))))
theorem combOr_any (A B A' B' : Option Addr) (c d c' d' : Nat) (a b : St) (W : World) (hs : SetIn W W.heap.size A B a) (ht : SetIn W W.heap.size A' B' b) (ca : a.rel.length ≤ c ∧ a.pre.length ≤ d) (cb : b.rel.length ≤ c' ∧ b.pre.length ≤ d') : Calls Tryz.prog 140 #[.agg #[.slice A a.rel.length c, .slice B a.pre.length d], .agg #[.slice A' b.rel.length c', .slice B' b.pre.length d'], .func (.func 83) #[] #[]] W fun e w' => ∃ v' ob', e = .returned v' ∧ SetO v' (if a.may && b.may then orT a b else gF) ob' ∧ Own [] W w' ob' := by
  refine zQ (n := 29) Tryz.func140 rfl (by kernel_rfl) (by kernel_rfl) (ZO (Zb (.agg #[.slice A a.rel.length c, .slice B a.pre.length d]) (fun b1 => Zb (.agg #[.slice A' b.rel.length c', .slice B' b.pre.length d']) (fun b2 => Za (.agg #[.slice none 0 0, .slice none 0 0]) (fun b3 => ZN (z6 (ZO (Zl 2 ⟨b1, #[.slice A a.rel.length c, .slice B a.pre.length d], 31⟩ (off := 0) (.agg #[.slice A a.rel.length c, .slice B a.pre.length d]) ?_))))))))
  refine Zc (k := 182) (args := #[.agg #[.slice A a.rel.length c, .slice B a.pre.length d]]) (.bool a.may) (fun w hO => t7 A B c d a w (hs.on hO.below hO.size) ca) ?_
  cases h1 : a.may with
  | true =>
    refine Zv (.bool false) (Zv (.bool false) (Zl 1 ⟨b2, #[.slice A' b.rel.length c', .slice B' b.pre.length d'], 31⟩ (off := 0) (.agg #[.slice A' b.rel.length c', .slice B' b.pre.length d']) (Zc (k := 182) (args := #[.agg #[.slice A' b.rel.length c', .slice B' b.pre.length d']]) (.bool b.may) (fun w hO => t7 A' B' c' d' b w (ht.on hO.below hO.size) cb) ?_)))
    cases h2 : b.may with
    | true =>
      refine Zv (.bool false) (Zv (.bool false) (ZX (ZB (z6 (qD [⟨b2, #[.slice A' b.rel.length c', .slice B' b.pre.length d'], 31⟩, ⟨b1, #[.slice A a.rel.length c, .slice B a.pre.length d], 31⟩] (by kernel_rfl) (fun w hO => Own.sub [⟨b3, #[.slice none 0 0, .slice none 0 0], 31⟩] hO) (ZT 0 [⟨b3, #[.slice none 0 0, .slice none 0 0], 31⟩] _ (.func (.func 83) #[] #[]) (zK zS) rfl (ZT 1 [⟨b3, #[.slice none 0 0, .slice none 0 0], 31⟩] _ (.pointer (some ⟨b1, 0, none⟩)) (zK zS) rfl (ZL 2 [⟨b3, #[.slice none 0 0, .slice none 0 0], 31⟩] _ 1 ⟨b1, #[.slice A a.rel.length c, .slice B a.pre.length d], 31⟩ (off := 0) (.slice A a.rel.length c) (zK zS) rfl rfl ?_))))))))
      refine ZT 3 [⟨b3, #[.slice none 0 0, .slice none 0 0], 31⟩] _ (.pointer (some ⟨b2, 0, none⟩)) (zK zS) rfl (ZL 4 [⟨b3, #[.slice none 0 0, .slice none 0 0], 31⟩] _ 0 ⟨b2, #[.slice A' b.rel.length c', .slice B' b.pre.length d'], 31⟩ (off := 0) (.slice A' b.rel.length c') (zK zS) rfl rfl (ZT 6 [⟨b3, #[.slice none 0 0, .slice none 0 0], 31⟩] _ (.func (.func 83) #[] #[]) (zK zS) rfl (ZT 7 [⟨b3, #[.slice none 0 0, .slice none 0 0], 31⟩] _ (.pointer (some ⟨b1, 1, none⟩)) (zK zS) rfl (ZL 8 [⟨b3, #[.slice none 0 0, .slice none 0 0], 31⟩] _ 1 ⟨b1, #[.slice A a.rel.length c, .slice B a.pre.length d], 31⟩ (off := 1) (.slice B a.pre.length d) (zK zS) rfl rfl (ZT 9 [⟨b3, #[.slice none 0 0, .slice none 0 0], 31⟩] _ (.pointer (some ⟨b2, 1, none⟩)) (zK zS) rfl (ZL 10 [⟨b3, #[.slice none 0 0, .slice none 0 0], 31⟩] _ 0 ⟨b2, #[.slice A' b.rel.length c', .slice B' b.pre.length d'], 31⟩ (off := 1) (.slice B' b.pre.length d') (zK zS) rfl rfl (y8 5 (by kernel_rfl) (jD _ (k := 83) (args := #[.slice A a.rel.length c, .slice A' b.rel.length c']) (fun v' L' => ∃ ob', L' = ob' ++ ([⟨b3, #[.slice none 0 0, .slice none 0 0], 31⟩] ++ ([⟨b2, #[.slice A' b.rel.length c', .slice B' b.pre.length d'], 31⟩, ⟨b1, #[.slice A a.rel.length c, .slice B a.pre.length d], 31⟩])) ∧ SlS v' (orL a.rel b.rel) ob') rfl (by kernel_rfl) (fun _ => by kernel_rfl) (fun w hO => (or4_any A A' c c' a.rel b.rel w (hs.rel.on hO.below hO.size) (ht.rel.on hO.below hO.size) (SF.of h1 hs.lr hs.lp).rel.len (SF.of h2 ht.lr ht.lp).rel.len (SF.of h1 hs.lr hs.lp).rel.short (SF.of h2 ht.lr ht.lp).rel.short).mono fun e w' ⟨v', ob', k1, k2, k3⟩ => ⟨v', _, k1, ⟨ob', rfl, by rw [if_pos (by rw [(SF.of h1 hs.lr hs.lp).rel.may, (SF.of h2 ht.lr ht.lp).rel.may]; rfl)] at k2; exact k2⟩, Own.joinN hO k3⟩) (fun v' L' ⟨ob', e, _⟩ w hO => by subst e; exact Own.sub [⟨b3, #[.slice none 0 0, .slice none 0 0], 31⟩] (Own.sub ob' hO)) (fun v1 L2 hv2 => ?_)))))))))
      obtain ⟨o1, rfl, hr1⟩ := hv2
      obtain ⟨V1, c1, rfl⟩ := hr1.form
      refine dW (L' := (o1 ++ ([⟨b3, #[.slice none 0 0, .slice none 0 0], 31⟩] : List Blk)) ++ ([⟨b2, #[.slice A' b.rel.length c', .slice B' b.pre.length d'], 31⟩, ⟨b1, #[.slice A a.rel.length c, .slice B a.pre.length d], 31⟩])) (List.append_assoc _ _ _).symm (y8 11 (by kernel_rfl) (jD _ (k := 83) (args := #[.slice B a.pre.length d, .slice B' b.pre.length d']) (fun v' L' => ∃ ob', L' = ob' ++ ((o1 ++ ([⟨b3, #[.slice none 0 0, .slice none 0 0], 31⟩] : List Blk)) ++ ([⟨b2, #[.slice A' b.rel.length c', .slice B' b.pre.length d'], 31⟩, ⟨b1, #[.slice A a.rel.length c, .slice B a.pre.length d], 31⟩])) ∧ SlS v' (orL a.pre b.pre) ob') rfl (by kernel_rfl) (fun _ => by kernel_rfl) (fun w hO => (or4_any B B' d d' a.pre b.pre w (hs.pre.on hO.below hO.size) (ht.pre.on hO.below hO.size) (SF.of h1 hs.lr hs.lp).pre.len (SF.of h2 ht.lr ht.lp).pre.len (SF.of h1 hs.lr hs.lp).pre.short (SF.of h2 ht.lr ht.lp).pre.short).mono fun e w' ⟨v', ob', k1, k2, k3⟩ => ⟨v', _, k1, ⟨ob', rfl, by rw [if_pos (by rw [(SF.of h1 hs.lr hs.lp).pre.may, (SF.of h2 ht.lr ht.lp).pre.may]; rfl)] at k2; exact k2⟩, Own.joinN hO k3⟩) (fun v' L' ⟨ob', e, _⟩ w hO => by subst e; exact Own.sub (o1 ++ ([⟨b3, #[.slice none 0 0, .slice none 0 0], 31⟩] : List Blk)) (Own.sub ob' hO)) (fun v2 L2 hv2 => ?_)))
      obtain ⟨o2, rfl, hr2⟩ := hv2
      obtain ⟨V2, c2, rfl⟩ := hr2.form
      exact dW (L' := (o2 ++ (o1 ++ ([⟨b3, #[.slice none 0 0, .slice none 0 0], 31⟩] : List Blk))) ++ ([⟨b2, #[.slice A' b.rel.length c', .slice B' b.pre.length d'], 31⟩, ⟨b1, #[.slice A a.rel.length c, .slice B a.pre.length d], 31⟩])) (List.append_assoc _ _ _).symm (ZT 12 (o2 ++ (o1 ++ ([⟨b3, #[.slice none 0 0, .slice none 0 0], 31⟩] : List Blk))) _ (.agg #[.slice V1 ((orL a.rel b.rel).length) c1, .slice V2 ((orL a.pre b.pre).length) c2]) (zK zS) rfl (y8 13 (by kernel_rfl) (hs_front (E' := (⟨b3, #[.slice none 0 0, .slice none 0 0], 31⟩ :: (o2 ++ (o1 ++ ([] : List Blk))))) (by simpa [List.append_assoc] using (List.perm_middle (a := ⟨b3, #[.slice none 0 0, .slice none 0 0], 31⟩) (l₁ := (o2 ++ (o1 ++ ([] : List Blk)))) (l₂ := []))) (ZS (⟨b3, #[.slice none 0 0, .slice none 0 0], 31⟩ :: (o2 ++ (o1 ++ ([] : List Blk)))) _ 0 ⟨b3, #[.slice none 0 0, .slice none 0 0], 31⟩ (off := 0) (.agg #[.slice V1 ((orL a.rel b.rel).length) c1, .slice V2 ((orL a.pre b.pre).length) c2]) rfl rfl (xM (by kernel_rfl) (zC (zA (ZC 0 ⟨b3, #[.slice V1 ((orL a.rel b.rel).length) c1, .slice V2 ((orL a.pre b.pre).length) c2], 31⟩ (off := 0) (.agg #[.slice V1 ((orL a.rel b.rel).length) c1, .slice V2 ((orL a.pre b.pre).length) c2]) Tryz.results140 (fun w hO => ⟨_, _, rfl, by rw [if_pos (by simp [h1, h2])]; exact ⟨_, _, o1, o2, rfl, rfl, hr1, hr2⟩, own_mid hO⟩)))))))))
    | false =>
      refine Zv (.bool true) (Zv (.bool true) (ZY (ZO (Zc (k := 47) (args := #[]) (.agg #[.slice none 0 0, .slice none 0 0]) (fun w _ => qG w) (Zs 0 ⟨b3, #[.slice none 0 0, .slice none 0 0], 31⟩ (off := 0) (.agg #[.slice none 0 0, .slice none 0 0]) (ZN (zA ?_)))))))
      exact z8 (ZC 0 ⟨b3, #[.slice none 0 0, .slice none 0 0], 31⟩ (off := 0) (.agg #[.slice none 0 0, .slice none 0 0]) Tryz.results140 (fun w hO => ⟨_, [], rfl, by rw [if_neg (by simp [h1, h2])]; exact SetO.none, qP hO⟩))
  | false =>
    refine Zv (.bool true) (Zv (.bool true) (Zk (Zk (Zk (Zv (.bool true) (ZY (ZO (Zc (k := 47) (args := #[]) (.agg #[.slice none 0 0, .slice none 0 0]) (fun w _ => qG w) ?_))))))))
    exact Zs 0 ⟨b3, #[.slice none 0 0, .slice none 0 0], 31⟩ (off := 0) (.agg #[.slice none 0 0, .slice none 0 0]) (ZN (zA (z8 (ZC 0 ⟨b3, #[.slice none 0 0, .slice none 0 0], 31⟩ (off := 0) (.agg #[.slice none 0 0, .slice none 0 0]) Tryz.results140 (fun w hO => ⟨_, [], rfl, by rw [if_neg (by simp [h1])]; exact SetO.none, qP hO⟩)))))
theorem combNot_any (A B A' B' : Option Addr) (c d c' d' : Nat) (a b : St) (W : World) (hs : SetIn W W.heap.size A B a) (ht : SetIn W W.heap.size A' B' b) (ca : a.rel.length ≤ c ∧ a.pre.length ≤ d) (cb : b.rel.length ≤ c' ∧ b.pre.length ≤ d') : Calls Tryz.prog 140 #[.agg #[.slice A a.rel.length c, .slice B a.pre.length d], .agg #[.slice A' b.rel.length c', .slice B' b.pre.length d'], .func (.func 172) #[] #[]] W fun e w' => ∃ v' ob', e = .returned v' ∧ SetO v' (if a.may && b.may then notT a else gF) ob' ∧ Own [] W w' ob' := by
  refine zQ (n := 29) Tryz.func140 rfl (by kernel_rfl) (by kernel_rfl) (ZO (Zb (.agg #[.slice A a.rel.length c, .slice B a.pre.length d]) (fun b1 => Zb (.agg #[.slice A' b.rel.length c', .slice B' b.pre.length d']) (fun b2 => Za (.agg #[.slice none 0 0, .slice none 0 0]) (fun b3 => ZN (z6 (ZO (Zl 2 ⟨b1, #[.slice A a.rel.length c, .slice B a.pre.length d], 31⟩ (off := 0) (.agg #[.slice A a.rel.length c, .slice B a.pre.length d]) ?_))))))))
  refine Zc (k := 182) (args := #[.agg #[.slice A a.rel.length c, .slice B a.pre.length d]]) (.bool a.may) (fun w hO => t7 A B c d a w (hs.on hO.below hO.size) ca) ?_
  cases h1 : a.may with
  | true =>
    refine Zv (.bool false) (Zv (.bool false) (Zl 1 ⟨b2, #[.slice A' b.rel.length c', .slice B' b.pre.length d'], 31⟩ (off := 0) (.agg #[.slice A' b.rel.length c', .slice B' b.pre.length d']) (Zc (k := 182) (args := #[.agg #[.slice A' b.rel.length c', .slice B' b.pre.length d']]) (.bool b.may) (fun w hO => t7 A' B' c' d' b w (ht.on hO.below hO.size) cb) ?_)))
    cases h2 : b.may with
    | true =>
      refine Zv (.bool false) (Zv (.bool false) (ZX (ZB (z6 (qD [⟨b2, #[.slice A' b.rel.length c', .slice B' b.pre.length d'], 31⟩, ⟨b1, #[.slice A a.rel.length c, .slice B a.pre.length d], 31⟩] (by kernel_rfl) (fun w hO => Own.sub [⟨b3, #[.slice none 0 0, .slice none 0 0], 31⟩] hO) (ZT 0 [⟨b3, #[.slice none 0 0, .slice none 0 0], 31⟩] _ (.func (.func 172) #[] #[]) (zK zS) rfl (ZT 1 [⟨b3, #[.slice none 0 0, .slice none 0 0], 31⟩] _ (.pointer (some ⟨b1, 0, none⟩)) (zK zS) rfl (ZL 2 [⟨b3, #[.slice none 0 0, .slice none 0 0], 31⟩] _ 1 ⟨b1, #[.slice A a.rel.length c, .slice B a.pre.length d], 31⟩ (off := 0) (.slice A a.rel.length c) (zK zS) rfl rfl ?_))))))))
      refine ZT 3 [⟨b3, #[.slice none 0 0, .slice none 0 0], 31⟩] _ (.pointer (some ⟨b2, 0, none⟩)) (zK zS) rfl (ZL 4 [⟨b3, #[.slice none 0 0, .slice none 0 0], 31⟩] _ 0 ⟨b2, #[.slice A' b.rel.length c', .slice B' b.pre.length d'], 31⟩ (off := 0) (.slice A' b.rel.length c') (zK zS) rfl rfl (ZT 6 [⟨b3, #[.slice none 0 0, .slice none 0 0], 31⟩] _ (.func (.func 172) #[] #[]) (zK zS) rfl (ZT 7 [⟨b3, #[.slice none 0 0, .slice none 0 0], 31⟩] _ (.pointer (some ⟨b1, 1, none⟩)) (zK zS) rfl (ZL 8 [⟨b3, #[.slice none 0 0, .slice none 0 0], 31⟩] _ 1 ⟨b1, #[.slice A a.rel.length c, .slice B a.pre.length d], 31⟩ (off := 1) (.slice B a.pre.length d) (zK zS) rfl rfl (ZT 9 [⟨b3, #[.slice none 0 0, .slice none 0 0], 31⟩] _ (.pointer (some ⟨b2, 1, none⟩)) (zK zS) rfl (ZL 10 [⟨b3, #[.slice none 0 0, .slice none 0 0], 31⟩] _ 0 ⟨b2, #[.slice A' b.rel.length c', .slice B' b.pre.length d'], 31⟩ (off := 1) (.slice B' b.pre.length d') (zK zS) rfl rfl (y8 5 (by kernel_rfl) (jD _ (k := 172) (args := #[.slice A a.rel.length c, .slice A' b.rel.length c']) (fun v' L' => ∃ ob', L' = ob' ++ ([⟨b3, #[.slice none 0 0, .slice none 0 0], 31⟩] ++ ([⟨b2, #[.slice A' b.rel.length c', .slice B' b.pre.length d'], 31⟩, ⟨b1, #[.slice A a.rel.length c, .slice B a.pre.length d], 31⟩])) ∧ SlS v' (j0 a.rel) ob') rfl (by kernel_rfl) (fun _ => by kernel_rfl) (fun w hO => (not1_any A A' c c' a.rel b.rel w (hs.rel.on hO.below hO.size) (ht.rel.on hO.below hO.size) (SF.of h1 hs.lr hs.lp).rel (SF.of h2 ht.lr ht.lp).rel ca.1 cb.1).mono fun e w' ⟨v', ob', k1, k2, k3⟩ => ⟨v', _, k1, ⟨ob', rfl, k2⟩, Own.joinN hO k3⟩) (fun v' L' ⟨ob', e, _⟩ w hO => by subst e; exact Own.sub [⟨b3, #[.slice none 0 0, .slice none 0 0], 31⟩] (Own.sub ob' hO)) (fun v1 L2 hv2 => ?_)))))))))
      obtain ⟨o1, rfl, hr1⟩ := hv2
      obtain ⟨V1, c1, rfl⟩ := hr1.form
      refine dW (L' := (o1 ++ ([⟨b3, #[.slice none 0 0, .slice none 0 0], 31⟩] : List Blk)) ++ ([⟨b2, #[.slice A' b.rel.length c', .slice B' b.pre.length d'], 31⟩, ⟨b1, #[.slice A a.rel.length c, .slice B a.pre.length d], 31⟩])) (List.append_assoc _ _ _).symm (y8 11 (by kernel_rfl) (jD _ (k := 172) (args := #[.slice B a.pre.length d, .slice B' b.pre.length d']) (fun v' L' => ∃ ob', L' = ob' ++ ((o1 ++ ([⟨b3, #[.slice none 0 0, .slice none 0 0], 31⟩] : List Blk)) ++ ([⟨b2, #[.slice A' b.rel.length c', .slice B' b.pre.length d'], 31⟩, ⟨b1, #[.slice A a.rel.length c, .slice B a.pre.length d], 31⟩])) ∧ SlS v' (j0 a.pre) ob') rfl (by kernel_rfl) (fun _ => by kernel_rfl) (fun w hO => (not1_any B B' d d' a.pre b.pre w (hs.pre.on hO.below hO.size) (ht.pre.on hO.below hO.size) (SF.of h1 hs.lr hs.lp).pre (SF.of h2 ht.lr ht.lp).pre ca.2 cb.2).mono fun e w' ⟨v', ob', k1, k2, k3⟩ => ⟨v', _, k1, ⟨ob', rfl, k2⟩, Own.joinN hO k3⟩) (fun v' L' ⟨ob', e, _⟩ w hO => by subst e; exact Own.sub (o1 ++ ([⟨b3, #[.slice none 0 0, .slice none 0 0], 31⟩] : List Blk)) (Own.sub ob' hO)) (fun v2 L2 hv2 => ?_)))
      obtain ⟨o2, rfl, hr2⟩ := hv2
      obtain ⟨V2, c2, rfl⟩ := hr2.form
      exact dW (L' := (o2 ++ (o1 ++ ([⟨b3, #[.slice none 0 0, .slice none 0 0], 31⟩] : List Blk))) ++ ([⟨b2, #[.slice A' b.rel.length c', .slice B' b.pre.length d'], 31⟩, ⟨b1, #[.slice A a.rel.length c, .slice B a.pre.length d], 31⟩])) (List.append_assoc _ _ _).symm (ZT 12 (o2 ++ (o1 ++ ([⟨b3, #[.slice none 0 0, .slice none 0 0], 31⟩] : List Blk))) _ (.agg #[.slice V1 ((j0 a.rel).length) c1, .slice V2 ((j0 a.pre).length) c2]) (zK zS) rfl (y8 13 (by kernel_rfl) (hs_front (E' := (⟨b3, #[.slice none 0 0, .slice none 0 0], 31⟩ :: (o2 ++ (o1 ++ ([] : List Blk))))) (by simpa [List.append_assoc] using (List.perm_middle (a := ⟨b3, #[.slice none 0 0, .slice none 0 0], 31⟩) (l₁ := (o2 ++ (o1 ++ ([] : List Blk)))) (l₂ := []))) (ZS (⟨b3, #[.slice none 0 0, .slice none 0 0], 31⟩ :: (o2 ++ (o1 ++ ([] : List Blk)))) _ 0 ⟨b3, #[.slice none 0 0, .slice none 0 0], 31⟩ (off := 0) (.agg #[.slice V1 ((j0 a.rel).length) c1, .slice V2 ((j0 a.pre).length) c2]) rfl rfl (xM (by kernel_rfl) (zC (zA (ZC 0 ⟨b3, #[.slice V1 ((j0 a.rel).length) c1, .slice V2 ((j0 a.pre).length) c2], 31⟩ (off := 0) (.agg #[.slice V1 ((j0 a.rel).length) c1, .slice V2 ((j0 a.pre).length) c2]) Tryz.results140 (fun w hO => ⟨_, _, rfl, by rw [if_pos (by simp [h1, h2])]; exact ⟨_, _, o1, o2, rfl, rfl, hr1, hr2⟩, own_mid hO⟩)))))))))
    | false =>
      refine Zv (.bool true) (Zv (.bool true) (ZY (ZO (Zc (k := 47) (args := #[]) (.agg #[.slice none 0 0, .slice none 0 0]) (fun w _ => qG w) (Zs 0 ⟨b3, #[.slice none 0 0, .slice none 0 0], 31⟩ (off := 0) (.agg #[.slice none 0 0, .slice none 0 0]) (ZN (zA ?_)))))))
      exact z8 (ZC 0 ⟨b3, #[.slice none 0 0, .slice none 0 0], 31⟩ (off := 0) (.agg #[.slice none 0 0, .slice none 0 0]) Tryz.results140 (fun w hO => ⟨_, [], rfl, by rw [if_neg (by simp [h1, h2])]; exact SetO.none, qP hO⟩))
  | false =>
    refine Zv (.bool true) (Zv (.bool true) (Zk (Zk (Zk (Zv (.bool true) (ZY (ZO (Zc (k := 47) (args := #[]) (.agg #[.slice none 0 0, .slice none 0 0]) (fun w _ => qG w) ?_))))))))
    exact Zs 0 ⟨b3, #[.slice none 0 0, .slice none 0 0], 31⟩ (off := 0) (.agg #[.slice none 0 0, .slice none 0 0]) (ZN (zA (z8 (ZC 0 ⟨b3, #[.slice none 0 0, .slice none 0 0], 31⟩ (off := 0) (.agg #[.slice none 0 0, .slice none 0 0]) Tryz.results140 (fun w hO => ⟨_, [], rfl, by rw [if_neg (by simp [h1])]; exact SetO.none, qP hO⟩)))))
end
section
theorem own_front {M : List Nat} {W w : World} {x : Blk} {A L : List Blk} (h : Own M W w (A ++ (x :: L))) : Own M W w (x :: A) :=
  (h.sublist ((List.Sublist.refl A).append (List.Sublist.cons_cons x (List.nil_sublist L)))).perm (List.perm_append_comm (l₁ := A) (l₂ := [x]))
theorem own_tl {M : List Nat} {W w : World} {x : Blk} {A : List Blk} (h : Own M W w (x :: A)) : Own M W w A := h.sublist (List.sublist_cons_self x A)
theorem notT_none : notT gF = allT := St.eq not_nil not_nil
theorem sOr_any (A B A' B' : Option Addr) (c d c' d' : Nat) (a b : St) (W : World) (hs : SetIn W W.heap.size A B a) (ht : SetIn W W.heap.size A' B' b) (ca : a.rel.length ≤ c ∧ a.pre.length ≤ d) (cb : b.rel.length ≤ c' ∧ b.pre.length ≤ d') : Calls Tryz.prog 86 #[.agg #[.slice A a.rel.length c, .slice B a.pre.length d], .agg #[.slice A' b.rel.length c', .slice B' b.pre.length d']] W fun e w' => ∃ v' ob', e = .returned v' ∧ SetO v' (if a.may && b.may then orT a b else gF) ob' ∧ Own [] W w' ob' := by
  refine zQ (n := 8) Tryz.func86 rfl (by kernel_rfl) (by kernel_rfl) (ZO (Zb (.agg #[.slice A a.rel.length c, .slice B a.pre.length d]) (fun b1 => Zb (.agg #[.slice A' b.rel.length c', .slice B' b.pre.length d']) (fun b2 => Za (.agg #[.slice none 0 0, .slice none 0 0]) (fun b3 => ZR (Zl 2 ⟨b1, #[.slice A a.rel.length c, .slice B a.pre.length d], 31⟩ (off := 0) (.agg #[.slice A a.rel.length c, .slice B a.pre.length d]) (Zl 1 ⟨b2, #[.slice A' b.rel.length c', .slice B' b.pre.length d'], 31⟩ (off := 0) (.agg #[.slice A' b.rel.length c', .slice B' b.pre.length d']) ?_)))))))
  refine yH (k := 140) (args := #[.agg #[.slice A a.rel.length c, .slice B a.pre.length d], .agg #[.slice A' b.rel.length c', .slice B' b.pre.length d'], .func (.func 83) #[] #[]]) (fun v' L' => ∃ ob', L' = ob' ++ ([⟨b3, #[.slice none 0 0, .slice none 0 0], 31⟩, ⟨b2, #[.slice A' b.rel.length c', .slice B' b.pre.length d'], 31⟩, ⟨b1, #[.slice A a.rel.length c, .slice B a.pre.length d], 31⟩]) ∧ SetO v' (if a.may && b.may then orT a b else gF) ob') (by kernel_rfl) (fun _ => by kernel_rfl) (fun w hO => (combOr_any A B A' B' c d c' d' a b w (hs.on hO.below hO.size) (ht.on hO.below hO.size) ca cb).mono fun e w' ⟨v', ob', k1, k2, k3⟩ => ⟨v', _, k1, ⟨ob', rfl, k2⟩, Own.joinN hO k3⟩) (fun v1 L1 hv1 => ?_)
  obtain ⟨o1, rfl, hr1⟩ := hv1
  obtain ⟨V1, U1, c1, d1, rfl⟩ := hr1.form
  exact j5 (L' := ⟨b3, #[.slice none 0 0, .slice none 0 0], 31⟩ :: o1) (fun w hO => own_front hO) (Zs 0 ⟨b3, #[.slice none 0 0, .slice none 0 0], 31⟩ (off := 0) (.agg #[.slice V1 (((if a.may && b.may then orT a b else gF)).rel.length) c1, .slice U1 (((if a.may && b.may then orT a b else gF)).pre.length) d1]) (ZN (zA (ZC 0 ⟨b3, #[.slice V1 (((if a.may && b.may then orT a b else gF)).rel.length) c1, .slice U1 (((if a.may && b.may then orT a b else gF)).pre.length) d1], 31⟩ (off := 0) (.agg #[.slice V1 (((if a.may && b.may then orT a b else gF)).rel.length) c1, .slice U1 (((if a.may && b.may then orT a b else gF)).pre.length) d1]) Tryz.results86 (fun w hO => ⟨_, o1, rfl, hr1, own_tl hO⟩)))))
theorem sNot_any (A B : Option Addr) (c d : Nat) (a : St) (W : World) (hs : SetIn W W.heap.size A B a) (ca : a.rel.length ≤ c ∧ a.pre.length ≤ d) : Calls Tryz.prog 128 #[.agg #[.slice A a.rel.length c, .slice B a.pre.length d]] W fun e w' => ∃ v' ob', e = .returned v' ∧ SetO v' (if a.may then notT a else gF) ob' ∧ Own [] W w' ob' := by
  refine zQ (n := 6) Tryz.func128 rfl (by kernel_rfl) (by kernel_rfl) (ZO (Zb (.agg #[.slice A a.rel.length c, .slice B a.pre.length d]) (fun b1 => Za (.agg #[.slice none 0 0, .slice none 0 0]) (fun b2 => ZR (Zl 1 ⟨b1, #[.slice A a.rel.length c, .slice B a.pre.length d], 31⟩ (off := 0) (.agg #[.slice A a.rel.length c, .slice B a.pre.length d]) (Zl 1 ⟨b1, #[.slice A a.rel.length c, .slice B a.pre.length d], 31⟩ (off := 0) (.agg #[.slice A a.rel.length c, .slice B a.pre.length d]) (yH (k := 140) (args := #[.agg #[.slice A a.rel.length c, .slice B a.pre.length d], .agg #[.slice A a.rel.length c, .slice B a.pre.length d], .func (.func 172) #[] #[]]) (fun v' L' => ∃ ob', L' = ob' ++ ([⟨b2, #[.slice none 0 0, .slice none 0 0], 31⟩, ⟨b1, #[.slice A a.rel.length c, .slice B a.pre.length d], 31⟩]) ∧ SetO v' (if a.may then notT a else gF) ob') (by kernel_rfl) (fun _ => by kernel_rfl) (fun w hO => (combNot_any A B A B c d c d a a w (hs.on hO.below hO.size) (hs.on hO.below hO.size) ca ca).mono fun e w' ⟨v', ob', k1, k2, k3⟩ => ⟨v', _, k1, ⟨ob', rfl, by rw [Bool.and_self] at k2; exact k2⟩, Own.joinN hO k3⟩) (fun v1 L1 hv1 => ?_))))))))
  obtain ⟨o1, rfl, hr1⟩ := hv1
  obtain ⟨V1, U1, c1, d1, rfl⟩ := hr1.form
  exact j5 (L' := ⟨b2, #[.slice none 0 0, .slice none 0 0], 31⟩ :: o1) (fun w hO => own_front hO) (Zs 0 ⟨b2, #[.slice none 0 0, .slice none 0 0], 31⟩ (off := 0) (.agg #[.slice V1 (((if a.may then notT a else gF)).rel.length) c1, .slice U1 (((if a.may then notT a else gF)).pre.length) d1]) (ZN (zA (ZC 0 ⟨b2, #[.slice V1 (((if a.may then notT a else gF)).rel.length) c1, .slice U1 (((if a.may then notT a else gF)).pre.length) d1], 31⟩ (off := 0) (.agg #[.slice V1 (((if a.may then notT a else gF)).rel.length) c1, .slice U1 (((if a.may then notT a else gF)).pre.length) d1]) Tryz.results128 (fun w hO => ⟨_, o1, rfl, hr1, own_tl hO⟩)))))
theorem sAll_any (W : World) : Calls Tryz.prog 80 #[] W fun e w' => ∃ v' ob', e = .returned v' ∧ SetO v' (allT) ob' ∧ Own [] W w' ob' := by
  refine zQ (n := 3) Tryz.func80 rfl (by kernel_rfl) (by kernel_rfl) (ZO (Za (.agg #[.slice none 0 0, .slice none 0 0]) (fun b1 => ZR (Zc (k := 47) (args := #[]) (.agg #[.slice none 0 0, .slice none 0 0]) (fun w _ => qG w) (yH (k := 128) (args := #[.agg #[.slice none 0 0, .slice none 0 0]]) (fun v' L' => ∃ ob', L' = ob' ++ ([⟨b1, #[.slice none 0 0, .slice none 0 0], 31⟩]) ∧ SetO v' (allT) ob') (by kernel_rfl) (fun _ => by kernel_rfl) (fun w hO => (sNot_any none none 0 0 gF w (none_in _ _) ⟨Nat.le_refl 0, Nat.le_refl 0⟩).mono fun e w' ⟨v', ob', k1, k2, k3⟩ => ⟨v', _, k1, ⟨ob', rfl, by rw [if_pos none_sf.may, notT_none] at k2; exact k2⟩, Own.joinN hO k3⟩) (fun v1 L1 hv1 => ?_))))))
  obtain ⟨o1, rfl, hr1⟩ := hv1
  obtain ⟨V1, U1, c1, d1, rfl⟩ := hr1.form
  exact j5 (L' := ⟨b1, #[.slice none 0 0, .slice none 0 0], 31⟩ :: o1) (fun w hO => own_front hO) (Zs 0 ⟨b1, #[.slice none 0 0, .slice none 0 0], 31⟩ (off := 0) (.agg #[.slice V1 ((allT).rel.length) c1, .slice U1 ((allT).pre.length) d1]) (ZN (zA (ZC 0 ⟨b1, #[.slice V1 ((allT).rel.length) c1, .slice U1 ((allT).pre.length) d1], 31⟩ (off := 0) (.agg #[.slice V1 ((allT).rel.length) c1, .slice U1 ((allT).pre.length) d1]) Tryz.results80 (fun w hO => ⟨_, o1, rfl, hr1, own_tl hO⟩)))))
end
section
theorem own_mk5 {M : List Nat} {W w : World} {x y : Blk} {A B : List Blk} (h : Own M W w (A ++ (x :: (B ++ [y])))) : Own M W w (x :: y :: A) :=
  (h.sublist ((List.Sublist.refl A).append (List.Sublist.cons_cons x (List.sublist_append_right B [y])))).perm (List.perm_append_comm (l₁ := A) (l₂ := [x, y]))
theorem own_mk6 {M : List Nat} {W w : World} {x y : Blk} {A B : List Blk} (h : Own M W w (A ++ (x :: y :: B))) : Own M W w (x :: y :: (A ++ B)) :=
  h.perm (by have e : A ++ ([x, y] ++ B) = A ++ [x, y] ++ B := (List.append_assoc ..).symm
             show (A ++ ([x, y] ++ B)).Perm ([x, y] ++ (A ++ B))
             rw [e, ← List.append_assoc]
             exact List.Perm.append_right B List.perm_append_comm)
theorem sMake_any (A B : Option Addr) (c d : Nat) (l q : List Sp) (W : World) (hv : Reads x9 W W.heap.size A l) (hu : Reads x9 W W.heap.size B q) (hn : l.length ≤ 100000) (hk : q.length ≤ 100000) (hl : xI l) (hm : xI q) (ca : l.length ≤ c) (cb : q.length ≤ d) :
    Calls Tryz.prog 85 #[.slice A l.length c, .slice B q.length d] W fun e w' => ∃ v' ob', e = .returned (.tuple #[v', .bool (zJ l && zJ q)]) ∧ SetO v' (if zJ l && zJ q then ⟨gD l, q⟩ else gF) ob' ∧ Own [] W w' ob' := by
  refine zQ (n := 52) Tryz.func85 rfl (by kernel_rfl) (by kernel_rfl) (ZO (Za (.agg #[.slice none 0 0, .slice none 0 0]) (fun b1 => Zv (.bool false) (ZN (z6 (ZO (Zv (.slice A l.length c) (Zc (k := 129) (args := #[.slice A l.length c]) (.bool (zJ l)) (fun w hO => jC A c l w (hv.on hO.below hO.below.size) (Nat.le_trans hn (by decide)) hl) ?_))))))))
  cases h1 : zJ l with
  | true =>
    refine Zv (.bool false) (Zv (.bool false) (Zv (.slice B q.length d) (Zc (k := 129) (args := #[.slice B q.length d]) (.bool (zJ q)) (fun w hO => jC B d q w (hu.on hO.below hO.below.size) (Nat.le_trans hk (by decide)) hm) ?_)))
    cases h2 : zJ q with
    | true =>
      refine Zv (.bool false) (Zv (.bool false) (ZX (ZB (ZO (Zv (.slice none 0 0) (zN (zC ?_)))))))
      refine z6 (ZO (Zv (.slice A l.length c) (Zv (.int .i64 (l.length : Int)) (Zv (.int .i64 0) (ZN (zI (gC (L' := [] ++ [⟨b1, #[.slice none 0 0, .slice none 0 0], 31⟩]) rfl (yT (fun L f m => ∃ (k : Nat) (u : Value) (acc : List Sp) (ob : List Blk) (j : Nat → Value), (MkI l k u acc ob) ∧ L = ob ++ [⟨b1, #[.slice none 0 0, .slice none 0 0], 31⟩] ∧ f = kE j [(1, .slice B q.length d), (4, .pointer (some ⟨b1, 0, none⟩)), (6, u), (19, .slice A l.length c), (20, .int .i64 (l.length : Int)), (21, .int .i64 (k : Int))] ∧ m = l.length - k) (l.length - 0) ⟨0, _, [], [], _, ⟨Nat.zero_le _, Sl.nil _ _, rfl⟩, rfl, ZU, rfl⟩ ?_))))))))
      rintro L f m ⟨k, u, acc, ob, j, hrel, rfl, rfl, rfl⟩
      have hkl := hrel.le
      refine z6 (z7 ?_)
      by_cases h3 : (k : Int) < (l.length : Int)
      · have hlk : k < l.length := by omega
        obtain ⟨b, off, hA, hlt, hcell⟩ := hv (by omega)
        obtain ⟨s, he⟩ : ∃ s, l[k] = s := ⟨_, rfl⟩
        have hsk : s.short := he ▸ hl _ (List.getElem_mem _)
        have hsm : s.lo.may = true ∧ s.hi.may = true := zX (he ▸ x3 h1 _ (List.getElem_mem _))
        obtain ⟨x, hx⟩ : ∃ x, kG s.lo = x := ⟨_, rfl⟩
        obtain ⟨y, hy⟩ : ∃ y, kG s.hi = y := ⟨_, rfl⟩
        have hxS : x.short := hx ▸ turn_short hsk.1
        have hyS : y.short := hy ▸ turn_short hsk.2
        refine Zd (p := (k : Int) < (l.length : Int)) true (decide_eq_true (h3)) (ZN (z6 (Zt (ZB (z6 (zI (ZO (zT (.pointer (some ⟨b, off + k * 14, none⟩)) (by kernel_rfl) (ZA (b := b) (off := off) (c := c) (n := l.length) (k := .i64) (j := (k : Int)) (e := 80) (sz := 14) hA) ?_))))))))
        refine Zo (yI s) (a := ⟨b, off + k * 14, none⟩) (fun w hO => zZ yA (fun j u h => (hO.below.cell (p := ⟨b, off + j, none⟩) hlt).trans (hcell j u h)) k 0 hlk (by omega) _ (by rw [he]; kernel_rfl)) (Za (.agg #[.int .i64 0, .int .i64 0, .int .i64 0, .int .i64 0, .string ⟨#[]⟩, .string ⟨#[]⟩, .bool false, .int .i64 0, .int .i64 0, .int .i64 0, .int .i64 0, .string ⟨#[]⟩, .string ⟨#[]⟩, .bool false]) (fun b2 => Zs 0 ⟨b2, #[.int .i64 0, .int .i64 0, .int .i64 0, .int .i64 0, .string ⟨#[]⟩, .string ⟨#[]⟩, .bool false, .int .i64 0, .int .i64 0, .int .i64 0, .int .i64 0, .string ⟨#[]⟩, .string ⟨#[]⟩, .bool false], 80⟩ (off := 0) (yI s) (ZN (z6 (ok_drawt 7 (by kernel_rfl) (by kernel_rfl) (by kernel_rfl) ?_)))))
        simp only [List.take_succ_cons, List.take_zero, List.drop_succ_cons, List.drop_zero]
        refine Zw (.pointer (some ⟨b2, 0, none⟩)) (Zm 0 ⟨b2, (yI s).cells, 80⟩ (off := 0) (.agg #[.int .i64 s.lo.e, .int .i64 s.lo.v.maj, .int .i64 s.lo.v.min, .int .i64 s.lo.v.pat, .string (mkS s.lo.v.pre), .string (mkS s.lo.v.build), .bool s.lo.aft]) (Zq (k := 138) (args := #[.agg #[.int .i64 s.lo.e, .int .i64 s.lo.v.maj, .int .i64 s.lo.v.min, .int .i64 s.lo.v.pat, .string (mkS s.lo.v.pre), .string (mkS s.lo.v.build), .bool s.lo.aft]]) (zF x) (fun w _ => wX (by rw [hx]) (toRel_any s.lo w hsk.1 hsm.1)) (Zw (.pointer (some ⟨b2, 7, none⟩)) (Zm 0 ⟨b2, (yI s).cells, 80⟩ (off := 7) (.agg #[.int .i64 s.hi.e, .int .i64 s.hi.v.maj, .int .i64 s.hi.v.min, .int .i64 s.hi.v.pat, .string (mkS s.hi.v.pre), .string (mkS s.hi.v.build), .bool s.hi.aft]) (Zq (k := 138) (args := #[.agg #[.int .i64 s.hi.e, .int .i64 s.hi.v.maj, .int .i64 s.hi.v.min, .int .i64 s.hi.v.pat, .string (mkS s.hi.v.pre), .string (mkS s.hi.v.build), .bool s.hi.aft]]) (zF y) (fun w _ => wX (by rw [hy]) (toRel_any s.hi w hsk.2 hsm.2)) (Zw (.agg #[.int .i64 x.e, .int .i64 x.v.maj, .int .i64 x.v.min, .int .i64 x.v.pat, .string (mkS x.v.pre), .string (mkS x.v.build), .bool x.aft, .int .i64 y.e, .int .i64 y.v.maj, .int .i64 y.v.min, .int .i64 y.v.pat, .string (mkS y.v.pre), .string (mkS y.v.build), .bool y.aft]) (qO (Zs 0 ⟨b2, (yI s).cells, 80⟩ (off := 0) (.agg #[.int .i64 x.e, .int .i64 x.v.maj, .int .i64 x.v.min, .int .i64 x.v.pat, .string (mkS x.v.pre), .string (mkS x.v.build), .bool x.aft, .int .i64 y.e, .int .i64 y.v.maj, .int .i64 y.v.min, .int .i64 y.v.pat, .string (mkS y.v.pre), .string (mkS y.v.build), .bool y.aft]) (ZN (z6 ?_))))))))))
        refine z7 (Zl 0 ⟨b2, #[.int .i64 x.e, .int .i64 x.v.maj, .int .i64 x.v.min, .int .i64 x.v.pat, .string (mkS x.v.pre), .string (mkS x.v.build), .bool x.aft, .int .i64 y.e, .int .i64 y.v.maj, .int .i64 y.v.min, .int .i64 y.v.pat, .string (mkS y.v.pre), .string (mkS y.v.build), .bool y.aft], 80⟩ (off := 0) (.agg #[.int .i64 x.e, .int .i64 x.v.maj, .int .i64 x.v.min, .int .i64 x.v.pat, .string (mkS x.v.pre), .string (mkS x.v.build), .bool x.aft, .int .i64 y.e, .int .i64 y.v.maj, .int .i64 y.v.min, .int .i64 y.v.pat, .string (mkS y.v.pre), .string (mkS y.v.build), .bool y.aft]) (Zc (k := 139) (args := #[.agg #[.int .i64 x.e, .int .i64 x.v.maj, .int .i64 x.v.min, .int .i64 x.v.pat, .string (mkS x.v.pre), .string (mkS x.v.build), .bool x.aft, .int .i64 y.e, .int .i64 y.v.maj, .int .i64 y.v.min, .int .i64 y.v.pat, .string (mkS y.v.pre), .string (mkS y.v.build), .bool y.aft]]) (.bool ((⟨x, y⟩ : Sp).may)) (fun w _ => wU ⟨x, y⟩ w ⟨hxS, hyS⟩) (zN (zC ?_))))
        cases h4 : (⟨x, y⟩ : Sp).may with
        | true =>
          refine Zt (z7 (Zv (u) (Zl 0 ⟨b2, #[.int .i64 x.e, .int .i64 x.v.maj, .int .i64 x.v.min, .int .i64 x.v.pat, .string (mkS x.v.pre), .string (mkS x.v.build), .bool x.aft, .int .i64 y.e, .int .i64 y.v.maj, .int .i64 y.v.min, .int .i64 y.v.pat, .string (mkS y.v.pre), .string (mkS y.v.build), .bool y.aft], 80⟩ (off := 0) (.agg #[.int .i64 x.e, .int .i64 x.v.maj, .int .i64 x.v.min, .int .i64 x.v.pat, .string (mkS x.v.pre), .string (mkS x.v.build), .bool x.aft, .int .i64 y.e, .int .i64 y.v.maj, .int .i64 y.v.min, .int .i64 y.v.pat, .string (mkS y.v.pre), .string (mkS y.v.build), .bool y.aft]) (vC 80 #[.int .i64 x.e, .int .i64 x.v.maj, .int .i64 x.v.min, .int .i64 x.v.pat, .string (mkS x.v.pre), .string (mkS x.v.build), .bool x.aft, .int .i64 y.e, .int .i64 y.v.maj, .int .i64 y.v.min, .int .i64 y.v.pat, .string (mkS y.v.pre), .string (mkS y.v.build), .bool y.aft] (by kernel_rfl) rfl (fun _ => by kernel_rfl) (fun b3 => ?_)))))
          obtain ⟨i0, z0, e1, e2, e3, e4, e5⟩ := vR
          have hln : acc.length ≤ k := by rw [hrel.eq]; exact turnL_len l k
          refine k8 (L' := [⟨b3, #[.int .i64 x.e, .int .i64 x.v.maj, .int .i64 x.v.min, .int .i64 x.v.pat, .string (mkS x.v.pre), .string (mkS x.v.build), .bool x.aft, .int .i64 y.e, .int .i64 y.v.maj, .int .i64 y.v.min, .int .i64 y.v.pat, .string (mkS y.v.pre), .string (mkS y.v.build), .bool y.aft], 80⟩, ⟨b2, #[.int .i64 x.e, .int .i64 x.v.maj, .int .i64 x.v.min, .int .i64 x.v.pat, .string (mkS x.v.pre), .string (mkS x.v.build), .bool x.aft, .int .i64 y.e, .int .i64 y.v.maj, .int .i64 y.v.min, .int .i64 y.v.pat, .string (mkS y.v.pre), .string (mkS y.v.build), .bool y.aft], 80⟩] ++ ob ++ [⟨b1, #[.slice none 0 0, .slice none 0 0], 31⟩]) (by rw [List.append_assoc]; kernel_rfl) (g7 (sz := 14) (by kernel_rfl) rfl Tryz.underlying29 e1 e2 e3 e4 (by kernel_rfl) hrel.sl (a := ⟨b3, 0, none⟩) (m := 1) (c := 1) (news := x9 ⟨x, y⟩) (by kernel_rfl) rfl (fun w hO j u hj => ?_) (qR _) (by unfold maxLen; omega) (by rw [e5]; omega) (fun u2 ob2 hu2 => ?_))
          · rw [xK, cell_of_row w b3 (0 + j) (x9 ⟨x, y⟩).toArray 80 _ (hO.held ⟨b3, (x9 ⟨x, y⟩).toArray, 80⟩ (List.mem_append_left _ (List.mem_append_left _ (List.mem_cons_self ..))))]; simpa using hj
          exact Zv (u2) (zN (zR (zC (z7 (Zu (k := .i64) (((k + 1 : Nat) : Int)) (IntWalk.i64_in _ (by omega)) (Zv (.int .i64 ((k + 1 : Nat) : Int)) (zN (xS (L' := ob2 ++ [⟨b1, #[.slice none 0 0, .slice none 0 0], 31⟩]) (fun w hO => own_drop hO) (zU (m' := l.length - (k + 1)) (by omega) ⟨k + 1, u2, _, ob2, _, hrel.grow hlk he hx hy (by assumption) hu2, rfl, ZU, rfl⟩)))))))))
        | false =>
          exact Zf (x4 (zR (zC (z7 (Zu (k := .i64) (((k + 1 : Nat) : Int)) (IntWalk.i64_in _ (by omega)) (Zv (.int .i64 ((k + 1 : Nat) : Int)) (zN (xS (L' := ob ++ [⟨b1, #[.slice none 0 0, .slice none 0 0], 31⟩]) (fun w hO => Own.sub [_] hO) (zU (m' := l.length - (k + 1)) (by omega) ⟨k + 1, u, acc, ob, _, hrel.keep hlk he hx hy (by assumption), rfl, ZU, rfl⟩)))))))))
      refine Zd (p := (k : Int) < (l.length : Int)) false (decide_eq_false (h3)) (ZN (z6 (Zf (y5 (zB (zM (zH (zC (z6 (z7 ?_))))))))))
      refine Za (.agg #[.slice none 0 0, .slice none 0 0]) (fun b2 => ZR (Zv (u) ?_))
      have hke : acc = (l.map jI).filter (·.may) := by have h := hrel.eq; unfold pW at h; rwa [List.take_of_length_le (by omega)] at h
      have hall : kY acc = true := allMay_mem.2 (by rw [hrel.eq]; exact turnL_may l k)
      have hsh : xI acc := fun s hs => sp_short (allMay_mem.1 hall s hs)
      have hln : acc.length ≤ k := by rw [hrel.eq]; exact turnL_len l k
      have hsl := hrel.sl
      clear hrel
      obtain ⟨C, cc, rfl⟩ := hsl.form
      refine yH (k := 136) (args := #[.slice C acc.length cc]) (fun v' L' => ∃ mv ob', v' = .tuple #[mv, .bool true] ∧ L' = ob' ++ (⟨b2, #[.slice none 0 0, .slice none 0 0], 31⟩ :: (ob ++ ([⟨b1, #[.slice none 0 0, .slice none 0 0], 31⟩]))) ∧ SlS mv (gD l) ob') (by kernel_rfl) (fun _ => by kernel_rfl) (fun w hO => (mJ C cc acc w (Sl.reads hsl rfl hO (fun x hx => by simp [hx])) (by omega) hsh).mono fun e w' ⟨v', ob', k1, k2, k3⟩ => ⟨_, _, k1, ⟨v', ob', by rw [hall], rfl, by rw [hall, if_pos rfl, hke] at k2; exact k2⟩, Own.joinN hO k3⟩) (fun tv L2 hv2 => ?_)
      obtain ⟨v2, o2, rfl, rfl, hr2⟩ := hv2
      obtain ⟨V2, c2, rfl⟩ := hr2.form
      refine j5 (L' := ⟨b2, #[.slice none 0 0, .slice none 0 0], 31⟩ :: ⟨b1, #[.slice none 0 0, .slice none 0 0], 31⟩ :: o2) (fun w hO => own_mk5 hO) (Zv (.tuple #[.slice V2 ((gD l).length) c2, .bool true]) (Zv (.slice V2 ((gD l).length) c2) (Zv (.bool true) (Zv (.pointer (some ⟨b2, 0, none⟩)) (Zs 0 ⟨b2, #[.slice none 0 0, .slice none 0 0], 31⟩ (off := 0) (.slice V2 ((gD l).length) c2) (ZR (Zv (.slice B q.length d) ?_)))))))
      have hqa : kY q = true := allMay_mem.2 (x3 h2)
      refine yH (k := 136) (args := #[.slice B q.length d]) (fun v' L' => ∃ mv ob', v' = .tuple #[mv, .bool true] ∧ L' = ob' ++ (⟨b2, #[.slice V2 ((gD l).length) c2, .slice none 0 0], 31⟩ :: (⟨b1, #[.slice none 0 0, .slice none 0 0], 31⟩ :: (o2))) ∧ SlS mv q ob') (by kernel_rfl) (fun _ => by kernel_rfl) (fun w hO => (mJ B d q w (hu.on hO.below hO.below.size) (Nat.le_trans hk (by decide)) hm).mono fun e w' ⟨v', ob', k1, k2, k3⟩ => ⟨_, _, k1, ⟨v', ob', by rw [hqa], rfl, by rw [hqa, if_pos rfl, make_self h2] at k2; exact k2⟩, Own.joinN hO k3⟩) (fun tv L3 hv3 => ?_)
      obtain ⟨v3, o3, rfl, rfl, hr3⟩ := hv3
      obtain ⟨V3, c3, rfl⟩ := hr3.form
      refine j5 (L' := ⟨b2, #[.slice V2 ((gD l).length) c2, .slice none 0 0], 31⟩ :: ⟨b1, #[.slice none 0 0, .slice none 0 0], 31⟩ :: (o3 ++ o2)) (fun w hO => own_mk6 hO) (Zv (.tuple #[.slice V3 q.length c3, .bool true]) (Zv (.slice V3 q.length c3) (Zv (.bool true) (Zv (.pointer (some ⟨b2, 1, none⟩)) (Zs 0 ⟨b2, #[.slice V2 ((gD l).length) c2, .slice none 0 0], 31⟩ (off := 1) (.slice V3 q.length c3) (ZR (Zl 0 ⟨b2, #[.slice V2 ((gD l).length) c2, .slice V3 q.length c3], 31⟩ (off := 0) (.agg #[.slice V2 ((gD l).length) c2, .slice V3 q.length c3]) (Zs 1 ⟨b1, #[.slice none 0 0, .slice none 0 0], 31⟩ (off := 0) (.agg #[.slice V2 ((gD l).length) c2, .slice V3 q.length c3]) ?_))))))))
      exact Zv (.bool true) (ZN (zA (ZD 1 ⟨b1, #[.slice V2 ((gD l).length) c2, .slice V3 q.length c3], 31⟩ (off := 0) (.agg #[.slice V2 ((gD l).length) c2, .slice V3 q.length c3]) (.bool true) Tryz.results85 (fun w hO => ⟨_, _, rfl, by rw [if_pos (by simp [h1, h2])]; exact ⟨_, _, o2, o3, rfl, rfl, hr2, hr3⟩, own_tl (own_tl hO)⟩))))
    | false =>
      refine Zv (.bool true) (Zv (.bool true) (ZY (ZO (Zc (k := 47) (args := #[]) (.agg #[.slice none 0 0, .slice none 0 0]) (fun w _ => qG w) (Zs 0 ⟨b1, #[.slice none 0 0, .slice none 0 0], 31⟩ (off := 0) (.agg #[.slice none 0 0, .slice none 0 0]) (Zv (.bool false) (zN (zC ?_))))))))
      exact zA (z8 (ZD 0 ⟨b1, #[.slice none 0 0, .slice none 0 0], 31⟩ (off := 0) (.agg #[.slice none 0 0, .slice none 0 0]) (.bool false) Tryz.results85 (fun w hO => ⟨_, [], by first | rfl | (simp [h1, h2]; done), by rw [if_neg (by simp [h1, h2])]; exact SetO.none, qP hO⟩)))
  | false =>
    refine Zv (.bool true) (Zv (.bool true) (Zk (Zk (Zk (Zv (.bool true) (ZY (ZO (Zc (k := 47) (args := #[]) (.agg #[.slice none 0 0, .slice none 0 0]) (fun w _ => qG w) ?_))))))))
    exact Zs 0 ⟨b1, #[.slice none 0 0, .slice none 0 0], 31⟩ (off := 0) (.agg #[.slice none 0 0, .slice none 0 0]) (Zv (.bool false) (ZN (zA (z8 (ZD 0 ⟨b1, #[.slice none 0 0, .slice none 0 0], 31⟩ (off := 0) (.agg #[.slice none 0 0, .slice none 0 0]) (.bool false) Tryz.results85 (fun w hO => ⟨_, [], by first | rfl | (simp [h1]; done), by rw [if_neg (by simp [h1])]; exact SetO.none, qP hO⟩))))))
end
section
section
variable {M : List Nat} {W w : World} {x y z : Blk} {A B C D E F G : List Blk}
theorem own_ev1 (h : Own M W w (A ++ (B ++ (C ++ (D ++ (x :: (E ++ (F ++ [y])))))))) : Own M W w (C ++ (A ++ [y])) := by
  have h0 : [y].Sublist (D ++ (x :: (E ++ (F ++ [y])))) := (((List.sublist_append_right F [y]).trans (List.sublist_append_right E _)).trans (List.sublist_cons_self x _)).trans (List.sublist_append_right D _)
  have h1 : Own M W w (A ++ (C ++ [y])) := h.sublist (List.Sublist.append (List.Sublist.refl A) ((List.Sublist.append (List.Sublist.refl C) h0).trans (List.sublist_append_right B _)))
  exact h1.perm (by rw [← List.append_assoc, ← List.append_assoc]; exact List.Perm.append_right [y] List.perm_append_comm)
theorem own_ev2 (h : Own M W w (x :: (A ++ (B ++ (E ++ (F ++ [y])))))) : Own M W w (x :: y :: A) := by
  have h0 : [y].Sublist (B ++ (E ++ (F ++ [y]))) := ((List.sublist_append_right F [y]).trans (List.sublist_append_right E _)).trans (List.sublist_append_right B _)
  have h1 : Own M W w (x :: (A ++ [y])) := h.sublist (List.Sublist.cons_cons x (List.Sublist.append (List.Sublist.refl A) h0))
  exact h1.perm (List.Perm.cons x List.perm_append_comm)
theorem own_so1 (h : Own M W w (A ++ (x :: y :: z :: B))) : Own M W w (y :: z :: A) := by
  have h1 : Own M W w (A ++ [y, z]) := h.sublist (List.Sublist.append (List.Sublist.refl A) ((List.Sublist.cons_cons y (List.Sublist.cons_cons z (List.nil_sublist B))).trans (List.sublist_cons_self x _)))
  exact h1.perm List.perm_append_comm
theorem own_st1 (h : Own M W w ((x :: (A ++ [y, z])) ++ B ++ C)) : Own M W w (y :: z :: (B ++ (A ++ C))) := by
  have h1 : Own M W w (A ++ ([y, z] ++ (B ++ C))) := by
    have h2 : Own M W w ([x] ++ (A ++ ([y, z] ++ (B ++ C)))) := by simpa [List.append_assoc] using h
    exact h2.sublist (List.sublist_append_right [x] _)
  refine h1.perm ((List.perm_append_comm_assoc A [y, z] (B ++ C)).trans ?_)
  show ([y, z] ++ (A ++ (B ++ C))).Perm ([y, z] ++ (B ++ (A ++ C)))
  exact List.Perm.append_left _ (List.perm_append_comm_assoc A B C)
theorem own_st2 (h : Own M W w (A ++ (x :: y :: B))) : Own M W w (x :: A) := by
  have h1 : Own M W w (A ++ [x]) := h.sublist (List.Sublist.append (List.Sublist.refl A) (List.Sublist.cons_cons x (List.nil_sublist _)))
  exact h1.perm List.perm_append_comm
end
theorem gmake_al (A B : Option Addr) (c d : Nat) (a : List Co) (W : World) {n : Nat} (hv : Reads x9 W W.heap.size A (xG a)) (hu : Reads x9 W W.heap.size B (f7 (xG a) (xD a))) (h1 : RF (xG a) 4000) (h2 : RF (f7 (xG a) (xD a)) n) (ca : (xG a).length ≤ c) (cb : (f7 (xG a) (xD a)).length ≤ d) (hn : n ≤ 100000 := by decide) :
    Calls Tryz.prog 85 #[.slice A (xG a).length c, .slice B (f7 (xG a) (xD a)).length d] W fun e w' => ∃ v' ob', e = .returned (.tuple #[v', .bool true]) ∧ SetO v' (yN a) ob' ∧ Own [] W w' ob' :=
  (sMake_any A B c d _ _ W hv hu (Nat.le_trans h1.len (by decide)) (Nat.le_trans h2.len hn) h1.short h2.short ca cb).mono fun e w' ⟨v', ob', q1, q2, q3⟩ => by
    rw [h1.may, h2.may] at q1 q2
    exact ⟨v', ob', q1, q2, q3⟩
theorem gevery_any (A : Option Addr) (cap : Nat) (a : List Co) (W : World) (hv : Reads coC W W.heap.size A a) (hn : a.length ≤ 1000) (hsh : ShortA a) : Calls Tryz.prog 48 #[.slice A a.length cap] W fun e w' => ∃ v' ob', e = .returned v' ∧ SetO v' (yN a) ob' ∧ Own [] W w' ob' := by
  refine zQ (n := 37) Tryz.func48 rfl (by kernel_rfl) (by kernel_rfl) (ZO (Za (.agg #[.slice none 0 0, .slice none 0 0]) (fun b1 => ZR (yH (k := 80) (args := #[]) (fun v' L' => ∃ ob', L' = ob' ++ ([⟨b1, #[.slice none 0 0, .slice none 0 0], 31⟩]) ∧ SetO v' allT ob') (by kernel_rfl) (fun _ => by kernel_rfl) (fun w hO => (sAll_any w).mono fun e w' ⟨v', ob', k1, k2, k3⟩ => ⟨v', _, k1, ⟨ob', rfl, k2⟩, Own.joinN hO k3⟩) (fun v0 Lx1 hvx1 => ?_)))))
  obtain ⟨o0, rfl, h0⟩ := hvx1
  obtain ⟨_, _, p1, p2, rfl, rfl, hq1, hq2⟩ := h0
  obtain ⟨V0, c0, rfl⟩ := hq1.form
  obtain ⟨U0, d0, rfl⟩ := hq2.form
  refine j5 (L' := p1 ++ ([⟨b1, #[.slice none 0 0, .slice none 0 0], 31⟩])) (fun w hO => own_tail hO) (Zv (.slice V0 allT.rel.length c0) (Zc (k := 47) (args := #[]) (.agg #[.slice none 0 0, .slice none 0 0]) (fun w _ => qG w) (Zv (.slice none 0 0) (Zv (.slice V0 allT.rel.length c0) (Zv (.slice none 0 0) (ZN (z6 (ZO (Zv (.slice A a.length cap) ?_)))))))))
  refine Zv (.int .i64 (a.length : Int)) (Zv (.int .i64 0) (ZN (zI (gC (L' := p1 ++ ([] ++ [⟨b1, #[.slice none 0 0, .slice none 0 0], 31⟩])) (by simp) (yT (fun L f m => ∃ (k : Nat) (V1 : Option Addr) (c1 : Nat) (o1 : List Blk) (V2 : Option Addr) (c2 : Nat) (o2 : List Blk) (j : Nat → Value), (k ≤ a.length ∧ SlS (.slice V1 (xG (a.take k)).length c1) (xG (a.take k)) o1 ∧ SlS (.slice V2 (xD (a.take k)).length c2) (xD (a.take k)) o2) ∧ L = o1 ++ (o2 ++ [⟨b1, #[.slice none 0 0, .slice none 0 0], 31⟩]) ∧ f = kE j [(0, .slice A a.length cap), (2, .pointer (some ⟨b1, 0, none⟩)), (3, .slice V1 (xG (a.take k)).length c1), (4, .slice V2 (xD (a.take k)).length c2), (13, .slice A a.length cap), (14, .int .i64 (a.length : Int)), (15, .int .i64 (k : Int))] ∧ m = a.length - k) (a.length - 0) ⟨0, _, _, _, none, 0, [], _, ⟨Nat.zero_le _, hq1, Sl.nil _ _⟩, rfl, ZU, rfl⟩ ?_)))))
  rintro L f m ⟨k, V1, c1, o1, V2, c2, o2, j, hrel, rfl, rfl, rfl⟩
  obtain ⟨hkl, gq1, gq2⟩ := hrel
  refine z6 (z7 ?_)
  by_cases h1 : (k : Int) < (a.length : Int)
  · have hk : k < a.length := by omega
    obtain ⟨bp, off, hA, hlt, hcell⟩ := hv (by omega)
    obtain ⟨c, hc⟩ : ∃ c, a[k] = c := ⟨_, rfl⟩
    have hcS : c.short := hsh c (hc ▸ List.getElem_mem hk)
    refine Zd (p := (k : Int) < (a.length : Int)) true (decide_eq_true (h1)) (ZN (z6 (Zt (ZB (z6 (zI (ZO (zT (.pointer (some ⟨bp, off + k * 7, none⟩)) (by kernel_rfl) (ZA (b := bp) (off := off) (c := cap) (n := a.length) (k := .i64) (j := (k : Int)) (e := 51) (sz := 7) hA) ?_))))))))
    refine Zo (coV c) (a := ⟨bp, off + k * 7, none⟩) (fun w hO => zZ jW (fun j u h => (hO.below.cell (p := ⟨bp, off + j, none⟩) hlt).trans (hcell j u h)) k 0 hk (by omega) _ (by rw [hc]; kernel_rfl)) (Za (.agg #[.int .i64 0, .int .i64 0, .int .i64 0, .int .i64 0, .int .i64 0, .string ⟨#[]⟩, .string ⟨#[]⟩]) (fun b2 => Zs 0 ⟨b2, #[.int .i64 0, .int .i64 0, .int .i64 0, .int .i64 0, .int .i64 0, .string ⟨#[]⟩, .string ⟨#[]⟩], 51⟩ (off := 0) (coV c) (ZR (Zv (.slice V1 ((xG (a.take k)).length) c1) (Zl 0 ⟨b2, (coV c).cells, 51⟩ (off := 0) (coV c) (yH (k := 82) (args := #[coV c]) (fun v' L' => ∃ ob', L' = ob' ++ (⟨b2, (coV c).cells, 51⟩ :: (o1 ++ (o2 ++ ([⟨b1, #[.slice none 0 0, .slice none 0 0], 31⟩])))) ∧ SlS v' c.region ob') (by kernel_rfl) (fun _ => by kernel_rfl) (fun w hO => (cRegion_any c w hcS).mono fun e w' ⟨v', ob', k1, k2, k3⟩ => ⟨v', _, k1, ⟨ob', rfl, k2⟩, Own.joinN hO k3⟩) (fun vr Lx2 hvx2 => ?_)))))))
    obtain ⟨oR, rfl, hR⟩ := hvx2
    obtain ⟨VR, cR, rfl⟩ := hR.form
    refine yH (k := 81) (args := #[.slice V1 ((xG (a.take k)).length) c1, .slice VR c.region.length cR]) (fun v' L' => ∃ ob', L' = ob' ++ (oR ++ (⟨b2, (coV c).cells, 51⟩ :: (o1 ++ (o2 ++ ([⟨b1, #[.slice none 0 0, .slice none 0 0], 31⟩]))))) ∧ SlS v' (xG (a.take (k + 1))) ob') (by kernel_rfl) (fun _ => by kernel_rfl) (fun w hO => (and4_any V1 VR c1 cR (xG (a.take k)) c.region w (Sl.reads gq1 rfl hO (fun x hx => by simp [hx])) (Sl.reads hR rfl hO (fun x hx => by simp [hx])) (Nat.le_trans (mS a k hn).len (by decide)) (Nat.le_trans (uS c).len (by decide)) (mS a k hn).short (uS c).short (wV gq1) (wV hR)).mono fun e w' ⟨v', ob', k1, k2, k3⟩ => ⟨v', _, k1, ⟨ob', rfl, by rw [if_pos (by rw [(mS a k hn).may, (uS c).may]; rfl), ← altRel_next hk hc] at k2; exact k2⟩, Own.joinN hO k3⟩) (fun va Lx3 hvx3 => ?_)
    obtain ⟨oA, rfl, hA2⟩ := hvx3
    obtain ⟨VA, cA, rfl⟩ := hA2.form
    refine Zv (.slice VA ((xG (a.take (k + 1))).length) cA) (ZN (z7 (Zv (.slice V2 ((xD (a.take k)).length) c2) (uK ⟨b2, (coV c).cells, 51⟩ (off := 0) (coV c) (by kernel_rfl) rfl (by simp) (by kernel_rfl) (by kernel_rfl) (yH (k := 84) (args := #[coV c]) (fun v' L' => ∃ ob', L' = ob' ++ (oA ++ (oR ++ (⟨b2, (coV c).cells, 51⟩ :: (o1 ++ (o2 ++ ([⟨b1, #[.slice none 0 0, .slice none 0 0], 31⟩])))))) ∧ SlS v' c.zone ob') (by kernel_rfl) (fun _ => by kernel_rfl) (fun w hO => (cZone_any c w hcS).mono fun e w' ⟨v', ob', k1, k2, k3⟩ => ⟨v', _, k1, ⟨ob', rfl, k2⟩, Own.joinN hO k3⟩) (fun vz Lx4 hvx4 => ?_))))))
    obtain ⟨oZ, rfl, hZ⟩ := hvx4
    obtain ⟨VZ, cZ, rfl⟩ := hZ.form
    refine yH (k := 83) (args := #[.slice V2 ((xD (a.take k)).length) c2, .slice VZ c.zone.length cZ]) (fun v' L' => ∃ ob', L' = ob' ++ (oZ ++ (oA ++ (oR ++ (⟨b2, (coV c).cells, 51⟩ :: (o1 ++ (o2 ++ ([⟨b1, #[.slice none 0 0, .slice none 0 0], 31⟩]))))))) ∧ SlS v' (xD (a.take (k + 1))) ob') (by kernel_rfl) (fun _ => by kernel_rfl) (fun w hO => (or4_any V2 VZ c2 cZ (xD (a.take k)) c.zone w (Sl.reads gq2 rfl hO (fun x hx => by simp [hx])) (Sl.reads hZ rfl hO (fun x hx => by simp [hx])) (Nat.le_trans (fA a k hn).len (by decide)) (Nat.le_trans (m9 c).len (by decide)) (fA a k hn).short (m9 c).short).mono fun e w' ⟨v', ob', k1, k2, k3⟩ => ⟨v', _, k1, ⟨ob', rfl, by rw [if_pos (by rw [(fA a k hn).may, (m9 c).may]; rfl), ← altZone_next hk hc] at k2; exact k2⟩, Own.joinN hO k3⟩) (fun vo Lx5 hvx5 => ?_)
    obtain ⟨oO, rfl, hO2⟩ := hvx5
    obtain ⟨VO, cO, rfl⟩ := hO2.form
    exact Zv (.slice VO ((xD (a.take (k + 1))).length) cO) (zN (zR (zC (z7 (Zu (k := .i64) (((k + 1 : Nat) : Int)) (IntWalk.i64_in _ (by omega)) (Zv (.int .i64 ((k + 1 : Nat) : Int)) (zN (xS (fun w hO => own_ev1 hO) (zU (m' := a.length - (k + 1)) (by omega) ⟨k + 1, VA, cA, oA, VO, cO, oO, _, ⟨by omega, hA2, hO2⟩, rfl, ZU, rfl⟩)))))))))
  have htk : a.take k = a := List.take_of_length_le (by omega)
  have hRL := mS a k hn
  have hZL := fA a k hn
  have hAZ := hRL.and1 hZL
  refine Zd (p := (k : Int) < (a.length : Int)) false (decide_eq_false (h1)) (ZN (z6 (Zf (y5 (zB (zM (zH (zC (z6 (z7 ?_))))))))))
  refine Zv (.slice V1 ((xG (a.take k)).length) c1) (Zv (.slice V1 ((xG (a.take k)).length) c1) (Zv (.slice V2 ((xD (a.take k)).length) c2) (yH (k := 81) (args := #[.slice V1 ((xG (a.take k)).length) c1, .slice V2 ((xD (a.take k)).length) c2]) (fun v' L' => ∃ ob', L' = ob' ++ (o1 ++ (o2 ++ ([⟨b1, #[.slice none 0 0, .slice none 0 0], 31⟩]))) ∧ SlS v' (f7 (xG (a.take k)) (xD (a.take k))) ob') (by kernel_rfl) (fun _ => by kernel_rfl) (fun w hO => (and4_any V1 V2 c1 c2 (xG (a.take k)) (xD (a.take k)) w (Sl.reads gq1 rfl hO (fun x hx => by simp [hx])) (Sl.reads gq2 rfl hO (fun x hx => by simp [hx])) (Nat.le_trans hRL.len (by decide)) (Nat.le_trans hZL.len (by decide)) hRL.short hZL.short (wV gq1) (wV gq2)).mono fun e w' ⟨v', ob', k1, k2, k3⟩ => ⟨v', _, k1, ⟨ob', rfl, by rw [if_pos (by rw [hRL.may, hZL.may]; rfl)] at k2; exact k2⟩, Own.joinN hO k3⟩) (fun vb Lx6 hvx6 => ?_))))
  obtain ⟨oB, rfl, hB⟩ := hvx6
  obtain ⟨VB, cB, rfl⟩ := hB.form
  refine yH (k := 85) (args := #[.slice V1 ((xG (a.take k)).length) c1, .slice VB ((f7 (xG (a.take k)) (xD (a.take k))).length) cB]) (fun v' L' => ∃ ob', L' = ob' ++ (oB ++ (o1 ++ (o2 ++ ([⟨b1, #[.slice none 0 0, .slice none 0 0], 31⟩])))) ∧ ∃ mv, v' = .tuple #[mv, .bool true] ∧ SetO mv (yN (a.take k)) ob') (by kernel_rfl) (fun _ => by kernel_rfl) (fun w hO => (gmake_al V1 VB c1 cB (a.take k) w (Sl.reads gq1 rfl hO (fun x hx => by simp [hx])) (Sl.reads hB rfl hO (fun x hx => by simp [hx])) hRL hAZ (wV gq1) (wV hB)).mono fun e w' ⟨v', ob', k1, k2, k3⟩ => ⟨Value.tuple #[v', .bool true], _, k1, ⟨ob', rfl, ⟨v', rfl, k2⟩⟩, Own.joinN hO k3⟩) (fun tv Lx7 hvx7 => ?_)
  obtain ⟨oM, rfl, hM0⟩ := hvx7
  obtain ⟨mv, rfl, hM⟩ := hM0
  obtain ⟨VM, UM, cM, dM, rfl⟩ := hM.form
  refine Zv (.tuple #[.agg #[.slice VM ((yN (a.take k)).rel.length) cM, .slice UM ((yN (a.take k)).pre.length) dM], .bool true]) (Zv (.agg #[.slice VM ((yN (a.take k)).rel.length) cM, .slice UM ((yN (a.take k)).pre.length) dM]) (Zv (.bool true) (Za (.agg #[.slice none 0 0, .slice none 0 0]) (fun b2 => Zs 0 ⟨b2, #[.slice none 0 0, .slice none 0 0], 31⟩ (off := 0) (.agg #[.slice VM ((yN (a.take k)).rel.length) cM, .slice UM ((yN (a.take k)).pre.length) dM]) (Zv (.bool true) (ZR (Zl 0 ⟨b2, #[.slice VM ((yN (a.take k)).rel.length) cM, .slice UM ((yN (a.take k)).pre.length) dM], 31⟩ (off := 0) (.agg #[.slice VM ((yN (a.take k)).rel.length) cM, .slice UM ((yN (a.take k)).pre.length) dM]) (j5 (L' := ⟨b2, #[.slice VM ((yN (a.take k)).rel.length) cM, .slice UM ((yN (a.take k)).pre.length) dM], 31⟩ :: (⟨b1, #[.slice none 0 0, .slice none 0 0], 31⟩ :: (oM))) (fun w hO => own_ev2 hO) ?_))))))))
  exact Zs 1 ⟨b1, #[.slice none 0 0, .slice none 0 0], 31⟩ (off := 0) (.agg #[.slice VM ((yN (a.take k)).rel.length) cM, .slice UM ((yN (a.take k)).pre.length) dM]) (ZN (zA (ZC 1 ⟨b1, #[.slice VM ((yN (a.take k)).rel.length) cM, .slice UM ((yN (a.take k)).pre.length) dM], 31⟩ (off := 0) (.agg #[.slice VM ((yN (a.take k)).rel.length) cM, .slice UM ((yN (a.take k)).pre.length) dM]) Tryz.results48 (fun w hO => ⟨_, oM, rfl, by rw [htk] at hM ⊢; exact hM, Own.sub [_, _] hO⟩))))
theorem gsome_any (A : Option Addr) (cap : Nat) (xs : List Se) (r : List (List Co)) (W : World) (hv : SsIn W W.heap.size A xs) (hr : xs.map Se.s = r.map yN) (hf : fewR r = true) : Calls Tryz.prog 49 #[.slice A xs.length cap] W fun e w' => ∃ v' ob', e = .returned v' ∧ SetO v' (x5 r) ob' ∧ Own [] W w' ob' := by
  have hn : xs.length = r.length := by have q := congrArg List.length hr; rwa [List.length_map, List.length_map] at q
  have hr6 := (fewR.facts hf).1
  have hfin := fin_alts hf
  refine zQ (n := 18) Tryz.func49 rfl (by kernel_rfl) (by kernel_rfl) (ZO (Za (.agg #[.slice none 0 0, .slice none 0 0]) (fun b1 => ZR (Zc (k := 47) (args := #[]) (.agg #[.slice none 0 0, .slice none 0 0]) (fun w _ => qG w) (Za (.agg #[.slice none 0 0, .slice none 0 0]) (fun b2 => Zs 0 ⟨b2, #[.slice none 0 0, .slice none 0 0], 31⟩ (off := 0) (.agg #[.slice none 0 0, .slice none 0 0]) (zN ?_)))))))
  refine zC (z6 (ZO (Zv (.slice A xs.length cap) (Zv (.int .i64 (xs.length : Int)) (Zv (.int .i64 0) (ZN (zI (gC (L' := ⟨b2, #[.slice none 0 0, .slice none 0 0], 31⟩ :: ⟨b1, #[.slice none 0 0, .slice none 0 0], 31⟩ :: []) rfl (yT (fun L f m => ∃ (k : Nat) (V : Option Addr) (U : Option Addr) (c : Nat) (d : Nat) (ob : List Blk) (j : Nat → Value), (k ≤ xs.length ∧ SetO (.agg #[.slice V (x5 (r.take k)).rel.length c, .slice U (x5 (r.take k)).pre.length d]) (x5 (r.take k)) ob) ∧ L = ⟨b2, #[.slice V ((x5 (r.take k)).rel.length) c, .slice U ((x5 (r.take k)).pre.length) d], 31⟩ :: ⟨b1, #[.slice none 0 0, .slice none 0 0], 31⟩ :: ob ∧ f = kE j [(2, .pointer (some ⟨b1, 0, none⟩)), (3, .pointer (some ⟨b2, 0, none⟩)), (7, .slice A xs.length cap), (8, .int .i64 (xs.length : Int)), (9, .int .i64 (k : Int))] ∧ m = xs.length - k) (xs.length - 0) ⟨0, none, none, 0, 0, [], _, ⟨Nat.zero_le _, SetO.none⟩, rfl, ZU, rfl⟩ ?_)))))))))
  rintro L f m ⟨k, V, U, c, d, ob, j, hrel, rfl, rfl, rfl⟩
  obtain ⟨hkl, hac⟩ := hrel
  refine z6 (z7 ?_)
  by_cases h1 : (k : Int) < (xs.length : Int)
  · have hk : k < xs.length := by omega
    obtain ⟨bp, off, hA, hlt, hcell⟩ := hv.top (by omega)
    obtain ⟨x, hx⟩ : ∃ x, xs[k] = x := ⟨_, rfl⟩
    have hxm : x ∈ xs := hx ▸ List.getElem_mem hk
    have hxf : SF x.s 198 := hfin x.s (hr ▸ List.mem_map.2 ⟨x, hxm, rfl⟩)
    have hxr : yN (r[k]'(by omega)) = x.s := se_at hr hk (by omega) hx
    refine Zd (p := (k : Int) < (xs.length : Int)) true (decide_eq_true (h1)) (ZN (z6 (Zt (ZB (z6 (zI (ZO (zT (.pointer (some ⟨bp, off + k * 2, none⟩)) (by kernel_rfl) (ZA (b := bp) (off := off) (c := cap) (n := xs.length) (k := .i64) (j := (k : Int)) (e := 31) (sz := 2) hA) ?_))))))))
    refine Zo (.agg #[.slice x.A x.s.rel.length x.c, .slice x.B x.s.pre.length x.d]) (a := ⟨bp, off + k * 2, none⟩) (fun w hO => zZ seC_len (fun j u h => (hO.below.cell (p := ⟨bp, off + j, none⟩) hlt).trans (hcell j u h)) k 0 hk (by omega) _ (by rw [hx]; kernel_rfl)) (Za (.agg #[.slice none 0 0, .slice none 0 0]) (fun b3 => Zs 0 ⟨b3, #[.slice none 0 0, .slice none 0 0], 31⟩ (off := 0) (.agg #[.slice x.A x.s.rel.length x.c, .slice x.B x.s.pre.length x.d]) (ZN (z7 (Zl 1 ⟨b2, #[.slice V ((x5 (r.take k)).rel.length) c, .slice U ((x5 (r.take k)).pre.length) d], 31⟩ (off := 0) (.agg #[.slice V ((x5 (r.take k)).rel.length) c, .slice U ((x5 (r.take k)).pre.length) d]) (Zl 0 ⟨b3, #[.slice x.A x.s.rel.length x.c, .slice x.B x.s.pre.length x.d], 31⟩ (off := 0) (.agg #[.slice x.A x.s.rel.length x.c, .slice x.B x.s.pre.length x.d]) (yH (k := 86) (args := #[.agg #[.slice V ((x5 (r.take k)).rel.length) c, .slice U ((x5 (r.take k)).pre.length) d], .agg #[.slice x.A x.s.rel.length x.c, .slice x.B x.s.pre.length x.d]]) (fun v' L' => ∃ ob', L' = ob' ++ (⟨b3, #[.slice x.A x.s.rel.length x.c, .slice x.B x.s.pre.length x.d], 31⟩ :: (⟨b2, #[.slice V ((x5 (r.take k)).rel.length) c, .slice U ((x5 (r.take k)).pre.length) d], 31⟩ :: (⟨b1, #[.slice none 0 0, .slice none 0 0], 31⟩ :: (ob)))) ∧ SetO v' (x5 (r.take (k + 1))) ob') (by kernel_rfl) (fun _ => by kernel_rfl) (fun w hO => (sOr_any V U x.A x.B c d x.c x.d (x5 (r.take k)) x.s w (SetO.inn hac hO (fun x hx => by simp [hx]) (orAll_le hf k) (by decide)) ((hv.each x hxm).on hO.below hO.below.size) hac.caps (hv.caps x hxm)).mono fun e w' ⟨v', ob', k1, k2, k3⟩ => ⟨v', _, k1, ⟨ob', rfl, by rw [if_pos (by rw [(orAll_le hf k).may, hxf.may]; rfl), ← hxr, ← orAll_next (by omega) rfl] at k2; exact k2⟩, Own.joinN hO k3⟩) (fun vo Lx1 hvx1 => ?_))))))))
    obtain ⟨oO, rfl, hO2⟩ := hvx1
    obtain ⟨V2, U2, c2, d2, rfl⟩ := hO2.form
    exact j5 (L' := ⟨b2, #[.slice V ((x5 (r.take k)).rel.length) c, .slice U ((x5 (r.take k)).pre.length) d], 31⟩ :: (⟨b1, #[.slice none 0 0, .slice none 0 0], 31⟩ :: (oO))) (fun w hO => own_so1 hO) (Zs 0 ⟨b2, #[.slice V ((x5 (r.take k)).rel.length) c, .slice U ((x5 (r.take k)).pre.length) d], 31⟩ (off := 0) (.agg #[.slice V2 ((x5 (r.take (k + 1))).rel.length) c2, .slice U2 ((x5 (r.take (k + 1))).pre.length) d2]) (zN (zR (zC (z7 (Zu (k := .i64) (((k + 1 : Nat) : Int)) (IntWalk.i64_in _ (by omega)) (Zv (.int .i64 ((k + 1 : Nat) : Int)) (zN (zU (m' := xs.length - (k + 1)) (by omega) ⟨k + 1, V2, U2, c2, d2, oO, _, ⟨by omega, hO2⟩, rfl, ZU, rfl⟩)))))))))
  have htk : r.take k = r := List.take_of_length_le (by omega)
  refine Zd (p := (k : Int) < (xs.length : Int)) false (decide_eq_false (h1)) (ZN (z6 (Zf (y5 (zB (zM (zH (zC (z6 (z7 ?_))))))))))
  exact Zl 0 ⟨b2, #[.slice V ((x5 (r.take k)).rel.length) c, .slice U ((x5 (r.take k)).pre.length) d], 31⟩ (off := 0) (.agg #[.slice V ((x5 (r.take k)).rel.length) c, .slice U ((x5 (r.take k)).pre.length) d]) (Zs 1 ⟨b1, #[.slice none 0 0, .slice none 0 0], 31⟩ (off := 0) (.agg #[.slice V ((x5 (r.take k)).rel.length) c, .slice U ((x5 (r.take k)).pre.length) d]) (ZN (zA (ZC 1 ⟨b1, #[.slice V ((x5 (r.take k)).rel.length) c, .slice U ((x5 (r.take k)).pre.length) d], 31⟩ (off := 0) (.agg #[.slice V ((x5 (r.take k)).rel.length) c, .slice U ((x5 (r.take k)).pre.length) d]) Tryz.results49 (fun w hO => ⟨_, ob, rfl, by rw [htk] at hac ⊢; exact hac, Own.sub [_, _] hO⟩)))))
theorem gSet_any (A : Option Addr) (cap : Nat) (xs : List Al) (W : World) (hv : RgIn W W.heap.size A xs) (ht : HasLib W) : Calls Tryz.prog 23 #[.agg #[.slice A xs.length cap]] W fun e w' => ∃ v' ob', e = .returned v' ∧ SetO v' (xB (yM xs)) ob' ∧ Own [] W w' ob' := by
  have hn := hv.n
  refine zQ (n := 25) Tryz.func23 rfl (by kernel_rfl) (by kernel_rfl) (ZO (Zb (.agg #[.slice A xs.length cap]) (fun b1 => Za (.agg #[.slice none 0 0, .slice none 0 0]) (fun b2 => ZN (z6 (ZO (Zl 1 ⟨b1, #[.slice A xs.length cap], 25⟩ (off := 0) (.agg #[.slice A xs.length cap]) (Zc (k := 19) (args := #[.agg #[.slice A xs.length cap]]) (.bool (rgMay (yM xs))) (fun w hO => gMay_any A cap xs w (hv.on hO.below hO.below.size) (ht.on hO.below)) ?_))))))))
  cases h1 : rgMay (yM xs) with
  | true =>
    have hfw : fewR (yM xs) = true := (rgMay.facts h1).1
    obtain ⟨hxs6, hxe⟩ := few_mem hfw
    refine Zv (.bool false) (ZX (ZB (ZO (Zv (.slice none 0 0) (ZN (z6 ?_))))))
    refine ZO (Zv (.pointer (some ⟨b1, 0, none⟩)) (Zl 1 ⟨b1, #[.slice A xs.length cap], 25⟩ (off := 0) (.slice A xs.length cap) (Zv (.int .i64 (xs.length : Int)) (Zv (.int .i64 0) (ZN (zI (gC (L' := ⟨b2, #[.slice none 0 0, .slice none 0 0], 31⟩ :: ⟨b1, #[.slice A xs.length cap], 25⟩ :: ([] ++ [])) rfl (yT (fun L f m => ∃ (i : Nat) (U : Option Addr) (nq : Nat) (cu : Nat) (ys : List Se) (oX : List Blk) (oY : List Blk) (j : Nat → Value), (nq = ys.length ∧ i ≤ xs.length ∧ SsO (.slice U nq cu) ys oX oY ∧ ys.map Se.s = (((yM xs).take i).map yN)) ∧ L = ⟨b2, #[.slice none 0 0, .slice none 0 0], 31⟩ :: ⟨b1, #[.slice A xs.length cap], 25⟩ :: (oX ++ oY) ∧ f = kE j [(1, .pointer (some ⟨b1, 0, none⟩)), (2, .pointer (some ⟨b2, 0, none⟩)), (3, .slice U nq cu), (11, .slice A xs.length cap), (12, .int .i64 (xs.length : Int)), (13, .int .i64 (i : Int))] ∧ m = xs.length - i) (xs.length - 0) ⟨0, none, 0, 0, [], [], [], _, ⟨rfl, Nat.zero_le _, SsO.nil, rfl⟩, rfl, ZU, rfl⟩ ?_))))))))
    rintro L f m ⟨i, U, nq, cu, ys, oX, oY, j, hrel, rfl, rfl, rfl⟩
    obtain ⟨hnq, hil, hss, hys⟩ := hrel; subst hnq
    refine z6 (z7 ?_)
    by_cases h2 : (i : Int) < (xs.length : Int)
    · have hi : i < xs.length := by omega
      obtain ⟨bp, off, hA, hlt, hcell⟩ := hv.top (by omega)
      obtain ⟨x, hx⟩ : ∃ x, xs[i] = x := ⟨_, rfl⟩
      have hxm : x ∈ xs := hx ▸ List.getElem_mem hi
      have hxr : (yM xs)[i]'(by rw [x8]; exact hi) = x.l := j7 hi hx
      refine Zd (p := (i : Int) < (xs.length : Int)) true (decide_eq_true (h2)) (ZN (z6 (Zt (ZB (z6 (zI (ZO (zT (.pointer (some ⟨bp, off + i * 1, none⟩)) (by kernel_rfl) (ZA (b := bp) (off := off) (c := cap) (n := xs.length) (k := .i64) (j := (i : Int)) (e := 47) (sz := 1) hA) ?_))))))))
      refine Zo (.slice x.A x.l.length x.cap) (a := ⟨bp, off + i * 1, none⟩) (fun w hO => zZ g0 (fun j u h => (hO.below.cell (p := ⟨bp, off + j, none⟩) hlt).trans (hcell j u h)) i 0 hi (by omega) _ (by rw [hx]; kernel_rfl)) (Zv (.slice x.A x.l.length x.cap) (ZN (z7 (Zv (.slice U ys.length cu) (Zv (.slice x.A x.l.length x.cap) (yH (k := 48) (args := #[.slice x.A x.l.length x.cap]) (fun v' L' => ∃ ob', L' = ob' ++ (⟨b2, #[.slice none 0 0, .slice none 0 0], 31⟩ :: (⟨b1, #[.slice A xs.length cap], 25⟩ :: (oX ++ (oY)))) ∧ SetO v' (yN x.l) ob') (by kernel_rfl) (fun _ => by kernel_rfl) (fun w hO => (gevery_any x.A x.cap x.l w ((hv.each x hxm).on hO.below hO.below.size) (hv.m x hxm) (hv.short x hxm)).mono fun e w' ⟨v', ob', k1, k2, k3⟩ => ⟨v', _, k1, ⟨ob', rfl, k2⟩, Own.joinN hO k3⟩) (fun ve Lx1 hvx1 => ?_)))))))
      obtain ⟨oE, rfl, hE⟩ := hvx1
      obtain ⟨VE, UE, cE, dE, rfl⟩ := hE.form
      refine vC 31 #[.slice VE ((yN x.l).rel.length) cE, .slice UE ((yN x.l).pre.length) dE] (by kernel_rfl) rfl (fun _ => by kernel_rfl) (fun b3 => ?_)
      obtain ⟨i1, z1, e1, e2, e3, e4, e5⟩ := se_info
      have hyl : ys.length ≤ 6 := by have q := congrArg List.length hys; rw [List.length_map, List.length_map, List.length_take, x8] at q; omega
      refine k8 (L' := (⟨b3, #[.slice VE ((yN x.l).rel.length) cE, .slice UE ((yN x.l).pre.length) dE], 31⟩ :: (oE ++ [⟨b2, #[.slice none 0 0, .slice none 0 0], 31⟩, ⟨b1, #[.slice A xs.length cap], 25⟩])) ++ oX ++ oY) (by simp <;> rfl) (g7 (sz := 2) (by kernel_rfl) rfl Tryz.underlying66 e1 e2 e3 e4 (by kernel_rfl) hss.top (a := ⟨b3, 0, none⟩) (m := 1) (c := 1) (news := seC ⟨VE, UE, yN x.l, cE, dE⟩) (by kernel_rfl) rfl (fun w hO j u hj => ?_) (se_cells _) (by unfold maxLen; omega) (by rw [e5]; omega) (fun u2 oX2 hu0 => ?_))
      · rw [xK, cell_of_row w b3 (0 + j) (seC ⟨VE, UE, yN x.l, cE, dE⟩).toArray 31 _ (hO.held ⟨b3, (seC ⟨VE, UE, yN x.l, cE, dE⟩).toArray, 31⟩ (List.mem_append_left _ (List.mem_append_left _ (List.mem_cons_self ..))))]; simpa using hj
      have hss2 := hss.add hu0 hE
      obtain ⟨U2, cu2, rfl⟩ := Sl.form hu0
      exact Zv (.slice U2 (ys.length + 1) cu2) (zN (zR (zC (z7 (Zu (k := .i64) (((i + 1 : Nat) : Int)) (IntWalk.i64_in _ (by omega)) (Zv (.int .i64 ((i + 1 : Nat) : Int)) (zN (xS (fun w hO => own_st1 hO) (zU (m' := xs.length - (i + 1)) (by omega) ⟨i + 1, U2, ys.length + 1, cu2, ys ++ [⟨VE, UE, yN x.l, cE, dE⟩], oX2, (oE ++ oY), _, ⟨by simp, by omega, hss2, by rw [List.take_succ_eq_append_getElem (by rw [x8]; exact hi), hxr, List.map_append, List.map_append, hys]; rfl⟩, rfl, ZU, rfl⟩)))))))))
    have htk : (yM xs).take i = yM xs := List.take_of_length_le (by rw [x8]; omega)
    rw [htk] at hys
    have hyf : ∀ y ∈ ys, SF y.s 198 := fun y hy => fin_alts hfw y.s (hys ▸ List.mem_map.2 ⟨y, hy, rfl⟩)
    refine Zd (p := (i : Int) < (xs.length : Int)) false (decide_eq_false (h2)) (ZN (z6 (Zf (y5 (zB (zM (zH (zC (z6 (z7 ?_))))))))))
    refine Zv (.slice U ys.length cu) (yH (k := 49) (args := #[.slice U ys.length cu]) (fun v' L' => ∃ ob', L' = ob' ++ (⟨b2, #[.slice none 0 0, .slice none 0 0], 31⟩ :: (⟨b1, #[.slice A xs.length cap], 25⟩ :: (oX ++ (oY)))) ∧ SetO v' (x5 (yM xs)) ob') (by kernel_rfl) (fun _ => by kernel_rfl) (fun w hO => (gsome_any U cu ys (yM xs) w (SsO.inn hss rfl hO (fun x hx => by simp [hx]) (fun x hx => by simp [hx]) hyf) hys hfw).mono fun e w' ⟨v', ob', k1, k2, k3⟩ => ⟨v', _, k1, ⟨ob', rfl, k2⟩, Own.joinN hO k3⟩) (fun vs Lx2 hvx2 => ?_))
    obtain ⟨oS, rfl, hS⟩ := hvx2
    obtain ⟨VS, US, cS, dS, rfl⟩ := hS.form
    exact j5 (L' := ⟨b2, #[.slice none 0 0, .slice none 0 0], 31⟩ :: (oS)) (fun w hO => own_st2 hO) (Zs 0 ⟨b2, #[.slice none 0 0, .slice none 0 0], 31⟩ (off := 0) (.agg #[.slice VS ((x5 (yM xs)).rel.length) cS, .slice US ((x5 (yM xs)).pre.length) dS]) (ZN (zA (ZC 0 ⟨b2, #[.slice VS ((x5 (yM xs)).rel.length) cS, .slice US ((x5 (yM xs)).pre.length) dS], 31⟩ (off := 0) (.agg #[.slice VS ((x5 (yM xs)).rel.length) cS, .slice US ((x5 (yM xs)).pre.length) dS]) Tryz.results23 (fun w hO => ⟨_, oS, rfl, by unfold xB; rw [if_pos h1]; exact hS, Own.sub [_] hO⟩)))))
  | false =>
    refine Zv (.bool true) (ZY (ZO (Zc (k := 47) (args := #[]) (.agg #[.slice none 0 0, .slice none 0 0]) (fun w _ => qG w) (Zs 0 ⟨b2, #[.slice none 0 0, .slice none 0 0], 31⟩ (off := 0) (.agg #[.slice none 0 0, .slice none 0 0]) (ZN (zA (z8 ?_)))))))
    exact ZC 0 ⟨b2, #[.slice none 0 0, .slice none 0 0], 31⟩ (off := 0) (.agg #[.slice none 0 0, .slice none 0 0]) Tryz.results23 (fun w hO => ⟨_, [], rfl, by unfold xB; rw [if_neg (by simp [h1])]; exact SetO.none, qP hO⟩)
end
section
theorem fewR_text {r : List (List Co)} (h : r ≠ []) {t : List UInt8} (ht : wQ r = t) : (t = [] → fewR r = false) ∧ (¬ t = [] → fewR r = true ∧ yZ r = t) := by
  refine ⟨fun q => textR_nil.1 (ht.trans q), fun q => ?_⟩
  cases hf : fewR r with
  | false => exact absurd (ht.symm.trans (textR_nil.2 hf)) q
  | true => refine ⟨rfl, ?_⟩; unfold wQ at ht; rw [hf] at ht; exact ht
theorem all_ne {s : List UInt8} {r : List (List Co)} (h : gK s = some r) : r ≠ [] := fun e => by
  have h2 := dJ h
  rw [e] at h2
  exact altsL_ne s [] (List.eq_nil_of_length_eq_zero h2.symm)
theorem wE (s : List UInt8) (W : World) (hs : s.length ≤ 1000000) (ht : HasLib W) : Calls Tryz.prog 12 #[.string (mkS s)] W fun e w' => ∃ v' ob', e = .returned (.tuple #[v', .int .i64 (kK s)]) ∧ RgO v' ((x2 s).getD []) ob' ∧ Own [] W w' ob' := by
  have hsz := xA s
  refine zQ (n := 62) Tryz.func12 rfl (by kernel_rfl) (by kernel_rfl) (ZO (Za (.agg #[.slice none 0 0]) (fun b1 => Zv (.int .i64 0) (ZN (z6 (ZO (Zv (.string (mkS s)) (Zv (.int .i64 ((mkS s).size)) ?_))))))))
  by_cases h1 : (96 : Int) < (mkS s).size
  · refine zV (p := (96 : Int) < (mkS s).size) true (by kernel_rfl) (fun _ => by kernel_rfl) (decide_eq_true (h1)) ?_
    refine ZY (ZO (Zv (.agg #[.slice none 0 0]) (Zs 0 ⟨b1, #[.slice none 0 0], 25⟩ (off := 0) (.agg #[.slice none 0 0]) (Zv (.int .i64 3) (ZN (zA (z8 ?_)))))))
    exact ZD 0 ⟨b1, #[.slice none 0 0], 25⟩ (off := 0) (.agg #[.slice none 0 0]) (.int .i64 3) Tryz.results12 (fun w hO => ⟨.agg #[.slice none 0 0], [], by rw [(errG_long (s := s) (by omega)).1], by rw [(errG_long (s := s) (by omega)).2]; exact RgO.nil, qP hO⟩)
  have hs6 : s.length ≤ 96 := by omega
  refine Zd (p := (96 : Int) < (mkS s).size) false (decide_eq_false (h1)) (ZX (ZB (ZO (Za (.agg #[.slice none 0 0]) (fun b2 => ZN (z6 ?_))))))
  refine ZO (Zv (.string (mkS s)) (yH (k := 36) (args := #[.string (mkS s), .string ⟨#[124, 124]⟩]) (fun v' L' => ∃ ob', L' = ob' ++ ([⟨b2, #[.slice none 0 0], 25⟩, ⟨b1, #[.slice none 0 0], 25⟩]) ∧ SlT v' (xW [] s) ob') (by kernel_rfl) (fun _ => by kernel_rfl) (fun w hO => (split_bars s w hs (ht.on hO.below)).mono fun e w' ⟨v', ob', k1, k2, k3⟩ => ⟨v', _, k1, ⟨ob', rfl, k2⟩, Own.joinN hO k3⟩) (fun lv L2 hv2 => ?_)))
  obtain ⟨ol, rfl, hol⟩ := hv2
  obtain ⟨l, hll⟩ : ∃ l, l = xW [] s := ⟨_, rfl⟩
  rw [← hll] at hol
  have hln : l.length ≤ 97 := by rw [hll]; have := pO s []; omega
  have hlm : ∀ x ∈ l, x.length ≤ 96 := fun x hx => by have := tZ s [] x (hll ▸ hx); simp at this; omega
  obtain ⟨g, cur, lcap, rfl, rfl, hcur⟩ := SlT.blk hol (by rw [hll]; exact altsL_ne s [])
  refine Zv (.int .i64 (l.length : Int)) (Zv (.int .i64 0) (ZN (zI (gC (L' := ⟨g, cur, 9⟩ :: ⟨b2, #[.slice none 0 0], 25⟩ :: ⟨b1, #[.slice none 0 0], 25⟩ :: ([] ++ [])) rfl (yT (fun L f m => ∃ (i : Nat) (A : Option Addr) (cap : Nat) (xs : List Al) (o1 : List Blk) (o2 : List Blk) (j : Nat → Value), (i ≤ l.length ∧ RgA (.slice A xs.length cap) xs o1 o2 ∧ uF nV (l.take i) = some (yM xs)) ∧ L = ⟨g, cur, 9⟩ :: ⟨b2, #[.slice A xs.length cap], 25⟩ :: ⟨b1, #[.slice none 0 0], 25⟩ :: (o1 ++ o2) ∧ f = kE j [(2, .pointer (some ⟨b1, 0, none⟩)), (4, .pointer (some ⟨b2, 0, none⟩)), (18, .slice (some ⟨g, 0, none⟩) l.length lcap), (19, .int .i64 (l.length : Int)), (20, .int .i64 (i : Int))] ∧ m = l.length - i) (l.length - 0) ⟨0, none, 0, [], [], [], _, ⟨Nat.zero_le _, RgA.nil, rfl⟩, rfl, ZU, rfl⟩ ?_)))))
  rintro L f m ⟨i, A, cap, xs, o1, o2, j, hrel, rfl, rfl, rfl⟩
  have hrel0 := hrel; have hra := hrel.2.1; have hil := hrel.1
  refine z6 (z7 ?_)
  by_cases h2 : (i : Int) < (l.length : Int)
  · have hi : i < l.length := by omega
    obtain ⟨y, hy⟩ : ∃ y, l[i] = y := ⟨_, rfl⟩
    have hyl : y.length ≤ 96 := hlm y (hy ▸ List.getElem_mem hi)
    refine Zd (p := (i : Int) < (l.length : Int)) true (decide_eq_true (h2)) (ZN (z6 (Zt (ZB (z6 (zI (ZO (zT (.pointer (some ⟨g, i * 1, none⟩)) (by kernel_rfl) (ZV (b := g) (off := 0) (n := l.length) (c := lcap) (k := .i64) (j := (i : Int)) (e := 9) (sz := 1)) ?_))))))))
    refine j6 0 ⟨g, cur, 9⟩ (off := i * 1) (.string (mkS y)) (by kernel_rfl) rfl (by kernel_rfl) (by kernel_rfl) (gT bQ hcur i 0 (by omega) (by omega) _ (by rw [hy]; kernel_rfl)) (Zv (.string (mkS y)) (ZR (Zv (.slice none 0 0) (ZN (z6 (z6 (z7 ?_)))))))
    refine Zv (.string (mkS y)) (yH (k := 36) (args := #[.string (mkS y), .string ⟨#[44]⟩]) (fun v' L' => ∃ ob', L' = ob' ++ (⟨g, cur, 9⟩ :: (⟨b2, #[.slice A xs.length cap], 25⟩ :: (⟨b1, #[.slice none 0 0], 25⟩ :: ((o1 ++ o2))))) ∧ SlT v' (yL 44 [] y) ob') (by kernel_rfl) (fun _ => by kernel_rfl) (fun w hO => (split_comma y w (by omega) (ht.on hO.below)).mono fun e w' ⟨v', ob', k1, k2, k3⟩ => ⟨v', _, k1, ⟨ob', rfl, k2⟩, Own.joinN hO k3⟩) (fun mv L2 hv2 => ?_))
    obtain ⟨om, rfl, hom⟩ := hv2
    obtain ⟨m', hml⟩ : ∃ m', m' = yL 44 [] y := ⟨_, rfl⟩
    rw [← hml] at hom
    have hmn : m'.length ≤ 97 := by rw [hml]; exact (pieces_len hyl).1
    have hmm : ∀ x ∈ m', x.length ≤ 96 := fun x hx => (pieces_len hyl).2 x (hml ▸ hx)
    obtain ⟨g2, cur2, mcap, rfl, rfl, hcur2⟩ := SlT.blk hom (by rw [hml]; exact bR 44 y [])
    refine Zv (.int .i64 (m'.length : Int)) (Zv (.int .i64 0) (ZN (zI (gC (L' := ⟨g2, cur2, 9⟩ :: ⟨g, cur, 9⟩ :: ⟨b2, #[.slice A xs.length cap], 25⟩ :: ⟨b1, #[.slice none 0 0], 25⟩ :: ([] ++ (o1 ++ o2))) rfl (yT (fun L f m => ∃ (k : Nat) (B : Option Addr) (cb : Nat) (a : List Co) (oa : List Blk) (j : Nat → Value), (k ≤ m'.length ∧ SlCo (.slice B a.length cb) a oa ∧ uF parseP (m'.take k) = some a) ∧ L = ⟨g2, cur2, 9⟩ :: ⟨g, cur, 9⟩ :: ⟨b2, #[.slice A xs.length cap], 25⟩ :: ⟨b1, #[.slice none 0 0], 25⟩ :: (oa ++ (o1 ++ o2)) ∧ f = kE j [(2, .pointer (some ⟨b1, 0, none⟩)), (4, .pointer (some ⟨b2, 0, none⟩)), (18, .slice (some ⟨g, 0, none⟩) l.length lcap), (19, .int .i64 (l.length : Int)), (20, .int .i64 (i : Int)), (7, .slice B a.length cb), (25, .slice (some ⟨g2, 0, none⟩) m'.length mcap), (26, .int .i64 (m'.length : Int)), (27, .int .i64 (k : Int))] ∧ m = m'.length - k) (m'.length - 0) ⟨0, none, 0, [], [], _, ⟨Nat.zero_le _, Sl.nil _ _, rfl⟩, rfl, ZU, rfl⟩ ?_)))))
    rintro L f m ⟨k, B, cb, a, oa, j, hrel, rfl, rfl, rfl⟩
    have hkl := hrel.1
    refine z6 (z7 ?_)
    by_cases h3 : (k : Int) < (m'.length : Int)
    · have hk : k < m'.length := by omega
      obtain ⟨z, hz⟩ : ∃ z, m'[k] = z := ⟨_, rfl⟩
      have hzl : z.length ≤ 96 := hmm z (hz ▸ List.getElem_mem hk)
      have hbz := bareL_len z
      refine Zd (p := (k : Int) < (m'.length : Int)) true (decide_eq_true (h3)) (ZN (z6 (Zt (ZB (z6 (zI (ZO (zT (.pointer (some ⟨g2, k * 1, none⟩)) (by kernel_rfl) (ZV (b := g2) (off := 0) (n := m'.length) (c := mcap) (k := .i64) (j := (k : Int)) (e := 9) (sz := 1)) ?_))))))))
      refine j6 0 ⟨g2, cur2, 9⟩ (off := k * 1) (.string (mkS z)) (by kernel_rfl) rfl (by kernel_rfl) (by kernel_rfl) (gT bQ hcur2 k 0 (by omega) (by omega) _ (by rw [hz]; kernel_rfl)) (Zv (.string (mkS z)) (ZR (Zv (.string (mkS z)) (Zc (k := 38) (args := #[.string (mkS z), .string ⟨#[32]⟩]) (.string (mkS (xU z))) (fun w _ => trim_any z w (by omega)) (Zc (k := 37) (args := #[.string (mkS (xU z))]) (.tuple #[coV (pcV (xU z)), .int .i64 (pcE (xU z))]) (fun w hO => cParse_any (xU z) w (by omega) (ht.tab.on hO.below)) (Zv (.tuple #[coV (pcV (xU z)), .int .i64 (pcE (xU z))]) (Zv (coV (pcV (xU z))) (Zv (.int .i64 (pcE (xU z))) ?_))))))))
      refine Za (.agg #[.int .i64 0, .int .i64 0, .int .i64 0, .int .i64 0, .int .i64 0, .string ⟨#[]⟩, .string ⟨#[]⟩]) (fun b3 => Zs 0 ⟨b3, #[.int .i64 0, .int .i64 0, .int .i64 0, .int .i64 0, .int .i64 0, .string ⟨#[]⟩, .string ⟨#[]⟩], 51⟩ (off := 0) (coV (pcV (xU z))) (Zv (.int .i64 (pcE (xU z))) (ZN (z6 (ZO (Zv (.int .i64 (pcE (xU z))) ?_))))))
      by_cases h4 : ((pcE (xU z)) : Int) = 0
      · refine vL (p := ((pcE (xU z)) : Int) = 0) true (by kernel_rfl) (fun _ => by kernel_rfl) (decide_eq_true (h4)) ?_
        refine ZX (ZB (z7 (Zv (.slice B a.length cb) (Zl 0 ⟨b3, (coV (pcV (xU z))).cells, 51⟩ (off := 0) (coV (pcV (xU z))) (vC 51 #[.int .i64 ((pcV (xU z)).op), .int .i64 ((pcV (xU z)).parts), .int .i64 ((pcV (xU z)).v.maj), .int .i64 ((pcV (xU z)).v.min), .int .i64 ((pcV (xU z)).v.pat), .string (mkS (pcV (xU z)).v.pre), .string (mkS (pcV (xU z)).v.build)] (by kernel_rfl) rfl (fun _ => by kernel_rfl) (fun b4 => ?_))))))
        obtain ⟨i0, z0, e1, e2, e3, e4, e5⟩ := co_info
        have hal : a.length ≤ 97 := by have q := dJ hrel.2.2; rw [List.length_take] at q; omega
        refine k8 (L' := [⟨b4, #[.int .i64 ((pcV (xU z)).op), .int .i64 ((pcV (xU z)).parts), .int .i64 ((pcV (xU z)).v.maj), .int .i64 ((pcV (xU z)).v.min), .int .i64 ((pcV (xU z)).v.pat), .string (mkS (pcV (xU z)).v.pre), .string (mkS (pcV (xU z)).v.build)], 51⟩, ⟨b3, (coV (pcV (xU z))).cells, 51⟩, ⟨g2, cur2, 9⟩, ⟨g, cur, 9⟩, ⟨b2, #[.slice A xs.length cap], 25⟩, ⟨b1, #[.slice none 0 0], 25⟩] ++ oa ++ (o1 ++ o2)) (by rw [List.append_assoc]; kernel_rfl) (g7 (sz := 7) (by kernel_rfl) rfl Tryz.underlying47 e1 e2 e3 e4 (by kernel_rfl) hrel.2.1 (a := ⟨b4, 0, none⟩) (m := 1) (c := 1) (news := coC (pcV (xU z))) (by kernel_rfl) rfl (fun w hO j u hj => ?_) (co_cells _) (by unfold maxLen; omega) (by rw [e5]; omega) (fun u2 ob2 hu2 => ?_))
        · rw [xK, cell_of_row w b4 (0 + j) (coC (pcV (xU z))).toArray 51 _ (hO.held ⟨b4, (coC (pcV (xU z))).toArray, 51⟩ (List.mem_append_left _ (List.mem_append_left _ (List.mem_cons_self ..))))]; simpa using hj
        have hu3 : SlCo u2 (a ++ [(pcV (xU z))]) ob2 := hu2.to (by simp) (by simp)
        obtain ⟨B2, cb2, rfl⟩ := Sl.form hu3
        exact j5 (L' := ⟨g2, cur2, 9⟩ :: (⟨g, cur, 9⟩ :: (⟨b2, #[.slice A xs.length cap], 25⟩ :: (⟨b1, #[.slice none 0 0], 25⟩ :: (ob2 ++ ((o1 ++ o2))))))) (fun w hO => own_two (by simpa using hO)) (Zv (.slice B2 ((a ++ [(pcV (xU z))]).length) cb2) (zN (zR (zC (z7 (Zu (k := .i64) (((k + 1 : Nat) : Int)) (IntWalk.i64_in _ (by omega)) (Zv (.int .i64 ((k + 1 : Nat) : Int)) (zN (zU (m' := m'.length - (k + 1)) (by omega) ⟨k + 1, B2, cb2, _, ob2, _, ⟨by omega, hu3, allO_next hk hz hrel.2.2 (pc_ok (by assumption))⟩, rfl, ZU, rfl⟩)))))))))
      refine Zn (p := ((pcE (xU z)) : Int) = 0) false (decide_eq_false (h4)) (ZY (ZO (Zv (.agg #[.slice none 0 0]) (Zs 4 ⟨b1, #[.slice none 0 0], 25⟩ (off := 0) (.agg #[.slice none 0 0]) (Zv (.int .i64 6) (ZN (zA ?_)))))))
      refine z8 (zD (z8 (y7 (zD (z8 (zD (z8 (y7 (zD (z8 (ZD 4 ⟨b1, #[.slice none 0 0], 25⟩ (off := 0) (.agg #[.slice none 0 0]) (.int .i64 6) Tryz.results12 ?_)))))))))))
      exact fun w hO => ⟨.agg #[.slice none 0 0], [], by rw [(errG_none hs6 (all_fails hll hi hy hml hk hz (by assumption))).1], by rw [(errG_none hs6 (all_fails hll hi hy hml hk hz (by assumption))).2]; exact RgO.nil, qP hO⟩
    refine Zd (p := (k : Int) < (m'.length : Int)) false (decide_eq_false (h3)) (ZN (z6 (Zf (y5 (zB (zM (zH (zC (z7 (Zv (.pointer (some ⟨b2, 0, none⟩)) ?_))))))))))
    refine Zl 2 ⟨b2, #[.slice A xs.length cap], 25⟩ (off := 0) (.slice A xs.length cap) (Zv (.slice B a.length cb) (vC 47 #[.slice B a.length cb] (by kernel_rfl) rfl (fun _ => by kernel_rfl) (fun b3 => ?_)))
    obtain ⟨i0, z0, e1, e2, e3, e4, e5⟩ := al_info
    have hal : xs.length ≤ 97 := by have q := dJ hrel0.2.2; rw [List.length_take, x8] at q; omega
    refine k8 (L' := ([⟨b3, #[.slice B a.length cb], 47⟩, ⟨g2, cur2, 9⟩, ⟨g, cur, 9⟩, ⟨b2, #[.slice A xs.length cap], 25⟩, ⟨b1, #[.slice none 0 0], 25⟩] ++ oa) ++ o1 ++ o2) (by rw [List.append_assoc, List.append_assoc]; kernel_rfl) (g7 (sz := 1) (by kernel_rfl) rfl Tryz.underlying23 e1 e2 e3 e4 (by kernel_rfl) hra.top (a := ⟨b3, 0, none⟩) (m := 1) (c := 1) (news := alC (Al.mk B a cb)) (by kernel_rfl) rfl (fun w hO j u hj => ?_) (al_cells _) (by unfold maxLen; omega) (by rw [e5]; omega) (fun u2 ob2 hu2 => ?_))
    · rw [xK, cell_of_row w b3 (0 + j) (alC (Al.mk B a cb)).toArray 47 _ (hO.held ⟨b3, (alC (Al.mk B a cb)).toArray, 47⟩ (by simp [alC]))]; simpa using hj
    have hra2 := hra.add hu2 hrel.2.1
    obtain ⟨A2, cap2, rfl⟩ := Sl.form hra2.top
    exact j5 (L' := ⟨g, cur, 9⟩ :: (⟨b2, #[.slice A xs.length cap], 25⟩ :: (⟨b1, #[.slice none 0 0], 25⟩ :: ((ob2 ++ (oa ++ o2)))))) (fun w hO => own_turn hO) (Zv (.pointer (some ⟨b2, 0, none⟩)) (Zs 1 ⟨b2, #[.slice A xs.length cap], 25⟩ (off := 0) (.slice A2 ((xs ++ [(Al.mk B a cb)]).length) cap2) (zN (zR (zC (z7 (Zu (k := .i64) (((i + 1 : Nat) : Int)) (IntWalk.i64_in _ (by omega)) (Zv (.int .i64 ((i + 1 : Nat) : Int)) (zN (zU (m' := l.length - (i + 1)) (by omega) ⟨i + 1, A2, cap2, _, ob2, (oa ++ o2), _, ⟨by omega, hra2, by rw [show yM (xs ++ [Al.mk B a cb]) = yM xs ++ [a] from by simp [yM]]; exact allO_next hi hy hrel0.2.2 (by have q := hrel.2.2; rw [List.take_of_length_le (by omega), hml] at q; exact q)⟩, rfl, ZU, rfl⟩))))))))))
  have hall : gK s = some (yM xs) := by have q := hrel0.2.2; rw [List.take_of_length_le (by omega), hll] at q; exact q
  have hfine : FineR (yM xs) := fine_part hs6 (fun x hx => hll ▸ hx) hln (by rw [hll]; exact hall)
  obtain ⟨t, et⟩ : ∃ t, wQ (yM xs) = t := ⟨_, rfl⟩
  obtain ⟨htn, hty⟩ := fewR_text (all_ne hall) et
  have htz := xA t
  refine Zd (p := (i : Int) < (l.length : Int)) false (decide_eq_false (h2)) (ZN (z6 (Zf (y5 (zB (zM (zH (zC (z6 (z7 ?_))))))))))
  refine Zl 1 ⟨b2, #[.slice A xs.length cap], 25⟩ (off := 0) (.agg #[.slice A xs.length cap]) (Zc (k := 39) (args := #[.agg #[.slice A xs.length cap]]) (.string (mkS t)) (fun w hO => wX (by rw [et]) (gtext_any A cap xs w (hra.inn rfl hO (fun x hx => by simp [hx]) (fun x hx => by simp [hx]) hfine) (ht.on hO.below))) (Zv (.string (mkS t)) (ZN (z6 (ZO (Zv (.string (mkS t)) ?_))))))
  by_cases h5 : (t : List UInt8) = []
  · refine zT (.bool true) (by kernel_rfl) (yY (a := t) (b := ([])) rfl (by kernel_rfl) (by kernel_rfl) (decide_eq_true (h5))) ?_
    refine ZY (ZO (Zv (.agg #[.slice none 0 0]) (Zs 2 ⟨b1, #[.slice none 0 0], 25⟩ (off := 0) (.agg #[.slice none 0 0]) (Zv (.int .i64 6) (ZN (zA (z8 ?_)))))))
    exact ZD 2 ⟨b1, #[.slice none 0 0], 25⟩ (off := 0) (.agg #[.slice none 0 0]) (.int .i64 6) Tryz.results12 (fun w hO => ⟨.agg #[.slice none 0 0], [], by rw [(errG_few hs6 hall (htn (by assumption))).1], by rw [(errG_few hs6 hall (htn (by assumption))).2]; exact RgO.nil, qP hO⟩)
  obtain ⟨hfw, htx⟩ := hty h5
  refine zT (.bool false) (by kernel_rfl) (yY (a := t) (b := ([])) rfl (by kernel_rfl) (by kernel_rfl) (decide_eq_false (h5))) (ZX (ZB (z6 (ZO (Zv (.string (mkS t)) (Zv (.int .i64 ((mkS t).size)) ?_))))))
  by_cases h6 : (96 : Int) < (mkS t).size
  · refine zV (p := (96 : Int) < (mkS t).size) true (by kernel_rfl) (fun _ => by kernel_rfl) (decide_eq_true (h6)) ?_
    refine ZY (ZO (Zv (.agg #[.slice none 0 0]) (Zs 2 ⟨b1, #[.slice none 0 0], 25⟩ (off := 0) (.agg #[.slice none 0 0]) (Zv (.int .i64 3) (ZN (zA (z8 ?_)))))))
    exact ZD 2 ⟨b1, #[.slice none 0 0], 25⟩ (off := 0) (.agg #[.slice none 0 0]) (.int .i64 3) Tryz.results12 (fun w hO => ⟨.agg #[.slice none 0 0], [], by rw [(errG_big hs6 hall hfw (by rw [htx]; omega)).1], by rw [(errG_big hs6 hall hfw (by rw [htx]; omega)).2]; exact RgO.nil, qP hO⟩)
  refine Zd (p := (96 : Int) < (mkS t).size) false (decide_eq_false (h6)) (ZX (ZB (ZO (Zl 1 ⟨b2, #[.slice A xs.length cap], 25⟩ (off := 0) (.agg #[.slice A xs.length cap]) (Zs 2 ⟨b1, #[.slice none 0 0], 25⟩ (off := 0) (.agg #[.slice A xs.length cap]) (Zv (.int .i64 0) (zN ?_)))))))
  exact zC (zA (ZD 2 ⟨b1, #[.slice A xs.length cap], 25⟩ (off := 0) (.agg #[.slice A xs.length cap]) (.int .i64 0) Tryz.results12 (fun w hO => ⟨.agg #[.slice A xs.length cap], o1 ++ o2, by rw [(errG_fine hs6 hall hfw (by rw [htx]; omega)).1], by rw [(errG_fine hs6 hall hfw (by rw [htx]; omega)).2]; exact ⟨xs, _, o1, o2, rfl, rfl, rfl, hra⟩, Own.sub [_, _, _] hO⟩)))
theorem fine_allP (s : List UInt8) : FineR ((x2 s).getD []) := by
  cases h : x2 s with
  | none => exact ⟨Nat.zero_le _, fun a ha => by simp at ha⟩
  | some r =>
    have := fine_get (wF h).1
    rwa [h] at this
theorem own_of {M : List Nat} {W w : World} {x y : Blk} {A B : List Blk} (h : Own M W w (A ++ (x :: (B ++ [y])))) : Own M W w (y :: A) := by
  have h1 : Own M W w (A ++ [y]) := h.sublist (List.Sublist.append (List.Sublist.refl A) ((List.sublist_append_right B [y]).trans (List.sublist_cons_self x _)))
  exact h1.perm List.perm_append_comm
theorem gOf_any (s : List UInt8) (W : World) (hs : s.length ≤ 1000000) (ht : HasLib W) : Calls Tryz.prog 14 #[.string (mkS s)] W fun e w' => ∃ v' ob', e = .returned (.tuple #[v', .int .i64 (kK s)]) ∧ SetO v' (xB ((x2 s).getD [])) ob' ∧ Own [] W w' ob' := by
  refine zQ (n := 14) Tryz.func14 rfl (by kernel_rfl) (by kernel_rfl) (ZO (Za (.agg #[.slice none 0 0, .slice none 0 0]) (fun b1 => Zv (.int .i64 0) (ZR (Zv (.string (mkS s)) (yH (k := 12) (args := #[.string (mkS s)]) (fun v' L' => ∃ ob', L' = ob' ++ ([⟨b1, #[.slice none 0 0, .slice none 0 0], 31⟩]) ∧ ∃ rv, v' = .tuple #[rv, .int .i64 (kK s)] ∧ RgO rv ((x2 s).getD []) ob') (by kernel_rfl) (fun _ => by kernel_rfl) (fun w hO => (wE s w hs (ht.on hO.below)).mono fun e w' ⟨v', ob', k1, k2, k3⟩ => ⟨Value.tuple #[v', .int .i64 (kK s)], _, k1, ⟨ob', rfl, ⟨v', rfl, k2⟩⟩, Own.joinN hO k3⟩) (fun vp Lx1 hvx1 => ?_)))))))
  obtain ⟨op, rfl, hp0⟩ := hvx1
  obtain ⟨rv, rfl, hp⟩ := hp0
  obtain ⟨xs, u, o1, o2, rfl, rfl, hxs, hra⟩ := hp
  obtain ⟨A, cap, rfl⟩ := Sl.form hra.top
  refine Zv (.tuple #[.agg #[.slice A xs.length cap], .int .i64 (kK s)]) (Zv (.agg #[.slice A xs.length cap]) (Zv (.int .i64 (kK s)) (Za (.agg #[.slice none 0 0]) (fun b2 => Zs 0 ⟨b2, #[.slice none 0 0], 25⟩ (off := 0) (.agg #[.slice A xs.length cap]) (Zv (.int .i64 (kK s)) (ZR (Zl 0 ⟨b2, #[.slice A xs.length cap], 25⟩ (off := 0) (.agg #[.slice A xs.length cap]) (yH (k := 23) (args := #[.agg #[.slice A xs.length cap]]) (fun v' L' => ∃ ob', L' = ob' ++ (⟨b2, #[.slice A xs.length cap], 25⟩ :: ((o1 ++ o2) ++ ([⟨b1, #[.slice none 0 0, .slice none 0 0], 31⟩]))) ∧ SetO v' (xB (yM xs)) ob') (by kernel_rfl) (fun _ => by kernel_rfl) (fun w hO => (gSet_any A cap xs w (hra.inn rfl hO (fun x hx => by simp [hx]) (fun x hx => by simp [hx]) (by rw [hxs]; exact fine_allP s)) (ht.on hO.below)).mono fun e w' ⟨v', ob', k1, k2, k3⟩ => ⟨v', _, k1, ⟨ob', rfl, k2⟩, Own.joinN hO k3⟩) (fun vs Lx2 hvx2 => ?_)))))))))
  obtain ⟨oS, rfl, hS⟩ := hvx2
  obtain ⟨VS, US, cS, dS, rfl⟩ := hS.form
  exact Zv (.int .i64 (kK s)) (j5 (L' := ⟨b1, #[.slice none 0 0, .slice none 0 0], 31⟩ :: (oS)) (fun w hO => own_of hO) (Zs 0 ⟨b1, #[.slice none 0 0, .slice none 0 0], 31⟩ (off := 0) (.agg #[.slice VS ((xB (yM xs)).rel.length) cS, .slice US ((xB (yM xs)).pre.length) dS]) (Zv (.int .i64 (kK s)) (ZN (zA (ZD 0 ⟨b1, #[.slice VS ((xB (yM xs)).rel.length) cS, .slice US ((xB (yM xs)).pre.length) dS], 31⟩ (off := 0) (.agg #[.slice VS ((xB (yM xs)).rel.length) cS, .slice US ((xB (yM xs)).pre.length) dS]) (.int .i64 (kK s)) Tryz.results14 (fun w hO => ⟨_, oS, rfl, by rw [← hxs]; exact hS, Own.sub [_] hO⟩)))))))
end
section
open Go.ChangeShapes Go.WideShapes Go.ChangeAt Go.RowKit
theorem own : ownKnob Tryz.prog.godebug = none := by kernel_rfl
theorem mZ {H : Type} {enc : TypeId × Value → H} {P : Program} (hl : laidOutB P = true) {W W' : World} (hb : Below W.heap.size W W') :
    ∀ (ts : List TypeId), (∀ t ∈ ts, P.readableRec t = true ∧ t < P.types.size) → ∀ (vs : List Value) (ds : List (DataW H)) (ps : List MemPlace), DataW.TrodAll enc P W 0 (fun _ => true) true ts vs ds ps → (∀ p ∈ ps, p.block < W.heap.size) →
      DataW.TrodAll enc P W' 0 (fun b => decide (b < W.heap.size)) true ts vs ds ps
  | [], _, vs, ds, ps, h, _ => by
    obtain ⟨rfl, rfl, rfl⟩ := trodAll_nil h
    exact trodAll_mk0
  | t :: ts, hr, vs, ds, ps, h, hlt => by
    obtain ⟨v, vs', d, ds', p, q, rfl, rfl, rfl, hd, hrest⟩ := trodAll_cons h
    exact ⟨p, q, Go.RowKit.Below.trod hl (hr t (by simp)).1 (hr t (by simp)).2 hd hb.old (fun x hx => hlt x (by simp [hx])), mZ hl hb ts (fun t' ht' => hr t' (by simp [ht'])) vs' ds' q hrest (fun x hx => hlt x (by simp [hx])), rfl⟩
theorem law_end {H : Type} {enc : TypeId × Value → H} {P : Program} {f : Func} {s : ChangeSpec} {W W' : World} {args : Array Value} {ds gs : List (DataW H)} {before : List MemPlace} {T : TypeId}
    (hl : laidOutB P = true) (hr : ∀ t ∈ f.params.toList, P.readableRec t = true ∧ t < P.types.size) (hv : s.vars = []) (hT : f.resultTypes = #[T]) (hB : P.underlying T = some .bool)
    (hW : DataW.Whole enc P f.params.toList s.vars false W args.toList ds gs before) (hf : s.fn H (ds ++ gs) = { results := [.lit (.bool true)], args := ds }) (hb : Below W.heap.size W W') :
    s.post enc P f false true false false W args (.bool true) W' := by
  have hlt : ∀ p ∈ before, p.block < W.heap.size := fun p hp => hW.lt p hp
  have hW' := hW
  obtain ⟨p, q, hA, hV, rfl, _, _⟩ := hW
  rw [hv] at hV
  obtain ⟨rfl, rfl⟩ := trodVars_none hV
  have h2 := mZ hl hb _ hr _ _ _ hA (fun x hx => hlt x (by simp [hx]))
  refine ⟨ds, [], p ++ [], [], p, [], hW', ?_, ?_, ?_, World.keptBut_mono (fun x hx => ⟨hx, Or.inr (Or.inl (by simpa using hx))⟩) (hb.frame (· ∈ p ++ [])), fun h => by cases h⟩
  · rw [hf, hT]
    exact trodAll_cons_mk (shut_bool hB true) trodAll_mk0
  · rw [hf]; exact h2
  · rw [hf, hv]; rfl
theorem laidOut : laidOutB Tryz.prog = true := by kernel_rfl
theorem cell_lt {W : World} {a : Addr} {v : Value} (h : W.cell? a = some v) : a.block < W.heap.size := by
  rcases Nat.lt_or_ge a.block W.heap.size with h1 | h1
  · exact h1
  · unfold World.cell? at h
    rw [Array.getElem?_eq_none h1] at h
    simp at h
theorem strCells1 : Tryz.prog.cellsOf 9 = 1 := by kernel_rfl
theorem open_texts {H : Type} {enc : TypeId × Value → H} {W : World} {base : Nat} {v : Value} {d : DataW H} {ps : List MemPlace} (hval : Value.okWide Tryz.prog W .any base 58 v)
    (h : DataW.Trod enc Tryz.prog W 0 (fun _ => true) true 58 v d ps) : ∃ l : List (List UInt8), ReadsT W W.heap.size v l ∧ l.length ≤ maxLen ∧ ∀ x ∈ l, x.length ≤ maxLen := by
  obtain ⟨A, len, cap, rfl⟩ := okWide_slice Tryz.underlying58 hval
  obtain ⟨fuel, hf⟩ := h
  rcases open_strings Tryz.underlying58 Tryz.underlying9 strCells1 hf with ⟨hcs, _⟩ | ⟨a, len', cap', ss, hcs, _, hl, hm, hz, _, hcell, hws⟩
  · simp [Value.cells] at hcs
    obtain ⟨rfl, rfl, rfl⟩ := hcs
    exact ⟨[], ⟨none, 0, rfl, fun h => by cases h⟩, by simp, by simp⟩
  · simp [Value.cells] at hcs
    obtain ⟨rfl, rfl, rfl⟩ := hcs
    simp only [if_true] at hz
    have hlen : ((ss.take len).map (·.data.toList)).length = len := by rw [List.length_map, List.length_take]; omega
    refine ⟨(ss.take len).map (·.data.toList), ⟨some a, cap, by rw [hlen], fun h0 => ⟨a, rfl, ?_, fun j hj => ?_⟩⟩, by rw [hlen]; omega, fun x hx => ?_⟩
    · have := cell_lt (hcell 0 (by omega))
      rwa [fB] at this
    · have hj2 : j < ss.length := by omega
      rw [hcell j hj2, List.getElem_map, List.getElem_take]
      simp only [List.getD, List.getElem?_eq_getElem hj2, Option.getD_some]
      rfl
    · obtain ⟨s, hs, rfl⟩ := List.mem_map.1 hx
      have := hws s (List.mem_of_mem_take hs)
      rw [qV]; exact this
def litCells : DataW Unit → List Value
  | .lit (.int k n) => [Value.int k n]
  | .agg l => l.flatMap fun d => match d with | .lit (.int k n) => [Value.int k n] | _ => []
  | _ => []
def tabCells : DataW Unit → Array Value
  | .agg l => (l.flatMap litCells).toArray
  | _ => #[]
def n9 (h : Array Obj) (g : Nat) (d : DataW Unit) : Array Obj := h.modify g fun
  | .cells _ t frozen => .cells (tabCells d) t frozen
  | o => o
theorem powType : (Tryz.prog.globals[3]?).map (·.type) = some 222 := by kernel_rfl
theorem powNamed : Tryz.prog.globalNamed "internal/strconv.uint64pow10" = some 3 := by kernel_rfl
theorem powCells : Tryz.prog.cellsOf 222 = 20 := by kernel_rfl
theorem u64Cells : Tryz.prog.cellsOf 190 = 1 := by kernel_rfl
theorem hasTab_of {W : World} {l : List (String × DataW Unit)} (h : laidMetH Tryz.prog l W) (e : (l.filter fun x => x.1 == "internal/strconv.uint64pow10") = [("internal/strconv.uint64pow10", Lib.tabData .u64 Lib.pow10Tab)]) : HasTab W := by
  have h2 := h.filter (fun x => x.1 == "internal/strconv.uint64pow10")
  rw [e] at h2
  exact Lib.tabBelow_of_tabIs (Lib.tabIs_of_head (rest := []) powNamed powType Tryz.underlying222 Tryz.underlying190 u64Cells powCells h2)
end
section
theorem tO (s : List UInt8) : FineR ((x2 s).getD []) := by
  cases h : x2 s with
  | none => exact ⟨Nat.zero_le _, fun a ha => by simp at ha⟩
  | some r =>
    have := fine_get (wF h).1
    rwa [h] at this
def aRg : List (List Co) := [[⟨7, 2, ⟨1, 2, 0, [], []⟩⟩, ⟨2, 3, ⟨1, 3, 0, [], []⟩⟩], [⟨8, 1, ⟨2, 0, 0, [], []⟩⟩]]
theorem aG1 : x2 [94, 49, 46, 50, 44, 33, 61, 49, 46, 51, 46, 48, 124, 124, 126, 50] = some aRg := by decide +kernel
theorem aG2 : x2 [94, 49, 46, 50, 44, 32, 33, 61, 49, 46, 51, 46, 48, 32, 124, 124, 32, 126, 50] = some aRg := by decide +kernel
theorem aG3 : kK [94, 49, 46, 50, 44] = 6 := by decide +kernel
theorem aMay7 : rgMay aRg = true := by decide +kernel
theorem aPr7 : jT aRg = [94, 49, 46, 50, 44, 32, 33, 61, 49, 46, 51, 46, 48, 32, 124, 124, 32, 126, 50] := by decide +kernel
theorem aHas1 : gS (xB aRg) ⟨2, 9, 0, [], []⟩ = true := by rw [rgSet_has aMay7 (by decide +kernel)]; decide +kernel
theorem aHas2 : gS (xB aRg) ⟨1, 3, 0, [], []⟩ = false := by rw [rgSet_has aMay7 (by decide +kernel)]; decide +kernel
theorem aD1 : (x2 [94, 49, 46, 50, 44, 33, 61, 49, 46, 51, 46, 48, 124, 124, 126, 50]).getD [] = aRg := by rw [aG1]; rfl
theorem aD2 : (x2 [94, 49, 46, 50, 44, 32, 33, 61, 49, 46, 51, 46, 48, 32, 124, 124, 32, 126, 50]).getD [] = aRg := by rw [aG2]; rfl
theorem awake7_any (W : World) (ht : HasLib W) : Calls Tryz.prog 11 #[] W fun e w' => e = .returned (.bool true) ∧ Below W.heap.size W w' := by
  refine zQ (n := 45) Tryz.func11 rfl (by kernel_rfl) (by kernel_rfl) (ZO (Zv (.bool false) (ZR (yH (k := 12) (args := #[.string ⟨#[94, 49, 46, 50, 44, 33, 61, 49, 46, 51, 46, 48, 124, 124, 126, 50]⟩]) (fun v' L' => ∃ sv ob', v' = .tuple #[sv, .int .i64 0] ∧ L' = ob' ++ ([]) ∧ RgO sv (aRg) ob') (by kernel_rfl) (fun _ => by kernel_rfl) (fun w hO => (wE ([94, 49, 46, 50, 44, 33, 61, 49, 46, 51, 46, 48, 124, 124, 126, 50]) w (by decide) (ht.on hO.below)).mono fun e w' ⟨v', ob', k1, k2, k3⟩ => ⟨.tuple #[v', .int .i64 0], _, k1.trans (by rw [show kK ([94, 49, 46, 50, 44, 33, 61, 49, 46, 51, 46, 48, 124, 124, 126, 50]) = 0 from (wF aG1).1]), ⟨v', ob', rfl, rfl, by rw [show (x2 ([94, 49, 46, 50, 44, 33, 61, 49, 46, 51, 46, 48, 124, 124, 126, 50])).getD [] = aRg from aD1] at k2; exact k2⟩, Own.joinN hO k3⟩) (fun tv L1 hv1 => ?_)))))
  obtain ⟨sv1, o1, rfl, rfl, hr1⟩ := hv1
  obtain ⟨xs1, u1, p1, q1, rfl, rfl, hx1, ha1⟩ := hr1
  obtain ⟨A1, c1, rfl⟩ := Sl.form ha1.top
  refine k8 (L' := p1 ++ q1) (List.append_nil _) (Zv (.tuple #[.agg #[.slice A1 xs1.length c1], .int .i64 0]) (Zv (.agg #[.slice A1 xs1.length c1]) (Zv (.int .i64 0) (Za (.agg #[.slice none 0 0]) (fun b1 => Zs 0 ⟨b1, #[.slice none 0 0], 25⟩ (off := 0) (.agg #[.slice A1 xs1.length c1]) (Zv (.int .i64 0) (ZR (yH (k := 14) (args := #[.string ⟨#[94, 49, 46, 50, 44, 32, 33, 61, 49, 46, 51, 46, 48, 32, 124, 124, 32, 126, 50]⟩]) (fun v' L' => ∃ sv ob', v' = .tuple #[sv, .int .i64 0] ∧ L' = ob' ++ (⟨b1, #[.slice A1 xs1.length c1], 25⟩ :: ((p1 ++ q1))) ∧ SetO sv (xB (aRg)) ob') (by kernel_rfl) (fun _ => by kernel_rfl) (fun w hO => (gOf_any ([94, 49, 46, 50, 44, 32, 33, 61, 49, 46, 51, 46, 48, 32, 124, 124, 32, 126, 50]) w (by decide) (ht.on hO.below)).mono fun e w' ⟨v', ob', k1, k2, k3⟩ => ⟨.tuple #[v', .int .i64 0], _, k1.trans (by rw [show kK ([94, 49, 46, 50, 44, 32, 33, 61, 49, 46, 51, 46, 48, 32, 124, 124, 32, 126, 50]) = 0 from (wF aG2).1]), ⟨v', ob', rfl, rfl, by rw [show (x2 ([94, 49, 46, 50, 44, 32, 33, 61, 49, 46, 51, 46, 48, 32, 124, 124, 32, 126, 50])).getD [] = aRg from aD2] at k2; exact k2⟩, Own.joinN hO k3⟩) (fun tv L2 hv2 => ?_)))))))))
  obtain ⟨sv2, o2, rfl, rfl, hr2⟩ := hv2
  obtain ⟨V2, U2, c2, d2, rfl⟩ := hr2.form
  refine Zv (.tuple #[.agg #[.slice V2 ((xB (aRg)).rel.length) c2, .slice U2 ((xB (aRg)).pre.length) d2], .int .i64 0]) (Zv (.agg #[.slice V2 ((xB (aRg)).rel.length) c2, .slice U2 ((xB (aRg)).pre.length) d2]) (Zv (.int .i64 0) (Za (.agg #[.slice none 0 0, .slice none 0 0]) (fun b2 => Zs 0 ⟨b2, #[.slice none 0 0, .slice none 0 0], 31⟩ (off := 0) (.agg #[.slice V2 ((xB (aRg)).rel.length) c2, .slice U2 ((xB (aRg)).pre.length) d2]) (Zv (.int .i64 0) (ZR (yH (k := 12) (args := #[.string ⟨#[94, 49, 46, 50, 44]⟩]) (fun v' L' => ∃ sv ob', v' = .tuple #[sv, .int .i64 6] ∧ L' = ob' ++ (⟨b2, #[.slice V2 ((xB (aRg)).rel.length) c2, .slice U2 ((xB (aRg)).pre.length) d2], 31⟩ :: (o2 ++ (⟨b1, #[.slice A1 xs1.length c1], 25⟩ :: ((p1 ++ q1))))) ∧ RgO sv ((x2 [94, 49, 46, 50, 44]).getD []) ob') (by kernel_rfl) (fun _ => by kernel_rfl) (fun w hO => (wE ([94, 49, 46, 50, 44]) w (by decide) (ht.on hO.below)).mono fun e w' ⟨v', ob', k1, k2, k3⟩ => ⟨.tuple #[v', .int .i64 6], _, k1.trans (by rw [show kK ([94, 49, 46, 50, 44]) = 6 from aG3]), ⟨v', ob', rfl, rfl, by rw [show (x2 ([94, 49, 46, 50, 44])).getD [] = (x2 [94, 49, 46, 50, 44]).getD [] from rfl] at k2; exact k2⟩, Own.joinN hO k3⟩) (fun tv L3 hv3 => ?_))))))))
  obtain ⟨sv3, o3, rfl, rfl, hr3⟩ := hv3
  obtain ⟨xs3, u3, p3, q3, rfl, rfl, hx3, ha3⟩ := hr3
  obtain ⟨A3, c3, rfl⟩ := Sl.form ha3.top
  refine Zv (.tuple #[.agg #[.slice A3 xs3.length c3], .int .i64 6]) (Zv (.agg #[.slice A3 xs3.length c3]) (Zv (.int .i64 6) (Za (.agg #[.slice none 0 0]) (fun b3 => Zs 0 ⟨b3, #[.slice none 0 0], 25⟩ (off := 0) (.agg #[.slice A3 xs3.length c3]) (Zv (.int .i64 6) (ZR (Zv (.int .i64 0) (Zv (.bool true) ?_))))))))
  refine Zv (.bool true) (Zv (.int .i64 0) (Zv (.bool true) (Zv (.bool true) (Zv (.bool true) (uK ⟨b1, #[.slice A1 xs1.length c1], 25⟩ (off := 0) (.agg #[.slice A1 xs1.length c1]) (by kernel_rfl) rfl (by simp) (by kernel_rfl) (by kernel_rfl) (Zc (k := 21) (args := #[.agg #[.slice A1 xs1.length c1]]) (.string (mkS [94, 49, 46, 50, 44, 32, 33, 61, 49, 46, 51, 46, 48, 32, 124, 124, 32, 126, 50])) (fun w hO => wX (by rw [hx1, aPr7]) (pE A1 c1 xs1 w (RgA.inn ha1 rfl hO (fun x hx => by simp [hx]) (fun x hx => by simp [hx]) (by rw [hx1]; exact (aD1 ▸ tO ([94, 49, 46, 50, 44, 33, 61, 49, 46, 51, 46, 48, 124, 124, 126, 50])))) (ht.on hO.below))) (zT (.bool true) (by kernel_rfl) (yY (a := ([94, 49, 46, 50, 44, 32, 33, 61, 49, 46, 51, 46, 48, 32, 124, 124, 32, 126, 50])) (b := ([94, 49, 46, 50, 44, 32, 33, 61, 49, 46, 51, 46, 48, 32, 124, 124, 32, 126, 50])) rfl (by kernel_rfl) (by kernel_rfl) (decide_eq_true (rfl))) (Zv (.bool true) (Zv (.bool true) (Zv (.int .i64 6) (Zv (.bool true) ?_)))))))))))
  refine Zv (.bool true) (Zv (.bool true) (uK ⟨b2, #[.slice V2 ((xB (aRg)).rel.length) c2, .slice U2 ((xB (aRg)).pre.length) d2], 31⟩ (off := 0) (.agg #[.slice V2 ((xB (aRg)).rel.length) c2, .slice U2 ((xB (aRg)).pre.length) d2]) (by kernel_rfl) rfl (by simp) (by kernel_rfl) (by kernel_rfl) (Zv (.agg #[.int .i64 2, .int .i64 9, .int .i64 0, .string ⟨#[]⟩, .string ⟨#[]⟩]) (Zc (k := 30) (args := #[.agg #[.slice V2 ((xB (aRg)).rel.length) c2, .slice U2 ((xB (aRg)).pre.length) d2], .agg #[.int .i64 2, .int .i64 9, .int .i64 0, .string ⟨#[]⟩, .string ⟨#[]⟩]]) (.bool true) (fun w hO => ret_b (aHas1) (rsetHas_any V2 U2 c2 d2 (xB (aRg)) ⟨2, 9, 0, [], []⟩ w (SetO.inn hr2 hO (fun x hx => by simp [hx]) ((tA (aRg))) (by decide)) ⟨by decide, by decide⟩)) (Zv (.bool true) (Zv (.bool true) (uK ⟨b2, #[.slice V2 ((xB (aRg)).rel.length) c2, .slice U2 ((xB (aRg)).pre.length) d2], 31⟩ (off := 0) (.agg #[.slice V2 ((xB (aRg)).rel.length) c2, .slice U2 ((xB (aRg)).pre.length) d2]) (by kernel_rfl) rfl (by simp) (by kernel_rfl) (by kernel_rfl) (Zv (.agg #[.int .i64 1, .int .i64 3, .int .i64 0, .string ⟨#[]⟩, .string ⟨#[]⟩]) (Zc (k := 30) (args := #[.agg #[.slice V2 ((xB (aRg)).rel.length) c2, .slice U2 ((xB (aRg)).pre.length) d2], .agg #[.int .i64 1, .int .i64 3, .int .i64 0, .string ⟨#[]⟩, .string ⟨#[]⟩]]) (.bool false) (fun w hO => ret_b (aHas2) (rsetHas_any V2 U2 c2 d2 (xB (aRg)) ⟨1, 3, 0, [], []⟩ w (SetO.inn hr2 hO (fun x hx => by simp [hx]) ((tA (aRg))) (by decide)) ⟨by decide, by decide⟩)) (Zv (.bool true) (Zv (.bool true) ?_)))))))))))
  exact Zv (.bool true) (ZN (zA (ZF (.bool true) Tryz.results11 (fun w hO => ⟨rfl, hO.below⟩))))
end
section
theorem genCo_any (v : Value) (l : List Int) (i : Nat) (W : World) (hv : ReadsI W W.heap.size v l) (hl : l.length ≤ 9223372036854775807) (hi : i ≤ 100000) :
    Calls Tryz.prog 31 #[v, .int .i64 (i : Int)] W fun e w' => e = .returned (coV (xN l i)) ∧ Below W.heap.size W w' := by
  obtain ⟨k5, e5, q5⟩ := j9 (atL l (i + 5)) 9 (by omega)
  have f5 := uO hv hl (i + 5) 9 (by omega) (by omega) (by omega) e5
  obtain ⟨k6, e6, q6⟩ := j9 (atL l (i + 6)) 3 (by omega)
  have f6 := uO hv hl (i + 6) 3 (by omega) (by omega) (by omega) e6
  have hk6 : k6 = 0 ∨ k6 = 1 ∨ k6 = 2 := by omega
  rcases hk6 with rfl | rfl | rfl
  · refine zQ (n := 47) Tryz.func31 rfl (by kernel_rfl) (by kernel_rfl) ?_
    refine ZO (Za (.agg #[.int .i64 0, .int .i64 0, .int .i64 0, .int .i64 0, .int .i64 0, .string ⟨#[]⟩, .string ⟨#[]⟩]) (fun b1 => ZR (Zv (v) (Zv (.int .i64 ((i : Nat) : Int)) (Zu (k := .i64) (((i + 5 : Nat) : Int)) (IntWalk.i64_in _ (by omega)) (Zc (k := 51) (args := #[v, .int .i64 ((i + 5 : Nat) : Int), .int .i64 9]) (.int .i64 (k5 : Int)) (fun w hO => f5 w hO.below) (Zu (k := .i64) ((1 : Int) + (k5 : Int)) (IntWalk.i64_in _ (by omega)) ?_)))))))
    refine Zv (v) (Zv (.int .i64 ((i : Nat) : Int)) (Zu (k := .i64) (((i + 6 : Nat) : Int)) (IntWalk.i64_in _ (by omega)) (Zc (k := 51) (args := #[v, .int .i64 ((i + 6 : Nat) : Int), .int .i64 3]) (.int .i64 0) (fun w hO => f6 w hO.below) (Zv (.int .i64 1) (Zv (v) (Zv (.int .i64 ((i : Nat) : Int)) (Zc (k := 26) (args := #[v, .int .i64 ((i : Nat) : Int)]) (yF (zL l i)) (fun w hO => gen_any v l i w ((hv.below hO.below).more hO.below.size) hl (by omega)) (Zv (.agg #[.int .i64 ((1 : Int) + (k5 : Int)), .int .i64 1, .int .i64 ((zL l i).maj), .int .i64 ((zL l i).min), .int .i64 ((zL l i).pat), .string (mkS (zL l i).pre), .string (mkS (zL l i).build)]) (Za (.agg #[.int .i64 0, .int .i64 0, .int .i64 0, .int .i64 0, .int .i64 0, .string ⟨#[]⟩, .string ⟨#[]⟩]) (fun b2 => Zs 0 ⟨b2, #[.int .i64 0, .int .i64 0, .int .i64 0, .int .i64 0, .int .i64 0, .string ⟨#[]⟩, .string ⟨#[]⟩], 51⟩ (off := 0) (.agg #[.int .i64 ((1 : Int) + (k5 : Int)), .int .i64 1, .int .i64 ((zL l i).maj), .int .i64 ((zL l i).min), .int .i64 ((zL l i).pat), .string (mkS (zL l i).pre), .string (mkS (zL l i).build)]) (zN ?_)))))))))))
    refine zC (z6 (ZO (Zv (.pointer (some ⟨b2, 0, none⟩)) (Zl 0 ⟨b2, #[.int .i64 ((1 : Int) + (k5 : Int)), .int .i64 1, .int .i64 ((zL l i).maj), .int .i64 ((zL l i).min), .int .i64 ((zL l i).pat), .string (mkS (zL l i).pre), .string (mkS (zL l i).build)], 51⟩ (off := 0) (.int .i64 ((1 : Int) + (k5 : Int))) ?_))))
    by_cases h1 : ((1 : Int) + (k5 : Int) : Int) = 9
    · refine zV (p := ((1 : Int) + (k5 : Int) : Int) = 9) true (by kernel_rfl) (fun _ => by kernel_rfl) (decide_eq_true (h1)) ?_
      refine ZY (z7 (Zv (.pointer (some ⟨b2, 1, none⟩)) (Zl 0 ⟨b2, #[.int .i64 ((1 : Int) + (k5 : Int)), .int .i64 1, .int .i64 ((zL l i).maj), .int .i64 ((zL l i).min), .int .i64 ((zL l i).pat), .string (mkS (zL l i).pre), .string (mkS (zL l i).build)], 51⟩ (off := 1) (.int .i64 1) (Zv (.int .i64 0) (Zv (.pointer (some ⟨b2, 1, none⟩)) (Zs 0 ⟨b2, #[.int .i64 ((1 : Int) + (k5 : Int)), .int .i64 1, .int .i64 ((zL l i).maj), .int .i64 ((zL l i).min), .int .i64 ((zL l i).pat), .string (mkS (zL l i).pre), .string (mkS (zL l i).build)], 51⟩ (off := 1) (.int .i64 0) (ZN (z6 ?_))))))))
      refine z7 (Zv (.pointer (some ⟨b2, 2, none⟩)) (Zv (.pointer (some ⟨b2, 6, none⟩)) (Zs 0 ⟨b2, #[.int .i64 ((1 : Int) + (k5 : Int)), .int .i64 0, .int .i64 ((zL l i).maj), .int .i64 ((zL l i).min), .int .i64 ((zL l i).pat), .string (mkS (zL l i).pre), .string (mkS (zL l i).build)], 51⟩ (off := 6) (.string ⟨#[]⟩) (ZN (z6 (ZO (Zv (.pointer (some ⟨b2, 1, none⟩)) (Zl 0 ⟨b2, #[.int .i64 ((1 : Int) + (k5 : Int)), .int .i64 0, .int .i64 ((zL l i).maj), .int .i64 ((zL l i).min), .int .i64 ((zL l i).pat), .string (mkS (zL l i).pre), .string ⟨#[]⟩], 51⟩ (off := 1) (.int .i64 0) (Zv (.bool true) ?_)))))))))
      refine ZY (ZO (Zv (.pointer (some ⟨b2, 2, none⟩)) (Zv (.pointer (some ⟨b2, 5, none⟩)) (Zs 0 ⟨b2, #[.int .i64 ((1 : Int) + (k5 : Int)), .int .i64 0, .int .i64 ((zL l i).maj), .int .i64 ((zL l i).min), .int .i64 ((zL l i).pat), .string (mkS (zL l i).pre), .string ⟨#[]⟩], 51⟩ (off := 5) (.string ⟨#[]⟩) (ZN (z7 (Zv (.pointer (some ⟨b2, 2, none⟩)) ?_)))))))
      refine Zv (.pointer (some ⟨b2, 4, none⟩)) (Zs 0 ⟨b2, #[.int .i64 ((1 : Int) + (k5 : Int)), .int .i64 0, .int .i64 ((zL l i).maj), .int .i64 ((zL l i).min), .int .i64 ((zL l i).pat), .string ⟨#[]⟩, .string ⟨#[]⟩], 51⟩ (off := 4) (.int .i64 0) (ZN (z6 (ZO (Zv (.pointer (some ⟨b2, 1, none⟩)) (Zl 0 ⟨b2, #[.int .i64 ((1 : Int) + (k5 : Int)), .int .i64 0, .int .i64 ((zL l i).maj), .int .i64 ((zL l i).min), .int .i64 0, .string ⟨#[]⟩, .string ⟨#[]⟩], 51⟩ (off := 1) (.int .i64 0) (Zv (.bool true) (zN (zC ?_)))))))))
      refine Zt (z7 (Zv (.pointer (some ⟨b2, 2, none⟩)) (Zv (.pointer (some ⟨b2, 3, none⟩)) (Zs 0 ⟨b2, #[.int .i64 ((1 : Int) + (k5 : Int)), .int .i64 0, .int .i64 ((zL l i).maj), .int .i64 ((zL l i).min), .int .i64 0, .string ⟨#[]⟩, .string ⟨#[]⟩], 51⟩ (off := 3) (.int .i64 0) (ZN (z6 (ZO (Zv (.pointer (some ⟨b2, 1, none⟩)) (Zl 0 ⟨b2, #[.int .i64 ((1 : Int) + (k5 : Int)), .int .i64 0, .int .i64 ((zL l i).maj), .int .i64 0, .int .i64 0, .string ⟨#[]⟩, .string ⟨#[]⟩], 51⟩ (off := 1) (.int .i64 0) ?_)))))))))
      refine Zv (.bool true) (ZY (z7 (Zv (.pointer (some ⟨b2, 2, none⟩)) (Zv (.pointer (some ⟨b2, 2, none⟩)) (Zs 0 ⟨b2, #[.int .i64 ((1 : Int) + (k5 : Int)), .int .i64 0, .int .i64 ((zL l i).maj), .int .i64 0, .int .i64 0, .string ⟨#[]⟩, .string ⟨#[]⟩], 51⟩ (off := 2) (.int .i64 0) (ZN (z6 (z7 ?_))))))))
      exact Zl 0 ⟨b2, #[.int .i64 ((1 : Int) + (k5 : Int)), .int .i64 0, .int .i64 0, .int .i64 0, .int .i64 0, .string ⟨#[]⟩, .string ⟨#[]⟩], 51⟩ (off := 0) (.agg #[.int .i64 ((1 : Int) + (k5 : Int)), .int .i64 0, .int .i64 0, .int .i64 0, .int .i64 0, .string ⟨#[]⟩, .string ⟨#[]⟩]) (Zs 1 ⟨b1, #[.int .i64 0, .int .i64 0, .int .i64 0, .int .i64 0, .int .i64 0, .string ⟨#[]⟩, .string ⟨#[]⟩], 51⟩ (off := 0) (.agg #[.int .i64 ((1 : Int) + (k5 : Int)), .int .i64 0, .int .i64 0, .int .i64 0, .int .i64 0, .string ⟨#[]⟩, .string ⟨#[]⟩]) (ZN (zA (ZC 1 ⟨b1, #[.int .i64 ((1 : Int) + (k5 : Int)), .int .i64 0, .int .i64 0, .int .i64 0, .int .i64 0, .string ⟨#[]⟩, .string ⟨#[]⟩], 51⟩ (off := 0) (.agg #[.int .i64 ((1 : Int) + (k5 : Int)), .int .i64 0, .int .i64 0, .int .i64 0, .int .i64 0, .string ⟨#[]⟩, .string ⟨#[]⟩]) Tryz.results31 (fun w hO => ⟨by rw [show coV (xN l i) = .agg #[.int .i64 ((1 : Int) + (k5 : Int)), .int .i64 0, .int .i64 0, .int .i64 0, .int .i64 0, .string ⟨#[]⟩, .string ⟨#[]⟩] from by unfold xN wP coV; rw [show plc (atL l (i + 5)) 9 = _ from e5, show plc (atL l (i + 6)) 3 = _ from e6]; simp [h1]; try rfl], hO.below⟩)))))
    refine Zd (p := ((1 : Int) + (k5 : Int) : Int) = 9) false (decide_eq_false (h1)) (ZX (ZB (ZO (Zv (.pointer (some ⟨b2, 2, none⟩)) (Zv (.pointer (some ⟨b2, 6, none⟩)) (Zs 0 ⟨b2, #[.int .i64 ((1 : Int) + (k5 : Int)), .int .i64 1, .int .i64 ((zL l i).maj), .int .i64 ((zL l i).min), .int .i64 ((zL l i).pat), .string (mkS (zL l i).pre), .string (mkS (zL l i).build)], 51⟩ (off := 6) (.string ⟨#[]⟩) (zN ?_)))))))
    refine zC (z6 (ZO (Zv (.pointer (some ⟨b2, 1, none⟩)) (Zl 0 ⟨b2, #[.int .i64 ((1 : Int) + (k5 : Int)), .int .i64 1, .int .i64 ((zL l i).maj), .int .i64 ((zL l i).min), .int .i64 ((zL l i).pat), .string (mkS (zL l i).pre), .string ⟨#[]⟩], 51⟩ (off := 1) (.int .i64 1) (Zv (.bool true) (ZY (z6 (z7 ?_))))))))
    refine Zv (.pointer (some ⟨b2, 2, none⟩)) (Zv (.pointer (some ⟨b2, 5, none⟩)) (Zs 0 ⟨b2, #[.int .i64 ((1 : Int) + (k5 : Int)), .int .i64 1, .int .i64 ((zL l i).maj), .int .i64 ((zL l i).min), .int .i64 ((zL l i).pat), .string (mkS (zL l i).pre), .string ⟨#[]⟩], 51⟩ (off := 5) (.string ⟨#[]⟩) (ZN (z7 (Zv (.pointer (some ⟨b2, 2, none⟩)) (Zv (.pointer (some ⟨b2, 4, none⟩)) (Zs 0 ⟨b2, #[.int .i64 ((1 : Int) + (k5 : Int)), .int .i64 1, .int .i64 ((zL l i).maj), .int .i64 ((zL l i).min), .int .i64 ((zL l i).pat), .string ⟨#[]⟩, .string ⟨#[]⟩], 51⟩ (off := 4) (.int .i64 0) (ZN (z6 ?_)))))))))
    refine ZO (Zv (.pointer (some ⟨b2, 1, none⟩)) (Zl 0 ⟨b2, #[.int .i64 ((1 : Int) + (k5 : Int)), .int .i64 1, .int .i64 ((zL l i).maj), .int .i64 ((zL l i).min), .int .i64 0, .string ⟨#[]⟩, .string ⟨#[]⟩], 51⟩ (off := 1) (.int .i64 1) (Zv (.bool true) (ZY (z7 (Zv (.pointer (some ⟨b2, 2, none⟩)) (Zv (.pointer (some ⟨b2, 3, none⟩)) (Zs 0 ⟨b2, #[.int .i64 ((1 : Int) + (k5 : Int)), .int .i64 1, .int .i64 ((zL l i).maj), .int .i64 ((zL l i).min), .int .i64 0, .string ⟨#[]⟩, .string ⟨#[]⟩], 51⟩ (off := 3) (.int .i64 0) ?_))))))))
    refine ZN (z6 (ZO (Zv (.pointer (some ⟨b2, 1, none⟩)) (Zl 0 ⟨b2, #[.int .i64 ((1 : Int) + (k5 : Int)), .int .i64 1, .int .i64 ((zL l i).maj), .int .i64 0, .int .i64 0, .string ⟨#[]⟩, .string ⟨#[]⟩], 51⟩ (off := 1) (.int .i64 1) (Zv (.bool false) (ZX (x4 ?_)))))))
    exact zC (ZO (Zl 0 ⟨b2, #[.int .i64 ((1 : Int) + (k5 : Int)), .int .i64 1, .int .i64 ((zL l i).maj), .int .i64 0, .int .i64 0, .string ⟨#[]⟩, .string ⟨#[]⟩], 51⟩ (off := 0) (.agg #[.int .i64 ((1 : Int) + (k5 : Int)), .int .i64 1, .int .i64 ((zL l i).maj), .int .i64 0, .int .i64 0, .string ⟨#[]⟩, .string ⟨#[]⟩]) (Zs 1 ⟨b1, #[.int .i64 0, .int .i64 0, .int .i64 0, .int .i64 0, .int .i64 0, .string ⟨#[]⟩, .string ⟨#[]⟩], 51⟩ (off := 0) (.agg #[.int .i64 ((1 : Int) + (k5 : Int)), .int .i64 1, .int .i64 ((zL l i).maj), .int .i64 0, .int .i64 0, .string ⟨#[]⟩, .string ⟨#[]⟩]) (ZN (zA (ZC 1 ⟨b1, #[.int .i64 ((1 : Int) + (k5 : Int)), .int .i64 1, .int .i64 ((zL l i).maj), .int .i64 0, .int .i64 0, .string ⟨#[]⟩, .string ⟨#[]⟩], 51⟩ (off := 0) (.agg #[.int .i64 ((1 : Int) + (k5 : Int)), .int .i64 1, .int .i64 ((zL l i).maj), .int .i64 0, .int .i64 0, .string ⟨#[]⟩, .string ⟨#[]⟩]) Tryz.results31 (fun w hO => ⟨by rw [show coV (xN l i) = .agg #[.int .i64 ((1 : Int) + (k5 : Int)), .int .i64 1, .int .i64 ((zL l i).maj), .int .i64 0, .int .i64 0, .string ⟨#[]⟩, .string ⟨#[]⟩] from by unfold xN wP coV; rw [show plc (atL l (i + 5)) 9 = _ from e5, show plc (atL l (i + 6)) 3 = _ from e6]; simp [h1]; try rfl], hO.below⟩)))))))
  · refine zQ (n := 47) Tryz.func31 rfl (by kernel_rfl) (by kernel_rfl) ?_
    refine ZO (Za (.agg #[.int .i64 0, .int .i64 0, .int .i64 0, .int .i64 0, .int .i64 0, .string ⟨#[]⟩, .string ⟨#[]⟩]) (fun b1 => ZR (Zv (v) (Zv (.int .i64 ((i : Nat) : Int)) (Zu (k := .i64) (((i + 5 : Nat) : Int)) (IntWalk.i64_in _ (by omega)) (Zc (k := 51) (args := #[v, .int .i64 ((i + 5 : Nat) : Int), .int .i64 9]) (.int .i64 (k5 : Int)) (fun w hO => f5 w hO.below) (Zu (k := .i64) ((1 : Int) + (k5 : Int)) (IntWalk.i64_in _ (by omega)) ?_)))))))
    refine Zv (v) (Zv (.int .i64 ((i : Nat) : Int)) (Zu (k := .i64) (((i + 6 : Nat) : Int)) (IntWalk.i64_in _ (by omega)) (Zc (k := 51) (args := #[v, .int .i64 ((i + 6 : Nat) : Int), .int .i64 3]) (.int .i64 1) (fun w hO => f6 w hO.below) (Zv (.int .i64 2) (Zv (v) (Zv (.int .i64 ((i : Nat) : Int)) (Zc (k := 26) (args := #[v, .int .i64 ((i : Nat) : Int)]) (yF (zL l i)) (fun w hO => gen_any v l i w ((hv.below hO.below).more hO.below.size) hl (by omega)) (Zv (.agg #[.int .i64 ((1 : Int) + (k5 : Int)), .int .i64 2, .int .i64 ((zL l i).maj), .int .i64 ((zL l i).min), .int .i64 ((zL l i).pat), .string (mkS (zL l i).pre), .string (mkS (zL l i).build)]) (Za (.agg #[.int .i64 0, .int .i64 0, .int .i64 0, .int .i64 0, .int .i64 0, .string ⟨#[]⟩, .string ⟨#[]⟩]) (fun b2 => Zs 0 ⟨b2, #[.int .i64 0, .int .i64 0, .int .i64 0, .int .i64 0, .int .i64 0, .string ⟨#[]⟩, .string ⟨#[]⟩], 51⟩ (off := 0) (.agg #[.int .i64 ((1 : Int) + (k5 : Int)), .int .i64 2, .int .i64 ((zL l i).maj), .int .i64 ((zL l i).min), .int .i64 ((zL l i).pat), .string (mkS (zL l i).pre), .string (mkS (zL l i).build)]) (zN ?_)))))))))))
    refine zC (z6 (ZO (Zv (.pointer (some ⟨b2, 0, none⟩)) (Zl 0 ⟨b2, #[.int .i64 ((1 : Int) + (k5 : Int)), .int .i64 2, .int .i64 ((zL l i).maj), .int .i64 ((zL l i).min), .int .i64 ((zL l i).pat), .string (mkS (zL l i).pre), .string (mkS (zL l i).build)], 51⟩ (off := 0) (.int .i64 ((1 : Int) + (k5 : Int))) ?_))))
    by_cases h1 : ((1 : Int) + (k5 : Int) : Int) = 9
    · refine zV (p := ((1 : Int) + (k5 : Int) : Int) = 9) true (by kernel_rfl) (fun _ => by kernel_rfl) (decide_eq_true (h1)) ?_
      refine ZY (z7 (Zv (.pointer (some ⟨b2, 1, none⟩)) (Zl 0 ⟨b2, #[.int .i64 ((1 : Int) + (k5 : Int)), .int .i64 2, .int .i64 ((zL l i).maj), .int .i64 ((zL l i).min), .int .i64 ((zL l i).pat), .string (mkS (zL l i).pre), .string (mkS (zL l i).build)], 51⟩ (off := 1) (.int .i64 2) (Zv (.int .i64 1) (Zv (.pointer (some ⟨b2, 1, none⟩)) (Zs 0 ⟨b2, #[.int .i64 ((1 : Int) + (k5 : Int)), .int .i64 2, .int .i64 ((zL l i).maj), .int .i64 ((zL l i).min), .int .i64 ((zL l i).pat), .string (mkS (zL l i).pre), .string (mkS (zL l i).build)], 51⟩ (off := 1) (.int .i64 1) (ZN (z6 ?_))))))))
      refine z7 (Zv (.pointer (some ⟨b2, 2, none⟩)) (Zv (.pointer (some ⟨b2, 6, none⟩)) (Zs 0 ⟨b2, #[.int .i64 ((1 : Int) + (k5 : Int)), .int .i64 1, .int .i64 ((zL l i).maj), .int .i64 ((zL l i).min), .int .i64 ((zL l i).pat), .string (mkS (zL l i).pre), .string (mkS (zL l i).build)], 51⟩ (off := 6) (.string ⟨#[]⟩) (ZN (z6 (ZO (Zv (.pointer (some ⟨b2, 1, none⟩)) (Zl 0 ⟨b2, #[.int .i64 ((1 : Int) + (k5 : Int)), .int .i64 1, .int .i64 ((zL l i).maj), .int .i64 ((zL l i).min), .int .i64 ((zL l i).pat), .string (mkS (zL l i).pre), .string ⟨#[]⟩], 51⟩ (off := 1) (.int .i64 1) (Zv (.bool true) ?_)))))))))
      refine ZY (ZO (Zv (.pointer (some ⟨b2, 2, none⟩)) (Zv (.pointer (some ⟨b2, 5, none⟩)) (Zs 0 ⟨b2, #[.int .i64 ((1 : Int) + (k5 : Int)), .int .i64 1, .int .i64 ((zL l i).maj), .int .i64 ((zL l i).min), .int .i64 ((zL l i).pat), .string (mkS (zL l i).pre), .string ⟨#[]⟩], 51⟩ (off := 5) (.string ⟨#[]⟩) (ZN (z7 (Zv (.pointer (some ⟨b2, 2, none⟩)) ?_)))))))
      refine Zv (.pointer (some ⟨b2, 4, none⟩)) (Zs 0 ⟨b2, #[.int .i64 ((1 : Int) + (k5 : Int)), .int .i64 1, .int .i64 ((zL l i).maj), .int .i64 ((zL l i).min), .int .i64 ((zL l i).pat), .string ⟨#[]⟩, .string ⟨#[]⟩], 51⟩ (off := 4) (.int .i64 0) (ZN (z6 (ZO (Zv (.pointer (some ⟨b2, 1, none⟩)) (Zl 0 ⟨b2, #[.int .i64 ((1 : Int) + (k5 : Int)), .int .i64 1, .int .i64 ((zL l i).maj), .int .i64 ((zL l i).min), .int .i64 0, .string ⟨#[]⟩, .string ⟨#[]⟩], 51⟩ (off := 1) (.int .i64 1) (Zv (.bool true) (zN (zC ?_)))))))))
      refine Zt (z7 (Zv (.pointer (some ⟨b2, 2, none⟩)) (Zv (.pointer (some ⟨b2, 3, none⟩)) (Zs 0 ⟨b2, #[.int .i64 ((1 : Int) + (k5 : Int)), .int .i64 1, .int .i64 ((zL l i).maj), .int .i64 ((zL l i).min), .int .i64 0, .string ⟨#[]⟩, .string ⟨#[]⟩], 51⟩ (off := 3) (.int .i64 0) (ZN (z6 (ZO (Zv (.pointer (some ⟨b2, 1, none⟩)) (Zl 0 ⟨b2, #[.int .i64 ((1 : Int) + (k5 : Int)), .int .i64 1, .int .i64 ((zL l i).maj), .int .i64 0, .int .i64 0, .string ⟨#[]⟩, .string ⟨#[]⟩], 51⟩ (off := 1) (.int .i64 1) ?_)))))))))
      refine Zv (.bool false) (ZX (ZB (ZO (Zl 0 ⟨b2, #[.int .i64 ((1 : Int) + (k5 : Int)), .int .i64 1, .int .i64 ((zL l i).maj), .int .i64 0, .int .i64 0, .string ⟨#[]⟩, .string ⟨#[]⟩], 51⟩ (off := 0) (.agg #[.int .i64 ((1 : Int) + (k5 : Int)), .int .i64 1, .int .i64 ((zL l i).maj), .int .i64 0, .int .i64 0, .string ⟨#[]⟩, .string ⟨#[]⟩]) (Zs 1 ⟨b1, #[.int .i64 0, .int .i64 0, .int .i64 0, .int .i64 0, .int .i64 0, .string ⟨#[]⟩, .string ⟨#[]⟩], 51⟩ (off := 0) (.agg #[.int .i64 ((1 : Int) + (k5 : Int)), .int .i64 1, .int .i64 ((zL l i).maj), .int .i64 0, .int .i64 0, .string ⟨#[]⟩, .string ⟨#[]⟩]) (zN (zC ?_)))))))
      exact zA (ZC 1 ⟨b1, #[.int .i64 ((1 : Int) + (k5 : Int)), .int .i64 1, .int .i64 ((zL l i).maj), .int .i64 0, .int .i64 0, .string ⟨#[]⟩, .string ⟨#[]⟩], 51⟩ (off := 0) (.agg #[.int .i64 ((1 : Int) + (k5 : Int)), .int .i64 1, .int .i64 ((zL l i).maj), .int .i64 0, .int .i64 0, .string ⟨#[]⟩, .string ⟨#[]⟩]) Tryz.results31 (fun w hO => ⟨by rw [show coV (xN l i) = .agg #[.int .i64 ((1 : Int) + (k5 : Int)), .int .i64 1, .int .i64 ((zL l i).maj), .int .i64 0, .int .i64 0, .string ⟨#[]⟩, .string ⟨#[]⟩] from by unfold xN wP coV; rw [show plc (atL l (i + 5)) 9 = _ from e5, show plc (atL l (i + 6)) 3 = _ from e6]; simp [h1]; try rfl], hO.below⟩))
    refine Zd (p := ((1 : Int) + (k5 : Int) : Int) = 9) false (decide_eq_false (h1)) (ZX (ZB (ZO (Zv (.pointer (some ⟨b2, 2, none⟩)) (Zv (.pointer (some ⟨b2, 6, none⟩)) (Zs 0 ⟨b2, #[.int .i64 ((1 : Int) + (k5 : Int)), .int .i64 2, .int .i64 ((zL l i).maj), .int .i64 ((zL l i).min), .int .i64 ((zL l i).pat), .string (mkS (zL l i).pre), .string (mkS (zL l i).build)], 51⟩ (off := 6) (.string ⟨#[]⟩) (zN ?_)))))))
    refine zC (z6 (ZO (Zv (.pointer (some ⟨b2, 1, none⟩)) (Zl 0 ⟨b2, #[.int .i64 ((1 : Int) + (k5 : Int)), .int .i64 2, .int .i64 ((zL l i).maj), .int .i64 ((zL l i).min), .int .i64 ((zL l i).pat), .string (mkS (zL l i).pre), .string ⟨#[]⟩], 51⟩ (off := 1) (.int .i64 2) (Zv (.bool true) (ZY (z6 (z7 ?_))))))))
    refine Zv (.pointer (some ⟨b2, 2, none⟩)) (Zv (.pointer (some ⟨b2, 5, none⟩)) (Zs 0 ⟨b2, #[.int .i64 ((1 : Int) + (k5 : Int)), .int .i64 2, .int .i64 ((zL l i).maj), .int .i64 ((zL l i).min), .int .i64 ((zL l i).pat), .string (mkS (zL l i).pre), .string ⟨#[]⟩], 51⟩ (off := 5) (.string ⟨#[]⟩) (ZN (z7 (Zv (.pointer (some ⟨b2, 2, none⟩)) (Zv (.pointer (some ⟨b2, 4, none⟩)) (Zs 0 ⟨b2, #[.int .i64 ((1 : Int) + (k5 : Int)), .int .i64 2, .int .i64 ((zL l i).maj), .int .i64 ((zL l i).min), .int .i64 ((zL l i).pat), .string ⟨#[]⟩, .string ⟨#[]⟩], 51⟩ (off := 4) (.int .i64 0) (ZN (z6 ?_)))))))))
    refine ZO (Zv (.pointer (some ⟨b2, 1, none⟩)) (Zl 0 ⟨b2, #[.int .i64 ((1 : Int) + (k5 : Int)), .int .i64 2, .int .i64 ((zL l i).maj), .int .i64 ((zL l i).min), .int .i64 0, .string ⟨#[]⟩, .string ⟨#[]⟩], 51⟩ (off := 1) (.int .i64 2) (Zv (.bool false) (ZX (ZB (z6 (z6 ?_)))))))
    refine z7 (Zv (.pointer (some ⟨b2, 1, none⟩)) (Zl 0 ⟨b2, #[.int .i64 ((1 : Int) + (k5 : Int)), .int .i64 2, .int .i64 ((zL l i).maj), .int .i64 ((zL l i).min), .int .i64 0, .string ⟨#[]⟩, .string ⟨#[]⟩], 51⟩ (off := 1) (.int .i64 2) (Zv (.bool false) (ZX (ZB (ZO (Zl 0 ⟨b2, #[.int .i64 ((1 : Int) + (k5 : Int)), .int .i64 2, .int .i64 ((zL l i).maj), .int .i64 ((zL l i).min), .int .i64 0, .string ⟨#[]⟩, .string ⟨#[]⟩], 51⟩ (off := 0) (.agg #[.int .i64 ((1 : Int) + (k5 : Int)), .int .i64 2, .int .i64 ((zL l i).maj), .int .i64 ((zL l i).min), .int .i64 0, .string ⟨#[]⟩, .string ⟨#[]⟩]) ?_)))))))
    exact Zs 1 ⟨b1, #[.int .i64 0, .int .i64 0, .int .i64 0, .int .i64 0, .int .i64 0, .string ⟨#[]⟩, .string ⟨#[]⟩], 51⟩ (off := 0) (.agg #[.int .i64 ((1 : Int) + (k5 : Int)), .int .i64 2, .int .i64 ((zL l i).maj), .int .i64 ((zL l i).min), .int .i64 0, .string ⟨#[]⟩, .string ⟨#[]⟩]) (ZN (zA (ZC 1 ⟨b1, #[.int .i64 ((1 : Int) + (k5 : Int)), .int .i64 2, .int .i64 ((zL l i).maj), .int .i64 ((zL l i).min), .int .i64 0, .string ⟨#[]⟩, .string ⟨#[]⟩], 51⟩ (off := 0) (.agg #[.int .i64 ((1 : Int) + (k5 : Int)), .int .i64 2, .int .i64 ((zL l i).maj), .int .i64 ((zL l i).min), .int .i64 0, .string ⟨#[]⟩, .string ⟨#[]⟩]) Tryz.results31 (fun w hO => ⟨by rw [show coV (xN l i) = .agg #[.int .i64 ((1 : Int) + (k5 : Int)), .int .i64 2, .int .i64 ((zL l i).maj), .int .i64 ((zL l i).min), .int .i64 0, .string ⟨#[]⟩, .string ⟨#[]⟩] from by unfold xN wP coV; rw [show plc (atL l (i + 5)) 9 = _ from e5, show plc (atL l (i + 6)) 3 = _ from e6]; simp [h1]; try rfl], hO.below⟩))))
  refine zQ (n := 47) Tryz.func31 rfl (by kernel_rfl) (by kernel_rfl) (ZO (Za (.agg #[.int .i64 0, .int .i64 0, .int .i64 0, .int .i64 0, .int .i64 0, .string ⟨#[]⟩, .string ⟨#[]⟩]) (fun b1 => ZR (Zv (v) (Zv (.int .i64 ((i : Nat) : Int)) (Zu (k := .i64) (((i + 5 : Nat) : Int)) (IntWalk.i64_in _ (by omega)) (Zc (k := 51) (args := #[v, .int .i64 ((i + 5 : Nat) : Int), .int .i64 9]) (.int .i64 (k5 : Int)) (fun w hO => f5 w hO.below) ?_)))))))
  refine Zu (k := .i64) ((1 : Int) + (k5 : Int)) (IntWalk.i64_in _ (by omega)) (Zv (v) (Zv (.int .i64 ((i : Nat) : Int)) (Zu (k := .i64) (((i + 6 : Nat) : Int)) (IntWalk.i64_in _ (by omega)) (Zc (k := 51) (args := #[v, .int .i64 ((i + 6 : Nat) : Int), .int .i64 3]) (.int .i64 2) (fun w hO => f6 w hO.below) (Zv (.int .i64 3) (Zv (v) (Zv (.int .i64 ((i : Nat) : Int)) (Zc (k := 26) (args := #[v, .int .i64 ((i : Nat) : Int)]) (yF (zL l i)) (fun w hO => gen_any v l i w ((hv.below hO.below).more hO.below.size) hl (by omega)) (Zv (.agg #[.int .i64 ((1 : Int) + (k5 : Int)), .int .i64 3, .int .i64 ((zL l i).maj), .int .i64 ((zL l i).min), .int .i64 ((zL l i).pat), .string (mkS (zL l i).pre), .string (mkS (zL l i).build)]) (Za (.agg #[.int .i64 0, .int .i64 0, .int .i64 0, .int .i64 0, .int .i64 0, .string ⟨#[]⟩, .string ⟨#[]⟩]) (fun b2 => Zs 0 ⟨b2, #[.int .i64 0, .int .i64 0, .int .i64 0, .int .i64 0, .int .i64 0, .string ⟨#[]⟩, .string ⟨#[]⟩], 51⟩ (off := 0) (.agg #[.int .i64 ((1 : Int) + (k5 : Int)), .int .i64 3, .int .i64 ((zL l i).maj), .int .i64 ((zL l i).min), .int .i64 ((zL l i).pat), .string (mkS (zL l i).pre), .string (mkS (zL l i).build)]) ?_)))))))))))
  refine ZN (z6 (ZO (Zv (.pointer (some ⟨b2, 0, none⟩)) (Zl 0 ⟨b2, #[.int .i64 ((1 : Int) + (k5 : Int)), .int .i64 3, .int .i64 ((zL l i).maj), .int .i64 ((zL l i).min), .int .i64 ((zL l i).pat), .string (mkS (zL l i).pre), .string (mkS (zL l i).build)], 51⟩ (off := 0) (.int .i64 ((1 : Int) + (k5 : Int))) ?_))))
  by_cases h1 : ((1 : Int) + (k5 : Int) : Int) = 9
  · refine zV (p := ((1 : Int) + (k5 : Int) : Int) = 9) true (by kernel_rfl) (fun _ => by kernel_rfl) (decide_eq_true (h1)) ?_
    refine ZY (z7 (Zv (.pointer (some ⟨b2, 1, none⟩)) (Zl 0 ⟨b2, #[.int .i64 ((1 : Int) + (k5 : Int)), .int .i64 3, .int .i64 ((zL l i).maj), .int .i64 ((zL l i).min), .int .i64 ((zL l i).pat), .string (mkS (zL l i).pre), .string (mkS (zL l i).build)], 51⟩ (off := 1) (.int .i64 3) (Zv (.int .i64 2) (Zv (.pointer (some ⟨b2, 1, none⟩)) (Zs 0 ⟨b2, #[.int .i64 ((1 : Int) + (k5 : Int)), .int .i64 3, .int .i64 ((zL l i).maj), .int .i64 ((zL l i).min), .int .i64 ((zL l i).pat), .string (mkS (zL l i).pre), .string (mkS (zL l i).build)], 51⟩ (off := 1) (.int .i64 2) (ZN (z6 ?_))))))))
    refine z7 (Zv (.pointer (some ⟨b2, 2, none⟩)) (Zv (.pointer (some ⟨b2, 6, none⟩)) (Zs 0 ⟨b2, #[.int .i64 ((1 : Int) + (k5 : Int)), .int .i64 2, .int .i64 ((zL l i).maj), .int .i64 ((zL l i).min), .int .i64 ((zL l i).pat), .string (mkS (zL l i).pre), .string (mkS (zL l i).build)], 51⟩ (off := 6) (.string ⟨#[]⟩) (ZN (z6 (ZO (Zv (.pointer (some ⟨b2, 1, none⟩)) (Zl 0 ⟨b2, #[.int .i64 ((1 : Int) + (k5 : Int)), .int .i64 2, .int .i64 ((zL l i).maj), .int .i64 ((zL l i).min), .int .i64 ((zL l i).pat), .string (mkS (zL l i).pre), .string ⟨#[]⟩], 51⟩ (off := 1) (.int .i64 2) (Zv (.bool true) ?_)))))))))
    refine ZY (ZO (Zv (.pointer (some ⟨b2, 2, none⟩)) (Zv (.pointer (some ⟨b2, 5, none⟩)) (Zs 0 ⟨b2, #[.int .i64 ((1 : Int) + (k5 : Int)), .int .i64 2, .int .i64 ((zL l i).maj), .int .i64 ((zL l i).min), .int .i64 ((zL l i).pat), .string (mkS (zL l i).pre), .string ⟨#[]⟩], 51⟩ (off := 5) (.string ⟨#[]⟩) (ZN (z7 (Zv (.pointer (some ⟨b2, 2, none⟩)) ?_)))))))
    refine Zv (.pointer (some ⟨b2, 4, none⟩)) (Zs 0 ⟨b2, #[.int .i64 ((1 : Int) + (k5 : Int)), .int .i64 2, .int .i64 ((zL l i).maj), .int .i64 ((zL l i).min), .int .i64 ((zL l i).pat), .string ⟨#[]⟩, .string ⟨#[]⟩], 51⟩ (off := 4) (.int .i64 0) (ZN (z6 (ZO (Zv (.pointer (some ⟨b2, 1, none⟩)) (Zl 0 ⟨b2, #[.int .i64 ((1 : Int) + (k5 : Int)), .int .i64 2, .int .i64 ((zL l i).maj), .int .i64 ((zL l i).min), .int .i64 0, .string ⟨#[]⟩, .string ⟨#[]⟩], 51⟩ (off := 1) (.int .i64 2) (Zv (.bool false) (zN (zC ?_)))))))))
    refine Zf (ZB (z6 (ZO (Zv (.pointer (some ⟨b2, 1, none⟩)) (Zl 0 ⟨b2, #[.int .i64 ((1 : Int) + (k5 : Int)), .int .i64 2, .int .i64 ((zL l i).maj), .int .i64 ((zL l i).min), .int .i64 0, .string ⟨#[]⟩, .string ⟨#[]⟩], 51⟩ (off := 1) (.int .i64 2) (Zv (.bool false) (ZN (Zf ?_))))))))
    exact ZB (ZO (Zl 0 ⟨b2, #[.int .i64 ((1 : Int) + (k5 : Int)), .int .i64 2, .int .i64 ((zL l i).maj), .int .i64 ((zL l i).min), .int .i64 0, .string ⟨#[]⟩, .string ⟨#[]⟩], 51⟩ (off := 0) (.agg #[.int .i64 ((1 : Int) + (k5 : Int)), .int .i64 2, .int .i64 ((zL l i).maj), .int .i64 ((zL l i).min), .int .i64 0, .string ⟨#[]⟩, .string ⟨#[]⟩]) (Zs 1 ⟨b1, #[.int .i64 0, .int .i64 0, .int .i64 0, .int .i64 0, .int .i64 0, .string ⟨#[]⟩, .string ⟨#[]⟩], 51⟩ (off := 0) (.agg #[.int .i64 ((1 : Int) + (k5 : Int)), .int .i64 2, .int .i64 ((zL l i).maj), .int .i64 ((zL l i).min), .int .i64 0, .string ⟨#[]⟩, .string ⟨#[]⟩]) (ZN (zA (ZC 1 ⟨b1, #[.int .i64 ((1 : Int) + (k5 : Int)), .int .i64 2, .int .i64 ((zL l i).maj), .int .i64 ((zL l i).min), .int .i64 0, .string ⟨#[]⟩, .string ⟨#[]⟩], 51⟩ (off := 0) (.agg #[.int .i64 ((1 : Int) + (k5 : Int)), .int .i64 2, .int .i64 ((zL l i).maj), .int .i64 ((zL l i).min), .int .i64 0, .string ⟨#[]⟩, .string ⟨#[]⟩]) Tryz.results31 (fun w hO => ⟨by rw [show coV (xN l i) = .agg #[.int .i64 ((1 : Int) + (k5 : Int)), .int .i64 2, .int .i64 ((zL l i).maj), .int .i64 ((zL l i).min), .int .i64 0, .string ⟨#[]⟩, .string ⟨#[]⟩] from by unfold xN wP coV; rw [show plc (atL l (i + 5)) 9 = _ from e5, show plc (atL l (i + 6)) 3 = _ from e6]; simp [h1]; try rfl], hO.below⟩)))))))
  refine Zd (p := ((1 : Int) + (k5 : Int) : Int) = 9) false (decide_eq_false (h1)) (ZX (ZB (ZO (Zv (.pointer (some ⟨b2, 2, none⟩)) (Zv (.pointer (some ⟨b2, 6, none⟩)) (Zs 0 ⟨b2, #[.int .i64 ((1 : Int) + (k5 : Int)), .int .i64 3, .int .i64 ((zL l i).maj), .int .i64 ((zL l i).min), .int .i64 ((zL l i).pat), .string (mkS (zL l i).pre), .string (mkS (zL l i).build)], 51⟩ (off := 6) (.string ⟨#[]⟩) (zN ?_)))))))
  refine zC (z6 (ZO (Zv (.pointer (some ⟨b2, 1, none⟩)) (Zl 0 ⟨b2, #[.int .i64 ((1 : Int) + (k5 : Int)), .int .i64 3, .int .i64 ((zL l i).maj), .int .i64 ((zL l i).min), .int .i64 ((zL l i).pat), .string (mkS (zL l i).pre), .string ⟨#[]⟩], 51⟩ (off := 1) (.int .i64 3) (Zv (.bool false) (ZX (x4 (zC ?_))))))))
  refine z6 (ZO (Zv (.pointer (some ⟨b2, 1, none⟩)) (Zl 0 ⟨b2, #[.int .i64 ((1 : Int) + (k5 : Int)), .int .i64 3, .int .i64 ((zL l i).maj), .int .i64 ((zL l i).min), .int .i64 ((zL l i).pat), .string (mkS (zL l i).pre), .string ⟨#[]⟩], 51⟩ (off := 1) (.int .i64 3) (Zv (.bool false) (ZX (ZB (z6 ?_)))))))
  refine ZO (Zv (.pointer (some ⟨b2, 1, none⟩)) (Zl 0 ⟨b2, #[.int .i64 ((1 : Int) + (k5 : Int)), .int .i64 3, .int .i64 ((zL l i).maj), .int .i64 ((zL l i).min), .int .i64 ((zL l i).pat), .string (mkS (zL l i).pre), .string ⟨#[]⟩], 51⟩ (off := 1) (.int .i64 3) (Zv (.bool false) (ZX (ZB (z6 (z7 ?_)))))))
  exact Zl 0 ⟨b2, #[.int .i64 ((1 : Int) + (k5 : Int)), .int .i64 3, .int .i64 ((zL l i).maj), .int .i64 ((zL l i).min), .int .i64 ((zL l i).pat), .string (mkS (zL l i).pre), .string ⟨#[]⟩], 51⟩ (off := 0) (.agg #[.int .i64 ((1 : Int) + (k5 : Int)), .int .i64 3, .int .i64 ((zL l i).maj), .int .i64 ((zL l i).min), .int .i64 ((zL l i).pat), .string (mkS (zL l i).pre), .string ⟨#[]⟩]) (Zs 1 ⟨b1, #[.int .i64 0, .int .i64 0, .int .i64 0, .int .i64 0, .int .i64 0, .string ⟨#[]⟩, .string ⟨#[]⟩], 51⟩ (off := 0) (.agg #[.int .i64 ((1 : Int) + (k5 : Int)), .int .i64 3, .int .i64 ((zL l i).maj), .int .i64 ((zL l i).min), .int .i64 ((zL l i).pat), .string (mkS (zL l i).pre), .string ⟨#[]⟩]) (ZN (zA (ZC 1 ⟨b1, #[.int .i64 ((1 : Int) + (k5 : Int)), .int .i64 3, .int .i64 ((zL l i).maj), .int .i64 ((zL l i).min), .int .i64 ((zL l i).pat), .string (mkS (zL l i).pre), .string ⟨#[]⟩], 51⟩ (off := 0) (.agg #[.int .i64 ((1 : Int) + (k5 : Int)), .int .i64 3, .int .i64 ((zL l i).maj), .int .i64 ((zL l i).min), .int .i64 ((zL l i).pat), .string (mkS (zL l i).pre), .string ⟨#[]⟩]) Tryz.results31 (fun w hO => ⟨by rw [show coV (xN l i) = .agg #[.int .i64 ((1 : Int) + (k5 : Int)), .int .i64 3, .int .i64 ((zL l i).maj), .int .i64 ((zL l i).min), .int .i64 ((zL l i).pat), .string (mkS (zL l i).pre), .string ⟨#[]⟩] from by unfold xN wP coV; rw [show plc (atL l (i + 5)) 9 = _ from e5, show plc (atL l (i + 6)) 3 = _ from e6]; simp [h1]; try rfl], hO.below⟩)))))
end
section
theorem genA_step {l : List Int} {i a k : Nat} (hk : k < (uE l i a).length) : (uE l i a).take (k + 1) = (uE l i a).take k ++ [xN l (i + 4 + 21 * a + 7 * k)] := by
  have e : (uE l i a)[k] = xN l (i + 4 + 21 * a + 7 * k) := by simp [uE]
  rw [List.take_succ_eq_append_getElem hk, e]
theorem genR0_step {l : List Int} {i a : Nat} (ha : a < (uH l i).length) : (uH l i).take (a + 1) = (uH l i).take a ++ [uE l i a] := by
  have e : (uH l i)[a] = uE l i a := by simp [uH]
  rw [List.take_succ_eq_append_getElem ha, e]
theorem genA_mem {l : List Int} {i a : Nat} {c : Co} (h : c ∈ uE l i a) : c.may = true ∧ c.short := by
  unfold uE at h
  obtain ⟨k, _, rfl⟩ := List.mem_map.1 h
  exact ⟨genCo_may l _, genCo_short l _⟩
theorem genR0_fine (l : List Int) (i : Nat) : FineR (uH l i) := by
  have hp := plc_in (atL l i) 3 (by decide)
  refine ⟨by rw [genR0_len]; omega, fun a ha => ?_⟩
  unfold uH at ha
  obtain ⟨k, _, rfl⟩ := List.mem_map.1 ha
  have hq := plc_in (atL l (i + 1 + k)) 3 (by decide)
  exact ⟨by rw [genA_len]; omega, fun c hc => (genA_mem hc).2⟩
theorem own_in {M : List Nat} {W w : World} {x y z : Blk} {A B C : List Blk} (h : Own M W w ([x, y, z] ++ A ++ (B ++ C))) : Own M W w (y :: z :: (A ++ (B ++ C))) := h.sublist (by rw [List.append_assoc]; exact List.sublist_append_right [x] _)
theorem own_rg {M : List Nat} {W w : World} {x g r : Blk} {A B C : List Blk} (h : Own M W w (x :: g :: r :: (A ++ (B ++ C)))) : Own M W w (g :: r :: (B ++ (A ++ C))) :=
  (h.sublist (List.sublist_cons_self x _)).perm (List.Perm.cons g (List.Perm.cons r (List.perm_append_comm_assoc A B C)))
theorem slco_one (c : Co) (b : Nat) (cur : Array Value) (h : cur.toList = coC c) : SlCo (.slice (some ⟨b, 0, none⟩) 1 1) [c] [⟨b, cur, 51⟩] := by
  have e : ([c] : List Co).flatMap coC = coC c := List.append_nil _
  have hc : cur.toList.length = 7 := by rw [h]; rfl
  refine ⟨by rw [e]; rfl, .inr ⟨b, 1, cur, rfl, rfl, Nat.le_refl _, by decide, by rw [← Array.length_toList, hc], ?_⟩⟩
  rw [e, h]
  exact List.take_of_length_le (Nat.le_refl 7)
theorem rgo_one {v : Value} {c : Co} {b : Nat} {o : List Blk} {A : Option Addr} (h : SlCo (.slice A 1 1) [c] o) (hv : v = .agg #[.slice (some ⟨b, 0, none⟩) 1 1]) : RgO v [[c]] ([⟨b, #[.slice A 1 1], 47⟩] ++ o) :=
  ⟨[⟨A, [c], 1⟩], _, [⟨b, #[.slice A 1 1], 47⟩], o, hv, rfl, rfl, ⟨⟨rfl, .inr ⟨b, 1, #[.slice A 1 1], rfl, rfl, Nat.le_refl _, by decide, rfl, rfl⟩⟩, fun x hx => by
    rw [List.mem_singleton.1 hx]; exact ⟨o, fun b hb => hb, h⟩⟩⟩
theorem genRg_any (v : Value) (l : List Int) (i : Nat) (W : World) (hv : ReadsI W W.heap.size v l) (hl : l.length ≤ 9223372036854775807) (hi : i ≤ 10000) :
    Calls Tryz.prog 25 #[v, .int .i64 (i : Int)] W fun e w' => ∃ v' ob', e = .returned v' ∧ RgO v' (genRg l i) ob' ∧ Own [] W w' ob' := by
  obtain ⟨k0, e0, q0⟩ := j9 (atL l i) 3 (by omega)
  have f0 := uO hv hl i 3 (by omega) (by omega) (by omega) e0
  have e02 : plc (atL l i) 3 = (k0 : Int) := e0
  refine zQ (n := 56) Tryz.func25 rfl (by kernel_rfl) (by kernel_rfl) (ZO (Za (.agg #[.slice none 0 0]) (fun b1 => ZR (Za (.agg #[.slice none 0 0]) (fun b2 => ZN (z6 ?_))))))
  refine ZO (Zv (.int .i64 0) (ZN (zI (gC (L' := ⟨b2, #[.slice none 0 0], 25⟩ :: ⟨b1, #[.slice none 0 0], 25⟩ :: ([] ++ [])) rfl (yT (fun L f m => ∃ (a : Nat) (U : Option Addr) (n : Nat) (cu : Nat) (xs : List Al) (o1 : List Blk) (o2 : List Blk) (j : Nat → Value), (a ≤ k0 + 1 ∧ (n = xs.length ∧ RgA (.slice U n cu) xs o1 o2) ∧ yM xs = (uH l i).take a) ∧ L = ⟨b2, #[.slice U n cu], 25⟩ :: ⟨b1, #[.slice none 0 0], 25⟩ :: (o1 ++ o2) ∧ f = kE j [(0, v), (1, .int .i64 ((i : Nat) : Int)), (4, .pointer (some ⟨b1, 0, none⟩)), (5, .pointer (some ⟨b2, 0, none⟩)), (6, .int .i64 (a : Int))] ∧ m = k0 + 1 - a) (k0 + 1 - 0) ⟨0, none, 0, 0, [], [], [], _, ⟨Nat.zero_le _, ⟨rfl, RgA.nil⟩, rfl⟩, rfl, ZU, rfl⟩ ?_)))))
  rintro L f m ⟨a, U, n, cu, xs, o1, o2, j, hrel, rfl, rfl, rfl⟩
  have hrel0 := hrel; have hal := hrel.1
  refine z6 (ZO (Zv (.int .i64 (a : Int)) (Zv (v) (Zv (.int .i64 ((i : Nat) : Int)) (Zc (k := 51) (args := #[v, .int .i64 ((i : Nat) : Int), .int .i64 3]) (.int .i64 (k0 : Int)) (fun w hO => f0 w hO.below) ?_)))))
  by_cases h1 : (a : Int) ≤ (k0 : Int)
  · have haN : a < (uH l i).length := by rw [genR0_len, e02, Int.toNat_natCast]; omega
    obtain ⟨ka, eka, qka⟩ := j9 (atL l (i + 1 + a)) 3 (by omega)
    have fa := uO hv hl (i + 1 + a) 3 (by omega) (by omega) (by omega) eka
    have eka2 : plc (atL l (i + 1 + a)) 3 = (ka : Int) := eka
    have hla : (uE l i a).length = ka + 1 := by rw [genA_len, eka2, Int.toNat_natCast]
    refine Zd (p := (a : Int) ≤ (k0 : Int)) true (decide_eq_true (h1)) (ZY (ZB (z6 (zI (ZO (Zv (.slice none 0 0) (zN ?_)))))))
    refine zC (z6 (ZO (Zv (.int .i64 0) (ZN (zI (gC (L' := ⟨b2, #[.slice U n cu], 25⟩ :: ⟨b1, #[.slice none 0 0], 25⟩ :: ([] ++ (o1 ++ o2))) rfl (yT (fun L f m => ∃ (k : Nat) (Va : Option Addr) (ma : Nat) (cv : Nat) (oa : List Blk) (j : Nat → Value), (k ≤ ka + 1 ∧ SlCo (.slice Va ma cv) ((uE l i a).take k) oa) ∧ L = ⟨b2, #[.slice U n cu], 25⟩ :: ⟨b1, #[.slice none 0 0], 25⟩ :: (oa ++ (o1 ++ o2)) ∧ f = kE j [(0, v), (1, .int .i64 ((i : Nat) : Int)), (4, .pointer (some ⟨b1, 0, none⟩)), (5, .pointer (some ⟨b2, 0, none⟩)), (6, .int .i64 (a : Int)), (7, .slice Va ma cv), (8, .int .i64 (k : Int))] ∧ m = ka + 1 - k) (ka + 1 - 0) ⟨0, none, 0, 0, [], _, ⟨Nat.zero_le _, Sl.nil _ _⟩, rfl, ZU, rfl⟩ ?_)))))))
    rintro L f m ⟨k, Va, ma, cv, oa, j, hrel, rfl, rfl, rfl⟩
    have hkl := hrel.1
    refine z6 (ZO (Zv (.int .i64 (k : Int)) (Zv (v) (Zv (.int .i64 ((i : Nat) : Int)) (Zu (k := .i64) (((i + 1 : Nat) : Int)) (IntWalk.i64_in _ (by omega)) (Zv (.int .i64 (a : Int)) (Zu (k := .i64) (((i + 1 + a : Nat) : Int)) (IntWalk.i64_in _ (by omega)) (Zc (k := 51) (args := #[v, .int .i64 ((i + 1 + a : Nat) : Int), .int .i64 3]) (.int .i64 (ka : Int)) (fun w hO => fa w hO.below) ?_))))))))
    by_cases h2 : (k : Int) ≤ (ka : Int)
    · have hkN : k < (uE l i a).length := by omega
      refine Zd (p := (k : Int) ≤ (ka : Int)) true (decide_eq_true (h2)) (ZY (ZB (z6 (zI (z7 (Zv (.slice Va ma cv) (Zv (v) (Zv (.int .i64 ((i : Nat) : Int)) ?_))))))))
      refine Zu (k := .i64) (((i + 4 : Nat) : Int)) (IntWalk.i64_in _ (by omega)) (Zv (.int .i64 (a : Int)) (Zu (k := .i64) (((21 * a : Nat) : Int)) (IntWalk.i64_in _ (by omega)) (Zu (k := .i64) (((i + 4 + 21 * a : Nat) : Int)) (IntWalk.i64_in _ (by omega)) (Zv (.int .i64 (k : Int)) (Zu (k := .i64) (((7 * k : Nat) : Int)) (IntWalk.i64_in _ (by omega)) (Zu (k := .i64) (((i + 4 + 21 * a + 7 * k : Nat) : Int)) (IntWalk.i64_in _ (by omega)) (Zc (k := 31) (args := #[v, .int .i64 ((i + 4 + 21 * a + 7 * k : Nat) : Int)]) (coV (xN l (i + 4 + 21 * a + 7 * k))) (fun w hO => genCo_any v l (i + 4 + 21 * a + 7 * k) w ((hv.below hO.below).more hO.below.size) hl (by omega)) (vC 51 #[.int .i64 ((xN l (i + 4 + 21 * a + 7 * k)).op), .int .i64 ((xN l (i + 4 + 21 * a + 7 * k)).parts), .int .i64 ((xN l (i + 4 + 21 * a + 7 * k)).v.maj), .int .i64 ((xN l (i + 4 + 21 * a + 7 * k)).v.min), .int .i64 ((xN l (i + 4 + 21 * a + 7 * k)).v.pat), .string (mkS (xN l (i + 4 + 21 * a + 7 * k)).v.pre), .string (mkS (xN l (i + 4 + 21 * a + 7 * k)).v.build)] (by kernel_rfl) rfl (fun _ => by kernel_rfl) (fun b3 => ?_)))))))))
      obtain ⟨i1, z1, e1, e2, e3, e4, e5⟩ := co_info
      have hlk : ((uE l i a).take k).length ≤ 3 := by rw [List.length_take]; omega
      refine k8 (L' := [⟨b3, #[.int .i64 ((xN l (i + 4 + 21 * a + 7 * k)).op), .int .i64 ((xN l (i + 4 + 21 * a + 7 * k)).parts), .int .i64 ((xN l (i + 4 + 21 * a + 7 * k)).v.maj), .int .i64 ((xN l (i + 4 + 21 * a + 7 * k)).v.min), .int .i64 ((xN l (i + 4 + 21 * a + 7 * k)).v.pat), .string (mkS (xN l (i + 4 + 21 * a + 7 * k)).v.pre), .string (mkS (xN l (i + 4 + 21 * a + 7 * k)).v.build)], 51⟩, ⟨b2, #[.slice U n cu], 25⟩, ⟨b1, #[.slice none 0 0], 25⟩] ++ oa ++ (o1 ++ o2)) (by simp) (g7 (sz := 7) (by kernel_rfl) rfl Tryz.underlying47 e1 e2 e3 e4 (by kernel_rfl) hrel.2 (a := ⟨b3, 0, none⟩) (m := 1) (c := 1) (news := coC (xN l (i + 4 + 21 * a + 7 * k))) (by kernel_rfl) rfl (fun w hO j u hj => ?_) (co_cells _) (by unfold maxLen; omega) (by rw [e5]; omega) (fun va2 oa2 hva0 => ?_))
      · rw [xK, cell_of_row w b3 (0 + j) (coC (xN l (i + 4 + 21 * a + 7 * k))).toArray 51 _ (hO.held ⟨b3, (coC (xN l (i + 4 + 21 * a + 7 * k))).toArray, 51⟩ (List.mem_append_left _ (List.mem_append_left _ (List.mem_cons_self ..))))]; simpa using hj
      have hva2 : SlCo va2 ((uE l i a).take (k + 1)) oa2 := hva0.to (by rw [genA_step hkN, List.length_append]; rfl) (by rw [genA_step hkN, List.flatMap_append]; simp)
      obtain ⟨Va2, cv2, rfl⟩ := Sl.form hva0
      exact Zv (.slice Va2 (((uE l i a).take k).length + 1) cv2) (zN (zR (zC (z7 (Zv (.int .i64 (k : Int)) (Zu (k := .i64) (((k + 1 : Nat) : Int)) (IntWalk.i64_in _ (by omega)) (Zv (.int .i64 ((k + 1 : Nat) : Int)) (zN (xS (fun w hO => own_in hO) (zU (m' := ka + 1 - (k + 1)) (by omega) ⟨k + 1, Va2, ((uE l i a).take k).length + 1, cv2, oa2, _, ⟨by omega, hva2⟩, rfl, ZU, rfl⟩))))))))))
    have hva : SlCo (.slice Va ma cv) (uE l i a) oa := by have q0 := hrel.2; rwa [List.take_of_length_le (by omega)] at q0
    obtain ⟨Aa, ca, hVa⟩ := Sl.form hva
    have hnx : xs.length ≤ 3 := by have q0 := congrArg List.length hrel0.2.2; rw [x8, List.length_take] at q0; omega
    refine Zd (p := (k : Int) ≤ (ka : Int)) false (decide_eq_false (h2)) (ZX (y5 (zB (zM (zH (zC (z7 (Zv (.pointer (some ⟨b2, 0, none⟩)) (Zl 0 ⟨b2, #[.slice U n cu], 25⟩ (off := 0) (.slice U n cu) ?_)))))))))
    refine Zv (.slice Va ma cv) (vC 47 #[.slice Va ma cv] (by kernel_rfl) rfl (fun _ => by kernel_rfl) (fun b3 => ?_))
    obtain ⟨i1, z1, e1, e2, e3, e4, e5⟩ := al_info
    refine k8 (L' := ([⟨b3, #[.slice Va ma cv], 47⟩, ⟨b2, #[.slice U n cu], 25⟩, ⟨b1, #[.slice none 0 0], 25⟩] ++ oa) ++ o1 ++ o2) (by simp) (g7 (sz := 1) (by kernel_rfl) rfl Tryz.underlying23 e1 e2 e3 e4 (by kernel_rfl) hrel0.2.1.2.top (a := ⟨b3, 0, none⟩) (m := 1) (c := 1) (news := [.slice Va ma cv]) (by kernel_rfl) rfl (fun w hO j u hj => ?_) (fun u hu => by rw [List.mem_singleton.1 hu, hVa]; rfl) (by unfold maxLen; omega) (by rw [e5]; omega) (fun u2 o3 hu0 => ?_))
    · rw [xK, cell_of_row w b3 (0 + j) #[.slice Va ma cv] 47 _ (hO.held ⟨b3, #[.slice Va ma cv], 47⟩ (List.mem_append_left _ (List.mem_append_left _ (List.mem_append_left _ (List.mem_cons_self ..)))))]; simpa using hj
    obtain ⟨U2, cu2, rfl⟩ := Sl.form hu0
    have hrg2 := hrel0.2.1.2.add (show Sl 47 1 (.slice U2 (xs.length + 1) cu2) (xs.length + 1) (xs.flatMap alC ++ alC ⟨Aa, uE l i a, ca⟩) o3 from by rw [show alC ⟨Aa, uE l i a, ca⟩ = [.slice Va ma cv] from by rw [hVa]; rfl]; exact hu0) (hVa ▸ hva)
    refine k8 (L' := ⟨b3, #[.slice Va ma cv], 47⟩ :: ⟨b2, #[.slice U n cu], 25⟩ :: ⟨b1, #[.slice none 0 0], 25⟩ :: (oa ++ (o3 ++ o2))) (by simp) (Zv (.pointer (some ⟨b2, 0, none⟩)) (Zs 1 ⟨b2, #[.slice U n cu], 25⟩ (off := 0) (.slice U2 (xs.length + 1) cu2) (zN (zR (zC (z7 (Zv (.int .i64 (a : Int)) (Zu (k := .i64) (((a + 1 : Nat) : Int)) (IntWalk.i64_in _ (by omega)) (Zv (.int .i64 ((a + 1 : Nat) : Int)) (zN (xS (fun w hO => own_rg hO) ?_)))))))))))
    exact zU (m' := k0 + 1 - (a + 1)) (by omega) ⟨a + 1, U2, xs.length + 1, cu2, xs ++ [⟨Aa, uE l i a, ca⟩], o3, (oa ++ o2), _, ⟨by omega, ⟨by simp, hrg2⟩, by rw [show yM (xs ++ [⟨Aa, uE l i a, ca⟩]) = yM xs ++ [uE l i a] from List.map_append .., hrel0.2.2, genR0_step haN]⟩, rfl, ZU, rfl⟩
  have hxs : yM xs = uH l i := by rw [hrel0.2.2, List.take_of_length_le (by rw [genR0_len, e02, Int.toNat_natCast]; omega)]
  have ha := hrel0.2.1.2
  have hn0 := hrel0.2.1.1
  refine Zd (p := (a : Int) ≤ (k0 : Int)) false (decide_eq_false (h1)) (ZX (y5 (zB (zM (zH (zC (z6 (z6 (z7 ?_)))))))))
  refine Zl 0 ⟨b2, #[.slice U n cu], 25⟩ (off := 0) (.agg #[.slice U n cu]) (Zc (k := 20) (args := #[.agg #[.slice U n cu]]) (.bool (rgMay (uH l i))) (fun w hO => by rw [hn0]; exact ret_b (by rw [hxs]) (rsMay_any U cu xs w (RgA.inn (hn0 ▸ ha) rfl hO (fun x hx => by simp [hx]) (fun x hx => by simp [hx]) (by rw [hxs]; exact genR0_fine l i)))) ?_)
  cases h3 : rgMay (uH l i) with
  | true =>
    refine Zv (.bool false) (ZX (ZB (ZO (Zl 0 ⟨b2, #[.slice U n cu], 25⟩ (off := 0) (.agg #[.slice U n cu]) (Zs 1 ⟨b1, #[.slice none 0 0], 25⟩ (off := 0) (.agg #[.slice U n cu]) (zN (zC ?_)))))))
    exact zA (ZC 1 ⟨b1, #[.slice U n cu], 25⟩ (off := 0) (.agg #[.slice U n cu]) Tryz.results25 (fun w hO => ⟨_, o1 ++ o2, rfl, ⟨xs, _, o1, o2, rfl, rfl, by rw [hxs]; exact (if_pos h3).symm, ha⟩, hO.sublist (List.sublist_append_right [_, _] _)⟩))
  | false =>
    refine Zv (.bool true) (ZY (ZO (Zv (v) (Zv (.int .i64 ((i : Nat) : Int)) (Zu (k := .i64) (((i + 4 : Nat) : Int)) (IntWalk.i64_in _ (by omega)) (Zc (k := 31) (args := #[v, .int .i64 ((i + 4 : Nat) : Int)]) (coV (xN l (i + 4))) (fun w hO => genCo_any v l (i + 4) w ((hv.below hO.below).more hO.below.size) hl (by omega)) (vC 51 #[.int .i64 ((xN l (i + 4)).op), .int .i64 ((xN l (i + 4)).parts), .int .i64 ((xN l (i + 4)).v.maj), .int .i64 ((xN l (i + 4)).v.min), .int .i64 ((xN l (i + 4)).v.pat), .string (mkS (xN l (i + 4)).v.pre), .string (mkS (xN l (i + 4)).v.build)] (by kernel_rfl) rfl (fun _ => by kernel_rfl) (fun b3 => vC 47 #[.slice (some ⟨b3, 0, none⟩) 1 1] (by kernel_rfl) rfl (fun _ => by kernel_rfl) (fun b4 => ?_)))))))))
    exact Zv (.agg #[.slice (some ⟨b4, 0, none⟩) 1 1]) (Zs 3 ⟨b1, #[.slice none 0 0], 25⟩ (off := 0) (.agg #[.slice (some ⟨b4, 0, none⟩) 1 1]) (ZN (zA (z8 (ZC 3 ⟨b1, #[.slice (some ⟨b4, 0, none⟩) 1 1], 25⟩ (off := 0) (.agg #[.slice (some ⟨b4, 0, none⟩) 1 1]) Tryz.results25 (fun w hO => ⟨_, _, rfl, by rw [show genRg l i = [[xN l (i + 4)]] from if_neg (by rw [h3]; exact Bool.false_ne_true)]; exact rgo_one (slco_one (xN l (i + 4)) b3 _ (by kernel_rfl)) rfl, hO.sublist (List.cons_sublist_cons.2 (List.cons_sublist_cons.2 (List.nil_sublist _)))⟩))))))
end
section
open Go.ChangeShapes Go.WideShapes Go.ChangeAt Go.RowKit
theorem open_nums {H : Type} {enc : TypeId × Value → H} {W : World} {base : Nat} {v : Value} {d : DataW H} {ps : List MemPlace} (hval : Value.okWide Tryz.prog W .any base 40 v)
    (h : DataW.Trod enc Tryz.prog W 0 (fun _ => true) true 40 v d ps) : ∃ l : List Int, ReadsI W W.heap.size v l ∧ l.length ≤ maxLen := by
  obtain ⟨A, len, cap, rfl⟩ := okWide_slice Tryz.underlying40 hval
  obtain ⟨fuel, hf⟩ := h
  rcases open_ints Tryz.underlying40 Tryz.underlying3 (by kernel_rfl) hf with ⟨hcs, _⟩ | ⟨a, len', cap', zs, hcs, _, hl, hm, hz, _, hcell, _⟩
  · simp [Value.cells] at hcs
    obtain ⟨rfl, rfl, rfl⟩ := hcs
    exact ⟨[], ⟨none, 0, rfl, fun h => by cases h⟩, by simp⟩
  · simp [Value.cells] at hcs
    obtain ⟨rfl, rfl, rfl⟩ := hcs
    simp only [if_true] at hz
    have hlen : (zs.take len).length = len := by rw [List.length_take]; omega
    refine ⟨zs.take len, ⟨some a, cap, by rw [hlen], fun h0 => ⟨a, rfl, ?_, fun j hj => ?_⟩⟩, by rw [hlen]; omega⟩
    · have := cell_lt (hcell 0 (by omega))
      rwa [add_block] at this
    · have hj2 : j < zs.length := by omega
      rw [hcell j hj2, List.getElem_take]
      simp only [List.getD, List.getElem?_eq_getElem hj2, Option.getD_some]
end
end Go.Proofs.YtkljdpiaghepfaaGreatDoor
