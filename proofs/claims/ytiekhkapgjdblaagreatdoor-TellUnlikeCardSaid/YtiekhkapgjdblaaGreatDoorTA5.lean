/-
  What the statement's proof leans on: the ways of walking, jY mathematics, and what the program's functions return; each theorem says on what conditions.
-/
import Derived.Lib.MakeNoZero
import Derived.Laws.IdiomCopy
import Derived.Shelf.Strings.SlTrimAscii
import Derived.Test.YtiekhkapgjdblaaGreatDoorTA4
set_option maxRecDepth 1000000
set_option maxHeartbeats 8000000
set_option linter.unusedVariables false
set_option linter.unusedSimpArgs false
namespace Go.Proofs.YtiekhkapgjdblaaGreatDoor
open Go.RowKit

section
structure BothB (a b : List Sp) (W : World) (A1 B1 : Option Addr) (c1 c2 n : Nat) (a1 b1 : List Sp) (v : Value) (out : List Sp) (ob : List Blk) : Prop where
  ra : Reads yB W W.heap.size A1 a1
  rb : Reads yB W W.heap.size B1 b1
  ca : a1.length ≤ c1
  cb : b1.length ≤ c2
  sa : yL a1
  sb : yL b1
  sl : SlS v out ob
  so : yL out
  len : out.length + n ≤ a.length + b.length
  fuel : a1.length + b1.length ≤ n
  eq : andG (a.length + b.length) [] a b = andG n out a1 b1
end
section
def m6 (v : Ver) : Ver := { v with pre := [] }
theorem p9 {v : Ver} (h : v.build = []) : m6 v = kS v := by
  obtain ⟨a, b, c, p, q⟩ := v
  simp only at h; subst h; rfl
theorem rel_least {v : Ver} : kS v = Ver.zero ↔ gF v = true := by
  unfold kS gF Ver.rel Ver.zero
  simp only [Ver.mk.injEq, and_true, Bool.and_eq_true, decide_eq_true_eq, and_assoc]
theorem relA_zero {v : Ver} (h : kS v = Ver.zero) : wJ v = zQ (-1) := by unfold wJ; rw [rel_least.1 h]; rfl
theorem relA_one {v : Ver} (h : ¬ kS v = Ver.zero) : wJ v = ⟨0, kS v, false⟩ := by
  unfold wJ
  rw [show gF v = false from Bool.eq_false_iff.2 fun e => h (rel_least.2 e)]; rfl
theorem rel_self {v : Ver} (h1 : v.pre = []) (h2 : v.build = []) : kS v = v := by
  obtain ⟨a, b, c, p, q⟩ := v
  simp only at h1 h2; subst h1; subst h2; rfl
theorem next_pre {v : Ver} (h : v.may = true) (hp : v.pre ≠ []) : y8 v = kS v ∧ x8 v = true := by
  have e : v.pre.isEmpty = false := by cases hq : v.pre with
    | nil => exact absurd hq hp
    | cons _ _ => rfl
  unfold y8 x8
  rw [h, e]; exact ⟨rfl, rfl⟩
theorem next_pos {v : Ver} (h : v.may = true) (hp : v.pre = []) (ho : x8 v = true) : ¬ m6 (y8 v) = Ver.zero := by
  intro e
  rcases next_is h with ⟨k, _⟩ | ⟨_, a, b, c, e1, e2, ⟨_, e3⟩ | ⟨e3, _⟩⟩
  · rw [ho] at k; cases k
  · have hn := dE h
    rw [e1] at e
    have h4 : (Ver.rel a b c).code = 0 := by
      have : Ver.rel a b c = Ver.zero := e
      rw [this]; rfl
    rw [h4] at e3
    unfold Ver.code at e3; omega
  · exact e3 hp
theorem pre0_next (v : Ver) : m6 (y8 v) = y8 v := by
  have h := (hD v).1
  generalize y8 v = u at h ⊢
  obtain ⟨a, b, c, p, q⟩ := u
  simp only at h; subst h; rfl
theorem mH {c : Cu} (h : ¬ c.e = 0) : k7 c = c := by unfold k7; rw [if_pos h]
theorem fP {c : Cu} (hm : c.may = true) (h0 : c.e = 0) (ha : c.aft = true) (ho : x8 c.v = false) : k7 c = zQ 1 := by
  have hb := gE hm
  have hp : c.v.pre = [] := Classical.byContradiction fun hp => by rw [(next_pre (wB hm) hp).2] at ho; cases ho
  unfold k7 hZ
  rw [if_neg (by omega), if_pos ⟨ha, hp⟩, rel_self hp hb, ho]; rfl
theorem bE {c : Cu} (hm : c.may = true) (h0 : c.e = 0) (ha : c.aft = true) (ho : x8 c.v = true) (hz : m6 (y8 c.v) = Ver.zero) : k7 c = zQ (-1) := by
  have hp : ¬ c.v.pre = [] := fun hp => next_pos (wB hm) hp ho hz
  unfold k7
  rw [if_neg (by omega), if_neg (fun h => hp h.2)]
  refine relA_zero ?_
  rw [← (next_pre (wB hm) hp).1, ← pre0_next]; exact hz
theorem bD {c : Cu} (hm : c.may = true) (h0 : c.e = 0) (ha : c.aft = true) (ho : x8 c.v = true) (hz : ¬ m6 (y8 c.v) = Ver.zero) : k7 c = ⟨0, m6 (y8 c.v), false⟩ := by
  have hb := gE hm
  rw [pre0_next] at hz ⊢
  unfold k7
  by_cases hp : c.v.pre = []
  · rw [if_neg (by omega), if_pos ⟨ha, hp⟩]
    unfold hZ
    rw [rel_self hp hb, ho]; rfl
  · rw [(next_pre (wB hm) hp).1] at hz ⊢
    rw [if_neg (by omega), if_neg (fun h => hp h.2)]
    exact relA_one hz
theorem pS {c : Cu} (hm : c.may = true) (h0 : c.e = 0) (ha : c.aft = false) (hz : m6 c.v = Ver.zero) : k7 c = zQ (-1) := by
  unfold k7
  rw [if_neg (by omega), if_neg (fun h => by rw [ha] at h; cases h.1)]
  exact relA_zero (by rw [← p9 (gE hm)]; exact hz)
theorem mI {c : Cu} (hm : c.may = true) (h0 : c.e = 0) (ha : c.aft = false) (hz : ¬ m6 c.v = Ver.zero) : k7 c = ⟨0, m6 c.v, false⟩ := by
  unfold k7
  rw [if_neg (by omega), if_neg (fun h => by rw [ha] at h; cases h.1), p9 (gE hm)]
  exact relA_one (by rw [← p9 (gE hm)]; exact hz)
theorem turn_right {c : Cu} (hm : c.may = true) : decide (c = k7 c) = yU c := by
  cases h : yU c with
  | false => exact decide_eq_false fun e => by rw [e, (turn_ok hm).2] at h; cases h
  | true =>
    refine decide_eq_true ?_
    by_cases h0 : c.e = 0
    · have hr := h
      unfold yU at hr
      rw [decide_eq_false (by simpa using h0), Bool.false_or] at hr
      simp only [Bool.and_eq_true, Bool.not_eq_true', decide_eq_true_eq] at hr
      obtain ⟨⟨ha, hp⟩, hl⟩ := hr
      have e1 : m6 c.v = c.v := by
        have := gE hm
        rw [p9 this, rel_self hp this]
      rw [mI hm h0 ha (by rw [e1]; intro e; rw [e] at hl; revert hl; decide), e1]
      obtain ⟨e, v, a⟩ := c
      simp only at h0 ha; subst h0; subst ha; rfl
    · exact (mH h0).symm
theorem toRel_any (c : Cu) (W : World) (hc : c.short) (hm : c.may = true) : Calls Tryz.prog 64 #[zC c] W fun e w' => e = .returned (zC (k7 c)) ∧ Below W.heap.size W w' := by
  refine zM (n := 30) Tryz.func64 rfl (by kernel_rfl) (by kernel_rfl) (ZO (Zb (zC c) (fun b1 => Za (.agg #[.int .i64 0, .int .i64 0, .int .i64 0, .int .i64 0, .string ⟨#[]⟩, .string ⟨#[]⟩, .bool false]) (fun b2 => ZN (z8 (ZO (Zv (.pointer (some ⟨b1, 0, none⟩)) (Zl 1 ⟨b1, (zC c).cells, 72⟩ (off := 0) (.int .i64 c.e) ?_))))))))
  by_cases h1 : (c.e : Int) = 0
  · refine wZ (p := (c.e : Int) = 0) true (by kernel_rfl) (fun _ => by kernel_rfl) (decide_eq_true (h1)) ?_
    refine ZX (ZB (ZO (Zv (.pointer (some ⟨b1, 1, none⟩)) (Zl 1 ⟨b1, (zC c).cells, 72⟩ (off := 1) (.agg #[.int .i64 c.v.maj, .int .i64 c.v.min, .int .i64 c.v.pat, .string (mkS c.v.pre), .string (mkS c.v.build)]) (Za (.agg #[.int .i64 0, .int .i64 0, .int .i64 0, .string ⟨#[]⟩, .string ⟨#[]⟩]) (fun b3 => Zs 0 ⟨b3, #[.int .i64 0, .int .i64 0, .int .i64 0, .string ⟨#[]⟩, .string ⟨#[]⟩], 70⟩ (off := 0) (.agg #[.int .i64 c.v.maj, .int .i64 c.v.min, .int .i64 c.v.pat, .string (mkS c.v.pre), .string (mkS c.v.build)]) (Zv (.bool true) ?_)))))))
    refine ZN (z8 (ZO (Zv (.pointer (some ⟨b1, 6, none⟩)) (Zl 2 ⟨b1, (zC c).cells, 72⟩ (off := 6) (.bool c.aft) (zL (z7 ?_))))))
    cases h2 : c.aft with
    | true =>
      refine Zt (zA (Zl 0 ⟨b3, #[.int .i64 c.v.maj, .int .i64 c.v.min, .int .i64 c.v.pat, .string (mkS c.v.pre), .string (mkS c.v.build)], 70⟩ (off := 0) (.agg #[.int .i64 c.v.maj, .int .i64 c.v.min, .int .i64 c.v.pat, .string (mkS c.v.pre), .string (mkS c.v.build)]) (Zc (k := 111) (args := #[.agg #[.int .i64 c.v.maj, .int .i64 c.v.min, .int .i64 c.v.pat, .string (mkS c.v.pre), .string (mkS c.v.build)]]) (.tuple #[zP (y8 c.v), .bool (x8 c.v)]) (fun w _ => vnext_any c.v w hc.1 hc.2) (Zv (.tuple #[zP (y8 c.v), .bool (x8 c.v)]) (Zv (zP (y8 c.v)) (Zv (.bool (x8 c.v)) (Zs 0 ⟨b3, #[.int .i64 c.v.maj, .int .i64 c.v.min, .int .i64 c.v.pat, .string (mkS c.v.pre), .string (mkS c.v.build)], 70⟩ (off := 0) (zP (y8 c.v)) (Zv (.bool (x8 c.v)) (ZN (z8 ?_))))))))))
      refine zA (Zv (.pointer (some ⟨b3, 3, none⟩)) (Zs 0 ⟨b3, (zP (y8 c.v)).cells, 70⟩ (off := 3) (.string ⟨#[]⟩) (ZN (z8 (zX (ZO (Zv (.bool (x8 c.v)) ?_)))))))
      cases h3 : x8 c.v with
      | true =>
        refine Zv (.bool false) (Zv (.bool false) (ZX (ZO (Zl 0 ⟨b3, #[.int .i64 ((y8 c.v).maj), .int .i64 ((y8 c.v).min), .int .i64 ((y8 c.v).pat), .string ⟨#[]⟩, .string (mkS (y8 c.v).build)], 70⟩ (off := 0) (.agg #[.int .i64 ((y8 c.v).maj), .int .i64 ((y8 c.v).min), .int .i64 ((y8 c.v).pat), .string ⟨#[]⟩, .string (mkS (y8 c.v).build)]) (Zv (.agg #[.int .i64 0, .int .i64 0, .int .i64 0, .string ⟨#[]⟩, .string ⟨#[]⟩]) ?_)))))
        by_cases h4 : m6 (y8 c.v) = Ver.zero
        · refine zK (.bool true) (by kernel_rfl) (qZ (u := m6 (y8 c.v)) (v := Ver.zero) rfl (by kernel_rfl) (by kernel_rfl) (decide_eq_true (h4))) ?_
          refine Zv (.bool true) (ZY (ZO (Zv (.agg #[.int .i64 (-1), .int .i64 0, .int .i64 0, .int .i64 0, .string ⟨#[]⟩, .string ⟨#[]⟩, .bool false]) (Zs 1 ⟨b2, #[.int .i64 0, .int .i64 0, .int .i64 0, .int .i64 0, .string ⟨#[]⟩, .string ⟨#[]⟩, .bool false], 72⟩ (off := 0) (.agg #[.int .i64 (-1), .int .i64 0, .int .i64 0, .int .i64 0, .string ⟨#[]⟩, .string ⟨#[]⟩, .bool false]) (ZN (zB (zD ?_)))))))
          exact z6 (ZC 1 ⟨b2, #[.int .i64 (-1), .int .i64 0, .int .i64 0, .int .i64 0, .string ⟨#[]⟩, .string ⟨#[]⟩, .bool false], 72⟩ (off := 0) (.agg #[.int .i64 (-1), .int .i64 0, .int .i64 0, .int .i64 0, .string ⟨#[]⟩, .string ⟨#[]⟩, .bool false]) Tryz.results64 (fun w hO => ⟨by first | rw [mH (by omega)] | (rw [fP hm (by omega) (by assumption) (by assumption)]; rfl) | (rw [bE hm (by omega) (by assumption) (by assumption) (by assumption)]; rfl) | (rw [bD hm (by omega) (by assumption) (by assumption) (by assumption)]; rfl) | (rw [pS hm (by omega) (by assumption) (by assumption)]; rfl) | (rw [mI hm (by omega) (by assumption) (by assumption)]; rfl), hO.below⟩))
        refine zK (.bool false) (by kernel_rfl) (qZ (u := m6 (y8 c.v)) (v := Ver.zero) rfl (by kernel_rfl) (by kernel_rfl) (decide_eq_false (h4))) (Zv (.bool false) (ZX (yT (zR (z7 (ZO (Zl 0 ⟨b3, #[.int .i64 ((y8 c.v).maj), .int .i64 ((y8 c.v).min), .int .i64 ((y8 c.v).pat), .string ⟨#[]⟩, .string (mkS (y8 c.v).build)], 70⟩ (off := 0) (.agg #[.int .i64 ((y8 c.v).maj), .int .i64 ((y8 c.v).min), .int .i64 ((y8 c.v).pat), .string ⟨#[]⟩, .string (mkS (y8 c.v).build)]) (Zv (.agg #[.int .i64 0, .int .i64 ((y8 c.v).maj), .int .i64 ((y8 c.v).min), .int .i64 ((y8 c.v).pat), .string ⟨#[]⟩, .string (mkS (y8 c.v).build), .bool false]) ?_))))))))
        exact Zs 1 ⟨b2, #[.int .i64 0, .int .i64 0, .int .i64 0, .int .i64 0, .string ⟨#[]⟩, .string ⟨#[]⟩, .bool false], 72⟩ (off := 0) (.agg #[.int .i64 0, .int .i64 ((y8 c.v).maj), .int .i64 ((y8 c.v).min), .int .i64 ((y8 c.v).pat), .string ⟨#[]⟩, .string (mkS (y8 c.v).build), .bool false]) (ZN (zB (ZC 1 ⟨b2, #[.int .i64 0, .int .i64 ((y8 c.v).maj), .int .i64 ((y8 c.v).min), .int .i64 ((y8 c.v).pat), .string ⟨#[]⟩, .string (mkS (y8 c.v).build), .bool false], 72⟩ (off := 0) (.agg #[.int .i64 0, .int .i64 ((y8 c.v).maj), .int .i64 ((y8 c.v).min), .int .i64 ((y8 c.v).pat), .string ⟨#[]⟩, .string (mkS (y8 c.v).build), .bool false]) Tryz.results64 (fun w hO => ⟨by first | rw [mH (by omega)] | (rw [fP hm (by omega) (by assumption) (by assumption)]; rfl) | (rw [bE hm (by omega) (by assumption) (by assumption) (by assumption)]; rfl) | (rw [bD hm (by omega) (by assumption) (by assumption) (by assumption)]; rfl) | (rw [pS hm (by omega) (by assumption) (by assumption)]; rfl) | (rw [mI hm (by omega) (by assumption) (by assumption)]; rfl), hO.below⟩))))
      | false =>
        refine Zv (.bool true) (Zv (.bool true) (ZY (ZO (Zv (.agg #[.int .i64 1, .int .i64 0, .int .i64 0, .int .i64 0, .string ⟨#[]⟩, .string ⟨#[]⟩, .bool false]) (Zs 1 ⟨b2, #[.int .i64 0, .int .i64 0, .int .i64 0, .int .i64 0, .string ⟨#[]⟩, .string ⟨#[]⟩, .bool false], 72⟩ (off := 0) (.agg #[.int .i64 1, .int .i64 0, .int .i64 0, .int .i64 0, .string ⟨#[]⟩, .string ⟨#[]⟩, .bool false]) (ZN (zB ?_)))))))
        exact zD (z6 (ZC 1 ⟨b2, #[.int .i64 1, .int .i64 0, .int .i64 0, .int .i64 0, .string ⟨#[]⟩, .string ⟨#[]⟩, .bool false], 72⟩ (off := 0) (.agg #[.int .i64 1, .int .i64 0, .int .i64 0, .int .i64 0, .string ⟨#[]⟩, .string ⟨#[]⟩, .bool false]) Tryz.results64 (fun w hO => ⟨by first | rw [mH (by omega)] | (rw [fP hm (by omega) (by assumption) (by assumption)]; rfl) | (rw [bE hm (by omega) (by assumption) (by assumption) (by assumption)]; rfl) | (rw [bD hm (by omega) (by assumption) (by assumption) (by assumption)]; rfl) | (rw [pS hm (by omega) (by assumption) (by assumption)]; rfl) | (rw [mI hm (by omega) (by assumption) (by assumption)]; rfl), hO.below⟩)))
    | false =>
      refine Zf (ZB (ZO (Zv (.pointer (some ⟨b3, 3, none⟩)) (Zs 0 ⟨b3, #[.int .i64 c.v.maj, .int .i64 c.v.min, .int .i64 c.v.pat, .string (mkS c.v.pre), .string (mkS c.v.build)], 70⟩ (off := 3) (.string ⟨#[]⟩) (ZN (z8 (zX (z8 ?_))))))))
      refine zA (Zv (.bool true) (Zv (.bool false) (Zv (.bool false) (ZX (ZO (Zl 0 ⟨b3, #[.int .i64 c.v.maj, .int .i64 c.v.min, .int .i64 c.v.pat, .string ⟨#[]⟩, .string (mkS c.v.build)], 70⟩ (off := 0) (.agg #[.int .i64 c.v.maj, .int .i64 c.v.min, .int .i64 c.v.pat, .string ⟨#[]⟩, .string (mkS c.v.build)]) (Zv (.agg #[.int .i64 0, .int .i64 0, .int .i64 0, .string ⟨#[]⟩, .string ⟨#[]⟩]) ?_)))))))
      by_cases h5 : m6 c.v = Ver.zero
      · refine zK (.bool true) (by kernel_rfl) (qZ (u := m6 c.v) (v := Ver.zero) rfl (by kernel_rfl) (by kernel_rfl) (decide_eq_true (h5))) ?_
        refine Zv (.bool true) (ZY (ZO (Zv (.agg #[.int .i64 (-1), .int .i64 0, .int .i64 0, .int .i64 0, .string ⟨#[]⟩, .string ⟨#[]⟩, .bool false]) (Zs 1 ⟨b2, #[.int .i64 0, .int .i64 0, .int .i64 0, .int .i64 0, .string ⟨#[]⟩, .string ⟨#[]⟩, .bool false], 72⟩ (off := 0) (.agg #[.int .i64 (-1), .int .i64 0, .int .i64 0, .int .i64 0, .string ⟨#[]⟩, .string ⟨#[]⟩, .bool false]) (ZN (zB (zD ?_)))))))
        exact z6 (ZC 1 ⟨b2, #[.int .i64 (-1), .int .i64 0, .int .i64 0, .int .i64 0, .string ⟨#[]⟩, .string ⟨#[]⟩, .bool false], 72⟩ (off := 0) (.agg #[.int .i64 (-1), .int .i64 0, .int .i64 0, .int .i64 0, .string ⟨#[]⟩, .string ⟨#[]⟩, .bool false]) Tryz.results64 (fun w hO => ⟨by first | rw [mH (by omega)] | (rw [fP hm (by omega) (by assumption) (by assumption)]; rfl) | (rw [bE hm (by omega) (by assumption) (by assumption) (by assumption)]; rfl) | (rw [bD hm (by omega) (by assumption) (by assumption) (by assumption)]; rfl) | (rw [pS hm (by omega) (by assumption) (by assumption)]; rfl) | (rw [mI hm (by omega) (by assumption) (by assumption)]; rfl), hO.below⟩))
      refine zK (.bool false) (by kernel_rfl) (qZ (u := m6 c.v) (v := Ver.zero) rfl (by kernel_rfl) (by kernel_rfl) (decide_eq_false (h5))) (Zv (.bool false) (ZX (yT (zR (z7 (ZO (Zl 0 ⟨b3, #[.int .i64 c.v.maj, .int .i64 c.v.min, .int .i64 c.v.pat, .string ⟨#[]⟩, .string (mkS c.v.build)], 70⟩ (off := 0) (.agg #[.int .i64 c.v.maj, .int .i64 c.v.min, .int .i64 c.v.pat, .string ⟨#[]⟩, .string (mkS c.v.build)]) (Zv (.agg #[.int .i64 0, .int .i64 c.v.maj, .int .i64 c.v.min, .int .i64 c.v.pat, .string ⟨#[]⟩, .string (mkS c.v.build), .bool false]) ?_))))))))
      exact Zs 1 ⟨b2, #[.int .i64 0, .int .i64 0, .int .i64 0, .int .i64 0, .string ⟨#[]⟩, .string ⟨#[]⟩, .bool false], 72⟩ (off := 0) (.agg #[.int .i64 0, .int .i64 c.v.maj, .int .i64 c.v.min, .int .i64 c.v.pat, .string ⟨#[]⟩, .string (mkS c.v.build), .bool false]) (ZN (zB (ZC 1 ⟨b2, #[.int .i64 0, .int .i64 c.v.maj, .int .i64 c.v.min, .int .i64 c.v.pat, .string ⟨#[]⟩, .string (mkS c.v.build), .bool false], 72⟩ (off := 0) (.agg #[.int .i64 0, .int .i64 c.v.maj, .int .i64 c.v.min, .int .i64 c.v.pat, .string ⟨#[]⟩, .string (mkS c.v.build), .bool false]) Tryz.results64 (fun w hO => ⟨by first | rw [mH (by omega)] | (rw [fP hm (by omega) (by assumption) (by assumption)]; rfl) | (rw [bE hm (by omega) (by assumption) (by assumption) (by assumption)]; rfl) | (rw [bD hm (by omega) (by assumption) (by assumption) (by assumption)]; rfl) | (rw [pS hm (by omega) (by assumption) (by assumption)]; rfl) | (rw [mI hm (by omega) (by assumption) (by assumption)]; rfl), hO.below⟩))))
  refine Zn (p := (c.e : Int) = 0) false (decide_eq_false (h1)) (ZY (ZO (Zl 1 ⟨b1, (zC c).cells, 72⟩ (off := 0) (zC c) (Zs 0 ⟨b2, #[.int .i64 0, .int .i64 0, .int .i64 0, .int .i64 0, .string ⟨#[]⟩, .string ⟨#[]⟩, .bool false], 72⟩ (off := 0) (zC c) (ZN (zB (z6 ?_)))))))
  exact ZC 0 ⟨b2, (zC c).cells, 72⟩ (off := 0) (zC c) Tryz.results64 (fun w hO => ⟨by first | rw [mH (by omega)] | (rw [fP hm (by omega) (by assumption) (by assumption)]; rfl) | (rw [bE hm (by omega) (by assumption) (by assumption) (by assumption)]; rfl) | (rw [bD hm (by omega) (by assumption) (by assumption) (by assumption)]; rfl) | (rw [pS hm (by omega) (by assumption) (by assumption)]; rfl) | (rw [mI hm (by omega) (by assumption) (by assumption)]; rfl), hO.below⟩)
theorem mayRel_any (c : Cu) (W : World) (hc : c.short) (hm : c.may = true) : Calls Tryz.prog 38 #[zC c] W fun e w' => e = .returned (.bool (yU c)) ∧ Below W.heap.size W w' := by
  rw [← turn_right hm]
  refine zM (n := 7) Tryz.func38 rfl (by kernel_rfl) (by kernel_rfl) (ZO (Zb (zC c) (fun b1 => Zv (.bool false) (ZN (z8 (g7 (by kernel_rfl) (by kernel_rfl) (Zm 0 ⟨b1, (zC c).cells, 72⟩ (off := 0) (zC c) (Zm 0 ⟨b1, (zC c).cells, 72⟩ (off := 0) (zC c) (Zq (k := 64) (args := #[zC c]) (zC (k7 c)) (fun w _ => toRel_any c w hc hm) ?_)))))))))
  by_cases h1 : c = k7 c
  · refine kL (.bool true) (by kernel_rfl) (jL (u := c) (v := k7 c) rfl (by kernel_rfl) (by kernel_rfl) (decide_eq_true (h1))) ?_
    exact Zw (.bool true) (xP (z7 (zB (ZF (.bool true) Tryz.results38 (fun w hO => ⟨by rw [decide_eq_true h1], hO.below⟩)))))
  exact kL (.bool false) (by kernel_rfl) (jL (u := c) (v := k7 c) rfl (by kernel_rfl) (by kernel_rfl) (decide_eq_false (h1))) (Zw (.bool false) (xP (z7 (zB (ZF (.bool false) Tryz.results38 (fun w hO => ⟨by rw [decide_eq_false h1], hO.below⟩))))))
def g8 (s : Sp) : Bool := !yU s.lo || !yU s.hi
theorem wW {l : List Sp} : (!l.any g8) = l.all fun x => yU x.lo && yU x.hi := by
  rw [List.not_any_eq_all_not]
  congr 1
  funext s
  unfold g8
  simp
theorem foreign1_any (s : Sp) (W : World) (hs : s.short) (hm : s.may = true) : Calls Tryz.prog 37 #[zF s] W fun e w' => e = .returned (.bool (g8 s)) ∧ Below W.heap.size W w' := by
  obtain ⟨m1, m2⟩ := xA hm
  refine zM (n := 13) Tryz.func37 rfl (by kernel_rfl) (by kernel_rfl) (ZO (Zb (zF s) (fun b1 => Zv (.bool false) (ZR (Zv (.pointer (some ⟨b1, 0, none⟩)) (Zl 0 ⟨b1, (zF s).cells, 74⟩ (off := 0) (.agg #[.int .i64 s.lo.e, .int .i64 s.lo.v.maj, .int .i64 s.lo.v.min, .int .i64 s.lo.v.pat, .string (mkS s.lo.v.pre), .string (mkS s.lo.v.build), .bool s.lo.aft]) (Zc (k := 38) (args := #[.agg #[.int .i64 s.lo.e, .int .i64 s.lo.v.maj, .int .i64 s.lo.v.min, .int .i64 s.lo.v.pat, .string (mkS s.lo.v.pre), .string (mkS s.lo.v.build), .bool s.lo.aft]]) (.bool (yU s.lo)) (fun w _ => mayRel_any s.lo w hs.1 m1) ?_)))))))
  cases h1 : yU s.lo with
  | true =>
    refine Zv (.bool false) (Zv (.bool false) (Zv (.pointer (some ⟨b1, 7, none⟩)) (Zl 0 ⟨b1, (zF s).cells, 74⟩ (off := 7) (.agg #[.int .i64 s.hi.e, .int .i64 s.hi.v.maj, .int .i64 s.hi.v.min, .int .i64 s.hi.v.pat, .string (mkS s.hi.v.pre), .string (mkS s.hi.v.build), .bool s.hi.aft]) (Zc (k := 38) (args := #[.agg #[.int .i64 s.hi.e, .int .i64 s.hi.v.maj, .int .i64 s.hi.v.min, .int .i64 s.hi.v.pat, .string (mkS s.hi.v.pre), .string (mkS s.hi.v.build), .bool s.hi.aft]]) (.bool (yU s.hi)) (fun w _ => mayRel_any s.hi w hs.2 m2) ?_))))
    cases h2 : yU s.hi with
    | true =>
      exact Zv (.bool false) (Zv (.bool false) (Zv (.bool false) (ZN (zB (ZF (.bool false) Tryz.results37 (fun w hO => ⟨by unfold g8; simp [h1, h2], hO.below⟩))))))
    | false =>
      exact Zv (.bool true) (Zv (.bool true) (Zv (.bool true) (ZN (zB (ZF (.bool true) Tryz.results37 (fun w hO => ⟨by unfold g8; simp [h1, h2], hO.below⟩))))))
  | false =>
    refine Zv (.bool true) (Zv (.bool true) (Zk (Zk (Zk (Zk (Zv (.bool true) (Zv (.bool true) (ZN (zB (ZF (.bool true) Tryz.results37 ?_))))))))))
    exact fun w hO => ⟨by unfold g8; simp [h1], hO.below⟩
def pI : List Sp → Int → Int
  | [], _ => -1
  | s :: r, k => if g8 s then k else pI r (k + 1)
theorem idxR_any : ∀ (l : List Sp) (k : Int), 0 ≤ k → decide (0 ≤ pI l k) = l.any g8
  | [], k, _ => rfl
  | s :: r, k, hk => by
    unfold pI
    rw [List.any_cons]
    cases h : g8 s with
    | true => rw [if_pos rfl, Bool.true_or]; exact decide_eq_true hk
    | false => rw [if_neg (by decide), Bool.false_or]; exact idxR_any r (k + 1) (by omega)
theorem idxr_any (A : Option Addr) (cap : Nat) (l : List Sp) (W : World) (hv : Reads yB W W.heap.size A l) (hn : l.length ≤ 1000000) (hl : yL l) (hmay : ∀ s ∈ l, s.may = true) :
    Calls Tryz.prog 67 #[.slice A l.length cap, .func (.func 37) #[] #[]] W fun e w' => e = .returned (.int .i64 (pI l 0)) ∧ Below W.heap.size W w' := by
  refine zM (n := 19) Tryz.func67 rfl (by kernel_rfl) (by kernel_rfl) (ZO (Zv (.int .i64 0) (ZN (z8 (ZO (Zv (.slice A l.length cap) (Zv (.int .i64 (l.length : Int)) (Zv (.int .i64 0) ?_))))))))
  refine ZN (zX (kH (fun L f m => ∃ (k : Nat) (j : Nat → Value), (k ≤ l.length ∧ pI l 0 = pI (l.drop k) (k : Int)) ∧ L = [] ∧ f = jD j [(0, .slice A l.length cap), (1, .func (.func 37) #[] #[]), (7, .int .i64 (l.length : Int)), (8, .int .i64 (k : Int))] ∧ m = l.length - k) (l.length - 0) ⟨0, _, ⟨Nat.zero_le _, by rw [List.drop_zero]; rfl⟩, rfl, ZU, rfl⟩ ?_))
  rintro L f m ⟨k, j, hrel, rfl, rfl, rfl⟩
  have hkl := hrel.1
  refine z8 (zA ?_)
  by_cases h1 : (k : Int) < (l.length : Int)
  · have hk : k < l.length := by omega
    obtain ⟨b, off, hA, hlt, hcel⟩ := hv (by omega)
    obtain ⟨s, hs⟩ : ∃ s, l[k] = s := ⟨_, rfl⟩
    have hsk : s.short := hs ▸ hl l[k] (List.getElem_mem hk)
    have hsm : s.may = true := hs ▸ hmay l[k] (List.getElem_mem hk)
    refine Zd (p := (k : Int) < (l.length : Int)) true (decide_eq_true (h1)) (ZN (z8 (Zt (ZB (z8 (zX (ZO (Zv (.int .i64 (k : Int)) ?_))))))))
    refine Zv (.int .i64 (k : Int)) (ZR (Zv (.func (.func 37) #[] #[]) (Zv (.slice A l.length cap) (Zv (.int .i64 (k : Int)) (zK (.pointer (some ⟨b, off + k * 14, none⟩)) (by kernel_rfl) (ZA (b := b) (off := off) (c := cap) (n := l.length) (k := .i64) (j := (k : Int)) (e := 74) (sz := 14) hA) (Zo (zF s) (a := ⟨b, off + k * 14, none⟩) (fun w hO => yH yD (fun j u h => (hO.below.cell (p := ⟨b, off + j, none⟩) hlt).trans (hcel j u h)) k 0 hk (by omega) _ (by rw [hs]; kernel_rfl)) (Zc (k := 37) (args := #[zF s]) (.bool (g8 s)) (fun w hO => foreign1_any s w hsk hsm) (zL ?_))))))))
    refine z7 ?_
    cases h2 : g8 s with
    | true =>
      refine Zt (ZO (Zv (.int .i64 (k : Int)) (Zv (.int .i64 (k : Int)) (ZN (zB (zD (z6 (yG (zD ?_)))))))))
      exact z6 (ZF (.int .i64 (k : Int)) Tryz.results67 (fun w hO => ⟨by rw [hrel.2, List.drop_eq_getElem_cons hk, hs]; simp only [pI, h2]; rfl, hO.below⟩))
    | false =>
      refine Zf (yT (zR (z7 (zA (Zu (k := .i64) (((k + 1 : Nat) : Int)) (IntWalk.i64_in _ (by omega)) (Zv (.int .i64 ((k + 1 : Nat) : Int)) (zL ?_)))))))
      have hnext : pI l 0 = pI (l.drop (k + 1)) ((k + 1 : Nat) : Int) := by rw [hrel.2, List.drop_eq_getElem_cons hk, hs]; simp only [pI, h2]; rfl
      exact zY (m' := l.length - (k + 1)) (by omega) ⟨k + 1, _, ⟨by omega, hnext⟩, rfl, ZU, rfl⟩
  refine Zd (p := (k : Int) < (l.length : Int)) false (decide_eq_false (h1)) (ZN (z8 (Zf (xQ (yA (y5 (zW (z7 (z8 (zA ?_))))))))))
  exact Zv (.int .i64 (-1)) (ZN (zB (ZF (.int .i64 (-1)) Tryz.results67 (fun w hO => ⟨by rw [hrel.2, List.drop_of_length_le (by omega)]; rfl, hO.below⟩))))
theorem containsr_any (A : Option Addr) (cap : Nat) (l : List Sp) (W : World) (hv : Reads yB W W.heap.size A l) (hn : l.length ≤ 1000000) (hl : yL l) (hmay : ∀ s ∈ l, s.may = true) :
    Calls Tryz.prog 40 #[.slice A l.length cap, .func (.func 37) #[] #[]] W fun e w' => e = .returned (.bool (l.any g8)) ∧ Below W.heap.size W w' := by
  rw [← idxR_any l 0 (by omega)]
  refine zM (n := 9) Tryz.func40 rfl (by kernel_rfl) (by kernel_rfl) (ZO (Zv (.bool false) (ZR (Zv (.slice A l.length cap) (Zv (.func (.func 37) #[] #[]) (Zc (k := 67) (args := #[.slice A l.length cap, .func (.func 37) #[] #[]]) (.int .i64 (pI l 0)) (fun w hO => idxr_any A cap l w (hv.on hO.below hO.size) hn hl hmay) ?_))))))
  by_cases h1 : (0 : Int) ≤ pI l 0
  · refine xO (p := (0 : Int) ≤ pI l 0) true (by kernel_rfl) (fun _ => by kernel_rfl) (decide_eq_true (h1)) ?_
    exact Zv (.bool true) (ZN (zB (ZF (.bool true) Tryz.results40 (fun w hO => ⟨by simp only [decide_eq_true h1], hO.below⟩))))
  exact Zd (p := (0 : Int) ≤ pI l 0) false (decide_eq_false (h1)) (Zv (.bool false) (ZN (zB (ZF (.bool false) Tryz.results40 (fun w hO => ⟨by simp only [decide_eq_false h1], hO.below⟩)))))
theorem sMay_any (A B : Option Addr) (c d : Nat) (a : St) (W : World) (hs : SetIn W W.heap.size A B a) (ca : a.rel.length ≤ c ∧ a.pre.length ≤ d) : Calls Tryz.prog 21 #[.agg #[.slice A a.rel.length c, .slice B a.pre.length d]] W fun e w' => e = .returned (.bool a.may) ∧ Below W.heap.size W w' := by
  refine zM (n := 19) Tryz.func21 rfl (by kernel_rfl) (by kernel_rfl) (ZO (Zb (.agg #[.slice A a.rel.length c, .slice B a.pre.length d]) (fun b1 => Zv (.bool false) (ZR (Zv (.func (.func 37) #[] #[]) (zL (z7 ?_)))))))
  refine ZO (Zv (.pointer (some ⟨b1, 0, none⟩)) (Zl 0 ⟨b1, #[.slice A a.rel.length c, .slice B a.pre.length d], 24⟩ (off := 0) (.slice A a.rel.length c) (Zc (k := 39) (args := #[.slice A a.rel.length c]) (.bool (zS a.rel)) (fun w hO => may4_any A c a.rel w (hs.rel.on hO.below hO.size) (Nat.le_trans hs.lr (by decide)) hs.sr) (Zv (.bool (zS a.rel)) ?_))))
  cases h1 : zS a.rel with
  | true =>
    refine Zv (.pointer (some ⟨b1, 1, none⟩)) (Zl 0 ⟨b1, #[.slice A a.rel.length c, .slice B a.pre.length d], 24⟩ (off := 1) (.slice B a.pre.length d) (Zc (k := 39) (args := #[.slice B a.pre.length d]) (.bool (zS a.pre)) (fun w hO => may4_any B d a.pre w (hs.pre.on hO.below hO.size) (Nat.le_trans hs.lp (by decide)) hs.sp) (Zv (.bool (zS a.pre)) (Zv (.bool (zS a.pre)) ?_))))
    cases h2 : zS a.pre with
    | true =>
      refine Zv (.pointer (some ⟨b1, 0, none⟩)) (Zl 0 ⟨b1, #[.slice A a.rel.length c, .slice B a.pre.length d], 24⟩ (off := 0) (.slice A a.rel.length c) (Zv (.func (.func 37) #[] #[]) (Zc (k := 40) (args := #[.slice A a.rel.length c, .func (.func 37) #[] #[]]) (.bool (a.rel.any g8)) (fun w hO => containsr_any A c a.rel w (hs.rel.on hO.below hO.size) (Nat.le_trans hs.lr (by decide)) hs.sr (vZ h1)) ?_)))
      cases h3 : a.rel.any g8 with
      | true =>
        exact Zv (.bool false) (Zv (.bool false) (Zv (.bool false) (ZN (zB (ZF (.bool false) Tryz.results21 (fun w hO => ⟨by unfold St.may; rw [← wW]; simp [h1, h2, h3], hO.below⟩))))))
      | false =>
        exact Zv (.bool true) (Zv (.bool true) (Zv (.bool true) (ZN (zB (ZF (.bool true) Tryz.results21 (fun w hO => ⟨by unfold St.may; rw [← wW]; simp [h1, h2, h3], hO.below⟩))))))
    | false =>
      exact Zk (Zk (Zk (Zk (Zk (Zv (.bool false) (Zv (.bool false) (ZN (zB (ZF (.bool false) Tryz.results21 (fun w hO => ⟨by unfold St.may; rw [← wW]; simp [h1, h2], hO.below⟩))))))))))
  | false =>
    refine Zk (Zk (Zk (Zv (.bool false) (Zv (.bool false) (Zk (Zk (Zk (Zk (Zk (Zv (.bool false) (Zv (.bool false) ?_)))))))))))
    exact ZN (zB (ZF (.bool false) Tryz.results21 (fun w hO => ⟨by unfold St.may; rw [← wW]; simp [h1], hO.below⟩)))
theorem sNone_any (W : World) : Calls Tryz.prog 29 #[] W fun e w' => e = .returned (.agg #[.slice none 0 0, .slice none 0 0]) ∧ Below W.heap.size W w' := by
  refine zM (n := 2) Tryz.func29 rfl (by kernel_rfl) (by kernel_rfl) (ZO (Za (.agg #[.slice none 0 0, .slice none 0 0]) (fun b1 => ZR (Zv (.agg #[.slice none 0 0, .slice none 0 0]) (Zs 0 ⟨b1, #[.slice none 0 0, .slice none 0 0], 24⟩ (off := 0) (.agg #[.slice none 0 0, .slice none 0 0]) (zL (z7 ?_)))))))
  exact zB (ZC 0 ⟨b1, #[.slice none 0 0, .slice none 0 0], 24⟩ (off := 0) (.agg #[.slice none 0 0, .slice none 0 0]) Tryz.results29 (fun w hO => ⟨rfl, hO.below⟩))
end
section
theorem xN (A B : Option Addr) (c d : Nat) (a : St) (W : World) (hs : SetIn W W.heap.size A B a) (ca : a.rel.length ≤ c ∧ a.pre.length ≤ d) (ht : HasTab W) :
    Calls Tryz.prog 11 #[.agg #[.slice A a.rel.length c, .slice B a.pre.length d]] W fun e w' => e = .returned (.string (mkS (zG a))) ∧ Below W.heap.size W w' := by
  refine zM (n := 21) Tryz.func11 rfl (by kernel_rfl) (by kernel_rfl) (ZO (Zb (.agg #[.slice A a.rel.length c, .slice B a.pre.length d]) (fun b1 => Zv (.string ⟨#[]⟩) (ZN (z8 (ZO (Zl 0 ⟨b1, #[.slice A a.rel.length c, .slice B a.pre.length d], 24⟩ (off := 0) (.agg #[.slice A a.rel.length c, .slice B a.pre.length d]) (Zc (k := 21) (args := #[.agg #[.slice A a.rel.length c, .slice B a.pre.length d]]) (.bool a.may) (fun w hO => sMay_any A B c d a w (hs.on hO.below hO.size) ca) ?_))))))))
  cases h1 : a.may with
  | true =>
    obtain ⟨y1, y2, y3⟩ := St.facts h1
    have z1 := jK (xL y1)
    have z2 := jK (xL y2)
    have z3 := hs.lr
    have z4 := hs.lp
    refine Zv (.bool false) (ZX (ZB (ZO (Za (.agg #[.pointer none, .slice none 0 0]) (fun b2 => ?_)))))
    obtain ⟨o0, eo⟩ : ∃ q, q = ([⟨b2, #[.pointer none, .slice none 0 0], 46⟩] : List Blk) := ⟨_, rfl⟩
    have hB0 : Bu b2 [] o0 := eo ▸ Bu.new b2
    refine kI (L' := o0 ++ ([⟨b1, #[.slice A a.rel.length c, .slice B a.pre.length d], 24⟩])) (by rw [eo]; rfl) (yY (L' := ⟨b1, #[.slice A a.rel.length c, .slice B a.pre.length d], 24⟩ :: (o0)) (fun w hO => hO.perm (List.perm_append_comm (l₁ := o0) (l₂ := ([⟨b1, #[.slice A a.rel.length c, .slice B a.pre.length d], 24⟩] : List Blk)))) (ZR (Zv (.pointer (some ⟨b1, 0, none⟩)) (Zl 0 ⟨b1, #[.slice A a.rel.length c, .slice B a.pre.length d], 24⟩ (off := 0) (.slice A a.rel.length c) (yY (L' := o0 ++ ([⟨b1, #[.slice A a.rel.length c, .slice B a.pre.length d], 24⟩] : List Blk)) (fun w hO => hO.perm (List.perm_append_comm (l₁ := ([⟨b1, #[.slice A a.rel.length c, .slice B a.pre.length d], 24⟩] : List Blk)) (l₂ := o0))) (y9 (k := 22) (args := #[.pointer (some ⟨b2, 0, none⟩), .slice A a.rel.length c]) (fun v' L' => v' = .tuple #[] ∧ ∃ ob', L' = ob' ++ ([⟨b1, #[.slice A a.rel.length c, .slice B a.pre.length d], 24⟩] : List Blk) ∧ Bu b2 ([] ++ zT a.rel) ob') (by kernel_rfl) (fun _ => by kernel_rfl) (fun w hO => (wrow_any b2 [] A c a.rel o0 w hB0 (Own.lent (R := ([⟨b1, #[.slice A a.rel.length c, .slice B a.pre.length d], 24⟩] : List Blk)) hO) W.heap.size (fun x hx => (hO.base x (List.mem_append_left _ hx)).elim id fun q => by simp at q) hO.size ⟨fun w' hb => ht.on (hO.below.trans hb)⟩ (hs.rel.on hO.below (Nat.le_refl _)) (xL y1) hs.sr (by first | omega | (simp only [List.length_append, List.length_cons, List.length_nil]; omega)) (Nat.le_trans hs.lr (by decide))).mono fun e w' ⟨ob', k1, k2, k3⟩ => ⟨_, _, k1, ⟨rfl, ob', rfl, k2⟩, Own.back hO k3⟩) (fun vl1 Ll1 hvl1 => ?_)))))))
    obtain ⟨rfl, ob1, rfl, hB1⟩ := hvl1
    refine yY (L' := ⟨b1, #[.slice A a.rel.length c, .slice B a.pre.length d], 24⟩ :: (ob1)) (fun w hO => hO.perm (List.perm_append_comm (l₁ := ob1) (l₂ := ([⟨b1, #[.slice A a.rel.length c, .slice B a.pre.length d], 24⟩] : List Blk)))) (ZN (z8 (ZO (Zv (.pointer (some ⟨b1, 1, none⟩)) (Zl 0 ⟨b1, #[.slice A a.rel.length c, .slice B a.pre.length d], 24⟩ (off := 1) (.slice B a.pre.length d) (Zv (.int .i64 (a.pre.length : Int)) ?_))))))
    by_cases h2 : (0 : Int) < (a.pre.length : Int)
    · refine xO (p := (0 : Int) < (a.pre.length : Int)) true (by kernel_rfl) (fun _ => by kernel_rfl) (decide_eq_true (h2)) ?_
      refine ZY (ZO (Zv (.pointer (some ⟨b2, 0, none⟩)) (yY (L' := ob1 ++ ([⟨b1, #[.slice A a.rel.length c, .slice B a.pre.length d], 24⟩] : List Blk)) (fun w hO => hO.perm (List.perm_append_comm (l₁ := ([⟨b1, #[.slice A a.rel.length c, .slice B a.pre.length d], 24⟩] : List Blk)) (l₂ := ob1))) (y9 (k := 23) (args := #[.pointer (some ⟨b2, 0, none⟩), .string ⟨#[32, 47, 32]⟩]) (fun v' L' => v' = .tuple #[.int .i64 ((mkS ([32, 47, 32])).size : Int), .nilIface] ∧ ∃ ob', L' = ob' ++ ([⟨b1, #[.slice A a.rel.length c, .slice B a.pre.length d], 24⟩] : List Blk) ∧ Bu b2 ([] ++ zT a.rel ++ ([32, 47, 32])) ob') (by kernel_rfl) (fun _ => by kernel_rfl) (fun w hO => (qU b2 ([] ++ zT a.rel) ([32, 47, 32]) ob1 w hB1 (Own.lent (R := ([⟨b1, #[.slice A a.rel.length c, .slice B a.pre.length d], 24⟩] : List Blk)) hO) (by first | omega | (simp only [List.length_append, List.length_cons, List.length_nil]; omega)) (by first | omega | (simp only [List.length_append, List.length_cons, List.length_nil]; omega))).mono fun e w' ⟨ob', k1, k2, k3⟩ => ⟨_, _, k1, ⟨rfl, ob', rfl, k2⟩, Own.back hO k3⟩) (fun vl2 Ll2 hvl2 => ?_)))))
      obtain ⟨rfl, ob2, rfl, hB2⟩ := hvl2
      refine yY (L' := ⟨b1, #[.slice A a.rel.length c, .slice B a.pre.length d], 24⟩ :: (ob2)) (fun w hO => hO.perm (List.perm_append_comm (l₁ := ob2) (l₂ := ([⟨b1, #[.slice A a.rel.length c, .slice B a.pre.length d], 24⟩] : List Blk)))) (ZN (zA (Zv (.pointer (some ⟨b1, 1, none⟩)) (Zl 0 ⟨b1, #[.slice A a.rel.length c, .slice B a.pre.length d], 24⟩ (off := 1) (.slice B a.pre.length d) (yY (L' := ob2 ++ ([⟨b1, #[.slice A a.rel.length c, .slice B a.pre.length d], 24⟩] : List Blk)) (fun w hO => hO.perm (List.perm_append_comm (l₁ := ([⟨b1, #[.slice A a.rel.length c, .slice B a.pre.length d], 24⟩] : List Blk)) (l₂ := ob2))) (y9 (k := 22) (args := #[.pointer (some ⟨b2, 0, none⟩), .slice B a.pre.length d]) (fun v' L' => v' = .tuple #[] ∧ ∃ ob', L' = ob' ++ ([⟨b1, #[.slice A a.rel.length c, .slice B a.pre.length d], 24⟩] : List Blk) ∧ Bu b2 ([] ++ zT a.rel ++ ([32, 47, 32]) ++ zT a.pre) ob') (by kernel_rfl) (fun _ => by kernel_rfl) (fun w hO => (wrow_any b2 ([] ++ zT a.rel ++ ([32, 47, 32])) B d a.pre ob2 w hB2 (Own.lent (R := ([⟨b1, #[.slice A a.rel.length c, .slice B a.pre.length d], 24⟩] : List Blk)) hO) W.heap.size (fun x hx => (hO.base x (List.mem_append_left _ hx)).elim id fun q => by simp at q) hO.size ⟨fun w' hb => ht.on (hO.below.trans hb)⟩ (hs.pre.on hO.below (Nat.le_refl _)) (xL y2) hs.sp (by first | omega | (simp only [List.length_append, List.length_cons, List.length_nil]; omega)) (Nat.le_trans hs.lp (by decide))).mono fun e w' ⟨ob', k1, k2, k3⟩ => ⟨_, _, k1, ⟨rfl, ob', rfl, k2⟩, Own.back hO k3⟩) (fun vl3 Ll3 hvl3 => ?_)))))))
      obtain ⟨rfl, ob3, rfl, hB3⟩ := hvl3
      refine yY (L' := ⟨b1, #[.slice A a.rel.length c, .slice B a.pre.length d], 24⟩ :: (ob3)) (fun w hO => hO.perm (List.perm_append_comm (l₁ := ob3) (l₂ := ([⟨b1, #[.slice A a.rel.length c, .slice B a.pre.length d], 24⟩] : List Blk)))) (ZR (Zv (.pointer (some ⟨b2, 0, none⟩)) ?_))
      have hfin : [] ++ zT a.rel ++ ([32, 47, 32]) ++ zT a.pre = yI a := by unfold yI; rw [if_neg (fun e => absurd h2 (by rw [e]; decide))]; simp
      rw [hfin] at hB3
      refine y9 (k := 24) (args := #[.pointer (some ⟨b2, 0, none⟩)]) (fun v' L' => v' = .string (mkS (yI a)) ∧ L' = []) (by kernel_rfl) (fun _ => by kernel_rfl) (fun w hO => (tP b2 (yI a) ob3 W w hB3 (Own.sub [⟨b1, #[.slice A a.rel.length c, .slice B a.pre.length d], 24⟩] hO) (stext_ne h1)).mono fun e w' ⟨k1, k2⟩ => ⟨_, _, k1, ⟨rfl, rfl⟩, k2⟩) (fun v9 L9 hv9 => ?_)
      obtain ⟨rfl, rfl⟩ := hv9
      exact Zv (.string (mkS (yI a))) (ZN (zB (ZF (.string (mkS (yI a))) Tryz.results11 (fun w hO => ⟨by rw [show zG a = yI a from if_pos h1], hO.below⟩))))
    refine Zd (p := (0 : Int) < (a.pre.length : Int)) false (decide_eq_false (h2)) (ZX (ZB (ZO (Zv (.pointer (some ⟨b2, 0, none⟩)) ?_))))
    have hfin : [] ++ zT a.rel = yI a := by unfold yI; rw [if_pos (List.eq_nil_of_length_eq_zero (by omega))]; simp
    rw [hfin] at hB1
    refine y9 (k := 24) (args := #[.pointer (some ⟨b2, 0, none⟩)]) (fun v' L' => v' = .string (mkS (yI a)) ∧ L' = []) (by kernel_rfl) (fun _ => by kernel_rfl) (fun w hO => (tP b2 (yI a) ob1 W w hB1 (Own.sub [⟨b1, #[.slice A a.rel.length c, .slice B a.pre.length d], 24⟩] hO) (stext_ne h1)).mono fun e w' ⟨k1, k2⟩ => ⟨_, _, k1, ⟨rfl, rfl⟩, k2⟩) (fun v9 L9 hv9 => ?_)
    obtain ⟨rfl, rfl⟩ := hv9
    exact Zv (.string (mkS (yI a))) (ZN (zB (ZF (.string (mkS (yI a))) Tryz.results11 (fun w hO => ⟨by rw [show zG a = yI a from if_pos h1], hO.below⟩))))
  | false =>
    refine Zv (.bool true) (ZY (ZO (Zv (.string ⟨#[]⟩) (ZN (zB (z6 (ZF (.string ⟨#[]⟩) Tryz.results11 ?_)))))))
    exact fun w hO => ⟨by rw [show zG a = [] from if_neg (by rw [h1]; decide)]; rfl, hO.below⟩
end
section
end
section
structure HasLib (w : World) : Prop where
  tab : HasTab w
  max : ∃ m, w.cell? ⟨0, 0, none⟩ = some (.int .i64 m)
theorem HasLib.on {w w' : World} (h : HasLib w) (hb : Below w.heap.size w w') : HasLib w' :=
  ⟨h.tab.on hb, let ⟨m, hm⟩ := h.max; ⟨m, (hb.cell (World.block_lt_of_cell? _ _ hm)).trans hm⟩⟩
theorem bS {W : World} (ht : HasTab W) (hS : W.ShapedOpen Tryz.prog) : HasLib W := ⟨ht, Tryz.laysM143.s1_3 W hS⟩
theorem split_own (s sep : List UInt8) (l : List (List UInt8)) (W : World) (h0 : 1 ≤ sep.length) (hs : s.length ≤ 1000000) (hl : Lib.splitB (mkS sep) 0 (Lib.countB (mkS s) (mkS sep)) (mkS s) = l.map mkS) (ht : HasLib W) :
    Calls Tryz.prog 47 #[.string (mkS s), .string (mkS sep)] W fun e w' => ∃ v' ob', e = .returned v' ∧ SlT v' l ob' ∧ Own [] W w' ob' := by
  obtain ⟨m, hm⟩ := ht.max
  have hz : (mkS sep).size = sep.length := yC sep
  have hlen := Lib.splitB_all (mkS sep) (by omega) 0 _ (mkS s) rfl
  have hle := Lib.countB_le (mkS sep) (by omega) (mkS s).size (mkS s) (Nat.le_refl _)
  rw [yC] at hle
  rw [hl, List.length_map] at hlen
  refine (Tryz.strings_Split (mkS s) (mkS sep) m W (by rw [yC]; omega) hm (by omega)).mono fun e w' ⟨he, hw⟩ => ?_
  subst hw
  rw [hl, List.map_map] at *
  rw [← hlen] at he
  refine ⟨_, _, he, slt_lit l W.heap.size _ (by unfold d5; rfl) (by unfold maxLen; omega), (Own.start [] W).alloc _ _⟩
def joinT (sep : List UInt8) : List (List UInt8) → List UInt8
  | [] => []
  | x :: r => sep ++ x ++ joinT sep r
theorem SlT.caps {A : Option Addr} {n cap : Nat} {l : List (List UInt8)} {ob : List Blk} (h : SlT (.slice A n cap) l ob) : n = l.length ∧ l.length ≤ cap := by
  rcases h.2 with ⟨h1, h2, _⟩ | ⟨g, c, cur, h1, _, h3, _⟩
  · injection h1 with q1 q2 q3
    exact ⟨by omega, by omega⟩
  · injection h1 with q1 q2 q3
    exact ⟨q2, by omega⟩
end
section
theorem split_or (s : List UInt8) (W : World) (hs : s.length ≤ 1000000) (ht : HasLib W) :
    Calls Tryz.prog 47 #[.string (mkS s), .string ⟨#[32, 111, 114, 32]⟩] W fun e w' => ∃ v' ob', e = .returned v' ∧ SlT v' (tB s) ob' ∧ Own [] W w' ob' :=
  split_own s [32, 111, 114, 32] (tB s) W (by decide) hs (by rw [dW, show Lib.countB (mkS s) (mkS [32, 111, 114, 32]) = Lib.count s [32, 111, 114, 32] from by unfold Lib.countB; rw [mk_data, mk_data]]; rfl) ht
theorem split_sp (s : List UInt8) (W : World) (hs : s.length ≤ 1000000) (ht : HasLib W) :
    Calls Tryz.prog 47 #[.string (mkS s), .string ⟨#[32]⟩] W fun e w' => ∃ v' ob', e = .returned v' ∧ SlT v' (y7 32 [] s) ob' ∧ Own [] W w' ob' :=
  split_own s [32] (y7 32 [] s) W (by decide) hs (splitB_cuts 32 s) ht
theorem cut_stroke (s r1 r2 : List UInt8) (m : Bool) (hc : Lib.cut s [32, 47, 32] = (r1, r2, m)) (W : World) (hs : s.length ≤ 1000000) (ht : HasLib W) :
    Calls Tryz.prog 27 #[.string (mkS s), .string ⟨#[32, 47, 32]⟩] W fun e w' => e = .returned (.tuple #[.string (mkS r1), .string (mkS r2), .bool m]) ∧ Below W.heap.size W w' := by
  obtain ⟨x, hm⟩ := ht.max
  refine (Tryz.strings_Cut (mkS s) (mkS [32, 47, 32]) x W (by rw [yC]; omega) hm).mono fun e w' ⟨he, n, hw⟩ => ⟨?_, by rw [hw]; exact fK (Below.refl _ _) n⟩
  rw [he, mk_data, mk_data, hc]; rfl
theorem cut_lens {s r1 r2 : List UInt8} {m : Bool} (hc : Lib.cut s [32, 47, 32] = (r1, r2, m)) : r1.length ≤ s.length ∧ r2.length ≤ s.length := by
  unfold Lib.cut at hc
  split at hc
  · injection hc with h1 h2
    injection h2 with h2 h3
    rw [← h1, ← h2, List.length_take, List.length_drop]
    exact ⟨Nat.min_le_right .., Nat.sub_le ..⟩
  · injection hc with h1 h2
    injection h2 with h2 h3
    rw [← h1, ← h2]
    exact ⟨Nat.le_refl _, Nat.zero_le _⟩
theorem sgs_info : (Tryz.prog.info? (Tryz.lays161_ren.t 116)).map (fun i => (i.zero, i.size)) = some (some (.agg (Array.replicate 256 (.bool false))), 256) := by kernel_rfl
theorem trim_signs (p : List UInt8) (W : World) : Calls Tryz.prog 76 #[.string (mkS p), .string ⟨#[60, 61, 62]⟩] W fun e w' => e = .returned (.string (mkS (vG p))) ∧ Below W.heap.size W w' := by
  by_cases h0 : p = []
  · subst h0
    exact (Any.strings_TrimLeft_empty Tryz.lays161 (mkS []) (mkS sgs) W (.inl rfl)).mono fun e w' ⟨he, hw⟩ => ⟨he, hw ▸ Below.refl _ _⟩
  · have hz : 0 < (mkS p).size := by rw [yC]; exact List.length_pos_iff.2 h0
    refine (Any.strings_TrimLeft_set Tryz.lays161 (zero_of_info sgs_info).1 (zero_of_info sgs_info).2 (mkS p) (mkS sgs) W (by decide) hz (by decide) (ascii_of_all (by decide))).mono fun e w' ⟨he, hw⟩ => ⟨?_, ?_⟩
    · rw [he, mk_data, mk_data]; rfl
    · rw [hw]
      exact ((Below.refl _ W).alloc (Nat.le_refl _) _).alloc (by simp) _
theorem trim_number (p : List UInt8) (W : World) (hp : p.length ≤ 1000000) : Calls Tryz.prog 78 #[.string (mkS p), .string (mkS (vG p))] W fun e w' => e = .returned (.string (mkS (vS p))) ∧ Below W.heap.size W w' :=
  (Tryz.strings_TrimSuffix (mkS p) (mkS (vG p)) W (by rw [yC]; omega)).mono fun e w' ⟨he, hw⟩ => by
    refine ⟨?_, hw ▸ Below.refl _ _⟩
    rw [he, mk_data, mk_data, trim_sgn]; rfl
theorem ors_ne (s : List UInt8) : tB s ≠ [] := by
  rw [ors_unf]
  split <;> simp
theorem tT (b : UInt8) : ∀ (s acc : List UInt8), (y7 b acc s).length ≤ s.length + 1 := fun s acc => by
  have h : ∀ (n : Nat) (s acc : List UInt8), s.length ≤ n → (y7 b acc s).length ≤ s.length + 1 := by
    intro n
    induction n with
    | zero =>
      intro s acc hs
      obtain rfl := List.eq_nil_of_length_eq_zero (Nat.le_zero.1 hs)
      simp [y7]
    | succ n ih =>
      intro s acc hs
      cases s with
      | nil => simp [y7]
      | cons c r =>
        rw [y7]
        split
        · have := ih r [] (by simp at hs; omega)
          simp only [List.length_cons]; omega
        · have := ih r (acc ++ [c]) (by simp at hs; omega)
          simp only [List.length_cons]; omega
  exact h _ s acc (Nat.le_refl _)
theorem pV (b : UInt8) : ∀ (s acc : List UInt8), ∀ x ∈ y7 b acc s, x.length ≤ acc.length + s.length := fun s => by
  induction s with
  | nil => intro acc x hx; rw [y7, List.mem_singleton] at hx; rw [hx]; exact Nat.le_add_right ..
  | cons c r ih =>
    intro acc x hx
    rw [y7] at hx
    split at hx
    · rcases List.mem_cons.1 hx with rfl | hx
      · exact Nat.le_add_right ..
      · have := ih [] x hx
        simp only [List.length_nil, List.length_cons] at this ⊢; omega
    · have := ih (acc ++ [c]) x hx
      simp only [List.length_append, List.length_cons, List.length_nil] at this ⊢; omega
end
section
end
section
theorem SetO.reads {A B : Option Addr} {c d n m : Nat} {a : St} {ob L : List Blk} {M : List Nat} {W w : World} (h : SetO (.agg #[.slice A a.rel.length c, .slice B a.pre.length d]) a ob) (hO : Own M W w L) (hob : ∀ x ∈ ob, x ∈ L) : Reads yB w w.heap.size A a.rel ∧ Reads yB w w.heap.size B a.pre := by
  obtain ⟨v1, v2, o1, o2, e, rfl, h1, h2⟩ := h
  obtain ⟨rfl, rfl⟩ := agg_two e
  exact ⟨Sl.reads h1 rfl hO (fun x hx => hob x (by simp [hx])), Sl.reads h2 rfl hO (fun x hx => hob x (by simp [hx]))⟩
end
section
theorem bU {l : List (List UInt8)} {i : Nat} (hi : i < l.length) {y : List UInt8} (hy : l[i] = y) {x x' : Sp} (hx : x = (l.take i).foldl kB spW0) (h : kB x y = x') : x' = (l.take (i + 1)).foldl kB spW0 := by
  rw [List.take_succ_eq_append_getElem hi, List.foldl_append, ← hx, hy]; exact h.symm
theorem tail_le (c : UInt8) (l : List UInt8) : l.length ≤ (kE c l).length := by
  unfold kE
  split
  · rename_i h; rw [List.isEmpty_iff.1 h]; exact Nat.zero_le _
  · rw [List.length_cons]; omega
theorem f9 {s : List UInt8} (hs : s.length ≤ 1000000) : ((x5 s).getD Ver.zero).short := by
  cases h : x5 s with
  | none => exact ⟨Nat.zero_le _, Nat.zero_le _⟩
  | some v =>
    have e := congrArg List.length (tY h).2
    unfold Ver.text at e
    rw [List.length_append, List.length_append] at e
    have h1 := tail_le 45 v.pre
    have h2 := tail_le 43 v.build
    show v.pre.length ≤ 1000000 ∧ v.build.length ≤ 1000000
    exact ⟨by omega, by omega⟩
theorem rdPart_short {x : Sp} (h : x.short) {p : List UInt8} (hp0 : p.length ≤ 1000000) : (kB x p).short := by
  have hp : ∀ a, (Cu.mk 0 ((x5 (vG p)).getD Ver.zero) a).short := fun a => f9 (Nat.le_trans (num_len p) hp0)
  unfold kB
  repeat' split
  all_goals first | exact h | exact ⟨hp _, h.2⟩ | exact ⟨h.1, hp _⟩
theorem rdSpan_short {s : List UInt8} (hs : s.length ≤ 1000000) : (b6 s).short := by
  unfold b6
  have key : ∀ (l : List (List UInt8)) (x : Sp), (∀ p ∈ l, p.length ≤ 1000000) → x.short → (l.foldl kB x).short := by
    intro l
    induction l with
    | nil => intro x _ h; exact h
    | cons p l ih => intro x hl h; exact ih _ (fun q hq => hl q (List.mem_cons_of_mem _ hq)) (rdPart_short h (hl p (List.mem_cons_self ..)))
  refine key _ _ (fun p hp => ?_) ⟨⟨Nat.zero_le _, Nat.zero_le _⟩, ⟨Nat.zero_le _, Nat.zero_le _⟩⟩
  have := pV 32 s [] p hp
  simp at this; omega
theorem dB {s : List UInt8} (hs : s.length ≤ 1000000) : yL (yX s) ∧ (yX s).length ≤ s.length + 1 := by
  unfold yX
  split
  · exact ⟨fun x hx => by simp at hx, Nat.zero_le _⟩
  · refine ⟨fun x hx => ?_, by rw [List.length_map]; exact ors_len s⟩
    obtain ⟨y, hy, rfl⟩ := List.mem_map.1 hx
    exact rdSpan_short (Nat.le_trans (ors_le s y hy) hs)
def k6 (s : List UInt8) : Int := if (yR s).isSome then 0 else 2
theorem dD {s : List UInt8} {x : St} (hx : wO s = x) (h : zG x = s) : yR s = some x := by rw [← land_eq, hx, if_pos h]
theorem wS {s : List UInt8} {x : St} (hx : wO s = x) (h : ¬ zG x = s) : yR s = none := by rw [← land_eq, hx, if_neg h]
theorem own_ab {M : List Nat} {W w : World} {x y : Blk} {A B : List Blk} (h : Own M W w (A ++ (x :: y :: B))) : Own M W w (x :: y :: (A ++ B)) :=
  h.perm (List.perm_append_comm.trans ((List.Perm.cons x (List.Perm.cons y List.perm_append_comm))))
theorem tReadSpan_any (s : List UInt8) (W : World) (hs : s.length ≤ 1000000) (ht : HasLib W) : Calls Tryz.prog 48 #[.string (mkS s)] W fun e w' => e = .returned (zF (b6 s)) ∧ Below W.heap.size W w' := by
  refine zM (n := 51) Tryz.func48 rfl (by kernel_rfl) (by kernel_rfl) (ZO (Za (.agg #[.int .i64 0, .int .i64 0, .int .i64 0, .int .i64 0, .string ⟨#[]⟩, .string ⟨#[]⟩, .bool false, .int .i64 0, .int .i64 0, .int .i64 0, .int .i64 0, .string ⟨#[]⟩, .string ⟨#[]⟩, .bool false]) (fun b1 => ZR (Zv (.agg #[.int .i64 (-1), .int .i64 0, .int .i64 0, .int .i64 0, .string ⟨#[]⟩, .string ⟨#[]⟩, .bool false]) (Zv (.agg #[.int .i64 1, .int .i64 0, .int .i64 0, .int .i64 0, .string ⟨#[]⟩, .string ⟨#[]⟩, .bool false]) (Zv (.agg #[.int .i64 (-1), .int .i64 0, .int .i64 0, .int .i64 0, .string ⟨#[]⟩, .string ⟨#[]⟩, .bool false, .int .i64 1, .int .i64 0, .int .i64 0, .int .i64 0, .string ⟨#[]⟩, .string ⟨#[]⟩, .bool false]) (Za (.agg #[.int .i64 0, .int .i64 0, .int .i64 0, .int .i64 0, .string ⟨#[]⟩, .string ⟨#[]⟩, .bool false, .int .i64 0, .int .i64 0, .int .i64 0, .int .i64 0, .string ⟨#[]⟩, .string ⟨#[]⟩, .bool false]) (fun b2 => ?_))))))))
  refine Zs 0 ⟨b2, #[.int .i64 0, .int .i64 0, .int .i64 0, .int .i64 0, .string ⟨#[]⟩, .string ⟨#[]⟩, .bool false, .int .i64 0, .int .i64 0, .int .i64 0, .int .i64 0, .string ⟨#[]⟩, .string ⟨#[]⟩, .bool false], 74⟩ (off := 0) (.agg #[.int .i64 (-1), .int .i64 0, .int .i64 0, .int .i64 0, .string ⟨#[]⟩, .string ⟨#[]⟩, .bool false, .int .i64 1, .int .i64 0, .int .i64 0, .int .i64 0, .string ⟨#[]⟩, .string ⟨#[]⟩, .bool false]) (ZN (z8 (ZO (Zv (.string (mkS s)) (y9 (k := 47) (args := #[.string (mkS s), .string ⟨#[32]⟩]) (fun v' L' => ∃ ob', L' = ob' ++ ([⟨b2, #[.int .i64 (-1), .int .i64 0, .int .i64 0, .int .i64 0, .string ⟨#[]⟩, .string ⟨#[]⟩, .bool false, .int .i64 1, .int .i64 0, .int .i64 0, .int .i64 0, .string ⟨#[]⟩, .string ⟨#[]⟩, .bool false], 74⟩, ⟨b1, #[.int .i64 0, .int .i64 0, .int .i64 0, .int .i64 0, .string ⟨#[]⟩, .string ⟨#[]⟩, .bool false, .int .i64 0, .int .i64 0, .int .i64 0, .int .i64 0, .string ⟨#[]⟩, .string ⟨#[]⟩, .bool false], 74⟩]) ∧ SlT v' (y7 32 [] s) ob') (by kernel_rfl) (fun _ => by kernel_rfl) (fun w hO => (split_sp s w (by omega) (ht.on hO.below)).mono fun e w' ⟨v', ob', k1, k2, k3⟩ => ⟨v', _, k1, ⟨ob', rfl, k2⟩, Own.joinN hO k3⟩) (fun lv L2 hv2 => ?_))))))
  obtain ⟨ol, rfl, hol⟩ := hv2
  obtain ⟨l, hll⟩ : ∃ l, l = y7 32 [] s := ⟨_, rfl⟩
  rw [← hll] at hol
  have hln : l.length ≤ s.length + 1 := by rw [hll]; exact tT 32 s []
  have hlm : ∀ x ∈ l, x.length ≤ s.length := fun x hx => by have := pV 32 s [] x (hll ▸ hx); simpa using this
  obtain ⟨g, cur, lcap, rfl, rfl, hcur⟩ := SlT.blk hol (by rw [hll]; exact vR 32 s [])
  refine Zv (.int .i64 (l.length : Int)) (Zv (.int .i64 0) (ZN (zX ?_)))
  obtain ⟨x0, hx0⟩ : ∃ x, x = spW0 := ⟨_, rfl⟩
  refine kH (fun L f m => ∃ (i : Nat) (x : Sp) (j : Nat → Value), (i ≤ l.length ∧ x = (l.take i).foldl kB spW0) ∧ L = [⟨g, cur, 9⟩, ⟨b2, (zF x).cells, 74⟩, ⟨b1, #[.int .i64 0, .int .i64 0, .int .i64 0, .int .i64 0, .string ⟨#[]⟩, .string ⟨#[]⟩, .bool false, .int .i64 0, .int .i64 0, .int .i64 0, .int .i64 0, .string ⟨#[]⟩, .string ⟨#[]⟩, .bool false], 74⟩] ∧ f = jD j [(2, .pointer (some ⟨b1, 0, none⟩)), (3, .pointer (some ⟨b2, 0, none⟩)), (13, .slice (some ⟨g, 0, none⟩) l.length lcap), (14, .int .i64 (l.length : Int)), (15, .int .i64 (i : Int))] ∧ m = l.length - i) (l.length - 0) ⟨0, spW0, _, ⟨Nat.zero_le _, rfl⟩, rfl, ZU, rfl⟩ ?_
  rintro L f m ⟨i, x, j, hrel, rfl, rfl, rfl⟩
  have hil := hrel.1
  refine z8 (zA ?_)
  by_cases h1 : (i : Int) < (l.length : Int)
  · have hi : i < l.length := by omega
    obtain ⟨y, hy⟩ : ∃ y, l[i] = y := ⟨_, rfl⟩
    have hyl : y.length ≤ s.length := hlm y (hy ▸ List.getElem_mem hi)
    have hnl := num_len y
    obtain ⟨v, hv⟩ : ∃ v, v = (x5 (vG y)).getD Ver.zero := ⟨_, rfl⟩
    refine Zd (p := (i : Int) < (l.length : Int)) true (decide_eq_true (h1)) (ZN (z8 (Zt (ZB (z8 (zX (ZO (zK (.pointer (some ⟨g, i * 1, none⟩)) (by kernel_rfl) (ZV (b := g) (off := 0) (n := l.length) (c := lcap) (k := .i64) (j := (i : Int)) (e := 9) (sz := 1)) ?_))))))))
    refine s_load 0 ⟨g, cur, 9⟩ (off := i * 1) (.string (mkS y)) (by kernel_rfl) rfl (by kernel_rfl) (by kernel_rfl) (gT q9 hcur i 0 (by omega) (by omega) _ (by rw [hy]; kernel_rfl)) (Zv (.string (mkS y)) (ZR (Zv (.string (mkS y)) (Zc (k := 76) (args := #[.string (mkS y), .string ⟨#[60, 61, 62]⟩]) (.string (mkS (vG y))) (fun w _ => trim_signs y w) (Zv (.string (mkS (vG y))) (ZN (z8 ?_)))))))
    refine zA (Zv (.string (mkS (vG y))) (Zc (k := 77) (args := #[.string (mkS (vG y))]) (.tuple #[zP v, .int .i64 (vU (vG y))]) (fun w hO => by rw [hv]; exact parse_any (vG y) w (by omega) (ht.tab.on hO.below)) (Zv (.tuple #[zP v, .int .i64 (vU (vG y))]) (Zv (zP v) (Zv (.int .i64 (vU (vG y))) (Za (.agg #[.int .i64 0, .int .i64 0, .int .i64 0, .string ⟨#[]⟩, .string ⟨#[]⟩]) (fun b3 => Zs 0 ⟨b3, #[.int .i64 0, .int .i64 0, .int .i64 0, .string ⟨#[]⟩, .string ⟨#[]⟩], 70⟩ (off := 0) (zP v) (Zv (.int .i64 (vU (vG y))) (ZN (z8 ?_))))))))))
    refine zA (Zv (.string (mkS y)) (Zv (.string (mkS (vG y))) (Zc (k := 78) (args := #[.string (mkS y), .string (mkS (vG y))]) (.string (mkS (vS y))) (fun w _ => trim_number y w (by omega)) (ZN (zX (z8 (zA ?_)))))))
    by_cases h2 : ((vS y) : List UInt8) = [62, 61]
    · refine zK (.bool true) (by kernel_rfl) (zI (a := (vS y)) (b := ([62, 61])) rfl (by kernel_rfl) (by kernel_rfl) (decide_eq_true (h2))) ?_
      refine Zv (.bool true) (ZY (zA (Zl 0 ⟨b3, (zP v).cells, 70⟩ (off := 0) (zP v) (Zv (.agg #[.int .i64 0, .int .i64 v.maj, .int .i64 v.min, .int .i64 v.pat, .string (mkS v.pre), .string (mkS v.build), .bool false]) (Zv (.pointer (some ⟨b2, 0, none⟩)) (Zs 2 ⟨b2, (zF x).cells, 74⟩ (off := 0) (.agg #[.int .i64 0, .int .i64 v.maj, .int .i64 v.min, .int .i64 v.pat, .string (mkS v.pre), .string (mkS v.build), .bool false]) (zL (zR (zR ?_)))))))))
      refine z7 (zA (Zu (k := .i64) (((i + 1 : Nat) : Int)) (IntWalk.i64_in _ (by omega)) (Zv (.int .i64 ((i + 1 : Nat) : Int)) (zL ?_))))
      have hrd : kB x y = ⟨⟨0, v, false⟩, x.hi⟩ := by unfold kB; rw [if_pos h2, hv]
      exact xT (L' := [⟨g, cur, 9⟩, ⟨b2, #[.int .i64 0, .int .i64 v.maj, .int .i64 v.min, .int .i64 v.pat, .string (mkS v.pre), .string (mkS v.build), .bool false, .int .i64 x.hi.e, .int .i64 x.hi.v.maj, .int .i64 x.hi.v.min, .int .i64 x.hi.v.pat, .string (mkS x.hi.v.pre), .string (mkS x.hi.v.build), .bool x.hi.aft], 74⟩, ⟨b1, #[.int .i64 0, .int .i64 0, .int .i64 0, .int .i64 0, .string ⟨#[]⟩, .string ⟨#[]⟩, .bool false, .int .i64 0, .int .i64 0, .int .i64 0, .int .i64 0, .string ⟨#[]⟩, .string ⟨#[]⟩, .bool false], 74⟩]) (fun w hO => Own.sub [⟨b3, (zP v).cells, 70⟩] hO) (zY (m' := l.length - (i + 1)) (by omega) ⟨i + 1, (⟨⟨0, v, false⟩, x.hi⟩ : Sp), _, ⟨by omega, bU hi hy hrel.2 hrd⟩, rfl, ZU, rfl⟩)
    refine zK (.bool false) (by kernel_rfl) (zI (a := (vS y)) (b := ([62, 61])) rfl (by kernel_rfl) (by kernel_rfl) (decide_eq_false (h2))) (Zv (.bool false) (ZX (z8 (zA ?_))))
    by_cases h3 : ((vS y) : List UInt8) = [62]
    · refine zK (.bool true) (by kernel_rfl) (zI (a := (vS y)) (b := ([62])) rfl (by kernel_rfl) (by kernel_rfl) (decide_eq_true (h3))) ?_
      refine Zv (.bool true) (ZY (zA (Zl 0 ⟨b3, (zP v).cells, 70⟩ (off := 0) (zP v) (Zv (.agg #[.int .i64 0, .int .i64 v.maj, .int .i64 v.min, .int .i64 v.pat, .string (mkS v.pre), .string (mkS v.build), .bool true]) (Zv (.pointer (some ⟨b2, 0, none⟩)) (Zs 2 ⟨b2, (zF x).cells, 74⟩ (off := 0) (.agg #[.int .i64 0, .int .i64 v.maj, .int .i64 v.min, .int .i64 v.pat, .string (mkS v.pre), .string (mkS v.build), .bool true]) (zL (zR (zR ?_)))))))))
      refine z7 (zA (Zu (k := .i64) (((i + 1 : Nat) : Int)) (IntWalk.i64_in _ (by omega)) (Zv (.int .i64 ((i + 1 : Nat) : Int)) (zL ?_))))
      have hrd : kB x y = ⟨⟨0, v, true⟩, x.hi⟩ := by unfold kB; rw [if_neg h2, if_pos h3, hv]
      exact xT (L' := [⟨g, cur, 9⟩, ⟨b2, #[.int .i64 0, .int .i64 v.maj, .int .i64 v.min, .int .i64 v.pat, .string (mkS v.pre), .string (mkS v.build), .bool true, .int .i64 x.hi.e, .int .i64 x.hi.v.maj, .int .i64 x.hi.v.min, .int .i64 x.hi.v.pat, .string (mkS x.hi.v.pre), .string (mkS x.hi.v.build), .bool x.hi.aft], 74⟩, ⟨b1, #[.int .i64 0, .int .i64 0, .int .i64 0, .int .i64 0, .string ⟨#[]⟩, .string ⟨#[]⟩, .bool false, .int .i64 0, .int .i64 0, .int .i64 0, .int .i64 0, .string ⟨#[]⟩, .string ⟨#[]⟩, .bool false], 74⟩]) (fun w hO => Own.sub [⟨b3, (zP v).cells, 70⟩] hO) (zY (m' := l.length - (i + 1)) (by omega) ⟨i + 1, (⟨⟨0, v, true⟩, x.hi⟩ : Sp), _, ⟨by omega, bU hi hy hrel.2 hrd⟩, rfl, ZU, rfl⟩)
    refine zK (.bool false) (by kernel_rfl) (zI (a := (vS y)) (b := ([62])) rfl (by kernel_rfl) (by kernel_rfl) (decide_eq_false (h3))) (Zv (.bool false) (ZX (z8 (zA ?_))))
    by_cases h4 : ((vS y) : List UInt8) = [60]
    · refine zK (.bool true) (by kernel_rfl) (zI (a := (vS y)) (b := ([60])) rfl (by kernel_rfl) (by kernel_rfl) (decide_eq_true (h4))) ?_
      refine Zv (.bool true) (ZY (zA (Zl 0 ⟨b3, (zP v).cells, 70⟩ (off := 0) (zP v) (Zv (.agg #[.int .i64 0, .int .i64 v.maj, .int .i64 v.min, .int .i64 v.pat, .string (mkS v.pre), .string (mkS v.build), .bool false]) (Zv (.pointer (some ⟨b2, 7, none⟩)) (Zs 2 ⟨b2, (zF x).cells, 74⟩ (off := 7) (.agg #[.int .i64 0, .int .i64 v.maj, .int .i64 v.min, .int .i64 v.pat, .string (mkS v.pre), .string (mkS v.build), .bool false]) (zL (zR (zR ?_)))))))))
      refine z7 (zA (Zu (k := .i64) (((i + 1 : Nat) : Int)) (IntWalk.i64_in _ (by omega)) (Zv (.int .i64 ((i + 1 : Nat) : Int)) (zL ?_))))
      have hrd : kB x y = ⟨x.lo, ⟨0, v, false⟩⟩ := by unfold kB; rw [if_neg h2, if_neg h3, if_pos h4, hv]
      exact xT (L' := [⟨g, cur, 9⟩, ⟨b2, #[.int .i64 x.lo.e, .int .i64 x.lo.v.maj, .int .i64 x.lo.v.min, .int .i64 x.lo.v.pat, .string (mkS x.lo.v.pre), .string (mkS x.lo.v.build), .bool x.lo.aft, .int .i64 0, .int .i64 v.maj, .int .i64 v.min, .int .i64 v.pat, .string (mkS v.pre), .string (mkS v.build), .bool false], 74⟩, ⟨b1, #[.int .i64 0, .int .i64 0, .int .i64 0, .int .i64 0, .string ⟨#[]⟩, .string ⟨#[]⟩, .bool false, .int .i64 0, .int .i64 0, .int .i64 0, .int .i64 0, .string ⟨#[]⟩, .string ⟨#[]⟩, .bool false], 74⟩]) (fun w hO => Own.sub [⟨b3, (zP v).cells, 70⟩] hO) (zY (m' := l.length - (i + 1)) (by omega) ⟨i + 1, (⟨x.lo, ⟨0, v, false⟩⟩ : Sp), _, ⟨by omega, bU hi hy hrel.2 hrd⟩, rfl, ZU, rfl⟩)
    refine zK (.bool false) (by kernel_rfl) (zI (a := (vS y)) (b := ([60])) rfl (by kernel_rfl) (by kernel_rfl) (decide_eq_false (h4))) (Zv (.bool false) (ZX (z8 (zA ?_))))
    by_cases h5 : ((vS y) : List UInt8) = [60, 61]
    · refine zK (.bool true) (by kernel_rfl) (zI (a := (vS y)) (b := ([60, 61])) rfl (by kernel_rfl) (by kernel_rfl) (decide_eq_true (h5))) ?_
      refine Zv (.bool true) (ZY (zA (Zl 0 ⟨b3, (zP v).cells, 70⟩ (off := 0) (zP v) (Zv (.agg #[.int .i64 0, .int .i64 v.maj, .int .i64 v.min, .int .i64 v.pat, .string (mkS v.pre), .string (mkS v.build), .bool true]) (Zv (.pointer (some ⟨b2, 7, none⟩)) (Zs 2 ⟨b2, (zF x).cells, 74⟩ (off := 7) (.agg #[.int .i64 0, .int .i64 v.maj, .int .i64 v.min, .int .i64 v.pat, .string (mkS v.pre), .string (mkS v.build), .bool true]) (zL (zR (zR ?_)))))))))
      refine z7 (zA (Zu (k := .i64) (((i + 1 : Nat) : Int)) (IntWalk.i64_in _ (by omega)) (Zv (.int .i64 ((i + 1 : Nat) : Int)) (zL ?_))))
      have hrd : kB x y = ⟨x.lo, ⟨0, v, true⟩⟩ := by unfold kB; rw [if_neg h2, if_neg h3, if_neg h4, if_pos h5, hv]
      exact xT (L' := [⟨g, cur, 9⟩, ⟨b2, #[.int .i64 x.lo.e, .int .i64 x.lo.v.maj, .int .i64 x.lo.v.min, .int .i64 x.lo.v.pat, .string (mkS x.lo.v.pre), .string (mkS x.lo.v.build), .bool x.lo.aft, .int .i64 0, .int .i64 v.maj, .int .i64 v.min, .int .i64 v.pat, .string (mkS v.pre), .string (mkS v.build), .bool true], 74⟩, ⟨b1, #[.int .i64 0, .int .i64 0, .int .i64 0, .int .i64 0, .string ⟨#[]⟩, .string ⟨#[]⟩, .bool false, .int .i64 0, .int .i64 0, .int .i64 0, .int .i64 0, .string ⟨#[]⟩, .string ⟨#[]⟩, .bool false], 74⟩]) (fun w hO => Own.sub [⟨b3, (zP v).cells, 70⟩] hO) (zY (m' := l.length - (i + 1)) (by omega) ⟨i + 1, (⟨x.lo, ⟨0, v, true⟩⟩ : Sp), _, ⟨by omega, bU hi hy hrel.2 hrd⟩, rfl, ZU, rfl⟩)
    refine zK (.bool false) (by kernel_rfl) (zI (a := (vS y)) (b := ([60, 61])) rfl (by kernel_rfl) (by kernel_rfl) (decide_eq_false (h5))) (Zv (.bool false) (ZX (yT (zR (zR (z7 (zA (Zu (k := .i64) (((i + 1 : Nat) : Int)) (IntWalk.i64_in _ (by omega)) (Zv (.int .i64 ((i + 1 : Nat) : Int)) ?_)))))))))
    refine zL ?_
    have hrd : kB x y = x := by unfold kB; rw [if_neg h2, if_neg h3, if_neg h4, if_neg h5]
    exact xT (L' := [⟨g, cur, 9⟩, ⟨b2, (zF x).cells, 74⟩, ⟨b1, #[.int .i64 0, .int .i64 0, .int .i64 0, .int .i64 0, .string ⟨#[]⟩, .string ⟨#[]⟩, .bool false, .int .i64 0, .int .i64 0, .int .i64 0, .int .i64 0, .string ⟨#[]⟩, .string ⟨#[]⟩, .bool false], 74⟩]) (fun w hO => Own.sub [⟨b3, (zP v).cells, 70⟩] hO) (zY (m' := l.length - (i + 1)) (by omega) ⟨i + 1, (x : Sp), _, ⟨by omega, bU hi hy hrel.2 hrd⟩, rfl, ZU, rfl⟩)
  refine Zd (p := (i : Int) < (l.length : Int)) false (decide_eq_false (h1)) (ZN (z8 (Zf (xQ (yA (y5 (zW (z7 (z8 (zA ?_))))))))))
  exact Zl 1 ⟨b2, (zF x).cells, 74⟩ (off := 0) (zF x) (Zs 2 ⟨b1, #[.int .i64 0, .int .i64 0, .int .i64 0, .int .i64 0, .string ⟨#[]⟩, .string ⟨#[]⟩, .bool false, .int .i64 0, .int .i64 0, .int .i64 0, .int .i64 0, .string ⟨#[]⟩, .string ⟨#[]⟩, .bool false], 74⟩ (off := 0) (zF x) (ZN (zB (ZC 2 ⟨b1, (zF x).cells, 74⟩ (off := 0) (zF x) Tryz.results48 (fun w hO => ⟨by rw [show b6 s = x from by unfold b6; rw [← hll, hrel.2, List.take_of_length_le (by omega)]], hO.below⟩)))))
theorem nU (s : List UInt8) (W : World) (hs : s.length ≤ 1000000) (ht : HasLib W) : Calls Tryz.prog 28 #[.string (mkS s)] W fun e w' => ∃ v' ob', e = .returned v' ∧ SlS v' (yX s) ob' ∧ Own [] W w' ob' := by
  refine zM (n := 22) Tryz.func28 rfl (by kernel_rfl) (by kernel_rfl) (ZO (Zv (.slice none 0 0) (ZN (z8 (ZO (Zv (.string (mkS s)) ?_))))))
  by_cases h1 : (s : List UInt8) = [45]
  · refine zK (.bool true) (by kernel_rfl) (zI (a := s) (b := ([45])) rfl (by kernel_rfl) (by kernel_rfl) (decide_eq_true (h1))) ?_
    exact ZY (ZO (Zv (.slice none 0 0) (ZN (zB (z6 (ZF (.slice none 0 0) Tryz.results28 (fun w hO => ⟨_, [], rfl, by rw [show yX s = [] from if_pos h1]; exact Sl.nil _ _, kG hO⟩)))))))
  refine zK (.bool false) (by kernel_rfl) (zI (a := s) (b := ([45])) rfl (by kernel_rfl) (by kernel_rfl) (decide_eq_false (h1))) (ZX (ZB (ZO (Zv (.slice none 0 0) (ZN (z8 ?_))))))
  refine ZO (Zv (.string (mkS s)) (y9 (k := 47) (args := #[.string (mkS s), .string ⟨#[32, 111, 114, 32]⟩]) (fun v' L' => ∃ ob', L' = ob' ++ ([]) ∧ SlT v' (tB s) ob') (by kernel_rfl) (fun _ => by kernel_rfl) (fun w hO => (split_or s w (by omega) (ht.on hO.below)).mono fun e w' ⟨v', ob', k1, k2, k3⟩ => ⟨v', _, k1, ⟨ob', rfl, k2⟩, Own.joinN hO k3⟩) (fun lv L2 hv2 => ?_)))
  obtain ⟨ol, rfl, hol⟩ := hv2
  obtain ⟨l, hll⟩ : ∃ l, l = tB s := ⟨_, rfl⟩
  rw [← hll] at hol
  have hln : l.length ≤ s.length + 1 := by rw [hll]; exact ors_len s
  have hlm : ∀ x ∈ l, x.length ≤ s.length := fun x hx => ors_le s x (hll ▸ hx)
  obtain ⟨g, cur, lcap, rfl, rfl, hcur⟩ := SlT.blk hol (by rw [hll]; exact ors_ne s)
  refine Zv (.int .i64 (l.length : Int)) (Zv (.int .i64 0) (ZN (zX (qS (L' := ⟨g, cur, 9⟩ :: ([] ++ [])) rfl (kH (fun L f m => ∃ (i : Nat) (A : Option Addr) (cap : Nat) (xs : List Sp) (oc : List Blk) (j : Nat → Value), (i ≤ l.length ∧ xs = (l.take i).map b6 ∧ SlS (.slice A xs.length cap) xs oc) ∧ L = ⟨g, cur, 9⟩ :: (oc ++ []) ∧ f = jD j [(3, .slice A xs.length cap), (9, .slice (some ⟨g, 0, none⟩) l.length lcap), (10, .int .i64 (l.length : Int)), (11, .int .i64 (i : Int))] ∧ m = l.length - i) (l.length - 0) ⟨0, none, 0, [], [], _, ⟨Nat.zero_le _, by rw [List.take_zero]; rfl, Sl.nil _ _⟩, rfl, ZU, rfl⟩ ?_)))))
  rintro L f m ⟨i, A, cap, xs, oc, j, hrel, rfl, rfl, rfl⟩
  have hil := hrel.1; have hsl := hrel.2.2; refine qS (L' := ⟨g, cur, 9⟩ :: oc) (by simp) ?_
  refine z8 (zA ?_)
  by_cases h2 : (i : Int) < (l.length : Int)
  · have hi : i < l.length := by omega
    obtain ⟨y, hy⟩ : ∃ y, l[i] = y := ⟨_, rfl⟩
    have hyl : y.length ≤ s.length := hlm y (hy ▸ List.getElem_mem hi)
    obtain ⟨z, hz⟩ : ∃ z, z = b6 y := ⟨_, rfl⟩
    have hxl : xs.length ≤ s.length + 1 := by rw [hrel.2.1, List.length_map, List.length_take]; omega
    refine Zd (p := (i : Int) < (l.length : Int)) true (decide_eq_true (h2)) (ZN (z8 (Zt (ZB (z8 (zX (ZO (zK (.pointer (some ⟨g, i * 1, none⟩)) (by kernel_rfl) (ZV (b := g) (off := 0) (n := l.length) (c := lcap) (k := .i64) (j := (i : Int)) (e := 9) (sz := 1)) ?_))))))))
    refine s_load 0 ⟨g, cur, 9⟩ (off := i * 1) (.string (mkS y)) (by kernel_rfl) rfl (by kernel_rfl) (by kernel_rfl) (gT q9 hcur i 0 (by omega) (by omega) _ (by rw [hy]; kernel_rfl)) (Zv (.string (mkS y)) (ZN (zA (Zv (.slice A xs.length cap) (Zv (.string (mkS y)) (Zc (k := 48) (args := #[.string (mkS y)]) (zF z) (fun w hO => qM (by rw [hz]) (tReadSpan_any y w (by omega) (ht.on hO.below))) (bG 74 #[.int .i64 z.lo.e, .int .i64 z.lo.v.maj, .int .i64 z.lo.v.min, .int .i64 z.lo.v.pat, .string (mkS z.lo.v.pre), .string (mkS z.lo.v.build), .bool z.lo.aft, .int .i64 z.hi.e, .int .i64 z.hi.v.maj, .int .i64 z.hi.v.min, .int .i64 z.hi.v.pat, .string (mkS z.hi.v.pre), .string (mkS z.hi.v.build), .bool z.hi.aft] (by kernel_rfl) rfl (fun _ => by kernel_rfl) (fun b1 => ?_))))))))
    obtain ⟨i0, z0, e1, e2, e3, e4, e5⟩ := gD
    refine kI (L' := [⟨b1, #[.int .i64 z.lo.e, .int .i64 z.lo.v.maj, .int .i64 z.lo.v.min, .int .i64 z.lo.v.pat, .string (mkS z.lo.v.pre), .string (mkS z.lo.v.build), .bool z.lo.aft, .int .i64 z.hi.e, .int .i64 z.hi.v.maj, .int .i64 z.hi.v.min, .int .i64 z.hi.v.pat, .string (mkS z.hi.v.pre), .string (mkS z.hi.v.build), .bool z.hi.aft], 74⟩, ⟨g, cur, 9⟩] ++ oc ++ ([] : List Blk)) (by simp) (qA (sz := 14) (by kernel_rfl) rfl Tryz.underlying22 e1 e2 e3 e4 (by kernel_rfl) hsl (a := ⟨b1, 0, none⟩) (m := 1) (c := 1) (news := yB z) (by kernel_rfl) rfl (fun w hO j u hj => ?_) (kP _) (by unfold maxLen; omega) (by rw [e5]; omega) (fun u2 ob2 hu2 => ?_))
    · rw [yM, cell_of_row w b1 (0 + j) (yB z).toArray 74 _ (hO.held ⟨b1, (yB z).toArray, 74⟩ (List.mem_append_left _ (List.mem_append_left _ (List.mem_cons_self ..))))]; simpa using hj
    have hu3 : SlS u2 (xs ++ [z]) ob2 := Sl.to hu2 (by simp) (by simp)
    obtain ⟨B2, cb2, rfl⟩ := Sl.form hu3
    exact yY (L' := ⟨g, cur, 9⟩ :: (ob2)) (fun w hO => (Own.sub [⟨b1, #[.int .i64 z.lo.e, .int .i64 z.lo.v.maj, .int .i64 z.lo.v.min, .int .i64 z.lo.v.pat, .string (mkS z.lo.v.pre), .string (mkS z.lo.v.build), .bool z.lo.aft, .int .i64 z.hi.e, .int .i64 z.hi.v.maj, .int .i64 z.hi.v.min, .int .i64 z.hi.v.pat, .string (mkS z.hi.v.pre), .string (mkS z.hi.v.build), .bool z.hi.aft], 74⟩] (show Own _ _ w (⟨b1, #[.int .i64 z.lo.e, .int .i64 z.lo.v.maj, .int .i64 z.lo.v.min, .int .i64 z.lo.v.pat, .string (mkS z.lo.v.pre), .string (mkS z.lo.v.build), .bool z.lo.aft, .int .i64 z.hi.e, .int .i64 z.hi.v.maj, .int .i64 z.hi.v.min, .int .i64 z.hi.v.pat, .string (mkS z.hi.v.pre), .string (mkS z.hi.v.build), .bool z.hi.aft], 74⟩ :: ([⟨g, cur, 9⟩] ++ ob2)) from by simpa using hO))) (Zv (.slice B2 ((xs ++ [z]).length) cb2) (zL (zR (z7 (zA (Zu (k := .i64) (((i + 1 : Nat) : Int)) (IntWalk.i64_in _ (by omega)) (Zv (.int .i64 ((i + 1 : Nat) : Int)) (zL (fE (L' := ⟨g, cur, 9⟩ :: (ob2 ++ [])) (by simp) (zY (m' := l.length - (i + 1)) (by omega) ⟨i + 1, B2, cb2, (xs ++ [z]), ob2, _, ⟨by omega, by rw [List.take_succ_eq_append_getElem hi, List.map_append, ← hrel.2.1, hy, hz]; rfl, hu3⟩, rfl, ZU, rfl⟩))))))))))
  refine Zd (p := (i : Int) < (l.length : Int)) false (decide_eq_false (h2)) (ZN (z8 (Zf (xQ (yA (y5 (zW (z7 (z8 (zA ?_))))))))))
  exact Zv (.slice A xs.length cap) (Zv (.slice A xs.length cap) (ZN (zB (ZF (.slice A xs.length cap) Tryz.results28 (fun w hO => ⟨_, oc, rfl, by rw [show yX s = xs from by unfold yX; rw [if_neg h1, ← hll, hrel.2.1, List.take_of_length_le (by omega)]]; exact hsl, Own.sub [_] hO⟩)))))
theorem jU (s : List UInt8) (W : World) (hs : s.length ≤ 90000) (ht : HasLib W) : Calls Tryz.prog 13 #[.string (mkS s)] W fun e w' => ∃ v' ob', e = .returned (.tuple #[v', .int .i64 (k6 s)]) ∧ SetO v' ((yR s).getD xV) ob' ∧ Own [] W w' ob' := by
  refine zM (n := 27) Tryz.func13 rfl (by kernel_rfl) (by kernel_rfl) (ZO (Za (.agg #[.slice none 0 0, .slice none 0 0]) (fun b1 => Zv (.int .i64 0) (ZR (Zv (.string (mkS s)) ?_)))))
  obtain ⟨r1, r2, m, hc⟩ : ∃ r1 r2 m, Lib.cut s [32, 47, 32] = (r1, r2, m) := ⟨_, _, _, rfl⟩
  obtain ⟨hr1, hr2⟩ := cut_lens hc
  have hx : wO s = ⟨yX r1, (if m = true then yX r2 else [])⟩ := by unfold wO; rw [hc]
  obtain ⟨f1, n1⟩ := dB (s := r1) (by omega)
  obtain ⟨f2, n2⟩ := dB (s := r2) (by omega)
  refine Zc (k := 27) (args := #[.string (mkS s), .string ⟨#[32, 47, 32]⟩]) (.tuple #[.string (mkS r1), .string (mkS r2), .bool m]) (fun w hO => cut_stroke s r1 r2 m hc w (by omega) (ht.on hO.below)) (Zv (.tuple #[.string (mkS r1), .string (mkS r2), .bool m]) (Zv (.string (mkS r1)) (Zv (.string (mkS r2)) (Zv (.bool m) (Zv (.string (mkS r1)) (Zv (.string (mkS r2)) (Zv (.bool m) (ZN (z8 (zA ?_))))))))))
  refine Zv (.string (mkS r1)) (y9 (k := 28) (args := #[.string (mkS r1)]) (fun v' L' => ∃ ob', L' = ob' ++ ([⟨b1, #[.slice none 0 0, .slice none 0 0], 24⟩]) ∧ SlS v' (yX r1) ob') (by kernel_rfl) (fun _ => by kernel_rfl) (fun w hO => (nU r1 w (by omega) (ht.on hO.below)).mono fun e w' ⟨v', ob', k1, k2, k3⟩ => ⟨v', _, k1, ⟨ob', rfl, k2⟩, Own.joinN hO k3⟩) (fun v1 L1 hv1 => ?_))
  obtain ⟨o1, rfl, hs1⟩ := hv1
  obtain ⟨A1, c1, rfl⟩ := SlS.form hs1
  refine yY (L' := ⟨b1, #[.slice none 0 0, .slice none 0 0], 24⟩ :: (o1)) (fun w hO => hO.perm (List.perm_append_comm (l₁ := o1) (l₂ := [⟨b1, #[.slice none 0 0, .slice none 0 0], 24⟩]))) (Zv (.agg #[.slice A1 ((yX r1).length) c1, .slice none 0 0]) (Za (.agg #[.slice none 0 0, .slice none 0 0]) (fun b2 => Zs 0 ⟨b2, #[.slice none 0 0, .slice none 0 0], 24⟩ (off := 0) (.agg #[.slice A1 ((yX r1).length) c1, .slice none 0 0]) (ZN (z8 (ZO (Zv (.bool m) (zL (z7 ?_)))))))))
  cases h1 : m with
  | true =>
    refine Zt (zA (Zv (.string (mkS r2)) (y9 (k := 28) (args := #[.string (mkS r2)]) (fun v' L' => ∃ ob', L' = ob' ++ (⟨b2, #[.slice A1 ((yX r1).length) c1, .slice none 0 0], 24⟩ :: (⟨b1, #[.slice none 0 0, .slice none 0 0], 24⟩ :: (o1))) ∧ SlS v' (yX r2) ob') (by kernel_rfl) (fun _ => by kernel_rfl) (fun w hO => (nU r2 w (by omega) (ht.on hO.below)).mono fun e w' ⟨v', ob', k1, k2, k3⟩ => ⟨v', _, k1, ⟨ob', rfl, k2⟩, Own.joinN hO k3⟩) (fun v2 L2 hv2 => ?_))))
    obtain ⟨o2, rfl, hs2⟩ := hv2
    obtain ⟨A2, c2, rfl⟩ := SlS.form hs2
    refine yY (L' := ⟨b2, #[.slice A1 ((yX r1).length) c1, .slice none 0 0], 24⟩ :: (⟨b1, #[.slice none 0 0, .slice none 0 0], 24⟩ :: ((o2 ++ o1)))) (fun w hO => own_ab hO) (Zv (.pointer (some ⟨b2, 1, none⟩)) (Zs 0 ⟨b2, #[.slice A1 ((yX r1).length) c1, .slice none 0 0], 24⟩ (off := 1) (.slice A2 ((yX r2).length) c2) (ZN (z8 (ZO (Zl 0 ⟨b2, #[.slice A1 ((yX r1).length) c1, .slice A2 ((yX r2).length) c2], 24⟩ (off := 0) (.agg #[.slice A1 ((yX r1).length) c1, .slice A2 ((yX r2).length) c2]) ?_))))))
    obtain ⟨x, ex⟩ : ∃ x : St, x = ⟨yX r1, yX r2⟩ := ⟨_, rfl⟩
    have hxx : wO s = x := by rw [hx, ex, if_pos h1]
    have hS : SetO (.agg #[.slice A1 x.rel.length c1, .slice A2 x.pre.length c2]) x (o2 ++ o1) := by rw [ex]; exact ⟨_, _, o1, o2, rfl, rfl, hs1, hs2⟩
    have hsh : yL x.rel ∧ yL x.pre := by rw [ex]; exact ⟨f1, f2⟩
    have hxn : x.rel.length ≤ 100000 ∧ x.pre.length ≤ 100000 := by rw [ex]; exact ⟨by show (yX r1).length ≤ _; omega, by show (yX r2).length ≤ _; omega⟩
    refine pW (k := 11) (args := #[.agg #[.slice A1 x.rel.length c1, .slice A2 x.pre.length c2]]) (.string (mkS (zG x))) (by kernel_rfl) (fun _ => by rw [ex]; kernel_rfl) (fun w hO => xN A1 A2 c1 c2 x w ⟨(hS.reads (n := 0) (m := 0) hO (fun y hy => by simp at hy ⊢; simp [hy])).1, (hS.reads (n := 0) (m := 0) hO (fun y hy => by simp at hy ⊢; simp [hy])).2, hxn.1, hxn.2, hsh.1, hsh.2⟩ hS.caps (ht.tab.on hO.below)) (Zv (.string (mkS s)) ?_)
    by_cases h2 : ((zG x) : List UInt8) = s
    · refine zK (.bool false) (by kernel_rfl) (xJ (a := (zG x)) (b := s) rfl (by kernel_rfl) (by kernel_rfl) (decide_eq_true (h2))) ?_
      refine ZX (ZB (ZO (Zl 0 ⟨b2, #[.slice A1 ((yX r1).length) c1, .slice A2 ((yX r2).length) c2], 24⟩ (off := 0) (.agg #[.slice A1 ((yX r1).length) c1, .slice A2 ((yX r2).length) c2]) (Zs 1 ⟨b1, #[.slice none 0 0, .slice none 0 0], 24⟩ (off := 0) (.agg #[.slice A1 ((yX r1).length) c1, .slice A2 ((yX r2).length) c2]) (Zv (.int .i64 0) (zL (z7 ?_)))))))
      exact zB (ZD 1 ⟨b1, #[.slice A1 ((yX r1).length) c1, .slice A2 ((yX r2).length) c2], 24⟩ (off := 0) (.agg #[.slice A1 ((yX r1).length) c1, .slice A2 ((yX r2).length) c2]) (.int .i64 0) Tryz.results13 (fun w hO => ⟨.agg #[.slice A1 ((yX r1).length) c1, .slice A2 ((yX r2).length) c2], (o2 ++ o1), by rw [show k6 s = 0 from by unfold k6; rw [dD hxx h2]; rfl], by rw [dD hxx h2]; subst ex; exact hS, Own.sub [_, _] hO⟩))
    refine zK (.bool true) (by kernel_rfl) (xJ (a := (zG x)) (b := s) rfl (by kernel_rfl) (by kernel_rfl) (decide_eq_false (h2))) (ZY (ZO (Zc (k := 29) (args := #[]) (.agg #[.slice none 0 0, .slice none 0 0]) (fun w _ => sNone_any w) (Zs 1 ⟨b1, #[.slice none 0 0, .slice none 0 0], 24⟩ (off := 0) (.agg #[.slice none 0 0, .slice none 0 0]) (Zv (.int .i64 2) (ZN (zB ?_)))))))
    exact z6 (ZD 1 ⟨b1, #[.slice none 0 0, .slice none 0 0], 24⟩ (off := 0) (.agg #[.slice none 0 0, .slice none 0 0]) (.int .i64 2) Tryz.results13 (fun w hO => ⟨_, [], by rw [show k6 s = 2 from by unfold k6; rw [wS hxx h2]; rfl], by rw [wS hxx h2]; exact SetO.none, kG hO⟩))
  | false =>
    refine Zf (ZB (z8 (ZO (Zl 0 ⟨b2, #[.slice A1 ((yX r1).length) c1, .slice none 0 0], 24⟩ (off := 0) (.agg #[.slice A1 ((yX r1).length) c1, .slice none 0 0]) ?_))))
    obtain ⟨x, ex⟩ : ∃ x : St, x = ⟨yX r1, []⟩ := ⟨_, rfl⟩
    have hxx : wO s = x := by rw [hx, ex, if_neg (by rw [h1]; decide)]
    have hS : SetO (.agg #[.slice A1 x.rel.length c1, .slice none x.pre.length 0]) x o1 := by rw [ex]; exact ⟨_, _, o1, [], rfl, rfl, hs1, Sl.nil _ _⟩
    have hsh : yL x.rel ∧ yL x.pre := by rw [ex]; exact ⟨f1, fun y hy => by simp at hy⟩
    have hxn : x.rel.length ≤ 100000 ∧ x.pre.length ≤ 100000 := by rw [ex]; exact ⟨by show (yX r1).length ≤ _; omega, Nat.zero_le _⟩
    refine pW (k := 11) (args := #[.agg #[.slice A1 x.rel.length c1, .slice none x.pre.length 0]]) (.string (mkS (zG x))) (by kernel_rfl) (fun _ => by rw [ex]; kernel_rfl) (fun w hO => xN A1 none c1 0 x w ⟨(hS.reads (n := 0) (m := 0) hO (fun y hy => by simp at hy ⊢; simp [hy])).1, (hS.reads (n := 0) (m := 0) hO (fun y hy => by simp at hy ⊢; simp [hy])).2, hxn.1, hxn.2, hsh.1, hsh.2⟩ hS.caps (ht.tab.on hO.below)) (Zv (.string (mkS s)) ?_)
    by_cases h3 : ((zG x) : List UInt8) = s
    · refine zK (.bool false) (by kernel_rfl) (xJ (a := (zG x)) (b := s) rfl (by kernel_rfl) (by kernel_rfl) (decide_eq_true (h3))) ?_
      refine ZX (ZB (ZO (Zl 0 ⟨b2, #[.slice A1 ((yX r1).length) c1, .slice none 0 0], 24⟩ (off := 0) (.agg #[.slice A1 ((yX r1).length) c1, .slice none 0 0]) (Zs 1 ⟨b1, #[.slice none 0 0, .slice none 0 0], 24⟩ (off := 0) (.agg #[.slice A1 ((yX r1).length) c1, .slice none 0 0]) (Zv (.int .i64 0) (zL (z7 ?_)))))))
      exact zB (ZD 1 ⟨b1, #[.slice A1 ((yX r1).length) c1, .slice none 0 0], 24⟩ (off := 0) (.agg #[.slice A1 ((yX r1).length) c1, .slice none 0 0]) (.int .i64 0) Tryz.results13 (fun w hO => ⟨.agg #[.slice A1 ((yX r1).length) c1, .slice none 0 0], o1, by rw [show k6 s = 0 from by unfold k6; rw [dD hxx h3]; rfl], by rw [dD hxx h3]; subst ex; exact hS, Own.sub [_, _] hO⟩))
    refine zK (.bool true) (by kernel_rfl) (xJ (a := (zG x)) (b := s) rfl (by kernel_rfl) (by kernel_rfl) (decide_eq_false (h3))) (ZY (ZO (Zc (k := 29) (args := #[]) (.agg #[.slice none 0 0, .slice none 0 0]) (fun w _ => sNone_any w) (Zs 1 ⟨b1, #[.slice none 0 0, .slice none 0 0], 24⟩ (off := 0) (.agg #[.slice none 0 0, .slice none 0 0]) (Zv (.int .i64 2) (ZN (zB ?_)))))))
    exact z6 (ZD 1 ⟨b1, #[.slice none 0 0, .slice none 0 0], 24⟩ (off := 0) (.agg #[.slice none 0 0, .slice none 0 0]) (.int .i64 2) Tryz.results13 (fun w hO => ⟨_, [], by rw [show k6 s = 2 from by unfold k6; rw [wS hxx h3]; rfl], by rw [wS hxx h3]; exact SetO.none, kG hO⟩))
end
section
def sg8 (fr : Bool) : List UInt8 := if fr then [62] else [60]
def jE (fr : Bool) (s : List UInt8) : Cu :=
  if yW s (sg8 fr) = true then (if yW (s.drop 1) [61] = true then ⟨0, (x5 ((s.drop 1).drop 1)).getD Ver.zero, !fr⟩ else ⟨0, (x5 (s.drop 1)).getD Ver.zero, fr⟩) else ⟨0, Ver.zero, false⟩
def xG (fr : Bool) (s : List UInt8) : Bool :=
  if yW s (sg8 fr) = true then (if yW (s.drop 1) [61] = true then (x5 ((s.drop 1).drop 1)).isSome else (x5 (s.drop 1)).isSome) else false
theorem begins_one (a : UInt8) : ∀ (s : List UInt8), yW s [a] = decide (s.head? = some a)
  | [] => by unfold yW; simp
  | b :: s => by unfold yW; simp
theorem get_opt {α β : Type} (o : Option α) (d : α) (f : α → β) : o.map f = if o.isSome = true then some (f (o.getD d)) else none := by cases o <;> rfl
theorem cutP_eq (fr : Bool) (s : List UInt8) : cutP fr s = if xG fr s = true then some (jE fr s) else none := by
  unfold xG jE
  rw [begins_one 61]
  cases s with
  | nil => cases fr <;> rfl
  | cons c r =>
    have e : sg8 fr = [if fr then 62 else 60] := by cases fr <;> rfl
    have e2 : yW (c :: r) (sg8 fr) = decide (c = if fr then 62 else 60) := by
      rw [e, begins_one]; simp
    rw [cutP.eq_def, e2]
    try dsimp only
    by_cases h : c = if fr then 62 else 60
    · rw [if_pos h, if_pos (decide_eq_true h), if_pos (decide_eq_true h)]
      cases r with
      | nil => exact get_opt (x5 []) Ver.zero fun v => Cu.mk 0 v fr
      | cons d q =>
        by_cases hd : d = 61
        · subst hd; exact get_opt (x5 q) Ver.zero fun v => Cu.mk 0 v (!fr)
        · have hx : decide ((List.drop 1 (c :: d :: q)).head? = some 61) = false := decide_eq_false (by simp [hd])
          rw [hx]
          show (if d = 61 then _ else (x5 (d :: q)).map fun v => Cu.mk 0 v fr) = _
          rw [if_neg hd]; exact get_opt (x5 (d :: q)) Ver.zero fun v => Cu.mk 0 v fr
    · rw [if_neg h, decide_eq_false h]; rfl
def qI : List (List UInt8) → Sp × Bool
  | [] => (spW0, false)
  | a :: r => if a = [42] ∧ r = [] then (spW0, true)
    else if xG true a = true then (if r = [] then (⟨jE true a, zQ 1⟩, true) else (⟨jE true a, jE false (r.headD [])⟩, xG false (r.headD []) && decide (r.length = 1)))
    else (⟨zQ (-1), jE false a⟩, xG false a && decide (r = []))
theorem spP_eq (l : List (List UInt8)) : spP l = if (qI l).2 = true then some (qI l).1 else none := by
  cases l with
  | nil => rfl
  | cons a r =>
    rw [spP, qI, cutP_eq]
    by_cases h : a = [42] ∧ r = []
    · rw [if_pos h, if_pos h]; rfl
    · rw [if_neg h, if_neg h]
      by_cases h1 : xG true a = true
      · rw [if_pos h1, if_pos h1]
        match r with
        | [] => rfl
        | [b] =>
          show (cutP false b).map _ = if (xG false b && decide (1 = 1)) = true then _ else _
          rw [cutP_eq]
          by_cases h2 : xG false b = true
          · rw [if_pos h2, if_pos (by simp [h2])]; rfl
          · rw [if_neg h2, if_neg (by simp [h2])]; rfl
        | b :: c :: q =>
          show none = if (xG false b && decide (q.length + 1 + 1 = 1)) = true then _ else _
          rw [if_neg (by simp)]
      · rw [if_neg h1, if_neg h1]
        show (if r = [] then _ else none) = if (xG false a && decide (r = [])) = true then _ else _
        by_cases hr : r = []
        · rw [if_pos hr, cutP_eq]
          by_cases h2 : xG false a = true
          · rw [if_pos h2, if_pos (by simp [h2, hr])]; rfl
          · rw [if_neg h2, if_neg (by simp [h2])]; rfl
        · rw [if_neg hr, if_neg (by simp [hr])]
theorem grp_go {l : List (List UInt8)} {a i : Nat} (ha : a ≤ i) (hi : i < l.length) (h : ¬ l[i] = [111, 114]) : grp ((l.drop a).take (i - a)) (l.drop i) = grp ((l.drop a).take (i + 1 - a)) (l.drop (i + 1)) := by
  rw [List.drop_eq_getElem_cons hi, grp, if_neg h]
  congr 1
  have hk : i - a < (l.drop a).length := by rw [List.length_drop]; omega
  rw [show i + 1 - a = (i - a) + 1 from by omega, List.take_succ_eq_append_getElem hk, List.getElem_drop]
  congr 2
  congr 1; omega
theorem grp_or {l : List (List UInt8)} {a i : Nat} (hi : i < l.length) (h : l[i] = [111, 114]) : grp ((l.drop a).take (i - a)) (l.drop i) = ((l.drop a).take (i - a)) :: grp ((l.drop (i + 1)).take (i + 1 - (i + 1))) (l.drop (i + 1)) := by
  rw [List.drop_eq_getElem_cons hi, grp, if_pos h, Nat.sub_self, List.take_zero]
theorem grp_end {l : List (List UInt8)} {a i : Nat} (hi : l.length ≤ i) : grp ((l.drop a).take (i - a)) (l.drop i) = [(l.drop a).take (i - a)] := by
  rw [List.drop_of_length_le hi, grp]
theorem allO_hd {α β : Type} (f : α → Option β) (x : α) (l : List α) : wK f (x :: l) = match f x with
    | some y => (wK f l).map (y :: ·)
    | none => none := by
  cases h : f x with
  | none => exact allO_none (List.mem_cons_self ..) h
  | some y =>
    cases h2 : wK f l with
    | some m => exact allO_cons h h2
    | none =>
      cases h3 : wK f (x :: l) with
      | none => rfl
      | some m =>
        obtain ⟨_, m', _, _, q⟩ := allO_inv h3
        rw [h2] at q; cases q
structure Row8 (s : List UInt8) (l : List (List UInt8)) (i a : Nat) (xs : List Sp) : Prop where
  h : (i ≤ l.length ∧ a ≤ i ∧ x4 s = (wK spP (grp ((l.drop a).take (i - a)) (l.drop i))).map (xs ++ ·)) ∨ (i = l.length + 1 ∧ x4 s = some xs)
theorem Row8.start {s : List UInt8} {l : List (List UInt8)} (h : ¬ s = [45]) (hl : l = y7 32 [] s) : Row8 s l 0 0 [] := ⟨.inl ⟨Nat.zero_le _, Nat.le_refl _, by
  unfold x4
  rw [if_neg h, ← hl, List.drop_zero, Nat.sub_self, List.take_zero]
  cases wK spP (grp [] l) <;> rfl⟩⟩
theorem Row8.go {s : List UInt8} {l : List (List UInt8)} {i a : Nat} {xs : List Sp} (h : Row8 s l i a xs) (hi : i < l.length) (hn : ¬ l[i] = [111, 114]) : Row8 s l (i + 1) a xs := by
  rcases h.h with ⟨h1, h2, h3⟩ | ⟨h1, _⟩
  · exact ⟨.inl ⟨by omega, by omega, by rw [h3, grp_go h2 hi hn]⟩⟩
  · omega
theorem Row8.unf {s : List UInt8} {l : List (List UInt8)} {i a : Nat} {xs : List Sp} (h : Row8 s l i a xs) (hi : i ≤ l.length) (hn : ∀ q : i < l.length, l[i] = [111, 114]) :
    a ≤ i ∧ x4 s = match spP ((l.drop a).take (i - a)) with
      | some y => if i < l.length then (wK spP (grp ((l.drop (i + 1)).take (i + 1 - (i + 1))) (l.drop (i + 1)))).map ((xs ++ [y]) ++ ·) else some (xs ++ [y])
      | none => none := by
  rcases h.h with ⟨h1, h2, h3⟩ | ⟨h1, _⟩
  · refine ⟨h2, ?_⟩
    rw [h3]
    by_cases q : i < l.length
    · rw [grp_or q (hn q), allO_hd]
      cases spP ((l.drop a).take (i - a)) with
      | none => rfl
      | some y =>
        show Option.map _ (Option.map _ _) = if i < l.length then _ else _
        rw [if_pos q]
        cases wK spP (grp ((l.drop (i + 1)).take (i + 1 - (i + 1))) (l.drop (i + 1))) with
        | none => rfl
        | some m => simp
    · rw [grp_end (by omega), allO_hd]
      cases spP ((l.drop a).take (i - a)) with
      | none => rfl
      | some y =>
        show _ = if i < l.length then _ else _
        rw [if_neg q]; rfl
  · omega
theorem Row8.hit {s : List UInt8} {l : List (List UInt8)} {i a : Nat} {xs : List Sp} (h : Row8 s l i a xs) (hi : i ≤ l.length) (hn : ∀ q : i < l.length, l[i] = [111, 114]) (hy : (qI ((l.drop a).take (i - a))).2 = true) : Row8 s l (i + 1) (i + 1) (xs ++ [(qI ((l.drop a).take (i - a))).1]) := by
  obtain ⟨h1, h2⟩ := h.unf hi hn
  rw [spP_eq, if_pos hy] at h2
  try dsimp only at h2
  by_cases q : i < l.length
  · rw [if_pos q] at h2; exact ⟨.inl ⟨by omega, Nat.le_refl _, h2⟩⟩
  · rw [if_neg q] at h2; exact ⟨.inr ⟨by omega, h2⟩⟩
theorem Row8.miss {s : List UInt8} {l : List (List UInt8)} {i a : Nat} {xs : List Sp} (h : Row8 s l i a xs) (hi : i ≤ l.length) (hn : ∀ q : i < l.length, l[i] = [111, 114]) (hy : ¬ (qI ((l.drop a).take (i - a))).2 = true) : x4 s = none := by
  obtain ⟨h1, h2⟩ := h.unf hi hn
  rw [spP_eq, if_neg hy] at h2
  exact h2
theorem Row8.bare {s : List UInt8} {l : List (List UInt8)} {i a : Nat} {xs : List Sp} (h : Row8 s l i a xs) (hi : i ≤ l.length) (hn : ∀ q : i < l.length, l[i] = [111, 114]) (hy : i = a) : x4 s = none := by
  refine h.miss hi hn ?_
  rw [hy, Nat.sub_self, List.take_zero]
  decide
theorem Row8.done {s : List UInt8} {l : List (List UInt8)} {i a : Nat} {xs : List Sp} (h : Row8 s l i a xs) (hi : ¬ i ≤ l.length) : x4 s = some xs := by
  rcases h.h with ⟨h1, _⟩ | ⟨_, h2⟩
  · omega
  · exact h2
theorem Row8.le {s : List UInt8} {l : List (List UInt8)} {i a : Nat} {xs : List Sp} (h : Row8 s l i a xs) (hi : i ≤ l.length) : a ≤ i := by
  rcases h.h with ⟨_, h2, _⟩ | ⟨h1, _⟩
  · exact h2
  · omega
theorem cutS_go {s : List UInt8} {k : Nat} (hk : k < s.length) (h : ¬ (s.drop k).take 3 = [32, 47, 32]) : qK (s.take k) (s.drop k) = qK (s.take (k + 1)) (s.drop (k + 1)) := by
  rw [List.drop_eq_getElem_cons hk]
  rw [qK]
  · rw [List.take_succ_eq_append_getElem hk]
  · intro r e1 e2
    apply h
    rw [List.drop_eq_getElem_cons hk, e1, e2]; rfl
theorem cutS_at {s : List UInt8} {k : Nat} (h : (s.drop k).take 3 = [32, 47, 32]) : qK (s.take k) (s.drop k) = (s.take k, s.drop (k + 3)) := by
  have e : s.drop k = 32 :: 47 :: 32 :: s.drop (k + 3) := by
    have := (List.take_append_drop 3 (s.drop k)).symm
    rw [h, List.drop_drop] at this
    exact this
  rw [e, qK]
theorem cutS_short : ∀ (t acc : List UInt8), t.length ≤ 2 → qK acc t = (acc ++ t, [])
  | [], acc, _ => by simp [qK]
  | [a], acc, _ => by
    rw [qK]
    · simp [qK]
    · intro q _ e; cases e
  | [a, b], acc, _ => by
    rw [qK]
    · rw [qK]
      · simp [qK]
      · intro q _ e; cases e
    · intro q _ e; cases e
  | _ :: _ :: _ :: _, _, h => by simp at h
theorem cutS_last {s : List UInt8} {k : Nat} (h : s.length ≤ k + 2) : qK (s.take k) (s.drop k) = (s, []) := by
  rw [cutS_short _ _ (by rw [List.length_drop]; omega), List.take_append_drop]
theorem cutS_zero (s : List UInt8) : qK [] s = qK (s.take 0) (s.drop 0) := by rw [List.take_zero, List.drop_zero]
end
section
def nR (v : Ver) (p q : List UInt8) : Ver := ⟨v.maj, v.min, v.pat, p, q⟩
theorem three_tri (l : List (List UInt8)) : three l = if triB l then some ((wI l).maj, (wI l).min, (wI l).pat) else none := by
  unfold three triB wI
  match l with
  | [] => rfl
  | [_] => rfl
  | [_, _] => rfl
  | [x, y, z] => simp [tg]
  | _ :: _ :: _ :: _ :: _ => simp
theorem parseR_unf {s s1 bl s2 pr : List UInt8} {f1 f2 : Bool} (h1 : zN 43 s = (s1, bl, f1)) (h2 : zN 45 s1 = (s2, pr, f2)) :
    x5 s = if triB (pcs s2) && !(f2 && pr.isEmpty) && !(f1 && bl.isEmpty) && (nR (wI (pcs s2)) pr bl).may then some (nR (wI (pcs s2)) pr bl) else none := by
  unfold x5 nR
  simp only [h1, h2, three_tri]
  cases triB (pcs s2)
  · simp
  · cases f2 <;> cases pr.isEmpty <;> cases f1 <;> cases bl.isEmpty <;> simp
def RPEnd (s : List UInt8) (w : World) (e : Ending) (w' : World) : Prop := e = .returned (.tuple #[zP (b8 s), .int .i64 (vU s)]) ∧ Below w.heap.size w w'
theorem j4 {s : List UInt8} {w wr : World} {v : Ver} {n : Int} {tmps : Array Value} {old : Array Value} (h2 : tmps.getD 2 undef = .pointer (some ⟨w.heap.size, 0, none⟩)) (h3 : tmps.getD 3 undef = .int .i64 n)
    (hg : wr.heap[w.heap.size]? = some (.cells old 70)) (hbel : Below w.heap.size w wr) (hv : b8 s = v) (hn : vU s = n) :
    bodyPost Tryz.prog Tryz.f130 (RPEnd s w) .ret ⟨tmps, []⟩ (wr.setRow w.heap.size #[.int .i64 v.maj, .int .i64 v.min, .int .i64 v.pat, .string (mkS v.pre), .string (mkS v.build)]) := by
  have hrow := setRow_heap wr w.heap.size _ #[.int .i64 v.maj, .int .i64 v.min, .int .i64 v.pat, .string (mkS v.pre), .string (mkS v.build)] _ _ hg
  have hr := run_loadVar_row (P := Tryz.prog) _ w.heap.size 70 70 _ _ _ hrow Tryz.underlying70 rfl (by kernel_rfl)
  have h2' : tmps[2]?.getD undef = .pointer (some ⟨w.heap.size, 0, none⟩) := by simpa using h2
  have h3' : tmps[3]?.getD undef = .int .i64 n := by simpa using h3
  refine bodyPost_ret (v := .tuple #[zP v, .int .i64 n]) (by simp [results, Tryz.results130, asAddr, h2', h3', hr, zP]) rfl ⟨by rw [hv, hn], xI hbel (Nat.le_refl _) _⟩
theorem cut_text' (c : UInt8) (s a b : List UInt8) (f : Bool) (h : zN c s = (a, b, f)) : s = a ++ (if f then c :: b else []) := by
  have := cutAt_back c s
  rw [h] at this; exact this
theorem ex_drop (a t : List UInt8) : (mkS (a ++ t)).extract a.length (mkS (a ++ t)).size = mkS t := by
  rw [qW, mk_data, yC]
  congr 1
  rw [List.drop_left, List.take_of_length_le]
  simp
theorem ex_take (a t : List UInt8) : (mkS (a ++ t)).extract 0 a.length = mkS a := by
  rw [qW, mk_data]
  congr 1
  simp
theorem ex_tail (c : UInt8) (t : List UInt8) : (mkS (c :: t)).extract 1 (mkS (c :: t)).size = mkS t := ex_drop [c] t
theorem rparse_any0 (s : List UInt8) (w : World) (hs : s.length ≤ 1000000) :
    Calls Tryz.prog 130 #[.string (mkS s)] w (RPEnd s w) := by
  obtain ⟨s1, bl, f1, h1⟩ : ∃ a b c, zN 43 s = (a, b, c) := ⟨_, _, _, rfl⟩
  obtain ⟨s2, pr, f2, h2⟩ : ∃ a b c, zN 45 s1 = (a, b, c) := ⟨_, _, _, rfl⟩
  have hbn := nN 43 s
  rw [h1] at hbn
  have hpn := nN 45 s1
  rw [h2] at hpn
  dsimp only at hbn hpn
  have HBN := Lib.hid hbn
  have HPN := Lib.hid hpn
  clear hbn hpn
  have l1 := wG 43 s
  have l2 := wG 45 s1
  have hR := parseR_unf h1 h2
  have t1 := cut_text' 43 s s1 bl f1 h1
  have t2 := cut_text' 45 s1 s2 pr f2 h2
  have c1 := fun w' => rplace_any s 43 w' (by omega)
  rw [h1] at l1 c1
  have c2 := fun w' => rplace_any s1 45 w' (by dsimp only at l1; omega)
  rw [h2] at l2 c2
  dsimp only at l1 l2 c1 c2
  obtain ⟨bt, hbt⟩ : ∃ x, (if f1 then (43 : UInt8) :: bl else []) = x := ⟨_, rfl⟩
  obtain ⟨pt, hpt⟩ : ∃ x, (if f2 then (45 : UInt8) :: pr else []) = x := ⟨_, rfl⟩
  rw [hbt] at t1
  rw [hpt] at t2
  have e1 : (mkS s).extract s1.length (mkS s).size = mkS bt := by rw [t1]; exact ex_drop _ _
  have e2 : (mkS s).extract 0 s1.length = mkS s1 := by rw [t1]; exact ex_take _ _
  have e3 : (mkS s1).extract s2.length (mkS s1).size = mkS pt := by rw [t2]; exact ex_drop _ _
  have e4 : (mkS s1).extract 0 s2.length = mkS s2 := by rw [t2]; exact ex_take _ _
  have z1 : (s1.length : Int) ≤ (mkS s).size := by rw [yC]; omega
  have z2 : (s2.length : Int) ≤ (mkS s1).size := by rw [yC]; omega
  have cS := fun w' => fT s2 w' (by omega)
  have HM := Lib.hid (wQ s2)
  have hne : 0 < (pcs s2).length := by
    have := vR 46 s2 []
    cases h : pcs s2 with
    | nil => exact absurd h this
    | cons _ _ => simp
  obtain ⟨l, hl⟩ : ∃ l, pcs s2 = l := ⟨_, rfl⟩
  rw [hl] at cS HM hne hR
  obtain ⟨n1, hn1⟩ : ∃ n, s1.length = n := ⟨_, rfl⟩
  obtain ⟨n2, hn2⟩ : ∃ n, s2.length = n := ⟨_, rfl⟩
  have l3 : s2.length ≤ 1000000 := by omega
  have l4 : pr.length ≤ 1000000 := by omega
  have l5 : bl.length ≤ 1000000 := by omega
  rw [hn1] at e1 e2 z1 c1
  rw [hn2] at e3 e4 z2 c2
  have HR := Lib.hid hR
  have HB := Lib.hid hbt
  have HP := Lib.hid hpt
  clear h1 h2 t1 t2 hbt hpt hl hn1 hn2 l1 l2 hR
  have E1 := Lib.hid e1
  have E2 := Lib.hid e2
  have E3 := Lib.hid e3
  have E4 := Lib.hid e4
  go_enter Tryz.func130, Tryz.ntmps130
  go_wp2_with fail
  refine (c1 _).mono ?_
  rintro e w1 ⟨rfl, rfl⟩
  go_wp2_with fail
  refine (c2 _).mono ?_
  rintro e w1 ⟨rfl, rfl⟩
  go_wp2_with fail
  refine (cS _).mono ?_
  rintro e w1 ⟨v, rfl, hown, hb1⟩
  have how := hown.2
  rcases hown.2 with ⟨_, h0⟩ | ⟨g, cap, cur, rfl, hg, hh, hn, _⟩
  · omega
  have hcl : ∀ j (h : j < l.length), w1.cell? ⟨g, j, none⟩ = some (.string (mkS l[j])) := fun j hj => by
    have h := hown.cells (g := g) rfl j (.string (mkS l[j])) (by unfold d5; rw [List.getElem?_map, List.getElem?_eq_getElem hj]; rfl)
    have ha : (⟨g, 0, none⟩ : Addr).add j = ⟨g, j, none⟩ := by unfold Addr.add; split <;> simp_all
    rwa [ha] at h
  have cT := rthree_any g cap l w1 (Array.getElem?_eq_some_iff.1 hh).1 hcl (fun x hx => Nat.le_trans (HM.out x hx) l3)
  have hTV : wI l = ⟨(wI l).maj, (wI l).min, (wI l).pat, [], []⟩ := by unfold wI; split <;> rfl
  obtain ⟨ta, hta⟩ : ∃ x, (wI l).maj = x := ⟨_, rfl⟩
  obtain ⟨tb, htb⟩ : ∃ x, (wI l).min = x := ⟨_, rfl⟩
  obtain ⟨tc, htc⟩ : ∃ x, (wI l).pat = x := ⟨_, rfl⟩
  obtain ⟨ok, hok⟩ : ∃ x, triB l = x := ⟨_, rfl⟩
  rw [hta, htb, htc] at hTV
  have HW : Hid (nR (wI l) pr bl = ⟨ta, tb, tc, pr, bl⟩) := by show _ = _; rw [hTV]; rfl
  have HR2 : Hid (x5 s = if ok && !(f2 && pr.isEmpty) && !(f1 && bl.isEmpty) && (Ver.mk ta tb tc pr bl).may then some ⟨ta, tb, tc, pr, bl⟩ else none) := by
    show _ = _
    rw [HR.out, HW.out, hok]
  rw [hTV, hok] at cT
  unfold zP at cT
  dsimp only at cT
  clear hcl hown hh hn hg how hta htb htc hok hTV HR HW
  go_wp2_with fail
  refine cT.mono ?_
  rintro e w2 ⟨rfl, hb2⟩
  have hz1 := hb1.size
  have hz2 := hb2.size
  rw [zE] at hz1
  have hgR := Lib.hid ((hb2.block w.heap.size (by omega)).trans ((hb1.block w.heap.size (by rw [zE]; omega)).trans (yZ w _)))
  have hbw : Below w.heap.size w w2 := (((Below.refl _ _).alloc (Nat.le_refl _) _).trans (hb1.mono (by rw [zE]; omega))).trans (hb2.mono (by omega))
  have hsw : w.heap.size < w2.heap.size := by omega
  clear hb1 hb2 hz1 hz2 cT cS c1 c2 e1 e2 e3 e4 E1 E2 E3 E4 z1 z2
  have hgR2 := Lib.hid ((yO w2 (.cells #[.int .i64 ta, .int .i64 tb, .int .i64 tc, .string (mkS []), .string (mkS [])] 70) hsw).trans hgR.out)
  cases ok with
  | false =>
    have HN : Hid (x5 s = none) := by show _ = _; rw [HR2.out]; simp
    go_wp2_with (refine wpList_store_row rfl 70 _ _ rfl w.heap.size #[.int .i64 0, .int .i64 0, .int .i64 0, .string ⟨#[]⟩, .string ⟨#[]⟩] rfl rfl _ _ hgR2.out (by kernel_rfl) rfl (yS _ _ _ _ _) ?_)
    exact j4 (v := Ver.zero) rfl rfl hgR2.out (hbw.alloc (by omega) _) (by unfold b8; rw [HN.out]; rfl) (by unfold vU; rw [HN.out]; rfl)
  | true =>
    by_cases hx : f2 = true ∧ pr = []
    · obtain ⟨rfl, rfl⟩ := hx
      obtain rfl : [45] = pt := HP.out
      have HN : Hid (x5 s = none) := by show _ = _; rw [HR2.out]; simp
      have hz : ((mkS [45]).size : Int) = 1 := by rw [yC]; rfl
      go_wp2_with (refine wpList_store_row rfl 70 _ _ rfl w.heap.size #[.int .i64 0, .int .i64 0, .int .i64 0, .string ⟨#[]⟩, .string ⟨#[]⟩] rfl rfl _ _ hgR2.out (by kernel_rfl) rfl (yS _ _ _ _ _) ?_)
      exact j4 (v := Ver.zero) rfl rfl hgR2.out (hbw.alloc (by omega) _) (by unfold b8; rw [HN.out]; rfl) (by unfold vU; rw [HN.out]; rfl)
    · have hp1 : ((((mkS pt).size : Nat) : Int) == 1) = false := by
        rw [yC, ← HP.out]
        cases f2
        · rfl
        · cases pr with
          | nil => exact absurd ⟨rfl, rfl⟩ hx
          | cons a r => simp; omega
      by_cases hy : f1 = true ∧ bl = []
      · obtain ⟨rfl, rfl⟩ := hy
        obtain rfl : [43] = bt := HB.out
        have HN : Hid (x5 s = none) := by show _ = _; rw [HR2.out]; simp
        have hz : ((mkS [43]).size : Int) = 1 := by rw [yC]; rfl
        clear hx
        go_wp2_with (refine wpList_store_row rfl 70 _ _ rfl w.heap.size #[.int .i64 0, .int .i64 0, .int .i64 0, .string ⟨#[]⟩, .string ⟨#[]⟩] rfl rfl _ _ hgR2.out (by kernel_rfl) rfl (yS _ _ _ _ _) ?_)
        exact j4 (v := Ver.zero) rfl rfl hgR2.out (hbw.alloc (by omega) _) (by unfold b8; rw [HN.out]; rfl) (by unfold vU; rw [HN.out]; rfl)
      · have hb1 : ((((mkS bt).size : Nat) : Int) == 1) = false := by
          rw [yC, ← HB.out]
          cases f1
          · rfl
          · cases bl with
            | nil => exact absurd ⟨rfl, rfl⟩ hy
            | cons a r => simp; omega
        have HR3 : Hid (x5 s = if (Ver.mk ta tb tc pr bl).may then some ⟨ta, tb, tc, pr, bl⟩ else none) := by
          show _ = _
          rw [HR2.out]
          cases f2 <;> cases pr <;> cases f1 <;> cases bl <;> simp at hx hy ⊢
        clear HR2
        have cM := fun w' => qD ⟨ta, tb, tc, pr, bl⟩ w' l4 l5
        obtain ⟨m, hm⟩ : ∃ m, (Ver.mk ta tb tc pr bl).may = m := ⟨_, rfl⟩
        rw [hm] at cM
        have HM2 := Lib.hid hm
        clear hm
        unfold zP at cM
        dsimp only at cM
        have hcase : (f2 = false ∧ pr = [] ∧ pt = [] ∨ f2 = true ∧ pt = 45 :: pr) ∧ (f1 = false ∧ bl = [] ∧ bt = [] ∨ f1 = true ∧ bt = 43 :: bl) := by
          have q1 := HPN.out
          have q2 := HBN.out
          have q3 := HP.out
          have q4 := HB.out
          cases f2 <;> cases f1 <;> simp at q1 q2 q3 q4 ⊢
          · exact ⟨⟨q1, q3⟩, q2, q4⟩
          · exact ⟨⟨q1, q3⟩, q4.symm⟩
          · exact ⟨q3.symm, q2, q4⟩
          · exact ⟨q3.symm, q4.symm⟩
        clear hx hy
        have x1 := ex_tail 45 pr
        have x2 := ex_tail 43 bl
        have y1 : (mkS ([] : List UInt8)).toList.isEmpty = true := by rw [Lib.toList_data, mk_data]; rfl
        have y2 : (mkS (45 :: pr)).toList.isEmpty = false := by rw [Lib.toList_data, mk_data]; rfl
        have y3 : (mkS (43 :: bl)).toList.isEmpty = false := by rw [Lib.toList_data, mk_data]; rfl
        have v1 : (1 : Int) ≤ (mkS (45 :: pr)).size := by rw [yC]; simp; omega
        have v2 : (1 : Int) ≤ (mkS (43 :: bl)).size := by rw [yC]; simp; omega
        obtain ⟨hc1, hc2⟩ := hcase
        rcases hc1 with ⟨rfl, rfl, rfl⟩ | ⟨rfl, rfl⟩ <;> rcases hc2 with ⟨rfl, rfl, rfl⟩ | ⟨rfl, rfl⟩
        all_goals
          go_wp2_with fail
          refine (cM _).mono ?_
          rintro e w3 ⟨rfl, hb3⟩
          have hgR3 := Lib.hid ((hb3.block w.heap.size (by rw [zE]; omega)).trans ((yO w2 _ hsw).trans hgR.out))
          have hgV3 := Lib.hid ((hb3.block w2.heap.size (by rw [zE]; omega)).trans (yZ w2 _))
          have hbw3 : Below w.heap.size w w3 := (hbw.alloc (by omega) _).trans (hb3.mono (by rw [zE]; omega))
          cases m with
          | false =>
            have HN := HR3.out
            rw [HM2.out] at HN
            have HN2 := Lib.hid HN
            clear HN
            go_wp2_with (refine wpList_store_row rfl 70 _ _ rfl w.heap.size #[.int .i64 0, .int .i64 0, .int .i64 0, .string ⟨#[]⟩, .string ⟨#[]⟩] rfl rfl _ _ hgR3.out (by kernel_rfl) rfl (yS _ _ _ _ _) ?_)
            exact j4 (v := Ver.zero) rfl rfl hgR3.out hbw3 (by unfold b8; rw [HN2.out]; rfl) (by unfold vU; rw [HN2.out]; rfl)
          | true =>
            have HN := HR3.out
            rw [HM2.out] at HN
            have HN2 := Lib.hid HN
            clear HN
            go_wp2_with (first
              | (refine wpList_load_row rfl 70 _ rfl w2.heap.size rfl _ _ _ _ hgV3.out Tryz.underlying70 rfl (by kernel_rfl) ?_)
              | (refine wpList_store_row rfl 70 _ _ rfl w.heap.size _ rfl rfl _ _ hgR3.out (by kernel_rfl) rfl (yS _ _ _ _ _) ?_))
            exact j4 (v := ⟨ta, tb, tc, _, _⟩) rfl rfl hgR3.out hbw3 (by unfold b8; rw [HN2.out]; rfl) (by unfold vU; rw [HN2.out]; rfl)
theorem d7 (s : List UInt8) (w : World) (hs : s.length ≤ 1000000) :
    Calls Tryz.prog 130 #[.string (mkS s)] w fun e w' => e = .returned (.tuple #[zP (b8 s), .int .i64 (vU s)]) ∧ Below w.heap.size w w' := rparse_any0 s w hs
end
section
theorem Reads.mid {α : Type} {g : α → List Value} {sz : Nat} (hg : ∀ x, (g x).length = sz) {w : World} {B b off c : Nat} {A : Option Addr} {l : List α} (h : Reads g w B A l) (hA : A = some ⟨b, off, none⟩) {a i : Nat} (hi : a < i) (hl : i ≤ l.length) (hc : l.length ≤ c) :
    Reads g w B (some ⟨b, off + (if c = a then 0 else a * sz), none⟩) ((l.drop a).take (i - a)) := fun _ => by
  subst hA
  obtain ⟨b', off', e, hlt, hcell⟩ := h (by omega)
  obtain ⟨rfl, rfl⟩ : b = b' ∧ off = off' := by simp at e; exact e
  refine ⟨b, _, rfl, hlt, fun k u hk => ?_⟩
  rw [if_neg (by omega)]
  have e1 : (l.drop a).flatMap g = ((l.drop a).take (i - a)).flatMap g ++ ((l.drop a).drop (i - a)).flatMap g := by rw [← List.flatMap_append, List.take_append_drop]
  have hk2 : ((l.drop a).flatMap g)[k]? = some u := by
    rw [e1, List.getElem?_append_left (List.getElem?_eq_some_iff.1 hk).1]; exact hk
  rw [flat_drop hg l a (by omega), List.getElem?_drop] at hk2
  have := hcell _ u hk2
  rw [show off + a * sz + k = off + (a * sz + k) from by omega]
  exact this
theorem rsplit32_own (s : List UInt8) (W : World) (hs : s.length ≤ 1000000) :
    Calls Tryz.prog 79 #[.string (mkS s), .int .u8 32] W fun e w' => ∃ v' ob', e = .returned v' ∧ SlT v' (y7 32 [] s) ob' ∧ Own [] W w' ob' :=
  (rsplit_any (mkS s) 32 W (by rw [yC]; exact hs)).mono fun e w' ⟨v, h1, h2, h3⟩ => by
    unfold bM at h2
    rw [mk_data] at h2
    obtain ⟨ob, k1, k2⟩ := Own.row h2 h3
    exact ⟨v, ob, h1, k1, k2⟩
theorem dN {s t : List UInt8} (h : yW s t = true) : t.length ≤ s.length := by
  have q := congrArg List.length (of_decide_eq_true h)
  rw [List.length_take] at q; omega
theorem parE_is (x : List UInt8) : (x5 x).isSome = decide (vU x = 0) := by
  unfold vU
  cases x5 x <;> rfl
theorem cut_no {fr : Bool} {s : List UInt8} (h : yW s (sg8 fr) = false) : jE fr s = ⟨0, Ver.zero, false⟩ ∧ xG fr s = false := by
  unfold jE xG
  rw [h]; exact ⟨rfl, rfl⟩
theorem wX {fr : Bool} {s : List UInt8} (h : yW s (sg8 fr) = true) (h2 : yW (s.drop 1) [61] = true) : jE fr s = ⟨0, b8 ((s.drop 1).drop 1), !fr⟩ ∧ xG fr s = decide (vU ((s.drop 1).drop 1) = 0) := by
  unfold jE xG
  rw [h, h2, ← parE_is]; exact ⟨rfl, rfl⟩
theorem wY {fr : Bool} {s : List UInt8} (h : yW s (sg8 fr) = true) (h2 : yW (s.drop 1) [61] = false) : jE fr s = ⟨0, b8 (s.drop 1), fr⟩ ∧ xG fr s = decide (vU (s.drop 1) = 0) := by
  unfold jE xG
  rw [h, h2, ← parE_is]; exact ⟨rfl, rfl⟩
theorem one_star {a : List UInt8} {r : List (List UInt8)} (h : a = [42]) (hr : r = []) : qI (a :: r) = (spW0, true) := by
  rw [qI, if_pos ⟨h, hr⟩]
theorem one_lo {a : List UInt8} {r : List (List UInt8)} (hn : ¬ (a = [42] ∧ r = [])) (h : xG true a = true) (hr : r = []) : qI (a :: r) = (⟨jE true a, zQ 1⟩, true) := by
  rw [qI, if_neg hn, if_pos h, if_pos hr]
theorem one_two {a b : List UInt8} {r q : List (List UInt8)} (hn : ¬ (a = [42] ∧ r = [])) (h : xG true a = true) (hr : r = b :: q) : qI (a :: r) = (⟨jE true a, jE false b⟩, xG false b && decide (r.length = 1)) := by
  rw [qI, if_neg hn, if_pos h, if_neg (by rw [hr]; simp), hr]; rfl
theorem one_hi {a : List UInt8} {r : List (List UInt8)} (hn : ¬ (a = [42] ∧ r = [])) (h : xG true a = false) : qI (a :: r) = (⟨zQ (-1), jE false a⟩, xG false a && decide (r = [])) := by
  rw [qI, if_neg hn, if_neg (by rw [h]; decide)]
theorem r8span_any (s : Sp) (W : World) (hm : s.may = true) (hsh : s.short) : Calls Tryz.prog 45 #[zF s] W fun e w' => e = .returned (.string (mkS (yF s))) ∧ Below W.heap.size W w' := by
  obtain ⟨m1, m2⟩ := xA hm
  refine zM (n := 41) Tryz.func45 rfl (by kernel_rfl) (by kernel_rfl) (ZO (Zb (zF s) (fun b1 => Zv (.string ⟨#[]⟩) (ZR (Zv (.string ⟨#[]⟩) (zL (z7 ?_)))))))
  refine z8 (ZO (Zv (.pointer (some ⟨b1, 0, none⟩)) (Zv (.pointer (some ⟨b1, 0, none⟩)) (Zl 0 ⟨b1, (zF s).cells, 74⟩ (off := 0) (.int .i64 s.lo.e) ?_))))
  by_cases h1 : (s.lo.e : Int) = 0
  · have il := In.of m1 h1
    have ill := lo_len il
    have ilv := gS il.m il.b
    refine Zd (p := (s.lo.e : Int) = 0) true (decide_eq_true (h1)) (ZY (ZO (Zv (.string ⟨#[62, 61]⟩) (ZN (z8 (z8 (zA ?_)))))))
    refine Zv (.pointer (some ⟨b1, 0, none⟩)) (Zv (.pointer (some ⟨b1, 6, none⟩)) (Zl 0 ⟨b1, (zF s).cells, 74⟩ (off := 6) (.bool s.lo.aft) (zL (z7 ?_))))
    cases h2 : s.lo.aft with
    | true =>
      refine Zt (zA (Zv (.string ⟨#[62]⟩) (ZN (zA (Zv (.string ⟨#[62]⟩) (Zv (.pointer (some ⟨b1, 0, none⟩)) (Zv (.pointer (some ⟨b1, 1, none⟩)) (Zl 0 ⟨b1, (zF s).cells, 74⟩ (off := 1) (.agg #[.int .i64 s.lo.v.maj, .int .i64 s.lo.v.min, .int .i64 s.lo.v.pat, .string (mkS s.lo.v.pre), .string (mkS s.lo.v.build)]) (Zc (k := 73) (args := #[.agg #[.int .i64 s.lo.v.maj, .int .i64 s.lo.v.min, .int .i64 s.lo.v.pat, .string (mkS s.lo.v.pre), .string (mkS s.lo.v.build)]]) (.string (mkS s.lo.v.text)) (fun w _ => qM (by rw [xY il.m]) (qC s.lo.v w hsh.1.1 hsh.1.2)) (zK (.string (mkS ([62] ++ s.lo.v.text))) (by kernel_rfl) (yQ (a := [62]) (b := s.lo.v.text) rfl (by kernel_rfl) (by kernel_rfl) (by first | omega | (simp only [List.length_append, List.length_cons, List.length_nil]; omega))) ?_))))))))))
      refine Zv (.string (mkS ([62] ++ s.lo.v.text))) (ZN (z8 (ZO (Zv (.pointer (some ⟨b1, 7, none⟩)) (Zv (.pointer (some ⟨b1, 7, none⟩)) (Zl 0 ⟨b1, (zF s).cells, 74⟩ (off := 7) (.int .i64 s.hi.e) ?_))))))
      by_cases h3 : (s.hi.e : Int) = 0
      · have ih := In.of m2 h3
        have ihl := nK ih
        have ihv := gS ih.m ih.b
        refine Zn (p := (s.hi.e : Int) = 0) true (decide_eq_true (h3)) (ZX (ZB (ZO (Zv (.string ⟨#[60]⟩) (ZN (z8 ?_))))))
        refine ZO (Zv (.pointer (some ⟨b1, 7, none⟩)) (Zv (.pointer (some ⟨b1, 13, none⟩)) (Zl 0 ⟨b1, (zF s).cells, 74⟩ (off := 13) (.bool s.hi.aft) (zL (z7 ?_)))))
        cases h4 : s.hi.aft with
        | true =>
          refine Zt (zA (Zv (.string ⟨#[60, 61]⟩) (ZR (Zv (.string ⟨#[60, 61]⟩) (Zv (.pointer (some ⟨b1, 7, none⟩)) (Zv (.pointer (some ⟨b1, 8, none⟩)) (Zl 0 ⟨b1, (zF s).cells, 74⟩ (off := 8) (.agg #[.int .i64 s.hi.v.maj, .int .i64 s.hi.v.min, .int .i64 s.hi.v.pat, .string (mkS s.hi.v.pre), .string (mkS s.hi.v.build)]) (Zc (k := 73) (args := #[.agg #[.int .i64 s.hi.v.maj, .int .i64 s.hi.v.min, .int .i64 s.hi.v.pat, .string (mkS s.hi.v.pre), .string (mkS s.hi.v.build)]]) (.string (mkS s.hi.v.text)) (fun w _ => qM (by rw [xY ih.m]) (qC s.hi.v w hsh.2.1 hsh.2.2)) ?_))))))))
          refine zK (.string (mkS ([60, 61] ++ s.hi.v.text))) (by kernel_rfl) (yQ (a := [60, 61]) (b := s.hi.v.text) rfl (by kernel_rfl) (by kernel_rfl) (by first | omega | (simp only [List.length_append, List.length_cons, List.length_nil]; omega))) (Zv (.string (mkS ([60, 61] ++ s.hi.v.text))) (ZN (z8 (ZO (Zv (.string (mkS ([62] ++ s.lo.v.text))) (zK (.bool false) (by kernel_rfl) (zI (a := ([62] ++ s.lo.v.text)) (b := ([])) rfl (by kernel_rfl) (by kernel_rfl) (decide_eq_false (by simp))) (ZN (Zf ?_))))))))
          refine ZB (ZO (Zv (.string (mkS ([62] ++ s.lo.v.text))) (zK (.string (mkS (([62] ++ s.lo.v.text) ++ [32]))) (by kernel_rfl) (yQ (a := ([62] ++ s.lo.v.text)) (b := [32]) rfl (by kernel_rfl) (by kernel_rfl) (by first | omega | (simp only [List.length_append, List.length_cons, List.length_nil]; omega))) (Zv (.string (mkS ([60, 61] ++ s.hi.v.text))) (zK (.string (mkS ((([62] ++ s.lo.v.text) ++ [32]) ++ ([60, 61] ++ s.hi.v.text)))) (by kernel_rfl) (yQ (a := (([62] ++ s.lo.v.text) ++ [32])) (b := ([60, 61] ++ s.hi.v.text)) rfl (by kernel_rfl) (by kernel_rfl) (by first | omega | (simp only [List.length_append, List.length_cons, List.length_nil]; omega))) (Zv (.string (mkS ((([62] ++ s.lo.v.text) ++ [32]) ++ ([60, 61] ++ s.hi.v.text)))) (ZN (zB ?_))))))))
          exact ZF (.string (mkS ((([62] ++ s.lo.v.text) ++ [32]) ++ ([60, 61] ++ s.hi.v.text)))) Tryz.results45 (fun w hO => ⟨by rw [show yF s = ((([62] ++ s.lo.v.text) ++ [32]) ++ ([60, 61] ++ s.hi.v.text)) from by rw [gX, if_pos h1, if_pos h3] <;> simp [xF, xK, h2, h4]] <;> rfl, hO.below⟩)
        | false =>
          refine Zf (ZB (ZO (Zv (.string ⟨#[60]⟩) (Zv (.pointer (some ⟨b1, 7, none⟩)) (Zv (.pointer (some ⟨b1, 8, none⟩)) (Zl 0 ⟨b1, (zF s).cells, 74⟩ (off := 8) (.agg #[.int .i64 s.hi.v.maj, .int .i64 s.hi.v.min, .int .i64 s.hi.v.pat, .string (mkS s.hi.v.pre), .string (mkS s.hi.v.build)]) (Zc (k := 73) (args := #[.agg #[.int .i64 s.hi.v.maj, .int .i64 s.hi.v.min, .int .i64 s.hi.v.pat, .string (mkS s.hi.v.pre), .string (mkS s.hi.v.build)]]) (.string (mkS s.hi.v.text)) (fun w _ => qM (by rw [xY ih.m]) (qC s.hi.v w hsh.2.1 hsh.2.2)) (zK (.string (mkS ([60] ++ s.hi.v.text))) (by kernel_rfl) (yQ (a := [60]) (b := s.hi.v.text) rfl (by kernel_rfl) (by kernel_rfl) (by first | omega | (simp only [List.length_append, List.length_cons, List.length_nil]; omega))) (Zv (.string (mkS ([60] ++ s.hi.v.text))) ?_)))))))))
          refine ZN (z8 (ZO (Zv (.string (mkS ([62] ++ s.lo.v.text))) (zK (.bool false) (by kernel_rfl) (zI (a := ([62] ++ s.lo.v.text)) (b := ([])) rfl (by kernel_rfl) (by kernel_rfl) (decide_eq_false (by simp))) (ZX (yT (z7 ?_)))))))
          exact ZO (Zv (.string (mkS ([62] ++ s.lo.v.text))) (zK (.string (mkS (([62] ++ s.lo.v.text) ++ [32]))) (by kernel_rfl) (yQ (a := ([62] ++ s.lo.v.text)) (b := [32]) rfl (by kernel_rfl) (by kernel_rfl) (by first | omega | (simp only [List.length_append, List.length_cons, List.length_nil]; omega))) (Zv (.string (mkS ([60] ++ s.hi.v.text))) (zK (.string (mkS ((([62] ++ s.lo.v.text) ++ [32]) ++ ([60] ++ s.hi.v.text)))) (by kernel_rfl) (yQ (a := (([62] ++ s.lo.v.text) ++ [32])) (b := ([60] ++ s.hi.v.text)) rfl (by kernel_rfl) (by kernel_rfl) (by first | omega | (simp only [List.length_append, List.length_cons, List.length_nil]; omega))) (Zv (.string (mkS ((([62] ++ s.lo.v.text) ++ [32]) ++ ([60] ++ s.hi.v.text)))) (ZN (zB (ZF (.string (mkS ((([62] ++ s.lo.v.text) ++ [32]) ++ ([60] ++ s.hi.v.text)))) Tryz.results45 (fun w hO => ⟨by rw [show yF s = ((([62] ++ s.lo.v.text) ++ [32]) ++ ([60] ++ s.hi.v.text)) from by rw [gX, if_pos h1, if_pos h3] <;> simp [xF, xK, h2, h4]] <;> rfl, hO.below⟩)))))))))
      refine Zn (p := (s.hi.e : Int) = 0) false (decide_eq_false (h3)) (ZY (z8 (ZO (Zv (.string (mkS ([62] ++ s.lo.v.text))) (zK (.bool false) (by kernel_rfl) (zI (a := ([62] ++ s.lo.v.text)) (b := ([])) rfl (by kernel_rfl) (by kernel_rfl) (decide_eq_false (by simp))) (ZN (Zf ?_)))))))
      exact ZB (ZO (Zv (.string (mkS ([62] ++ s.lo.v.text))) (Zv (.string (mkS ([62] ++ s.lo.v.text))) (ZN (zB (z6 (ZF (.string (mkS ([62] ++ s.lo.v.text))) Tryz.results45 (fun w hO => ⟨by rw [show yF s = ([62] ++ s.lo.v.text) from by rw [gX, if_pos h1, if_neg h3] <;> simp [xF, xK, h2]] <;> rfl, hO.below⟩))))))))
    | false =>
      refine Zf (ZB (zA (Zv (.string ⟨#[62, 61]⟩) (Zv (.pointer (some ⟨b1, 0, none⟩)) (Zv (.pointer (some ⟨b1, 1, none⟩)) (Zl 0 ⟨b1, (zF s).cells, 74⟩ (off := 1) (.agg #[.int .i64 s.lo.v.maj, .int .i64 s.lo.v.min, .int .i64 s.lo.v.pat, .string (mkS s.lo.v.pre), .string (mkS s.lo.v.build)]) (Zc (k := 73) (args := #[.agg #[.int .i64 s.lo.v.maj, .int .i64 s.lo.v.min, .int .i64 s.lo.v.pat, .string (mkS s.lo.v.pre), .string (mkS s.lo.v.build)]]) (.string (mkS s.lo.v.text)) (fun w _ => qM (by rw [xY il.m]) (qC s.lo.v w hsh.1.1 hsh.1.2)) (zK (.string (mkS ([62, 61] ++ s.lo.v.text))) (by kernel_rfl) (yQ (a := [62, 61]) (b := s.lo.v.text) rfl (by kernel_rfl) (by kernel_rfl) (by first | omega | (simp only [List.length_append, List.length_cons, List.length_nil]; omega))) (Zv (.string (mkS ([62, 61] ++ s.lo.v.text))) (zL ?_))))))))))
      refine z7 (z8 (ZO (Zv (.pointer (some ⟨b1, 7, none⟩)) (Zv (.pointer (some ⟨b1, 7, none⟩)) (Zl 0 ⟨b1, (zF s).cells, 74⟩ (off := 7) (.int .i64 s.hi.e) ?_)))))
      by_cases h5 : (s.hi.e : Int) = 0
      · have ih := In.of m2 h5
        have ihl := nK ih
        have ihv := gS ih.m ih.b
        refine Zn (p := (s.hi.e : Int) = 0) true (decide_eq_true (h5)) (ZX (ZB (ZO (Zv (.string ⟨#[60]⟩) (ZN (z8 ?_))))))
        refine ZO (Zv (.pointer (some ⟨b1, 7, none⟩)) (Zv (.pointer (some ⟨b1, 13, none⟩)) (Zl 0 ⟨b1, (zF s).cells, 74⟩ (off := 13) (.bool s.hi.aft) (zL (z7 ?_)))))
        cases h6 : s.hi.aft with
        | true =>
          refine Zt (zA (Zv (.string ⟨#[60, 61]⟩) (ZR (Zv (.string ⟨#[60, 61]⟩) (Zv (.pointer (some ⟨b1, 7, none⟩)) (Zv (.pointer (some ⟨b1, 8, none⟩)) (Zl 0 ⟨b1, (zF s).cells, 74⟩ (off := 8) (.agg #[.int .i64 s.hi.v.maj, .int .i64 s.hi.v.min, .int .i64 s.hi.v.pat, .string (mkS s.hi.v.pre), .string (mkS s.hi.v.build)]) (Zc (k := 73) (args := #[.agg #[.int .i64 s.hi.v.maj, .int .i64 s.hi.v.min, .int .i64 s.hi.v.pat, .string (mkS s.hi.v.pre), .string (mkS s.hi.v.build)]]) (.string (mkS s.hi.v.text)) (fun w _ => qM (by rw [xY ih.m]) (qC s.hi.v w hsh.2.1 hsh.2.2)) ?_))))))))
          refine zK (.string (mkS ([60, 61] ++ s.hi.v.text))) (by kernel_rfl) (yQ (a := [60, 61]) (b := s.hi.v.text) rfl (by kernel_rfl) (by kernel_rfl) (by first | omega | (simp only [List.length_append, List.length_cons, List.length_nil]; omega))) (Zv (.string (mkS ([60, 61] ++ s.hi.v.text))) (ZN (z8 (ZO (Zv (.string (mkS ([62, 61] ++ s.lo.v.text))) (zK (.bool false) (by kernel_rfl) (zI (a := ([62, 61] ++ s.lo.v.text)) (b := ([])) rfl (by kernel_rfl) (by kernel_rfl) (decide_eq_false (by simp))) (ZN (Zf ?_))))))))
          refine ZB (ZO (Zv (.string (mkS ([62, 61] ++ s.lo.v.text))) (zK (.string (mkS (([62, 61] ++ s.lo.v.text) ++ [32]))) (by kernel_rfl) (yQ (a := ([62, 61] ++ s.lo.v.text)) (b := [32]) rfl (by kernel_rfl) (by kernel_rfl) (by first | omega | (simp only [List.length_append, List.length_cons, List.length_nil]; omega))) (Zv (.string (mkS ([60, 61] ++ s.hi.v.text))) (zK (.string (mkS ((([62, 61] ++ s.lo.v.text) ++ [32]) ++ ([60, 61] ++ s.hi.v.text)))) (by kernel_rfl) (yQ (a := (([62, 61] ++ s.lo.v.text) ++ [32])) (b := ([60, 61] ++ s.hi.v.text)) rfl (by kernel_rfl) (by kernel_rfl) (by first | omega | (simp only [List.length_append, List.length_cons, List.length_nil]; omega))) (Zv (.string (mkS ((([62, 61] ++ s.lo.v.text) ++ [32]) ++ ([60, 61] ++ s.hi.v.text)))) (ZN (zB ?_))))))))
          exact ZF (.string (mkS ((([62, 61] ++ s.lo.v.text) ++ [32]) ++ ([60, 61] ++ s.hi.v.text)))) Tryz.results45 (fun w hO => ⟨by rw [show yF s = ((([62, 61] ++ s.lo.v.text) ++ [32]) ++ ([60, 61] ++ s.hi.v.text)) from by rw [gX, if_pos h1, if_pos h5] <;> simp [xF, xK, h2, h6]] <;> rfl, hO.below⟩)
        | false =>
          refine Zf (ZB (ZO (Zv (.string ⟨#[60]⟩) (Zv (.pointer (some ⟨b1, 7, none⟩)) (Zv (.pointer (some ⟨b1, 8, none⟩)) (Zl 0 ⟨b1, (zF s).cells, 74⟩ (off := 8) (.agg #[.int .i64 s.hi.v.maj, .int .i64 s.hi.v.min, .int .i64 s.hi.v.pat, .string (mkS s.hi.v.pre), .string (mkS s.hi.v.build)]) (Zc (k := 73) (args := #[.agg #[.int .i64 s.hi.v.maj, .int .i64 s.hi.v.min, .int .i64 s.hi.v.pat, .string (mkS s.hi.v.pre), .string (mkS s.hi.v.build)]]) (.string (mkS s.hi.v.text)) (fun w _ => qM (by rw [xY ih.m]) (qC s.hi.v w hsh.2.1 hsh.2.2)) (zK (.string (mkS ([60] ++ s.hi.v.text))) (by kernel_rfl) (yQ (a := [60]) (b := s.hi.v.text) rfl (by kernel_rfl) (by kernel_rfl) (by first | omega | (simp only [List.length_append, List.length_cons, List.length_nil]; omega))) (Zv (.string (mkS ([60] ++ s.hi.v.text))) ?_)))))))))
          refine ZN (z8 (ZO (Zv (.string (mkS ([62, 61] ++ s.lo.v.text))) (zK (.bool false) (by kernel_rfl) (zI (a := ([62, 61] ++ s.lo.v.text)) (b := ([])) rfl (by kernel_rfl) (by kernel_rfl) (decide_eq_false (by simp))) (ZX (yT (z7 ?_)))))))
          exact ZO (Zv (.string (mkS ([62, 61] ++ s.lo.v.text))) (zK (.string (mkS (([62, 61] ++ s.lo.v.text) ++ [32]))) (by kernel_rfl) (yQ (a := ([62, 61] ++ s.lo.v.text)) (b := [32]) rfl (by kernel_rfl) (by kernel_rfl) (by first | omega | (simp only [List.length_append, List.length_cons, List.length_nil]; omega))) (Zv (.string (mkS ([60] ++ s.hi.v.text))) (zK (.string (mkS ((([62, 61] ++ s.lo.v.text) ++ [32]) ++ ([60] ++ s.hi.v.text)))) (by kernel_rfl) (yQ (a := (([62, 61] ++ s.lo.v.text) ++ [32])) (b := ([60] ++ s.hi.v.text)) rfl (by kernel_rfl) (by kernel_rfl) (by first | omega | (simp only [List.length_append, List.length_cons, List.length_nil]; omega))) (Zv (.string (mkS ((([62, 61] ++ s.lo.v.text) ++ [32]) ++ ([60] ++ s.hi.v.text)))) (ZN (zB (ZF (.string (mkS ((([62, 61] ++ s.lo.v.text) ++ [32]) ++ ([60] ++ s.hi.v.text)))) Tryz.results45 (fun w hO => ⟨by rw [show yF s = ((([62, 61] ++ s.lo.v.text) ++ [32]) ++ ([60] ++ s.hi.v.text)) from by rw [gX, if_pos h1, if_pos h5] <;> simp [xF, xK, h2, h6]] <;> rfl, hO.below⟩)))))))))
      refine Zn (p := (s.hi.e : Int) = 0) false (decide_eq_false (h5)) (ZY (z8 (ZO (Zv (.string (mkS ([62, 61] ++ s.lo.v.text))) (zK (.bool false) (by kernel_rfl) (zI (a := ([62, 61] ++ s.lo.v.text)) (b := ([])) rfl (by kernel_rfl) (by kernel_rfl) (decide_eq_false (by simp))) (ZN (Zf ?_)))))))
      exact ZB (ZO (Zv (.string (mkS ([62, 61] ++ s.lo.v.text))) (Zv (.string (mkS ([62, 61] ++ s.lo.v.text))) (ZN (zB (z6 (ZF (.string (mkS ([62, 61] ++ s.lo.v.text))) Tryz.results45 (fun w hO => ⟨by rw [show yF s = ([62, 61] ++ s.lo.v.text) from by rw [gX, if_pos h1, if_neg h5] <;> simp [xF, xK, h2]] <;> rfl, hO.below⟩))))))))
  refine Zd (p := (s.lo.e : Int) = 0) false (decide_eq_false (h1)) (ZX (ZB (z8 (ZO (Zv (.pointer (some ⟨b1, 7, none⟩)) (Zv (.pointer (some ⟨b1, 7, none⟩)) (Zl 0 ⟨b1, (zF s).cells, 74⟩ (off := 7) (.int .i64 s.hi.e) ?_)))))))
  by_cases h7 : (s.hi.e : Int) = 0
  · have ih := In.of m2 h7
    have ihl := nK ih
    have ihv := gS ih.m ih.b
    refine Zn (p := (s.hi.e : Int) = 0) true (decide_eq_true (h7)) (ZX (ZB (ZO (Zv (.string ⟨#[60]⟩) (ZN (z8 ?_))))))
    refine ZO (Zv (.pointer (some ⟨b1, 7, none⟩)) (Zv (.pointer (some ⟨b1, 13, none⟩)) (Zl 0 ⟨b1, (zF s).cells, 74⟩ (off := 13) (.bool s.hi.aft) (zL (z7 ?_)))))
    cases h8 : s.hi.aft with
    | true =>
      refine Zt (zA (Zv (.string ⟨#[60, 61]⟩) (ZR (Zv (.string ⟨#[60, 61]⟩) (Zv (.pointer (some ⟨b1, 7, none⟩)) (Zv (.pointer (some ⟨b1, 8, none⟩)) (Zl 0 ⟨b1, (zF s).cells, 74⟩ (off := 8) (.agg #[.int .i64 s.hi.v.maj, .int .i64 s.hi.v.min, .int .i64 s.hi.v.pat, .string (mkS s.hi.v.pre), .string (mkS s.hi.v.build)]) (Zc (k := 73) (args := #[.agg #[.int .i64 s.hi.v.maj, .int .i64 s.hi.v.min, .int .i64 s.hi.v.pat, .string (mkS s.hi.v.pre), .string (mkS s.hi.v.build)]]) (.string (mkS s.hi.v.text)) (fun w _ => qM (by rw [xY ih.m]) (qC s.hi.v w hsh.2.1 hsh.2.2)) ?_))))))))
      refine zK (.string (mkS ([60, 61] ++ s.hi.v.text))) (by kernel_rfl) (yQ (a := [60, 61]) (b := s.hi.v.text) rfl (by kernel_rfl) (by kernel_rfl) (by first | omega | (simp only [List.length_append, List.length_cons, List.length_nil]; omega))) (Zv (.string (mkS ([60, 61] ++ s.hi.v.text))) (ZN (z8 (ZO (Zv (.string ⟨#[]⟩) (zK (.bool true) (by kernel_rfl) (zI (a := ([])) (b := ([])) rfl (by kernel_rfl) (by kernel_rfl) (decide_eq_true (rfl))) (ZN (Zt ?_))))))))
      exact ZO (Zv (.string (mkS ([60, 61] ++ s.hi.v.text))) (Zv (.string (mkS ([60, 61] ++ s.hi.v.text))) (ZN (zB (z6 (ZF (.string (mkS ([60, 61] ++ s.hi.v.text))) Tryz.results45 (fun w hO => ⟨by rw [show yF s = ([60, 61] ++ s.hi.v.text) from by rw [gX, if_neg h1, if_pos h7] <;> simp [xF, xK, h8]] <;> rfl, hO.below⟩)))))))
    | false =>
      refine Zf (ZB (ZO (Zv (.string ⟨#[60]⟩) (Zv (.pointer (some ⟨b1, 7, none⟩)) (Zv (.pointer (some ⟨b1, 8, none⟩)) (Zl 0 ⟨b1, (zF s).cells, 74⟩ (off := 8) (.agg #[.int .i64 s.hi.v.maj, .int .i64 s.hi.v.min, .int .i64 s.hi.v.pat, .string (mkS s.hi.v.pre), .string (mkS s.hi.v.build)]) (Zc (k := 73) (args := #[.agg #[.int .i64 s.hi.v.maj, .int .i64 s.hi.v.min, .int .i64 s.hi.v.pat, .string (mkS s.hi.v.pre), .string (mkS s.hi.v.build)]]) (.string (mkS s.hi.v.text)) (fun w _ => qM (by rw [xY ih.m]) (qC s.hi.v w hsh.2.1 hsh.2.2)) (zK (.string (mkS ([60] ++ s.hi.v.text))) (by kernel_rfl) (yQ (a := [60]) (b := s.hi.v.text) rfl (by kernel_rfl) (by kernel_rfl) (by first | omega | (simp only [List.length_append, List.length_cons, List.length_nil]; omega))) (Zv (.string (mkS ([60] ++ s.hi.v.text))) ?_)))))))))
      refine ZN (z8 (ZO (Zv (.string ⟨#[]⟩) (zK (.bool true) (by kernel_rfl) (zI (a := ([])) (b := ([])) rfl (by kernel_rfl) (by kernel_rfl) (decide_eq_true (rfl))) (ZY (z8 (zA ?_)))))))
      exact Zv (.string (mkS ([60] ++ s.hi.v.text))) (Zv (.string (mkS ([60] ++ s.hi.v.text))) (ZN (zB (z6 (ZF (.string (mkS ([60] ++ s.hi.v.text))) Tryz.results45 (fun w hO => ⟨by rw [show yF s = ([60] ++ s.hi.v.text) from by rw [gX, if_neg h1, if_pos h7] <;> simp [xF, xK, h8]] <;> rfl, hO.below⟩))))))
  refine Zn (p := (s.hi.e : Int) = 0) false (decide_eq_false (h7)) (ZY (z8 (ZO (Zv (.string ⟨#[]⟩) (zK (.bool true) (by kernel_rfl) (zI (a := ([])) (b := ([])) rfl (by kernel_rfl) (by kernel_rfl) (decide_eq_true (rfl))) (ZN (Zt ?_)))))))
  exact ZO (Zv (.string ⟨#[42]⟩) (ZN (zB (z6 (z6 (ZF (.string ⟨#[42]⟩) Tryz.results45 (fun w hO => ⟨by rw [show yF s = [42] from by rw [gX, if_neg h1, if_neg h7] <;> simp [xF, xK]] <;> rfl, hO.below⟩)))))))
theorem pZ (A : Option Addr) (cap : Nat) (l : List Sp) (W : World) (hv : Reads yB W W.heap.size A l) (hm : ∀ s ∈ l, s.may = true) (hsh : yL l) (hn : l.length ≤ 1000000) : Calls Tryz.prog 26 #[.slice A l.length cap] W fun e w' => e = .returned (.string (mkS (zT l))) ∧ Below W.heap.size W w' := by
  refine zM (n := 26) Tryz.func26 rfl (by kernel_rfl) (by kernel_rfl) (ZO (Zv (.string ⟨#[]⟩) (ZN (z8 (ZO (Zv (.slice A l.length cap) (Zv (.int .i64 (l.length : Int)) ?_)))))))
  by_cases h1 : (l.length : Int) = 0
  · refine xO (p := (l.length : Int) = 0) true (by kernel_rfl) (fun _ => by kernel_rfl) (decide_eq_true (h1)) ?_
    exact ZY (ZO (Zv (.string ⟨#[45]⟩) (ZN (zB (z6 (ZF (.string ⟨#[45]⟩) Tryz.results26 (fun w hO => ⟨by rw [show zT l = [45] from by rw [show l = [] from List.eq_nil_of_length_eq_zero (by omega)]; rfl]; rfl, hO.below⟩)))))))
  refine Zd (p := (l.length : Int) = 0) false (decide_eq_false (h1)) (ZX (ZB (ZO (Zv (.string ⟨#[]⟩) (ZN (z8 ?_))))))
  refine ZO (Zv (.int .i64 0) (ZN (zX (kH (fun L f m => ∃ (k : Nat) (j : Nat → Value), (k ≤ l.length) ∧ L = [] ∧ f = jD j [(0, .slice A l.length cap), (3, .string (mkS (gB l k))), (4, .int .i64 (k : Int))] ∧ m = l.length - k) (l.length - 0) ⟨0, _, Nat.zero_le _, rfl, ZU, rfl⟩ ?_))))
  rintro L f m ⟨k, j, hrel, rfl, rfl, rfl⟩
  have hrk := p4 hm k
  refine z8 (ZO (Zv (.int .i64 (k : Int)) (Zv (.slice A l.length cap) (Zv (.int .i64 (l.length : Int)) ?_))))
  by_cases h2 : (k : Int) < (l.length : Int)
  · have hk : k < l.length := by omega
    obtain ⟨bp, off, hA, hlt, hcell⟩ := hv (by omega)
    obtain ⟨s, hs⟩ : ∃ s, l[k] = s := ⟨_, rfl⟩
    have hsm : s ∈ l := hs ▸ List.getElem_mem hk
    have hsl := sp_len (hm s hsm)
    refine Zd (p := (k : Int) < (l.length : Int)) true (decide_eq_true (h2)) (ZY (ZB (z8 (zX (z8 (ZO (Zv (.int .i64 (k : Int)) ?_)))))))
    by_cases h3 : (0 : Int) < (k : Int)
    · refine xO (p := (0 : Int) < (k : Int)) true (by kernel_rfl) (fun _ => by kernel_rfl) (decide_eq_true (h3)) ?_
      refine ZY (zA (Zv (.string (mkS (gB l k))) (zK (.string (mkS ((gB l k) ++ [32, 111, 114, 32]))) (by kernel_rfl) (yQ (a := (gB l k)) (b := [32, 111, 114, 32]) rfl (by kernel_rfl) (by kernel_rfl) (by first | omega | (simp only [List.length_append, List.length_cons, List.length_nil]; omega))) (Zv (.string (mkS ((gB l k) ++ [32, 111, 114, 32]))) (ZN (zA (Zv (.string (mkS ((gB l k) ++ [32, 111, 114, 32]))) (Zv (.slice A l.length cap) ?_))))))))
      refine Zv (.int .i64 (k : Int)) (zK (.pointer (some ⟨bp, off + k * 14, none⟩)) (by kernel_rfl) (ZA (b := bp) (off := off) (c := cap) (n := l.length) (k := .i64) (j := (k : Int)) (e := 74) (sz := 14) hA) (Zo (zF s) (a := ⟨bp, off + k * 14, none⟩) (fun w hO => yH yD (fun j u h => (hO.below.cell (p := ⟨bp, off + j, none⟩) hlt).trans (hcell j u h)) k 0 hk (by omega) _ (by rw [hs]; kernel_rfl)) (Zc (k := 45) (args := #[zF s]) (.string (mkS (yF s))) (fun w _ => r8span_any s w (hm s hsm) (hsh s hsm)) (zK (.string (mkS (((gB l k) ++ [32, 111, 114, 32]) ++ (yF s)))) (by kernel_rfl) (yQ (a := ((gB l k) ++ [32, 111, 114, 32])) (b := (yF s)) rfl (by kernel_rfl) (by kernel_rfl) (by first | omega | (simp only [List.length_append, List.length_cons, List.length_nil]; omega))) (Zv (.string (mkS (((gB l k) ++ [32, 111, 114, 32]) ++ (yF s)))) (zL (zR (z7 (zA (Zv (.int .i64 (k : Int)) (Zu (k := .i64) (((k + 1 : Nat) : Int)) (IntWalk.i64_in _ (by omega)) ?_)))))))))))
      refine Zv (.int .i64 ((k + 1 : Nat) : Int)) (zL ?_)
      have hstep : (((gB l k) ++ [32, 111, 114, 32]) ++ (yF s)) = gB l (k + 1) := by rw [fU hk, hs, if_neg (show ¬ k = 0 by omega)]
      rw [hstep]
      exact zY (m' := l.length - (k + 1)) (by omega) ⟨k + 1, _, by omega, rfl, ZU, rfl⟩
    refine Zd (p := (0 : Int) < (k : Int)) false (decide_eq_false (h3)) (ZX (ZB (zA (Zv (.string (mkS (gB l k))) (Zv (.slice A l.length cap) (Zv (.int .i64 (k : Int)) (zK (.pointer (some ⟨bp, off + k * 14, none⟩)) (by kernel_rfl) (ZA (b := bp) (off := off) (c := cap) (n := l.length) (k := .i64) (j := (k : Int)) (e := 74) (sz := 14) hA) (Zo (zF s) (a := ⟨bp, off + k * 14, none⟩) (fun w hO => yH yD (fun j u h => (hO.below.cell (p := ⟨bp, off + j, none⟩) hlt).trans (hcell j u h)) k 0 hk (by omega) _ (by rw [hs]; kernel_rfl)) ?_))))))))
    refine Zc (k := 45) (args := #[zF s]) (.string (mkS (yF s))) (fun w _ => r8span_any s w (hm s hsm) (hsh s hsm)) (zK (.string (mkS ((gB l k) ++ (yF s)))) (by kernel_rfl) (yQ (a := (gB l k)) (b := (yF s)) rfl (by kernel_rfl) (by kernel_rfl) (by first | omega | (simp only [List.length_append, List.length_cons, List.length_nil]; omega))) (Zv (.string (mkS ((gB l k) ++ (yF s)))) (zL (zR (z7 (zA (Zv (.int .i64 (k : Int)) (Zu (k := .i64) (((k + 1 : Nat) : Int)) (IntWalk.i64_in _ (by omega)) (Zv (.int .i64 ((k + 1 : Nat) : Int)) (zL ?_))))))))))
    have hstep : ((gB l k) ++ (yF s)) = gB l (k + 1) := by rw [fU hk, hs, if_pos (show k = 0 by omega), show gB l k = [] from by rw [show k = 0 by omega]; rfl]
    rw [hstep]
    exact zY (m' := l.length - (k + 1)) (by omega) ⟨k + 1, _, by omega, rfl, ZU, rfl⟩
  refine Zd (p := (k : Int) < (l.length : Int)) false (decide_eq_false (h2)) (ZX (xQ (yA (y5 (zW (z7 (ZO (Zv (.string (mkS (gB l k))) ?_))))))))
  exact Zv (.string (mkS (gB l k))) (ZN (zB (ZF (.string (mkS (gB l k))) Tryz.results26 (fun w hO => ⟨by rw [rowK_all (l := l) (k := k) (fun e => h1 (by rw [e]; rfl)) (by omega)], hO.below⟩))))
theorem wP (A B : Option Addr) (c d : Nat) (a : St) (W : World) (hs : SetIn W W.heap.size A B a) : Calls Tryz.prog 12 #[.agg #[.slice A a.rel.length c, .slice B a.pre.length d]] W fun e w' => e = .returned (.string (mkS (zG a))) ∧ Below W.heap.size W w' := by
  refine zM (n := 21) Tryz.func12 rfl (by kernel_rfl) (by kernel_rfl) (ZO (Zb (.agg #[.slice A a.rel.length c, .slice B a.pre.length d]) (fun b1 => Zv (.string ⟨#[]⟩) (ZN (z8 (ZO (Zl 0 ⟨b1, #[.slice A a.rel.length c, .slice B a.pre.length d], 24⟩ (off := 0) (.agg #[.slice A a.rel.length c, .slice B a.pre.length d]) (Zc (k := 25) (args := #[.agg #[.slice A a.rel.length c, .slice B a.pre.length d]]) (.bool a.may) (fun w hO => rsetMay_any A B c d a w (hs.on hO.below hO.size)) ?_))))))))
  cases h1 : a.may with
  | true =>
    obtain ⟨y1, y2, y3⟩ := St.facts h1
    have z1 := jK (xL y1)
    have z2 := jK (xL y2)
    have z3 := hs.lr
    have z4 := hs.lp
    refine Zv (.bool false) (ZX (ZB (z8 (ZO (Zv (.pointer (some ⟨b1, 1, none⟩)) (Zl 0 ⟨b1, #[.slice A a.rel.length c, .slice B a.pre.length d], 24⟩ (off := 1) (.slice B a.pre.length d) (Zv (.int .i64 (a.pre.length : Int)) ?_)))))))
    by_cases h2 : (a.pre.length : Int) = 0
    · refine xO (p := (a.pre.length : Int) = 0) true (by kernel_rfl) (fun _ => by kernel_rfl) (decide_eq_true (h2)) ?_
      refine ZY (ZO (Zv (.pointer (some ⟨b1, 0, none⟩)) (Zl 0 ⟨b1, #[.slice A a.rel.length c, .slice B a.pre.length d], 24⟩ (off := 0) (.slice A a.rel.length c) (Zc (k := 26) (args := #[.slice A a.rel.length c]) (.string (mkS (zT a.rel))) (fun w hO => pZ A c a.rel w (hs.rel.on hO.below hO.size) (xL y1) hs.sr (Nat.le_trans hs.lr (by decide))) (Zv (.string (mkS (zT a.rel))) (ZN (zB ?_)))))))
      exact z6 (ZF (.string (mkS (zT a.rel))) Tryz.results12 (fun w hO => ⟨by rw [show zG a = yI a from if_pos h1]; unfold yI; rw [if_pos (List.eq_nil_of_length_eq_zero (by omega))], hO.below⟩))
    refine Zd (p := (a.pre.length : Int) = 0) false (decide_eq_false (h2)) (ZX (ZB (z8 (g7 (by kernel_rfl) (by kernel_rfl) (Zw (.pointer (some ⟨b1, 0, none⟩)) (Zm 0 ⟨b1, #[.slice A a.rel.length c, .slice B a.pre.length d], 24⟩ (off := 0) (.slice A a.rel.length c) (Zq (k := 26) (args := #[.slice A a.rel.length c]) (.string (mkS (zT a.rel))) (fun w hO => pZ A c a.rel w (hs.rel.on hO.below hO.size) (xL y1) hs.sr (Nat.le_trans hs.lr (by decide))) (kL (.string (mkS ((zT a.rel) ++ [32, 47, 32]))) (by kernel_rfl) (yQ (a := (zT a.rel)) (b := [32, 47, 32]) rfl (by kernel_rfl) (by kernel_rfl) (by first | omega | (simp only [List.length_append, List.length_cons, List.length_nil]; omega))) ?_))))))))
    exact Zw (.pointer (some ⟨b1, 1, none⟩)) (Zm 0 ⟨b1, #[.slice A a.rel.length c, .slice B a.pre.length d], 24⟩ (off := 1) (.slice B a.pre.length d) (Zq (k := 26) (args := #[.slice B a.pre.length d]) (.string (mkS (zT a.pre))) (fun w hO => pZ B d a.pre w (hs.pre.on hO.below hO.size) (xL y2) hs.sp (Nat.le_trans hs.lp (by decide))) (kL (.string (mkS (((zT a.rel) ++ [32, 47, 32]) ++ (zT a.pre)))) (by kernel_rfl) (yQ (a := ((zT a.rel) ++ [32, 47, 32])) (b := (zT a.pre)) rfl (by kernel_rfl) (by kernel_rfl) (by first | omega | (simp only [List.length_append, List.length_cons, List.length_nil]; omega))) (Zw (.string (mkS (((zT a.rel) ++ [32, 47, 32]) ++ (zT a.pre)))) (xP (z7 (zB (ZF (.string (mkS (((zT a.rel) ++ [32, 47, 32]) ++ (zT a.pre)))) Tryz.results12 (fun w hO => ⟨by rw [show zG a = yI a from if_pos h1]; unfold yI; rw [if_neg (fun e => h2 (by rw [e]; rfl))], hO.below⟩)))))))))
  | false =>
    refine Zv (.bool true) (ZY (ZO (Zv (.string ⟨#[]⟩) (ZN (zB (z6 (ZF (.string ⟨#[]⟩) Tryz.results12 ?_)))))))
    exact fun w hO => ⟨by rw [show zG a = [] from if_neg (by rw [h1]; decide)]; rfl, hO.below⟩
theorem jH (s t : List UInt8) (W : World) : Calls Tryz.prog 129 #[.string (mkS s), .string (mkS t)] W fun e w' => e = .returned (.bool (yW s t)) ∧ Below W.heap.size W w' := by
  have hs := yC s
  have ht := yC t
  refine zM (n := 18) Tryz.func129 rfl (by kernel_rfl) (by kernel_rfl) (ZO (Zv (.bool false) (ZR (Zv (.string (mkS s)) (Zv (.int .i64 ((mkS s).size)) (Zv (.string (mkS t)) (Zv (.int .i64 ((mkS t).size)) ?_)))))))
  by_cases h1 : ((mkS t).size : Int) ≤ (mkS s).size
  · refine xO (p := ((mkS t).size : Int) ≤ (mkS s).size) true (by kernel_rfl) (fun _ => by kernel_rfl) (decide_eq_true (h1)) ?_
    refine Zv (.bool true) (Zv (.string (mkS s)) (Zv (.string (mkS t)) (Zv (.int .i64 ((mkS t).size)) (zK (.string (mkS (s.take (mkS t).size))) (by kernel_rfl) (pX (s := s) (k := .i64) (j := ((mkS t).size : Int)) rfl (by kernel_rfl) (by kernel_rfl) Tryz.underlying9 (by omega) (by omega)) (Zv (.string (mkS t)) ?_)))))
    by_cases h2 : ((s.take (mkS t).size) : List UInt8) = t
    · refine zK (.bool true) (by kernel_rfl) (zI (a := (s.take (mkS t).size)) (b := t) rfl (by kernel_rfl) (by kernel_rfl) (decide_eq_true (h2))) ?_
      exact Zv (.bool true) (Zv (.bool true) (ZN (zB (ZF (.bool true) Tryz.results129 (fun w hO => ⟨by rw [show yW s t = true from decide_eq_true (by rw [← ht]; assumption)], hO.below⟩)))))
    exact zK (.bool false) (by kernel_rfl) (zI (a := (s.take (mkS t).size)) (b := t) rfl (by kernel_rfl) (by kernel_rfl) (decide_eq_false (h2))) (Zv (.bool false) (Zv (.bool false) (ZN (zB (ZF (.bool false) Tryz.results129 (fun w hO => ⟨by rw [show yW s t = false from decide_eq_false (by rw [← ht]; assumption)], hO.below⟩))))))
  refine Zd (p := ((mkS t).size : Int) ≤ (mkS s).size) false (decide_eq_false (h1)) (Zv (.bool false) (Zk (Zk (Zk (Zk (Zk (Zk (Zv (.bool false) (Zv (.bool false) (zL (z7 ?_)))))))))))
  exact zB (ZF (.bool false) Tryz.results129 (fun w hO => ⟨by rw [show yW s t = false from decide_eq_false fun q0 => by have q1 := congrArg List.length q0; rw [List.length_take] at q1; omega], hO.below⟩))
theorem r8cutL_any (s : List UInt8) (W : World) (hs : s.length ≤ 1000000) : Calls Tryz.prog 80 #[.string (mkS s), .bool true] W fun e w' => e = .returned (.tuple #[zC (jE true s), .bool (xG true s)]) ∧ Below W.heap.size W w' := by
  refine zM (n := 35) Tryz.func80 rfl (by kernel_rfl) (by kernel_rfl) (ZO (Za (.agg #[.int .i64 0, .int .i64 0, .int .i64 0, .int .i64 0, .string ⟨#[]⟩, .string ⟨#[]⟩, .bool false]) (fun b1 => Zv (.bool false) (ZR (Zv (.string ⟨#[60]⟩) (zL (z7 ?_)))))))
  refine z8 (ZO (Zv (.bool true) (ZY (zA (Zv (.string ⟨#[62]⟩) (ZN (z8 ?_)))))))
  refine ZO (Zv (.string (mkS s)) (Zv (.string ⟨#[62]⟩) (Zc (k := 129) (args := #[.string (mkS s), .string ⟨#[62]⟩]) (.bool (yW s [62])) (fun w _ => jH s [62] w) ?_)))
  cases h1 : yW s [62] with
  | true =>
    have hb1 := dN h1
    refine Zv (.bool false) (ZX (ZB (ZO (Zv (.string (mkS s)) (zK (.string (mkS (s.drop 1))) (by kernel_rfl) (jJ (s := s) (k := .i64) (j := 1) rfl (by kernel_rfl) (by kernel_rfl) Tryz.underlying9 (by omega) (by have q := yC s; have : ([62] : List UInt8).length = 1 := rfl; have : ([60] : List UInt8).length = 1 := rfl; omega)) (Zv (.string (mkS (s.drop 1))) (zL ?_)))))))
    refine z7 (ZO (Zv (.bool true) (Zv (.bool true) (ZN (z8 (ZO (Zv (.string (mkS (s.drop 1))) (Zc (k := 129) (args := #[.string (mkS (s.drop 1)), .string ⟨#[61]⟩]) (.bool (yW (s.drop 1) [61])) (fun w _ => jH (s.drop 1) [61] w) ?_))))))))
    refine zL (z7 ?_)
    cases h2 : yW (s.drop 1) [61] with
    | true =>
      have hb2 := dN h2
      refine Zt (ZO (Zv (.bool true) (Zv (.bool false) (Zv (.bool false) (ZN (zA (Zv (.string (mkS (s.drop 1))) (zK (.string (mkS ((s.drop 1).drop 1))) (by kernel_rfl) (jJ (s := (s.drop 1)) (k := .i64) (j := 1) rfl (by kernel_rfl) (by kernel_rfl) Tryz.underlying9 (by omega) (by have q := yC (s.drop 1); have : ([61] : List UInt8).length = 1 := rfl; omega)) (Zv (.string (mkS ((s.drop 1).drop 1))) ?_)))))))))
      refine ZR (Zv (.string (mkS ((s.drop 1).drop 1))) ?_)
      obtain ⟨v, hv⟩ : ∃ v, v = b8 (((s.drop 1).drop 1)) := ⟨_, rfl⟩
      obtain ⟨n, hn⟩ : ∃ n, n = vU (((s.drop 1).drop 1)) := ⟨_, rfl⟩
      refine Zc (k := 130) (args := #[.string (mkS ((s.drop 1).drop 1))]) (.tuple #[zP v, .int .i64 n]) (fun w _ => by rw [hv, hn]; exact d7 (((s.drop 1).drop 1)) w (by simp only [List.length_drop]; omega)) (Zv (.tuple #[zP v, .int .i64 n]) (Zv (zP v) (Zv (.int .i64 n) (Za (.agg #[.int .i64 0, .int .i64 0, .int .i64 0, .string ⟨#[]⟩, .string ⟨#[]⟩]) (fun b2 => Zs 0 ⟨b2, #[.int .i64 0, .int .i64 0, .int .i64 0, .string ⟨#[]⟩, .string ⟨#[]⟩], 70⟩ (off := 0) (zP v) (Zv (.int .i64 n) (ZR (Zl 0 ⟨b2, (zP v).cells, 70⟩ (off := 0) (zP v) ?_))))))))
      refine Zv (.bool false) (Zv (.agg #[.int .i64 0, .int .i64 v.maj, .int .i64 v.min, .int .i64 v.pat, .string (mkS v.pre), .string (mkS v.build), .bool false]) (Zv (.int .i64 n) ?_))
      by_cases h3 : (n : Int) = 0
      · refine xO (p := (n : Int) = 0) true (by kernel_rfl) (fun _ => by kernel_rfl) (decide_eq_true (h3)) ?_
        exact Zs 1 ⟨b1, #[.int .i64 0, .int .i64 0, .int .i64 0, .int .i64 0, .string ⟨#[]⟩, .string ⟨#[]⟩, .bool false], 72⟩ (off := 0) (.agg #[.int .i64 0, .int .i64 v.maj, .int .i64 v.min, .int .i64 v.pat, .string (mkS v.pre), .string (mkS v.build), .bool false]) (Zv (.bool true) (ZN (zB (ZD 1 ⟨b1, #[.int .i64 0, .int .i64 v.maj, .int .i64 v.min, .int .i64 v.pat, .string (mkS v.pre), .string (mkS v.build), .bool false], 72⟩ (off := 0) (.agg #[.int .i64 0, .int .i64 v.maj, .int .i64 v.min, .int .i64 v.pat, .string (mkS v.pre), .string (mkS v.build), .bool false]) (.bool true) Tryz.results80 (fun w hO => ⟨by rw [(wX (fr := true) h1 h2).1, (wX (fr := true) h1 h2).2, ← hv, ← hn, decide_eq_true h3]; rfl, hO.below⟩)))))
      exact Zd (p := (n : Int) = 0) false (decide_eq_false (h3)) (Zs 1 ⟨b1, #[.int .i64 0, .int .i64 0, .int .i64 0, .int .i64 0, .string ⟨#[]⟩, .string ⟨#[]⟩, .bool false], 72⟩ (off := 0) (.agg #[.int .i64 0, .int .i64 v.maj, .int .i64 v.min, .int .i64 v.pat, .string (mkS v.pre), .string (mkS v.build), .bool false]) (Zv (.bool false) (ZN (zB (ZD 1 ⟨b1, #[.int .i64 0, .int .i64 v.maj, .int .i64 v.min, .int .i64 v.pat, .string (mkS v.pre), .string (mkS v.build), .bool false], 72⟩ (off := 0) (.agg #[.int .i64 0, .int .i64 v.maj, .int .i64 v.min, .int .i64 v.pat, .string (mkS v.pre), .string (mkS v.build), .bool false]) (.bool false) Tryz.results80 (fun w hO => ⟨by rw [(wX (fr := true) h1 h2).1, (wX (fr := true) h1 h2).2, ← hv, ← hn, decide_eq_false h3]; rfl, hO.below⟩))))))
    | false =>
      refine Zf (ZB (ZO (Zv (.string (mkS (s.drop 1))) ?_)))
      obtain ⟨v, hv⟩ : ∃ v, v = b8 (s.drop 1) := ⟨_, rfl⟩
      obtain ⟨n, hn⟩ : ∃ n, n = vU (s.drop 1) := ⟨_, rfl⟩
      refine Zc (k := 130) (args := #[.string (mkS (s.drop 1))]) (.tuple #[zP v, .int .i64 n]) (fun w _ => by rw [hv, hn]; exact d7 (s.drop 1) w (by simp only [List.length_drop]; omega)) (Zv (.tuple #[zP v, .int .i64 n]) (Zv (zP v) (Zv (.int .i64 n) (Za (.agg #[.int .i64 0, .int .i64 0, .int .i64 0, .string ⟨#[]⟩, .string ⟨#[]⟩]) (fun b2 => Zs 0 ⟨b2, #[.int .i64 0, .int .i64 0, .int .i64 0, .string ⟨#[]⟩, .string ⟨#[]⟩], 70⟩ (off := 0) (zP v) (Zv (.int .i64 n) (ZR (Zl 0 ⟨b2, (zP v).cells, 70⟩ (off := 0) (zP v) ?_))))))))
      refine Zv (.bool true) (Zv (.agg #[.int .i64 0, .int .i64 v.maj, .int .i64 v.min, .int .i64 v.pat, .string (mkS v.pre), .string (mkS v.build), .bool true]) (Zv (.int .i64 n) ?_))
      by_cases h4 : (n : Int) = 0
      · refine xO (p := (n : Int) = 0) true (by kernel_rfl) (fun _ => by kernel_rfl) (decide_eq_true (h4)) ?_
        exact Zs 1 ⟨b1, #[.int .i64 0, .int .i64 0, .int .i64 0, .int .i64 0, .string ⟨#[]⟩, .string ⟨#[]⟩, .bool false], 72⟩ (off := 0) (.agg #[.int .i64 0, .int .i64 v.maj, .int .i64 v.min, .int .i64 v.pat, .string (mkS v.pre), .string (mkS v.build), .bool true]) (Zv (.bool true) (ZN (zB (ZD 1 ⟨b1, #[.int .i64 0, .int .i64 v.maj, .int .i64 v.min, .int .i64 v.pat, .string (mkS v.pre), .string (mkS v.build), .bool true], 72⟩ (off := 0) (.agg #[.int .i64 0, .int .i64 v.maj, .int .i64 v.min, .int .i64 v.pat, .string (mkS v.pre), .string (mkS v.build), .bool true]) (.bool true) Tryz.results80 (fun w hO => ⟨by rw [(wY (fr := true) h1 h2).1, (wY (fr := true) h1 h2).2, ← hv, ← hn, decide_eq_true h4]; rfl, hO.below⟩)))))
      exact Zd (p := (n : Int) = 0) false (decide_eq_false (h4)) (Zs 1 ⟨b1, #[.int .i64 0, .int .i64 0, .int .i64 0, .int .i64 0, .string ⟨#[]⟩, .string ⟨#[]⟩, .bool false], 72⟩ (off := 0) (.agg #[.int .i64 0, .int .i64 v.maj, .int .i64 v.min, .int .i64 v.pat, .string (mkS v.pre), .string (mkS v.build), .bool true]) (Zv (.bool false) (ZN (zB (ZD 1 ⟨b1, #[.int .i64 0, .int .i64 v.maj, .int .i64 v.min, .int .i64 v.pat, .string (mkS v.pre), .string (mkS v.build), .bool true], 72⟩ (off := 0) (.agg #[.int .i64 0, .int .i64 v.maj, .int .i64 v.min, .int .i64 v.pat, .string (mkS v.pre), .string (mkS v.build), .bool true]) (.bool false) Tryz.results80 (fun w hO => ⟨by rw [(wY (fr := true) h1 h2).1, (wY (fr := true) h1 h2).2, ← hv, ← hn, decide_eq_false h4]; rfl, hO.below⟩))))))
  | false =>
    refine Zv (.bool true) (ZY (ZO (Zv (.agg #[.int .i64 0, .int .i64 0, .int .i64 0, .int .i64 0, .string ⟨#[]⟩, .string ⟨#[]⟩, .bool false]) (Zs 0 ⟨b1, #[.int .i64 0, .int .i64 0, .int .i64 0, .int .i64 0, .string ⟨#[]⟩, .string ⟨#[]⟩, .bool false], 72⟩ (off := 0) (.agg #[.int .i64 0, .int .i64 0, .int .i64 0, .int .i64 0, .string ⟨#[]⟩, .string ⟨#[]⟩, .bool false]) (Zv (.bool false) (ZN (zB ?_)))))))
    exact z6 (ZD 0 ⟨b1, #[.int .i64 0, .int .i64 0, .int .i64 0, .int .i64 0, .string ⟨#[]⟩, .string ⟨#[]⟩, .bool false], 72⟩ (off := 0) (.agg #[.int .i64 0, .int .i64 0, .int .i64 0, .int .i64 0, .string ⟨#[]⟩, .string ⟨#[]⟩, .bool false]) (.bool false) Tryz.results80 (fun w hO => ⟨by rw [(cut_no (fr := true) h1).1, (cut_no (fr := true) h1).2]; rfl, hO.below⟩))
theorem mV (s : List UInt8) (W : World) (hs : s.length ≤ 1000000) : Calls Tryz.prog 80 #[.string (mkS s), .bool false] W fun e w' => e = .returned (.tuple #[zC (jE false s), .bool (xG false s)]) ∧ Below W.heap.size W w' := by
  refine zM (n := 35) Tryz.func80 rfl (by kernel_rfl) (by kernel_rfl) (ZO (Za (.agg #[.int .i64 0, .int .i64 0, .int .i64 0, .int .i64 0, .string ⟨#[]⟩, .string ⟨#[]⟩, .bool false]) (fun b1 => Zv (.bool false) (ZR (Zv (.string ⟨#[60]⟩) (zL (z7 ?_)))))))
  refine z8 (ZO (Zv (.bool false) (ZX (ZB (z8 (z8 (zA ?_)))))))
  refine Zv (.string (mkS s)) (Zv (.string ⟨#[60]⟩) (Zc (k := 129) (args := #[.string (mkS s), .string ⟨#[60]⟩]) (.bool (yW s [60])) (fun w _ => jH s [60] w) ?_))
  cases h1 : yW s [60] with
  | true =>
    have hb1 := dN h1
    refine Zv (.bool false) (ZX (ZB (ZO (Zv (.string (mkS s)) (zK (.string (mkS (s.drop 1))) (by kernel_rfl) (jJ (s := s) (k := .i64) (j := 1) rfl (by kernel_rfl) (by kernel_rfl) Tryz.underlying9 (by omega) (by have q := yC s; have : ([62] : List UInt8).length = 1 := rfl; have : ([60] : List UInt8).length = 1 := rfl; omega)) (Zv (.string (mkS (s.drop 1))) (zL ?_)))))))
    refine z7 (ZO (Zv (.bool false) (Zv (.bool false) (ZN (z8 (ZO (Zv (.string (mkS (s.drop 1))) (Zc (k := 129) (args := #[.string (mkS (s.drop 1)), .string ⟨#[61]⟩]) (.bool (yW (s.drop 1) [61])) (fun w _ => jH (s.drop 1) [61] w) ?_))))))))
    refine zL (z7 ?_)
    cases h2 : yW (s.drop 1) [61] with
    | true =>
      have hb2 := dN h2
      refine Zt (ZO (Zv (.bool false) (Zv (.bool true) (Zv (.bool true) (ZN (zA (Zv (.string (mkS (s.drop 1))) (zK (.string (mkS ((s.drop 1).drop 1))) (by kernel_rfl) (jJ (s := (s.drop 1)) (k := .i64) (j := 1) rfl (by kernel_rfl) (by kernel_rfl) Tryz.underlying9 (by omega) (by have q := yC (s.drop 1); have : ([61] : List UInt8).length = 1 := rfl; omega)) (Zv (.string (mkS ((s.drop 1).drop 1))) ?_)))))))))
      refine ZR (Zv (.string (mkS ((s.drop 1).drop 1))) ?_)
      obtain ⟨v, hv⟩ : ∃ v, v = b8 (((s.drop 1).drop 1)) := ⟨_, rfl⟩
      obtain ⟨n, hn⟩ : ∃ n, n = vU (((s.drop 1).drop 1)) := ⟨_, rfl⟩
      refine Zc (k := 130) (args := #[.string (mkS ((s.drop 1).drop 1))]) (.tuple #[zP v, .int .i64 n]) (fun w _ => by rw [hv, hn]; exact d7 (((s.drop 1).drop 1)) w (by simp only [List.length_drop]; omega)) (Zv (.tuple #[zP v, .int .i64 n]) (Zv (zP v) (Zv (.int .i64 n) (Za (.agg #[.int .i64 0, .int .i64 0, .int .i64 0, .string ⟨#[]⟩, .string ⟨#[]⟩]) (fun b2 => Zs 0 ⟨b2, #[.int .i64 0, .int .i64 0, .int .i64 0, .string ⟨#[]⟩, .string ⟨#[]⟩], 70⟩ (off := 0) (zP v) (Zv (.int .i64 n) (ZR (Zl 0 ⟨b2, (zP v).cells, 70⟩ (off := 0) (zP v) ?_))))))))
      refine Zv (.bool true) (Zv (.agg #[.int .i64 0, .int .i64 v.maj, .int .i64 v.min, .int .i64 v.pat, .string (mkS v.pre), .string (mkS v.build), .bool true]) (Zv (.int .i64 n) ?_))
      by_cases h3 : (n : Int) = 0
      · refine xO (p := (n : Int) = 0) true (by kernel_rfl) (fun _ => by kernel_rfl) (decide_eq_true (h3)) ?_
        exact Zs 1 ⟨b1, #[.int .i64 0, .int .i64 0, .int .i64 0, .int .i64 0, .string ⟨#[]⟩, .string ⟨#[]⟩, .bool false], 72⟩ (off := 0) (.agg #[.int .i64 0, .int .i64 v.maj, .int .i64 v.min, .int .i64 v.pat, .string (mkS v.pre), .string (mkS v.build), .bool true]) (Zv (.bool true) (ZN (zB (ZD 1 ⟨b1, #[.int .i64 0, .int .i64 v.maj, .int .i64 v.min, .int .i64 v.pat, .string (mkS v.pre), .string (mkS v.build), .bool true], 72⟩ (off := 0) (.agg #[.int .i64 0, .int .i64 v.maj, .int .i64 v.min, .int .i64 v.pat, .string (mkS v.pre), .string (mkS v.build), .bool true]) (.bool true) Tryz.results80 (fun w hO => ⟨by rw [(wX (fr := false) h1 h2).1, (wX (fr := false) h1 h2).2, ← hv, ← hn, decide_eq_true h3]; rfl, hO.below⟩)))))
      exact Zd (p := (n : Int) = 0) false (decide_eq_false (h3)) (Zs 1 ⟨b1, #[.int .i64 0, .int .i64 0, .int .i64 0, .int .i64 0, .string ⟨#[]⟩, .string ⟨#[]⟩, .bool false], 72⟩ (off := 0) (.agg #[.int .i64 0, .int .i64 v.maj, .int .i64 v.min, .int .i64 v.pat, .string (mkS v.pre), .string (mkS v.build), .bool true]) (Zv (.bool false) (ZN (zB (ZD 1 ⟨b1, #[.int .i64 0, .int .i64 v.maj, .int .i64 v.min, .int .i64 v.pat, .string (mkS v.pre), .string (mkS v.build), .bool true], 72⟩ (off := 0) (.agg #[.int .i64 0, .int .i64 v.maj, .int .i64 v.min, .int .i64 v.pat, .string (mkS v.pre), .string (mkS v.build), .bool true]) (.bool false) Tryz.results80 (fun w hO => ⟨by rw [(wX (fr := false) h1 h2).1, (wX (fr := false) h1 h2).2, ← hv, ← hn, decide_eq_false h3]; rfl, hO.below⟩))))))
    | false =>
      refine Zf (ZB (ZO (Zv (.string (mkS (s.drop 1))) ?_)))
      obtain ⟨v, hv⟩ : ∃ v, v = b8 (s.drop 1) := ⟨_, rfl⟩
      obtain ⟨n, hn⟩ : ∃ n, n = vU (s.drop 1) := ⟨_, rfl⟩
      refine Zc (k := 130) (args := #[.string (mkS (s.drop 1))]) (.tuple #[zP v, .int .i64 n]) (fun w _ => by rw [hv, hn]; exact d7 (s.drop 1) w (by simp only [List.length_drop]; omega)) (Zv (.tuple #[zP v, .int .i64 n]) (Zv (zP v) (Zv (.int .i64 n) (Za (.agg #[.int .i64 0, .int .i64 0, .int .i64 0, .string ⟨#[]⟩, .string ⟨#[]⟩]) (fun b2 => Zs 0 ⟨b2, #[.int .i64 0, .int .i64 0, .int .i64 0, .string ⟨#[]⟩, .string ⟨#[]⟩], 70⟩ (off := 0) (zP v) (Zv (.int .i64 n) (ZR (Zl 0 ⟨b2, (zP v).cells, 70⟩ (off := 0) (zP v) ?_))))))))
      refine Zv (.bool false) (Zv (.agg #[.int .i64 0, .int .i64 v.maj, .int .i64 v.min, .int .i64 v.pat, .string (mkS v.pre), .string (mkS v.build), .bool false]) (Zv (.int .i64 n) ?_))
      by_cases h4 : (n : Int) = 0
      · refine xO (p := (n : Int) = 0) true (by kernel_rfl) (fun _ => by kernel_rfl) (decide_eq_true (h4)) ?_
        exact Zs 1 ⟨b1, #[.int .i64 0, .int .i64 0, .int .i64 0, .int .i64 0, .string ⟨#[]⟩, .string ⟨#[]⟩, .bool false], 72⟩ (off := 0) (.agg #[.int .i64 0, .int .i64 v.maj, .int .i64 v.min, .int .i64 v.pat, .string (mkS v.pre), .string (mkS v.build), .bool false]) (Zv (.bool true) (ZN (zB (ZD 1 ⟨b1, #[.int .i64 0, .int .i64 v.maj, .int .i64 v.min, .int .i64 v.pat, .string (mkS v.pre), .string (mkS v.build), .bool false], 72⟩ (off := 0) (.agg #[.int .i64 0, .int .i64 v.maj, .int .i64 v.min, .int .i64 v.pat, .string (mkS v.pre), .string (mkS v.build), .bool false]) (.bool true) Tryz.results80 (fun w hO => ⟨by rw [(wY (fr := false) h1 h2).1, (wY (fr := false) h1 h2).2, ← hv, ← hn, decide_eq_true h4]; rfl, hO.below⟩)))))
      exact Zd (p := (n : Int) = 0) false (decide_eq_false (h4)) (Zs 1 ⟨b1, #[.int .i64 0, .int .i64 0, .int .i64 0, .int .i64 0, .string ⟨#[]⟩, .string ⟨#[]⟩, .bool false], 72⟩ (off := 0) (.agg #[.int .i64 0, .int .i64 v.maj, .int .i64 v.min, .int .i64 v.pat, .string (mkS v.pre), .string (mkS v.build), .bool false]) (Zv (.bool false) (ZN (zB (ZD 1 ⟨b1, #[.int .i64 0, .int .i64 v.maj, .int .i64 v.min, .int .i64 v.pat, .string (mkS v.pre), .string (mkS v.build), .bool false], 72⟩ (off := 0) (.agg #[.int .i64 0, .int .i64 v.maj, .int .i64 v.min, .int .i64 v.pat, .string (mkS v.pre), .string (mkS v.build), .bool false]) (.bool false) Tryz.results80 (fun w hO => ⟨by rw [(wY (fr := false) h1 h2).1, (wY (fr := false) h1 h2).2, ← hv, ← hn, decide_eq_false h4]; rfl, hO.below⟩))))))
  | false =>
    refine Zv (.bool true) (ZY (ZO (Zv (.agg #[.int .i64 0, .int .i64 0, .int .i64 0, .int .i64 0, .string ⟨#[]⟩, .string ⟨#[]⟩, .bool false]) (Zs 0 ⟨b1, #[.int .i64 0, .int .i64 0, .int .i64 0, .int .i64 0, .string ⟨#[]⟩, .string ⟨#[]⟩, .bool false], 72⟩ (off := 0) (.agg #[.int .i64 0, .int .i64 0, .int .i64 0, .int .i64 0, .string ⟨#[]⟩, .string ⟨#[]⟩, .bool false]) (Zv (.bool false) (ZN (zB ?_)))))))
    exact z6 (ZD 0 ⟨b1, #[.int .i64 0, .int .i64 0, .int .i64 0, .int .i64 0, .string ⟨#[]⟩, .string ⟨#[]⟩, .bool false], 72⟩ (off := 0) (.agg #[.int .i64 0, .int .i64 0, .int .i64 0, .int .i64 0, .string ⟨#[]⟩, .string ⟨#[]⟩, .bool false]) (.bool false) Tryz.results80 (fun w hO => ⟨by rw [(cut_no (fr := false) h1).1, (cut_no (fr := false) h1).2]; rfl, hO.below⟩))
end
section
theorem r8one_cons (A : Option Addr) (cap : Nat) (a : List UInt8) (r : List (List UInt8)) (W : World) (hv : Reads strC W W.heap.size A (a :: r)) (hx : ∀ x ∈ a :: r, x.length ≤ 1000000) (hcap : (a :: r).length ≤ cap) : Calls Tryz.prog 50 #[.slice A (a :: r).length cap] W fun e w' => e = .returned (.tuple #[zF (qI (a :: r)).1, .bool (qI (a :: r)).2]) ∧ Below W.heap.size W w' := by
  obtain ⟨bp, off, hA, hlt, hcell⟩ := hv (by simp)
  refine zM (n := 54) Tryz.func50 rfl (by kernel_rfl) (by kernel_rfl) (ZO (Za (.agg #[.int .i64 0, .int .i64 0, .int .i64 0, .int .i64 0, .string ⟨#[]⟩, .string ⟨#[]⟩, .bool false, .int .i64 0, .int .i64 0, .int .i64 0, .int .i64 0, .string ⟨#[]⟩, .string ⟨#[]⟩, .bool false]) (fun b1 => Zv (.bool false) (ZR (Zv (.agg #[.int .i64 (-1), .int .i64 0, .int .i64 0, .int .i64 0, .string ⟨#[]⟩, .string ⟨#[]⟩, .bool false]) (Zv (.agg #[.int .i64 1, .int .i64 0, .int .i64 0, .int .i64 0, .string ⟨#[]⟩, .string ⟨#[]⟩, .bool false]) (Zv (.agg #[.int .i64 (-1), .int .i64 0, .int .i64 0, .int .i64 0, .string ⟨#[]⟩, .string ⟨#[]⟩, .bool false, .int .i64 1, .int .i64 0, .int .i64 0, .int .i64 0, .string ⟨#[]⟩, .string ⟨#[]⟩, .bool false]) ?_)))))))
  refine Za (.agg #[.int .i64 0, .int .i64 0, .int .i64 0, .int .i64 0, .string ⟨#[]⟩, .string ⟨#[]⟩, .bool false, .int .i64 0, .int .i64 0, .int .i64 0, .int .i64 0, .string ⟨#[]⟩, .string ⟨#[]⟩, .bool false]) (fun b2 => Zs 0 ⟨b2, #[.int .i64 0, .int .i64 0, .int .i64 0, .int .i64 0, .string ⟨#[]⟩, .string ⟨#[]⟩, .bool false, .int .i64 0, .int .i64 0, .int .i64 0, .int .i64 0, .string ⟨#[]⟩, .string ⟨#[]⟩, .bool false], 74⟩ (off := 0) (.agg #[.int .i64 (-1), .int .i64 0, .int .i64 0, .int .i64 0, .string ⟨#[]⟩, .string ⟨#[]⟩, .bool false, .int .i64 1, .int .i64 0, .int .i64 0, .int .i64 0, .string ⟨#[]⟩, .string ⟨#[]⟩, .bool false]) (ZN (z8 (ZO (Zv (.slice A ((a :: r).length) cap) (Zv (.int .i64 ((a :: r).length : Int)) ?_))))))
  by_cases h1 : ((a :: r).length : Int) = 1
  · have hr0 : r = [] := List.eq_nil_of_length_eq_zero (by rw [List.length_cons] at h1; omega)
    refine Zd (p := ((a :: r).length : Int) = 1) true (decide_eq_true (h1)) (Zv (.bool true) (Zv (.slice A ((a :: r).length) cap) (zK (.pointer (some ⟨bp, off + 0 * 1, none⟩)) (by kernel_rfl) (qR (b := bp) (off := off) (c := cap) (n := (a :: r).length) (k := .i64) (j := 0) (e := 9) (sz := 1) rfl (by kernel_rfl) hA (by kernel_rfl) (by kernel_rfl) (by kernel_rfl) (by omega) (by rw [List.length_cons]; omega) (by rfl)) (Zo (.string (mkS a)) (a := ⟨bp, off + 0 * 1, none⟩) (fun w hO => yH q9 (fun j u h => (hO.below.cell (p := ⟨bp, off + j, none⟩) hlt).trans (hcell j u h)) 0 0 (by simp) (by omega) _ (by kernel_rfl)) ?_))))
    by_cases h2 : (a : List UInt8) = [42]
    · refine zK (.bool true) (by kernel_rfl) (zI (a := a) (b := ([42])) rfl (by kernel_rfl) (by kernel_rfl) (decide_eq_true (h2))) ?_
      refine Zv (.bool true) (ZY (ZO (Zl 0 ⟨b2, #[.int .i64 (-1), .int .i64 0, .int .i64 0, .int .i64 0, .string ⟨#[]⟩, .string ⟨#[]⟩, .bool false, .int .i64 1, .int .i64 0, .int .i64 0, .int .i64 0, .string ⟨#[]⟩, .string ⟨#[]⟩, .bool false], 74⟩ (off := 0) (.agg #[.int .i64 (-1), .int .i64 0, .int .i64 0, .int .i64 0, .string ⟨#[]⟩, .string ⟨#[]⟩, .bool false, .int .i64 1, .int .i64 0, .int .i64 0, .int .i64 0, .string ⟨#[]⟩, .string ⟨#[]⟩, .bool false]) (Zs 1 ⟨b1, #[.int .i64 0, .int .i64 0, .int .i64 0, .int .i64 0, .string ⟨#[]⟩, .string ⟨#[]⟩, .bool false, .int .i64 0, .int .i64 0, .int .i64 0, .int .i64 0, .string ⟨#[]⟩, .string ⟨#[]⟩, .bool false], 74⟩ (off := 0) (.agg #[.int .i64 (-1), .int .i64 0, .int .i64 0, .int .i64 0, .string ⟨#[]⟩, .string ⟨#[]⟩, .bool false, .int .i64 1, .int .i64 0, .int .i64 0, .int .i64 0, .string ⟨#[]⟩, .string ⟨#[]⟩, .bool false]) (Zv (.bool true) (ZN (zB ?_)))))))
      exact z6 (ZD 1 ⟨b1, #[.int .i64 (-1), .int .i64 0, .int .i64 0, .int .i64 0, .string ⟨#[]⟩, .string ⟨#[]⟩, .bool false, .int .i64 1, .int .i64 0, .int .i64 0, .int .i64 0, .string ⟨#[]⟩, .string ⟨#[]⟩, .bool false], 74⟩ (off := 0) (.agg #[.int .i64 (-1), .int .i64 0, .int .i64 0, .int .i64 0, .string ⟨#[]⟩, .string ⟨#[]⟩, .bool false, .int .i64 1, .int .i64 0, .int .i64 0, .int .i64 0, .string ⟨#[]⟩, .string ⟨#[]⟩, .bool false]) (.bool true) Tryz.results50 (fun w hO => ⟨by rw [one_star h2 hr0]; rfl, hO.below⟩))
    have hn : ¬ (a = [42] ∧ r = []) := fun q => h2 q.1
    refine zK (.bool false) (by kernel_rfl) (zI (a := a) (b := ([42])) rfl (by kernel_rfl) (by kernel_rfl) (decide_eq_false (h2))) (Zv (.bool false) (ZX (ZB (z8 (ZO (Zv (.slice A ((a :: r).length) cap) (zK (.pointer (some ⟨bp, off + 0 * 1, none⟩)) (by kernel_rfl) (qR (b := bp) (off := off) (c := cap) (n := (a :: r).length) (k := .i64) (j := 0) (e := 9) (sz := 1) rfl (by kernel_rfl) hA (by kernel_rfl) (by kernel_rfl) (by kernel_rfl) (by omega) (by rw [List.length_cons]; omega) (by rfl)) ?_)))))))
    refine Zo (.string (mkS a)) (a := ⟨bp, off + 0 * 1, none⟩) (fun w hO => yH q9 (fun j u h => (hO.below.cell (p := ⟨bp, off + j, none⟩) hlt).trans (hcell j u h)) 0 0 (by simp) (by omega) _ (by kernel_rfl)) ?_
    obtain ⟨d1, hd1⟩ : ∃ d, d = jE true a := ⟨_, rfl⟩
    refine Zc (k := 80) (args := #[.string (mkS a), .bool true]) (.tuple #[zC d1, .bool (xG true a)]) (fun w _ => by have q := r8cutL_any a w (hx a (by simp)); rw [← hd1] at q; exact q) (Zv (.tuple #[zC d1, .bool (xG true a)]) (Zv (zC d1) (Zv (.bool (xG true a)) (Za (.agg #[.int .i64 0, .int .i64 0, .int .i64 0, .int .i64 0, .string ⟨#[]⟩, .string ⟨#[]⟩, .bool false]) (fun b3 => Zs 0 ⟨b3, #[.int .i64 0, .int .i64 0, .int .i64 0, .int .i64 0, .string ⟨#[]⟩, .string ⟨#[]⟩, .bool false], 72⟩ (off := 0) (zC d1) (Zv (.bool (xG true a)) (ZR (Zv (.bool (xG true a)) ?_))))))))
    refine zL (z7 ?_)
    cases h3 : xG true a with
    | true =>
      refine Zt (ZO (Zl 0 ⟨b3, (zC d1).cells, 72⟩ (off := 0) (zC d1) (Zv (.pointer (some ⟨b2, 0, none⟩)) (Zs 1 ⟨b2, #[.int .i64 (-1), .int .i64 0, .int .i64 0, .int .i64 0, .string ⟨#[]⟩, .string ⟨#[]⟩, .bool false, .int .i64 1, .int .i64 0, .int .i64 0, .int .i64 0, .string ⟨#[]⟩, .string ⟨#[]⟩, .bool false], 74⟩ (off := 0) (zC d1) (ZN (z8 (ZO (Zv (.slice A ((a :: r).length) cap) ?_))))))))
      refine Zv (.int .i64 ((a :: r).length : Int)) (Zd (p := ((a :: r).length : Int) = 1) true (decide_eq_true (h1)) (ZY (ZO (Zl 1 ⟨b2, #[.int .i64 d1.e, .int .i64 d1.v.maj, .int .i64 d1.v.min, .int .i64 d1.v.pat, .string (mkS d1.v.pre), .string (mkS d1.v.build), .bool d1.aft, .int .i64 1, .int .i64 0, .int .i64 0, .int .i64 0, .string ⟨#[]⟩, .string ⟨#[]⟩, .bool false], 74⟩ (off := 0) (.agg #[.int .i64 d1.e, .int .i64 d1.v.maj, .int .i64 d1.v.min, .int .i64 d1.v.pat, .string (mkS d1.v.pre), .string (mkS d1.v.build), .bool d1.aft, .int .i64 1, .int .i64 0, .int .i64 0, .int .i64 0, .string ⟨#[]⟩, .string ⟨#[]⟩, .bool false]) (Zs 2 ⟨b1, #[.int .i64 0, .int .i64 0, .int .i64 0, .int .i64 0, .string ⟨#[]⟩, .string ⟨#[]⟩, .bool false, .int .i64 0, .int .i64 0, .int .i64 0, .int .i64 0, .string ⟨#[]⟩, .string ⟨#[]⟩, .bool false], 74⟩ (off := 0) (.agg #[.int .i64 d1.e, .int .i64 d1.v.maj, .int .i64 d1.v.min, .int .i64 d1.v.pat, .string (mkS d1.v.pre), .string (mkS d1.v.build), .bool d1.aft, .int .i64 1, .int .i64 0, .int .i64 0, .int .i64 0, .string ⟨#[]⟩, .string ⟨#[]⟩, .bool false]) (Zv (.bool true) (zL (z7 ?_))))))))
      exact zB (z6 (z6 (ZD 2 ⟨b1, #[.int .i64 d1.e, .int .i64 d1.v.maj, .int .i64 d1.v.min, .int .i64 d1.v.pat, .string (mkS d1.v.pre), .string (mkS d1.v.build), .bool d1.aft, .int .i64 1, .int .i64 0, .int .i64 0, .int .i64 0, .string ⟨#[]⟩, .string ⟨#[]⟩, .bool false], 74⟩ (off := 0) (.agg #[.int .i64 d1.e, .int .i64 d1.v.maj, .int .i64 d1.v.min, .int .i64 d1.v.pat, .string (mkS d1.v.pre), .string (mkS d1.v.build), .bool d1.aft, .int .i64 1, .int .i64 0, .int .i64 0, .int .i64 0, .string ⟨#[]⟩, .string ⟨#[]⟩, .bool false]) (.bool true) Tryz.results50 (fun w hO => ⟨by rw [one_lo hn h3 hr0, hd1]; rfl, hO.below⟩))))
    | false =>
      refine Zf (ZB (ZO (Zv (.slice A ((a :: r).length) cap) (zK (.pointer (some ⟨bp, off + 0 * 1, none⟩)) (by kernel_rfl) (qR (b := bp) (off := off) (c := cap) (n := (a :: r).length) (k := .i64) (j := 0) (e := 9) (sz := 1) rfl (by kernel_rfl) hA (by kernel_rfl) (by kernel_rfl) (by kernel_rfl) (by omega) (by rw [List.length_cons]; omega) (by rfl)) (Zo (.string (mkS a)) (a := ⟨bp, off + 0 * 1, none⟩) (fun w hO => yH q9 (fun j u h => (hO.below.cell (p := ⟨bp, off + j, none⟩) hlt).trans (hcell j u h)) 0 0 (by simp) (by omega) _ (by kernel_rfl)) ?_)))))
      obtain ⟨d2, hd2⟩ : ∃ d, d = jE false a := ⟨_, rfl⟩
      refine Zc (k := 80) (args := #[.string (mkS a), .bool false]) (.tuple #[zC d2, .bool (xG false a)]) (fun w _ => by have q := mV a w (hx a (by simp)); rw [← hd2] at q; exact q) (Zv (.tuple #[zC d2, .bool (xG false a)]) (Zv (zC d2) (Zv (.bool (xG false a)) (Za (.agg #[.int .i64 0, .int .i64 0, .int .i64 0, .int .i64 0, .string ⟨#[]⟩, .string ⟨#[]⟩, .bool false]) (fun b4 => Zs 0 ⟨b4, #[.int .i64 0, .int .i64 0, .int .i64 0, .int .i64 0, .string ⟨#[]⟩, .string ⟨#[]⟩, .bool false], 72⟩ (off := 0) (zC d2) (Zv (.bool (xG false a)) (ZR (Zl 0 ⟨b4, (zC d2).cells, 72⟩ (off := 0) (zC d2) ?_))))))))
      refine Zv (.pointer (some ⟨b2, 7, none⟩)) (Zs 2 ⟨b2, #[.int .i64 (-1), .int .i64 0, .int .i64 0, .int .i64 0, .string ⟨#[]⟩, .string ⟨#[]⟩, .bool false, .int .i64 1, .int .i64 0, .int .i64 0, .int .i64 0, .string ⟨#[]⟩, .string ⟨#[]⟩, .bool false], 74⟩ (off := 7) (zC d2) (ZR (Zl 2 ⟨b2, #[.int .i64 (-1), .int .i64 0, .int .i64 0, .int .i64 0, .string ⟨#[]⟩, .string ⟨#[]⟩, .bool false, .int .i64 d2.e, .int .i64 d2.v.maj, .int .i64 d2.v.min, .int .i64 d2.v.pat, .string (mkS d2.v.pre), .string (mkS d2.v.build), .bool d2.aft], 74⟩ (off := 0) (.agg #[.int .i64 (-1), .int .i64 0, .int .i64 0, .int .i64 0, .string ⟨#[]⟩, .string ⟨#[]⟩, .bool false, .int .i64 d2.e, .int .i64 d2.v.maj, .int .i64 d2.v.min, .int .i64 d2.v.pat, .string (mkS d2.v.pre), .string (mkS d2.v.build), .bool d2.aft]) (Zv (.bool (xG false a)) (Zv (.bool (xG false a)) ?_)))))
      cases h4 : xG false a with
      | true =>
        exact Zv (.slice A ((a :: r).length) cap) (Zv (.int .i64 ((a :: r).length : Int)) (Zd (p := ((a :: r).length : Int) = 1) true (decide_eq_true (h1)) (Zv (.bool true) (Zs 3 ⟨b1, #[.int .i64 0, .int .i64 0, .int .i64 0, .int .i64 0, .string ⟨#[]⟩, .string ⟨#[]⟩, .bool false, .int .i64 0, .int .i64 0, .int .i64 0, .int .i64 0, .string ⟨#[]⟩, .string ⟨#[]⟩, .bool false], 74⟩ (off := 0) (.agg #[.int .i64 (-1), .int .i64 0, .int .i64 0, .int .i64 0, .string ⟨#[]⟩, .string ⟨#[]⟩, .bool false, .int .i64 d2.e, .int .i64 d2.v.maj, .int .i64 d2.v.min, .int .i64 d2.v.pat, .string (mkS d2.v.pre), .string (mkS d2.v.build), .bool d2.aft]) (Zv (.bool true) (ZN (zB (ZD 3 ⟨b1, #[.int .i64 (-1), .int .i64 0, .int .i64 0, .int .i64 0, .string ⟨#[]⟩, .string ⟨#[]⟩, .bool false, .int .i64 d2.e, .int .i64 d2.v.maj, .int .i64 d2.v.min, .int .i64 d2.v.pat, .string (mkS d2.v.pre), .string (mkS d2.v.build), .bool d2.aft], 74⟩ (off := 0) (.agg #[.int .i64 (-1), .int .i64 0, .int .i64 0, .int .i64 0, .string ⟨#[]⟩, .string ⟨#[]⟩, .bool false, .int .i64 d2.e, .int .i64 d2.v.maj, .int .i64 d2.v.min, .int .i64 d2.v.pat, .string (mkS d2.v.pre), .string (mkS d2.v.build), .bool d2.aft]) (.bool true) Tryz.results50 (fun w hO => ⟨by rw [one_hi hn h3, (show (xG false a && decide (r = [])) = true from by rw [h4]; rw [hr0]; rfl), hd2]; rfl, hO.below⟩)))))))))
      | false =>
        exact Zk (Zk (Zk (Zv (.bool false) (Zs 3 ⟨b1, #[.int .i64 0, .int .i64 0, .int .i64 0, .int .i64 0, .string ⟨#[]⟩, .string ⟨#[]⟩, .bool false, .int .i64 0, .int .i64 0, .int .i64 0, .int .i64 0, .string ⟨#[]⟩, .string ⟨#[]⟩, .bool false], 74⟩ (off := 0) (.agg #[.int .i64 (-1), .int .i64 0, .int .i64 0, .int .i64 0, .string ⟨#[]⟩, .string ⟨#[]⟩, .bool false, .int .i64 d2.e, .int .i64 d2.v.maj, .int .i64 d2.v.min, .int .i64 d2.v.pat, .string (mkS d2.v.pre), .string (mkS d2.v.build), .bool d2.aft]) (Zv (.bool false) (ZN (zB (ZD 3 ⟨b1, #[.int .i64 (-1), .int .i64 0, .int .i64 0, .int .i64 0, .string ⟨#[]⟩, .string ⟨#[]⟩, .bool false, .int .i64 d2.e, .int .i64 d2.v.maj, .int .i64 d2.v.min, .int .i64 d2.v.pat, .string (mkS d2.v.pre), .string (mkS d2.v.build), .bool d2.aft], 74⟩ (off := 0) (.agg #[.int .i64 (-1), .int .i64 0, .int .i64 0, .int .i64 0, .string ⟨#[]⟩, .string ⟨#[]⟩, .bool false, .int .i64 d2.e, .int .i64 d2.v.maj, .int .i64 d2.v.min, .int .i64 d2.v.pat, .string (mkS d2.v.pre), .string (mkS d2.v.build), .bool d2.aft]) (.bool false) Tryz.results50 (fun w hO => ⟨by rw [one_hi hn h3, (show (xG false a && decide (r = [])) = false from by rw [h4]; simp), hd2]; rfl, hO.below⟩)))))))))
  have hr1 : ¬ r = [] := fun e => h1 (by rw [e]; rfl)
  have hn : ¬ (a = [42] ∧ r = []) := fun q => hr1 q.2
  obtain ⟨b, q, hrq⟩ : ∃ b q, r = b :: q := List.exists_cons_of_ne_nil hr1
  have hbm : b ∈ a :: r := by rw [hrq]; simp
  refine Zd (p := ((a :: r).length : Int) = 1) false (decide_eq_false (h1)) (Zv (.bool false) (Zk (Zk (Zk (Zk (Zv (.bool false) (ZX (yT (z7 ?_)))))))))
  refine z8 (ZO (Zv (.slice A ((a :: r).length) cap) (zK (.pointer (some ⟨bp, off + 0 * 1, none⟩)) (by kernel_rfl) (qR (b := bp) (off := off) (c := cap) (n := (a :: r).length) (k := .i64) (j := 0) (e := 9) (sz := 1) rfl (by kernel_rfl) hA (by kernel_rfl) (by kernel_rfl) (by kernel_rfl) (by omega) (by rw [List.length_cons]; omega) (by rfl)) (Zo (.string (mkS a)) (a := ⟨bp, off + 0 * 1, none⟩) (fun w hO => yH q9 (fun j u h => (hO.below.cell (p := ⟨bp, off + j, none⟩) hlt).trans (hcell j u h)) 0 0 (by simp) (by omega) _ (by kernel_rfl)) ?_))))
  obtain ⟨d1, hd1⟩ : ∃ d, d = jE true a := ⟨_, rfl⟩
  refine Zc (k := 80) (args := #[.string (mkS a), .bool true]) (.tuple #[zC d1, .bool (xG true a)]) (fun w _ => by have q := r8cutL_any a w (hx a (by simp)); rw [← hd1] at q; exact q) (Zv (.tuple #[zC d1, .bool (xG true a)]) (Zv (zC d1) (Zv (.bool (xG true a)) (Za (.agg #[.int .i64 0, .int .i64 0, .int .i64 0, .int .i64 0, .string ⟨#[]⟩, .string ⟨#[]⟩, .bool false]) (fun b3 => Zs 0 ⟨b3, #[.int .i64 0, .int .i64 0, .int .i64 0, .int .i64 0, .string ⟨#[]⟩, .string ⟨#[]⟩, .bool false], 72⟩ (off := 0) (zC d1) (Zv (.bool (xG true a)) (ZR (Zv (.bool (xG true a)) ?_))))))))
  refine zL (z7 ?_)
  cases h5 : xG true a with
  | true =>
    refine Zt (ZO (Zl 0 ⟨b3, (zC d1).cells, 72⟩ (off := 0) (zC d1) (Zv (.pointer (some ⟨b2, 0, none⟩)) (Zs 1 ⟨b2, #[.int .i64 (-1), .int .i64 0, .int .i64 0, .int .i64 0, .string ⟨#[]⟩, .string ⟨#[]⟩, .bool false, .int .i64 1, .int .i64 0, .int .i64 0, .int .i64 0, .string ⟨#[]⟩, .string ⟨#[]⟩, .bool false], 74⟩ (off := 0) (zC d1) (ZN (z8 (ZO (Zv (.slice A ((a :: r).length) cap) ?_))))))))
    refine Zv (.int .i64 ((a :: r).length : Int)) (Zd (p := ((a :: r).length : Int) = 1) false (decide_eq_false (h1)) (ZX (ZB (zA (Zv (.slice A ((a :: r).length) cap) (zK (.slice (some ⟨bp, off + (if cap = (1 : Int).toNat then 0 else (1 : Int).toNat * 1), none⟩) r.length (cap - 1)) (by kernel_rfl) (run_sllA (b := bp) (off := off) (c := cap) (n := (a :: r).length) (k := .i64) (j := 1) (sz := 1) (e := 9) rfl (by kernel_rfl) hA (by kernel_rfl) (by kernel_rfl) (by kernel_rfl) (by omega) (by rw [List.length_cons]; omega)) (Zv (.slice (some ⟨bp, off + (if cap = (1 : Int).toNat then 0 else (1 : Int).toNat * 1), none⟩) r.length (cap - 1)) (zL ?_))))))))
    refine z7 (ZO (Zv (.slice (some ⟨bp, off + (if cap = (1 : Int).toNat then 0 else (1 : Int).toNat * 1), none⟩) r.length (cap - 1)) (zK (.pointer (some ⟨bp, (off + (if cap = (1 : Int).toNat then 0 else (1 : Int).toNat * 1)) + 0 * 1, none⟩)) (by kernel_rfl) (qR (b := bp) (off := off + (if cap = (1 : Int).toNat then 0 else (1 : Int).toNat * 1)) (c := cap - 1) (n := r.length) (k := .i64) (j := 0) (e := 9) (sz := 1) rfl (by kernel_rfl) rfl (by kernel_rfl) (by kernel_rfl) (by kernel_rfl) (by omega) (by rw [hrq, List.length_cons]; omega) (by rfl)) (Zo (.string (mkS b)) (a := ⟨bp, (off + (if cap = (1 : Int).toNat then 0 else (1 : Int).toNat * 1)) + 0 * 1, none⟩) (fun w hO => by rw [if_neg (show ¬ cap = (1 : Int).toNat from by rw [hrq, List.length_cons, List.length_cons] at hcap; show ¬ cap = 1; omega)]; exact yH (ty := 9) q9 (fun j u h => (hO.below.cell (p := ⟨bp, off + j, none⟩) hlt).trans (hcell j u h)) 1 0 (by rw [hrq]; simp) (by show off + 1 * 1 + 0 * 1 = _; omega) _ (by rw [List.getElem_cons_succ]; simp only [hrq, List.getElem_cons_zero]; kernel_rfl)) ?_))))
    obtain ⟨d2, hd2⟩ : ∃ d, d = jE false b := ⟨_, rfl⟩
    refine Zc (k := 80) (args := #[.string (mkS b), .bool false]) (.tuple #[zC d2, .bool (xG false b)]) (fun w _ => by have q := mV b w (hx b hbm); rw [← hd2] at q; exact q) (Zv (.tuple #[zC d2, .bool (xG false b)]) (Zv (zC d2) (Zv (.bool (xG false b)) (Za (.agg #[.int .i64 0, .int .i64 0, .int .i64 0, .int .i64 0, .string ⟨#[]⟩, .string ⟨#[]⟩, .bool false]) (fun b4 => Zs 0 ⟨b4, #[.int .i64 0, .int .i64 0, .int .i64 0, .int .i64 0, .string ⟨#[]⟩, .string ⟨#[]⟩, .bool false], 72⟩ (off := 0) (zC d2) (Zv (.bool (xG false b)) (ZR (Zl 0 ⟨b4, (zC d2).cells, 72⟩ (off := 0) (zC d2) ?_))))))))
    refine Zv (.pointer (some ⟨b2, 7, none⟩)) (Zs 2 ⟨b2, #[.int .i64 d1.e, .int .i64 d1.v.maj, .int .i64 d1.v.min, .int .i64 d1.v.pat, .string (mkS d1.v.pre), .string (mkS d1.v.build), .bool d1.aft, .int .i64 1, .int .i64 0, .int .i64 0, .int .i64 0, .string ⟨#[]⟩, .string ⟨#[]⟩, .bool false], 74⟩ (off := 7) (zC d2) (ZR (Zl 2 ⟨b2, #[.int .i64 d1.e, .int .i64 d1.v.maj, .int .i64 d1.v.min, .int .i64 d1.v.pat, .string (mkS d1.v.pre), .string (mkS d1.v.build), .bool d1.aft, .int .i64 d2.e, .int .i64 d2.v.maj, .int .i64 d2.v.min, .int .i64 d2.v.pat, .string (mkS d2.v.pre), .string (mkS d2.v.build), .bool d2.aft], 74⟩ (off := 0) (.agg #[.int .i64 d1.e, .int .i64 d1.v.maj, .int .i64 d1.v.min, .int .i64 d1.v.pat, .string (mkS d1.v.pre), .string (mkS d1.v.build), .bool d1.aft, .int .i64 d2.e, .int .i64 d2.v.maj, .int .i64 d2.v.min, .int .i64 d2.v.pat, .string (mkS d2.v.pre), .string (mkS d2.v.build), .bool d2.aft]) (Zv (.bool (xG false b)) (Zv (.bool (xG false b)) ?_)))))
    cases h6 : xG false b with
    | true =>
      refine Zv (.slice (some ⟨bp, off + (if cap = (1 : Int).toNat then 0 else (1 : Int).toNat * 1), none⟩) r.length (cap - 1)) (Zv (.int .i64 (r.length : Int)) ?_)
      by_cases h7 : (r.length : Int) = 1
      · refine xO (p := (r.length : Int) = 1) true (by kernel_rfl) (fun _ => by kernel_rfl) (decide_eq_true (h7)) ?_
        exact Zv (.bool true) (Zs 3 ⟨b1, #[.int .i64 0, .int .i64 0, .int .i64 0, .int .i64 0, .string ⟨#[]⟩, .string ⟨#[]⟩, .bool false, .int .i64 0, .int .i64 0, .int .i64 0, .int .i64 0, .string ⟨#[]⟩, .string ⟨#[]⟩, .bool false], 74⟩ (off := 0) (.agg #[.int .i64 d1.e, .int .i64 d1.v.maj, .int .i64 d1.v.min, .int .i64 d1.v.pat, .string (mkS d1.v.pre), .string (mkS d1.v.build), .bool d1.aft, .int .i64 d2.e, .int .i64 d2.v.maj, .int .i64 d2.v.min, .int .i64 d2.v.pat, .string (mkS d2.v.pre), .string (mkS d2.v.build), .bool d2.aft]) (Zv (.bool true) (ZN (zB (ZD 3 ⟨b1, #[.int .i64 d1.e, .int .i64 d1.v.maj, .int .i64 d1.v.min, .int .i64 d1.v.pat, .string (mkS d1.v.pre), .string (mkS d1.v.build), .bool d1.aft, .int .i64 d2.e, .int .i64 d2.v.maj, .int .i64 d2.v.min, .int .i64 d2.v.pat, .string (mkS d2.v.pre), .string (mkS d2.v.build), .bool d2.aft], 74⟩ (off := 0) (.agg #[.int .i64 d1.e, .int .i64 d1.v.maj, .int .i64 d1.v.min, .int .i64 d1.v.pat, .string (mkS d1.v.pre), .string (mkS d1.v.build), .bool d1.aft, .int .i64 d2.e, .int .i64 d2.v.maj, .int .i64 d2.v.min, .int .i64 d2.v.pat, .string (mkS d2.v.pre), .string (mkS d2.v.build), .bool d2.aft]) (.bool true) Tryz.results50 (fun w hO => ⟨by rw [one_two hn h5 hrq, (show (xG false b && decide (r.length = 1)) = true from by rw [h6]; simp; omega), hd1, hd2]; rfl, hO.below⟩))))))
      exact Zd (p := (r.length : Int) = 1) false (decide_eq_false (h7)) (Zv (.bool false) (Zs 3 ⟨b1, #[.int .i64 0, .int .i64 0, .int .i64 0, .int .i64 0, .string ⟨#[]⟩, .string ⟨#[]⟩, .bool false, .int .i64 0, .int .i64 0, .int .i64 0, .int .i64 0, .string ⟨#[]⟩, .string ⟨#[]⟩, .bool false], 74⟩ (off := 0) (.agg #[.int .i64 d1.e, .int .i64 d1.v.maj, .int .i64 d1.v.min, .int .i64 d1.v.pat, .string (mkS d1.v.pre), .string (mkS d1.v.build), .bool d1.aft, .int .i64 d2.e, .int .i64 d2.v.maj, .int .i64 d2.v.min, .int .i64 d2.v.pat, .string (mkS d2.v.pre), .string (mkS d2.v.build), .bool d2.aft]) (Zv (.bool false) (ZN (zB (ZD 3 ⟨b1, #[.int .i64 d1.e, .int .i64 d1.v.maj, .int .i64 d1.v.min, .int .i64 d1.v.pat, .string (mkS d1.v.pre), .string (mkS d1.v.build), .bool d1.aft, .int .i64 d2.e, .int .i64 d2.v.maj, .int .i64 d2.v.min, .int .i64 d2.v.pat, .string (mkS d2.v.pre), .string (mkS d2.v.build), .bool d2.aft], 74⟩ (off := 0) (.agg #[.int .i64 d1.e, .int .i64 d1.v.maj, .int .i64 d1.v.min, .int .i64 d1.v.pat, .string (mkS d1.v.pre), .string (mkS d1.v.build), .bool d1.aft, .int .i64 d2.e, .int .i64 d2.v.maj, .int .i64 d2.v.min, .int .i64 d2.v.pat, .string (mkS d2.v.pre), .string (mkS d2.v.build), .bool d2.aft]) (.bool false) Tryz.results50 (fun w hO => ⟨by rw [one_two hn h5 hrq, (show (xG false b && decide (r.length = 1)) = false from by rw [h6]; simp; omega), hd1, hd2]; rfl, hO.below⟩)))))))
    | false =>
      exact Zk (Zk (Zk (Zv (.bool false) (Zs 3 ⟨b1, #[.int .i64 0, .int .i64 0, .int .i64 0, .int .i64 0, .string ⟨#[]⟩, .string ⟨#[]⟩, .bool false, .int .i64 0, .int .i64 0, .int .i64 0, .int .i64 0, .string ⟨#[]⟩, .string ⟨#[]⟩, .bool false], 74⟩ (off := 0) (.agg #[.int .i64 d1.e, .int .i64 d1.v.maj, .int .i64 d1.v.min, .int .i64 d1.v.pat, .string (mkS d1.v.pre), .string (mkS d1.v.build), .bool d1.aft, .int .i64 d2.e, .int .i64 d2.v.maj, .int .i64 d2.v.min, .int .i64 d2.v.pat, .string (mkS d2.v.pre), .string (mkS d2.v.build), .bool d2.aft]) (Zv (.bool false) (ZN (zB (ZD 3 ⟨b1, #[.int .i64 d1.e, .int .i64 d1.v.maj, .int .i64 d1.v.min, .int .i64 d1.v.pat, .string (mkS d1.v.pre), .string (mkS d1.v.build), .bool d1.aft, .int .i64 d2.e, .int .i64 d2.v.maj, .int .i64 d2.v.min, .int .i64 d2.v.pat, .string (mkS d2.v.pre), .string (mkS d2.v.build), .bool d2.aft], 74⟩ (off := 0) (.agg #[.int .i64 d1.e, .int .i64 d1.v.maj, .int .i64 d1.v.min, .int .i64 d1.v.pat, .string (mkS d1.v.pre), .string (mkS d1.v.build), .bool d1.aft, .int .i64 d2.e, .int .i64 d2.v.maj, .int .i64 d2.v.min, .int .i64 d2.v.pat, .string (mkS d2.v.pre), .string (mkS d2.v.build), .bool d2.aft]) (.bool false) Tryz.results50 (fun w hO => ⟨by rw [one_two hn h5 hrq, (show (xG false b && decide (r.length = 1)) = false from by rw [h6]; simp), hd1, hd2]; rfl, hO.below⟩)))))))))
  | false =>
    refine Zf (ZB (ZO (Zv (.slice A ((a :: r).length) cap) (zK (.pointer (some ⟨bp, off + 0 * 1, none⟩)) (by kernel_rfl) (qR (b := bp) (off := off) (c := cap) (n := (a :: r).length) (k := .i64) (j := 0) (e := 9) (sz := 1) rfl (by kernel_rfl) hA (by kernel_rfl) (by kernel_rfl) (by kernel_rfl) (by omega) (by rw [List.length_cons]; omega) (by rfl)) (Zo (.string (mkS a)) (a := ⟨bp, off + 0 * 1, none⟩) (fun w hO => yH q9 (fun j u h => (hO.below.cell (p := ⟨bp, off + j, none⟩) hlt).trans (hcell j u h)) 0 0 (by simp) (by omega) _ (by kernel_rfl)) ?_)))))
    obtain ⟨d2, hd2⟩ : ∃ d, d = jE false a := ⟨_, rfl⟩
    refine Zc (k := 80) (args := #[.string (mkS a), .bool false]) (.tuple #[zC d2, .bool (xG false a)]) (fun w _ => by have q := mV a w (hx a (by simp)); rw [← hd2] at q; exact q) (Zv (.tuple #[zC d2, .bool (xG false a)]) (Zv (zC d2) (Zv (.bool (xG false a)) (Za (.agg #[.int .i64 0, .int .i64 0, .int .i64 0, .int .i64 0, .string ⟨#[]⟩, .string ⟨#[]⟩, .bool false]) (fun b4 => Zs 0 ⟨b4, #[.int .i64 0, .int .i64 0, .int .i64 0, .int .i64 0, .string ⟨#[]⟩, .string ⟨#[]⟩, .bool false], 72⟩ (off := 0) (zC d2) (Zv (.bool (xG false a)) (ZR (Zl 0 ⟨b4, (zC d2).cells, 72⟩ (off := 0) (zC d2) ?_))))))))
    refine Zv (.pointer (some ⟨b2, 7, none⟩)) (Zs 2 ⟨b2, #[.int .i64 (-1), .int .i64 0, .int .i64 0, .int .i64 0, .string ⟨#[]⟩, .string ⟨#[]⟩, .bool false, .int .i64 1, .int .i64 0, .int .i64 0, .int .i64 0, .string ⟨#[]⟩, .string ⟨#[]⟩, .bool false], 74⟩ (off := 7) (zC d2) (ZR (Zl 2 ⟨b2, #[.int .i64 (-1), .int .i64 0, .int .i64 0, .int .i64 0, .string ⟨#[]⟩, .string ⟨#[]⟩, .bool false, .int .i64 d2.e, .int .i64 d2.v.maj, .int .i64 d2.v.min, .int .i64 d2.v.pat, .string (mkS d2.v.pre), .string (mkS d2.v.build), .bool d2.aft], 74⟩ (off := 0) (.agg #[.int .i64 (-1), .int .i64 0, .int .i64 0, .int .i64 0, .string ⟨#[]⟩, .string ⟨#[]⟩, .bool false, .int .i64 d2.e, .int .i64 d2.v.maj, .int .i64 d2.v.min, .int .i64 d2.v.pat, .string (mkS d2.v.pre), .string (mkS d2.v.build), .bool d2.aft]) (Zv (.bool (xG false a)) (Zv (.bool (xG false a)) ?_)))))
    cases h8 : xG false a with
    | true =>
      exact Zv (.slice A ((a :: r).length) cap) (Zv (.int .i64 ((a :: r).length : Int)) (Zd (p := ((a :: r).length : Int) = 1) false (decide_eq_false (h1)) (Zv (.bool false) (Zs 3 ⟨b1, #[.int .i64 0, .int .i64 0, .int .i64 0, .int .i64 0, .string ⟨#[]⟩, .string ⟨#[]⟩, .bool false, .int .i64 0, .int .i64 0, .int .i64 0, .int .i64 0, .string ⟨#[]⟩, .string ⟨#[]⟩, .bool false], 74⟩ (off := 0) (.agg #[.int .i64 (-1), .int .i64 0, .int .i64 0, .int .i64 0, .string ⟨#[]⟩, .string ⟨#[]⟩, .bool false, .int .i64 d2.e, .int .i64 d2.v.maj, .int .i64 d2.v.min, .int .i64 d2.v.pat, .string (mkS d2.v.pre), .string (mkS d2.v.build), .bool d2.aft]) (Zv (.bool false) (ZN (zB (ZD 3 ⟨b1, #[.int .i64 (-1), .int .i64 0, .int .i64 0, .int .i64 0, .string ⟨#[]⟩, .string ⟨#[]⟩, .bool false, .int .i64 d2.e, .int .i64 d2.v.maj, .int .i64 d2.v.min, .int .i64 d2.v.pat, .string (mkS d2.v.pre), .string (mkS d2.v.build), .bool d2.aft], 74⟩ (off := 0) (.agg #[.int .i64 (-1), .int .i64 0, .int .i64 0, .int .i64 0, .string ⟨#[]⟩, .string ⟨#[]⟩, .bool false, .int .i64 d2.e, .int .i64 d2.v.maj, .int .i64 d2.v.min, .int .i64 d2.v.pat, .string (mkS d2.v.pre), .string (mkS d2.v.build), .bool d2.aft]) (.bool false) Tryz.results50 (fun w hO => ⟨by rw [one_hi hn h5, (show (xG false a && decide (r = [])) = false from by rw [h8]; simp [hr1]), hd2]; rfl, hO.below⟩)))))))))
    | false =>
      exact Zk (Zk (Zk (Zv (.bool false) (Zs 3 ⟨b1, #[.int .i64 0, .int .i64 0, .int .i64 0, .int .i64 0, .string ⟨#[]⟩, .string ⟨#[]⟩, .bool false, .int .i64 0, .int .i64 0, .int .i64 0, .int .i64 0, .string ⟨#[]⟩, .string ⟨#[]⟩, .bool false], 74⟩ (off := 0) (.agg #[.int .i64 (-1), .int .i64 0, .int .i64 0, .int .i64 0, .string ⟨#[]⟩, .string ⟨#[]⟩, .bool false, .int .i64 d2.e, .int .i64 d2.v.maj, .int .i64 d2.v.min, .int .i64 d2.v.pat, .string (mkS d2.v.pre), .string (mkS d2.v.build), .bool d2.aft]) (Zv (.bool false) (ZN (zB (ZD 3 ⟨b1, #[.int .i64 (-1), .int .i64 0, .int .i64 0, .int .i64 0, .string ⟨#[]⟩, .string ⟨#[]⟩, .bool false, .int .i64 d2.e, .int .i64 d2.v.maj, .int .i64 d2.v.min, .int .i64 d2.v.pat, .string (mkS d2.v.pre), .string (mkS d2.v.build), .bool d2.aft], 74⟩ (off := 0) (.agg #[.int .i64 (-1), .int .i64 0, .int .i64 0, .int .i64 0, .string ⟨#[]⟩, .string ⟨#[]⟩, .bool false, .int .i64 d2.e, .int .i64 d2.v.maj, .int .i64 d2.v.min, .int .i64 d2.v.pat, .string (mkS d2.v.pre), .string (mkS d2.v.build), .bool d2.aft]) (.bool false) Tryz.results50 (fun w hO => ⟨by rw [one_hi hn h5, (show (xG false a && decide (r = [])) = false from by rw [h8]; simp), hd2]; rfl, hO.below⟩)))))))))
end
end Go.Proofs.YtiekhkapgjdblaaGreatDoor
