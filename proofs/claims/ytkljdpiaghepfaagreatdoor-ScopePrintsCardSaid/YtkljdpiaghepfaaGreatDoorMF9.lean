/-
  What the statement's proof leans on: the ways of walking, n7 mathematics, and what the program's functions return; each theorem says on what conditions.
-/
import Derived.Below
import Derived.ChangeSame
import Derived.ProofKit
import Derived.OpenShut
import Derived.LaidSub
import Derived.Carry
import Derived.SliceStrings
import Derived.Lib.LaidTab
import Derived.Deep.DeepHandedRow
import Derived.ChangeArms
import Derived.Deep.Fields
import Derived.DataReads
import Derived.ChangeOld
import Derived.Test.YtkljdpiaghepfaaGreatDoorMF8
set_option maxRecDepth 1000000
set_option maxHeartbeats 8000000
set_option linter.unusedVariables false
set_option linter.unusedSimpArgs false
set_option linter.unnecessarySimpa false
namespace Go.Proofs.YtkljdpiaghepfaaGreatDoor
open Go.RowKit

section
def mU (v : Ver) : Ver := { v with pre := [] }
theorem t6 {v : Ver} (h : v.build = []) : mU v = gQ v := by
  obtain ⟨a, b, c, p, q⟩ := v
  simp only at h; subst h; rfl
theorem rel_least {v : Ver} : gQ v = Ver.zero ↔ qD v = true := by
  unfold gQ qD Ver.rel Ver.zero
  simp only [Ver.mk.injEq, and_true, Bool.and_eq_true, decide_eq_true_eq, and_assoc]
theorem relA_zero {v : Ver} (h : gQ v = Ver.zero) : wR v = zT (-1) := by unfold wR; rw [rel_least.1 h]; rfl
theorem relA_one {v : Ver} (h : ¬ gQ v = Ver.zero) : wR v = ⟨0, gQ v, false⟩ := by
  unfold wR
  rw [show qD v = false from Bool.eq_false_iff.2 fun e => h (rel_least.2 e)]; rfl
theorem rel_self {v : Ver} (h1 : v.pre = []) (h2 : v.build = []) : gQ v = v := by
  obtain ⟨a, b, c, p, q⟩ := v
  simp only at h1 h2; subst h1; subst h2; rfl
theorem next_pre {v : Ver} (h : v.may = true) (hp : v.pre ≠ []) : yI v = gQ v ∧ xS v = true := by
  have e : v.pre.isEmpty = false := by cases hq : v.pre with
    | nil => exact absurd hq hp
    | cons _ _ => rfl
  unfold yI xS
  rw [h, e]; exact ⟨rfl, rfl⟩
theorem next_pos {v : Ver} (h : v.may = true) (hp : v.pre = []) (ho : xS v = true) : ¬ mU (yI v) = Ver.zero := by
  intro e
  rcases next_is h with ⟨k, _⟩ | ⟨_, a, b, c, e1, e2, ⟨_, e3⟩ | ⟨e3, _⟩⟩
  · rw [ho] at k; cases k
  · have hn := uF h
    rw [e1] at e
    have h4 : (Ver.rel a b c).code = 0 := by
      have : Ver.rel a b c = Ver.zero := e
      rw [this]; rfl
    rw [h4] at e3
    unfold Ver.code at e3; omega
  · exact e3 hp
theorem pre0_next (v : Ver) : mU (yI v) = yI v := by
  have h := (mI v).1
  generalize yI v = u at h ⊢
  obtain ⟨a, b, c, p, q⟩ := u
  simp only at h; subst h; rfl
theorem nD {c : Cu} (h : ¬ c.e = 0) : xX c = c := by unfold xX; rw [if_pos h]
theorem m9 {c : Cu} (hm : c.may = true) (h0 : c.e = 0) (ha : c.aft = true) (ho : xS c.v = false) : xX c = zT 1 := by
  have hb := vO hm
  have hp : c.v.pre = [] := Classical.byContradiction fun hp => by rw [(next_pre (vW hm) hp).2] at ho; cases ho
  unfold xX mT
  rw [if_neg (by omega), if_pos ⟨ha, hp⟩, rel_self hp hb, ho]; rfl
theorem bL {c : Cu} (hm : c.may = true) (h0 : c.e = 0) (ha : c.aft = true) (ho : xS c.v = true) (hz : mU (yI c.v) = Ver.zero) : xX c = zT (-1) := by
  have hp : ¬ c.v.pre = [] := fun hp => next_pos (vW hm) hp ho hz
  unfold xX
  rw [if_neg (by omega), if_neg (fun h => hp h.2)]
  refine relA_zero ?_
  rw [← (next_pre (vW hm) hp).1, ← pre0_next]; exact hz
theorem bK {c : Cu} (hm : c.may = true) (h0 : c.e = 0) (ha : c.aft = true) (ho : xS c.v = true) (hz : ¬ mU (yI c.v) = Ver.zero) : xX c = ⟨0, mU (yI c.v), false⟩ := by
  have hb := vO hm
  rw [pre0_next] at hz ⊢
  unfold xX
  by_cases hp : c.v.pre = []
  · rw [if_neg (by omega), if_pos ⟨ha, hp⟩]
    unfold mT
    rw [rel_self hp hb, ho]; rfl
  · rw [(next_pre (vW hm) hp).1] at hz ⊢
    rw [if_neg (by omega), if_neg (fun h => hp h.2)]
    exact relA_one hz
theorem tU {c : Cu} (hm : c.may = true) (h0 : c.e = 0) (ha : c.aft = false) (hz : mU c.v = Ver.zero) : xX c = zT (-1) := by
  unfold xX
  rw [if_neg (by omega), if_neg (fun h => by rw [ha] at h; cases h.1)]
  exact relA_zero (by rw [← t6 (vO hm)]; exact hz)
theorem nE {c : Cu} (hm : c.may = true) (h0 : c.e = 0) (ha : c.aft = false) (hz : ¬ mU c.v = Ver.zero) : xX c = ⟨0, mU c.v, false⟩ := by
  unfold xX
  rw [if_neg (by omega), if_neg (fun h => by rw [ha] at h; cases h.1), t6 (vO hm)]
  exact relA_one (by rw [← t6 (vO hm)]; exact hz)
theorem turn_right {c : Cu} (hm : c.may = true) : decide (c = xX c) = x7 c := by
  cases h : x7 c with
  | false => exact decide_eq_false fun e => by rw [e, (m8 hm).2] at h; cases h
  | true =>
    refine decide_eq_true ?_
    by_cases h0 : c.e = 0
    · have hr := h
      unfold x7 at hr
      rw [decide_eq_false (by simpa using h0), Bool.false_or] at hr
      simp only [Bool.and_eq_true, Bool.not_eq_true', decide_eq_true_eq] at hr
      obtain ⟨⟨ha, hp⟩, hl⟩ := hr
      have e1 : mU c.v = c.v := by
        have := vO hm
        rw [t6 this, rel_self hp this]
      rw [nE hm h0 ha (by rw [e1]; intro e; rw [e] at hl; revert hl; decide), e1]
      obtain ⟨e, v, a⟩ := c
      simp only at h0 ha; subst h0; subst ha; rfl
    · exact (nD h0).symm
theorem tV (c : Cu) (W : World) (hc : c.short) (hm : c.may = true) : Calls Tryz.prog 138 #[z8 c] W fun e w' => e = .returned (z8 (xX c)) ∧ Below W.heap.size W w' := by
  refine Z2 (n := 30) Tryz.func138 rfl (ZO (Zb (z8 c) (fun b1 => Za (.agg ZE) (fun b2 => ZN (z7 (ZO (Zv (Zp b1 0) (Zl 1 ⟨b1, (z8 c).cells, 78⟩ (off := 0) (.int .i64 c.e) ?_))))))))
  by_cases h1 : (c.e : Int) = 0
  · refine Zn (p := (c.e : Int) = 0) true (decide_eq_true (h1)) (ZX (ZB (ZO (Zv (Zp b1 1) (Zl 1 ⟨b1, (z8 c).cells, 78⟩ (off := 1) (.agg (ZP c.v)) (Za (.agg Z7) (fun b3 => Zs 0 ⟨b3, Z7, 44⟩ (off := 0) (.agg (ZP c.v)) ?_)))))))
    refine Zv Z4 (ZN (z7 (ZO (Zv (Zp b1 6) (Zl 2 ⟨b1, (z8 c).cells, 78⟩ (off := 6) (.bool c.aft) (zO (zB ?_)))))))
    cases h2 : c.aft with
    | true =>
      refine Zt (zA (Zl 0 ⟨b3, (ZP c.v), 44⟩ (off := 0) (.agg (ZP c.v)) (Zc (k := 181) (args := #[.agg (ZP c.v)]) (.tuple #[y6 (yI c.v), .bool (xS c.v)]) (fun w _ => vnext_any c.v w hc.1 hc.2) (Zv (.tuple #[y6 (yI c.v), .bool (xS c.v)]) (Zv (y6 (yI c.v)) (Zv (.bool (xS c.v)) (Zs 0 ⟨b3, (ZP c.v), 44⟩ (off := 0) (y6 (yI c.v)) (Zv (.bool (xS c.v)) (ZN (z7 ?_))))))))))
      refine zA (Zv (Zp b3 3) (Zs 0 ⟨b3, (y6 (yI c.v)).cells, 44⟩ (off := 3) (.string ⟨#[]⟩) (ZN (z7 (zM (ZO (Zv (.bool (xS c.v)) ?_)))))))
      cases h3 : xS c.v with
      | true =>
        refine Zv Z5 (Zv Z5 (ZX (ZO (Zl 0 ⟨b3, #[.int .i64 ((yI c.v).maj), .int .i64 ((yI c.v).min), .int .i64 ((yI c.v).pat), .string ⟨#[]⟩, .string (mkS (yI c.v).build)], 44⟩ (off := 0) (.agg #[.int .i64 ((yI c.v).maj), .int .i64 ((yI c.v).min), .int .i64 ((yI c.v).pat), .string ⟨#[]⟩, .string (mkS (yI c.v).build)]) (Zv (.agg Z7) ?_)))))
        by_cases h4 : mU (yI c.v) = Ver.zero
        · refine zV Z4 (by kernel_rfl) (jD (u := mU (yI c.v)) (v := Ver.zero) rfl (by kernel_rfl) (by kernel_rfl) (decide_eq_true (h4))) (Zv Z4 (ZY (ZO (Zv (.agg Z1) (Zs 1 ⟨b2, ZE, 78⟩ (off := 0) (.agg Z1) (ZN (zC ?_)))))))
          exact zG (z6 (ZC 1 ⟨b2, Z1, 78⟩ (off := 0) (.agg Z1) Tryz.results138 (fun w hO => ⟨by first | rw [nD (by omega)] | (rw [m9 hm (by omega) (by assumption) (by assumption)]; rfl) | (rw [bL hm (by omega) (by assumption) (by assumption) (by assumption)]; rfl) | (rw [bK hm (by omega) (by assumption) (by assumption) (by assumption)]; rfl) | (rw [tU hm (by omega) (by assumption) (by assumption)]; rfl) | (rw [nE hm (by omega) (by assumption) (by assumption)]; rfl), hO.below⟩)))
        refine zV Z5 (by kernel_rfl) (jD (u := mU (yI c.v)) (v := Ver.zero) rfl (by kernel_rfl) (by kernel_rfl) (decide_eq_false (h4))) (Zv Z5 (ZX (yP (zP (zB (ZO (Zl 0 ⟨b3, #[.int .i64 ((yI c.v).maj), .int .i64 ((yI c.v).min), .int .i64 ((yI c.v).pat), .string ⟨#[]⟩, .string (mkS (yI c.v).build)], 44⟩ (off := 0) (.agg #[.int .i64 ((yI c.v).maj), .int .i64 ((yI c.v).min), .int .i64 ((yI c.v).pat), .string ⟨#[]⟩, .string (mkS (yI c.v).build)]) (Zv (.agg #[.int .i64 0, .int .i64 ((yI c.v).maj), .int .i64 ((yI c.v).min), .int .i64 ((yI c.v).pat), .string ⟨#[]⟩, .string (mkS (yI c.v).build), .bool false]) ?_))))))))
        exact Zs 1 ⟨b2, ZE, 78⟩ (off := 0) (.agg #[.int .i64 0, .int .i64 ((yI c.v).maj), .int .i64 ((yI c.v).min), .int .i64 ((yI c.v).pat), .string ⟨#[]⟩, .string (mkS (yI c.v).build), .bool false]) (ZN (zC (ZC 1 ⟨b2, #[.int .i64 0, .int .i64 ((yI c.v).maj), .int .i64 ((yI c.v).min), .int .i64 ((yI c.v).pat), .string ⟨#[]⟩, .string (mkS (yI c.v).build), .bool false], 78⟩ (off := 0) (.agg #[.int .i64 0, .int .i64 ((yI c.v).maj), .int .i64 ((yI c.v).min), .int .i64 ((yI c.v).pat), .string ⟨#[]⟩, .string (mkS (yI c.v).build), .bool false]) Tryz.results138 (fun w hO => ⟨by first | rw [nD (by omega)] | (rw [m9 hm (by omega) (by assumption) (by assumption)]; rfl) | (rw [bL hm (by omega) (by assumption) (by assumption) (by assumption)]; rfl) | (rw [bK hm (by omega) (by assumption) (by assumption) (by assumption)]; rfl) | (rw [tU hm (by omega) (by assumption) (by assumption)]; rfl) | (rw [nE hm (by omega) (by assumption) (by assumption)]; rfl), hO.below⟩))))
      | false =>
        refine Zv Z4 (Zv Z4 (ZY (ZO (Zv (.agg Z6) (Zs 1 ⟨b2, ZE, 78⟩ (off := 0) (.agg Z6) (ZN (zC ?_)))))))
        exact zG (z6 (ZC 1 ⟨b2, Z6, 78⟩ (off := 0) (.agg Z6) Tryz.results138 (fun w hO => ⟨by first | rw [nD (by omega)] | (rw [m9 hm (by omega) (by assumption) (by assumption)]; rfl) | (rw [bL hm (by omega) (by assumption) (by assumption) (by assumption)]; rfl) | (rw [bK hm (by omega) (by assumption) (by assumption) (by assumption)]; rfl) | (rw [tU hm (by omega) (by assumption) (by assumption)]; rfl) | (rw [nE hm (by omega) (by assumption) (by assumption)]; rfl), hO.below⟩)))
    | false =>
      refine Zf (ZB (ZO (Zv (Zp b3 3) (Zs 0 ⟨b3, (ZP c.v), 44⟩ (off := 3) (.string ⟨#[]⟩) (ZN (z7 (zM (z7 ?_))))))))
      refine zA (Zv Z4 (Zv Z5 (Zv Z5 (ZX (ZO (Zl 0 ⟨b3, #[.int .i64 c.v.maj, .int .i64 c.v.min, .int .i64 c.v.pat, .string ⟨#[]⟩, .string (mkS c.v.build)], 44⟩ (off := 0) (.agg #[.int .i64 c.v.maj, .int .i64 c.v.min, .int .i64 c.v.pat, .string ⟨#[]⟩, .string (mkS c.v.build)]) (Zv (.agg Z7) ?_)))))))
      by_cases h5 : mU c.v = Ver.zero
      · refine zV Z4 (by kernel_rfl) (jD (u := mU c.v) (v := Ver.zero) rfl (by kernel_rfl) (by kernel_rfl) (decide_eq_true (h5))) (Zv Z4 (ZY (ZO (Zv (.agg Z1) (Zs 1 ⟨b2, ZE, 78⟩ (off := 0) (.agg Z1) (ZN (zC ?_)))))))
        exact zG (z6 (ZC 1 ⟨b2, Z1, 78⟩ (off := 0) (.agg Z1) Tryz.results138 (fun w hO => ⟨by first | rw [nD (by omega)] | (rw [m9 hm (by omega) (by assumption) (by assumption)]; rfl) | (rw [bL hm (by omega) (by assumption) (by assumption) (by assumption)]; rfl) | (rw [bK hm (by omega) (by assumption) (by assumption) (by assumption)]; rfl) | (rw [tU hm (by omega) (by assumption) (by assumption)]; rfl) | (rw [nE hm (by omega) (by assumption) (by assumption)]; rfl), hO.below⟩)))
      refine zV Z5 (by kernel_rfl) (jD (u := mU c.v) (v := Ver.zero) rfl (by kernel_rfl) (by kernel_rfl) (decide_eq_false (h5))) (Zv Z5 (ZX (yP (zP (zB (ZO (Zl 0 ⟨b3, #[.int .i64 c.v.maj, .int .i64 c.v.min, .int .i64 c.v.pat, .string ⟨#[]⟩, .string (mkS c.v.build)], 44⟩ (off := 0) (.agg #[.int .i64 c.v.maj, .int .i64 c.v.min, .int .i64 c.v.pat, .string ⟨#[]⟩, .string (mkS c.v.build)]) (Zv (.agg #[.int .i64 0, .int .i64 c.v.maj, .int .i64 c.v.min, .int .i64 c.v.pat, .string ⟨#[]⟩, .string (mkS c.v.build), .bool false]) ?_))))))))
      exact Zs 1 ⟨b2, ZE, 78⟩ (off := 0) (.agg #[.int .i64 0, .int .i64 c.v.maj, .int .i64 c.v.min, .int .i64 c.v.pat, .string ⟨#[]⟩, .string (mkS c.v.build), .bool false]) (ZN (zC (ZC 1 ⟨b2, #[.int .i64 0, .int .i64 c.v.maj, .int .i64 c.v.min, .int .i64 c.v.pat, .string ⟨#[]⟩, .string (mkS c.v.build), .bool false], 78⟩ (off := 0) (.agg #[.int .i64 0, .int .i64 c.v.maj, .int .i64 c.v.min, .int .i64 c.v.pat, .string ⟨#[]⟩, .string (mkS c.v.build), .bool false]) Tryz.results138 (fun w hO => ⟨by first | rw [nD (by omega)] | (rw [m9 hm (by omega) (by assumption) (by assumption)]; rfl) | (rw [bL hm (by omega) (by assumption) (by assumption) (by assumption)]; rfl) | (rw [bK hm (by omega) (by assumption) (by assumption) (by assumption)]; rfl) | (rw [tU hm (by omega) (by assumption) (by assumption)]; rfl) | (rw [nE hm (by omega) (by assumption) (by assumption)]; rfl), hO.below⟩))))
  refine Zn (p := (c.e : Int) = 0) false (decide_eq_false (h1)) (ZY (ZO (Zl 1 ⟨b1, (z8 c).cells, 78⟩ (off := 0) (z8 c) (Zs 0 ⟨b2, ZE, 78⟩ (off := 0) (z8 c) (ZN (zC (z6 ?_)))))))
  exact ZC 0 ⟨b2, (z8 c).cells, 78⟩ (off := 0) (z8 c) Tryz.results138 (fun w hO => ⟨by first | rw [nD (by omega)] | (rw [m9 hm (by omega) (by assumption) (by assumption)]; rfl) | (rw [bL hm (by omega) (by assumption) (by assumption) (by assumption)]; rfl) | (rw [bK hm (by omega) (by assumption) (by assumption) (by assumption)]; rfl) | (rw [tU hm (by omega) (by assumption) (by assumption)]; rfl) | (rw [nE hm (by omega) (by assumption) (by assumption)]; rfl), hO.below⟩)
theorem mayRel_any (c : Cu) (W : World) (hc : c.short) (hm : c.may = true) : Calls Tryz.prog 208 #[z8 c] W fun e w' => e = .returned (.bool (x7 c)) ∧ Below W.heap.size W w' := by
  rw [← turn_right hm]
  refine Z2 (n := 7) Tryz.func208 rfl (ZO (Zb (z8 c) (fun b1 => Zv Z5 (ZN (z7 (qM (by kernel_rfl) (by kernel_rfl) (Zm 0 ⟨b1, (z8 c).cells, 78⟩ (off := 0) (z8 c) (Zm 0 ⟨b1, (z8 c).cells, 78⟩ (off := 0) (z8 c) (Zq (k := 138) (args := #[z8 c]) (z8 (xX c)) (fun w _ => tV c w hc hm) ?_)))))))))
  by_cases h1 : c = xX c
  · exact gC Z4 (by kernel_rfl) (jE (u := c) (v := xX c) rfl (by kernel_rfl) (by kernel_rfl) (decide_eq_true (h1))) (Zw Z4 (kP (zB (zC (ZF Z4 Tryz.results208 (fun w hO => ⟨by rw [decide_eq_true h1], hO.below⟩))))))
  exact gC Z5 (by kernel_rfl) (jE (u := c) (v := xX c) rfl (by kernel_rfl) (by kernel_rfl) (decide_eq_false (h1))) (Zw Z5 (kP (zB (zC (ZF Z5 Tryz.results208 (fun w hO => ⟨by rw [decide_eq_false h1], hO.below⟩))))))
def gX (s : Sp) : Bool := !x7 s.lo || !x7 s.hi
theorem bA {l : List Sp} : (!l.any gX) = l.all fun x => x7 x.lo && x7 x.hi := by
  rw [List.not_any_eq_all_not]
  congr 1
  funext s
  unfold gX
  simp
theorem foreign1_any (s : Sp) (W : World) (hs : s.short) (hm : s.may = true) : Calls Tryz.prog 207 #[yO s] W fun e w' => e = .returned (.bool (gX s)) ∧ Below W.heap.size W w' := by
  obtain ⟨m1, m2⟩ := y9 hm
  refine Z2 (n := 13) Tryz.func207 rfl (ZO (Zb (yO s) (fun b1 => Zv Z5 (ZR (Zv (Zp b1 0) (Zl 0 ⟨b1, (yO s).cells, 80⟩ (off := 0) (.agg (ZJ s.lo)) (Zc (k := 208) (args := #[.agg (ZJ s.lo)]) (.bool (x7 s.lo)) (fun w _ => mayRel_any s.lo w hs.1 m1) ?_)))))))
  cases h1 : x7 s.lo with
  | true =>
    refine Zv Z5 (Zv Z5 (Zv (Zp b1 7) (Zl 0 ⟨b1, (yO s).cells, 80⟩ (off := 7) (.agg (ZJ s.hi)) (Zc (k := 208) (args := #[.agg (ZJ s.hi)]) (.bool (x7 s.hi)) (fun w _ => mayRel_any s.hi w hs.2 m2) ?_))))
    cases h2 : x7 s.hi with
    | true =>
      exact Zv Z5 (Zv Z5 (Zv Z5 (ZN (zC (ZF Z5 Tryz.results207 (fun w hO => ⟨by unfold gX; simp [h1, h2], hO.below⟩))))))
    | false =>
      exact Zv Z4 (Zv Z4 (Zv Z4 (ZN (zC (ZF Z4 Tryz.results207 (fun w hO => ⟨by unfold gX; simp [h1, h2], hO.below⟩))))))
  | false =>
    refine Zv Z4 (Zv Z4 (Zk (Zk (Zk (Zk (Zv Z4 (Zv Z4 (ZN (zC (ZF Z4 Tryz.results207 ?_))))))))))
    exact fun w hO => ⟨by unfold gX; simp [h1], hO.below⟩
def idxR : List Sp → Int → Int
  | [], _ => -1
  | s :: r, k => if gX s then k else idxR r (k + 1)
theorem idxR_any : ∀ (l : List Sp) (k : Int), 0 ≤ k → decide (0 ≤ idxR l k) = l.any gX
  | [], k, _ => rfl
  | s :: r, k, hk => by
    unfold idxR
    rw [List.any_cons]
    cases h : gX s with
    | true => rw [if_pos rfl, Bool.true_or]; exact decide_eq_true hk
    | false => rw [if_neg (by decide), Bool.false_or]; exact idxR_any r (k + 1) (by omega)
theorem idxr_any (A : Option Addr) (cap : Nat) (l : List Sp) (W : World) (hv : Reads yJ W W.heap.size A l) (hn : l.length ≤ 1000000) (hl : yU l) (hmay : ∀ s ∈ l, s.may = true) :
    Calls Tryz.prog 226 #[.slice A l.length cap, .func (.func 207) #[] #[]] W fun e w' => e = .returned (.int .i64 (idxR l 0)) ∧ Below W.heap.size W w' := by
  refine Z2 (n := 19) Tryz.func226 rfl (ZO (Zv (.int .i64 0) (ZN (z7 (ZO (Zv (.slice A l.length cap) (Zv (.int .i64 (l.length : Int)) (Zv (.int .i64 0) ?_))))))))
  refine ZN (zM (yN (fun L f m => ∃ (k : Nat) (j : Nat → Value), (k ≤ l.length ∧ idxR l 0 = idxR (l.drop k) (k : Int)) ∧ L = [] ∧ f = xZ j [(0, .slice A l.length cap), (1, .func (.func 207) #[] #[]), (7, .int .i64 (l.length : Int)), (8, .int .i64 (k : Int))] ∧ m = l.length - k) (l.length - 0) ⟨0, _, ⟨Nat.zero_le _, by rw [List.drop_zero]; rfl⟩, rfl, ZU, rfl⟩ ?_))
  rintro L f m ⟨k, j, hrel, rfl, rfl, rfl⟩
  have hkl := hrel.1
  refine z7 (zA ?_)
  by_cases h1 : (k : Int) < (l.length : Int)
  · have hk : k < l.length := by omega
    obtain ⟨b, off, hA, hlt, hcel⟩ := hv (by omega)
    obtain ⟨s, hs⟩ : ∃ s, l[k] = s := ⟨_, rfl⟩
    have hsk : s.short := hs ▸ hl l[k] (List.getElem_mem hk)
    have hsm : s.may = true := hs ▸ hmay l[k] (List.getElem_mem hk)
    refine Zg h1 (ZN (z7 (Zt (ZB (z7 (zM (ZO (Zv (.int .i64 (k : Int)) ?_))))))))
    refine Zv (.int .i64 (k : Int)) (ZR (Zv (.func (.func 207) #[] #[]) (Zv (.slice A l.length cap) (Zv (.int .i64 (k : Int)) (zV (Zp b (off + k * 14)) (by kernel_rfl) (ZA (b := b) (off := off) (c := cap) (n := l.length) (k := .i64) (j := (k : Int)) (e := 80) (sz := 14) hA) (Zo (yO s) (a := ⟨b, off + k * 14, none⟩) (fun w hO => zX zY (fun j u h => (hO.below.cell (p := ⟨b, off + j, none⟩) hlt).trans (hcel j u h)) k 0 hk (by omega) _ (by rw [hs]; kernel_rfl)) (Zc (k := 207) (args := #[yO s]) (.bool (gX s)) (fun w hO => foreign1_any s w hsk hsm) (zO ?_))))))))
    refine zB ?_
    cases h2 : gX s with
    | true =>
      refine Zt (ZO (Zv (.int .i64 (k : Int)) (Zv (.int .i64 (k : Int)) (ZN (zC (zG (z6 (y5 (zG ?_)))))))))
      exact z6 (ZF (.int .i64 (k : Int)) Tryz.results226 (fun w hO => ⟨by rw [hrel.2, List.drop_eq_getElem_cons hk, hs]; simp only [idxR, h2]; rfl, hO.below⟩))
    | false =>
      refine Zf (yP (zP (zB (zA (Zu (k := .i64) (((k + 1 : Nat) : Int)) (IntWalk.i64_in _ (by omega)) (Zv (.int .i64 ((k + 1 : Nat) : Int)) (zO ?_)))))))
      have hnext : idxR l 0 = idxR (l.drop (k + 1)) ((k + 1 : Nat) : Int) := by rw [hrel.2, List.drop_eq_getElem_cons hk, hs]; simp only [idxR, h2]; rfl
      exact zS (m' := l.length - (k + 1)) (by omega) ⟨k + 1, _, ⟨by omega, hnext⟩, rfl, ZU, rfl⟩
  refine Zh h1 (ZN (z7 (Zf (y7 (zF (zN (zJ (zB (z7 (zA ?_))))))))))
  exact Zv (.int .i64 (-1)) (ZN (zC (ZF (.int .i64 (-1)) Tryz.results226 (fun w hO => ⟨by rw [hrel.2, List.drop_of_length_le (by omega)]; rfl, hO.below⟩))))
theorem containsr_any (A : Option Addr) (cap : Nat) (l : List Sp) (W : World) (hv : Reads yJ W W.heap.size A l) (hn : l.length ≤ 1000000) (hl : yU l) (hmay : ∀ s ∈ l, s.may = true) :
    Calls Tryz.prog 209 #[.slice A l.length cap, .func (.func 207) #[] #[]] W fun e w' => e = .returned (.bool (l.any gX)) ∧ Below W.heap.size W w' := by
  rw [← idxR_any l 0 (by omega)]
  refine Z2 (n := 9) Tryz.func209 rfl (ZO (Zv Z5 (ZR (Zv (.slice A l.length cap) (Zv (.func (.func 207) #[] #[]) (Zc (k := 226) (args := #[.slice A l.length cap, .func (.func 207) #[] #[]]) (.int .i64 (idxR l 0)) (fun w hO => idxr_any A cap l w (hv.on hO.below hO.size) hn hl hmay) ?_))))))
  by_cases h1 : (0 : Int) ≤ idxR l 0
  · exact Zg h1 (Zv Z4 (ZN (zC (ZF Z4 Tryz.results209 (fun w hO => ⟨by simp only [decide_eq_true h1], hO.below⟩)))))
  exact Zh h1 (Zv Z5 (ZN (zC (ZF Z5 Tryz.results209 (fun w hO => ⟨by simp only [decide_eq_false h1], hO.below⟩)))))
theorem pU (A B : Option Addr) (c d : Nat) (a : St) (W : World) (hs : SetIn W W.heap.size A B a) (ca : a.rel.length ≤ c ∧ a.pre.length ≤ d) : Calls Tryz.prog 182 #[.agg #[.slice A a.rel.length c, .slice B a.pre.length d]] W fun e w' => e = .returned (.bool a.may) ∧ Below W.heap.size W w' := by
  refine Z2 (n := 19) Tryz.func182 rfl (ZO (Zb (.agg #[.slice A a.rel.length c, .slice B a.pre.length d]) (fun b1 => Zv Z5 (ZR (Zv (.func (.func 207) #[] #[]) (zO (zB ?_)))))))
  refine ZO (Zv (Zp b1 0) (Zl 0 ⟨b1, #[.slice A a.rel.length c, .slice B a.pre.length d], 31⟩ (off := 0) (.slice A a.rel.length c) (Zc (k := 129) (args := #[.slice A a.rel.length c]) (.bool (zL a.rel)) (fun w hO => jV A c a.rel w (hs.rel.on hO.below hO.size) (Nat.le_trans hs.lr (by decide)) hs.sr) (Zv (.bool (zL a.rel)) ?_))))
  cases h1 : zL a.rel with
  | true =>
    refine Zv (Zp b1 1) (Zl 0 ⟨b1, #[.slice A a.rel.length c, .slice B a.pre.length d], 31⟩ (off := 1) (.slice B a.pre.length d) (Zc (k := 129) (args := #[.slice B a.pre.length d]) (.bool (zL a.pre)) (fun w hO => jV B d a.pre w (hs.pre.on hO.below hO.size) (Nat.le_trans hs.lp (by decide)) hs.sp) (Zv (.bool (zL a.pre)) (Zv (.bool (zL a.pre)) ?_))))
    cases h2 : zL a.pre with
    | true =>
      refine Zv (Zp b1 0) (Zl 0 ⟨b1, #[.slice A a.rel.length c, .slice B a.pre.length d], 31⟩ (off := 0) (.slice A a.rel.length c) (Zv (.func (.func 207) #[] #[]) (Zc (k := 209) (args := #[.slice A a.rel.length c, .func (.func 207) #[] #[]]) (.bool (a.rel.any gX)) (fun w hO => containsr_any A c a.rel w (hs.rel.on hO.below hO.size) (Nat.le_trans hs.lr (by decide)) hs.sr (x8 h1)) ?_)))
      cases h3 : a.rel.any gX with
      | true =>
        exact Zv Z5 (Zv Z5 (Zv Z5 (ZN (zC (ZF Z5 Tryz.results182 (fun w hO => ⟨by unfold St.may; rw [← bA]; simp [h1, h2, h3], hO.below⟩))))))
      | false =>
        exact Zv Z4 (Zv Z4 (Zv Z4 (ZN (zC (ZF Z4 Tryz.results182 (fun w hO => ⟨by unfold St.may; rw [← bA]; simp [h1, h2, h3], hO.below⟩))))))
    | false =>
      exact Zk (Zk (Zk (Zk (Zk (Zv Z5 (Zv Z5 (ZN (zC (ZF Z5 Tryz.results182 (fun w hO => ⟨by unfold St.may; rw [← bA]; simp [h1, h2], hO.below⟩))))))))))
  | false =>
    refine Zk (Zk (Zk (Zv Z5 (Zv Z5 (Zk (Zk (Zk (Zk (Zk (Zv Z5 (Zv Z5 ?_)))))))))))
    exact ZN (zC (ZF Z5 Tryz.results182 (fun w hO => ⟨by unfold St.may; rw [← bA]; simp [h1], hO.below⟩)))
theorem qW (W : World) : Calls Tryz.prog 47 #[] W fun e w' => e = .returned (.agg ZM) ∧ Below W.heap.size W w' := by
  refine Z2 (n := 2) Tryz.func47 rfl (ZO (Za (.agg ZM) (fun b1 => ZR (Zv (.agg ZM) (Zs 0 ⟨b1, ZM, 31⟩ (off := 0) (.agg ZM) (zO (zB ?_)))))))
  exact zC (ZC 0 ⟨b1, ZM, 31⟩ (off := 0) (.agg ZM) Tryz.results47 (fun w hO => ⟨rfl, hO.below⟩))
end
section
theorem not1_any (A B : Option Addr) (cap capb : Nat) (x y : List Sp) (W : World) (hv : Reads yJ W W.heap.size A x) (hu : Reads yJ W W.heap.size B y) (hx : RF x 100000) (hy : RF y 100000) (hca : x.length ≤ cap) (hcb : y.length ≤ capb) : Calls Tryz.prog 172 #[.slice A x.length cap, .slice B y.length capb] W fun e w' => ∃ v' ob', e = .returned v' ∧ SlS v' (v8 x) ob' ∧ Own [] W w' ob' := by
  refine Z2 (n := 7) Tryz.func172 rfl (ZO (Zv (.slice none 0 0) (ZR (Zv (.slice A x.length cap) (Zr (k := 135) (args := #[.slice A x.length cap]) (fun v' L' => ∃ ob', L' = ob' ++ ([]) ∧ SlS v' (v8 x) ob') (fun w hO => (not4_any A cap x w (hv.on hO.below hO.size) (Nat.le_trans hx.len (by decide)) hx.short).mono fun e w' ⟨v', ob', k1, k2, k3⟩ => ⟨v', _, k1, ⟨ob', rfl, by rw [if_pos hx.may] at k2; exact k2⟩, Own.joinN hO k3⟩) (fun v1 L1 hv1 => ?_))))))
  obtain ⟨o1, rfl, hr1⟩ := hv1
  obtain ⟨V1, c1, rfl⟩ := hr1.form
  exact kB (L' := o1) (List.append_nil _) (Zv (.slice V1 ((v8 x).length) c1) (ZN (zC (ZF (.slice V1 ((v8 x).length) c1) Tryz.results172 (fun w hO => ⟨_, o1, rfl, hr1, by simpa using hO⟩)))))
theorem combOr_any (A B A' B' : Option Addr) (c d c' d' : Nat) (a b : St) (W : World) (hs : SetIn W W.heap.size A B a) (ht : SetIn W W.heap.size A' B' b) (ca : a.rel.length ≤ c ∧ a.pre.length ≤ d) (cb : b.rel.length ≤ c' ∧ b.pre.length ≤ d') : Calls Tryz.prog 140 #[.agg #[.slice A a.rel.length c, .slice B a.pre.length d], .agg #[.slice A' b.rel.length c', .slice B' b.pre.length d'], .func (.func 83) #[] #[]] W fun e w' => ∃ v' ob', e = .returned v' ∧ SetO v' (if a.may && b.may then orT a b else gD) ob' ∧ Own [] W w' ob' := by
  refine Z2 (n := 29) Tryz.func140 rfl (ZO (Zb (.agg #[.slice A a.rel.length c, .slice B a.pre.length d]) (fun b1 => Zb (.agg #[.slice A' b.rel.length c', .slice B' b.pre.length d']) (fun b2 => Za (.agg ZM) (fun b3 => ZN (z7 (ZO (Zl 2 ⟨b1, #[.slice A a.rel.length c, .slice B a.pre.length d], 31⟩ (off := 0) (.agg #[.slice A a.rel.length c, .slice B a.pre.length d]) ?_))))))))
  refine Zc (k := 182) (args := #[.agg #[.slice A a.rel.length c, .slice B a.pre.length d]]) (.bool a.may) (fun w hO => pU A B c d a w (hs.on hO.below hO.size) ca) ?_
  cases h1 : a.may with
  | true =>
    refine Zv Z5 (Zv Z5 (Zl 1 ⟨b2, #[.slice A' b.rel.length c', .slice B' b.pre.length d'], 31⟩ (off := 0) (.agg #[.slice A' b.rel.length c', .slice B' b.pre.length d']) (Zc (k := 182) (args := #[.agg #[.slice A' b.rel.length c', .slice B' b.pre.length d']]) (.bool b.may) (fun w hO => pU A' B' c' d' b w (ht.on hO.below hO.size) cb) ?_)))
    cases h2 : b.may with
    | true =>
      refine Zv Z5 (Zv Z5 (ZX (ZB (z7 (xE [⟨b2, #[.slice A' b.rel.length c', .slice B' b.pre.length d'], 31⟩, ⟨b1, #[.slice A a.rel.length c, .slice B a.pre.length d], 31⟩] (by kernel_rfl) (fun w hO => Own.sub [⟨b3, ZM, 31⟩] hO) (ZT 0 [⟨b3, ZM, 31⟩] _ (.func (.func 83) #[] #[]) (zD zH) rfl (ZT 1 [⟨b3, ZM, 31⟩] _ (Zp b1 0) (zD zH) rfl (ZL 2 [⟨b3, ZM, 31⟩] _ 1 ⟨b1, #[.slice A a.rel.length c, .slice B a.pre.length d], 31⟩ (off := 0) (.slice A a.rel.length c) (zD zH) rfl rfl ?_))))))))
      refine ZT 3 [⟨b3, ZM, 31⟩] _ (Zp b2 0) (zD zH) rfl (ZL 4 [⟨b3, ZM, 31⟩] _ 0 ⟨b2, #[.slice A' b.rel.length c', .slice B' b.pre.length d'], 31⟩ (off := 0) (.slice A' b.rel.length c') (zD zH) rfl rfl (ZT 6 [⟨b3, ZM, 31⟩] _ (.func (.func 83) #[] #[]) (zD zH) rfl (ZT 7 [⟨b3, ZM, 31⟩] _ (Zp b1 1) (zD zH) rfl (ZL 8 [⟨b3, ZM, 31⟩] _ 1 ⟨b1, #[.slice A a.rel.length c, .slice B a.pre.length d], 31⟩ (off := 1) (.slice B a.pre.length d) (zD zH) rfl rfl (ZT 9 [⟨b3, ZM, 31⟩] _ (Zp b2 1) (zD zH) rfl (ZL 10 [⟨b3, ZM, 31⟩] _ 0 ⟨b2, #[.slice A' b.rel.length c', .slice B' b.pre.length d'], 31⟩ (off := 1) (.slice B' b.pre.length d') (zD zH) rfl rfl (Zz 5 (kA _ (k := 83) (args := #[.slice A a.rel.length c, .slice A' b.rel.length c']) (fun v' L' => ∃ ob', L' = ob' ++ ([⟨b3, ZM, 31⟩] ++ ([⟨b2, #[.slice A' b.rel.length c', .slice B' b.pre.length d'], 31⟩, ⟨b1, #[.slice A a.rel.length c, .slice B a.pre.length d], 31⟩])) ∧ SlS v' (orL a.rel b.rel) ob') rfl (by kernel_rfl) (fun _ => by kernel_rfl) (fun w hO => (or4_any A A' c c' a.rel b.rel w (hs.rel.on hO.below hO.size) (ht.rel.on hO.below hO.size) (SF.of h1 hs.lr hs.lp).rel.len (SF.of h2 ht.lr ht.lp).rel.len (SF.of h1 hs.lr hs.lp).rel.short (SF.of h2 ht.lr ht.lp).rel.short).mono fun e w' ⟨v', ob', k1, k2, k3⟩ => ⟨v', _, k1, ⟨ob', rfl, by rw [if_pos (by rw [(SF.of h1 hs.lr hs.lp).rel.may, (SF.of h2 ht.lr ht.lp).rel.may]; rfl)] at k2; exact k2⟩, Own.joinN hO k3⟩) (fun v' L' ⟨ob', e, _⟩ w hO => by subst e; exact Own.sub [⟨b3, ZM, 31⟩] (Own.sub ob' hO)) (fun v1 L2 hv2 => ?_)))))))))
      obtain ⟨o1, rfl, hr1⟩ := hv2
      obtain ⟨V1, c1, rfl⟩ := hr1.form
      refine gK (L' := (o1 ++ ([⟨b3, ZM, 31⟩] : List Blk)) ++ ([⟨b2, #[.slice A' b.rel.length c', .slice B' b.pre.length d'], 31⟩, ⟨b1, #[.slice A a.rel.length c, .slice B a.pre.length d], 31⟩])) (List.append_assoc _ _ _).symm (Zz 11 (kA _ (k := 83) (args := #[.slice B a.pre.length d, .slice B' b.pre.length d']) (fun v' L' => ∃ ob', L' = ob' ++ ((o1 ++ ([⟨b3, ZM, 31⟩] : List Blk)) ++ ([⟨b2, #[.slice A' b.rel.length c', .slice B' b.pre.length d'], 31⟩, ⟨b1, #[.slice A a.rel.length c, .slice B a.pre.length d], 31⟩])) ∧ SlS v' (orL a.pre b.pre) ob') rfl (by kernel_rfl) (fun _ => by kernel_rfl) (fun w hO => (or4_any B B' d d' a.pre b.pre w (hs.pre.on hO.below hO.size) (ht.pre.on hO.below hO.size) (SF.of h1 hs.lr hs.lp).pre.len (SF.of h2 ht.lr ht.lp).pre.len (SF.of h1 hs.lr hs.lp).pre.short (SF.of h2 ht.lr ht.lp).pre.short).mono fun e w' ⟨v', ob', k1, k2, k3⟩ => ⟨v', _, k1, ⟨ob', rfl, by rw [if_pos (by rw [(SF.of h1 hs.lr hs.lp).pre.may, (SF.of h2 ht.lr ht.lp).pre.may]; rfl)] at k2; exact k2⟩, Own.joinN hO k3⟩) (fun v' L' ⟨ob', e, _⟩ w hO => by subst e; exact Own.sub (o1 ++ ([⟨b3, ZM, 31⟩] : List Blk)) (Own.sub ob' hO)) (fun v2 L2 hv2 => ?_)))
      obtain ⟨o2, rfl, hr2⟩ := hv2
      obtain ⟨V2, c2, rfl⟩ := hr2.form
      exact gK (L' := (o2 ++ (o1 ++ ([⟨b3, ZM, 31⟩] : List Blk))) ++ ([⟨b2, #[.slice A' b.rel.length c', .slice B' b.pre.length d'], 31⟩, ⟨b1, #[.slice A a.rel.length c, .slice B a.pre.length d], 31⟩])) (List.append_assoc _ _ _).symm (ZT 12 (o2 ++ (o1 ++ ([⟨b3, ZM, 31⟩] : List Blk))) _ (.agg #[.slice V1 ((orL a.rel b.rel).length) c1, .slice V2 ((orL a.pre b.pre).length) c2]) (zD zH) rfl (Zz 13 (fU (E' := (⟨b3, ZM, 31⟩ :: (o2 ++ (o1 ++ ([] : List Blk))))) (by simpa [List.append_assoc] using (List.perm_middle (a := ⟨b3, ZM, 31⟩) (l₁ := (o2 ++ (o1 ++ ([] : List Blk)))) (l₂ := []))) (ZS (⟨b3, ZM, 31⟩ :: (o2 ++ (o1 ++ ([] : List Blk)))) _ 0 ⟨b3, ZM, 31⟩ (off := 0) (.agg #[.slice V1 ((orL a.rel b.rel).length) c1, .slice V2 ((orL a.pre b.pre).length) c2]) rfl rfl (ZZ (zB (zC (ZC 0 ⟨b3, #[.slice V1 ((orL a.rel b.rel).length) c1, .slice V2 ((orL a.pre b.pre).length) c2], 31⟩ (off := 0) (.agg #[.slice V1 ((orL a.rel b.rel).length) c1, .slice V2 ((orL a.pre b.pre).length) c2]) Tryz.results140 (fun w hO => ⟨_, _, rfl, by rw [if_pos (by simp [h1, h2])]; exact ⟨_, _, o1, o2, rfl, rfl, hr1, hr2⟩, own_mid hO⟩)))))))))
    | false =>
      refine Zv Z4 (Zv Z4 (ZY (ZO (Zc (k := 47) (args := #[]) (.agg ZM) (fun w _ => qW w) (Zs 0 ⟨b3, ZM, 31⟩ (off := 0) (.agg ZM) (ZN (zC ?_)))))))
      exact z6 (ZC 0 ⟨b3, ZM, 31⟩ (off := 0) (.agg ZM) Tryz.results140 (fun w hO => ⟨_, [], rfl, by rw [if_neg (by simp [h1, h2])]; exact SetO.none, kK hO⟩))
  | false =>
    refine Zv Z4 (Zv Z4 (Zk (Zk (Zk (Zv Z4 (ZY (ZO (Zc (k := 47) (args := #[]) (.agg ZM) (fun w _ => qW w) ?_))))))))
    exact Zs 0 ⟨b3, ZM, 31⟩ (off := 0) (.agg ZM) (ZN (zC (z6 (ZC 0 ⟨b3, ZM, 31⟩ (off := 0) (.agg ZM) Tryz.results140 (fun w hO => ⟨_, [], rfl, by rw [if_neg (by simp [h1])]; exact SetO.none, kK hO⟩)))))
theorem combNot_any (A B A' B' : Option Addr) (c d c' d' : Nat) (a b : St) (W : World) (hs : SetIn W W.heap.size A B a) (ht : SetIn W W.heap.size A' B' b) (ca : a.rel.length ≤ c ∧ a.pre.length ≤ d) (cb : b.rel.length ≤ c' ∧ b.pre.length ≤ d') : Calls Tryz.prog 140 #[.agg #[.slice A a.rel.length c, .slice B a.pre.length d], .agg #[.slice A' b.rel.length c', .slice B' b.pre.length d'], .func (.func 172) #[] #[]] W fun e w' => ∃ v' ob', e = .returned v' ∧ SetO v' (if a.may && b.may then notT a else gD) ob' ∧ Own [] W w' ob' := by
  refine Z2 (n := 29) Tryz.func140 rfl (ZO (Zb (.agg #[.slice A a.rel.length c, .slice B a.pre.length d]) (fun b1 => Zb (.agg #[.slice A' b.rel.length c', .slice B' b.pre.length d']) (fun b2 => Za (.agg ZM) (fun b3 => ZN (z7 (ZO (Zl 2 ⟨b1, #[.slice A a.rel.length c, .slice B a.pre.length d], 31⟩ (off := 0) (.agg #[.slice A a.rel.length c, .slice B a.pre.length d]) ?_))))))))
  refine Zc (k := 182) (args := #[.agg #[.slice A a.rel.length c, .slice B a.pre.length d]]) (.bool a.may) (fun w hO => pU A B c d a w (hs.on hO.below hO.size) ca) ?_
  cases h1 : a.may with
  | true =>
    refine Zv Z5 (Zv Z5 (Zl 1 ⟨b2, #[.slice A' b.rel.length c', .slice B' b.pre.length d'], 31⟩ (off := 0) (.agg #[.slice A' b.rel.length c', .slice B' b.pre.length d']) (Zc (k := 182) (args := #[.agg #[.slice A' b.rel.length c', .slice B' b.pre.length d']]) (.bool b.may) (fun w hO => pU A' B' c' d' b w (ht.on hO.below hO.size) cb) ?_)))
    cases h2 : b.may with
    | true =>
      refine Zv Z5 (Zv Z5 (ZX (ZB (z7 (xE [⟨b2, #[.slice A' b.rel.length c', .slice B' b.pre.length d'], 31⟩, ⟨b1, #[.slice A a.rel.length c, .slice B a.pre.length d], 31⟩] (by kernel_rfl) (fun w hO => Own.sub [⟨b3, ZM, 31⟩] hO) (ZT 0 [⟨b3, ZM, 31⟩] _ (.func (.func 172) #[] #[]) (zD zH) rfl (ZT 1 [⟨b3, ZM, 31⟩] _ (Zp b1 0) (zD zH) rfl (ZL 2 [⟨b3, ZM, 31⟩] _ 1 ⟨b1, #[.slice A a.rel.length c, .slice B a.pre.length d], 31⟩ (off := 0) (.slice A a.rel.length c) (zD zH) rfl rfl ?_))))))))
      refine ZT 3 [⟨b3, ZM, 31⟩] _ (Zp b2 0) (zD zH) rfl (ZL 4 [⟨b3, ZM, 31⟩] _ 0 ⟨b2, #[.slice A' b.rel.length c', .slice B' b.pre.length d'], 31⟩ (off := 0) (.slice A' b.rel.length c') (zD zH) rfl rfl (ZT 6 [⟨b3, ZM, 31⟩] _ (.func (.func 172) #[] #[]) (zD zH) rfl (ZT 7 [⟨b3, ZM, 31⟩] _ (Zp b1 1) (zD zH) rfl (ZL 8 [⟨b3, ZM, 31⟩] _ 1 ⟨b1, #[.slice A a.rel.length c, .slice B a.pre.length d], 31⟩ (off := 1) (.slice B a.pre.length d) (zD zH) rfl rfl (ZT 9 [⟨b3, ZM, 31⟩] _ (Zp b2 1) (zD zH) rfl (ZL 10 [⟨b3, ZM, 31⟩] _ 0 ⟨b2, #[.slice A' b.rel.length c', .slice B' b.pre.length d'], 31⟩ (off := 1) (.slice B' b.pre.length d') (zD zH) rfl rfl (Zz 5 (kA _ (k := 172) (args := #[.slice A a.rel.length c, .slice A' b.rel.length c']) (fun v' L' => ∃ ob', L' = ob' ++ ([⟨b3, ZM, 31⟩] ++ ([⟨b2, #[.slice A' b.rel.length c', .slice B' b.pre.length d'], 31⟩, ⟨b1, #[.slice A a.rel.length c, .slice B a.pre.length d], 31⟩])) ∧ SlS v' (v8 a.rel) ob') rfl (by kernel_rfl) (fun _ => by kernel_rfl) (fun w hO => (not1_any A A' c c' a.rel b.rel w (hs.rel.on hO.below hO.size) (ht.rel.on hO.below hO.size) (SF.of h1 hs.lr hs.lp).rel (SF.of h2 ht.lr ht.lp).rel ca.1 cb.1).mono fun e w' ⟨v', ob', k1, k2, k3⟩ => ⟨v', _, k1, ⟨ob', rfl, k2⟩, Own.joinN hO k3⟩) (fun v' L' ⟨ob', e, _⟩ w hO => by subst e; exact Own.sub [⟨b3, ZM, 31⟩] (Own.sub ob' hO)) (fun v1 L2 hv2 => ?_)))))))))
      obtain ⟨o1, rfl, hr1⟩ := hv2
      obtain ⟨V1, c1, rfl⟩ := hr1.form
      refine gK (L' := (o1 ++ ([⟨b3, ZM, 31⟩] : List Blk)) ++ ([⟨b2, #[.slice A' b.rel.length c', .slice B' b.pre.length d'], 31⟩, ⟨b1, #[.slice A a.rel.length c, .slice B a.pre.length d], 31⟩])) (List.append_assoc _ _ _).symm (Zz 11 (kA _ (k := 172) (args := #[.slice B a.pre.length d, .slice B' b.pre.length d']) (fun v' L' => ∃ ob', L' = ob' ++ ((o1 ++ ([⟨b3, ZM, 31⟩] : List Blk)) ++ ([⟨b2, #[.slice A' b.rel.length c', .slice B' b.pre.length d'], 31⟩, ⟨b1, #[.slice A a.rel.length c, .slice B a.pre.length d], 31⟩])) ∧ SlS v' (v8 a.pre) ob') rfl (by kernel_rfl) (fun _ => by kernel_rfl) (fun w hO => (not1_any B B' d d' a.pre b.pre w (hs.pre.on hO.below hO.size) (ht.pre.on hO.below hO.size) (SF.of h1 hs.lr hs.lp).pre (SF.of h2 ht.lr ht.lp).pre ca.2 cb.2).mono fun e w' ⟨v', ob', k1, k2, k3⟩ => ⟨v', _, k1, ⟨ob', rfl, k2⟩, Own.joinN hO k3⟩) (fun v' L' ⟨ob', e, _⟩ w hO => by subst e; exact Own.sub (o1 ++ ([⟨b3, ZM, 31⟩] : List Blk)) (Own.sub ob' hO)) (fun v2 L2 hv2 => ?_)))
      obtain ⟨o2, rfl, hr2⟩ := hv2
      obtain ⟨V2, c2, rfl⟩ := hr2.form
      exact gK (L' := (o2 ++ (o1 ++ ([⟨b3, ZM, 31⟩] : List Blk))) ++ ([⟨b2, #[.slice A' b.rel.length c', .slice B' b.pre.length d'], 31⟩, ⟨b1, #[.slice A a.rel.length c, .slice B a.pre.length d], 31⟩])) (List.append_assoc _ _ _).symm (ZT 12 (o2 ++ (o1 ++ ([⟨b3, ZM, 31⟩] : List Blk))) _ (.agg #[.slice V1 ((v8 a.rel).length) c1, .slice V2 ((v8 a.pre).length) c2]) (zD zH) rfl (Zz 13 (fU (E' := (⟨b3, ZM, 31⟩ :: (o2 ++ (o1 ++ ([] : List Blk))))) (by simpa [List.append_assoc] using (List.perm_middle (a := ⟨b3, ZM, 31⟩) (l₁ := (o2 ++ (o1 ++ ([] : List Blk)))) (l₂ := []))) (ZS (⟨b3, ZM, 31⟩ :: (o2 ++ (o1 ++ ([] : List Blk)))) _ 0 ⟨b3, ZM, 31⟩ (off := 0) (.agg #[.slice V1 ((v8 a.rel).length) c1, .slice V2 ((v8 a.pre).length) c2]) rfl rfl (ZZ (zB (zC (ZC 0 ⟨b3, #[.slice V1 ((v8 a.rel).length) c1, .slice V2 ((v8 a.pre).length) c2], 31⟩ (off := 0) (.agg #[.slice V1 ((v8 a.rel).length) c1, .slice V2 ((v8 a.pre).length) c2]) Tryz.results140 (fun w hO => ⟨_, _, rfl, by rw [if_pos (by simp [h1, h2])]; exact ⟨_, _, o1, o2, rfl, rfl, hr1, hr2⟩, own_mid hO⟩)))))))))
    | false =>
      refine Zv Z4 (Zv Z4 (ZY (ZO (Zc (k := 47) (args := #[]) (.agg ZM) (fun w _ => qW w) (Zs 0 ⟨b3, ZM, 31⟩ (off := 0) (.agg ZM) (ZN (zC ?_)))))))
      exact z6 (ZC 0 ⟨b3, ZM, 31⟩ (off := 0) (.agg ZM) Tryz.results140 (fun w hO => ⟨_, [], rfl, by rw [if_neg (by simp [h1, h2])]; exact SetO.none, kK hO⟩))
  | false =>
    refine Zv Z4 (Zv Z4 (Zk (Zk (Zk (Zv Z4 (ZY (ZO (Zc (k := 47) (args := #[]) (.agg ZM) (fun w _ => qW w) ?_))))))))
    exact Zs 0 ⟨b3, ZM, 31⟩ (off := 0) (.agg ZM) (ZN (zC (z6 (ZC 0 ⟨b3, ZM, 31⟩ (off := 0) (.agg ZM) Tryz.results140 (fun w hO => ⟨_, [], rfl, by rw [if_neg (by simp [h1])]; exact SetO.none, kK hO⟩)))))
end
section
theorem own_front {M : List Nat} {W w : World} {x : Blk} {A L : List Blk} (h : Own M W w (A ++ (x :: L))) : Own M W w (x :: A) :=
  (h.sublist ((List.Sublist.refl A).append (List.Sublist.cons_cons x (List.nil_sublist L)))).perm (List.perm_append_comm (l₁ := A) (l₂ := [x]))
theorem own_tl {M : List Nat} {W w : World} {x : Blk} {A : List Blk} (h : Own M W w (x :: A)) : Own M W w A := h.sublist (List.sublist_cons_self x A)
theorem notT_none : notT gD = allT := St.eq not_nil not_nil
theorem sOr_any (A B A' B' : Option Addr) (c d c' d' : Nat) (a b : St) (W : World) (hs : SetIn W W.heap.size A B a) (ht : SetIn W W.heap.size A' B' b) (ca : a.rel.length ≤ c ∧ a.pre.length ≤ d) (cb : b.rel.length ≤ c' ∧ b.pre.length ≤ d') : Calls Tryz.prog 86 #[.agg #[.slice A a.rel.length c, .slice B a.pre.length d], .agg #[.slice A' b.rel.length c', .slice B' b.pre.length d']] W fun e w' => ∃ v' ob', e = .returned v' ∧ SetO v' (if a.may && b.may then orT a b else gD) ob' ∧ Own [] W w' ob' := by
  refine Z2 (n := 8) Tryz.func86 rfl (ZO (Zb (.agg #[.slice A a.rel.length c, .slice B a.pre.length d]) (fun b1 => Zb (.agg #[.slice A' b.rel.length c', .slice B' b.pre.length d']) (fun b2 => Za (.agg ZM) (fun b3 => ZR (Zl 2 ⟨b1, #[.slice A a.rel.length c, .slice B a.pre.length d], 31⟩ (off := 0) (.agg #[.slice A a.rel.length c, .slice B a.pre.length d]) (Zl 1 ⟨b2, #[.slice A' b.rel.length c', .slice B' b.pre.length d'], 31⟩ (off := 0) (.agg #[.slice A' b.rel.length c', .slice B' b.pre.length d']) ?_)))))))
  refine Zr (k := 140) (args := #[.agg #[.slice A a.rel.length c, .slice B a.pre.length d], .agg #[.slice A' b.rel.length c', .slice B' b.pre.length d'], .func (.func 83) #[] #[]]) (fun v' L' => ∃ ob', L' = ob' ++ ([⟨b3, ZM, 31⟩, ⟨b2, #[.slice A' b.rel.length c', .slice B' b.pre.length d'], 31⟩, ⟨b1, #[.slice A a.rel.length c, .slice B a.pre.length d], 31⟩]) ∧ SetO v' (if a.may && b.may then orT a b else gD) ob') (fun w hO => (combOr_any A B A' B' c d c' d' a b w (hs.on hO.below hO.size) (ht.on hO.below hO.size) ca cb).mono fun e w' ⟨v', ob', k1, k2, k3⟩ => ⟨v', _, k1, ⟨ob', rfl, k2⟩, Own.joinN hO k3⟩) (fun v1 L1 hv1 => ?_)
  obtain ⟨o1, rfl, hr1⟩ := hv1
  obtain ⟨V1, U1, c1, d1, rfl⟩ := hr1.form
  exact qJ (L' := ⟨b3, ZM, 31⟩ :: o1) (fun w hO => own_front hO) (Zs 0 ⟨b3, ZM, 31⟩ (off := 0) (.agg #[.slice V1 (((if a.may && b.may then orT a b else gD)).rel.length) c1, .slice U1 (((if a.may && b.may then orT a b else gD)).pre.length) d1]) (ZN (zC (ZC 0 ⟨b3, #[.slice V1 (((if a.may && b.may then orT a b else gD)).rel.length) c1, .slice U1 (((if a.may && b.may then orT a b else gD)).pre.length) d1], 31⟩ (off := 0) (.agg #[.slice V1 (((if a.may && b.may then orT a b else gD)).rel.length) c1, .slice U1 (((if a.may && b.may then orT a b else gD)).pre.length) d1]) Tryz.results86 (fun w hO => ⟨_, o1, rfl, hr1, own_tl hO⟩)))))
theorem sNot_any (A B : Option Addr) (c d : Nat) (a : St) (W : World) (hs : SetIn W W.heap.size A B a) (ca : a.rel.length ≤ c ∧ a.pre.length ≤ d) : Calls Tryz.prog 128 #[.agg #[.slice A a.rel.length c, .slice B a.pre.length d]] W fun e w' => ∃ v' ob', e = .returned v' ∧ SetO v' (if a.may then notT a else gD) ob' ∧ Own [] W w' ob' := by
  refine Z2 (n := 6) Tryz.func128 rfl (ZO (Zb (.agg #[.slice A a.rel.length c, .slice B a.pre.length d]) (fun b1 => Za (.agg ZM) (fun b2 => ZR (Zl 1 ⟨b1, #[.slice A a.rel.length c, .slice B a.pre.length d], 31⟩ (off := 0) (.agg #[.slice A a.rel.length c, .slice B a.pre.length d]) (Zl 1 ⟨b1, #[.slice A a.rel.length c, .slice B a.pre.length d], 31⟩ (off := 0) (.agg #[.slice A a.rel.length c, .slice B a.pre.length d]) (Zr (k := 140) (args := #[.agg #[.slice A a.rel.length c, .slice B a.pre.length d], .agg #[.slice A a.rel.length c, .slice B a.pre.length d], .func (.func 172) #[] #[]]) (fun v' L' => ∃ ob', L' = ob' ++ ([⟨b2, ZM, 31⟩, ⟨b1, #[.slice A a.rel.length c, .slice B a.pre.length d], 31⟩]) ∧ SetO v' (if a.may then notT a else gD) ob') (fun w hO => (combNot_any A B A B c d c d a a w (hs.on hO.below hO.size) (hs.on hO.below hO.size) ca ca).mono fun e w' ⟨v', ob', k1, k2, k3⟩ => ⟨v', _, k1, ⟨ob', rfl, by rw [Bool.and_self] at k2; exact k2⟩, Own.joinN hO k3⟩) (fun v1 L1 hv1 => ?_))))))))
  obtain ⟨o1, rfl, hr1⟩ := hv1
  obtain ⟨V1, U1, c1, d1, rfl⟩ := hr1.form
  exact qJ (L' := ⟨b2, ZM, 31⟩ :: o1) (fun w hO => own_front hO) (Zs 0 ⟨b2, ZM, 31⟩ (off := 0) (.agg #[.slice V1 (((if a.may then notT a else gD)).rel.length) c1, .slice U1 (((if a.may then notT a else gD)).pre.length) d1]) (ZN (zC (ZC 0 ⟨b2, #[.slice V1 (((if a.may then notT a else gD)).rel.length) c1, .slice U1 (((if a.may then notT a else gD)).pre.length) d1], 31⟩ (off := 0) (.agg #[.slice V1 (((if a.may then notT a else gD)).rel.length) c1, .slice U1 (((if a.may then notT a else gD)).pre.length) d1]) Tryz.results128 (fun w hO => ⟨_, o1, rfl, hr1, own_tl hO⟩)))))
theorem sAll_any (W : World) : Calls Tryz.prog 80 #[] W fun e w' => ∃ v' ob', e = .returned v' ∧ SetO v' (allT) ob' ∧ Own [] W w' ob' := by
  refine Z2 (n := 3) Tryz.func80 rfl (ZO (Za (.agg ZM) (fun b1 => ZR (Zc (k := 47) (args := #[]) (.agg ZM) (fun w _ => qW w) (Zr (k := 128) (args := #[.agg ZM]) (fun v' L' => ∃ ob', L' = ob' ++ ([⟨b1, ZM, 31⟩]) ∧ SetO v' (allT) ob') (fun w hO => (sNot_any none none 0 0 gD w (none_in _ _) ⟨Nat.le_refl 0, Nat.le_refl 0⟩).mono fun e w' ⟨v', ob', k1, k2, k3⟩ => ⟨v', _, k1, ⟨ob', rfl, by rw [if_pos none_sf.may, notT_none] at k2; exact k2⟩, Own.joinN hO k3⟩) (fun v1 L1 hv1 => ?_))))))
  obtain ⟨o1, rfl, hr1⟩ := hv1
  obtain ⟨V1, U1, c1, d1, rfl⟩ := hr1.form
  exact qJ (L' := ⟨b1, ZM, 31⟩ :: o1) (fun w hO => own_front hO) (Zs 0 ⟨b1, ZM, 31⟩ (off := 0) (.agg #[.slice V1 ((allT).rel.length) c1, .slice U1 ((allT).pre.length) d1]) (ZN (zC (ZC 0 ⟨b1, #[.slice V1 ((allT).rel.length) c1, .slice U1 ((allT).pre.length) d1], 31⟩ (off := 0) (.agg #[.slice V1 ((allT).rel.length) c1, .slice U1 ((allT).pre.length) d1]) Tryz.results80 (fun w hO => ⟨_, o1, rfl, hr1, own_tl hO⟩)))))
end
section
theorem own_mk5 {M : List Nat} {W w : World} {x y : Blk} {A B : List Blk} (h : Own M W w (A ++ (x :: (B ++ [y])))) : Own M W w (x :: y :: A) :=
  (h.sublist ((List.Sublist.refl A).append (List.Sublist.cons_cons x (List.sublist_append_right B [y])))).perm (List.perm_append_comm (l₁ := A) (l₂ := [x, y]))
theorem own_mk6 {M : List Nat} {W w : World} {x y : Blk} {A B : List Blk} (h : Own M W w (A ++ (x :: y :: B))) : Own M W w (x :: y :: (A ++ B)) :=
  h.perm (by
    have e : A ++ ([x, y] ++ B) = A ++ [x, y] ++ B := (List.append_assoc ..).symm
    show (A ++ ([x, y] ++ B)).Perm ([x, y] ++ (A ++ B))
    rw [e, ← List.append_assoc]
    exact List.Perm.append_right B List.perm_append_comm)
theorem sMake_any (A B : Option Addr) (c d : Nat) (l q : List Sp) (W : World) (hv : Reads yJ W W.heap.size A l) (hu : Reads yJ W W.heap.size B q) (hn : l.length ≤ 100000) (hk : q.length ≤ 100000) (hl : yU l) (hm : yU q) (ca : l.length ≤ c) (cb : q.length ≤ d) :
    Calls Tryz.prog 85 #[.slice A l.length c, .slice B q.length d] W fun e w' => ∃ v' ob', e = .returned (.tuple #[v', .bool (zL l && zL q)]) ∧ SetO v' (if zL l && zL q then ⟨xR l, q⟩ else gD) ob' ∧ Own [] W w' ob' := by
  refine Z2 (n := 52) Tryz.func85 rfl (ZO (Za (.agg ZM) (fun b1 => Zv Z5 (ZN (z7 (ZO (Zv (.slice A l.length c) (Zc (k := 129) (args := #[.slice A l.length c]) (.bool (zL l)) (fun w hO => jV A c l w (hv.on hO.below hO.below.size) (Nat.le_trans hn (by decide)) hl) ?_))))))))
  cases h1 : zL l with
  | true =>
    refine Zv Z5 (Zv Z5 (Zv (.slice B q.length d) (Zc (k := 129) (args := #[.slice B q.length d]) (.bool (zL q)) (fun w hO => jV B d q w (hu.on hO.below hO.below.size) (Nat.le_trans hk (by decide)) hm) ?_)))
    cases h2 : zL q with
    | true =>
      refine Zv Z5 (Zv Z5 (ZX (ZB (ZO (Zv (.slice none 0 0) (zO (zB ?_)))))))
      refine z7 (ZO (Zv (.slice A l.length c) (Zv (.int .i64 (l.length : Int)) (Zv (.int .i64 0) (ZN (zM (gW (L' := [] ++ [⟨b1, ZM, 31⟩]) rfl (yN (fun L f m => ∃ (k : Nat) (u : Value) (acc : List Sp) (ob : List Blk) (j : Nat → Value), (MkI l k u acc ob) ∧ L = ob ++ [⟨b1, ZM, 31⟩] ∧ f = xZ j [(1, .slice B q.length d), (4, Zp b1 0), (6, u), (19, .slice A l.length c), (20, .int .i64 (l.length : Int)), (21, .int .i64 (k : Int))] ∧ m = l.length - k) (l.length - 0) ⟨0, _, [], [], _, ⟨Nat.zero_le _, Sl.nil _ _, rfl⟩, rfl, ZU, rfl⟩ ?_))))))))
      rintro L f m ⟨k, u, acc, ob, j, hrel, rfl, rfl, rfl⟩
      have hkl := hrel.le
      refine z7 (zA ?_)
      by_cases h3 : (k : Int) < (l.length : Int)
      · have hlk : k < l.length := by omega
        obtain ⟨b, off, hA, hlt, hcell⟩ := hv (by omega)
        obtain ⟨s, he⟩ : ∃ s, l[k] = s := ⟨_, rfl⟩
        have hsk : s.short := he ▸ hl _ (List.getElem_mem _)
        have hsm : s.lo.may = true ∧ s.hi.may = true := y9 (he ▸ x8 h1 _ (List.getElem_mem _))
        obtain ⟨x, hx⟩ : ∃ x, xX s.lo = x := ⟨_, rfl⟩
        obtain ⟨y, hy⟩ : ∃ y, xX s.hi = y := ⟨_, rfl⟩
        have hxS : x.short := hx ▸ dJ hsk.1
        have hyS : y.short := hy ▸ dJ hsk.2
        refine Zg h3 (ZN (z7 (Zt (ZB (z7 (zM (ZO (zV (Zp b (off + k * 14)) (by kernel_rfl) (ZA (b := b) (off := off) (c := c) (n := l.length) (k := .i64) (j := (k : Int)) (e := 80) (sz := 14) hA) ?_))))))))
        refine Zo (yO s) (a := ⟨b, off + k * 14, none⟩) (fun w hO => zX zY (fun j u h => (hO.below.cell (p := ⟨b, off + j, none⟩) hlt).trans (hcell j u h)) k 0 hlk (by omega) _ (by rw [he]; kernel_rfl)) (Za (.agg Z0) (fun b2 => Zs 0 ⟨b2, Z0, 80⟩ (off := 0) (yO s) (ZN (z7 (tA 7 (by kernel_rfl) (by kernel_rfl) (by kernel_rfl) ?_)))))
        simp only [List.take_succ_cons, List.take_zero, List.drop_succ_cons, List.drop_zero]
        refine Zw (Zp b2 0) (Zm 0 ⟨b2, (yO s).cells, 80⟩ (off := 0) (.agg (ZJ s.lo)) (Zq (k := 138) (args := #[.agg (ZJ s.lo)]) (z8 x) (fun w _ => vR (by rw [hx]) (tV s.lo w hsk.1 hsm.1)) (Zw (Zp b2 7) (Zm 0 ⟨b2, (yO s).cells, 80⟩ (off := 7) (.agg (ZJ s.hi)) (Zq (k := 138) (args := #[.agg (ZJ s.hi)]) (z8 y) (fun w _ => vR (by rw [hy]) (tV s.hi w hsk.2 hsm.2)) (Zw (.agg (ZJ2 x y)) (kP (Zs 0 ⟨b2, (yO s).cells, 80⟩ (off := 0) (.agg (ZJ2 x y)) (ZN (z7 ?_))))))))))
        refine zA (Zl 0 ⟨b2, (ZJ2 x y), 80⟩ (off := 0) (.agg (ZJ2 x y)) (Zc (k := 139) (args := #[.agg (ZJ2 x y)]) (.bool ((⟨x, y⟩ : Sp).may)) (fun w _ => wW ⟨x, y⟩ w ⟨hxS, hyS⟩) (zO (zB ?_))))
        cases h4 : (⟨x, y⟩ : Sp).may with
        | true =>
          refine Zt (zA (Zv (u) (Zl 0 ⟨b2, (ZJ2 x y), 80⟩ (off := 0) (.agg (ZJ2 x y)) (vC 80 (ZJ2 x y) (by kernel_rfl) rfl (fun _ => by kernel_rfl) (fun b3 => ?_)))))
          obtain ⟨i0, z0, e1, e2, e3, e4, e5⟩ := kO
          have hln : acc.length ≤ k := by rw [hrel.eq]; exact uZ l k
          refine kB (L' := [⟨b3, (ZJ2 x y), 80⟩, ⟨b2, (ZJ2 x y), 80⟩] ++ ob ++ [⟨b1, ZM, 31⟩]) (by rw [List.append_assoc]; kernel_rfl) (gB (sz := 14) (by kernel_rfl) rfl Tryz.underlying29 e1 e2 e3 e4 (by kernel_rfl) hrel.sl (a := ⟨b3, 0, none⟩) (m := 1) (c := 1) (news := yJ ⟨x, y⟩) (by kernel_rfl) rfl (fun w hO j u hj => ?_) (xM _) (by unfold maxLen; omega) (by rw [e5]; omega) (fun u2 ob2 hu2 => ?_))
          · rw [yQ, cell_of_row w b3 (0 + j) (yJ ⟨x, y⟩).toArray 80 _ (hO.held ⟨b3, (yJ ⟨x, y⟩).toArray, 80⟩ (List.mem_append_left _ (List.mem_append_left _ (List.mem_cons_self ..))))]; simpa using hj
          exact Zv (u2) (zO (zP (zB (zA (Zu (k := .i64) (((k + 1 : Nat) : Int)) (IntWalk.i64_in _ (by omega)) (Zv (.int .i64 ((k + 1 : Nat) : Int)) (zO (xB (L' := ob2 ++ [⟨b1, ZM, 31⟩]) (fun w hO => t7 hO) (zS (m' := l.length - (k + 1)) (by omega) ⟨k + 1, u2, _, ob2, _, hrel.grow hlk he hx hy (by assumption) hu2, rfl, ZU, rfl⟩)))))))))
        | false =>
          exact Zf (yP (zP (zB (zA (Zu (k := .i64) (((k + 1 : Nat) : Int)) (IntWalk.i64_in _ (by omega)) (Zv (.int .i64 ((k + 1 : Nat) : Int)) (zO (xB (L' := ob ++ [⟨b1, ZM, 31⟩]) (fun w hO => Own.sub [_] hO) (zS (m' := l.length - (k + 1)) (by omega) ⟨k + 1, u, acc, ob, _, hrel.keep hlk he hx hy (by assumption), rfl, ZU, rfl⟩)))))))))
      refine Zh h3 (ZN (z7 (Zf (y7 (zF (zN (zJ (zB (z7 (zA ?_))))))))))
      refine Za (.agg ZM) (fun b2 => ZR (Zv (u) ?_))
      have hke : acc = (l.map jO).filter (·.may) := by have h := hrel.eq; unfold mX at h; rwa [List.take_of_length_le (by omega)] at h
      have hall : xO acc = true := allMay_mem.2 (by rw [hrel.eq]; exact turnL_may l k)
      have hsh : yU acc := fun s hs => pR (allMay_mem.1 hall s hs)
      have hln : acc.length ≤ k := by rw [hrel.eq]; exact uZ l k
      have hsl := hrel.sl
      clear hrel
      obtain ⟨C, cc, rfl⟩ := hsl.form
      refine Zr (k := 136) (args := #[.slice C acc.length cc]) (fun v' L' => ∃ mv ob', v' = .tuple #[mv, .bool true] ∧ L' = ob' ++ (⟨b2, ZM, 31⟩ :: (ob ++ ([⟨b1, ZM, 31⟩]))) ∧ SlS mv (xR l) ob') (fun w hO => (mJ C cc acc w (Sl.reads hsl rfl hO (fun x hx => by simp [hx])) (by omega) hsh).mono fun e w' ⟨v', ob', k1, k2, k3⟩ => ⟨_, _, k1, ⟨v', ob', by rw [hall], rfl, by rw [hall, if_pos rfl, hke] at k2; exact k2⟩, Own.joinN hO k3⟩) (fun tv L2 hv2 => ?_)
      obtain ⟨v2, o2, rfl, rfl, hr2⟩ := hv2
      obtain ⟨V2, c2, rfl⟩ := hr2.form
      refine qJ (L' := ⟨b2, ZM, 31⟩ :: ⟨b1, ZM, 31⟩ :: o2) (fun w hO => own_mk5 hO) (Zv (.tuple #[.slice V2 ((xR l).length) c2, .bool true]) (Zv (.slice V2 ((xR l).length) c2) (Zv Z4 (Zv (Zp b2 0) (Zs 0 ⟨b2, ZM, 31⟩ (off := 0) (.slice V2 ((xR l).length) c2) (ZR (Zv (.slice B q.length d) ?_)))))))
      have hqa : xO q = true := allMay_mem.2 (x8 h2)
      refine Zr (k := 136) (args := #[.slice B q.length d]) (fun v' L' => ∃ mv ob', v' = .tuple #[mv, .bool true] ∧ L' = ob' ++ (⟨b2, #[.slice V2 ((xR l).length) c2, .slice none 0 0], 31⟩ :: (⟨b1, ZM, 31⟩ :: (o2))) ∧ SlS mv q ob') (fun w hO => (mJ B d q w (hu.on hO.below hO.below.size) (Nat.le_trans hk (by decide)) hm).mono fun e w' ⟨v', ob', k1, k2, k3⟩ => ⟨_, _, k1, ⟨v', ob', by rw [hqa], rfl, by rw [hqa, if_pos rfl, make_self h2] at k2; exact k2⟩, Own.joinN hO k3⟩) (fun tv L3 hv3 => ?_)
      obtain ⟨v3, o3, rfl, rfl, hr3⟩ := hv3
      obtain ⟨V3, c3, rfl⟩ := hr3.form
      refine qJ (L' := ⟨b2, #[.slice V2 ((xR l).length) c2, .slice none 0 0], 31⟩ :: ⟨b1, ZM, 31⟩ :: (o3 ++ o2)) (fun w hO => own_mk6 hO) (Zv (.tuple #[.slice V3 q.length c3, .bool true]) (Zv (.slice V3 q.length c3) (Zv Z4 (Zv (Zp b2 1) (Zs 0 ⟨b2, #[.slice V2 ((xR l).length) c2, .slice none 0 0], 31⟩ (off := 1) (.slice V3 q.length c3) (ZR (Zl 0 ⟨b2, #[.slice V2 ((xR l).length) c2, .slice V3 q.length c3], 31⟩ (off := 0) (.agg #[.slice V2 ((xR l).length) c2, .slice V3 q.length c3]) (Zs 1 ⟨b1, ZM, 31⟩ (off := 0) (.agg #[.slice V2 ((xR l).length) c2, .slice V3 q.length c3]) ?_))))))))
      exact Zv Z4 (ZN (zC (ZD 1 ⟨b1, #[.slice V2 ((xR l).length) c2, .slice V3 q.length c3], 31⟩ (off := 0) (.agg #[.slice V2 ((xR l).length) c2, .slice V3 q.length c3]) Z4 Tryz.results85 (fun w hO => ⟨_, _, rfl, by rw [if_pos (by simp [h1, h2])]; exact ⟨_, _, o2, o3, rfl, rfl, hr2, hr3⟩, own_tl (own_tl hO)⟩))))
    | false =>
      refine Zv Z4 (Zv Z4 (ZY (ZO (Zc (k := 47) (args := #[]) (.agg ZM) (fun w _ => qW w) (Zs 0 ⟨b1, ZM, 31⟩ (off := 0) (.agg ZM) (Zv Z5 (zO (zB ?_))))))))
      exact zC (z6 (ZD 0 ⟨b1, ZM, 31⟩ (off := 0) (.agg ZM) Z5 Tryz.results85 (fun w hO => ⟨_, [], by first | rfl | (simp [h1, h2]; done), by rw [if_neg (by simp [h1, h2])]; exact SetO.none, kK hO⟩)))
  | false =>
    refine Zv Z4 (Zv Z4 (Zk (Zk (Zk (Zv Z4 (ZY (ZO (Zc (k := 47) (args := #[]) (.agg ZM) (fun w _ => qW w) ?_))))))))
    exact Zs 0 ⟨b1, ZM, 31⟩ (off := 0) (.agg ZM) (Zv Z5 (ZN (zC (z6 (ZD 0 ⟨b1, ZM, 31⟩ (off := 0) (.agg ZM) Z5 Tryz.results85 (fun w hO => ⟨_, [], by first | rfl | (simp [h1]; done), by rw [if_neg (by simp [h1])]; exact SetO.none, kK hO⟩))))))
end
section
section
variable {M : List Nat} {W w : World} {x y z : Blk} {A B C D E F G : List Blk}
theorem own_ev1 (h : Own M W w (A ++ (B ++ (C ++ (D ++ (x :: (E ++ (F ++ [y])))))))) : Own M W w (C ++ (A ++ [y])) := by
  have h0 : [y].Sublist (D ++ (x :: (E ++ (F ++ [y])))) := (((List.sublist_append_right F [y]).trans (List.sublist_append_right E _)).trans (List.sublist_cons_self x _)).trans (List.sublist_append_right D _)
  have h1 : Own M W w (A ++ (C ++ [y])) := h.sublist (List.Sublist.append (List.Sublist.refl A) ((List.Sublist.append (List.Sublist.refl C) h0).trans (List.sublist_append_right B _)))
  exact h1.perm (by rw [← List.append_assoc, ← List.append_assoc]; exact List.Perm.append_right [y] List.perm_append_comm)
theorem own_ev2 (h : Own M W w (x :: (A ++ (B ++ (E ++ (F ++ [y])))))) : Own M W w (x :: y :: A) := by
  have h0 : [y].Sublist (B ++ (E ++ (F ++ [y]))) := ((List.sublist_append_right F [y]).trans (List.sublist_append_right E _)).trans (List.sublist_append_right B _)
  have h1 : Own M W w (x :: (A ++ [y])) := h.sublist (List.Sublist.cons_cons x (List.Sublist.append (List.Sublist.refl A) h0))
  exact h1.perm (List.Perm.cons x List.perm_append_comm)
theorem own_so1 (h : Own M W w (A ++ (x :: y :: z :: B))) : Own M W w (y :: z :: A) := by
  have h1 : Own M W w (A ++ [y, z]) := h.sublist (List.Sublist.append (List.Sublist.refl A) ((List.Sublist.cons_cons y (List.Sublist.cons_cons z (List.nil_sublist B))).trans (List.sublist_cons_self x _)))
  exact h1.perm List.perm_append_comm
theorem own_st1 (h : Own M W w ((x :: (A ++ [y, z])) ++ B ++ C)) : Own M W w (y :: z :: (B ++ (A ++ C))) := by
  have h1 : Own M W w (A ++ ([y, z] ++ (B ++ C))) := by
    have h2 : Own M W w ([x] ++ (A ++ ([y, z] ++ (B ++ C)))) := by simpa [List.append_assoc] using h
    exact h2.sublist (List.sublist_append_right [x] _)
  refine h1.perm ((List.perm_append_comm_assoc A [y, z] (B ++ C)).trans ?_)
  show ([y, z] ++ (A ++ (B ++ C))).Perm ([y, z] ++ (B ++ (A ++ C)))
  exact List.Perm.append_left _ (List.perm_append_comm_assoc A B C)
theorem own_st2 (h : Own M W w (A ++ (x :: y :: B))) : Own M W w (x :: A) := by
  have h1 : Own M W w (A ++ [x]) := h.sublist (List.Sublist.append (List.Sublist.refl A) (List.Sublist.cons_cons x (List.nil_sublist _)))
  exact h1.perm List.perm_append_comm
end
theorem gmake_al (A B : Option Addr) (c d : Nat) (a : List Co) (W : World) {n : Nat} (hv : Reads yJ W W.heap.size A (yT a)) (hu : Reads yJ W W.heap.size B (uP (yT a) (yS a))) (h1 : RF (yT a) 4000) (h2 : RF (uP (yT a) (yS a)) n) (ca : (yT a).length ≤ c) (cb : (uP (yT a) (yS a)).length ≤ d) (hn : n ≤ 100000 := by decide) :
    Calls Tryz.prog 85 #[.slice A (yT a).length c, .slice B (uP (yT a) (yS a)).length d] W fun e w' => ∃ v' ob', e = .returned (.tuple #[v', .bool true]) ∧ SetO v' (yB a) ob' ∧ Own [] W w' ob' :=
  (sMake_any A B c d _ _ W hv hu (Nat.le_trans h1.len (by decide)) (Nat.le_trans h2.len hn) h1.short h2.short ca cb).mono fun e w' ⟨v', ob', q1, q2, q3⟩ => by
    rw [h1.may, h2.may] at q1 q2
    exact ⟨v', ob', q1, q2, q3⟩
theorem gevery_any (A : Option Addr) (cap : Nat) (a : List Co) (W : World) (hv : Reads coC W W.heap.size A a) (hn : a.length ≤ 1000) (hsh : ShortA a) : Calls Tryz.prog 48 #[.slice A a.length cap] W fun e w' => ∃ v' ob', e = .returned v' ∧ SetO v' (yB a) ob' ∧ Own [] W w' ob' := by
  refine Z2 (n := 37) Tryz.func48 rfl (ZO (Za (.agg ZM) (fun b1 => ZR (Zr (k := 80) (args := #[]) (fun v' L' => ∃ ob', L' = ob' ++ ([⟨b1, ZM, 31⟩]) ∧ SetO v' allT ob') (fun w hO => (sAll_any w).mono fun e w' ⟨v', ob', k1, k2, k3⟩ => ⟨v', _, k1, ⟨ob', rfl, k2⟩, Own.joinN hO k3⟩) (fun v0 Lx1 hvx1 => ?_)))))
  obtain ⟨o0, rfl, h0⟩ := hvx1
  obtain ⟨_, _, p1, p2, rfl, rfl, hq1, hq2⟩ := h0
  obtain ⟨V0, c0, rfl⟩ := hq1.form
  obtain ⟨U0, d0, rfl⟩ := hq2.form
  refine qJ (L' := p1 ++ ([⟨b1, ZM, 31⟩])) (fun w hO => own_tail hO) (Zv (.slice V0 allT.rel.length c0) (Zc (k := 47) (args := #[]) (.agg ZM) (fun w _ => qW w) (Zv (.slice none 0 0) (Zv (.slice V0 allT.rel.length c0) (Zv (.slice none 0 0) (ZN (z7 (ZO (Zv (.slice A a.length cap) ?_)))))))))
  refine Zv (.int .i64 (a.length : Int)) (Zv (.int .i64 0) (ZN (zM (gW (L' := p1 ++ ([] ++ [⟨b1, ZM, 31⟩])) (by simp) (yN (fun L f m => ∃ (k : Nat) (V1 : Option Addr) (c1 : Nat) (o1 : List Blk) (V2 : Option Addr) (c2 : Nat) (o2 : List Blk) (j : Nat → Value), (k ≤ a.length ∧ SlS (.slice V1 (yT (a.take k)).length c1) (yT (a.take k)) o1 ∧ SlS (.slice V2 (yS (a.take k)).length c2) (yS (a.take k)) o2) ∧ L = o1 ++ (o2 ++ [⟨b1, ZM, 31⟩]) ∧ f = xZ j [(0, .slice A a.length cap), (2, Zp b1 0), (3, .slice V1 (yT (a.take k)).length c1), (4, .slice V2 (yS (a.take k)).length c2), (13, .slice A a.length cap), (14, .int .i64 (a.length : Int)), (15, .int .i64 (k : Int))] ∧ m = a.length - k) (a.length - 0) ⟨0, _, _, _, none, 0, [], _, ⟨Nat.zero_le _, hq1, Sl.nil _ _⟩, rfl, ZU, rfl⟩ ?_)))))
  rintro L f m ⟨k, V1, c1, o1, V2, c2, o2, j, hrel, rfl, rfl, rfl⟩
  obtain ⟨hkl, gq1, gq2⟩ := hrel
  refine z7 (zA ?_)
  by_cases h1 : (k : Int) < (a.length : Int)
  · have hk : k < a.length := by omega
    obtain ⟨bp, off, hA, hlt, hcell⟩ := hv (by omega)
    obtain ⟨c, hc⟩ : ∃ c, a[k] = c := ⟨_, rfl⟩
    have hcS : c.short := hsh c (hc ▸ List.getElem_mem hk)
    refine Zg h1 (ZN (z7 (Zt (ZB (z7 (zM (ZO (zV (Zp bp (off + k * 7)) (by kernel_rfl) (ZA (b := bp) (off := off) (c := cap) (n := a.length) (k := .i64) (j := (k : Int)) (e := 51) (sz := 7) hA) ?_))))))))
    refine Zo (coV c) (a := ⟨bp, off + k * 7, none⟩) (fun w hO => zX j4 (fun j u h => (hO.below.cell (p := ⟨bp, off + j, none⟩) hlt).trans (hcell j u h)) k 0 hk (by omega) _ (by rw [hc]; kernel_rfl)) (Za (.agg Z8) (fun b2 => Zs 0 ⟨b2, Z8, 51⟩ (off := 0) (coV c) (ZR (Zv (.slice V1 ((yT (a.take k)).length) c1) (Zl 0 ⟨b2, (coV c).cells, 51⟩ (off := 0) (coV c) (Zr (k := 82) (args := #[coV c]) (fun v' L' => ∃ ob', L' = ob' ++ (⟨b2, (coV c).cells, 51⟩ :: (o1 ++ (o2 ++ ([⟨b1, ZM, 31⟩])))) ∧ SlS v' c.region ob') (fun w hO => (cRegion_any c w hcS).mono fun e w' ⟨v', ob', k1, k2, k3⟩ => ⟨v', _, k1, ⟨ob', rfl, k2⟩, Own.joinN hO k3⟩) (fun vr Lx2 hvx2 => ?_)))))))
    obtain ⟨oR, rfl, hR⟩ := hvx2
    obtain ⟨VR, cR, rfl⟩ := hR.form
    refine Zr (k := 81) (args := #[.slice V1 ((yT (a.take k)).length) c1, .slice VR c.region.length cR]) (fun v' L' => ∃ ob', L' = ob' ++ (oR ++ (⟨b2, (coV c).cells, 51⟩ :: (o1 ++ (o2 ++ ([⟨b1, ZM, 31⟩]))))) ∧ SlS v' (yT (a.take (k + 1))) ob') (fun w hO => (and4_any V1 VR c1 cR (yT (a.take k)) c.region w (Sl.reads gq1 rfl hO (fun x hx => by simp [hx])) (Sl.reads hR rfl hO (fun x hx => by simp [hx])) (Nat.le_trans (gV a k hn).len (by decide)) (Nat.le_trans (vN c).len (by decide)) (gV a k hn).short (vN c).short (wX gq1) (wX hR)).mono fun e w' ⟨v', ob', k1, k2, k3⟩ => ⟨v', _, k1, ⟨ob', rfl, by rw [if_pos (by rw [(gV a k hn).may, (vN c).may]; rfl), ← altRel_next hk hc] at k2; exact k2⟩, Own.joinN hO k3⟩) (fun va Lx3 hvx3 => ?_)
    obtain ⟨oA, rfl, hA2⟩ := hvx3
    obtain ⟨VA, cA, rfl⟩ := hA2.form
    refine Zv (.slice VA ((yT (a.take (k + 1))).length) cA) (ZN (zA (Zv (.slice V2 ((yS (a.take k)).length) c2) (pT ⟨b2, (coV c).cells, 51⟩ (off := 0) (coV c) (by kernel_rfl) rfl (by simp) (by kernel_rfl) (by kernel_rfl) (Zr (k := 84) (args := #[coV c]) (fun v' L' => ∃ ob', L' = ob' ++ (oA ++ (oR ++ (⟨b2, (coV c).cells, 51⟩ :: (o1 ++ (o2 ++ ([⟨b1, ZM, 31⟩])))))) ∧ SlS v' c.zone ob') (fun w hO => (cZone_any c w hcS).mono fun e w' ⟨v', ob', k1, k2, k3⟩ => ⟨v', _, k1, ⟨ob', rfl, k2⟩, Own.joinN hO k3⟩) (fun vz Lx4 hvx4 => ?_))))))
    obtain ⟨oZ, rfl, hZ⟩ := hvx4
    obtain ⟨VZ, cZ, rfl⟩ := hZ.form
    refine Zr (k := 83) (args := #[.slice V2 ((yS (a.take k)).length) c2, .slice VZ c.zone.length cZ]) (fun v' L' => ∃ ob', L' = ob' ++ (oZ ++ (oA ++ (oR ++ (⟨b2, (coV c).cells, 51⟩ :: (o1 ++ (o2 ++ ([⟨b1, ZM, 31⟩]))))))) ∧ SlS v' (yS (a.take (k + 1))) ob') (fun w hO => (or4_any V2 VZ c2 cZ (yS (a.take k)) c.zone w (Sl.reads gq2 rfl hO (fun x hx => by simp [hx])) (Sl.reads hZ rfl hO (fun x hx => by simp [hx])) (Nat.le_trans (gM a k hn).len (by decide)) (Nat.le_trans (uS c).len (by decide)) (gM a k hn).short (uS c).short).mono fun e w' ⟨v', ob', k1, k2, k3⟩ => ⟨v', _, k1, ⟨ob', rfl, by rw [if_pos (by rw [(gM a k hn).may, (uS c).may]; rfl), ← tT hk hc] at k2; exact k2⟩, Own.joinN hO k3⟩) (fun vo Lx5 hvx5 => ?_)
    obtain ⟨oO, rfl, hO2⟩ := hvx5
    obtain ⟨VO, cO, rfl⟩ := hO2.form
    exact Zv (.slice VO ((yS (a.take (k + 1))).length) cO) (zO (zP (zB (zA (Zu (k := .i64) (((k + 1 : Nat) : Int)) (IntWalk.i64_in _ (by omega)) (Zv (.int .i64 ((k + 1 : Nat) : Int)) (zO (xB (fun w hO => own_ev1 hO) (zS (m' := a.length - (k + 1)) (by omega) ⟨k + 1, VA, cA, oA, VO, cO, oO, _, ⟨by omega, hA2, hO2⟩, rfl, ZU, rfl⟩)))))))))
  have htk : a.take k = a := List.take_of_length_le (by omega)
  have hRL := gV a k hn
  have hZL := gM a k hn
  have hAZ := hRL.and1 hZL
  refine Zh h1 (ZN (z7 (Zf (y7 (zF (zN (zJ (zB (z7 (zA ?_))))))))))
  refine Zv (.slice V1 ((yT (a.take k)).length) c1) (Zv (.slice V1 ((yT (a.take k)).length) c1) (Zv (.slice V2 ((yS (a.take k)).length) c2) (Zr (k := 81) (args := #[.slice V1 ((yT (a.take k)).length) c1, .slice V2 ((yS (a.take k)).length) c2]) (fun v' L' => ∃ ob', L' = ob' ++ (o1 ++ (o2 ++ ([⟨b1, ZM, 31⟩]))) ∧ SlS v' (uP (yT (a.take k)) (yS (a.take k))) ob') (fun w hO => (and4_any V1 V2 c1 c2 (yT (a.take k)) (yS (a.take k)) w (Sl.reads gq1 rfl hO (fun x hx => by simp [hx])) (Sl.reads gq2 rfl hO (fun x hx => by simp [hx])) (Nat.le_trans hRL.len (by decide)) (Nat.le_trans hZL.len (by decide)) hRL.short hZL.short (wX gq1) (wX gq2)).mono fun e w' ⟨v', ob', k1, k2, k3⟩ => ⟨v', _, k1, ⟨ob', rfl, by rw [if_pos (by rw [hRL.may, hZL.may]; rfl)] at k2; exact k2⟩, Own.joinN hO k3⟩) (fun vb Lx6 hvx6 => ?_))))
  obtain ⟨oB, rfl, hB⟩ := hvx6
  obtain ⟨VB, cB, rfl⟩ := hB.form
  refine Zr (k := 85) (args := #[.slice V1 ((yT (a.take k)).length) c1, .slice VB ((uP (yT (a.take k)) (yS (a.take k))).length) cB]) (fun v' L' => ∃ ob', L' = ob' ++ (oB ++ (o1 ++ (o2 ++ ([⟨b1, ZM, 31⟩])))) ∧ ∃ mv, v' = .tuple #[mv, .bool true] ∧ SetO mv (yB (a.take k)) ob') (fun w hO => (gmake_al V1 VB c1 cB (a.take k) w (Sl.reads gq1 rfl hO (fun x hx => by simp [hx])) (Sl.reads hB rfl hO (fun x hx => by simp [hx])) hRL hAZ (wX gq1) (wX hB)).mono fun e w' ⟨v', ob', k1, k2, k3⟩ => ⟨Value.tuple #[v', .bool true], _, k1, ⟨ob', rfl, ⟨v', rfl, k2⟩⟩, Own.joinN hO k3⟩) (fun tv Lx7 hvx7 => ?_)
  obtain ⟨oM, rfl, hM0⟩ := hvx7
  obtain ⟨mv, rfl, hM⟩ := hM0
  obtain ⟨VM, UM, cM, dM, rfl⟩ := hM.form
  refine Zv (.tuple #[.agg #[.slice VM ((yB (a.take k)).rel.length) cM, .slice UM ((yB (a.take k)).pre.length) dM], .bool true]) (Zv (.agg #[.slice VM ((yB (a.take k)).rel.length) cM, .slice UM ((yB (a.take k)).pre.length) dM]) (Zv Z4 (Za (.agg ZM) (fun b2 => Zs 0 ⟨b2, ZM, 31⟩ (off := 0) (.agg #[.slice VM ((yB (a.take k)).rel.length) cM, .slice UM ((yB (a.take k)).pre.length) dM]) (Zv Z4 (ZR (Zl 0 ⟨b2, #[.slice VM ((yB (a.take k)).rel.length) cM, .slice UM ((yB (a.take k)).pre.length) dM], 31⟩ (off := 0) (.agg #[.slice VM ((yB (a.take k)).rel.length) cM, .slice UM ((yB (a.take k)).pre.length) dM]) (qJ (L' := ⟨b2, #[.slice VM ((yB (a.take k)).rel.length) cM, .slice UM ((yB (a.take k)).pre.length) dM], 31⟩ :: (⟨b1, ZM, 31⟩ :: (oM))) (fun w hO => own_ev2 hO) ?_))))))))
  exact Zs 1 ⟨b1, ZM, 31⟩ (off := 0) (.agg #[.slice VM ((yB (a.take k)).rel.length) cM, .slice UM ((yB (a.take k)).pre.length) dM]) (ZN (zC (ZC 1 ⟨b1, #[.slice VM ((yB (a.take k)).rel.length) cM, .slice UM ((yB (a.take k)).pre.length) dM], 31⟩ (off := 0) (.agg #[.slice VM ((yB (a.take k)).rel.length) cM, .slice UM ((yB (a.take k)).pre.length) dM]) Tryz.results48 (fun w hO => ⟨_, oM, rfl, by rw [htk] at hM ⊢; exact hM, Own.sub [_, _] hO⟩))))
theorem gsome_any (A : Option Addr) (cap : Nat) (xs : List Se) (r : List (List Co)) (W : World) (hv : SsIn W W.heap.size A xs) (hr : xs.map Se.s = r.map yB) (hf : fewR r = true) : Calls Tryz.prog 49 #[.slice A xs.length cap] W fun e w' => ∃ v' ob', e = .returned v' ∧ SetO v' (xF r) ob' ∧ Own [] W w' ob' := by
  have hn : xs.length = r.length := by have q := congrArg List.length hr; rwa [List.length_map, List.length_map] at q
  have hr6 := (fewR.facts hf).1
  have hfin := fin_alts hf
  refine Z2 (n := 18) Tryz.func49 rfl (ZO (Za (.agg ZM) (fun b1 => ZR (Zc (k := 47) (args := #[]) (.agg ZM) (fun w _ => qW w) (Za (.agg ZM) (fun b2 => Zs 0 ⟨b2, ZM, 31⟩ (off := 0) (.agg ZM) (zO ?_)))))))
  refine zB (z7 (ZO (Zv (.slice A xs.length cap) (Zv (.int .i64 (xs.length : Int)) (Zv (.int .i64 0) (ZN (zM (gW (L' := ⟨b2, ZM, 31⟩ :: ⟨b1, ZM, 31⟩ :: []) rfl (yN (fun L f m => ∃ (k : Nat) (V : Option Addr) (U : Option Addr) (c : Nat) (d : Nat) (ob : List Blk) (j : Nat → Value), (k ≤ xs.length ∧ SetO (.agg #[.slice V (xF (r.take k)).rel.length c, .slice U (xF (r.take k)).pre.length d]) (xF (r.take k)) ob) ∧ L = ⟨b2, #[.slice V ((xF (r.take k)).rel.length) c, .slice U ((xF (r.take k)).pre.length) d], 31⟩ :: ⟨b1, ZM, 31⟩ :: ob ∧ f = xZ j [(2, Zp b1 0), (3, Zp b2 0), (7, .slice A xs.length cap), (8, .int .i64 (xs.length : Int)), (9, .int .i64 (k : Int))] ∧ m = xs.length - k) (xs.length - 0) ⟨0, none, none, 0, 0, [], _, ⟨Nat.zero_le _, SetO.none⟩, rfl, ZU, rfl⟩ ?_)))))))))
  rintro L f m ⟨k, V, U, c, d, ob, j, hrel, rfl, rfl, rfl⟩
  obtain ⟨hkl, hac⟩ := hrel
  refine z7 (zA ?_)
  by_cases h1 : (k : Int) < (xs.length : Int)
  · have hk : k < xs.length := by omega
    obtain ⟨bp, off, hA, hlt, hcell⟩ := hv.top (by omega)
    obtain ⟨x, hx⟩ : ∃ x, xs[k] = x := ⟨_, rfl⟩
    have hxm : x ∈ xs := hx ▸ List.getElem_mem hk
    have hxf : SF x.s 198 := hfin x.s (hr ▸ List.mem_map.2 ⟨x, hxm, rfl⟩)
    have hxr : yB (r[k]'(by omega)) = x.s := se_at hr hk (by omega) hx
    refine Zg h1 (ZN (z7 (Zt (ZB (z7 (zM (ZO (zV (Zp bp (off + k * 2)) (by kernel_rfl) (ZA (b := bp) (off := off) (c := cap) (n := xs.length) (k := .i64) (j := (k : Int)) (e := 31) (sz := 2) hA) ?_))))))))
    refine Zo (.agg #[.slice x.A x.s.rel.length x.c, .slice x.B x.s.pre.length x.d]) (a := ⟨bp, off + k * 2, none⟩) (fun w hO => zX seC_len (fun j u h => (hO.below.cell (p := ⟨bp, off + j, none⟩) hlt).trans (hcell j u h)) k 0 hk (by omega) _ (by rw [hx]; kernel_rfl)) (Za (.agg ZM) (fun b3 => Zs 0 ⟨b3, ZM, 31⟩ (off := 0) (.agg #[.slice x.A x.s.rel.length x.c, .slice x.B x.s.pre.length x.d]) (ZN (zA (Zl 1 ⟨b2, #[.slice V ((xF (r.take k)).rel.length) c, .slice U ((xF (r.take k)).pre.length) d], 31⟩ (off := 0) (.agg #[.slice V ((xF (r.take k)).rel.length) c, .slice U ((xF (r.take k)).pre.length) d]) (Zl 0 ⟨b3, #[.slice x.A x.s.rel.length x.c, .slice x.B x.s.pre.length x.d], 31⟩ (off := 0) (.agg #[.slice x.A x.s.rel.length x.c, .slice x.B x.s.pre.length x.d]) (Zr (k := 86) (args := #[.agg #[.slice V ((xF (r.take k)).rel.length) c, .slice U ((xF (r.take k)).pre.length) d], .agg #[.slice x.A x.s.rel.length x.c, .slice x.B x.s.pre.length x.d]]) (fun v' L' => ∃ ob', L' = ob' ++ (⟨b3, #[.slice x.A x.s.rel.length x.c, .slice x.B x.s.pre.length x.d], 31⟩ :: (⟨b2, #[.slice V ((xF (r.take k)).rel.length) c, .slice U ((xF (r.take k)).pre.length) d], 31⟩ :: (⟨b1, ZM, 31⟩ :: (ob)))) ∧ SetO v' (xF (r.take (k + 1))) ob') (fun w hO => (sOr_any V U x.A x.B c d x.c x.d (xF (r.take k)) x.s w (SetO.inn hac hO (fun x hx => by simp [hx]) (orAll_le hf k) (by decide)) ((hv.each x hxm).on hO.below hO.below.size) hac.caps (hv.caps x hxm)).mono fun e w' ⟨v', ob', k1, k2, k3⟩ => ⟨v', _, k1, ⟨ob', rfl, by rw [if_pos (by rw [(orAll_le hf k).may, hxf.may]; rfl), ← hxr, ← nQ (by omega) rfl] at k2; exact k2⟩, Own.joinN hO k3⟩) (fun vo Lx1 hvx1 => ?_))))))))
    obtain ⟨oO, rfl, hO2⟩ := hvx1
    obtain ⟨V2, U2, c2, d2, rfl⟩ := hO2.form
    exact qJ (L' := ⟨b2, #[.slice V ((xF (r.take k)).rel.length) c, .slice U ((xF (r.take k)).pre.length) d], 31⟩ :: (⟨b1, ZM, 31⟩ :: (oO))) (fun w hO => own_so1 hO) (Zs 0 ⟨b2, #[.slice V ((xF (r.take k)).rel.length) c, .slice U ((xF (r.take k)).pre.length) d], 31⟩ (off := 0) (.agg #[.slice V2 ((xF (r.take (k + 1))).rel.length) c2, .slice U2 ((xF (r.take (k + 1))).pre.length) d2]) (zO (zP (zB (zA (Zu (k := .i64) (((k + 1 : Nat) : Int)) (IntWalk.i64_in _ (by omega)) (Zv (.int .i64 ((k + 1 : Nat) : Int)) (zO (zS (m' := xs.length - (k + 1)) (by omega) ⟨k + 1, V2, U2, c2, d2, oO, _, ⟨by omega, hO2⟩, rfl, ZU, rfl⟩)))))))))
  have htk : r.take k = r := List.take_of_length_le (by omega)
  refine Zh h1 (ZN (z7 (Zf (y7 (zF (zN (zJ (zB (z7 (zA ?_))))))))))
  exact Zl 0 ⟨b2, #[.slice V ((xF (r.take k)).rel.length) c, .slice U ((xF (r.take k)).pre.length) d], 31⟩ (off := 0) (.agg #[.slice V ((xF (r.take k)).rel.length) c, .slice U ((xF (r.take k)).pre.length) d]) (Zs 1 ⟨b1, ZM, 31⟩ (off := 0) (.agg #[.slice V ((xF (r.take k)).rel.length) c, .slice U ((xF (r.take k)).pre.length) d]) (ZN (zC (ZC 1 ⟨b1, #[.slice V ((xF (r.take k)).rel.length) c, .slice U ((xF (r.take k)).pre.length) d], 31⟩ (off := 0) (.agg #[.slice V ((xF (r.take k)).rel.length) c, .slice U ((xF (r.take k)).pre.length) d]) Tryz.results49 (fun w hO => ⟨_, ob, rfl, by rw [htk] at hac ⊢; exact hac, Own.sub [_, _] hO⟩)))))
theorem gSet_any (A : Option Addr) (cap : Nat) (xs : List Al) (W : World) (hv : RgIn W W.heap.size A xs) (ht : HasLib W) : Calls Tryz.prog 23 #[.agg #[.slice A xs.length cap]] W fun e w' => ∃ v' ob', e = .returned v' ∧ SetO v' (x9 (yK xs)) ob' ∧ Own [] W w' ob' := by
  have hn := hv.n
  refine Z2 (n := 25) Tryz.func23 rfl (ZO (Zb (.agg #[.slice A xs.length cap]) (fun b1 => Za (.agg ZM) (fun b2 => ZN (z7 (ZO (Zl 1 ⟨b1, #[.slice A xs.length cap], 25⟩ (off := 0) (.agg #[.slice A xs.length cap]) (Zc (k := 19) (args := #[.agg #[.slice A xs.length cap]]) (.bool (rgMay (yK xs))) (fun w hO => gMay_any A cap xs w (hv.on hO.below hO.below.size) (ht.on hO.below)) ?_))))))))
  cases h1 : rgMay (yK xs) with
  | true =>
    have hfw : fewR (yK xs) = true := (rgMay.facts h1).1
    obtain ⟨hxs6, hxe⟩ := few_mem hfw
    refine Zv Z5 (ZX (ZB (ZO (Zv (.slice none 0 0) (ZN (z7 ?_))))))
    refine ZO (Zv (Zp b1 0) (Zl 1 ⟨b1, #[.slice A xs.length cap], 25⟩ (off := 0) (.slice A xs.length cap) (Zv (.int .i64 (xs.length : Int)) (Zv (.int .i64 0) (ZN (zM (gW (L' := ⟨b2, ZM, 31⟩ :: ⟨b1, #[.slice A xs.length cap], 25⟩ :: ([] ++ [])) rfl (yN (fun L f m => ∃ (i : Nat) (U : Option Addr) (nq : Nat) (cu : Nat) (ys : List Se) (oX : List Blk) (oY : List Blk) (j : Nat → Value), (nq = ys.length ∧ i ≤ xs.length ∧ SsO (.slice U nq cu) ys oX oY ∧ ys.map Se.s = (((yK xs).take i).map yB)) ∧ L = ⟨b2, ZM, 31⟩ :: ⟨b1, #[.slice A xs.length cap], 25⟩ :: (oX ++ oY) ∧ f = xZ j [(1, Zp b1 0), (2, Zp b2 0), (3, .slice U nq cu), (11, .slice A xs.length cap), (12, .int .i64 (xs.length : Int)), (13, .int .i64 (i : Int))] ∧ m = xs.length - i) (xs.length - 0) ⟨0, none, 0, 0, [], [], [], _, ⟨rfl, Nat.zero_le _, SsO.nil, rfl⟩, rfl, ZU, rfl⟩ ?_))))))))
    rintro L f m ⟨i, U, nq, cu, ys, oX, oY, j, hrel, rfl, rfl, rfl⟩
    obtain ⟨hnq, hil, hss, hys⟩ := hrel; subst hnq
    refine z7 (zA ?_)
    by_cases h2 : (i : Int) < (xs.length : Int)
    · have hi : i < xs.length := by omega
      obtain ⟨bp, off, hA, hlt, hcell⟩ := hv.top (by omega)
      obtain ⟨x, hx⟩ : ∃ x, xs[i] = x := ⟨_, rfl⟩
      have hxm : x ∈ xs := hx ▸ List.getElem_mem hi
      have hxr : (yK xs)[i]'(by rw [k8]; exact hi) = x.l := bW hi hx
      refine Zg h2 (ZN (z7 (Zt (ZB (z7 (zM (ZO (zV (Zp bp (off + i * 1)) (by kernel_rfl) (ZA (b := bp) (off := off) (c := cap) (n := xs.length) (k := .i64) (j := (i : Int)) (e := 47) (sz := 1) hA) ?_))))))))
      refine Zo (.slice x.A x.l.length x.cap) (a := ⟨bp, off + i * 1, none⟩) (fun w hO => zX gO (fun j u h => (hO.below.cell (p := ⟨bp, off + j, none⟩) hlt).trans (hcell j u h)) i 0 hi (by omega) _ (by rw [hx]; kernel_rfl)) (Zv (.slice x.A x.l.length x.cap) (ZN (zA (Zv (.slice U ys.length cu) (Zv (.slice x.A x.l.length x.cap) (Zr (k := 48) (args := #[.slice x.A x.l.length x.cap]) (fun v' L' => ∃ ob', L' = ob' ++ (⟨b2, ZM, 31⟩ :: (⟨b1, #[.slice A xs.length cap], 25⟩ :: (oX ++ (oY)))) ∧ SetO v' (yB x.l) ob') (fun w hO => (gevery_any x.A x.cap x.l w ((hv.each x hxm).on hO.below hO.below.size) (hv.m x hxm) (hv.short x hxm)).mono fun e w' ⟨v', ob', k1, k2, k3⟩ => ⟨v', _, k1, ⟨ob', rfl, k2⟩, Own.joinN hO k3⟩) (fun ve Lx1 hvx1 => ?_)))))))
      obtain ⟨oE, rfl, hE⟩ := hvx1
      obtain ⟨VE, UE, cE, dE, rfl⟩ := hE.form
      refine vC 31 #[.slice VE ((yB x.l).rel.length) cE, .slice UE ((yB x.l).pre.length) dE] (by kernel_rfl) rfl (fun _ => by kernel_rfl) (fun b3 => ?_)
      obtain ⟨i1, z1, e1, e2, e3, e4, e5⟩ := se_info
      have hyl : ys.length ≤ 6 := by have q := congrArg List.length hys; rw [List.length_map, List.length_map, List.length_take, k8] at q; omega
      refine kB (L' := (⟨b3, #[.slice VE ((yB x.l).rel.length) cE, .slice UE ((yB x.l).pre.length) dE], 31⟩ :: (oE ++ [⟨b2, ZM, 31⟩, ⟨b1, #[.slice A xs.length cap], 25⟩])) ++ oX ++ oY) (by simp <;> rfl) (gB (sz := 2) (by kernel_rfl) rfl Tryz.underlying66 e1 e2 e3 e4 (by kernel_rfl) hss.top (a := ⟨b3, 0, none⟩) (m := 1) (c := 1) (news := seC ⟨VE, UE, yB x.l, cE, dE⟩) (by kernel_rfl) rfl (fun w hO j u hj => ?_) (se_cells _) (by unfold maxLen; omega) (by rw [e5]; omega) (fun u2 oX2 hu0 => ?_))
      · rw [yQ, cell_of_row w b3 (0 + j) (seC ⟨VE, UE, yB x.l, cE, dE⟩).toArray 31 _ (hO.held ⟨b3, (seC ⟨VE, UE, yB x.l, cE, dE⟩).toArray, 31⟩ (List.mem_append_left _ (List.mem_append_left _ (List.mem_cons_self ..))))]; simpa using hj
      have hss2 := hss.add hu0 hE
      obtain ⟨U2, cu2, rfl⟩ := Sl.form hu0
      exact Zv (.slice U2 (ys.length + 1) cu2) (zO (zP (zB (zA (Zu (k := .i64) (((i + 1 : Nat) : Int)) (IntWalk.i64_in _ (by omega)) (Zv (.int .i64 ((i + 1 : Nat) : Int)) (zO (xB (fun w hO => own_st1 hO) (zS (m' := xs.length - (i + 1)) (by omega) ⟨i + 1, U2, ys.length + 1, cu2, ys ++ [⟨VE, UE, yB x.l, cE, dE⟩], oX2, (oE ++ oY), _, ⟨by simp, by omega, hss2, by rw [List.take_succ_eq_append_getElem (by rw [k8]; exact hi), hxr, List.map_append, List.map_append, hys]; rfl⟩, rfl, ZU, rfl⟩)))))))))
    have htk : (yK xs).take i = yK xs := List.take_of_length_le (by rw [k8]; omega)
    rw [htk] at hys
    have hyf : ∀ y ∈ ys, SF y.s 198 := fun y hy => fin_alts hfw y.s (hys ▸ List.mem_map.2 ⟨y, hy, rfl⟩)
    refine Zh h2 (ZN (z7 (Zf (y7 (zF (zN (zJ (zB (z7 (zA ?_))))))))))
    refine Zv (.slice U ys.length cu) (Zr (k := 49) (args := #[.slice U ys.length cu]) (fun v' L' => ∃ ob', L' = ob' ++ (⟨b2, ZM, 31⟩ :: (⟨b1, #[.slice A xs.length cap], 25⟩ :: (oX ++ (oY)))) ∧ SetO v' (xF (yK xs)) ob') (fun w hO => (gsome_any U cu ys (yK xs) w (SsO.inn hss rfl hO (fun x hx => by simp [hx]) (fun x hx => by simp [hx]) hyf) hys hfw).mono fun e w' ⟨v', ob', k1, k2, k3⟩ => ⟨v', _, k1, ⟨ob', rfl, k2⟩, Own.joinN hO k3⟩) (fun vs Lx2 hvx2 => ?_))
    obtain ⟨oS, rfl, hS⟩ := hvx2
    obtain ⟨VS, US, cS, dS, rfl⟩ := hS.form
    exact qJ (L' := ⟨b2, ZM, 31⟩ :: (oS)) (fun w hO => own_st2 hO) (Zs 0 ⟨b2, ZM, 31⟩ (off := 0) (.agg #[.slice VS ((xF (yK xs)).rel.length) cS, .slice US ((xF (yK xs)).pre.length) dS]) (ZN (zC (ZC 0 ⟨b2, #[.slice VS ((xF (yK xs)).rel.length) cS, .slice US ((xF (yK xs)).pre.length) dS], 31⟩ (off := 0) (.agg #[.slice VS ((xF (yK xs)).rel.length) cS, .slice US ((xF (yK xs)).pre.length) dS]) Tryz.results23 (fun w hO => ⟨_, oS, rfl, by unfold x9; rw [if_pos h1]; exact hS, Own.sub [_] hO⟩)))))
  | false =>
    refine Zv Z4 (ZY (ZO (Zc (k := 47) (args := #[]) (.agg ZM) (fun w _ => qW w) (Zs 0 ⟨b2, ZM, 31⟩ (off := 0) (.agg ZM) (ZN (zC (z6 ?_)))))))
    exact ZC 0 ⟨b2, ZM, 31⟩ (off := 0) (.agg ZM) Tryz.results23 (fun w hO => ⟨_, [], rfl, by unfold x9; rw [if_neg (by simp [h1])]; exact SetO.none, kK hO⟩)
end
section
theorem fewR_text {r : List (List Co)} (h : r ≠ []) {t : List UInt8} (ht : wT r = t) : (t = [] → fewR r = false) ∧ (¬ t = [] → fewR r = true ∧ kH r = t) := by
  refine ⟨fun q => textR_nil.1 (ht.trans q), fun q => ?_⟩
  cases hf : fewR r with
  | false => exact absurd (ht.symm.trans (textR_nil.2 hf)) q
  | true => refine ⟨rfl, ?_⟩; unfold wT at ht; rw [hf] at ht; exact ht
theorem all_ne {s : List UInt8} {r : List (List Co)} (h : qT s = some r) : r ≠ [] := fun e => by
  have h2 := dH h
  rw [e] at h2
  exact altsL_ne s [] (List.eq_nil_of_length_eq_zero h2.symm)
theorem pA (s : List UInt8) (W : World) (hs : s.length ≤ 1000000) (ht : HasLib W) : Calls Tryz.prog 12 #[.string (mkS s)] W fun e w' => ∃ v' ob', e = .returned (.tuple #[v', .int .i64 (jM s)]) ∧ RgO v' ((kC s).getD []) ob' ∧ Own [] W w' ob' := by
  have hsz := xH s
  refine Z2 (n := 62) Tryz.func12 rfl (ZO (Za (.agg #[.slice none 0 0]) (fun b1 => Zv (.int .i64 0) (ZN (z7 (ZO (Zv (.string (mkS s)) (Zv (.int .i64 ((mkS s).size)) ?_))))))))
  by_cases h1 : (96 : Int) < (mkS s).size
  · refine Zg h1 (ZY (ZO (Zv (.agg #[.slice none 0 0]) (Zs 0 ⟨b1, #[.slice none 0 0], 25⟩ (off := 0) (.agg #[.slice none 0 0]) (Zv (.int .i64 3) (ZN (zC ?_)))))))
    exact z6 (ZD 0 ⟨b1, #[.slice none 0 0], 25⟩ (off := 0) (.agg #[.slice none 0 0]) (.int .i64 3) Tryz.results12 (fun w hO => ⟨.agg #[.slice none 0 0], [], by rw [(errG_long (s := s) (by omega)).1], by rw [(errG_long (s := s) (by omega)).2]; exact RgO.nil, kK hO⟩))
  have hs6 : s.length ≤ 96 := by omega
  refine Zh h1 (ZX (ZB (ZO (Za (.agg #[.slice none 0 0]) (fun b2 => ZN (z7 ?_))))))
  refine ZO (Zv (.string (mkS s)) (Zr (k := 36) (args := #[.string (mkS s), .string ⟨#[124, 124]⟩]) (fun v' L' => ∃ ob', L' = ob' ++ ([⟨b2, #[.slice none 0 0], 25⟩, ⟨b1, #[.slice none 0 0], 25⟩]) ∧ SlT v' (gG [] s) ob') (fun w hO => (split_bars s w hs (ht.on hO.below)).mono fun e w' ⟨v', ob', k1, k2, k3⟩ => ⟨v', _, k1, ⟨ob', rfl, k2⟩, Own.joinN hO k3⟩) (fun lv L2 hv2 => ?_)))
  obtain ⟨ol, rfl, hol⟩ := hv2
  obtain ⟨l, hll⟩ : ∃ l, l = gG [] s := ⟨_, rfl⟩
  rw [← hll] at hol
  have hln : l.length ≤ 97 := by rw [hll]; have := pL s []; omega
  have hlm : ∀ x ∈ l, x.length ≤ 96 := fun x hx => by have := tS s [] x (hll ▸ hx); simp at this; omega
  obtain ⟨g, cur, lcap, rfl, rfl, hcur⟩ := SlT.blk hol (by rw [hll]; exact altsL_ne s [])
  refine Zv (.int .i64 (l.length : Int)) (Zv (.int .i64 0) (ZN (zM (gW (L' := ⟨g, cur, 9⟩ :: ⟨b2, #[.slice none 0 0], 25⟩ :: ⟨b1, #[.slice none 0 0], 25⟩ :: ([] ++ [])) rfl (yN (fun L f m => ∃ (i : Nat) (A : Option Addr) (cap : Nat) (xs : List Al) (o1 : List Blk) (o2 : List Blk) (j : Nat → Value), (i ≤ l.length ∧ RgA (.slice A xs.length cap) xs o1 o2 ∧ uY parseA (l.take i) = some (yK xs)) ∧ L = ⟨g, cur, 9⟩ :: ⟨b2, #[.slice A xs.length cap], 25⟩ :: ⟨b1, #[.slice none 0 0], 25⟩ :: (o1 ++ o2) ∧ f = xZ j [(2, Zp b1 0), (4, Zp b2 0), (18, .slice (some ⟨g, 0, none⟩) l.length lcap), (19, .int .i64 (l.length : Int)), (20, .int .i64 (i : Int))] ∧ m = l.length - i) (l.length - 0) ⟨0, none, 0, [], [], [], _, ⟨Nat.zero_le _, RgA.nil, rfl⟩, rfl, ZU, rfl⟩ ?_)))))
  rintro L f m ⟨i, A, cap, xs, o1, o2, j, hrel, rfl, rfl, rfl⟩
  have hrel0 := hrel; have hra := hrel.2.1; have hil := hrel.1
  refine z7 (zA ?_)
  by_cases h2 : (i : Int) < (l.length : Int)
  · have hi : i < l.length := by omega
    obtain ⟨y, hy⟩ : ∃ y, l[i] = y := ⟨_, rfl⟩
    have hyl : y.length ≤ 96 := hlm y (hy ▸ List.getElem_mem hi)
    refine Zg h2 (ZN (z7 (Zt (ZB (z7 (zM (ZO (zV (Zp g (i * 1)) (by kernel_rfl) (ZV (b := g) (off := 0) (n := l.length) (c := lcap) (k := .i64) (j := (i : Int)) (e := 9) (sz := 1)) ?_))))))))
    refine jP 0 ⟨g, cur, 9⟩ (off := i * 1) (.string (mkS y)) (by kernel_rfl) rfl (by kernel_rfl) (by kernel_rfl) (x4 bN hcur i 0 (by omega) (by omega) _ (by rw [hy]; kernel_rfl)) (Zv (.string (mkS y)) (ZR (Zv (.slice none 0 0) (ZN (z7 (z7 (zA ?_)))))))
    refine Zv (.string (mkS y)) (Zr (k := 36) (args := #[.string (mkS y), .string ⟨#[44]⟩]) (fun v' L' => ∃ ob', L' = ob' ++ (⟨g, cur, 9⟩ :: (⟨b2, #[.slice A xs.length cap], 25⟩ :: (⟨b1, #[.slice none 0 0], 25⟩ :: ((o1 ++ o2))))) ∧ SlT v' (yX 44 [] y) ob') (fun w hO => (split_comma y w (by omega) (ht.on hO.below)).mono fun e w' ⟨v', ob', k1, k2, k3⟩ => ⟨v', _, k1, ⟨ob', rfl, k2⟩, Own.joinN hO k3⟩) (fun mv L2 hv2 => ?_))
    obtain ⟨om, rfl, hom⟩ := hv2
    obtain ⟨m', hml⟩ : ∃ m', m' = yX 44 [] y := ⟨_, rfl⟩
    rw [← hml] at hom
    have hmn : m'.length ≤ 97 := by rw [hml]; exact (pieces_len hyl).1
    have hmm : ∀ x ∈ m', x.length ≤ 96 := fun x hx => (pieces_len hyl).2 x (hml ▸ hx)
    obtain ⟨g2, cur2, mcap, rfl, rfl, hcur2⟩ := SlT.blk hom (by rw [hml]; exact bO 44 y [])
    refine Zv (.int .i64 (m'.length : Int)) (Zv (.int .i64 0) (ZN (zM (gW (L' := ⟨g2, cur2, 9⟩ :: ⟨g, cur, 9⟩ :: ⟨b2, #[.slice A xs.length cap], 25⟩ :: ⟨b1, #[.slice none 0 0], 25⟩ :: ([] ++ (o1 ++ o2))) rfl (yN (fun L f m => ∃ (k : Nat) (B : Option Addr) (cb : Nat) (a : List Co) (oa : List Blk) (j : Nat → Value), (k ≤ m'.length ∧ SlCo (.slice B a.length cb) a oa ∧ uY parseP (m'.take k) = some a) ∧ L = ⟨g2, cur2, 9⟩ :: ⟨g, cur, 9⟩ :: ⟨b2, #[.slice A xs.length cap], 25⟩ :: ⟨b1, #[.slice none 0 0], 25⟩ :: (oa ++ (o1 ++ o2)) ∧ f = xZ j [(2, Zp b1 0), (4, Zp b2 0), (18, .slice (some ⟨g, 0, none⟩) l.length lcap), (19, .int .i64 (l.length : Int)), (20, .int .i64 (i : Int)), (7, .slice B a.length cb), (25, .slice (some ⟨g2, 0, none⟩) m'.length mcap), (26, .int .i64 (m'.length : Int)), (27, .int .i64 (k : Int))] ∧ m = m'.length - k) (m'.length - 0) ⟨0, none, 0, [], [], _, ⟨Nat.zero_le _, Sl.nil _ _, rfl⟩, rfl, ZU, rfl⟩ ?_)))))
    rintro L f m ⟨k, B, cb, a, oa, j, hrel, rfl, rfl, rfl⟩
    have hkl := hrel.1
    refine z7 (zA ?_)
    by_cases h3 : (k : Int) < (m'.length : Int)
    · have hk : k < m'.length := by omega
      obtain ⟨z, hz⟩ : ∃ z, m'[k] = z := ⟨_, rfl⟩
      have hzl : z.length ≤ 96 := hmm z (hz ▸ List.getElem_mem hk)
      have hbz := bareL_len z
      refine Zg h3 (ZN (z7 (Zt (ZB (z7 (zM (ZO (zV (Zp g2 (k * 1)) (by kernel_rfl) (ZV (b := g2) (off := 0) (n := m'.length) (c := mcap) (k := .i64) (j := (k : Int)) (e := 9) (sz := 1)) ?_))))))))
      refine jP 0 ⟨g2, cur2, 9⟩ (off := k * 1) (.string (mkS z)) (by kernel_rfl) rfl (by kernel_rfl) (by kernel_rfl) (x4 bN hcur2 k 0 (by omega) (by omega) _ (by rw [hz]; kernel_rfl)) (Zv (.string (mkS z)) (ZR (Zv (.string (mkS z)) (Zc (k := 38) (args := #[.string (mkS z), .string ⟨#[32]⟩]) (.string (mkS (kE z))) (fun w _ => trim_any z w (by omega)) (Zc (k := 37) (args := #[.string (mkS (kE z))]) (.tuple #[coV (pcV (kE z)), .int .i64 (pcE (kE z))]) (fun w hO => cParse_any (kE z) w (by omega) (ht.tab.on hO.below)) (Zv (.tuple #[coV (pcV (kE z)), .int .i64 (pcE (kE z))]) (Zv (coV (pcV (kE z))) (Zv (.int .i64 (pcE (kE z))) ?_))))))))
      refine Za (.agg Z8) (fun b3 => Zs 0 ⟨b3, Z8, 51⟩ (off := 0) (coV (pcV (kE z))) (Zv (.int .i64 (pcE (kE z))) (ZN (z7 (ZO (Zv (.int .i64 (pcE (kE z))) ?_))))))
      by_cases h4 : ((pcE (kE z)) : Int) = 0
      · refine Zn (p := ((pcE (kE z)) : Int) = 0) true (decide_eq_true (h4)) (ZX (ZB (zA (Zv (.slice B a.length cb) (Zl 0 ⟨b3, (coV (pcV (kE z))).cells, 51⟩ (off := 0) (coV (pcV (kE z))) (vC 51 #[.int .i64 ((pcV (kE z)).op), .int .i64 ((pcV (kE z)).parts), .int .i64 ((pcV (kE z)).v.maj), .int .i64 ((pcV (kE z)).v.min), .int .i64 ((pcV (kE z)).v.pat), .string (mkS (pcV (kE z)).v.pre), .string (mkS (pcV (kE z)).v.build)] (by kernel_rfl) rfl (fun _ => by kernel_rfl) (fun b4 => ?_)))))))
        obtain ⟨i0, z0, e1, e2, e3, e4, e5⟩ := co_info
        have hal : a.length ≤ 97 := by have q := dH hrel.2.2; rw [List.length_take] at q; omega
        refine kB (L' := [⟨b4, #[.int .i64 ((pcV (kE z)).op), .int .i64 ((pcV (kE z)).parts), .int .i64 ((pcV (kE z)).v.maj), .int .i64 ((pcV (kE z)).v.min), .int .i64 ((pcV (kE z)).v.pat), .string (mkS (pcV (kE z)).v.pre), .string (mkS (pcV (kE z)).v.build)], 51⟩, ⟨b3, (coV (pcV (kE z))).cells, 51⟩, ⟨g2, cur2, 9⟩, ⟨g, cur, 9⟩, ⟨b2, #[.slice A xs.length cap], 25⟩, ⟨b1, #[.slice none 0 0], 25⟩] ++ oa ++ (o1 ++ o2)) (by rw [List.append_assoc]; kernel_rfl) (gB (sz := 7) (by kernel_rfl) rfl Tryz.underlying47 e1 e2 e3 e4 (by kernel_rfl) hrel.2.1 (a := ⟨b4, 0, none⟩) (m := 1) (c := 1) (news := coC (pcV (kE z))) (by kernel_rfl) rfl (fun w hO j u hj => ?_) (co_cells _) (by unfold maxLen; omega) (by rw [e5]; omega) (fun u2 ob2 hu2 => ?_))
        · rw [yQ, cell_of_row w b4 (0 + j) (coC (pcV (kE z))).toArray 51 _ (hO.held ⟨b4, (coC (pcV (kE z))).toArray, 51⟩ (List.mem_append_left _ (List.mem_append_left _ (List.mem_cons_self ..))))]; simpa using hj
        have hu3 : SlCo u2 (a ++ [(pcV (kE z))]) ob2 := hu2.to (by simp) (by simp)
        obtain ⟨B2, cb2, rfl⟩ := Sl.form hu3
        exact qJ (L' := ⟨g2, cur2, 9⟩ :: (⟨g, cur, 9⟩ :: (⟨b2, #[.slice A xs.length cap], 25⟩ :: (⟨b1, #[.slice none 0 0], 25⟩ :: (ob2 ++ ((o1 ++ o2))))))) (fun w hO => own_two (by simpa using hO)) (Zv (.slice B2 ((a ++ [(pcV (kE z))]).length) cb2) (zO (zP (zB (zA (Zu (k := .i64) (((k + 1 : Nat) : Int)) (IntWalk.i64_in _ (by omega)) (Zv (.int .i64 ((k + 1 : Nat) : Int)) (zO (zS (m' := m'.length - (k + 1)) (by omega) ⟨k + 1, B2, cb2, _, ob2, _, ⟨by omega, hu3, allO_next hk hz hrel.2.2 (pc_ok (by assumption))⟩, rfl, ZU, rfl⟩)))))))))
      refine Zn (p := ((pcE (kE z)) : Int) = 0) false (decide_eq_false (h4)) (ZY (ZO (Zv (.agg #[.slice none 0 0]) (Zs 4 ⟨b1, #[.slice none 0 0], 25⟩ (off := 0) (.agg #[.slice none 0 0]) (Zv (.int .i64 6) (ZN (zC ?_)))))))
      refine z6 (zG (z6 (y5 (zG (z6 (zG (z6 (y5 (zG (z6 (ZD 4 ⟨b1, #[.slice none 0 0], 25⟩ (off := 0) (.agg #[.slice none 0 0]) (.int .i64 6) Tryz.results12 ?_)))))))))))
      exact fun w hO => ⟨.agg #[.slice none 0 0], [], by rw [(errG_none hs6 (all_fails hll hi hy hml hk hz (by assumption))).1], by rw [(errG_none hs6 (all_fails hll hi hy hml hk hz (by assumption))).2]; exact RgO.nil, kK hO⟩
    refine Zh h3 (ZN (z7 (Zf (y7 (zF (zN (zJ (zB (zA (Zv (Zp b2 0) ?_))))))))))
    refine Zl 2 ⟨b2, #[.slice A xs.length cap], 25⟩ (off := 0) (.slice A xs.length cap) (Zv (.slice B a.length cb) (vC 47 #[.slice B a.length cb] (by kernel_rfl) rfl (fun _ => by kernel_rfl) (fun b3 => ?_)))
    obtain ⟨i0, z0, e1, e2, e3, e4, e5⟩ := al_info
    have hal : xs.length ≤ 97 := by have q := dH hrel0.2.2; rw [List.length_take, k8] at q; omega
    refine kB (L' := ([⟨b3, #[.slice B a.length cb], 47⟩, ⟨g2, cur2, 9⟩, ⟨g, cur, 9⟩, ⟨b2, #[.slice A xs.length cap], 25⟩, ⟨b1, #[.slice none 0 0], 25⟩] ++ oa) ++ o1 ++ o2) (by rw [List.append_assoc, List.append_assoc]; kernel_rfl) (gB (sz := 1) (by kernel_rfl) rfl Tryz.underlying23 e1 e2 e3 e4 (by kernel_rfl) hra.top (a := ⟨b3, 0, none⟩) (m := 1) (c := 1) (news := alC (Al.mk B a cb)) (by kernel_rfl) rfl (fun w hO j u hj => ?_) (al_cells _) (by unfold maxLen; omega) (by rw [e5]; omega) (fun u2 ob2 hu2 => ?_))
    · rw [yQ, cell_of_row w b3 (0 + j) (alC (Al.mk B a cb)).toArray 47 _ (hO.held ⟨b3, (alC (Al.mk B a cb)).toArray, 47⟩ (by simp [alC]))]; simpa using hj
    have hra2 := hra.add hu2 hrel.2.1
    obtain ⟨A2, cap2, rfl⟩ := Sl.form hra2.top
    exact qJ (L' := ⟨g, cur, 9⟩ :: (⟨b2, #[.slice A xs.length cap], 25⟩ :: (⟨b1, #[.slice none 0 0], 25⟩ :: ((ob2 ++ (oa ++ o2)))))) (fun w hO => own_turn hO) (Zv (Zp b2 0) (Zs 1 ⟨b2, #[.slice A xs.length cap], 25⟩ (off := 0) (.slice A2 ((xs ++ [(Al.mk B a cb)]).length) cap2) (zO (zP (zB (zA (Zu (k := .i64) (((i + 1 : Nat) : Int)) (IntWalk.i64_in _ (by omega)) (Zv (.int .i64 ((i + 1 : Nat) : Int)) (zO (zS (m' := l.length - (i + 1)) (by omega) ⟨i + 1, A2, cap2, _, ob2, (oa ++ o2), _, ⟨by omega, hra2, by rw [show yK (xs ++ [Al.mk B a cb]) = yK xs ++ [a] from by simp [yK]]; exact allO_next hi hy hrel0.2.2 (by have q := hrel.2.2; rw [List.take_of_length_le (by omega), hml] at q; exact q)⟩, rfl, ZU, rfl⟩))))))))))
  have hall : qT s = some (yK xs) := by have q := hrel0.2.2; rw [List.take_of_length_le (by omega), hll] at q; exact q
  have hfine : FineR (yK xs) := fine_part hs6 (fun x hx => hll ▸ hx) hln (by rw [hll]; exact hall)
  obtain ⟨t, et⟩ : ∃ t, wT (yK xs) = t := ⟨_, rfl⟩
  obtain ⟨htn, hty⟩ := fewR_text (all_ne hall) et
  have htz := xH t
  refine Zh h2 (ZN (z7 (Zf (y7 (zF (zN (zJ (zB (z7 (zA ?_))))))))))
  refine Zl 1 ⟨b2, #[.slice A xs.length cap], 25⟩ (off := 0) (.agg #[.slice A xs.length cap]) (Zc (k := 39) (args := #[.agg #[.slice A xs.length cap]]) (.string (mkS t)) (fun w hO => vR (by rw [et]) (gtext_any A cap xs w (hra.inn rfl hO (fun x hx => by simp [hx]) (fun x hx => by simp [hx]) hfine) (ht.on hO.below))) (Zv (.string (mkS t)) (ZN (z7 (ZO (Zv (.string (mkS t)) ?_))))))
  by_cases h5 : (t : List UInt8) = []
  · refine zV Z4 (by kernel_rfl) (yM (a := t) (b := ([])) rfl (by kernel_rfl) (by kernel_rfl) (decide_eq_true (h5))) (ZY (ZO (Zv (.agg #[.slice none 0 0]) (Zs 2 ⟨b1, #[.slice none 0 0], 25⟩ (off := 0) (.agg #[.slice none 0 0]) (Zv (.int .i64 6) (ZN (zC ?_)))))))
    exact z6 (ZD 2 ⟨b1, #[.slice none 0 0], 25⟩ (off := 0) (.agg #[.slice none 0 0]) (.int .i64 6) Tryz.results12 (fun w hO => ⟨.agg #[.slice none 0 0], [], by rw [(errG_few hs6 hall (htn (by assumption))).1], by rw [(errG_few hs6 hall (htn (by assumption))).2]; exact RgO.nil, kK hO⟩))
  obtain ⟨hfw, htx⟩ := hty h5
  refine zV Z5 (by kernel_rfl) (yM (a := t) (b := ([])) rfl (by kernel_rfl) (by kernel_rfl) (decide_eq_false (h5))) (ZX (ZB (z7 (ZO (Zv (.string (mkS t)) (Zv (.int .i64 ((mkS t).size)) ?_))))))
  by_cases h6 : (96 : Int) < (mkS t).size
  · refine Zg h6 (ZY (ZO (Zv (.agg #[.slice none 0 0]) (Zs 2 ⟨b1, #[.slice none 0 0], 25⟩ (off := 0) (.agg #[.slice none 0 0]) (Zv (.int .i64 3) (ZN (zC ?_)))))))
    exact z6 (ZD 2 ⟨b1, #[.slice none 0 0], 25⟩ (off := 0) (.agg #[.slice none 0 0]) (.int .i64 3) Tryz.results12 (fun w hO => ⟨.agg #[.slice none 0 0], [], by rw [(errG_big hs6 hall hfw (by rw [htx]; omega)).1], by rw [(errG_big hs6 hall hfw (by rw [htx]; omega)).2]; exact RgO.nil, kK hO⟩))
  refine Zh h6 (ZX (ZB (ZO (Zl 1 ⟨b2, #[.slice A xs.length cap], 25⟩ (off := 0) (.agg #[.slice A xs.length cap]) (Zs 2 ⟨b1, #[.slice none 0 0], 25⟩ (off := 0) (.agg #[.slice A xs.length cap]) (Zv (.int .i64 0) (zO ?_)))))))
  exact zB (zC (ZD 2 ⟨b1, #[.slice A xs.length cap], 25⟩ (off := 0) (.agg #[.slice A xs.length cap]) (.int .i64 0) Tryz.results12 (fun w hO => ⟨.agg #[.slice A xs.length cap], o1 ++ o2, by rw [(errG_fine hs6 hall hfw (by rw [htx]; omega)).1], by rw [(errG_fine hs6 hall hfw (by rw [htx]; omega)).2]; exact ⟨xs, _, o1, o2, rfl, rfl, rfl, hra⟩, Own.sub [_, _, _] hO⟩)))
theorem fine_allP (s : List UInt8) : FineR ((kC s).getD []) := by
  cases h : kC s with
  | none => exact ⟨Nat.zero_le _, fun a ha => by simp at ha⟩
  | some r =>
    have := fine_get (fX h).1
    rwa [h] at this
theorem own_of {M : List Nat} {W w : World} {x y : Blk} {A B : List Blk} (h : Own M W w (A ++ (x :: (B ++ [y])))) : Own M W w (y :: A) := by
  have h1 : Own M W w (A ++ [y]) := h.sublist (List.Sublist.append (List.Sublist.refl A) ((List.sublist_append_right B [y]).trans (List.sublist_cons_self x _)))
  exact h1.perm List.perm_append_comm
theorem gOf_any (s : List UInt8) (W : World) (hs : s.length ≤ 1000000) (ht : HasLib W) : Calls Tryz.prog 14 #[.string (mkS s)] W fun e w' => ∃ v' ob', e = .returned (.tuple #[v', .int .i64 (jM s)]) ∧ SetO v' (x9 ((kC s).getD [])) ob' ∧ Own [] W w' ob' := by
  refine Z2 (n := 14) Tryz.func14 rfl (ZO (Za (.agg ZM) (fun b1 => Zv (.int .i64 0) (ZR (Zv (.string (mkS s)) (Zr (k := 12) (args := #[.string (mkS s)]) (fun v' L' => ∃ ob', L' = ob' ++ ([⟨b1, ZM, 31⟩]) ∧ ∃ rv, v' = .tuple #[rv, .int .i64 (jM s)] ∧ RgO rv ((kC s).getD []) ob') (fun w hO => (pA s w hs (ht.on hO.below)).mono fun e w' ⟨v', ob', k1, k2, k3⟩ => ⟨Value.tuple #[v', .int .i64 (jM s)], _, k1, ⟨ob', rfl, ⟨v', rfl, k2⟩⟩, Own.joinN hO k3⟩) (fun vp Lx1 hvx1 => ?_)))))))
  obtain ⟨op, rfl, hp0⟩ := hvx1
  obtain ⟨rv, rfl, hp⟩ := hp0
  obtain ⟨xs, u, o1, o2, rfl, rfl, hxs, hra⟩ := hp
  obtain ⟨A, cap, rfl⟩ := Sl.form hra.top
  refine Zv (.tuple #[.agg #[.slice A xs.length cap], .int .i64 (jM s)]) (Zv (.agg #[.slice A xs.length cap]) (Zv (.int .i64 (jM s)) (Za (.agg #[.slice none 0 0]) (fun b2 => Zs 0 ⟨b2, #[.slice none 0 0], 25⟩ (off := 0) (.agg #[.slice A xs.length cap]) (Zv (.int .i64 (jM s)) (ZR (Zl 0 ⟨b2, #[.slice A xs.length cap], 25⟩ (off := 0) (.agg #[.slice A xs.length cap]) (Zr (k := 23) (args := #[.agg #[.slice A xs.length cap]]) (fun v' L' => ∃ ob', L' = ob' ++ (⟨b2, #[.slice A xs.length cap], 25⟩ :: ((o1 ++ o2) ++ ([⟨b1, ZM, 31⟩]))) ∧ SetO v' (x9 (yK xs)) ob') (fun w hO => (gSet_any A cap xs w (hra.inn rfl hO (fun x hx => by simp [hx]) (fun x hx => by simp [hx]) (by rw [hxs]; exact fine_allP s)) (ht.on hO.below)).mono fun e w' ⟨v', ob', k1, k2, k3⟩ => ⟨v', _, k1, ⟨ob', rfl, k2⟩, Own.joinN hO k3⟩) (fun vs Lx2 hvx2 => ?_)))))))))
  obtain ⟨oS, rfl, hS⟩ := hvx2
  obtain ⟨VS, US, cS, dS, rfl⟩ := hS.form
  exact Zv (.int .i64 (jM s)) (qJ (L' := ⟨b1, ZM, 31⟩ :: (oS)) (fun w hO => own_of hO) (Zs 0 ⟨b1, ZM, 31⟩ (off := 0) (.agg #[.slice VS ((x9 (yK xs)).rel.length) cS, .slice US ((x9 (yK xs)).pre.length) dS]) (Zv (.int .i64 (jM s)) (ZN (zC (ZD 0 ⟨b1, #[.slice VS ((x9 (yK xs)).rel.length) cS, .slice US ((x9 (yK xs)).pre.length) dS], 31⟩ (off := 0) (.agg #[.slice VS ((x9 (yK xs)).rel.length) cS, .slice US ((x9 (yK xs)).pre.length) dS]) (.int .i64 (jM s)) Tryz.results14 (fun w hO => ⟨_, oS, rfl, by rw [← hxs]; exact hS, Own.sub [_] hO⟩)))))))
end
section
open Go.ChangeShapes Go.WideShapes Go.ChangeAt Go.RowKit
theorem own : ownKnob Tryz.prog.godebug = none := by kernel_rfl
theorem mY {H : Type} {enc : TypeId × Value → H} {P : Program} (hl : laidOutB P = true) {W W' : World} (hb : Below W.heap.size W W') :
    ∀ (ts : List TypeId), (∀ t ∈ ts, P.readableRec t = true ∧ t < P.types.size) → ∀ (vs : List Value) (ds : List (DataW H)) (ps : List MemPlace), DataW.TrodAll enc P W 0 (fun _ => true) true ts vs ds ps → (∀ p ∈ ps, p.block < W.heap.size) →
      DataW.TrodAll enc P W' 0 (fun b => decide (b < W.heap.size)) true ts vs ds ps
  | [], _, vs, ds, ps, h, _ => by
    obtain ⟨rfl, rfl, rfl⟩ := trodAll_nil h
    exact trodAll_mk0
  | t :: ts, hr, vs, ds, ps, h, hlt => by
    obtain ⟨v, vs', d, ds', p, q, rfl, rfl, rfl, hd, hrest⟩ := trodAll_cons h
    exact ⟨p, q, Go.RowKit.Below.trod hl (hr t (by simp)).1 (hr t (by simp)).2 hd hb.old (fun x hx => hlt x (by simp [hx])), mY hl hb ts (fun t' ht' => hr t' (by simp [ht'])) vs' ds' q hrest (fun x hx => hlt x (by simp [hx])), rfl⟩
theorem law_end {H : Type} {enc : TypeId × Value → H} {P : Program} {f : Func} {s : ChangeSpec} {W W' : World} {args : Array Value} {ds gs : List (DataW H)} {before : List MemPlace} {T : TypeId}
    (hl : laidOutB P = true) (hr : ∀ t ∈ f.params.toList, P.readableRec t = true ∧ t < P.types.size) (hv : s.vars = []) (hT : f.resultTypes = #[T]) (hB : P.underlying T = some .bool)
    (hW : DataW.Whole enc P f.params.toList s.vars false W args.toList ds gs before) (hf : s.fn H (ds ++ gs) = { results := [.lit (.bool true)], args := ds }) (hb : Below W.heap.size W W') :
    s.post enc P f false true false false W args (.bool true) W' := by
  have hlt : ∀ p ∈ before, p.block < W.heap.size := fun p hp => hW.lt p hp
  have hW' := hW
  obtain ⟨p, q, hA, hV, rfl, _, _⟩ := hW
  rw [hv] at hV
  obtain ⟨rfl, rfl⟩ := trodVars_none hV
  have h2 := mY hl hb _ hr _ _ _ hA (fun x hx => hlt x (by simp [hx]))
  refine ⟨ds, [], p ++ [], [], p, [], hW', ?_, ?_, ?_, World.keptBut_mono (fun x hx => ⟨hx, Or.inr (Or.inl (by simpa using hx))⟩) (hb.frame (· ∈ p ++ [])), fun h => by cases h⟩
  · rw [hf, hT]
    exact trodAll_cons_mk (shut_bool hB true) trodAll_mk0
  · rw [hf]; exact h2
  · rw [hf, hv]; rfl
theorem laidOut : laidOutB Tryz.prog = true := by kernel_rfl
theorem cell_lt {W : World} {a : Addr} {v : Value} (h : W.cell? a = some v) : a.block < W.heap.size := by
  rcases Nat.lt_or_ge a.block W.heap.size with h1 | h1
  · exact h1
  · unfold World.cell? at h
    rw [Array.getElem?_eq_none h1] at h
    simp at h
theorem strCells1 : Tryz.prog.cellsOf 9 = 1 := by kernel_rfl
theorem open_texts {H : Type} {enc : TypeId × Value → H} {W : World} {base : Nat} {v : Value} {d : DataW H} {ps : List MemPlace} (hval : Value.okWide Tryz.prog W .any base 58 v)
    (h : DataW.Trod enc Tryz.prog W 0 (fun _ => true) true 58 v d ps) : ∃ l : List (List UInt8), ReadsT W W.heap.size v l ∧ l.length ≤ maxLen ∧ ∀ x ∈ l, x.length ≤ maxLen := by
  obtain ⟨A, len, cap, rfl⟩ := okWide_slice Tryz.underlying58 hval
  obtain ⟨fuel, hf⟩ := h
  rcases open_strings Tryz.underlying58 Tryz.underlying9 strCells1 hf with ⟨hcs, _⟩ | ⟨a, len', cap', ss, hcs, _, hl, hm, hz, _, hcell, hws⟩
  · simp [Value.cells] at hcs
    obtain ⟨rfl, rfl, rfl⟩ := hcs
    exact ⟨[], ⟨none, 0, rfl, fun h => by cases h⟩, by simp, by simp⟩
  · simp [Value.cells] at hcs
    obtain ⟨rfl, rfl, rfl⟩ := hcs
    simp only [if_true] at hz
    have hlen : ((ss.take len).map (·.data.toList)).length = len := by rw [List.length_map, List.length_take]; omega
    refine ⟨(ss.take len).map (·.data.toList), ⟨some a, cap, by rw [hlen], fun h0 => ⟨a, rfl, ?_, fun j hj => ?_⟩⟩, by rw [hlen]; omega, fun x hx => ?_⟩
    · have := cell_lt (hcell 0 (by omega))
      rwa [fC] at this
    · have hj2 : j < ss.length := by omega
      rw [hcell j hj2, List.getElem_map, List.getElem_take]
      simp only [List.getD, List.getElem?_eq_getElem hj2, Option.getD_some]
      rfl
    · obtain ⟨s, hs, rfl⟩ := List.mem_map.1 hx
      have := hws s (List.mem_of_mem_take hs)
      rw [qU]; exact this
def litCells : DataW Unit → List Value
  | .lit (.int k n) => [Value.int k n]
  | .agg l => l.flatMap fun d => match d with | .lit (.int k n) => [Value.int k n] | _ => []
  | _ => []
def tabCells : DataW Unit → Array Value
  | .agg l => (l.flatMap litCells).toArray
  | _ => #[]
def layAt (h : Array Obj) (g : Nat) (d : DataW Unit) : Array Obj := h.modify g fun
  | .cells _ t frozen => .cells (tabCells d) t frozen
  | o => o
theorem powType : (Tryz.prog.globals[3]?).map (·.type) = some 222 := by kernel_rfl
theorem powNamed : Tryz.prog.globalNamed "internal/strconv.uint64pow10" = some 3 := by kernel_rfl
theorem powCells : Tryz.prog.cellsOf 222 = 20 := by kernel_rfl
theorem u64Cells : Tryz.prog.cellsOf 190 = 1 := by kernel_rfl
theorem hasTab_of {W : World} {l : List (String × DataW Unit)} (h : laidMetH Tryz.prog l W) (e : (l.filter fun x => x.1 == "internal/strconv.uint64pow10") = [("internal/strconv.uint64pow10", Lib.tabData .u64 Lib.pow10Tab)]) : HasTab W := by
  have h2 := h.filter (fun x => x.1 == "internal/strconv.uint64pow10")
  rw [e] at h2
  exact Lib.tabBelow_of_tabIs (Lib.tabIs_of_head (rest := []) powNamed powType Tryz.underlying222 Tryz.underlying190 u64Cells powCells h2)
end
section
theorem fine_all (s : List UInt8) : FineR ((kC s).getD []) := by
  cases h : kC s with
  | none => exact ⟨Nat.zero_le _, fun a ha => by simp at ha⟩
  | some r =>
    have := fine_get (fX h).1
    rwa [h] at this
def aRg : List (List Co) := [[⟨7, 2, ⟨1, 2, 0, [], []⟩⟩, ⟨2, 3, ⟨1, 3, 0, [], []⟩⟩], [⟨8, 1, ⟨2, 0, 0, [], []⟩⟩]]
theorem aG1 : kC [94, 49, 46, 50, 44, 33, 61, 49, 46, 51, 46, 48, 124, 124, 126, 50] = some aRg := by decide +kernel
theorem aG2 : kC [94, 49, 46, 50, 44, 32, 33, 61, 49, 46, 51, 46, 48, 32, 124, 124, 32, 126, 50] = some aRg := by decide +kernel
theorem aG3 : jM [94, 49, 46, 50, 44] = 6 := by decide +kernel
theorem aMay7 : rgMay aRg = true := by decide +kernel
theorem aPr7 : gN aRg = [94, 49, 46, 50, 44, 32, 33, 61, 49, 46, 51, 46, 48, 32, 124, 124, 32, 126, 50] := by decide +kernel
theorem aHas1 : q9 (x9 aRg) ⟨2, 9, 0, [], []⟩ = true := by rw [rgSet_has aMay7 (by decide +kernel)]; decide +kernel
theorem aHas2 : q9 (x9 aRg) ⟨1, 3, 0, [], []⟩ = false := by rw [rgSet_has aMay7 (by decide +kernel)]; decide +kernel
theorem aD1 : (kC [94, 49, 46, 50, 44, 33, 61, 49, 46, 51, 46, 48, 124, 124, 126, 50]).getD [] = aRg := by rw [aG1]; rfl
theorem aD2 : (kC [94, 49, 46, 50, 44, 32, 33, 61, 49, 46, 51, 46, 48, 32, 124, 124, 32, 126, 50]).getD [] = aRg := by rw [aG2]; rfl
theorem awake7_any (W : World) (ht : HasLib W) : Calls Tryz.prog 11 #[] W fun e w' => e = .returned (.bool true) ∧ Below W.heap.size W w' := by
  refine Z2 (n := 45) Tryz.func11 rfl (ZO (Zv Z5 (ZR (Zr (k := 12) (args := #[.string ⟨#[94, 49, 46, 50, 44, 33, 61, 49, 46, 51, 46, 48, 124, 124, 126, 50]⟩]) (fun v' L' => ∃ sv ob', v' = .tuple #[sv, .int .i64 0] ∧ L' = ob' ++ ([]) ∧ RgO sv (aRg) ob') (fun w hO => (pA ([94, 49, 46, 50, 44, 33, 61, 49, 46, 51, 46, 48, 124, 124, 126, 50]) w (by decide) (ht.on hO.below)).mono fun e w' ⟨v', ob', k1, k2, k3⟩ => ⟨.tuple #[v', .int .i64 0], _, k1.trans (by rw [show jM ([94, 49, 46, 50, 44, 33, 61, 49, 46, 51, 46, 48, 124, 124, 126, 50]) = 0 from (fX aG1).1]), ⟨v', ob', rfl, rfl, by rw [show (kC ([94, 49, 46, 50, 44, 33, 61, 49, 46, 51, 46, 48, 124, 124, 126, 50])).getD [] = aRg from aD1] at k2; exact k2⟩, Own.joinN hO k3⟩) (fun tv L1 hv1 => ?_)))))
  obtain ⟨sv1, o1, rfl, rfl, hr1⟩ := hv1
  obtain ⟨xs1, u1, p1, q1, rfl, rfl, hx1, ha1⟩ := hr1
  obtain ⟨A1, c1, rfl⟩ := Sl.form ha1.top
  refine kB (L' := p1 ++ q1) (List.append_nil _) (Zv (.tuple #[.agg #[.slice A1 xs1.length c1], .int .i64 0]) (Zv (.agg #[.slice A1 xs1.length c1]) (Zv (.int .i64 0) (Za (.agg #[.slice none 0 0]) (fun b1 => Zs 0 ⟨b1, #[.slice none 0 0], 25⟩ (off := 0) (.agg #[.slice A1 xs1.length c1]) (Zv (.int .i64 0) (ZR (Zr (k := 14) (args := #[.string ⟨#[94, 49, 46, 50, 44, 32, 33, 61, 49, 46, 51, 46, 48, 32, 124, 124, 32, 126, 50]⟩]) (fun v' L' => ∃ sv ob', v' = .tuple #[sv, .int .i64 0] ∧ L' = ob' ++ (⟨b1, #[.slice A1 xs1.length c1], 25⟩ :: ((p1 ++ q1))) ∧ SetO sv (x9 (aRg)) ob') (fun w hO => (gOf_any ([94, 49, 46, 50, 44, 32, 33, 61, 49, 46, 51, 46, 48, 32, 124, 124, 32, 126, 50]) w (by decide) (ht.on hO.below)).mono fun e w' ⟨v', ob', k1, k2, k3⟩ => ⟨.tuple #[v', .int .i64 0], _, k1.trans (by rw [show jM ([94, 49, 46, 50, 44, 32, 33, 61, 49, 46, 51, 46, 48, 32, 124, 124, 32, 126, 50]) = 0 from (fX aG2).1]), ⟨v', ob', rfl, rfl, by rw [show (kC ([94, 49, 46, 50, 44, 32, 33, 61, 49, 46, 51, 46, 48, 32, 124, 124, 32, 126, 50])).getD [] = aRg from aD2] at k2; exact k2⟩, Own.joinN hO k3⟩) (fun tv L2 hv2 => ?_)))))))))
  obtain ⟨sv2, o2, rfl, rfl, hr2⟩ := hv2
  obtain ⟨V2, U2, c2, d2, rfl⟩ := hr2.form
  refine Zv (.tuple #[.agg #[.slice V2 ((x9 (aRg)).rel.length) c2, .slice U2 ((x9 (aRg)).pre.length) d2], .int .i64 0]) (Zv (.agg #[.slice V2 ((x9 (aRg)).rel.length) c2, .slice U2 ((x9 (aRg)).pre.length) d2]) (Zv (.int .i64 0) (Za (.agg ZM) (fun b2 => Zs 0 ⟨b2, ZM, 31⟩ (off := 0) (.agg #[.slice V2 ((x9 (aRg)).rel.length) c2, .slice U2 ((x9 (aRg)).pre.length) d2]) (Zv (.int .i64 0) (ZR (Zr (k := 12) (args := #[.string ⟨#[94, 49, 46, 50, 44]⟩]) (fun v' L' => ∃ sv ob', v' = .tuple #[sv, .int .i64 6] ∧ L' = ob' ++ (⟨b2, #[.slice V2 ((x9 (aRg)).rel.length) c2, .slice U2 ((x9 (aRg)).pre.length) d2], 31⟩ :: (o2 ++ (⟨b1, #[.slice A1 xs1.length c1], 25⟩ :: ((p1 ++ q1))))) ∧ RgO sv ((kC [94, 49, 46, 50, 44]).getD []) ob') (fun w hO => (pA ([94, 49, 46, 50, 44]) w (by decide) (ht.on hO.below)).mono fun e w' ⟨v', ob', k1, k2, k3⟩ => ⟨.tuple #[v', .int .i64 6], _, k1.trans (by rw [show jM ([94, 49, 46, 50, 44]) = 6 from aG3]), ⟨v', ob', rfl, rfl, by rw [show (kC ([94, 49, 46, 50, 44])).getD [] = (kC [94, 49, 46, 50, 44]).getD [] from rfl] at k2; exact k2⟩, Own.joinN hO k3⟩) (fun tv L3 hv3 => ?_))))))))
  obtain ⟨sv3, o3, rfl, rfl, hr3⟩ := hv3
  obtain ⟨xs3, u3, p3, q3, rfl, rfl, hx3, ha3⟩ := hr3
  obtain ⟨A3, c3, rfl⟩ := Sl.form ha3.top
  refine Zv (.tuple #[.agg #[.slice A3 xs3.length c3], .int .i64 6]) (Zv (.agg #[.slice A3 xs3.length c3]) (Zv (.int .i64 6) (Za (.agg #[.slice none 0 0]) (fun b3 => Zs 0 ⟨b3, #[.slice none 0 0], 25⟩ (off := 0) (.agg #[.slice A3 xs3.length c3]) (Zv (.int .i64 6) (ZR (Zv (.int .i64 0) (Zv Z4 ?_))))))))
  refine Zv Z4 (Zv (.int .i64 0) (Zv Z4 (Zv Z4 (Zv Z4 (pT ⟨b1, #[.slice A1 xs1.length c1], 25⟩ (off := 0) (.agg #[.slice A1 xs1.length c1]) (by kernel_rfl) rfl (by simp) (by kernel_rfl) (by kernel_rfl) (Zc (k := 21) (args := #[.agg #[.slice A1 xs1.length c1]]) (.string (mkS [94, 49, 46, 50, 44, 32, 33, 61, 49, 46, 51, 46, 48, 32, 124, 124, 32, 126, 50])) (fun w hO => vR (by rw [hx1, aPr7]) (f8 A1 c1 xs1 w (RgA.inn ha1 rfl hO (fun x hx => by simp [hx]) (fun x hx => by simp [hx]) (by rw [hx1]; exact (aD1 ▸ fine_all ([94, 49, 46, 50, 44, 33, 61, 49, 46, 51, 46, 48, 124, 124, 126, 50])))) (ht.on hO.below))) (zV Z4 (by kernel_rfl) (yM (a := ([94, 49, 46, 50, 44, 32, 33, 61, 49, 46, 51, 46, 48, 32, 124, 124, 32, 126, 50])) (b := ([94, 49, 46, 50, 44, 32, 33, 61, 49, 46, 51, 46, 48, 32, 124, 124, 32, 126, 50])) rfl (by kernel_rfl) (by kernel_rfl) (decide_eq_true (rfl))) (Zv Z4 (Zv Z4 (Zv (.int .i64 6) (Zv Z4 ?_)))))))))))
  refine Zv Z4 (Zv Z4 (pT ⟨b2, #[.slice V2 ((x9 (aRg)).rel.length) c2, .slice U2 ((x9 (aRg)).pre.length) d2], 31⟩ (off := 0) (.agg #[.slice V2 ((x9 (aRg)).rel.length) c2, .slice U2 ((x9 (aRg)).pre.length) d2]) (by kernel_rfl) rfl (by simp) (by kernel_rfl) (by kernel_rfl) (Zv (.agg #[.int .i64 2, .int .i64 9, .int .i64 0, .string ⟨#[]⟩, .string ⟨#[]⟩]) (Zc (k := 30) (args := #[.agg #[.slice V2 ((x9 (aRg)).rel.length) c2, .slice U2 ((x9 (aRg)).pre.length) d2], .agg #[.int .i64 2, .int .i64 9, .int .i64 0, .string ⟨#[]⟩, .string ⟨#[]⟩]]) Z4 (fun w hO => ret_b (aHas1) (rsetHas_any V2 U2 c2 d2 (x9 (aRg)) ⟨2, 9, 0, [], []⟩ w (SetO.inn hr2 hO (fun x hx => by simp [hx]) ((bV (aRg))) (by decide)) ⟨by decide, by decide⟩)) (Zv Z4 (Zv Z4 (pT ⟨b2, #[.slice V2 ((x9 (aRg)).rel.length) c2, .slice U2 ((x9 (aRg)).pre.length) d2], 31⟩ (off := 0) (.agg #[.slice V2 ((x9 (aRg)).rel.length) c2, .slice U2 ((x9 (aRg)).pre.length) d2]) (by kernel_rfl) rfl (by simp) (by kernel_rfl) (by kernel_rfl) (Zv (.agg #[.int .i64 1, .int .i64 3, .int .i64 0, .string ⟨#[]⟩, .string ⟨#[]⟩]) (Zc (k := 30) (args := #[.agg #[.slice V2 ((x9 (aRg)).rel.length) c2, .slice U2 ((x9 (aRg)).pre.length) d2], .agg #[.int .i64 1, .int .i64 3, .int .i64 0, .string ⟨#[]⟩, .string ⟨#[]⟩]]) Z5 (fun w hO => ret_b (aHas2) (rsetHas_any V2 U2 c2 d2 (x9 (aRg)) ⟨1, 3, 0, [], []⟩ w (SetO.inn hr2 hO (fun x hx => by simp [hx]) ((bV (aRg))) (by decide)) ⟨by decide, by decide⟩)) (Zv Z4 (Zv Z4 ?_)))))))))))
  exact Zv Z4 (ZN (zC (ZF Z4 Tryz.results11 (fun w hO => ⟨rfl, hO.below⟩))))
end
section
section
variable {M : List Nat} {P : Program} {n : Nat} {ops : Array Oper} {W : World} {L0 : List Blk} {Q : Exit → Act → World → Prop} {fuel : Nat} {listed : Array Bool} {f : Nat → Value}
end
end
section
open Go.ChangeShapes Go.WideShapes Go.ChangeAt Go.RowKit Go.Deep
theorem mk_self (p : ByteArray) : mkS p.data.toList = p := by unfold mkS; simp
def Ver.wide (v : Ver) : Prop := v.pre.length ≤ maxLen ∧ v.build.length ≤ maxLen
def Ver.i64 (v : Ver) : Prop := ((-9223372036854775808 ≤ v.maj ∧ v.maj ≤ 9223372036854775807) ∧ (-9223372036854775808 ≤ v.min ∧ v.min ≤ 9223372036854775807)) ∧ (-9223372036854775808 ≤ v.pat ∧ v.pat ≤ 9223372036854775807)
theorem wf_i64 {a : Int} (h : (Lit.int .i64 a).wf = true) : -9223372036854775808 ≤ a ∧ a ≤ 9223372036854775807 := bounds_i64 h
section
variable {H : Type} {enc : TypeId × Value → H} {W : World}
theorem dG {fuel : Nat} {cs : List Value} {x : DataW H × List MemPlace} (h : DataW.trod enc Tryz.prog W 0 (fun _ => true) true fuel 3 cs = some x) : ∃ a, cs = [.int .i64 a] ∧ (-9223372036854775808 ≤ a ∧ a ≤ 9223372036854775807) := by
  obtain ⟨a, e, _, hw⟩ := DataW.trod_int Tryz.underlying3 h
  exact ⟨a, e, wf_i64 hw⟩
theorem cells_str {fuel : Nat} {cs : List Value} {x : DataW H × List MemPlace} (h : DataW.trod enc Tryz.prog W 0 (fun _ => true) true fuel 9 cs = some x) : ∃ p : List UInt8, cs = [.string (mkS p)] ∧ p.length ≤ maxLen := by
  obtain ⟨p, e, _, hw⟩ := DataW.trod_string Tryz.underlying9 h
  exact ⟨p.data.toList, by rw [mk_self]; exact e, by rw [qU]; exact hw⟩
theorem size_int : Tryz.prog.cellsOf 3 = 1 := by kernel_rfl
theorem size_str : Tryz.prog.cellsOf 9 = 1 := by kernel_rfl
theorem size_ver : Tryz.prog.cellsOf 44 = 5 := by kernel_rfl
theorem cells_ver {fuel : Nat} {cs : List Value} {x : DataW H × List MemPlace} (h : DataW.trod enc Tryz.prog W 0 (fun _ => true) true fuel 44 cs = some x) : ∃ v : Ver, cs = (y6 v).cells.toList ∧ v.wide ∧ v.i64 := by
  obtain ⟨xs, n, _, _, hl, hxl, hg⟩ := DataW.trod_struct Tryz.underlying44 h
  rw [size_ver] at hl
  match cs, hl with
  | [c0, c1, c2, c3, c4], _ =>
    have g : ∀ i, i < 5 → ∃ y, xs[i]? = some y := fun i hi => ⟨_, List.getElem?_eq_getElem (by rw [hxl]; exact hi)⟩
    obtain ⟨y0, e0⟩ := g 0 (by omega)
    obtain ⟨y1, e1⟩ := g 1 (by omega)
    obtain ⟨y2, e2⟩ := g 2 (by omega)
    obtain ⟨y3, e3⟩ := g 3 (by omega)
    obtain ⟨y4, e4⟩ := g 4 (by omega)
    obtain ⟨a, ha, wa⟩ := dG ((hg 0 _ rfl).trans e0)
    obtain ⟨b, hb, wb⟩ := dG ((hg 1 _ rfl).trans e1)
    obtain ⟨c, hc, wc⟩ := dG ((hg 2 _ rfl).trans e2)
    obtain ⟨p, hp, wp⟩ := cells_str ((hg 3 _ rfl).trans e3)
    obtain ⟨q, hq, wq⟩ := cells_str ((hg 4 _ rfl).trans e4)
    have ha2 : List.take (Tryz.prog.cellsOf 3) (List.drop 0 [c0, c1, c2, c3, c4]) = _ := ha
    have hb2 : List.take (Tryz.prog.cellsOf 3) (List.drop 1 [c0, c1, c2, c3, c4]) = _ := hb
    have hc2 : List.take (Tryz.prog.cellsOf 3) (List.drop 2 [c0, c1, c2, c3, c4]) = _ := hc
    have hp2 : List.take (Tryz.prog.cellsOf 9) (List.drop 3 [c0, c1, c2, c3, c4]) = _ := hp
    have hq2 : List.take (Tryz.prog.cellsOf 9) (List.drop 4 [c0, c1, c2, c3, c4]) = _ := hq
    rw [size_int] at ha2 hb2 hc2
    rw [size_str] at hp2 hq2
    obtain rfl : c0 = _ := List.singleton_inj.1 ha2
    obtain rfl : c1 = _ := List.singleton_inj.1 hb2
    obtain rfl : c2 = _ := List.singleton_inj.1 hc2
    obtain rfl : c3 = _ := List.singleton_inj.1 hp2
    obtain rfl : c4 = _ := List.singleton_inj.1 hq2
    exact ⟨⟨a, b, c, p, q⟩, rfl, ⟨wp, wq⟩, ⟨⟨wa, wb⟩, wc⟩⟩
def Cu.wide (c : Cu) : Prop := c.v.wide ∧ c.v.i64 ∧ (-9223372036854775808 ≤ c.e ∧ c.e ≤ 9223372036854775807)
def Sp.wide (s : Sp) : Prop := s.lo.wide ∧ s.hi.wide
theorem cells_back {v : Value} {cs : Array Value} {l : List Value} (h : v = .agg cs) (e : v.cells.toList = l) : v = .agg l.toArray := by
  subst h
  have : cs.toList = l := e
  rw [← this]
end
end
section
open Go.ChangeShapes Go.WideShapes Go.ChangeAt Go.RowKit Go.Deep
theorem list_of {α : Type} {p : Nat → α → Prop} : ∀ (n : Nat), (∀ i, i < n → ∃ x, p i x) → ∃ l : List α, l.length = n ∧ ∀ i (h : i < l.length), p i l[i]
  | 0, _ => ⟨[], rfl, fun i h => absurd h (Nat.not_lt_zero _)⟩
  | n + 1, h => by
    obtain ⟨l, hl, hp⟩ := list_of n fun i hi => h i (Nat.lt_succ_of_lt hi)
    obtain ⟨x, hx⟩ := h n (Nat.lt_succ_self n)
    refine ⟨l ++ [x], by simp [hl], fun i hi => ?_⟩
    by_cases h1 : i < l.length
    · rw [List.getElem_append_left h1]; exact hp i h1
    · have : i = n := by simp at hi; omega
      subst this
      rw [List.getElem_append_right (by omega)]
      simpa [hl] using hx
theorem cell_spot {w : World} {a : Addr} {v : Value} (h : w.cell? a = some v) : a.spot = none := by
  unfold World.cell? at h
  split at h
  · split at h
    · cases h
    · rename_i hs; simpa using hs
  · cases h
theorem addr_at {a : Addr} (h : a.spot = none) (k : Nat) : a.add k = ⟨a.block, a.off + k, none⟩ := by
  obtain ⟨b, o, s⟩ := a
  obtain rfl : s = none := h
  exact yQ b o k
end
section
open Go.ChangeShapes Go.WideShapes Go.ChangeAt Go.RowKit Go.Deep
section
variable {H : Type} {enc : TypeId × Value → H} {W : World}
theorem size_co : Tryz.prog.cellsOf 51 = 7 := by kernel_rfl
def Co.wide (c : Co) : Prop := c.v.wide ∧ c.v.i64 ∧ (-9223372036854775808 ≤ c.op ∧ c.op ≤ 9223372036854775807) ∧ (-9223372036854775808 ≤ c.parts ∧ c.parts ≤ 9223372036854775807)
theorem cells_co {fuel : Nat} {cs : List Value} {x : DataW H × List MemPlace} (h : DataW.trod enc Tryz.prog W 0 (fun _ => true) true fuel 51 cs = some x) : ∃ c : Co, cs = (coV c).cells.toList ∧ c.wide := by
  obtain ⟨xs, n, _, _, hl, hxl, hg⟩ := DataW.trod_struct Tryz.underlying51 h
  rw [size_co] at hl
  match cs, hl with
  | [c0, c1, c2, c3, c4, c5, c6], _ =>
    have g : ∀ i, i < 3 → ∃ y, xs[i]? = some y := fun i hi => ⟨_, List.getElem?_eq_getElem (by rw [hxl]; exact hi)⟩
    obtain ⟨y0, e0⟩ := g 0 (by omega)
    obtain ⟨y1, e1⟩ := g 1 (by omega)
    obtain ⟨y2, e2⟩ := g 2 (by omega)
    obtain ⟨a, ha, wa⟩ := dG ((hg 0 _ rfl).trans e0)
    obtain ⟨b, hb, wb⟩ := dG ((hg 1 _ rfl).trans e1)
    obtain ⟨v, hv, w1, w2⟩ := cells_ver ((hg 2 _ rfl).trans e2)
    have ha2 : List.take (Tryz.prog.cellsOf 3) (List.drop 0 [c0, c1, c2, c3, c4, c5, c6]) = _ := ha
    have hb2 : List.take (Tryz.prog.cellsOf 3) (List.drop 1 [c0, c1, c2, c3, c4, c5, c6]) = _ := hb
    have hv2 : List.take (Tryz.prog.cellsOf 44) (List.drop 2 [c0, c1, c2, c3, c4, c5, c6]) = _ := hv
    rw [size_int] at ha2 hb2
    rw [size_ver] at hv2
    obtain rfl : c0 = _ := List.singleton_inj.1 ha2
    obtain rfl : c1 = _ := List.singleton_inj.1 hb2
    have hv3 : [c2, c3, c4, c5, c6] = (y6 v).cells.toList := hv2
    refine ⟨⟨a, b, v⟩, ?_, w1, w2, wa, wb⟩
    show .int .i64 a :: .int .i64 b :: [c2, c3, c4, c5, c6] = _
    rw [hv3]; rfl
end
end
section
open Go.ChangeShapes Go.WideShapes Go.ChangeAt Go.RowKit Go.Deep
theorem reads_cells {α : Type} {g : α → List Value} {sz : Nat} (h0 : 0 < sz) (hg : ∀ x, (g x).length = sz) {p : α → Prop} {W : World} {a : Addr} {len : Nat} (hel : ∀ i, i < len → ∃ x, p x ∧ W.cells? 0 (a.add (i * sz)) sz = some (g x)) :
    ∃ l : List α, l.length = len ∧ Reads g W W.heap.size (some a) l ∧ ∀ x ∈ l, p x := by
  obtain ⟨l, hll, hp⟩ := list_of (p := fun i (x : α) => p x ∧ W.cells? 0 (a.add (i * sz)) sz = some (g x)) len hel
  refine ⟨l, hll, fun hl0 => ?_, fun x hx => ?_⟩
  · have c0 := (hp 0 hl0).2
    have hc : ∀ i (hi : i < l.length) j u, (g l[i])[j]? = some u → W.cell? ((a.add (i * sz)).add j) = some u := fun i hi j u hj => by
      obtain ⟨_, hn, hx⟩ := World.cells?_some (hp i hi).2
      have hjs : j < sz := by have := (List.getElem?_eq_some_iff.1 hj).1; rwa [hg] at this
      first | rw [hx j hjs, hj] | (have := hx j hjs; rw [this]; exact hj)
    have s0 : (g l[0])[0]? = some ((g l[0])[0]'(by rw [hg]; exact h0)) := List.getElem?_eq_getElem _
    have sp : a.spot = none := by
      have := cell_spot (hc 0 hl0 0 _ s0)
      simpa [Addr.add] using this
    refine ⟨a.block, a.off, ?_, ?_, fun k u hk => ?_⟩
    · obtain ⟨b, o, s⟩ := a
      obtain rfl : s = none := sp
      rfl
    · have := World.cells?_block c0 h0
      rwa [addr_at sp] at this
    · have hkl : k < l.length * sz := by have := (List.getElem?_eq_some_iff.1 hk).1; rwa [kJ hg] at this
      have hi : k / sz < l.length := Nat.div_lt_of_lt_mul (by rwa [Nat.mul_comm] at hkl)
      have e : k / sz * sz + k % sz = k := Nat.div_add_mod' k sz
      have hms : k % sz < sz := Nat.mod_lt _ h0
      have h2 := flat_at hg l (k / sz) hi
      have h3 : (g l[k / sz])[k % sz]? = some u := by
        rw [← h2, List.getElem?_take, if_pos hms, List.getElem?_drop, e]; exact hk
      have := hc (k / sz) hi (k % sz) u h3
      rw [addr_at sp, yQ, Nat.add_assoc, e] at this
      exact this
  · obtain ⟨i, hi, rfl⟩ := List.mem_iff_getElem.1 hx
    exact (hp i hi).1
theorem size_comps : Tryz.prog.cellsOf 47 = 1 := by kernel_rfl
theorem size_rg : Tryz.prog.cellsOf 25 = 1 := by kernel_rfl
section
variable {H : Type} {enc : TypeId × Value → H} {W : World}
theorem cells_comps {fuel : Nat} {cs : List Value} {x : DataW H × List MemPlace} (h : DataW.trod enc Tryz.prog W 0 (fun _ => true) true fuel 47 cs = some x) : ∃ (A : Option Addr) (cap : Nat) (l : List Co), cs = [.slice A l.length cap] ∧ Reads coC W W.heap.size A l ∧ l.length ≤ cap ∧ cap ≤ maxLen := by
  rcases DataW.trod_slice Tryz.underlying47 h with ⟨hcs, _⟩ | ⟨a, len, cap, elems, rest, n, _, hcs, _, hb, hl, hm, hlen, hel, _, _⟩
  · exact ⟨none, 0, [], hcs, fun h => by simp at h, Nat.le_refl _, Nat.zero_le _⟩
  · subst hcs
    rw [size_co] at hel
    obtain ⟨l, hll, hr, _⟩ := reads_cells (g := coC) (sz := 7) (p := fun _ => True) (by decide) j4 (W := W) (a := a) (len := len) fun i hi => by
      have h1 := hel i hi
      rw [List.getElem?_eq_getElem (by omega)] at h1
      obtain ⟨cs, e1, e2⟩ := Option.bind_eq_some_iff.1 h1
      obtain ⟨c, e3, _⟩ := cells_co e2
      exact ⟨c, trivial, by rw [e1, e3]; rfl⟩
    exact ⟨some a, cap, l, by rw [hll], hr, by omega, hm⟩
theorem cells_alts {fuel : Nat} {cs : List Value} {x : DataW H × List MemPlace} (h : DataW.trod enc Tryz.prog W 0 (fun _ => true) true fuel 23 cs = some x) : ∃ (A : Option Addr) (cap : Nat) (xs : List Al), cs = [.slice A xs.length cap] ∧ Reads alC W W.heap.size A xs ∧ xs.length ≤ cap ∧ cap ≤ maxLen ∧ ∀ y ∈ xs, Reads coC W W.heap.size y.A y.l ∧ y.l.length ≤ y.cap ∧ y.cap ≤ maxLen := by
  rcases DataW.trod_slice Tryz.underlying23 h with ⟨hcs, _⟩ | ⟨a, len, cap, elems, rest, n, _, hcs, _, hb, hl, hm, hlen, hel, _, _⟩
  · exact ⟨none, 0, [], hcs, fun h => by simp at h, Nat.le_refl _, Nat.zero_le _, fun s hs => by simp at hs⟩
  · subst hcs
    rw [size_comps] at hel
    obtain ⟨xs, hll, hr, hp⟩ := reads_cells (g := alC) (sz := 1) (p := fun y => Reads coC W W.heap.size y.A y.l ∧ y.l.length ≤ y.cap ∧ y.cap ≤ maxLen) (by decide) gO (W := W) (a := a) (len := len) fun i hi => by
      have h1 := hel i hi
      rw [List.getElem?_eq_getElem (by omega)] at h1
      obtain ⟨cs, e1, e2⟩ := Option.bind_eq_some_iff.1 h1
      obtain ⟨B, c, l, e3, r1, r2, r3⟩ := cells_comps e2
      exact ⟨⟨B, l, c⟩, ⟨r1, r2, r3⟩, by rw [e1, e3]; rfl⟩
    exact ⟨some a, cap, xs, by rw [hll], hr, by omega, hm, hp⟩
theorem open_rg {base : Nat} {v : Value} {d : DataW H} {ps : List MemPlace} (hval : Value.okWide Tryz.prog W .any base 25 v) (h : DataW.Trod enc Tryz.prog W 0 (fun _ => true) true 25 v d ps) : ∃ (A : Option Addr) (cap : Nat) (xs : List Al), v = .agg #[.slice A xs.length cap] ∧ Reads alC W W.heap.size A xs ∧ xs.length ≤ cap ∧ cap ≤ maxLen ∧ ∀ y ∈ xs, Reads coC W W.heap.size y.A y.l ∧ y.l.length ≤ y.cap ∧ y.cap ≤ maxLen := by
  obtain ⟨cs, hc, _⟩ := okWide_struct Tryz.underlying25 hval
  obtain ⟨fuel, hf⟩ := h
  obtain ⟨xs, n, _, _, hl, hxl, hg⟩ := DataW.trod_struct Tryz.underlying25 hf
  rw [size_rg] at hl
  have g : ∀ i, i < 1 → ∃ y, xs[i]? = some y := fun i hi => ⟨_, List.getElem?_eq_getElem (by rw [hxl]; exact hi)⟩
  obtain ⟨y0, e0⟩ := g 0 (by omega)
  obtain ⟨A, c, l, ha, ra, c1, c2, rc⟩ := cells_alts ((hg 0 _ rfl).trans e0)
  have ha2 : List.take (Tryz.prog.cellsOf 23) (List.drop 0 v.cells.toList) = _ := ha
  rw [show Tryz.prog.cellsOf 23 = 1 by kernel_rfl, List.drop_zero, List.take_of_length_le (by omega)] at ha2
  exact ⟨A, c, l, (cells_back hc ha2).trans rfl, ra, c1, c2, rc⟩
end
end
end Go.Proofs.YtkljdpiaghepfaaGreatDoor
