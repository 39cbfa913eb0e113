/-
  What the statement's proof leans on: the ways of walking, tI mathematics, and what the program's functions return; each theorem says on what conditions.
-/
import Derived.Tactics
import Derived.Lib.AppendZerosOnto
import Derived.Lib.SliceRun
import Derived.Outline
import Derived.Test.YtkljdpiaghepfaaGreatDoorME2
set_option maxRecDepth 1000000
set_option maxHeartbeats 8000000
set_option linter.unusedVariables false
set_option linter.unusedSimpArgs false
namespace Go.Proofs.YtkljdpiaghepfaaGreatDoor
open Go.RowKit

section
theorem nH {l : List Sp} {k : Nat} (hk : k < l.length) (h : zL (l.take k) = true) (hs : l[k].may = true) (hc : ∀ h0 : 0 < k, zM (l[k - 1]'(by omega)).hi l[k].lo < 0) : zL (l.take (k + 1)) = true := by
  rw [List.take_succ_eq_append_getElem hk]
  refine uG h hs fun t ht => ?_
  cases k with
  | zero => simp at ht
  | succ k =>
    have e := List.take_succ_eq_append_getElem (l := l) (i := k) (by omega)
    rw [e, List.getLast?_concat] at ht
    obtain rfl : l[k] = t := Option.some.inj ht
    exact hc (by omega)
theorem row_pair : ∀ {l : List Sp}, zL l = true → ∀ k (hk : k < l.length) (h0 : 0 < k), zM (l[k - 1]'(by omega)).hi l[k].lo < 0
  | [], _, k, hk, _ => by simp at hk
  | s :: l, h, k, hk, h0 => by
    cases k with
    | zero => omega
    | succ k =>
      cases k with
      | zero => exact g6 h _ (List.getElem_mem _)
      | succ k => exact row_pair (kS h) (k + 1) (by simpa using hk) (by omega)
theorem any_drop (l : List Sp) (v : Ver) (k : Nat) (hk : k < l.length) : (l.drop k).any (gL · v) = (gL l[k] v || (l.drop (k + 1)).any (gL · v)) := by
  rw [List.drop_eq_getElem_cons hk, List.any_cons]
theorem wY (A : Option Addr) (cap : Nat) (l : List Sp) (W : World) (hv : Reads x4 W W.heap.size A l) (hn : l.length ≤ 1000000) (hl : x7 l) :
    Calls Tryz.prog 54 #[.slice A l.length cap] W fun e w' => e = .returned (.bool (zL l)) ∧ Below W.heap.size W w' := by
  refine zQ (n := 35) Tryz.func54 rfl (by kernel_rfl) (by kernel_rfl) (ZO (Zv (.bool false) (ZN (z6 (ZO (Zv (.int .i64 0) (zP (zB ?_))))))))
  refine zK (yP (fun L f m => ∃ (k : Nat) (j : Nat → Value), (k ≤ l.length ∧ zL (l.take k) = true) ∧ L = [] ∧ f = kA j [(0, .slice A l.length cap), (3, .int .i64 (k : Int))] ∧ m = l.length - k) (l.length - 0) ⟨0, _, ⟨Nat.zero_le _, by rw [List.take_zero]; rfl⟩, rfl, ZU, rfl⟩ ?_)
  rintro L f m ⟨k, j, hrel, rfl, rfl, rfl⟩
  have hkl := hrel.1
  refine z6 (ZO (Zv (.int .i64 (k : Int)) (Zv (.slice A l.length cap) (Zv (.int .i64 (l.length : Int)) ?_))))
  by_cases h1 : (k : Int) < (l.length : Int)
  · have hk : k < l.length := by omega
    obtain ⟨b, off, hA, hlt, hcell⟩ := hv (by omega)
    obtain ⟨s, hs⟩ : ∃ s, l[k] = s := ⟨_, rfl⟩
    have hsk : s.short := hs ▸ hl l[k] (List.getElem_mem hk)
    refine Zd (p := (k : Int) < (l.length : Int)) true (decide_eq_true (h1)) (ZY (ZB (z6 (zK (z6 (vK (by kernel_rfl) (by kernel_rfl) (Zw (.slice A l.length cap) (Zw (.int .i64 (k : Int)) ?_))))))))
    refine gF (.pointer (some ⟨b, off + k * 14, none⟩)) (by kernel_rfl) (ZA (b := b) (off := off) (c := cap) (n := l.length) (k := .i64) (j := (k : Int)) (e := 80) (sz := 14) hA) (q_old (yY s) (a := ⟨b, off + k * 14, none⟩) (by kernel_rfl) rfl (by kernel_rfl) (fun w hO => yD yB (fun j u h => (hO.below.cell (p := ⟨b, off + j, none⟩) hlt).trans (hcell j u h)) k 0 hk (by omega) _ (by rw [hs]; kernel_rfl)) (Zq (k := 96) (args := #[yY s]) (.bool s.may) (fun w _ => tC s w hsk) ?_))
    cases h2 : s.may with
    | true =>
      refine Zw (.bool false) (Zw (.bool false) (Zw (.int .i64 (k : Int)) ?_))
      by_cases h3 : (0 : Int) < (k : Int)
      · have hk1 : k - 1 < l.length := by omega
        obtain ⟨r, hr⟩ : ∃ r, l[k - 1] = r := ⟨_, rfl⟩
        have hrk : r.short := hr ▸ hl l[k - 1] (List.getElem_mem hk1)
        refine Ze (p := (0 : Int) < (k : Int)) true (decide_eq_true (h3)) (Zw (.bool true) (Zw (.slice A l.length cap) (Zw (.int .i64 (k : Int)) (q_sum (k := .i64) (((k : Int) : Int) - 1) (by kernel_rfl) (fun _ => by kernel_rfl) (IntWalk.i64_in _ (by omega)) (gF (.pointer (some ⟨b, off + (k - 1) * 14, none⟩)) (by kernel_rfl) (jJ (b := b) (off := off) (c := cap) (n := l.length) (k := .i64) (j := ((k : Int) : Int) - 1) (e := 80) (sz := 14) rfl (by kernel_rfl) hA (by kernel_rfl) (by kernel_rfl) (by kernel_rfl) (by omega) (by omega) (by omega)) (Zw (.pointer (some ⟨b, off + (k - 1) * 14 + 7, none⟩)) (q_old (zA r.hi) (a := ⟨b, off + (k - 1) * 14 + 7, none⟩) (by kernel_rfl) rfl (by kernel_rfl) (fun w hO => yD yB (fun j u h => (hO.below.cell (p := ⟨b, off + j, none⟩) hlt).trans (hcell j u h)) (k - 1) 7 hk1 (by omega) _ (by rw [hr]; kernel_rfl)) (Zw (.slice A l.length cap) (Zw (.int .i64 (k : Int)) (gF (.pointer (some ⟨b, off + k * 14, none⟩)) (by kernel_rfl) (ZA (b := b) (off := off) (c := cap) (n := l.length) (k := .i64) (j := (k : Int)) (e := 80) (sz := 14) hA) (Zw (.pointer (some ⟨b, off + k * 14 + 0, none⟩)) ?_)))))))))))
        refine q_old (zA s.lo) (a := ⟨b, off + k * 14 + 0, none⟩) (by kernel_rfl) rfl (by kernel_rfl) (fun w hO => yD yB (fun j u h => (hO.below.cell (p := ⟨b, off + j, none⟩) hlt).trans (hcell j u h)) k 0 hk (by omega) _ (by rw [hs]; kernel_rfl)) (Zq (k := 94) (args := #[zA r.hi, zA s.lo]) (.int .i64 (zM r.hi s.lo)) (fun w _ => j7 r.hi s.lo w hrk.2 hsk.1) ?_)
        by_cases h4 : (0 : Int) ≤ zM r.hi s.lo
        · refine nI (p := (0 : Int) ≤ zM r.hi s.lo) true (by kernel_rfl) (fun _ => by kernel_rfl) (decide_eq_true (h4)) ?_
          refine Zw (.bool true) (Zw (.bool true) (kP (zB (Zt (ZO (Zv (.bool false) (ZN (zC (zF ?_)))))))))
          exact z8 (yC (zF (z8 (ZF (.bool false) Tryz.results54 (fun w hO => ⟨by rw [show zL l = false from by cases hm : zL l with | false => rfl | true => first | (have h := x8 hm l[k] (List.getElem_mem hk); rw [hs] at h; simp_all; done) | (have h := row_pair hm k hk (by omega); rw [hs, hr] at h; omega)], hO.below⟩)))))
        refine Ze (p := (0 : Int) ≤ zM r.hi s.lo) false (decide_eq_false (h4)) (Zw (.bool false) (Zw (.bool false) (kP (zB (Zf (yS (zS (zB (z7 (Zv (.int .i64 (k : Int)) (Zu (k := .i64) (((k + 1 : Nat) : Int)) (IntWalk.i64_in _ (by omega)) ?_)))))))))))
        refine Zv (.int .i64 ((k + 1 : Nat) : Int)) (zP ?_)
        have hnext : zL (l.take (k + 1)) = true := nH hk hrel.2 (by rw [hs]; assumption) (fun _ => by rw [hr, hs]; omega)
        exact zU (m' := l.length - (k + 1)) (by omega) ⟨k + 1, _, ⟨by omega, hnext⟩, rfl, ZU, rfl⟩
      refine Ze (p := (0 : Int) < (k : Int)) false (decide_eq_false (h3)) (Zw (.bool false) (Zj (Zj (Zj (Zj (Zj (Zj (Zj (Zj (Zj (Zj ?_)))))))))))
      refine Zj (Zj (Zj (Zw (.bool false) (Zw (.bool false) (kP (zB (Zf (yS (zS (zB (z7 ?_)))))))))))
      refine Zv (.int .i64 (k : Int)) (Zu (k := .i64) (((k + 1 : Nat) : Int)) (IntWalk.i64_in _ (by omega)) (Zv (.int .i64 ((k + 1 : Nat) : Int)) (zP ?_)))
      have hnext : zL (l.take (k + 1)) = true := nH hk hrel.2 (by rw [hs]; assumption) (fun h0 => absurd h0 (by omega))
      exact zU (m' := l.length - (k + 1)) (by omega) ⟨k + 1, _, ⟨by omega, hnext⟩, rfl, ZU, rfl⟩
    | false =>
      refine Zw (.bool true) (Zw (.bool true) (Zj (Zj (Zj (Zj (Zj (Zj (Zj (Zj (Zj (Zj ?_)))))))))))
      refine Zj (Zj (Zj (Zj (Zj (Zj (Zj (Zw (.bool true) (kP (zB (Zt (z6 ?_)))))))))))
      exact z7 (Zv (.bool false) (ZN (zC (zF (z8 (yC (zF (z8 (ZF (.bool false) Tryz.results54 (fun w hO => ⟨by rw [show zL l = false from by cases hm : zL l with | false => rfl | true => first | (have h := x8 hm l[k] (List.getElem_mem hk); rw [hs] at h; simp_all; done) | (have h := row_pair hm k hk (by omega); rw [hs, hr] at h; omega)], hO.below⟩))))))))))
  refine Zd (p := (k : Int) < (l.length : Int)) false (decide_eq_false (h1)) (ZX (y8 (zD (zN (zI (zB (ZO (Zv (.bool true) ?_))))))))
  exact ZN (zC (ZF (.bool true) Tryz.results54 (fun w hO => ⟨by rw [show zL l = true from by have h := hrel.2; rwa [List.take_of_length_le (by omega)] at h], hO.below⟩)))
theorem fO (A : Option Addr) (cap : Nat) (l : List Sp) (v : Ver) (W : World) (hv : Reads x4 W W.heap.size A l) (hn : l.length ≤ 1000000) (hl : x7 l) (hv2 : v.short) :
    Calls Tryz.prog 52 #[.slice A l.length cap, y5 v] W fun e w' => e = .returned (.bool (xC l v)) ∧ Below W.heap.size W w' := by
  refine zQ (n := 22) Tryz.func52 rfl (by kernel_rfl) (by kernel_rfl) (ZO (Zb (y5 v) (fun b1 => Zv (.bool false) (ZN (z6 (ZO (Zv (.int .i64 0) (zP ?_))))))))
  refine zB (zK (yP (fun L f m => ∃ (k : Nat) (j : Nat → Value), (k ≤ l.length ∧ xC l v = (zL l && (l.drop k).any (gL · v))) ∧ L = [⟨b1, (y5 v).cells, 44⟩] ∧ f = kA j [(0, .slice A l.length cap), (3, .pointer (some ⟨b1, 0, none⟩)), (5, .int .i64 (k : Int))] ∧ m = l.length - k) (l.length - 0) ⟨0, _, ⟨Nat.zero_le _, by rw [List.drop_zero]; rfl⟩, rfl, ZU, rfl⟩ ?_))
  rintro L f m ⟨k, j, hrel, rfl, rfl, rfl⟩
  have hkl := hrel.1
  refine z6 (ZO (Zv (.int .i64 (k : Int)) (Zv (.slice A l.length cap) (Zv (.int .i64 (l.length : Int)) ?_))))
  by_cases h1 : (k : Int) < (l.length : Int)
  · have hk : k < l.length := by omega
    obtain ⟨b, off, hA, hlt, hcell⟩ := hv (by omega)
    obtain ⟨s, hs⟩ : ∃ s, l[k] = s := ⟨_, rfl⟩
    have hsk : s.short := hs ▸ hl l[k] (List.getElem_mem hk)
    refine Zd (p := (k : Int) < (l.length : Int)) true (decide_eq_true (h1)) (Zv (.bool true) (Zv (.slice A l.length cap) (Zc (k := 54) (args := #[.slice A l.length cap]) (.bool (zL l)) (fun w hO => wY A cap l w (hv.on hO.below hO.below.size) hn hl) (Zv (.bool (zL l)) (zP (zB ?_))))))
    cases h2 : zL l with
    | true =>
      refine Zt (ZB (z6 (zK (z6 (vK (by kernel_rfl) (by kernel_rfl) (Zw (.slice A l.length cap) (Zw (.int .i64 (k : Int)) (gF (.pointer (some ⟨b, off + k * 14, none⟩)) (by kernel_rfl) (ZA (b := b) (off := off) (c := cap) (n := l.length) (k := .i64) (j := (k : Int)) (e := 80) (sz := 14) hA) (q_old (yY s) (a := ⟨b, off + k * 14, none⟩) (by kernel_rfl) rfl (by kernel_rfl) (fun w hO => yD yB (fun j u h => (hO.below.cell (p := ⟨b, off + j, none⟩) hlt).trans (hcell j u h)) k 0 hk (by omega) _ (by rw [hs]; kernel_rfl)) (Zm 0 ⟨b1, (y5 v).cells, 44⟩ (off := 0) (y5 v) ?_))))))))))
      refine Zq (k := 92) (args := #[yY s, y5 v]) (.bool (gL s v)) (fun w _ => rholdsC_any s v w hsk hv2) (kP (zB ?_))
      cases h3 : gL s v with
      | true =>
        refine Zt (ZO (Zv (.bool true) (ZN (zC (zF (z8 (yC (zF (z8 ?_)))))))))
        exact ZF (.bool true) Tryz.results52 (fun w hO => ⟨by rw [show xC l v = true from by rw [hrel.2, any_drop l v k hk, hs]; simp [h1, h2, h3]], hO.below⟩)
      | false =>
        refine Zf (yS (zS (zB (z7 (Zv (.int .i64 (k : Int)) (Zu (k := .i64) (((k + 1 : Nat) : Int)) (IntWalk.i64_in _ (by omega)) (Zv (.int .i64 ((k + 1 : Nat) : Int)) (zP ?_))))))))
        have hnext : xC l v = (zL l && (l.drop (k + 1)).any (gL · v)) := by rw [hrel.2, any_drop l v k hk, hs]; simp [h1, h2, h3]
        exact zU (m' := l.length - (k + 1)) (by omega) ⟨k + 1, _, ⟨by omega, by simpa [h1, h2, h3] using hnext⟩, rfl, ZU, rfl⟩
    | false =>
      refine Zf (y8 (zD (zN (zI (zB (ZO (Zv (.bool false) (ZN (zC ?_)))))))))
      exact ZF (.bool false) Tryz.results52 (fun w hO => ⟨by rw [show xC l v = false from by rw [hrel.2]; first | (rw [List.drop_of_length_le (by omega)]; simp; done) | simp [h1, h2]], hO.below⟩)
  refine Zd (p := (k : Int) < (l.length : Int)) false (decide_eq_false (h1)) (Zv (.bool false) (Zk (Zk (Zv (.bool false) (ZX (y8 (zD (zN (zI ?_)))))))))
  exact zB (ZO (Zv (.bool false) (ZN (zC (ZF (.bool false) Tryz.results52 (fun w hO => ⟨by rw [show xC l v = false from by rw [hrel.2]; first | (rw [List.drop_of_length_le (by omega)]; simp; done) | simp [h1]], hO.below⟩))))))
end
section
def SlS (v : Value) (l : List Sp) (ob : List Blk) : Prop := Sl 80 14 v l.length (l.flatMap x4) ob
theorem spanInfo : (Tryz.prog.info? 80).map (fun i => (i.zero.map (·.cells.size), i.size, i.bytes)) = some (some 14, 14, 144) := by kernel_rfl
theorem qS : ∃ i z, Tryz.prog.info? 80 = some i ∧ i.zero = some z ∧ i.size = 14 ∧ z.cells.size = 14 ∧ i.bytes = 144 := by
  have h := spanInfo
  cases hi : Tryz.prog.info? 80 with
  | none => rw [hi] at h; cases h
  | some i =>
    rw [hi] at h
    simp only [Option.map_some, Option.some.injEq, Prod.mk.injEq] at h
    cases hz : i.zero with
    | none => rw [hz] at h; simp at h
    | some z => rw [hz] at h; simp at h; exact ⟨i, z, rfl, hz, h.2.1, h.1, h.2.2⟩
theorem gZ (s : Sp) : ∀ u ∈ x4 s, u.oneCell' = true := by
  intro u hu
  unfold x4 yY at hu
  simp only [Value.cells, List.mem_cons, List.not_mem_nil, or_false] at hu
  rcases hu with rfl | rfl | rfl | rfl | rfl | rfl | rfl | rfl | rfl | rfl | rfl | rfl | rfl | rfl <;> rfl
theorem grow_app {l : List Sp} {c d : Cu} (h : ∀ s ∈ l.getLast?, ¬ zM s.hi c = 0) : v8 l c d = l ++ [⟨c, d⟩] := by
  unfold v8
  cases hg : l.getLast? with
  | none => have : l = [] := by simpa using hg
            subst this; rfl
  | some s => dsimp only; rw [if_neg (h s hg)]
theorem grow_set {l : List Sp} {c d : Cu} {s : Sp} (h0 : 0 < l.length) (hs : l[l.length - 1]'(by omega) = s) (h : zM s.hi c = 0) : v8 l c d = l.set (l.length - 1) ⟨s.lo, d⟩ := by
  have hg : l.getLast? = some s := by rw [List.getLast?_eq_getElem?, List.getElem?_eq_getElem (by omega), hs]
  unfold v8
  rw [hg]
  dsimp only
  rw [if_pos h, List.dropLast_eq_take, List.set_eq_take_append_cons_drop, if_pos (by omega), List.drop_of_length_le (by omega)]
theorem last_at {l : List Sp} (h0 : 0 < l.length) {s t : Sp} (hs : l[l.length - 1]'(by omega) = s) (ht : t ∈ l.getLast?) : t = s := by
  rw [List.getLast?_eq_getElem?, List.getElem?_eq_getElem (by omega), hs] at ht
  exact (Option.some.inj ht).symm
theorem grow_any (A : Option Addr) (cap : Nat) (l : List Sp) (ob : List Blk) (c d : Cu) (W : World) (hv : SlS (.slice A l.length cap) l ob) (hO : Own (ob.map Blk.b) W W ob) (hn : l.length ≤ 1000000) (hl : x7 l) (hc : c.short) (hd : d.short) :
    Calls Tryz.prog 102 #[.slice A l.length cap, zA c, zA d] W fun e w' => ∃ v' ob', e = .returned v' ∧ SlS v' (v8 l c d) ob' ∧ Own (ob.map Blk.b) W w' ob' := by
  unfold SlS at hv ⊢
  refine mY (n := 35) hO Tryz.func102 rfl (by kernel_rfl) (by kernel_rfl) (ZO (Zb (zA c) (fun b1 => Zb (zA d) (fun b2 => Zv (.slice none 0 0) (ZN (z6 (ZO (Zv (.slice A l.length cap) ?_))))))))
  refine Zv (.int .i64 (l.length : Int)) (Zu (k := .i64) (((l.length : Int) : Int) - 1) (IntWalk.i64_in _ (by omega)) (Zv (.int .i64 (((l.length : Int) : Int) - 1)) (ZN (z6 (vK (by kernel_rfl) (by kernel_rfl) (Zw (.int .i64 (((l.length : Int) : Int) - 1)) ?_))))))
  by_cases h1 : (0 : Int) ≤ ((l.length : Int) : Int) - 1
  · obtain ⟨g, cur, rfl, rfl, hcap, hmax, hsz, hcur⟩ := hv.block (by omega)
    obtain ⟨s, hs⟩ : ∃ s, l[l.length - 1]'(by omega) = s := ⟨_, rfl⟩
    have hsk : s.short := hs ▸ hl _ (List.getElem_mem _)
    refine Ze (p := (0 : Int) ≤ ((l.length : Int) : Int) - 1) true (decide_eq_true (h1)) (Zw (.bool true) (Zw (.slice (some ⟨g, 0, none⟩) l.length cap) (Zw (.int .i64 (((l.length : Int) : Int) - 1)) (gF (.pointer (some ⟨g, (l.length - 1) * 14, none⟩)) (by kernel_rfl) (ZV (b := g) (off := 0) (n := l.length) (c := cap) (k := .i64) (j := (l.length : Int) - 1) (e := 80) (sz := 14)) (Zw (.pointer (some ⟨g, (l.length - 1) * 14 + 7, none⟩)) (j0 2 ⟨g, cur, 80⟩ (off := (l.length - 1) * 14 + 7) (zA s.hi) (by kernel_rfl) rfl (by kernel_rfl) (by kernel_rfl) (xT yB hcur (l.length - 1) 7 (by omega) (by omega) _ (by rw [hs]; kernel_rfl)) (Zm 1 ⟨b1, (zA c).cells, 78⟩ (off := 0) (zA c) (Zq (k := 94) (args := #[zA s.hi, zA c]) (.int .i64 (zM s.hi c)) (fun w _ => j7 s.hi c w hsk.2 hc) ?_))))))))
    by_cases h2 : (zM s.hi c : Int) = 0
    · refine nI (p := (zM s.hi c : Int) = 0) true (by kernel_rfl) (fun _ => by kernel_rfl) (decide_eq_true (h2)) ?_
      refine Zw (.bool true) (kP (zB (Zt (ZO (Zv (.slice (some ⟨g, 0, none⟩) l.length cap) (Zv (.int .i64 (((l.length : Int) : Int) - 1)) (Zl 0 ⟨b2, (zA d).cells, 78⟩ (off := 0) (zA d) (zX (.pointer (some ⟨g, (l.length - 1) * 14, none⟩)) (by kernel_rfl) (ZV (b := g) (off := 0) (n := l.length) (c := cap) (k := .i64) (j := (l.length : Int) - 1) (e := 80) (sz := 14)) (Zv (.pointer (some ⟨g, (l.length - 1) * 14 + 7, none⟩)) (tA 2 ⟨g, cur, 80⟩ (off := (l.length - 1) * 14 + 7) (zA d) 7 (by kernel_rfl) rfl rfl (by kernel_rfl) (by kernel_rfl) (by kernel_rfl) (by kernel_rfl) (by kernel_rfl) (by show (l.length - 1) * 14 + 7 + 7 ≤ cur.size; omega) (by kernel_rfl) ?_))))))))))
      refine ZR (Zv (.slice (some ⟨g, 0, none⟩) l.length cap) (Zv (.slice (some ⟨g, 0, none⟩) l.length cap) (ZN (zC (z8 (ZF (.slice (some ⟨g, 0, none⟩) l.length cap) Tryz.results102 ?_))))))
      have hse := dN yB hcur (l.length - 1) 7 (by omega) (zA d).cells ⟨s.lo, d⟩ (show 7 + 7 ≤ 14 by decide) (by rw [hs]; rfl)
      refine fun w hO => ⟨_, [⟨g, kE cur ((l.length - 1) * 14 + 7) (zA d).cells, 80⟩], rfl, ?_, Own.take hO (fun x hx => by simp only [List.mem_singleton] at hx; subst hx; simp) (by simp)⟩
      rw [grow_set (by omega) hs (by assumption), List.length_set]
      exact ⟨by rw [kM yB, List.length_set], .inr ⟨g, cap, _, rfl, rfl, hcap, hmax, by rw [hse.2]; exact hsz, hse.1⟩⟩
    refine Ze (p := (zM s.hi c : Int) = 0) false (decide_eq_false (h2)) (Zw (.bool false) (kP (zB (Zf (ZB (ZO (Zv (.slice (some ⟨g, 0, none⟩) l.length cap) (Zl 1 ⟨b1, (zA c).cells, 78⟩ (off := 0) (zA c) (Zl 0 ⟨b2, (zA d).cells, 78⟩ (off := 0) (zA d) ?_)))))))))
    refine Zv (.agg #[.int .i64 c.e, .int .i64 c.v.maj, .int .i64 c.v.min, .int .i64 c.v.pat, .string (mkS c.v.pre), .string (mkS c.v.build), .bool c.aft, .int .i64 d.e, .int .i64 d.v.maj, .int .i64 d.v.min, .int .i64 d.v.pat, .string (mkS d.v.pre), .string (mkS d.v.build), .bool d.aft]) (v6 80 #[.int .i64 c.e, .int .i64 c.v.maj, .int .i64 c.v.min, .int .i64 c.v.pat, .string (mkS c.v.pre), .string (mkS c.v.build), .bool c.aft, .int .i64 d.e, .int .i64 d.v.maj, .int .i64 d.v.min, .int .i64 d.v.pat, .string (mkS d.v.pre), .string (mkS d.v.build), .bool d.aft] (by kernel_rfl) rfl (fun _ => by kernel_rfl) (fun b3 => kK (L' := [⟨b3, #[.int .i64 c.e, .int .i64 c.v.maj, .int .i64 c.v.min, .int .i64 c.v.pat, .string (mkS c.v.pre), .string (mkS c.v.build), .bool c.aft, .int .i64 d.e, .int .i64 d.v.maj, .int .i64 d.v.min, .int .i64 d.v.pat, .string (mkS d.v.pre), .string (mkS d.v.build), .bool d.aft], 80⟩, ⟨b2, (zA d).cells, 78⟩, ⟨b1, (zA c).cells, 78⟩] ++ [⟨g, cur, 80⟩] ++ []) (by simp) ?_))
    obtain ⟨i, z, e1, e2, e3, e4, e5⟩ := qS
    refine gJ (sz := 14) (by kernel_rfl) rfl Tryz.underlying29 e1 e2 e3 e4 (by kernel_rfl) hv (a := ⟨b3, 0, none⟩) (m := 1) (c := 1) (news := x4 ⟨c, d⟩) (by kernel_rfl) rfl (fun w hO j u hj => ?_) (gZ _) (by unfold maxLen; omega) (by rw [e5]; omega) (fun v' ob' hv' => ?_)
    · rw [yQ, cell_of_row w b3 (0 + j) (x4 ⟨c, d⟩).toArray 80 _ (hO.held ⟨b3, (x4 ⟨c, d⟩).toArray, 80⟩ (List.mem_append_left _ (List.mem_append_left _ (List.mem_cons_self ..))))]; simpa using hj
    refine Zv (v') (ZN (zC (ZF (v') Tryz.results102 (fun w hO => ⟨v', ob', rfl, by rw [grow_app (fun t ht => by rw [last_at (by omega) hs ht]; assumption)]; simpa using hv', Own.take hO (fun x hx => List.mem_append_left _ (List.mem_append_right _ hx)) ?_⟩))))
    have := hO.apart; rw [List.append_nil, List.map_append, List.nodup_append] at this; exact this.2.1
  refine Ze (p := (0 : Int) ≤ ((l.length : Int) : Int) - 1) false (decide_eq_false (h1)) (Zw (.bool false) (Zj (Zj (Zj (Zj (Zj (Zj (Zj (Zj (Zw (.bool false) (kP ?_)))))))))))
  refine zB (Zf (ZB (ZO (Zv (.slice A l.length cap) (Zl 1 ⟨b1, (zA c).cells, 78⟩ (off := 0) (zA c) (Zl 0 ⟨b2, (zA d).cells, 78⟩ (off := 0) (zA d) (Zv (.agg #[.int .i64 c.e, .int .i64 c.v.maj, .int .i64 c.v.min, .int .i64 c.v.pat, .string (mkS c.v.pre), .string (mkS c.v.build), .bool c.aft, .int .i64 d.e, .int .i64 d.v.maj, .int .i64 d.v.min, .int .i64 d.v.pat, .string (mkS d.v.pre), .string (mkS d.v.build), .bool d.aft]) (v6 80 #[.int .i64 c.e, .int .i64 c.v.maj, .int .i64 c.v.min, .int .i64 c.v.pat, .string (mkS c.v.pre), .string (mkS c.v.build), .bool c.aft, .int .i64 d.e, .int .i64 d.v.maj, .int .i64 d.v.min, .int .i64 d.v.pat, .string (mkS d.v.pre), .string (mkS d.v.build), .bool d.aft] (by kernel_rfl) rfl (fun _ => by kernel_rfl) (fun b3 => kK (L' := [⟨b3, #[.int .i64 c.e, .int .i64 c.v.maj, .int .i64 c.v.min, .int .i64 c.v.pat, .string (mkS c.v.pre), .string (mkS c.v.build), .bool c.aft, .int .i64 d.e, .int .i64 d.v.maj, .int .i64 d.v.min, .int .i64 d.v.pat, .string (mkS d.v.pre), .string (mkS d.v.build), .bool d.aft], 80⟩, ⟨b2, (zA d).cells, 78⟩, ⟨b1, (zA c).cells, 78⟩] ++ ob ++ []) (by simp) ?_)))))))))
  obtain ⟨i, z, e1, e2, e3, e4, e5⟩ := qS
  refine gJ (sz := 14) (by kernel_rfl) rfl Tryz.underlying29 e1 e2 e3 e4 (by kernel_rfl) hv (a := ⟨b3, 0, none⟩) (m := 1) (c := 1) (news := x4 ⟨c, d⟩) (by kernel_rfl) rfl (fun w hO j u hj => ?_) (gZ _) (by unfold maxLen; omega) (by rw [e5]; omega) (fun v' ob' hv' => ?_)
  · rw [yQ, cell_of_row w b3 (0 + j) (x4 ⟨c, d⟩).toArray 80 _ (hO.held ⟨b3, (x4 ⟨c, d⟩).toArray, 80⟩ (List.mem_append_left _ (List.mem_append_left _ (List.mem_cons_self ..))))]; simpa using hj
  refine Zv (v') (ZN (zC (ZF (v') Tryz.results102 (fun w hO => ⟨v', ob', rfl, by rw [grow_app (fun t ht => by have : l = [] := List.eq_nil_of_length_eq_zero (by omega); subst this; simp at ht)]; simpa using hv', Own.take hO (fun x hx => List.mem_append_left _ (List.mem_append_right _ hx)) ?_⟩))))
  have := hO.apart; rw [List.append_nil, List.map_append, List.nodup_append] at this; exact this.2.1
end
section
theorem putL_at {c : Cu} : ∀ {l : List Cu} (k : Nat) (hk : k < l.length), (∀ x ∈ l.take k, zM x c < 0) → zM l[k] c = 0 → kX c l = l
  | [], k, hk, _, _ => by simp at hk
  | d :: r, 0, hk, _, h => by
    have h' : zM d c = 0 := h
    unfold kX
    rw [if_neg (by omega), if_pos h']
  | d :: r, k + 1, hk, ht, h => by
    have hd : zM d c < 0 := ht d (by simp)
    unfold kX
    rw [if_pos hd, putL_at (l := r) k (by simpa using hk) (fun x hx => ht x (by simp [hx])) h]
theorem fT {c : Cu} : ∀ {l : List Cu} (k : Nat) (hk : k ≤ l.length), (∀ x ∈ l.take k, zM x c < 0) → (∀ h : k < l.length, ¬ zM l[k] c < 0 ∧ ¬ zM l[k] c = 0) → kX c l = l.take k ++ c :: l.drop k
  | [], k, hk, _, _ => by
    obtain rfl : k = 0 := by simpa using hk
    rfl
  | d :: r, 0, hk, _, h => by
    have h' : ¬ zM d c < 0 ∧ ¬ zM d c = 0 := h (by simp)
    unfold kX
    rw [if_neg h'.1, if_neg h'.2]; rfl
  | d :: r, k + 1, hk, ht, h => by
    have hd : zM d c < 0 := ht d (by simp)
    unfold kX
    rw [if_pos hd, fT (l := r) k (by simpa using hk) (fun x hx => ht x (by simp [hx])) (fun h0 => h (by simpa using h0))]; rfl
def uQ (s : Cu) : List Value := (zA s).cells.toList
theorem xZ (s : Cu) : (uQ s).length = 7 := rfl
def ShortC (l : List Cu) : Prop := ∀ s ∈ l, s.short
def SlC (v : Value) (l : List Cu) (ob : List Blk) : Prop := Sl 78 7 v l.length (l.flatMap uQ) ob
theorem cutInfo : (Tryz.prog.info? 78).map (fun i => (i.zero.map (·.cells.size), i.size, i.bytes)) = some (some 7, 7, 72) := by kernel_rfl
theorem cut_info : ∃ i z, Tryz.prog.info? 78 = some i ∧ i.zero = some z ∧ i.size = 7 ∧ z.cells.size = 7 ∧ i.bytes = 72 := by
  have h := cutInfo
  cases hi : Tryz.prog.info? 78 with
  | none => rw [hi] at h; cases h
  | some i =>
    rw [hi] at h
    simp only [Option.map_some, Option.some.injEq, Prod.mk.injEq] at h
    cases hz : i.zero with
    | none => rw [hz] at h; simp at h
    | some z => rw [hz] at h; simp at h; exact ⟨i, z, rfl, hz, h.2.1, h.1, h.2.2⟩
theorem dF (s : Cu) : ∀ u ∈ uQ s, u.oneCell' = true := by
  intro u hu
  unfold uQ zA at hu
  simp only [Value.cells, List.mem_cons, List.not_mem_nil, or_false] at hu
  rcases hu with rfl | rfl | rfl | rfl | rfl | rfl | rfl <;> rfl
theorem vH (l : List Cu) : ∀ u ∈ l.flatMap uQ, u.oneCell' = true := fun u hu => by
  obtain ⟨x, _, hx⟩ := List.mem_flatMap.1 hu
  exact dF x u hx
theorem flat_drop {α : Type} {g : α → List Value} {sz : Nat} (hg : ∀ x, (g x).length = sz) (l : List α) (k : Nat) (hk : k ≤ l.length) : (l.drop k).flatMap g = (l.flatMap g).drop (k * sz) := by
  have e : l.flatMap g = (l.take k).flatMap g ++ (l.drop k).flatMap g := by rw [← List.flatMap_append, List.take_append_drop]
  have e2 : ((l.take k).flatMap g).length = k * sz := by rw [kM hg, List.length_take, Nat.min_eq_left hk]
  rw [e, ← e2, List.drop_left]
theorem flat_take {α : Type} {g : α → List Value} {sz : Nat} (hg : ∀ x, (g x).length = sz) (l : List α) (k : Nat) (hk : k ≤ l.length) : (l.take k).flatMap g = (l.flatMap g).take (k * sz) := by
  have e : l.flatMap g = (l.take k).flatMap g ++ (l.drop k).flatMap g := by rw [← List.flatMap_append, List.take_append_drop]
  have e2 : ((l.take k).flatMap g).length = k * sz := by rw [kM hg, List.length_take, Nat.min_eq_left hk]
  rw [e, ← e2, List.take_left]
theorem f9 {α : Type} {g : α → List Value} {sz : Nat} (hg : ∀ x, (g x).length = sz) {cur : Array Value} {l : List α} (ht : cur.toList.take (l.length * sz) = l.flatMap g) (k : Nat) (hk : k ≤ l.length) {j : Nat} {u : Value} (hj : ((l.take k).flatMap g)[j]? = some u) : cur[0 + j]? = some u := by
  rw [flat_take hg l k hk, ← ht, List.take_take, Nat.min_eq_left (Nat.mul_le_mul_right _ hk), List.getElem?_take] at hj
  split at hj
  · rw [Nat.zero_add]; simpa using hj
  · cases hj
theorem dL {α : Type} {g : α → List Value} {sz : Nat} (hg : ∀ x, (g x).length = sz) {cur : Array Value} {l : List α} (ht : cur.toList.take (l.length * sz) = l.flatMap g) (k cap : Nat) (hk : k ≤ l.length) (hc : l.length ≤ cap) {j : Nat} {u : Value} (hj : ((l.drop k).flatMap g)[j]? = some u) : cur[(0 + if cap = k then 0 else k * sz) + j]? = some u := by
  by_cases h : cap = k
  · have : l.drop k = [] := List.drop_of_length_le (by omega)
    rw [this] at hj; simp at hj
  · rw [if_neg h, Nat.zero_add]
    rw [flat_drop hg l k hk, ← ht, List.getElem?_drop, List.getElem?_take] at hj
    split at hj
    · simpa using hj
    · cases hj
theorem Sl.to {T : TypeId} {sz : Nat} {v : Value} {n n' : Nat} {xs xs' : List Value} {ob : List Blk} (h : Sl T sz v n xs ob) (e : n = n') (e' : xs = xs') : Sl T sz v n' xs' ob := by subst e; subst e'; exact h
theorem put_any (A : Option Addr) (cap : Nat) (l : List Cu) (ob : List Blk) (c : Cu) (W : World) (hv : SlC (.slice A l.length cap) l ob) (hO : Own (ob.map Blk.b) W W ob) (h0 : 0 < l.length) (hn : l.length ≤ 3000000) (hl : ShortC l) (hc : c.short) :
    Calls Tryz.prog 155 #[.slice A l.length cap, zA c] W fun e w' => ∃ v' ob', e = .returned v' ∧ SlC v' (kX c l) ob' ∧ Own (ob.map Blk.b) W w' ob' := by
  unfold SlC at hv ⊢
  obtain ⟨g, cur, rfl, rfl, hcap, hmax, hsz, hcur⟩ := hv.block h0
  refine mY (n := 46) hO Tryz.func155 rfl (by kernel_rfl) (by kernel_rfl) (ZO (Zb (zA c) (fun b1 => Zv (.slice none 0 0) (ZR (Zv (.int .i64 0) (zP (zB ?_)))))))
  refine z6 (zK (yP (fun L f m => ∃ (k : Nat) (j : Nat → Value), (k ≤ l.length ∧ ∀ x ∈ l.take k, zM x c < 0) ∧ L = [⟨b1, (zA c).cells, 78⟩, ⟨g, cur, 78⟩] ∧ f = kA j [(0, .slice (some ⟨g, 0, none⟩) l.length cap), (3, .pointer (some ⟨b1, 0, none⟩)), (5, .int .i64 (k : Int))] ∧ m = l.length - k) (l.length - 0) ⟨0, _, ⟨Nat.zero_le _, by simp⟩, rfl, ZU, rfl⟩ ?_))
  rintro L f m ⟨k, j, hrel, rfl, rfl, rfl⟩
  have hkl := hrel.1
  refine z6 (z6 (vK (by kernel_rfl) (by kernel_rfl) (Zw (.int .i64 (k : Int)) (Zw (.slice (some ⟨g, 0, none⟩) l.length cap) (Zw (.int .i64 (l.length : Int)) ?_)))))
  by_cases h1 : (k : Int) < (l.length : Int)
  · have hk : k < l.length := by omega
    obtain ⟨s, hs⟩ : ∃ s, l[k] = s := ⟨_, rfl⟩
    have hsk : s.short := hs ▸ hl _ (List.getElem_mem _)
    refine Ze (p := (k : Int) < (l.length : Int)) true (decide_eq_true (h1)) (Zw (.bool true) (Zw (.slice (some ⟨g, 0, none⟩) l.length cap) (Zw (.int .i64 (k : Int)) (gF (.pointer (some ⟨g, k * 7, none⟩)) (by kernel_rfl) (gU (b := g) (off := 0) (n := l.length) (c := cap) (k := .i64) (j := (k : Int)) (e := 78) (sz := 7) rfl (by kernel_rfl) (by kernel_rfl) (by kernel_rfl) (by kernel_rfl) (by omega) (by omega) (by show 0 + k * 7 = k * 7; omega)) (j0 1 ⟨g, cur, 78⟩ (off := k * 7) (zA s) (by kernel_rfl) rfl (by kernel_rfl) (by kernel_rfl) (xT xZ hcur k 0 (by omega) (by omega) _ (by rw [hs]; kernel_rfl)) (Zm 0 ⟨b1, (zA c).cells, 78⟩ (off := 0) (zA c) (Zq (k := 94) (args := #[zA s, zA c]) (.int .i64 (zM s c)) (fun w _ => j7 s c w hsk hc) ?_)))))))
    by_cases h2 : (zM s c : Int) < 0
    · refine nI (p := (zM s c : Int) < 0) true (by kernel_rfl) (fun _ => by kernel_rfl) (decide_eq_true (h2)) ?_
      refine Zw (.bool true) (kP (zB (Zt (ZB (zK (z7 (Zv (.int .i64 (k : Int)) (Zu (k := .i64) (((k + 1 : Nat) : Int)) (IntWalk.i64_in _ (by omega)) (Zv (.int .i64 ((k + 1 : Nat) : Int)) (zP ?_))))))))))
      refine zS ?_
      have hnext : ∀ x ∈ l.take (k + 1), zM x c < 0 := by
        rw [List.take_succ_eq_append_getElem hk, hs]; intro x hx; rcases List.mem_append.1 hx with h | h; exact hrel.2 x h; obtain rfl : x = s := by simpa using h
        assumption
      exact zU (m' := l.length - (k + 1)) (by omega) ⟨k + 1, _, ⟨by omega, hnext⟩, rfl, ZU, rfl⟩
    refine Ze (p := (zM s c : Int) < 0) false (decide_eq_false (h2)) (Zw (.bool false) (kP (zB (Zf (y8 (zD (zN (zI (zB (z6 (z6 ?_)))))))))))
    refine vK (by kernel_rfl) (by kernel_rfl) (Zw (.int .i64 (k : Int)) (Zw (.slice (some ⟨g, 0, none⟩) l.length cap) (Zw (.int .i64 (l.length : Int)) (Ze (p := (k : Int) < (l.length : Int)) true (decide_eq_true (h1)) (Zw (.bool true) (Zw (.slice (some ⟨g, 0, none⟩) l.length cap) (Zw (.int .i64 (k : Int)) (gF (.pointer (some ⟨g, k * 7, none⟩)) (by kernel_rfl) (gU (b := g) (off := 0) (n := l.length) (c := cap) (k := .i64) (j := (k : Int)) (e := 78) (sz := 7) rfl (by kernel_rfl) (by kernel_rfl) (by kernel_rfl) (by kernel_rfl) (by omega) (by omega) (by show 0 + k * 7 = k * 7; omega)) (j0 1 ⟨g, cur, 78⟩ (off := k * 7) (zA s) (by kernel_rfl) rfl (by kernel_rfl) (by kernel_rfl) (xT xZ hcur k 0 (by omega) (by omega) _ (by rw [hs]; kernel_rfl)) (Zm 0 ⟨b1, (zA c).cells, 78⟩ (off := 0) (zA c) (Zq (k := 94) (args := #[zA s, zA c]) (.int .i64 (zM s c)) (fun w _ => j7 s c w hsk hc) ?_)))))))))))
    by_cases h3 : (zM s c : Int) = 0
    · refine nI (p := (zM s c : Int) = 0) true (by kernel_rfl) (fun _ => by kernel_rfl) (decide_eq_true (h3)) ?_
      refine Zw (.bool true) (kP (zB (Zt (ZO (Zv (.slice (some ⟨g, 0, none⟩) l.length cap) (Zv (.slice (some ⟨g, 0, none⟩) l.length cap) (ZN (zC (z8 ?_)))))))))
      refine ZF (.slice (some ⟨g, 0, none⟩) l.length cap) Tryz.results155 (fun w hO => ⟨_, [⟨g, cur, 78⟩], rfl, ?_, Own.take hO (fun x hx => by simp only [List.mem_singleton] at hx; subst hx; simp) (by simp)⟩)
      rw [putL_at k hk hrel.2 (by rw [hs]; assumption)]; exact hv
    refine Ze (p := (zM s c : Int) = 0) false (decide_eq_false (h3)) (Zw (.bool false) (kP (zB (Zf (ZB (z6 ?_))))))
    obtain ⟨i, z, e1, e2, e3, e4, e5⟩ := cut_info
    refine xW [⟨b1, (zA c).cells, 78⟩, ⟨g, cur, 78⟩] (by kernel_rfl) (fun w hO => hO) (x3 0 _ (.slice (some ⟨g, 0, none⟩) l.length cap) rfl (by kernel_rfl) (by kernel_rfl) (by kernel_rfl) (zG zJ) (fun w hO => hO) (by kernel_rfl) (fun _ _ => by kernel_rfl) (x3 1 _ (.int .i64 (k : Int)) rfl (by kernel_rfl) (by kernel_rfl) (by kernel_rfl) (zG zJ) (fun w hO => hO) (by kernel_rfl) (fun _ _ => by kernel_rfl) (x3 2 _ (.slice (some ⟨g, 0, none⟩) k cap) rfl (by kernel_rfl) (by kernel_rfl) (by kernel_rfl) (zG zJ) (fun w hO => hO) (by kernel_rfl) (fun w _ => fM (b := g) (off := 0) (n := l.length) (c := cap) (k := .i64) (j := (k : Int)) (e := 78) (sz := 7) rfl (by kernel_rfl) (by kernel_rfl) (by kernel_rfl) (by kernel_rfl) (by omega) (by omega) w) (hl_load 4 _ 0 ⟨b1, (zA c).cells, 78⟩ (off := 0) (zA c) rfl (by kernel_rfl) (by kernel_rfl) (by kernel_rfl) (zG zJ) (fun w hO => hO) (by kernel_rfl) rfl rfl (by kernel_rfl) (by kernel_rfl) (x3 7 _ (.slice (some ⟨g, 0, none⟩) l.length cap) rfl (by kernel_rfl) (by kernel_rfl) (by kernel_rfl) (zG zJ) (fun w hO => hO) (by kernel_rfl) (fun _ _ => by kernel_rfl) (x3 8 _ (.int .i64 (k : Int)) rfl (by kernel_rfl) (by kernel_rfl) (by kernel_rfl) (zG zJ) (fun w hO => hO) (by kernel_rfl) (fun _ _ => by kernel_rfl) (x3 9 _ (.slice (some ⟨g, 0 + (if cap = k then 0 else k * 7), none⟩) (l.length - k) (cap - k)) rfl (by kernel_rfl) (by kernel_rfl) (by kernel_rfl) (zG zJ) (fun w hO => hO) (by kernel_rfl) (fun w _ => fL (b := g) (off := 0) (n := l.length) (c := cap) (k := .i64) (j := (k : Int)) (e := 78) (sz := 7) rfl (by kernel_rfl) (by kernel_rfl) (by kernel_rfl) (by kernel_rfl) (by omega) (by omega) w) (jQ (L' := [] ++ [] ++ [⟨b1, (zA c).cells, 78⟩, ⟨g, cur, 78⟩]) rfl (d9 3 5 (by kernel_rfl) ?_ ?_)))))))))
    · refine gS (E := []) (ob := []) (R := [⟨b1, (zA c).cells, 78⟩, ⟨g, cur, 78⟩]) (sz := 7) _ rfl (by kernel_rfl) rfl Tryz.underlying118 e1 e2 e3 e4 (by kernel_rfl) (Sl.nil 78 7) (a := ⟨g, 0, none⟩) (m := k) (c := cap) (news := (l.take k).flatMap uQ) (by kernel_rfl) (by rw [kM xZ, List.length_take, Nat.min_eq_left (by omega)]) (fun w hO j u hj => ?_) (vH _) (by unfold maxLen; omega) (by rw [e5]; omega) (fun ob' w hO => Own.sub ([] ++ ob') hO) (fun va oa hva => ?_)
      · rw [yQ, cell_of_row w g (0 + j) cur 78 _ (hO.held ⟨g, cur, 78⟩ (by simp))]; exact f9 xZ hcur k (by omega) hj
      refine zY 5 (by kernel_rfl) (hl_lit _ 78 #[.int .i64 c.e, .int .i64 c.v.maj, .int .i64 c.v.min, .int .i64 c.v.pat, .string (mkS c.v.pre), .string (mkS c.v.build), .bool c.aft] rfl (by kernel_rfl) rfl (fun w hO => Own.sub ([] ++ oa) hO) (fun _ => by kernel_rfl) (fun b2 => jQ (L' := [⟨b2, #[.int .i64 c.e, .int .i64 c.v.maj, .int .i64 c.v.min, .int .i64 c.v.pat, .string (mkS c.v.pre), .string (mkS c.v.build), .bool c.aft], 78⟩] ++ oa ++ [⟨b1, (zA c).cells, 78⟩, ⟨g, cur, 78⟩]) (by simp) (zY 6 (by kernel_rfl) (gS (E := [⟨b2, #[.int .i64 c.e, .int .i64 c.v.maj, .int .i64 c.v.min, .int .i64 c.v.pat, .string (mkS c.v.pre), .string (mkS c.v.build), .bool c.aft], 78⟩]) (ob := oa) (R := [⟨b1, (zA c).cells, 78⟩, ⟨g, cur, 78⟩]) (sz := 7) _ rfl (by kernel_rfl) rfl Tryz.underlying118 e1 e2 e3 e4 (by kernel_rfl) hva (a := ⟨b2, 0, none⟩) (m := 1) (c := 1) (news := uQ c) (by kernel_rfl) (rfl) (fun w hO j u hj => ?_) (dF _) (by unfold maxLen; omega) (by rw [e5]; omega) (fun ob' w hO => Own.sub ([⟨b2, #[.int .i64 c.e, .int .i64 c.v.maj, .int .i64 c.v.min, .int .i64 c.v.pat, .string (mkS c.v.pre), .string (mkS c.v.build), .bool c.aft], 78⟩] ++ ob') hO) (fun vb oq hvb => ?_)))))
      · rw [yQ, cell_of_row w b2 (0 + j) (uQ c).toArray 78 _ (hO.held ⟨b2, (uQ c).toArray, 78⟩ (List.mem_append_left _ (List.mem_append_left _ (List.mem_cons_self ..))))]; simpa using hj
      refine zY 10 (by kernel_rfl) (gS (E := [⟨b2, #[.int .i64 c.e, .int .i64 c.v.maj, .int .i64 c.v.min, .int .i64 c.v.pat, .string (mkS c.v.pre), .string (mkS c.v.build), .bool c.aft], 78⟩]) (ob := oq) (R := [⟨b1, (zA c).cells, 78⟩, ⟨g, cur, 78⟩]) (sz := 7) _ rfl (by kernel_rfl) rfl Tryz.underlying118 e1 e2 e3 e4 (by kernel_rfl) hvb (a := ⟨g, 0 + (if cap = k then 0 else k * 7), none⟩) (m := l.length - k) (c := cap - k) (news := (l.drop k).flatMap uQ) (by kernel_rfl) (by rw [kM xZ, List.length_drop]) (fun w hO j u hj => ?_) (vH _) (by unfold maxLen; omega) (by rw [e5]; omega) (fun ob' w hO => Own.sub ([⟨b2, #[.int .i64 c.e, .int .i64 c.v.maj, .int .i64 c.v.min, .int .i64 c.v.pat, .string (mkS c.v.pre), .string (mkS c.v.build), .bool c.aft], 78⟩] ++ ob') hO) (fun vc oc hvc => ?_))
      · rw [yQ, cell_of_row w g _ cur 78 _ (hO.held ⟨g, cur, 78⟩ (by simp))]; exact dL xZ hcur k cap (by omega) hcap hj
      refine x3 11 _ vc rfl (by kernel_rfl) (by kernel_rfl) (by kernel_rfl) (zG zJ) (fun w hO => Own.sub ([⟨b2, #[.int .i64 c.e, .int .i64 c.v.maj, .int .i64 c.v.min, .int .i64 c.v.pat, .string (mkS c.v.pre), .string (mkS c.v.build), .bool c.aft], 78⟩] ++ oc) hO) (by kernel_rfl) (fun _ _ => by kernel_rfl) (yO (by kernel_rfl) (zB (zC (ZF (vc) Tryz.results155 (fun w hO => ⟨vc, oc, rfl, ?_, Own.take hO (fun x hx => List.mem_append_left _ (List.mem_append_right _ hx)) ?_⟩)))))
      · rw [fT k (by omega) hrel.2 (fun h => by first | omega | (rw [hs]; exact ⟨by assumption, by assumption⟩))]
        exact hvc.to (by simp; omega) (by simp)
      · have := hO.apart; rw [List.map_append, List.map_append, List.nodup_append] at this; exact (List.nodup_append.1 this.1).2.1
    refine hl_lit _ 78 #[.int .i64 c.e, .int .i64 c.v.maj, .int .i64 c.v.min, .int .i64 c.v.pat, .string (mkS c.v.pre), .string (mkS c.v.build), .bool c.aft] rfl (by kernel_rfl) rfl (fun w hO => hO) (fun _ => by kernel_rfl) (fun b2 => jQ (L' := [⟨b2, #[.int .i64 c.e, .int .i64 c.v.maj, .int .i64 c.v.min, .int .i64 c.v.pat, .string (mkS c.v.pre), .string (mkS c.v.build), .bool c.aft], 78⟩] ++ [] ++ [⟨b1, (zA c).cells, 78⟩, ⟨g, cur, 78⟩]) rfl (zY 3 (by kernel_rfl) (gS (E := [⟨b2, #[.int .i64 c.e, .int .i64 c.v.maj, .int .i64 c.v.min, .int .i64 c.v.pat, .string (mkS c.v.pre), .string (mkS c.v.build), .bool c.aft], 78⟩]) (ob := []) (R := [⟨b1, (zA c).cells, 78⟩, ⟨g, cur, 78⟩]) (sz := 7) _ rfl (by kernel_rfl) rfl Tryz.underlying118 e1 e2 e3 e4 (by kernel_rfl) (Sl.nil 78 7) (a := ⟨g, 0, none⟩) (m := k) (c := cap) (news := (l.take k).flatMap uQ) (by kernel_rfl) (by rw [kM xZ, List.length_take, Nat.min_eq_left (by omega)]) (fun w hO j u hj => ?_) (vH _) (by unfold maxLen; omega) (by rw [e5]; omega) (fun ob' w hO => Own.sub ([⟨b2, #[.int .i64 c.e, .int .i64 c.v.maj, .int .i64 c.v.min, .int .i64 c.v.pat, .string (mkS c.v.pre), .string (mkS c.v.build), .bool c.aft], 78⟩] ++ ob') hO) (fun va oa hva => ?_))))
    · rw [yQ, cell_of_row w g (0 + j) cur 78 _ (hO.held ⟨g, cur, 78⟩ (by simp))]; exact f9 xZ hcur k (by omega) hj
    refine zY 6 (by kernel_rfl) (gS (E := [⟨b2, #[.int .i64 c.e, .int .i64 c.v.maj, .int .i64 c.v.min, .int .i64 c.v.pat, .string (mkS c.v.pre), .string (mkS c.v.build), .bool c.aft], 78⟩]) (ob := oa) (R := [⟨b1, (zA c).cells, 78⟩, ⟨g, cur, 78⟩]) (sz := 7) _ rfl (by kernel_rfl) rfl Tryz.underlying118 e1 e2 e3 e4 (by kernel_rfl) hva (a := ⟨b2, 0, none⟩) (m := 1) (c := 1) (news := uQ c) (by kernel_rfl) (rfl) (fun w hO j u hj => ?_) (dF _) (by unfold maxLen; omega) (by rw [e5]; omega) (fun ob' w hO => Own.sub ([⟨b2, #[.int .i64 c.e, .int .i64 c.v.maj, .int .i64 c.v.min, .int .i64 c.v.pat, .string (mkS c.v.pre), .string (mkS c.v.build), .bool c.aft], 78⟩] ++ ob') hO) (fun vb oq hvb => ?_))
    · rw [yQ, cell_of_row w b2 (0 + j) (uQ c).toArray 78 _ (hO.held ⟨b2, (uQ c).toArray, 78⟩ (List.mem_append_left _ (List.mem_append_left _ (List.mem_cons_self ..))))]; simpa using hj
    refine zY 10 (by kernel_rfl) (gS (E := [⟨b2, #[.int .i64 c.e, .int .i64 c.v.maj, .int .i64 c.v.min, .int .i64 c.v.pat, .string (mkS c.v.pre), .string (mkS c.v.build), .bool c.aft], 78⟩]) (ob := oq) (R := [⟨b1, (zA c).cells, 78⟩, ⟨g, cur, 78⟩]) (sz := 7) _ rfl (by kernel_rfl) rfl Tryz.underlying118 e1 e2 e3 e4 (by kernel_rfl) hvb (a := ⟨g, 0 + (if cap = k then 0 else k * 7), none⟩) (m := l.length - k) (c := cap - k) (news := (l.drop k).flatMap uQ) (by kernel_rfl) (by rw [kM xZ, List.length_drop]) (fun w hO j u hj => ?_) (vH _) (by unfold maxLen; omega) (by rw [e5]; omega) (fun ob' w hO => Own.sub ([⟨b2, #[.int .i64 c.e, .int .i64 c.v.maj, .int .i64 c.v.min, .int .i64 c.v.pat, .string (mkS c.v.pre), .string (mkS c.v.build), .bool c.aft], 78⟩] ++ ob') hO) (fun vc oc hvc => ?_))
    · rw [yQ, cell_of_row w g _ cur 78 _ (hO.held ⟨g, cur, 78⟩ (by simp))]; exact dL xZ hcur k cap (by omega) hcap hj
    refine x3 11 _ vc rfl (by kernel_rfl) (by kernel_rfl) (by kernel_rfl) (zG zJ) (fun w hO => Own.sub ([⟨b2, #[.int .i64 c.e, .int .i64 c.v.maj, .int .i64 c.v.min, .int .i64 c.v.pat, .string (mkS c.v.pre), .string (mkS c.v.build), .bool c.aft], 78⟩] ++ oc) hO) (by kernel_rfl) (fun _ _ => by kernel_rfl) (yO (by kernel_rfl) (zB (zC (ZF (vc) Tryz.results155 (fun w hO => ⟨vc, oc, rfl, ?_, Own.take hO (fun x hx => List.mem_append_left _ (List.mem_append_right _ hx)) ?_⟩)))))
    · rw [fT k (by omega) hrel.2 (fun h => by first | omega | (rw [hs]; exact ⟨by assumption, by assumption⟩))]
      exact hvc.to (by simp; omega) (by simp)
    · have := hO.apart; rw [List.map_append, List.map_append, List.nodup_append] at this; exact (List.nodup_append.1 this.1).2.1
  refine Ze (p := (k : Int) < (l.length : Int)) false (decide_eq_false (h1)) (Zw (.bool false) (Zj (Zj (Zj (Zj (Zj (Zj (Zj (Zw (.bool false) (kP (zB ?_)))))))))))
  refine Zf (y8 (zD (zN (zI (zB (z6 (z6 (vK (by kernel_rfl) (by kernel_rfl) (Zw (.int .i64 (k : Int)) (Zw (.slice (some ⟨g, 0, none⟩) l.length cap) (Zw (.int .i64 (l.length : Int)) ?_)))))))))))
  refine Ze (p := (k : Int) < (l.length : Int)) false (decide_eq_false (h1)) (Zw (.bool false) (Zj (Zj (Zj (Zj (Zj (Zj (Zj (Zw (.bool false) (kP (zB ?_)))))))))))
  refine Zf (ZB (z6 ?_))
  obtain ⟨i, z, e1, e2, e3, e4, e5⟩ := cut_info
  refine xW [⟨b1, (zA c).cells, 78⟩, ⟨g, cur, 78⟩] (by kernel_rfl) (fun w hO => hO) (x3 0 _ (.slice (some ⟨g, 0, none⟩) l.length cap) rfl (by kernel_rfl) (by kernel_rfl) (by kernel_rfl) (zG zJ) (fun w hO => hO) (by kernel_rfl) (fun _ _ => by kernel_rfl) (x3 1 _ (.int .i64 (k : Int)) rfl (by kernel_rfl) (by kernel_rfl) (by kernel_rfl) (zG zJ) (fun w hO => hO) (by kernel_rfl) (fun _ _ => by kernel_rfl) (x3 2 _ (.slice (some ⟨g, 0, none⟩) k cap) rfl (by kernel_rfl) (by kernel_rfl) (by kernel_rfl) (zG zJ) (fun w hO => hO) (by kernel_rfl) (fun w _ => fM (b := g) (off := 0) (n := l.length) (c := cap) (k := .i64) (j := (k : Int)) (e := 78) (sz := 7) rfl (by kernel_rfl) (by kernel_rfl) (by kernel_rfl) (by kernel_rfl) (by omega) (by omega) w) (hl_load 4 _ 0 ⟨b1, (zA c).cells, 78⟩ (off := 0) (zA c) rfl (by kernel_rfl) (by kernel_rfl) (by kernel_rfl) (zG zJ) (fun w hO => hO) (by kernel_rfl) rfl rfl (by kernel_rfl) (by kernel_rfl) (x3 7 _ (.slice (some ⟨g, 0, none⟩) l.length cap) rfl (by kernel_rfl) (by kernel_rfl) (by kernel_rfl) (zG zJ) (fun w hO => hO) (by kernel_rfl) (fun _ _ => by kernel_rfl) (x3 8 _ (.int .i64 (k : Int)) rfl (by kernel_rfl) (by kernel_rfl) (by kernel_rfl) (zG zJ) (fun w hO => hO) (by kernel_rfl) (fun _ _ => by kernel_rfl) (x3 9 _ (.slice (some ⟨g, 0 + (if cap = k then 0 else k * 7), none⟩) (l.length - k) (cap - k)) rfl (by kernel_rfl) (by kernel_rfl) (by kernel_rfl) (zG zJ) (fun w hO => hO) (by kernel_rfl) (fun w _ => fL (b := g) (off := 0) (n := l.length) (c := cap) (k := .i64) (j := (k : Int)) (e := 78) (sz := 7) rfl (by kernel_rfl) (by kernel_rfl) (by kernel_rfl) (by kernel_rfl) (by omega) (by omega) w) (jQ (L' := [] ++ [] ++ [⟨b1, (zA c).cells, 78⟩, ⟨g, cur, 78⟩]) rfl (d9 3 5 (by kernel_rfl) ?_ ?_)))))))))
  · refine gS (E := []) (ob := []) (R := [⟨b1, (zA c).cells, 78⟩, ⟨g, cur, 78⟩]) (sz := 7) _ rfl (by kernel_rfl) rfl Tryz.underlying118 e1 e2 e3 e4 (by kernel_rfl) (Sl.nil 78 7) (a := ⟨g, 0, none⟩) (m := k) (c := cap) (news := (l.take k).flatMap uQ) (by kernel_rfl) (by rw [kM xZ, List.length_take, Nat.min_eq_left (by omega)]) (fun w hO j u hj => ?_) (vH _) (by unfold maxLen; omega) (by rw [e5]; omega) (fun ob' w hO => Own.sub ([] ++ ob') hO) (fun va oa hva => ?_)
    · rw [yQ, cell_of_row w g (0 + j) cur 78 _ (hO.held ⟨g, cur, 78⟩ (by simp))]; exact f9 xZ hcur k (by omega) hj
    refine zY 5 (by kernel_rfl) (hl_lit _ 78 #[.int .i64 c.e, .int .i64 c.v.maj, .int .i64 c.v.min, .int .i64 c.v.pat, .string (mkS c.v.pre), .string (mkS c.v.build), .bool c.aft] rfl (by kernel_rfl) rfl (fun w hO => Own.sub ([] ++ oa) hO) (fun _ => by kernel_rfl) (fun b2 => jQ (L' := [⟨b2, #[.int .i64 c.e, .int .i64 c.v.maj, .int .i64 c.v.min, .int .i64 c.v.pat, .string (mkS c.v.pre), .string (mkS c.v.build), .bool c.aft], 78⟩] ++ oa ++ [⟨b1, (zA c).cells, 78⟩, ⟨g, cur, 78⟩]) (by simp) (zY 6 (by kernel_rfl) (gS (E := [⟨b2, #[.int .i64 c.e, .int .i64 c.v.maj, .int .i64 c.v.min, .int .i64 c.v.pat, .string (mkS c.v.pre), .string (mkS c.v.build), .bool c.aft], 78⟩]) (ob := oa) (R := [⟨b1, (zA c).cells, 78⟩, ⟨g, cur, 78⟩]) (sz := 7) _ rfl (by kernel_rfl) rfl Tryz.underlying118 e1 e2 e3 e4 (by kernel_rfl) hva (a := ⟨b2, 0, none⟩) (m := 1) (c := 1) (news := uQ c) (by kernel_rfl) (rfl) (fun w hO j u hj => ?_) (dF _) (by unfold maxLen; omega) (by rw [e5]; omega) (fun ob' w hO => Own.sub ([⟨b2, #[.int .i64 c.e, .int .i64 c.v.maj, .int .i64 c.v.min, .int .i64 c.v.pat, .string (mkS c.v.pre), .string (mkS c.v.build), .bool c.aft], 78⟩] ++ ob') hO) (fun vb oq hvb => ?_)))))
    · rw [yQ, cell_of_row w b2 (0 + j) (uQ c).toArray 78 _ (hO.held ⟨b2, (uQ c).toArray, 78⟩ (List.mem_append_left _ (List.mem_append_left _ (List.mem_cons_self ..))))]; simpa using hj
    refine zY 10 (by kernel_rfl) (gS (E := [⟨b2, #[.int .i64 c.e, .int .i64 c.v.maj, .int .i64 c.v.min, .int .i64 c.v.pat, .string (mkS c.v.pre), .string (mkS c.v.build), .bool c.aft], 78⟩]) (ob := oq) (R := [⟨b1, (zA c).cells, 78⟩, ⟨g, cur, 78⟩]) (sz := 7) _ rfl (by kernel_rfl) rfl Tryz.underlying118 e1 e2 e3 e4 (by kernel_rfl) hvb (a := ⟨g, 0 + (if cap = k then 0 else k * 7), none⟩) (m := l.length - k) (c := cap - k) (news := (l.drop k).flatMap uQ) (by kernel_rfl) (by rw [kM xZ, List.length_drop]) (fun w hO j u hj => ?_) (vH _) (by unfold maxLen; omega) (by rw [e5]; omega) (fun ob' w hO => Own.sub ([⟨b2, #[.int .i64 c.e, .int .i64 c.v.maj, .int .i64 c.v.min, .int .i64 c.v.pat, .string (mkS c.v.pre), .string (mkS c.v.build), .bool c.aft], 78⟩] ++ ob') hO) (fun vc oc hvc => ?_))
    · rw [yQ, cell_of_row w g _ cur 78 _ (hO.held ⟨g, cur, 78⟩ (by simp))]; exact dL xZ hcur k cap (by omega) hcap hj
    refine x3 11 _ vc rfl (by kernel_rfl) (by kernel_rfl) (by kernel_rfl) (zG zJ) (fun w hO => Own.sub ([⟨b2, #[.int .i64 c.e, .int .i64 c.v.maj, .int .i64 c.v.min, .int .i64 c.v.pat, .string (mkS c.v.pre), .string (mkS c.v.build), .bool c.aft], 78⟩] ++ oc) hO) (by kernel_rfl) (fun _ _ => by kernel_rfl) (yO (by kernel_rfl) (zB (zC (ZF (vc) Tryz.results155 (fun w hO => ⟨vc, oc, rfl, ?_, Own.take hO (fun x hx => List.mem_append_left _ (List.mem_append_right _ hx)) ?_⟩)))))
    · rw [fT k (by omega) hrel.2 (fun h => by first | omega | (rw [hs]; exact ⟨by assumption, by assumption⟩))]
      exact hvc.to (by simp; omega) (by simp)
    · have := hO.apart; rw [List.map_append, List.map_append, List.nodup_append] at this; exact (List.nodup_append.1 this.1).2.1
  refine hl_lit _ 78 #[.int .i64 c.e, .int .i64 c.v.maj, .int .i64 c.v.min, .int .i64 c.v.pat, .string (mkS c.v.pre), .string (mkS c.v.build), .bool c.aft] rfl (by kernel_rfl) rfl (fun w hO => hO) (fun _ => by kernel_rfl) (fun b2 => jQ (L' := [⟨b2, #[.int .i64 c.e, .int .i64 c.v.maj, .int .i64 c.v.min, .int .i64 c.v.pat, .string (mkS c.v.pre), .string (mkS c.v.build), .bool c.aft], 78⟩] ++ [] ++ [⟨b1, (zA c).cells, 78⟩, ⟨g, cur, 78⟩]) rfl (zY 3 (by kernel_rfl) (gS (E := [⟨b2, #[.int .i64 c.e, .int .i64 c.v.maj, .int .i64 c.v.min, .int .i64 c.v.pat, .string (mkS c.v.pre), .string (mkS c.v.build), .bool c.aft], 78⟩]) (ob := []) (R := [⟨b1, (zA c).cells, 78⟩, ⟨g, cur, 78⟩]) (sz := 7) _ rfl (by kernel_rfl) rfl Tryz.underlying118 e1 e2 e3 e4 (by kernel_rfl) (Sl.nil 78 7) (a := ⟨g, 0, none⟩) (m := k) (c := cap) (news := (l.take k).flatMap uQ) (by kernel_rfl) (by rw [kM xZ, List.length_take, Nat.min_eq_left (by omega)]) (fun w hO j u hj => ?_) (vH _) (by unfold maxLen; omega) (by rw [e5]; omega) (fun ob' w hO => Own.sub ([⟨b2, #[.int .i64 c.e, .int .i64 c.v.maj, .int .i64 c.v.min, .int .i64 c.v.pat, .string (mkS c.v.pre), .string (mkS c.v.build), .bool c.aft], 78⟩] ++ ob') hO) (fun va oa hva => ?_))))
  · rw [yQ, cell_of_row w g (0 + j) cur 78 _ (hO.held ⟨g, cur, 78⟩ (by simp))]; exact f9 xZ hcur k (by omega) hj
  refine zY 6 (by kernel_rfl) (gS (E := [⟨b2, #[.int .i64 c.e, .int .i64 c.v.maj, .int .i64 c.v.min, .int .i64 c.v.pat, .string (mkS c.v.pre), .string (mkS c.v.build), .bool c.aft], 78⟩]) (ob := oa) (R := [⟨b1, (zA c).cells, 78⟩, ⟨g, cur, 78⟩]) (sz := 7) _ rfl (by kernel_rfl) rfl Tryz.underlying118 e1 e2 e3 e4 (by kernel_rfl) hva (a := ⟨b2, 0, none⟩) (m := 1) (c := 1) (news := uQ c) (by kernel_rfl) (rfl) (fun w hO j u hj => ?_) (dF _) (by unfold maxLen; omega) (by rw [e5]; omega) (fun ob' w hO => Own.sub ([⟨b2, #[.int .i64 c.e, .int .i64 c.v.maj, .int .i64 c.v.min, .int .i64 c.v.pat, .string (mkS c.v.pre), .string (mkS c.v.build), .bool c.aft], 78⟩] ++ ob') hO) (fun vb oq hvb => ?_))
  · rw [yQ, cell_of_row w b2 (0 + j) (uQ c).toArray 78 _ (hO.held ⟨b2, (uQ c).toArray, 78⟩ (List.mem_append_left _ (List.mem_append_left _ (List.mem_cons_self ..))))]; simpa using hj
  refine zY 10 (by kernel_rfl) (gS (E := [⟨b2, #[.int .i64 c.e, .int .i64 c.v.maj, .int .i64 c.v.min, .int .i64 c.v.pat, .string (mkS c.v.pre), .string (mkS c.v.build), .bool c.aft], 78⟩]) (ob := oq) (R := [⟨b1, (zA c).cells, 78⟩, ⟨g, cur, 78⟩]) (sz := 7) _ rfl (by kernel_rfl) rfl Tryz.underlying118 e1 e2 e3 e4 (by kernel_rfl) hvb (a := ⟨g, 0 + (if cap = k then 0 else k * 7), none⟩) (m := l.length - k) (c := cap - k) (news := (l.drop k).flatMap uQ) (by kernel_rfl) (by rw [kM xZ, List.length_drop]) (fun w hO j u hj => ?_) (vH _) (by unfold maxLen; omega) (by rw [e5]; omega) (fun ob' w hO => Own.sub ([⟨b2, #[.int .i64 c.e, .int .i64 c.v.maj, .int .i64 c.v.min, .int .i64 c.v.pat, .string (mkS c.v.pre), .string (mkS c.v.build), .bool c.aft], 78⟩] ++ ob') hO) (fun vc oc hvc => ?_))
  · rw [yQ, cell_of_row w g _ cur 78 _ (hO.held ⟨g, cur, 78⟩ (by simp))]; exact dL xZ hcur k cap (by omega) hcap hj
  refine x3 11 _ vc rfl (by kernel_rfl) (by kernel_rfl) (by kernel_rfl) (zG zJ) (fun w hO => Own.sub ([⟨b2, #[.int .i64 c.e, .int .i64 c.v.maj, .int .i64 c.v.min, .int .i64 c.v.pat, .string (mkS c.v.pre), .string (mkS c.v.build), .bool c.aft], 78⟩] ++ oc) hO) (by kernel_rfl) (fun _ _ => by kernel_rfl) (yO (by kernel_rfl) (zB (zC (ZF (vc) Tryz.results155 (fun w hO => ⟨vc, oc, rfl, ?_, Own.take hO (fun x hx => List.mem_append_left _ (List.mem_append_right _ hx)) ?_⟩)))))
  · rw [fT k (by omega) hrel.2 (fun h => by first | omega | (rw [hs]; exact ⟨by assumption, by assumption⟩))]
    exact hvc.to (by simp; omega) (by simp)
  · have := hO.apart; rw [List.map_append, List.map_append, List.nodup_append] at this; exact (List.nodup_append.1 this.1).2.1
end
section
theorem Own.lend {M : List Nat} {W w : World} {L : List Blk} (h : Own M W w L) : Own (L.map Blk.b) w w L :=
  ⟨rfl, rfl, rfl, Nat.le_refl _, Nat.le_refl _, fun _ _ _ => rfl, h.held, fun x hx => .inr (List.mem_map.2 ⟨x, hx, rfl⟩), h.apart⟩
theorem SlC.form {v : Value} {l : List Cu} {ob : List Blk} (h : SlC v l ob) : ∃ A cap, v = .slice A l.length cap := by
  rcases h.2 with ⟨h1, h2, _⟩ | ⟨g, cap, cur, h1, _⟩
  · exact ⟨none, 0, by rw [h1, h2]⟩
  · exact ⟨_, cap, h1⟩
theorem put_call {M : List Nat} {W w : World} {v : Value} {l : List Cu} {ob : List Blk} (c : Cu) (hO : Own M W w ob) (hv : SlC v l ob) (h0 : 0 < l.length) (hn : l.length ≤ 3000000) (hl : ShortC l) (hc : c.short) :
    Calls Tryz.prog 155 #[v, zA c] w fun e w' => ∃ v' ob', e = .returned v' ∧ SlC v' (kX c l) ob' ∧ Own M W w' ob' := by
  obtain ⟨A, cap, rfl⟩ := hv.form
  refine (put_any A cap l ob c w hv hO.lend h0 hn hl hc).mono fun e w' ⟨v', ob', h1, h2, h3⟩ => ⟨v', ob', h1, h2, ?_⟩
  have := Own.join (R := []) (by simpa using hO) h3
  simpa using this
theorem tF (c : Cu) : ∀ (l : List Cu), (kX c l).length ≤ l.length + 1 ∧ 0 < (kX c l).length
  | [] => ⟨by simp [kX], by simp [kX]⟩
  | d :: r => by
    have ih := tF c r
    unfold kX
    split
    · simp; omega
    · split <;> simp
theorem nW {c : Cu} (hc : c.short) {l : List Cu} (hl : ShortC l) : ShortC (kX c l) := fun x hx => by
  rcases putL_mem c l x hx with rfl | h
  · exact hc
  · exact hl x h
theorem cuts_step (l : List Sp) (k : Nat) (hk : k < l.length) : gC (l.take (k + 1)) = kX l[k].hi (kX l[k].lo (gC (l.take k))) := by
  unfold gC
  rw [List.take_succ_eq_append_getElem hk, List.foldl_append]; rfl
theorem mW (l : List Sp) (hl : x7 l) : ∀ (k : Nat), k ≤ l.length → (gC (l.take k)).length ≤ 2 + 2 * k ∧ 0 < (gC (l.take k)).length ∧ ShortC (gC (l.take k))
  | 0, _ => ⟨by simp [gC], by simp [gC], fun x hx => by
      simp only [gC, List.take_zero, List.foldl_nil, List.mem_cons, List.not_mem_nil, or_false] at hx
      rcases hx with rfl | rfl <;> exact ⟨by simp [zZ, Ver.zero], by simp [zZ, Ver.zero]⟩⟩
  | k + 1, h => by
    have ih := mW l hl k (by omega)
    have hs := hl l[k] (List.getElem_mem _)
    rw [cuts_step l k h]
    have e1 := tF l[k].lo (gC (l.take k))
    have e2 := tF l[k].hi (kX l[k].lo (gC (l.take k)))
    exact ⟨by omega, e2.2, nW hs.2 (nW hs.1 ih.2.2)⟩
theorem dQ (W : World) : Calls Tryz.prog 147 #[] W fun e w' => e = .returned (zA (zZ (-1))) ∧ Below W.heap.size W w' := by
  refine zQ (n := 2) Tryz.func147 rfl (by kernel_rfl) (by kernel_rfl) (ZO (Za (.agg #[.int .i64 0, .int .i64 0, .int .i64 0, .int .i64 0, .string ⟨#[]⟩, .string ⟨#[]⟩, .bool false]) (fun b1 => ZR (Zv (.agg #[.int .i64 (-1), .int .i64 0, .int .i64 0, .int .i64 0, .string ⟨#[]⟩, .string ⟨#[]⟩, .bool false]) (Zs 0 ⟨b1, #[.int .i64 0, .int .i64 0, .int .i64 0, .int .i64 0, .string ⟨#[]⟩, .string ⟨#[]⟩, .bool false], 78⟩ (off := 0) (.agg #[.int .i64 (-1), .int .i64 0, .int .i64 0, .int .i64 0, .string ⟨#[]⟩, .string ⟨#[]⟩, .bool false]) (zP (zB ?_)))))))
  exact zC (ZC 0 ⟨b1, #[.int .i64 (-1), .int .i64 0, .int .i64 0, .int .i64 0, .string ⟨#[]⟩, .string ⟨#[]⟩, .bool false], 78⟩ (off := 0) (.agg #[.int .i64 (-1), .int .i64 0, .int .i64 0, .int .i64 0, .string ⟨#[]⟩, .string ⟨#[]⟩, .bool false]) Tryz.results147 (fun w hO => ⟨rfl, hO.below⟩))
theorem bV (W : World) : Calls Tryz.prog 148 #[] W fun e w' => e = .returned (zA (zZ (1))) ∧ Below W.heap.size W w' := by
  refine zQ (n := 2) Tryz.func148 rfl (by kernel_rfl) (by kernel_rfl) (ZO (Za (.agg #[.int .i64 0, .int .i64 0, .int .i64 0, .int .i64 0, .string ⟨#[]⟩, .string ⟨#[]⟩, .bool false]) (fun b1 => ZR (Zv (.agg #[.int .i64 1, .int .i64 0, .int .i64 0, .int .i64 0, .string ⟨#[]⟩, .string ⟨#[]⟩, .bool false]) (Zs 0 ⟨b1, #[.int .i64 0, .int .i64 0, .int .i64 0, .int .i64 0, .string ⟨#[]⟩, .string ⟨#[]⟩, .bool false], 78⟩ (off := 0) (.agg #[.int .i64 1, .int .i64 0, .int .i64 0, .int .i64 0, .string ⟨#[]⟩, .string ⟨#[]⟩, .bool false]) (zP (zB ?_)))))))
  exact zC (ZC 0 ⟨b1, #[.int .i64 1, .int .i64 0, .int .i64 0, .int .i64 0, .string ⟨#[]⟩, .string ⟨#[]⟩, .bool false], 78⟩ (off := 0) (.agg #[.int .i64 1, .int .i64 0, .int .i64 0, .int .i64 0, .string ⟨#[]⟩, .string ⟨#[]⟩, .bool false]) Tryz.results148 (fun w hO => ⟨rfl, hO.below⟩))
theorem cuts_any (A : Option Addr) (cap : Nat) (l : List Sp) (W : World) (hv : Reads x4 W W.heap.size A l) (hn : l.length ≤ 1000000) (hl : x7 l) :
    Calls Tryz.prog 100 #[.slice A l.length cap] W fun e w' => ∃ v' ob', e = .returned v' ∧ SlC v' (gC l) ob' ∧ Own [] W w' ob' := by
  refine zQ (n := 28) Tryz.func100 rfl (by kernel_rfl) (by kernel_rfl) (ZO (Zv (.slice none 0 0) (ZR (Zc (k := 147) (args := #[]) (zA (zZ (-1))) (fun w _ => dQ w) (Zc (k := 148) (args := #[]) (zA (zZ 1)) (fun w _ => bV w) (v6 78 #[.int .i64 ((zZ (-1)).e), .int .i64 ((zZ (-1)).v.maj), .int .i64 ((zZ (-1)).v.min), .int .i64 ((zZ (-1)).v.pat), .string (mkS (zZ (-1)).v.pre), .string (mkS (zZ (-1)).v.build), .bool ((zZ (-1)).aft), .int .i64 ((zZ 1).e), .int .i64 ((zZ 1).v.maj), .int .i64 ((zZ 1).v.min), .int .i64 ((zZ 1).v.pat), .string (mkS (zZ 1).v.pre), .string (mkS (zZ 1).v.build), .bool ((zZ 1).aft)] (by kernel_rfl) rfl (fun _ => by kernel_rfl) (fun b1 => Zv (.slice (some ⟨b1, 0, none⟩) 2 2) ?_)))))))
  refine ZN (z6 (ZO (Zv (.int .i64 0) (ZN (zK ?_)))))
  have hstart : SlC (.slice (some ⟨b1, 0, none⟩) 2 2) (gC (l.take 0)) [⟨b1, #[.int .i64 ((zZ (-1)).e), .int .i64 ((zZ (-1)).v.maj), .int .i64 ((zZ (-1)).v.min), .int .i64 ((zZ (-1)).v.pat), .string (mkS (zZ (-1)).v.pre), .string (mkS (zZ (-1)).v.build), .bool ((zZ (-1)).aft), .int .i64 ((zZ 1).e), .int .i64 ((zZ 1).v.maj), .int .i64 ((zZ 1).v.min), .int .i64 ((zZ 1).v.pat), .string (mkS (zZ 1).v.pre), .string (mkS (zZ 1).v.build), .bool ((zZ 1).aft)], 78⟩] := ⟨rfl, .inr ⟨b1, 2, _, rfl, rfl, Nat.le_refl _, by unfold maxLen; omega, rfl, rfl⟩⟩
  refine gN (L' := [⟨b1, #[.int .i64 ((zZ (-1)).e), .int .i64 ((zZ (-1)).v.maj), .int .i64 ((zZ (-1)).v.min), .int .i64 ((zZ (-1)).v.pat), .string (mkS (zZ (-1)).v.pre), .string (mkS (zZ (-1)).v.build), .bool ((zZ (-1)).aft), .int .i64 ((zZ 1).e), .int .i64 ((zZ 1).v.maj), .int .i64 ((zZ 1).v.min), .int .i64 ((zZ 1).v.pat), .string (mkS (zZ 1).v.pre), .string (mkS (zZ 1).v.build), .bool ((zZ 1).aft)], 78⟩] ++ []) rfl (yP (fun L f m => ∃ (k : Nat) (v : Value) (ob : List Blk) (j : Nat → Value), (k ≤ l.length ∧ SlC v (gC (l.take k)) ob) ∧ L = ob ++ [] ∧ f = kA j [(0, .slice A l.length cap), (3, v), (4, .int .i64 (k : Int))] ∧ m = l.length - k) (l.length - 0) ⟨0, _, [⟨b1, #[.int .i64 ((zZ (-1)).e), .int .i64 ((zZ (-1)).v.maj), .int .i64 ((zZ (-1)).v.min), .int .i64 ((zZ (-1)).v.pat), .string (mkS (zZ (-1)).v.pre), .string (mkS (zZ (-1)).v.build), .bool ((zZ (-1)).aft), .int .i64 ((zZ 1).e), .int .i64 ((zZ 1).v.maj), .int .i64 ((zZ 1).v.min), .int .i64 ((zZ 1).v.pat), .string (mkS (zZ 1).v.pre), .string (mkS (zZ 1).v.build), .bool ((zZ 1).aft)], 78⟩], _, ⟨Nat.zero_le _, hstart⟩, rfl, ZU, rfl⟩ ?_)
  rintro L f m ⟨k, v, ob, j, hrel, rfl, rfl, rfl⟩
  have hkl := hrel.1
  refine z6 (ZO (Zv (.int .i64 (k : Int)) (Zv (.slice A l.length cap) (Zv (.int .i64 (l.length : Int)) ?_))))
  by_cases h1 : (k : Int) < (l.length : Int)
  · have hk : k < l.length := by omega
    obtain ⟨b, off, hA, hlt, hcell⟩ := hv (by omega)
    obtain ⟨s, hs⟩ : ∃ s, l[k] = s := ⟨_, rfl⟩
    have hsk : s.short := hs ▸ hl _ (List.getElem_mem _)
    have hcz := mW l hl k hkl
    refine Zd (p := (k : Int) < (l.length : Int)) true (decide_eq_true (h1)) (ZY (ZB (z6 (zK (gN (L' := ob) (by simp) (xW [] (by kernel_rfl) (fun w hO => Own.take hO (by simp) (by simp)) (x3 0 _ (v) rfl (by kernel_rfl) (by kernel_rfl) (by kernel_rfl) (zO (zG (x5 (zO (zG zJ))))) (fun w hO => Own.take hO (by simp) (by simp)) (by kernel_rfl) (fun _ _ => by kernel_rfl) (x3 1 _ (.slice A l.length cap) rfl (by kernel_rfl) (by kernel_rfl) (by kernel_rfl) (zO (zG (x5 (zO (zG zJ))))) (fun w hO => Own.take hO (by simp) (by simp)) (by kernel_rfl) (fun _ _ => by kernel_rfl) ?_))))))))
    refine x3 2 _ (.int .i64 (k : Int)) rfl (by kernel_rfl) (by kernel_rfl) (by kernel_rfl) (zO (zG (x5 (zO (zG zJ))))) (fun w hO => Own.take hO (by simp) (by simp)) (by kernel_rfl) (fun _ _ => by kernel_rfl) (x3 3 _ (.pointer (some ⟨b, off + k * 14, none⟩)) rfl (by kernel_rfl) (by kernel_rfl) (by kernel_rfl) (zO (zG (x5 (zO (zG zJ))))) (fun w hO => Own.take hO (by simp) (by simp)) (by kernel_rfl) (fun w _ => jJ (b := b) (off := off) (c := cap) (n := l.length) (k := .i64) (j := (k : Int)) (e := 80) (sz := 14) rfl (by kernel_rfl) hA (by kernel_rfl) (by kernel_rfl) (by kernel_rfl) (by omega) (by omega) (by show off + k * 14 = off + k * 14; rfl) w) (x3 4 _ (.pointer (some ⟨b, off + k * 14 + 0, none⟩)) rfl (by kernel_rfl) (by kernel_rfl) (by kernel_rfl) (zO (zG (x5 (zO (zG zJ))))) (fun w hO => Own.take hO (by simp) (by simp)) (by kernel_rfl) (fun _ _ => by kernel_rfl) (pK 5 _ (a := ⟨b, off + k * 14 + 0, none⟩) (zA s.lo) rfl (by kernel_rfl) (by kernel_rfl) (by kernel_rfl) (zO (zG (x5 (zO (zG zJ))))) (fun w hO => Own.take hO (by simp) (by simp)) (by kernel_rfl) rfl (by kernel_rfl) (fun w hO => yD yB (fun j u h => (hO.below.cell (p := ⟨b, off + j, none⟩) hlt).trans (hcell j u h)) k 0 hk (by omega) _ (by rw [hs]; kernel_rfl)) (x3 7 _ (.slice A l.length cap) rfl (by kernel_rfl) (by kernel_rfl) (by kernel_rfl) (zO (zG (x5 (zO (zG zJ))))) (fun w hO => Own.take hO (by simp) (by simp)) (by kernel_rfl) (fun _ _ => by kernel_rfl) (x3 8 _ (.int .i64 (k : Int)) rfl (by kernel_rfl) (by kernel_rfl) (by kernel_rfl) (zO (zG (x5 (zO (zG zJ))))) (fun w hO => Own.take hO (by simp) (by simp)) (by kernel_rfl) (fun _ _ => by kernel_rfl) (x3 9 _ (.pointer (some ⟨b, off + k * 14, none⟩)) rfl (by kernel_rfl) (by kernel_rfl) (by kernel_rfl) (zO (zG (x5 (zO (zG zJ))))) (fun w hO => Own.take hO (by simp) (by simp)) (by kernel_rfl) (fun w _ => jJ (b := b) (off := off) (c := cap) (n := l.length) (k := .i64) (j := (k : Int)) (e := 80) (sz := 14) rfl (by kernel_rfl) hA (by kernel_rfl) (by kernel_rfl) (by kernel_rfl) (by omega) (by omega) (by show off + k * 14 = off + k * 14; rfl) w) (x3 10 _ (.pointer (some ⟨b, off + k * 14 + 7, none⟩)) rfl (by kernel_rfl) (by kernel_rfl) (by kernel_rfl) (zO (zG (x5 (zO (zG zJ))))) (fun w hO => Own.take hO (by simp) (by simp)) (by kernel_rfl) (fun _ _ => by kernel_rfl) (pK 11 _ (a := ⟨b, off + k * 14 + 7, none⟩) (zA s.hi) rfl (by kernel_rfl) (by kernel_rfl) (by kernel_rfl) (zO (zG (x5 (zO (zG zJ))))) (fun w hO => Own.take hO (by simp) (by simp)) (by kernel_rfl) rfl (by kernel_rfl) (fun w hO => yD yB (fun j u h => (hO.below.cell (p := ⟨b, off + j, none⟩) hlt).trans (hcell j u h)) k 7 hk (by omega) _ (by rw [hs]; kernel_rfl)) ?_))))))))
    have hp1 := tF s.lo (gC (l.take k))
    refine zY 6 (by kernel_rfl) (vG _ (k := 155) (args := #[v, zA s.lo]) (fun v' L' => SlC v' (kX s.lo (gC (l.take k))) L') rfl (by kernel_rfl) (fun _ => by kernel_rfl) (fun w hO => put_call s.lo hO hrel.2 hcz.2.1 (by omega) hcz.2.2 hsk.1) (fun _ _ _ => (fun w hO => Own.take hO (by simp) (by simp))) (fun v1 ob1 hv1 => zY 12 (by kernel_rfl) (vG _ (k := 155) (args := #[v1, zA s.hi]) (fun v' L' => SlC v' (kX s.hi (kX s.lo (gC (l.take k)))) L') rfl (by kernel_rfl) (fun _ => by kernel_rfl) (fun w hO => put_call s.hi hO hv1 hp1.2 (by omega) (nW hsk.1 hcz.2.2) hsk.2) (fun _ _ _ => (fun w hO => Own.take hO (by simp) (by simp))) (fun v2 ob2 hv2 => x3 13 _ (v2) rfl (by kernel_rfl) (by kernel_rfl) (by kernel_rfl) (zO (zG (x5 (zO (zG zJ))))) (fun w hO => Own.take hO (by simp) (by simp)) (by kernel_rfl) (fun _ _ => by kernel_rfl) (yO (by kernel_rfl) (fin_cast (L' := ob2 ++ []) (by simp) (zS (zB (z7 (Zv (.int .i64 (k : Int)) (Zu (k := .i64) (((k + 1 : Nat) : Int)) (IntWalk.i64_in _ (by omega)) ?_)))))))))))
    refine Zv (.int .i64 ((k + 1 : Nat) : Int)) (zP ?_)
    have hnext : SlC v2 (gC (l.take (k + 1))) ob2 := by rw [cuts_step l k hk, hs]; exact hv2
    exact zU (m' := l.length - (k + 1)) (by omega) ⟨k + 1, v2, ob2, _, ⟨by omega, hnext⟩, rfl, ZU, rfl⟩
  refine Zd (p := (k : Int) < (l.length : Int)) false (decide_eq_false (h1)) (ZX (y8 (zD (zN (zI (zB (ZO (Zv (v) ?_))))))))
  exact Zv (v) (ZN (zC (ZF (v) Tryz.results100 (fun w hO => ⟨v, ob, rfl, by have h := hrel.2; rwa [List.take_of_length_le (by omega)] at h, by simpa using hO⟩))))
end
section
section
variable {M : List Nat} {P : Program} {n : Nat} {ops : Array Oper} {W : World} {Q : Exit → Act → World → Prop} {L0 L : List Blk} {f : Nat → Value} {fuel : Nat} {listed : Array Bool} {rest : List Oper} {o : Oper}
theorem yK {k : FuncId} {args : Array Value} (R : Value → List Blk → Prop) (hw : k8 ops n f o = true) (he : ∀ w, (execOp (ev n f) o).run P w = .ok (.enter k args) w)
    (hc : ∀ w, Own M W w L → Calls P k args w fun e w' => ∃ v L', e = .returned v ∧ R v L' ∧ Own M W w' L') (h : ∀ v L', R v L' → Seg M P n ops W Q rest L' (upd f o.dst v)) : Seg M P n ops W Q (o :: rest) L f :=
  vZ hw fun w hO => pX (he w) ((hc w hO).mono fun e w' ⟨v, L', e1, e2, e3⟩ => ⟨v, e1, (h v L' e2).go w' e3⟩)
theorem hl_sum {k : IntKind} (i : Nat) (oi : Oper) (z : Int) (hi : ops[i]? = some oi) (hs : Region.noSelect ops = true) (hf : Region.free .any ops listed i = true) (hr : (Region.ready .any ops listed).contains i = true)
    (hQ : PQ Q) (hsub : ∀ w, Own M W w L → Own M W w L0) (hw : k8 ops n f oi = true) (hrun : ∀ w, (execOp (ev n f) oi).run P w = .ok (.value (.int k (k.wrap z))) w) (hz : k.wrap z = z)
    (h : vQ M P n ops W L0 Q fuel (listed.setIfInBounds i true) L (upd f oi.dst (.int k z))) : vQ M P n ops W L0 Q (fuel + 1) listed L f :=
  x3 i oi (.int k z) hi hs hf hr hQ hsub hw (fun w _ => by rw [hrun w, hz]) h
theorem Own.perm {w : World} {L' : List Blk} (h : Own M W w L) (hp : L.Perm L') : Own M W w L' :=
  h.take (fun x hx => hp.mem_iff.2 hx) ((hp.map Blk.b).nodup_iff.1 h.apart)
end
theorem SlS.form {v : Value} {l : List Sp} {ob : List Blk} (h : SlS v l ob) : ∃ A cap, v = .slice A l.length cap := by
  rcases h.2 with ⟨h1, h2, _⟩ | ⟨g, cap, cur, h1, _⟩
  · exact ⟨none, 0, by rw [h1, h2]⟩
  · exact ⟨_, cap, h1⟩
theorem grow_call {M : List Nat} {W w : World} {v : Value} {l : List Sp} {x : Blk} {ob : List Blk} (c d : Cu) (hO : Own M W w (x :: ob)) (hv : SlS v l ob) (hn : l.length ≤ 1000000) (hl : x7 l) (hc : c.short) (hd : d.short) :
    Calls Tryz.prog 102 #[v, zA c, zA d] w fun e w' => ∃ v' L', e = .returned v' ∧ (∃ ob', L' = x :: ob' ∧ SlS v' (v8 l c d) ob') ∧ Own M W w' L' := by
  obtain ⟨A, cap, rfl⟩ := hv.form
  refine (grow_any A cap l ob c d w hv (Own.lend (hO.sub [x])) hn hl hc hd).mono fun e w' ⟨v', ob', h1, h2, h3⟩ => ⟨v', x :: ob', h1, ⟨ob', rfl, h2⟩, ?_⟩
  have hp : Own M W w (ob ++ [x]) := hO.perm (List.perm_append_comm (l₁ := [x]) (l₂ := ob))
  exact (Own.join hp h3).perm (List.perm_append_comm (l₁ := ob') (l₂ := [x]))
theorem grow_len (l : List Sp) (c d : Cu) : (v8 l c d).length ≤ l.length + 1 := by
  unfold v8
  split
  · split
    · first | (simp; done) | (simp; omega)
    · simp
  · simp
theorem grow_short {l : List Sp} {c d : Cu} (hl : x7 l) (hc : c.short) (hd : d.short) : x7 (v8 l c d) := by
  unfold v8
  split
  · rename_i s hs
    split
    · intro x hx
      rcases List.mem_append.1 hx with h | h
      · exact hl x (List.dropLast_subset _ h)
      · obtain rfl : x = _ := by simpa using h
        exact ⟨(hl s (List.mem_of_getLast? hs)).1, hd⟩
    · intro x hx
      rcases List.mem_append.1 hx with h | h
      · exact hl x h
      · obtain rfl : x = _ := by simpa using h
        exact ⟨hc, hd⟩
  · intro x hx
    obtain rfl : x = _ := by simpa using hx
    exact ⟨hc, hd⟩
theorem build_step (p : Cu → Cu → Bool) (out : List Sp) (cs : List Cu) (k : Nat) (hk : k + 1 < cs.length) {c d : Cu} (hc : cs[k] = c) (hd : cs[k + 1] = d) : kV p out (cs.drop k) = kV p (if p c d then v8 out c d else out) (cs.drop (k + 1)) := by
  rw [List.drop_eq_getElem_cons (show k < cs.length by omega), List.drop_eq_getElem_cons hk, hc, hd]
  conv => lhs; unfold kV
theorem build_end (p : Cu → Cu → Bool) (out : List Sp) (cs : List Cu) (k : Nat) (hk : ¬ k + 1 < cs.length) : kV p out (cs.drop k) = out := by
  have : (cs.drop k).length ≤ 1 := by rw [List.length_drop]; omega
  match h : cs.drop k with
  | [] => rfl
  | [x] => rfl
  | x :: y :: r => rw [h] at this; simp at this
structure Built (p : Cu → Cu → Bool) (cs : List Cu) (k : Nat) (v : Value) (out : List Sp) (ob : List Blk) : Prop where
  le : k ≤ cs.length
  sl : SlS v out ob
  len : out.length ≤ k
  short : x7 out
  eq : kV p [] cs = kV p out (cs.drop k)
theorem Built.start (p : Cu → Cu → Bool) (cs : List Cu) : Built p cs 0 (.slice none 0 0) [] [] := ⟨Nat.zero_le _, Sl.nil _ _, Nat.le_refl _, fun s hs => by simp at hs, rfl⟩
theorem Built.keep {p : Cu → Cu → Bool} {cs : List Cu} {k : Nat} {v : Value} {out : List Sp} {ob : List Blk} (h : Built p cs k v out ob) (hk : k + 1 < cs.length) {c d : Cu} (hc : cs[k] = c) (hd : cs[k + 1] = d) (hp : p c d = false) : Built p cs (k + 1) v out ob :=
  ⟨by omega, h.sl, by have := h.len; omega, h.short, by rw [h.eq, build_step p out cs k hk hc hd, hp]; rfl⟩
theorem Built.grow {p : Cu → Cu → Bool} {cs : List Cu} {k : Nat} {v v2 : Value} {out : List Sp} {ob ob2 : List Blk} (h : Built p cs k v out ob) (hk : k + 1 < cs.length) {c d : Cu} (hc : cs[k] = c) (hd : cs[k + 1] = d) (hp : p c d = true) (hcs : c.short) (hds : d.short) (h2 : SlS v2 (v8 out c d) ob2) : Built p cs (k + 1) v2 (v8 out c d) ob2 :=
  ⟨by omega, h2, by have := h.len; have := grow_len out c d; omega, grow_short h.short hcs hds, by rw [h.eq, build_step p out cs k hk hc hd, hp]; rfl⟩
theorem rnot_any (A : Option Addr) (cap : Nat) (l : List Sp) (W : World) (hv : Reads x4 W W.heap.size A l) (hn : l.length ≤ 300000) (hl : x7 l) :
    Calls Tryz.prog 95 #[.slice A l.length cap] W fun e w' => ∃ v' ob', e = .returned v' ∧ SlS v' (if zL l then qY l else []) ob' ∧ Own [] W w' ob' := by
  refine zQ (n := 42) Tryz.func95 rfl (by kernel_rfl) (by kernel_rfl) (ZO (Zv (.slice none 0 0) (ZN (z6 (ZO (Zv (.slice A l.length cap) (Zc (k := 54) (args := #[.slice A l.length cap]) (.bool (zL l)) (fun w hO => wY A cap l w (hv.on hO.below hO.size) (by omega) hl) ?_)))))))
  cases h1 : zL l with
  | true =>
    refine Zv (.bool false) (ZX (ZB (ZO (Zv (.slice none 0 0) (ZN (z6 ?_))))))
    refine z7 (Zv (.slice A l.length cap) (yK (k := 100) (args := #[.slice A l.length cap]) (fun v' L' => SlC v' (gC l) L') (by kernel_rfl) (fun _ => by kernel_rfl) (fun w hO => (cuts_any A cap l w (hv.on hO.below hO.size) (by omega) hl).mono fun e w' ⟨v', ob', h1, h2, h3⟩ => ⟨v', ob', h1, h2, by simpa using Own.joinN hO h3⟩) (fun cv oc hcv => ?_)))
    have hcz := mW l hl l.length (Nat.le_refl _)
    rw [List.take_length] at hcz
    obtain ⟨cs, hcs⟩ : ∃ cs, cs = gC l := ⟨_, rfl⟩
    rw [← hcs] at hcv hcz
    have hcsn := hcz.1
    have hcs0 := hcz.2.1
    have hcsS := hcz.2.2
    obtain ⟨B, ccap, rfl⟩ := hcv.form
    obtain ⟨g, cur, rfl, rfl, hccap, hcmax, hcsz, hcur⟩ := hcv.block hcs0
    refine Zv (.slice (some ⟨g, 0, none⟩) cs.length ccap) (ZN (z6 (ZO (Zv (.int .i64 0) (ZN (zK (yP (fun L f m => ∃ (k : Nat) (v : Value) (out : List Sp) (ob : List Blk) (j : Nat → Value), (Built (fun c d => !inL l c d) cs k v out ob) ∧ L = ⟨g, cur, 78⟩ :: ob ∧ f = kA j [(0, .slice A l.length cap), (3, v), (4, .slice (some ⟨g, 0, none⟩) cs.length ccap), (5, .int .i64 (k : Int))] ∧ m = cs.length - k) (cs.length - 0) ⟨0, _, [], [], _, Built.start _ cs, rfl, ZU, rfl⟩ ?_)))))))
    rintro L f m ⟨k, v, out, ob, j, hrel, rfl, rfl, rfl⟩
    have hkl := hrel.le
    refine z6 (ZO (Zv (.int .i64 (k : Int)) (Zu (k := .i64) (((k + 1 : Nat) : Int)) (IntWalk.i64_in _ (by omega)) (Zv (.slice (some ⟨g, 0, none⟩) cs.length ccap) (Zv (.int .i64 (cs.length : Int)) ?_)))))
    by_cases h2 : ((k + 1 : Nat) : Int) < (cs.length : Int)
    · have hk : k + 1 < cs.length := by omega
      obtain ⟨c, hc⟩ : ∃ c, cs[k] = c := ⟨_, rfl⟩
      obtain ⟨d, hd⟩ : ∃ d, cs[k + 1] = d := ⟨_, rfl⟩
      have hcS : c.short := hc ▸ hcsS _ (List.getElem_mem _)
      have hdS : d.short := hd ▸ hcsS _ (List.getElem_mem _)
      have hlen := hrel.len
      refine Zd (p := ((k + 1 : Nat) : Int) < (cs.length : Int)) true (decide_eq_true (h2)) (ZY (ZB (z6 (zK (z6 (vK (by kernel_rfl) (by kernel_rfl) (Zw (.slice A l.length cap) (Zw (.slice (some ⟨g, 0, none⟩) cs.length ccap) ?_))))))))
      refine Zw (.int .i64 (k : Int)) (gF (.pointer (some ⟨g, k * 7, none⟩)) (by kernel_rfl) (gU (b := g) (off := 0) (n := cs.length) (c := ccap) (k := .i64) (j := (k : Int)) (e := 78) (sz := 7) rfl (by kernel_rfl) (by kernel_rfl) (by kernel_rfl) (by kernel_rfl) (by omega) (by omega) (by show 0 + k * 7 = k * 7; omega)) (j0 0 ⟨g, cur, 78⟩ (off := k * 7) (zA c) (by kernel_rfl) rfl (by kernel_rfl) (by kernel_rfl) (xT xZ hcur k 0 (by omega) (by omega) _ (by rw [hc]; kernel_rfl)) (Zw (.slice (some ⟨g, 0, none⟩) cs.length ccap) (Zw (.int .i64 (k : Int)) (q_sum (k := .i64) (((k + 1 : Nat) : Int)) (by kernel_rfl) (fun _ => by kernel_rfl) (IntWalk.i64_in _ (by omega)) (gF (.pointer (some ⟨g, (k + 1) * 7, none⟩)) (by kernel_rfl) (gU (b := g) (off := 0) (n := cs.length) (c := ccap) (k := .i64) (j := ((k + 1 : Nat) : Int)) (e := 78) (sz := 7) rfl (by kernel_rfl) (by kernel_rfl) (by kernel_rfl) (by kernel_rfl) (by omega) (by omega) (by show 0 + (k + 1) * 7 = (k + 1) * 7; omega)) (j0 0 ⟨g, cur, 78⟩ (off := (k + 1) * 7) (zA d) (by kernel_rfl) rfl (by kernel_rfl) (by kernel_rfl) (xT xZ hcur (k + 1) 0 (by omega) (by omega) _ (by rw [hd]; kernel_rfl)) (Zq (k := 101) (args := #[.slice A l.length cap, zA c, zA d]) (.bool (inL l c d)) (fun w hO => in_any A cap l c d w (hv.on hO.below hO.size) (by omega) hl hcS hdS) ?_))))))))
      cases h3 : inL l c d with
      | true =>
        refine Zw (.bool false) (kP (zB (Zf (yS (zS (zB (z7 (Zv (.int .i64 (k : Int)) (Zu (k := .i64) (((k + 1 : Nat) : Int)) (IntWalk.i64_in _ (by omega)) (Zv (.int .i64 ((k + 1 : Nat) : Int)) (zP ?_)))))))))))
        exact zU (m' := cs.length - (k + 1)) (by omega) ⟨k + 1, v, out, ob, _, hrel.keep hk hc hd (by simp [h1, h2, h3]), rfl, ZU, rfl⟩
      | false =>
        refine Zw (.bool true) (kP (zB (Zt (xW [⟨g, cur, 78⟩] (by kernel_rfl) (fun w hO => Own.take hO (by simp) (by simp)) (x3 0 _ (v) rfl (by kernel_rfl) (by kernel_rfl) (by kernel_rfl) (zO (zG (x5 (zO (zG zJ))))) (fun w hO => Own.take hO (by simp) (by simp)) (by kernel_rfl) (fun _ _ => by kernel_rfl) (x3 1 _ (.slice (some ⟨g, 0, none⟩) cs.length ccap) rfl (by kernel_rfl) (by kernel_rfl) (by kernel_rfl) (zO (zG (x5 (zO (zG zJ))))) (fun w hO => Own.take hO (by simp) (by simp)) (by kernel_rfl) (fun _ _ => by kernel_rfl) (x3 2 _ (.int .i64 (k : Int)) rfl (by kernel_rfl) (by kernel_rfl) (by kernel_rfl) (zO (zG (x5 (zO (zG zJ))))) (fun w hO => Own.take hO (by simp) (by simp)) (by kernel_rfl) (fun _ _ => by kernel_rfl) (x3 3 _ (.pointer (some ⟨g, k * 7, none⟩)) rfl (by kernel_rfl) (by kernel_rfl) (by kernel_rfl) (zO (zG (x5 (zO (zG zJ))))) (fun w hO => Own.take hO (by simp) (by simp)) (by kernel_rfl) (fun w _ => gU (b := g) (off := 0) (n := cs.length) (c := ccap) (k := .i64) (j := (k : Int)) (e := 78) (sz := 7) rfl (by kernel_rfl) (by kernel_rfl) (by kernel_rfl) (by kernel_rfl) (by omega) (by omega) (by show 0 + k * 7 = k * 7; omega) w) (hl_load 4 _ 0 ⟨g, cur, 78⟩ (off := k * 7) (zA c) rfl (by kernel_rfl) (by kernel_rfl) (by kernel_rfl) (zO (zG (x5 (zO (zG zJ))))) (fun w hO => Own.take hO (by simp) (by simp)) (by kernel_rfl) rfl rfl (by kernel_rfl) (xT xZ hcur k 0 (by omega) (by omega) _ (by rw [hc]; kernel_rfl)) (x3 5 _ (.slice (some ⟨g, 0, none⟩) cs.length ccap) rfl (by kernel_rfl) (by kernel_rfl) (by kernel_rfl) (zO (zG (x5 (zO (zG zJ))))) (fun w hO => Own.take hO (by simp) (by simp)) (by kernel_rfl) (fun _ _ => by kernel_rfl) (x3 6 _ (.int .i64 (k : Int)) rfl (by kernel_rfl) (by kernel_rfl) (by kernel_rfl) (zO (zG (x5 (zO (zG zJ))))) (fun w hO => Own.take hO (by simp) (by simp)) (by kernel_rfl) (fun _ _ => by kernel_rfl) ?_)))))))))))
        refine hl_sum (k := .i64) 7 _ ((k + 1 : Nat) : Int) rfl (by kernel_rfl) (by kernel_rfl) (by kernel_rfl) (zO (zG (x5 (zO (zG zJ))))) (fun w hO => Own.take hO (by simp) (by simp)) (by kernel_rfl) (fun _ => by kernel_rfl) (IntWalk.i64_in _ (by omega)) (x3 8 _ (.pointer (some ⟨g, (k + 1) * 7, none⟩)) rfl (by kernel_rfl) (by kernel_rfl) (by kernel_rfl) (zO (zG (x5 (zO (zG zJ))))) (fun w hO => Own.take hO (by simp) (by simp)) (by kernel_rfl) (fun w _ => gU (b := g) (off := 0) (n := cs.length) (c := ccap) (k := .i64) (j := ((k + 1 : Nat) : Int)) (e := 78) (sz := 7) rfl (by kernel_rfl) (by kernel_rfl) (by kernel_rfl) (by kernel_rfl) (by omega) (by omega) (by show 0 + (k + 1) * 7 = (k + 1) * 7; omega) w) (hl_load 9 _ 0 ⟨g, cur, 78⟩ (off := (k + 1) * 7) (zA d) rfl (by kernel_rfl) (by kernel_rfl) (by kernel_rfl) (zO (zG (x5 (zO (zG zJ))))) (fun w hO => Own.take hO (by simp) (by simp)) (by kernel_rfl) rfl rfl (by kernel_rfl) (xT xZ hcur (k + 1) 0 (by omega) (by omega) _ (by rw [hd]; kernel_rfl)) (zY 10 (by kernel_rfl) (vG _ (k := 102) (args := #[v, zA c, zA d]) (fun v' L' => ∃ ob', L' = ⟨g, cur, 78⟩ :: ob' ∧ SlS v' (v8 out c d) ob') rfl (by kernel_rfl) (fun _ => by kernel_rfl) (fun w hO => grow_call c d hO hrel.sl (by omega) hrel.short hcS hdS) (fun v' L' ⟨ob', e, _⟩ => by subst e; exact (fun w hO => Own.take hO (by simp) (by simp))) (fun v2 L2 hv2 => ?_)))))
        obtain ⟨ob2, rfl, hs2⟩ := hv2
        exact x3 11 _ (v2) rfl (by kernel_rfl) (by kernel_rfl) (by kernel_rfl) (zO (zG (x5 (zO (zG zJ))))) (fun w hO => Own.take hO (by simp) (by simp)) (by kernel_rfl) (fun _ _ => by kernel_rfl) (yO (by kernel_rfl) (zS (zB (z7 (Zv (.int .i64 (k : Int)) (Zu (k := .i64) (((k + 1 : Nat) : Int)) (IntWalk.i64_in _ (by omega)) (Zv (.int .i64 ((k + 1 : Nat) : Int)) (zP (zU (m' := cs.length - (k + 1)) (by omega) ⟨k + 1, v2, v8 out c d, ob2, _, hrel.grow hk hc hd (by simp [h1, h2, h3]) hcS hdS hs2, rfl, ZU, rfl⟩)))))))))
    refine Zd (p := ((k + 1 : Nat) : Int) < (cs.length : Int)) false (decide_eq_false (h2)) (ZX (y8 (zD (zN (zI (zB (ZO (Zv (v) ?_))))))))
    exact Zv (v) (ZN (zC (ZF (v) Tryz.results95 (fun w hO => ⟨v, ob, rfl, by rw [if_pos rfl, show qY l = out from by unfold qY; rw [← hcs, hrel.eq, build_end _ _ _ _ (by omega)]]; exact hrel.sl, hO.sub [_]⟩))))
  | false =>
    refine Zv (.bool true) (ZY (ZO (Zv (.slice none 0 0) (ZN (zC (z8 (ZF (.slice none 0 0) Tryz.results95 ?_)))))))
    exact fun w hO => ⟨_, [], rfl, by rw [if_neg (by decide)]; exact Sl.nil _ _, by simpa using hO⟩
end
section
def gA (l : List Sp) : Bool := l.all (·.may)
theorem allMay_mem {l : List Sp} : gA l = true ↔ ∀ s ∈ l, s.may = true := by unfold gA; rw [List.all_eq_true]
theorem allMay_take (l : List Sp) (k : Nat) (hk : k < l.length) (h : gA (l.take k) = true) (hs : l[k].may = true) : gA (l.take (k + 1)) = true := by
  rw [allMay_mem] at h ⊢
  rw [List.take_succ_eq_append_getElem hk]
  intro x hx
  rcases List.mem_append.1 hx with hx | hx
  · exact h x hx
  · obtain rfl : x = l[k] := by simpa using hx
    exact hs
theorem allMay_not (l : List Sp) (k : Nat) (hk : k < l.length) (hs : l[k].may = false) : gA l = false := by
  cases h : gA l with
  | false => rfl
  | true => rw [allMay_mem.1 h _ (List.getElem_mem hk)] at hs; cases hs
end
section
theorem both_short {a b : List Sp} (ha : x7 a) (hb : x7 b) : x7 (a ++ b) := fun s hs => by
  rcases List.mem_append.1 hs with h | h
  · exact ha s h
  · exact hb s h
end
section
theorem build_len (p : Cu → Cu → Bool) : ∀ (cs : List Cu) (out : List Sp), (kV p out cs).length ≤ out.length + cs.length
  | [], out => by unfold kV; simp
  | [c], out => by unfold kV; simp
  | c :: d :: r, out => by
    have ih := build_len p (d :: r) (if p c d then v8 out c d else out)
    unfold kV
    have : (if p c d = true then v8 out c d else out).length ≤ out.length + 1 := by
      split
      · exact grow_len out c d
      · omega
    simp only [List.length_cons] at ih ⊢
    omega
end
section
def yR (a b : Cu) : Cu := if 0 < zM a b then b else a
def yX (a b : Cu) : Cu := if 0 < zM a b then a else b
theorem minC_may {a b : Cu} (ha : a.may = true) (hb : b.may = true) : (yR a b).may = true := by unfold yR; split <;> assumption
theorem fY {a b : Cu} (ha : a.may = true) (hb : b.may = true) : (yX a b).may = true := by unfold yX; split <;> assumption
theorem minC_lt {a b x : Cu} (ha : a.may = true) (hb : b.may = true) (hx : x.may = true) : decide (zM x (yR a b) < 0) = (decide (zM x a < 0) && decide (zM x b < 0)) := by
  rw [← Bool.decide_and]
  refine decide_eq_decide.2 ?_
  unfold yR
  split
  · rename_i h
    exact ⟨fun h2 => ⟨xU hx hb ha h2 (by have := xJ (a := a) (b := b); omega), h2⟩, fun h2 => h2.2⟩
  · rename_i h
    exact ⟨fun h2 => ⟨h2, wP hx ha hb h2 (by omega)⟩, fun h2 => h2.1⟩
theorem maxC_le {a b x : Cu} (ha : a.may = true) (hb : b.may = true) (hx : x.may = true) : decide (zM (yX a b) x ≤ 0) = (decide (zM a x ≤ 0) && decide (zM b x ≤ 0)) := by
  rw [← Bool.decide_and]
  refine decide_eq_decide.2 ?_
  unfold yX
  split
  · rename_i h
    exact ⟨fun h2 => ⟨h2, qX hb ha hx (by have := xJ (a := a) (b := b); omega) h2⟩, fun h2 => h2.1⟩
  · rename_i h
    exact ⟨fun h2 => ⟨qX ha hb hx (by omega) h2, h2⟩, fun h2 => h2.2⟩
theorem wC {c d : Cu} (h : zM c d < 0) : (Sp.mk c d).may = true := by
  unfold Sp.may
  have := wO c d
  rw [decide_eq_true_eq]; show zM c d = -1; omega
theorem sp_not_of {c d : Cu} (h : (Sp.mk c d).may = false) : ¬ zM c d < 0 := fun h2 => by rw [wC h2] at h; cases h
theorem in_none {c d x : Cu} (hc : c.may = true) (hd : d.may = true) (hx : x.may = true) (h : ¬ zM c d < 0) : kZ ⟨c, d⟩ x = false := by
  unfold kZ
  rw [Bool.and_eq_false_iff, decide_eq_false_iff_not, decide_eq_false_iff_not]
  by_cases h1 : zM c x ≤ 0
  · exact .inr fun h2 => h (pO hc hx hd h1 h2)
  · exact .inl h1
def gY (l : List Sp) (c d : Cu) : List Sp := if (Sp.mk c d).may then l ++ [⟨c, d⟩] else l
theorem add_ok {out : List Sp} {c d : Cu} (ho : zL out = true) (hl : ∀ t ∈ out.getLast?, zM t.hi c < 0) : zL (gY out c d) = true := by
  unfold gY
  split
  · exact uG ho (by assumption) hl
  · exact ho
theorem add_den {out : List Sp} {c d x : Cu} (hc : c.may = true) (hd : d.may = true) (hx : x.may = true) : den (gY out c d) x = (den out x || kZ ⟨c, d⟩ x) := by
  unfold gY
  split
  · rw [bD]; unfold den; simp
  · rename_i h
    rw [in_none hc hd hx (sp_not_of (by simpa using h)), Bool.or_false]
theorem add_last {out : List Sp} {c d : Cu} : ∀ t ∈ (gY out c d).getLast?, t = ⟨c, d⟩ ∨ (t ∈ out.getLast? ∧ ¬ zM c d < 0) := by
  unfold gY
  split
  · intro t ht
    rw [List.getLast?_concat] at ht
    exact .inl (Option.some.inj ht).symm
  · rename_i h
    exact fun t ht => .inr ⟨ht, sp_not_of (by simpa using h)⟩
theorem n7 (l : List Sp) (c d : Cu) : (gY l c d).length ≤ l.length + 1 := by unfold gY; split <;> simp
def tK (p : List Sp × Cu) (s : Sp) : List Sp × Cu := (gY p.1 p.2 s.lo, s.hi)
def notG (l : List Sp) : List Sp := gY (l.foldl tK ([], zZ (-1))).1 (l.foldl tK ([], zZ (-1))).2 (zZ 1)
theorem dC (s : Sp) (l : List Sp) (x : Cu) : den (s :: l) x = (kZ s x || den l x) := by unfold den; rw [List.any_cons]
theorem dD {s : Sp} {l : List Sp} {x : Cu} (h : zL (s :: l) = true) (hx : x.may = true) (hlt : zM x s.hi ≤ 0) : den l x = false :=
  wM fun t ht => pO hx (y7 (xV h)).2 (y7 (x8 h t (List.mem_cons_of_mem _ ht))).1 hlt (g6 h t ht)
theorem not_go : ∀ (l out : List Sp) (f : Cu), zL l = true → zL out = true → f.may = true → (∀ t ∈ out.getLast?, zM t.hi f < 0) → (∀ s ∈ l.head?, zM f s.lo ≤ 0) →
    zL (gY (l.foldl tK (out, f)).1 (l.foldl tK (out, f)).2 (zZ 1)) = true ∧ ∀ x : Cu, x.may = true → zM x (zZ 1) < 0 → den (gY (l.foldl tK (out, f)).1 (l.foldl tK (out, f)).2 (zZ 1)) x = (den out x || (decide (zM f x ≤ 0) && !den l x))
  | [], out, f, hl, ho, hf, h1, h2 => ⟨add_ok ho h1, fun x hx he => by
      show den (gY out f (zZ 1)) x = _
      rw [add_den hf wJ hx]
      unfold kZ
      rw [decide_eq_true he]
      simp [den]⟩
  | s :: r, out, f, hl, ho, hf, h1, h2 => by
    have hs := xV hl
    obtain ⟨m1, m2⟩ := y7 hs
    have hlt := uR hs
    have hfs : zM f s.lo ≤ 0 := h2 s rfl
    have ih := not_go r (gY out f s.lo) s.hi (kS hl) (add_ok ho h1) m2 (fun t ht => by
      rcases add_last t ht with rfl | ⟨h3, h4⟩
      · exact hlt
      · exact xU (y7 (x8 ho t (List.mem_of_getLast? h3))).2 hf m2 (h1 t h3) (pO hf m1 m2 hfs hlt)) (fun t ht => by
        have := g6 hl t (List.mem_of_mem_head? ht); omega)
    refine ⟨ih.1, fun x hx he => ?_⟩
    show den (gY (r.foldl tK (gY out f s.lo, s.hi)).1 (r.foldl tK (gY out f s.lo, s.hi)).2 (zZ 1)) x = _
    rw [ih.2 x hx he, add_den hf m1 hx, dC]
    unfold kZ
    show (den out x || (decide (zM f x ≤ 0) && decide (zM x s.lo < 0)) || _) = _
    by_cases c1 : zM x s.lo < 0
    · have c2 : zM x s.hi < 0 := xU hx m1 m2 c1 hlt
      rw [decide_eq_true c1, dD hl hx (by omega), decide_eq_false (show ¬ zM s.hi x ≤ 0 from by have := xJ (a := x) (b := s.hi); omega), decide_eq_false (show ¬ zM s.lo x ≤ 0 from by have := xJ (a := x) (b := s.lo); omega)]
      simp
    · rw [decide_eq_false c1]
      have c3 : zM s.lo x ≤ 0 := jT c1
      rw [decide_eq_true c3, decide_eq_true (qX hf m1 hx hfs c3)]
      by_cases c4 : zM x s.hi < 0
      · rw [decide_eq_true c4, decide_eq_false (show ¬ zM s.hi x ≤ 0 from by have := xJ (a := x) (b := s.hi); omega)]
        simp
      · rw [decide_eq_false c4, decide_eq_true (jT c4)]
        simp
theorem notG_eq {l : List Sp} (h : zL l = true) : notG l = qY l := by
  have h1 := not_go l [] (zZ (-1)) h rfl mT (fun t ht => by simp at ht) (fun s hs => hD (y7 (x8 h s (List.mem_of_mem_head? hs))).1)
  have h2 := bG h
  refine mK _ _ h1.1 h2.1 fun c hc he => ?_
  rw [h2.2 c hc he]
  show den (gY _ _ _) c = _
  rw [h1.2 c hc he, decide_eq_true (hD hc)]
  simp [den]
def andG : Nat → List Sp → List Sp → List Sp → List Sp
  | n + 1, out, s :: a, u :: b => if s.hi = yR s.hi u.hi then andG n (gY out (yX s.lo u.lo) (yR s.hi u.hi)) a (u :: b) else andG n (gY out (yX s.lo u.lo) (yR s.hi u.hi)) (s :: a) b
  | _, out, _, _ => out
theorem min_is {a b : Cu} : a = yR a b ↔ zM a b ≤ 0 := by
  unfold yR
  split
  · rename_i h
    exact ⟨fun e => by have := kY a; rw [← e] at h; omega, fun h2 => by omega⟩
  · rename_i h
    exact ⟨fun _ => by omega, fun _ => rfl⟩
theorem maxC_ge {a b : Cu} (ha : a.may = true) (hb : b.may = true) : zM a (yX a b) ≤ 0 ∧ zM b (yX a b) ≤ 0 := by
  unfold yX
  split
  · rename_i h
    exact ⟨by rw [kY]; decide, by have := xJ (a := a) (b := b); omega⟩
  · rename_i h
    exact ⟨by omega, by rw [kY]; decide⟩
theorem maxC_up {a b c d x : Cu} (ha : a.may = true) (hb : b.may = true) (hc : c.may = true) (hd : d.may = true) (hx : x.may = true) (h1 : zM a c ≤ 0) (h2 : zM b d ≤ 0) (h : zM x (yX a b) < 0) : zM x (yX c d) < 0 := by
  have g := maxC_ge hc hd
  have m := fY hc hd
  unfold yX at h
  split at h
  · exact wP hx ha m h (qX ha hc m h1 g.1)
  · exact wP hx hb m h (qX hb hd m h2 g.2)
theorem maxC_one {a b x : Cu} (ha : a.may = true) (hb : b.may = true) (hx : x.may = true) (h : zM x a < 0) : zM x (yX a b) < 0 := wP hx ha (fY ha hb) h (maxC_ge ha hb).1
theorem maxC_two {a b x : Cu} (ha : a.may = true) (hb : b.may = true) (hx : x.may = true) (h : zM x b < 0) : zM x (yX a b) < 0 := wP hx hb (fY ha hb) h (maxC_ge ha hb).2
theorem in_both {s u : Sp} {x : Cu} (hs : s.may = true) (hu : u.may = true) (hx : x.may = true) : kZ ⟨yX s.lo u.lo, yR s.hi u.hi⟩ x = (kZ s x && kZ u x) := by
  unfold kZ
  rw [maxC_le (y7 hs).1 (y7 hu).1 hx, minC_lt (y7 hs).2 (y7 hu).2 hx]
  cases decide (zM s.lo x ≤ 0) <;> cases decide (zM u.lo x ≤ 0) <;> cases decide (zM x s.hi < 0) <;> cases decide (zM x u.hi < 0) <;> rfl
theorem and_go : ∀ (n : Nat) (out a b : List Sp), a.length + b.length ≤ n → zL out = true → zL a = true → zL b = true → (∀ t ∈ out.getLast?, ∀ s ∈ a.head?, ∀ u ∈ b.head?, zM t.hi (yX s.lo u.lo) < 0) →
    zL (andG n out a b) = true ∧ ∀ x : Cu, x.may = true → den (andG n out a b) x = (den out x || (den a x && den b x))
  | 0, out, a, b, hn, ho, ha, hb, hl => by
    obtain rfl : a = [] := List.eq_nil_of_length_eq_zero (by omega)
    exact ⟨ho, fun x _ => by simp [andG, den]⟩
  | n + 1, out, [], b, hn, ho, ha, hb, hl => ⟨ho, fun x _ => by simp [andG, den]⟩
  | n + 1, out, s :: a, [], hn, ho, ha, hb, hl => ⟨ho, fun x _ => by simp [andG, den]⟩
  | n + 1, out, s :: a, u :: b, hn, ho, ha, hb, hl => by
    have hs := xV ha
    have hu := xV hb
    obtain ⟨s1, s2⟩ := y7 hs
    obtain ⟨u1, u2⟩ := y7 hu
    have ho2 := add_ok (d := yR s.hi u.hi) ho (fun t ht => hl t ht s rfl u rfl)
    have mx := fY s1 u1
    have mn := minC_may s2 u2
    have hout : ∀ t ∈ out.getLast?, t.hi.may = true := fun t ht => (y7 (x8 ho t (List.mem_of_getLast? ht))).2
    unfold andG
    split
    · rename_i h
      have hle := min_is.1 h
      have ih := and_go n (gY out (yX s.lo u.lo) (yR s.hi u.hi)) a (u :: b) (by simp at hn ⊢; omega) ho2 (kS ha) hb (fun t ht s' hs' u' hu' => by
        obtain rfl : u = u' := Option.some.inj hu'
        have hsa := g6 ha s' (List.mem_of_mem_head? hs')
        have ms' := (y7 (x8 ha s' (List.mem_cons_of_mem _ (List.mem_of_mem_head? hs')))).1
        rcases add_last t ht with rfl | ⟨h3, h4⟩
        · show zM (yR s.hi u.hi) _ < 0
          rw [← h]
          exact maxC_one ms' u1 s2 hsa
        · exact maxC_up s1 u1 ms' u1 (hout t h3) (by have := xU s1 s2 ms' (uR hs) hsa; omega) (by rw [kY]; decide) (hl t h3 s rfl u rfl))
      refine ⟨ih.1, fun x hx => ?_⟩
      rw [ih.2 x hx, add_den mx mn hx, in_both hs hu hx, dC s, dC u]
      cases hi : kZ s x with
      | false => simp
      | true =>
        have hxs : zM x s.hi < 0 := by unfold kZ at hi; simp at hi; exact hi.2
        rw [dD hb hx (by have := wP hx s2 u2 hxs hle; omega), dD ha hx (by omega)]
        simp
    · rename_i h
      have hgt : ¬ zM s.hi u.hi ≤ 0 := fun h2 => h (min_is.2 h2)
      have hlt : zM u.hi s.hi < 0 := clt_flip hgt
      have hmin : yR s.hi u.hi = u.hi := by unfold yR; rw [if_pos (by omega)]
      have ih := and_go n (gY out (yX s.lo u.lo) (yR s.hi u.hi)) (s :: a) b (by simp at hn ⊢; omega) ho2 ha (kS hb) (fun t ht s' hs' u' hu' => by
        obtain rfl : s = s' := Option.some.inj hs'
        have hub := g6 hb u' (List.mem_of_mem_head? hu')
        have mu' := (y7 (x8 hb u' (List.mem_cons_of_mem _ (List.mem_of_mem_head? hu')))).1
        rcases add_last t ht with rfl | ⟨h3, h4⟩
        · show zM (yR s.hi u.hi) _ < 0
          rw [hmin]
          exact maxC_two s1 mu' u2 hub
        · exact maxC_up s1 u1 s1 mu' (hout t h3) (by rw [kY]; decide) (by have := xU u1 u2 mu' (uR hu) hub; omega) (hl t h3 s rfl u rfl))
      refine ⟨ih.1, fun x hx => ?_⟩
      rw [ih.2 x hx, add_den mx mn hx, in_both hs hu hx, dC s, dC u]
      cases hi : kZ u x with
      | false => simp
      | true =>
        have hxu : zM x u.hi < 0 := by unfold kZ at hi; simp at hi; exact hi.2
        rw [dD ha hx (by have := xU hx u2 s2 hxu hlt; omega), dD hb hx (by omega)]
        cases kZ s x <;> simp
theorem andG_eq {a b : List Sp} (ha : zL a = true) (hb : zL b = true) : andG (a.length + b.length) [] a b = fB a b := by
  have h1 := and_go (a.length + b.length) [] a b (Nat.le_refl _) rfl ha hb (fun t ht => by simp at ht)
  have h2 := and_ok ha hb
  refine mK _ _ h1.1 h2.1 fun c hc he => ?_
  rw [h2.2 c hc he, h1.2 c hc]
  simp [den]
def jC (out : List Sp) (s : Sp) : List Sp :=
  match out.getLast? with
  | none => [s]
  | some t => if zM t.hi s.lo < 0 then out ++ [s] else out.dropLast ++ [⟨t.lo, yX t.hi s.hi⟩]
theorem in_merge {s t : Sp} {x : Cu} (hs : s.may = true) (ht : t.may = true) (hx : x.may = true) (h1 : zM t.lo s.lo ≤ 0) (h2 : zM s.lo t.hi ≤ 0) : kZ ⟨t.lo, yX t.hi s.hi⟩ x = (kZ t x || kZ s x) := by
  obtain ⟨s1, s2⟩ := y7 hs
  obtain ⟨t1, t2⟩ := y7 ht
  unfold kZ
  show (decide (zM t.lo x ≤ 0) && decide (zM x (yX t.hi s.hi) < 0)) = _
  by_cases c1 : zM t.lo x ≤ 0
  · rw [decide_eq_true c1]
    unfold yX
    split
    · rename_i h
      by_cases c2 : zM x s.hi < 0
      · rw [decide_eq_true (show zM x t.hi < 0 from xU hx s2 t2 c2 (by have := xJ (a := t.hi) (b := s.hi); omega))]; simp
      · rw [decide_eq_false c2]; simp
    · rename_i h
      by_cases c2 : zM x t.hi < 0
      · rw [decide_eq_true c2, decide_eq_true (show zM x s.hi < 0 from wP hx t2 s2 c2 (by omega))]; simp
      · rw [decide_eq_false c2, decide_eq_true (show zM s.lo x ≤ 0 from qX s1 t2 hx h2 (jT c2))]; simp
  · rw [decide_eq_false c1, decide_eq_false (show ¬ zM s.lo x ≤ 0 from fun h => c1 (qX t1 s1 hx h1 h))]; simp
theorem mstep_ok {out : List Sp} {s : Sp} (ho : zL out = true) (hs : s.may = true) (hl : ∀ t ∈ out.getLast?, zM t.lo s.lo ≤ 0) :
    zL (jC out s) = true ∧ (∀ t ∈ (jC out s).getLast?, t.lo = s.lo ∨ ∃ t' ∈ out.getLast?, t.lo = t'.lo) ∧ ∀ x : Cu, x.may = true → den (jC out s) x = (den out x || kZ s x) := by
  unfold jC
  cases hg : out.getLast? with
  | none =>
    have : out = [] := by simpa using hg
    subst this
    refine ⟨uG (l := []) rfl hs (fun t ht => by simp at ht), fun t ht => ?_, fun x _ => by simp [den]⟩
    obtain rfl : s = t := by simpa using ht
    exact .inl rfl
  | some t =>
    have hlo := hl t hg
    have hsp := last_split hg
    have htm := x8 ho t (List.mem_of_getLast? hg)
    obtain ⟨s1, s2⟩ := y7 hs
    obtain ⟨t1, t2⟩ := y7 htm
    dsimp only
    split
    · rename_i h
      refine ⟨uG ho hs (fun t' ht' => by rw [hg] at ht'; obtain rfl := Option.some.inj ht'; exact h), fun t' ht' => ?_, fun x _ => by rw [bD]; simp [den]⟩
      rw [List.getLast?_concat] at ht'
      obtain rfl := Option.some.inj ht'
      exact .inl rfl
    · rename_i h
      have hi := row_init (hsp ▸ ho)
      have hmay : (Sp.mk t.lo (yX t.hi s.hi)).may = true := wC (wP t1 t2 (fY t2 s2) (uR htm) (maxC_ge t2 s2).1)
      refine ⟨uG hi.1 hmay (fun x hx => hi.2 x hx), fun t' ht' => ?_, fun x hx => ?_⟩
      · rw [List.getLast?_concat] at ht'
        obtain rfl := Option.some.inj ht'
        exact .inr ⟨t, rfl, rfl⟩
      · rw [bD]
        conv => rhs; rw [hsp, bD]
        have e := in_merge hs htm hx hlo (jT h)
        simp only [den, List.any_cons, List.any_nil, Bool.or_false] at e ⊢
        rw [e, Bool.or_assoc]
def fF : List Sp → Prop
  | [] => True
  | s :: r => (∀ t ∈ r, zM s.lo t.lo ≤ 0) ∧ fF r
theorem merge_go : ∀ (l out : List Sp), (∀ s ∈ l, s.may = true) → fF l → zL out = true → (∀ t ∈ out.getLast?, ∀ s ∈ l, zM t.lo s.lo ≤ 0) →
    zL (l.foldl jC out) = true ∧ ∀ x : Cu, x.may = true → den (l.foldl jC out) x = (den out x || den l x)
  | [], out, _, _, ho, _ => ⟨ho, fun x _ => by simp [den]⟩
  | s :: r, out, hm, hso, ho, hl => by
    have h1 := mstep_ok ho (hm s (List.mem_cons_self ..)) (fun t ht => hl t ht s (List.mem_cons_self ..))
    have ih := merge_go r (jC out s) (fun t ht => hm t (List.mem_cons_of_mem _ ht)) hso.2 h1.1 (fun t ht u hu => by
      rcases h1.2.1 t ht with e | ⟨t', ht', e⟩
      · rw [e]; exact hso.1 u hu
      · rw [e]; exact hl t' ht' u (List.mem_cons_of_mem _ hu))
    refine ⟨ih.1, fun x hx => ?_⟩
    show den (r.foldl jC (jC out s)) x = _
    rw [ih.2 x hx, h1.2.2 x hx, dC, Bool.or_assoc]
theorem merge_eq {l d : List Sp} (hm : ∀ s ∈ l, s.may = true) (hp : d.Perm l) (hs : fF d) : d.foldl jC [] = uJ l := by
  have hmd : ∀ s ∈ d, s.may = true := fun s h => hm s (hp.mem_iff.1 h)
  have h1 := merge_go d [] hmd hs rfl (fun t ht => by simp at ht)
  have h2 := uW hm
  refine mK _ _ h1.1 h2.1 fun c hc he => ?_
  rw [h2.2 c hc he, h1.2 c hc]
  show (false || den d c) = den l c
  rw [Bool.false_or]
  unfold den
  exact hp.any_eq
theorem mstep_len (out : List Sp) (s : Sp) : (jC out s).length ≤ out.length + 1 := by
  unfold jC
  split
  · simp
  · split
    · simp
    · first | (simp; done) | (simp; omega)
end
section
theorem cutAt_len (c : UInt8) : ∀ s : List UInt8, s.length = (yJ c s).1.length + (if (yJ c s).2.2 then 1 + (yJ c s).2.1.length else 0)
  | [] => rfl
  | b :: r => by
    unfold yJ
    have ih := cutAt_len c r
    by_cases h : b = c
    · first | (simp [h]; done) | (subst h; simp; omega) | (simp [h]; omega)
    · first | (simp [h] at ih ⊢; omega) | (simp [h, Ne.symm h] at ih ⊢; omega)
theorem cutGo_short : ∀ (n : Nat) (s : List UInt8), (gM n s).2 = true → s.length ≤ 9 * n
  | 0, s, h => by simp [gM] at h
  | n + 1, s, h => by
    have hl := cutAt_len 46 s
    cases ht : gI (yJ 46 s).1 with
    | false => rw [cutGo_bad n s ht] at h; cases h
    | true =>
      have h8 : (yJ 46 s).1.length ≤ 8 := Nat.le_of_not_lt fun h2 => by rw [nQ h2] at ht; cases ht
      cases hm : (yJ 46 s).2.2 with
      | false => rw [hm] at hl; simp at hl; omega
      | true =>
        rw [cutGo_on n s ht hm] at h
        have ih := cutGo_short n _ h
        rw [hm] at hl; simp at hl; omega
theorem preOk_short {s : List UInt8} (h : qO s = true) : s.length ≤ 36 := by
  rw [preOk_lst, Bool.and_eq_true] at h
  have h1 := h.1
  unfold lst at h1
  split at h1
  · rename_i h0
    have : s = [] := by simpa using h0
    subst this; exact Nat.zero_le _
  · have := cutGo_short _ _ h1; omega
theorem may_short {v : Ver} (h : v.may = true) (hb : v.build = []) : v.short := ⟨by have := preOk_short (dY h); omega, by rw [hb]; exact Nat.zero_le _⟩
theorem cu_short {c : Cu} (h : c.may = true) : c.short := may_short (vS h) (vL h)
theorem sp_short {s : Sp} (h : s.may = true) : s.short := ⟨cu_short (y7 h).1, cu_short (y7 h).2⟩
structure RF (l : List Sp) (n : Nat) : Prop where
  may : zL l = true
  len : l.length ≤ n
theorem RF.short {l : List Sp} {n : Nat} (h : RF l n) : x7 l := fun s hs => sp_short (x8 h.may s hs)
theorem cuts_len {l : List Sp} (hl : ∀ s ∈ l, s.may = true) : (gC l).length ≤ 2 + 2 * l.length := by
  have h := (mW l (fun s hs => sp_short (hl s hs)) l.length (Nat.le_refl _)).1
  rwa [List.take_length] at h
theorem RF.make {l : List Sp} {n : Nat} (hl : ∀ s ∈ l, s.may = true) (hn : l.length ≤ n) : RF (uJ l) (2 + 2 * n) := ⟨(uW hl).1, by
  have h1 := build_len (inL l) (gC l) []
  have h2 := cuts_len hl
  unfold uJ
  rw [List.length_nil] at h1
  omega⟩
theorem RF.or {a b : List Sp} {n m : Nat} (ha : RF a n) (hb : RF b m) : RF (orL a b) (2 + 2 * (n + m)) := RF.make (dH ha.may hb.may) (by rw [List.length_append]; have := ha.len; have := hb.len; omega)
section
variable {a b c : List Sp} (ha : zL a = true) (hb : zL b = true) (hc : zL c = true)
include ha in
theorem not_not4 : qY (qY a) = a := mK _ _ (bG (bG ha).1).1 ha fun x hx he => by
  rw [(bG (bG ha).1).2 x hx he, (bG ha).2 x hx he, Bool.not_not]
include ha hb in
end
theorem jY {v : Ver} (hv : v.may = true) : zM (bF v) (zZ 1) < 0 := by
  have h1 := le_last (qP hv)
  have h2 : zM (bF v) (zZ 1) ≠ 0 := fun e => by
    have := (cut_eq (qP hv) wJ).1 e
    have h3 := congrArg Cu.e this
    simp [bF, zZ] at h3
  omega
theorem has_or4 {a b : List Sp} {v : Ver} (ha : zL a = true) (hb : zL b = true) (hv : v.may = true) : xC (orL a b) v = (xC a v || xC b v) := by
  rw [vW (or_ok ha hb).1 hv, vW ha hv, vW hb hv, (or_ok ha hb).2 _ (qP hv) (jY hv)]
theorem has_and4 {a b : List Sp} {v : Ver} (ha : zL a = true) (hb : zL b = true) (hv : v.may = true) : xC (fB a b) v = (xC a v && xC b v) := by
  rw [vW (and_ok ha hb).1 hv, vW ha hv, vW hb hv, (and_ok ha hb).2 _ (qP hv) (jY hv)]
end
section
section
variable {M : List Nat} {P : Program} {n : Nat} {W : World} {Q : Exit → Act → World → Prop} {L : List Blk} {f : Nat → Value}
theorem qE {fn : Func} {R : Ending → World → Prop} {p q : Tmp} {ty tz : TypeId} (i j : Nat) (x y : Blk) {off oft : Nat} (v v' : Value) (hres : fn.results = #[.cell p ty, .cell q tz]) (hL : L[i]? = some x) (hL' : L[j]? = some y)
    (hp : ev n f (.tmp p) = .pointer (some ⟨x.b, off, none⟩)) (hq : ev n f (.tmp q) = .pointer (some ⟨y.b, oft, none⟩)) (hv : kQ P ty x.cs off = some v) (hv' : kQ P tz y.cs oft = some v') (hR : ∀ w, Own M W w L → R (.returned (.tuple #[v, v'])) w) : Fin M n W (bodyPost P fn R) .ret L f := ⟨fun w hO => by
  refine bodyPost_ret (v := .tuple #[v, v']) ?_ rfl (hR w hO)
  have e : (Fr n f).tmps.getD p undef = .pointer (some ⟨x.b, off, none⟩) := (vM n f p).trans hp
  have e' : (Fr n f).tmps[p]?.getD undef = .pointer (some ⟨x.b, off, none⟩) := by simpa using e
  have e2 : (Fr n f).tmps.getD q undef = .pointer (some ⟨y.b, oft, none⟩) := (vM n f q).trans hq
  have e2' : (Fr n f).tmps[q]?.getD undef = .pointer (some ⟨y.b, oft, none⟩) := by simpa using e2
  have h1 := qI hv (hO.get hL)
  have h2 := qI hv' (hO.get hL')
  simp [results, hres, e', e2', asAddr, h1, h2]⟩
def JoinQ (M : List Nat) (n : Nat) (W : World) (R : List Blk → (Nat → Value) → Prop) : Exit → Act → World → Prop
  | .normal, a, w => ∃ L f, R L f ∧ Own M W w L ∧ a = Fr n f
  | _, _, _ => False
theorem yI {R : List Blk → (Nat → Value) → Prop} : PQ (JoinQ M n W R) := fun c a d v w h => h
theorem jM {c : Code} (R : List Blk → (Nat → Value) → Prop) (h1 : Ok M P n W (JoinQ M n W R) c L f) (h2 : ∀ L f, R L f → Fin M n W Q .normal L f) : Ok M P n W Q c L f := ⟨fun w hO =>
  Code.wp_mono (fun e a w h => by
    cases e with
    | normal =>
      obtain ⟨L', f', hR, hO', rfl⟩ := h
      exact (h2 L' f' hR).go w hO'
    | _ => exact absurd h id) (h1.go w hO)⟩
theorem yL {R : List Blk → (Nat → Value) → Prop} (h : R L f) : Fin M n W (JoinQ M n W R) .normal L f := ⟨fun w hO => ⟨L, f, h, hO, rfl⟩⟩
end
theorem Reads.tail {α : Type} {g : α → List Value} {sz : Nat} (hg : ∀ x, (g x).length = sz) {w : World} {B b off c : Nat} {x : α} {l : List α} (h : Reads g w B (some ⟨b, off, none⟩) (x :: l)) (hc : l.length < c) : Reads g w B (some ⟨b, off + (if c = (1 : Int).toNat then 0 else (1 : Int).toNat * sz), none⟩) l := fun h0 => by
  obtain ⟨b', off', e, hlt, hcell⟩ := h (by simp)
  obtain ⟨rfl, rfl⟩ : b = b' ∧ off = off' := by simp at e; exact e
  refine ⟨b, _, rfl, hlt, fun k u hk => ?_⟩
  rw [if_neg (by show ¬ c = 1; omega)]
  have := hcell (sz + k) u (by rw [List.flatMap_cons, List.getElem?_append_right (by rw [hg]; omega), hg]; rw [show sz + k - sz = k from by omega]; exact hk)
  rw [show off + (1 : Int).toNat * sz + k = off + (sz + k) from by show off + 1 * sz + k = _; omega]
  exact this
end
section
theorem pE {a b : Cu} (ha : a.short) (hb : b.short) : (yR a b).short := by unfold yR; split <;> assumption
theorem dZ {a b : Cu} (ha : a.short) (hb : b.short) : (yX a b).short := by unfold yX; split <;> assumption
theorem qC (a b : Cu) (W : World) (ha : a.short) (hb : b.short) :
    Calls Tryz.prog 130 #[zA a, zA b] W fun e w' => e = .returned (.tuple #[zA (yR a b), zA (yX a b)]) ∧ Below W.heap.size W w' := by
  refine zQ (n := 14) Tryz.func130 rfl (by kernel_rfl) (by kernel_rfl) (ZO (Zb (zA a) (fun b1 => Zb (zA b) (fun b2 => Za (.agg #[.int .i64 0, .int .i64 0, .int .i64 0, .int .i64 0, .string ⟨#[]⟩, .string ⟨#[]⟩, .bool false]) (fun b3 => Za (.agg #[.int .i64 0, .int .i64 0, .int .i64 0, .int .i64 0, .string ⟨#[]⟩, .string ⟨#[]⟩, .bool false]) (fun b4 => ZN (z6 (z6 (z7 ?_)))))))))
  refine Zl 3 ⟨b1, (zA a).cells, 78⟩ (off := 0) (zA a) (Zl 2 ⟨b2, (zA b).cells, 78⟩ (off := 0) (zA b) (Zc (k := 173) (args := #[zA a, zA b]) (.int .i64 (zM a b)) (fun w _ => m9 a b w ha hb) ?_))
  by_cases h1 : (0 : Int) < zM a b
  · refine zW (p := (0 : Int) < zM a b) true (by kernel_rfl) (fun _ => by kernel_rfl) (decide_eq_true (h1)) ?_
    refine ZY (z6 (xW [⟨b2, (zA b).cells, 78⟩, ⟨b1, (zA a).cells, 78⟩] (by kernel_rfl) (fun w hO => Own.sub [⟨b4, #[.int .i64 0, .int .i64 0, .int .i64 0, .int .i64 0, .string ⟨#[]⟩, .string ⟨#[]⟩, .bool false], 78⟩, ⟨b3, #[.int .i64 0, .int .i64 0, .int .i64 0, .int .i64 0, .string ⟨#[]⟩, .string ⟨#[]⟩, .bool false], 78⟩] hO) (ZL 0 [⟨b4, #[.int .i64 0, .int .i64 0, .int .i64 0, .int .i64 0, .string ⟨#[]⟩, .string ⟨#[]⟩, .bool false], 78⟩, ⟨b3, #[.int .i64 0, .int .i64 0, .int .i64 0, .int .i64 0, .string ⟨#[]⟩, .string ⟨#[]⟩, .bool false], 78⟩] _ 0 ⟨b2, (zA b).cells, 78⟩ (off := 0) (zA b) (zG (zG zJ)) rfl rfl (ZL 1 [⟨b4, #[.int .i64 0, .int .i64 0, .int .i64 0, .int .i64 0, .string ⟨#[]⟩, .string ⟨#[]⟩, .bool false], 78⟩, ⟨b3, #[.int .i64 0, .int .i64 0, .int .i64 0, .int .i64 0, .string ⟨#[]⟩, .string ⟨#[]⟩, .bool false], 78⟩] _ 1 ⟨b1, (zA a).cells, 78⟩ (off := 0) (zA a) (zG (zG zJ)) rfl rfl (zY 2 (by kernel_rfl) (ZS [⟨b4, #[.int .i64 0, .int .i64 0, .int .i64 0, .int .i64 0, .string ⟨#[]⟩, .string ⟨#[]⟩, .bool false], 78⟩, ⟨b3, #[.int .i64 0, .int .i64 0, .int .i64 0, .int .i64 0, .string ⟨#[]⟩, .string ⟨#[]⟩, .bool false], 78⟩] _ 1 ⟨b3, #[.int .i64 0, .int .i64 0, .int .i64 0, .int .i64 0, .string ⟨#[]⟩, .string ⟨#[]⟩, .bool false], 78⟩ (off := 0) (zA b) rfl rfl (zY 3 (by kernel_rfl) (ZS [⟨b4, #[.int .i64 0, .int .i64 0, .int .i64 0, .int .i64 0, .string ⟨#[]⟩, .string ⟨#[]⟩, .bool false], 78⟩, ⟨b3, (zA b).cells, 78⟩] _ 0 ⟨b4, #[.int .i64 0, .int .i64 0, .int .i64 0, .int .i64 0, .string ⟨#[]⟩, .string ⟨#[]⟩, .bool false], 78⟩ (off := 0) (zA a) rfl rfl (yO (by kernel_rfl) ?_)))))))))
    exact zB (zC (z8 (qE 1 0 ⟨b3, (zA b).cells, 78⟩ ⟨b4, (zA a).cells, 78⟩ (off := 0) (oft := 0) (zA b) (zA a) Tryz.results130 (by kernel_rfl) (by kernel_rfl) (by kernel_rfl) (by kernel_rfl) (by kernel_rfl) (by kernel_rfl) (fun w hO => ⟨by unfold yR yX; simp only [h1, if_true, if_false], hO.below⟩))))
  refine Zd (p := (0 : Int) < zM a b) false (decide_eq_false (h1)) (ZX (ZB (z6 (xW [⟨b2, (zA b).cells, 78⟩, ⟨b1, (zA a).cells, 78⟩] (by kernel_rfl) (fun w hO => Own.sub [⟨b4, #[.int .i64 0, .int .i64 0, .int .i64 0, .int .i64 0, .string ⟨#[]⟩, .string ⟨#[]⟩, .bool false], 78⟩, ⟨b3, #[.int .i64 0, .int .i64 0, .int .i64 0, .int .i64 0, .string ⟨#[]⟩, .string ⟨#[]⟩, .bool false], 78⟩] hO) (ZL 0 [⟨b4, #[.int .i64 0, .int .i64 0, .int .i64 0, .int .i64 0, .string ⟨#[]⟩, .string ⟨#[]⟩, .bool false], 78⟩, ⟨b3, #[.int .i64 0, .int .i64 0, .int .i64 0, .int .i64 0, .string ⟨#[]⟩, .string ⟨#[]⟩, .bool false], 78⟩] _ 1 ⟨b1, (zA a).cells, 78⟩ (off := 0) (zA a) (zG zJ) rfl rfl (ZL 1 [⟨b4, #[.int .i64 0, .int .i64 0, .int .i64 0, .int .i64 0, .string ⟨#[]⟩, .string ⟨#[]⟩, .bool false], 78⟩, ⟨b3, #[.int .i64 0, .int .i64 0, .int .i64 0, .int .i64 0, .string ⟨#[]⟩, .string ⟨#[]⟩, .bool false], 78⟩] _ 0 ⟨b2, (zA b).cells, 78⟩ (off := 0) (zA b) (zG zJ) rfl rfl (zY 2 (by kernel_rfl) (ZS [⟨b4, #[.int .i64 0, .int .i64 0, .int .i64 0, .int .i64 0, .string ⟨#[]⟩, .string ⟨#[]⟩, .bool false], 78⟩, ⟨b3, #[.int .i64 0, .int .i64 0, .int .i64 0, .int .i64 0, .string ⟨#[]⟩, .string ⟨#[]⟩, .bool false], 78⟩] _ 1 ⟨b3, #[.int .i64 0, .int .i64 0, .int .i64 0, .int .i64 0, .string ⟨#[]⟩, .string ⟨#[]⟩, .bool false], 78⟩ (off := 0) (zA a) rfl rfl ?_))))))))
  exact zY 3 (by kernel_rfl) (ZS [⟨b4, #[.int .i64 0, .int .i64 0, .int .i64 0, .int .i64 0, .string ⟨#[]⟩, .string ⟨#[]⟩, .bool false], 78⟩, ⟨b3, (zA a).cells, 78⟩] _ 0 ⟨b4, #[.int .i64 0, .int .i64 0, .int .i64 0, .int .i64 0, .string ⟨#[]⟩, .string ⟨#[]⟩, .bool false], 78⟩ (off := 0) (zA b) rfl rfl (yO (by kernel_rfl) (zB (zC (qE 1 0 ⟨b3, (zA a).cells, 78⟩ ⟨b4, (zA b).cells, 78⟩ (off := 0) (oft := 0) (zA a) (zA b) Tryz.results130 (by kernel_rfl) (by kernel_rfl) (by kernel_rfl) (by kernel_rfl) (by kernel_rfl) (by kernel_rfl) (fun w hO => ⟨by unfold yR yX; simp only [h1, if_true, if_false], hO.below⟩))))))
def idxP (v : Ver) : List Sp → Int → Int
  | [], _ => -1
  | s :: r, k => if gL s v then k else idxP v r (k + 1)
end
section
theorem may_drop : ∀ (a b : List Sp), zL (a ++ b) = true → zL b = true
  | [], _, h => h
  | _ :: a, b, h => may_drop a b (kS h)
theorem may_take_bad {l : List Sp} {k : Nat} (hk : k < l.length) (h : l[k].may = false) : zL l = false := by
  cases h2 : zL l with
  | false => rfl
  | true => rw [x8 h2 _ (List.getElem_mem hk)] at h; cases h
theorem may_step {l : List Sp} {k : Nat} (hk : k < l.length) (h : zL (l.take k) = true) (hs : l[k].may = true) (hp : 0 < k → zM (l[k - 1]'(by omega)).hi l[k].lo < 0) : zL (l.take (k + 1)) = true := by
  rw [List.take_succ_eq_append_getElem hk]
  refine uG h hs (fun s hs2 => ?_)
  by_cases h0 : k = 0
  · subst h0; simp at hs2
  · have e : s = l[k - 1]'(by omega) := by
      rw [List.getLast?_eq_getElem?, List.length_take, Nat.min_eq_left (by omega), List.getElem?_take, if_pos (by omega), List.getElem?_eq_getElem (by omega)] at hs2
      exact (Option.some.inj hs2).symm
    rw [e]; exact hp (by omega)
theorem may_not {l : List Sp} {k : Nat} (hk : k < l.length) (h0 : 0 < k) (h : ¬ zM (l[k - 1]'(by omega)).hi l[k].lo < 0) : zL l = false := by
  cases h2 : zL l with
  | false => rfl
  | true =>
    refine absurd ?_ h
    have e : l = l.take (k - 1) ++ (l[k - 1]'(by omega)) :: l[k] :: l.drop (k + 1) := by
      have e1 := (List.take_append_drop (k - 1) l).symm
      rw [List.drop_eq_getElem_cons (show k - 1 < l.length by omega)] at e1
      have e2 : l.drop (k - 1 + 1) = l[k] :: l.drop (k + 1) := by
        rw [show k - 1 + 1 = k from by omega, List.drop_eq_getElem_cons hk]
      rw [e2] at e1; exact e1
    have h3 : zL ((l[k - 1]'(by omega)) :: l[k] :: l.drop (k + 1)) = true := may_drop (l.take (k - 1)) _ (e ▸ h2)
    exact g6 h3 _ (List.mem_cons_self ..)
theorem jP (A : Option Addr) (cap : Nat) (l : List Sp) (W : World) (hv : Reads x4 W W.heap.size A l) (hn : l.length ≤ 1000000) (hl : x7 l) :
    Calls Tryz.prog 129 #[.slice A l.length cap] W fun e w' => e = .returned (.bool (zL l)) ∧ Below W.heap.size W w' := by
  refine zQ (n := 30) Tryz.func129 rfl (by kernel_rfl) (by kernel_rfl) (ZO (Zv (.bool false) (ZN (z6 (ZO (Zv (.slice A l.length cap) (Zv (.int .i64 (l.length : Int)) (Zv (.int .i64 0) ?_))))))))
  refine ZN (zK (yP (fun L f m => ∃ (k : Nat) (j : Nat → Value), (k ≤ l.length ∧ zL (l.take k) = true) ∧ L = [] ∧ f = kA j [(0, .slice A l.length cap), (5, .slice A l.length cap), (6, .int .i64 (l.length : Int)), (7, .int .i64 (k : Int))] ∧ m = l.length - k) (l.length - 0) ⟨0, _, ⟨Nat.zero_le _, by rw [List.take_zero]; rfl⟩, rfl, ZU, rfl⟩ ?_))
  rintro L f m ⟨k, j, hrel, rfl, rfl, rfl⟩
  have hkl := hrel.1
  refine z6 (z7 ?_)
  by_cases h1 : (k : Int) < (l.length : Int)
  · have hk : k < l.length := by omega
    obtain ⟨b, off, hA, hlt, hcell⟩ := hv (by omega)
    obtain ⟨s, hs⟩ : ∃ s, l[k] = s := ⟨_, rfl⟩
    have hsk : s.short := hs ▸ hl l[k] (List.getElem_mem hk)
    refine Zd (p := (k : Int) < (l.length : Int)) true (decide_eq_true (h1)) (ZN (z6 (Zt (ZB (z6 (zK (ZO (Zv (.int .i64 (k : Int)) ?_))))))))
    refine zX (.pointer (some ⟨b, off + k * 14, none⟩)) (by kernel_rfl) (ZA (b := b) (off := off) (c := cap) (n := l.length) (k := .i64) (j := (k : Int)) (e := 80) (sz := 14) hA) (Zo (yY s) (a := ⟨b, off + k * 14, none⟩) (fun w hO => yD yB (fun j u h => (hO.below.cell (p := ⟨b, off + j, none⟩) hlt).trans (hcell j u h)) k 0 hk (by omega) _ (by rw [hs]; kernel_rfl)) (Za (.agg #[.int .i64 0, .int .i64 0, .int .i64 0, .int .i64 0, .string ⟨#[]⟩, .string ⟨#[]⟩, .bool false, .int .i64 0, .int .i64 0, .int .i64 0, .int .i64 0, .string ⟨#[]⟩, .string ⟨#[]⟩, .bool false]) (fun b1 => Zv (.int .i64 (k : Int)) (Zs 0 ⟨b1, #[.int .i64 0, .int .i64 0, .int .i64 0, .int .i64 0, .string ⟨#[]⟩, .string ⟨#[]⟩, .bool false, .int .i64 0, .int .i64 0, .int .i64 0, .int .i64 0, .string ⟨#[]⟩, .string ⟨#[]⟩, .bool false], 80⟩ (off := 0) (yY s) (ZN (z6 (ZO (Zl 0 ⟨b1, (yY s).cells, 80⟩ (off := 0) (yY s) (Zc (k := 139) (args := #[yY s]) (.bool s.may) (fun w _ => wW s w hsk) ?_)))))))))
    cases h2 : s.may with
    | true =>
      refine Zv (.bool false) (ZX (ZB (z6 (vK (by kernel_rfl) (by kernel_rfl) (Zw (.int .i64 (k : Int)) ?_)))))
      by_cases h3 : (0 : Int) < (k : Int)
      · have hk1 : k - 1 < l.length := by omega
        obtain ⟨p, hp⟩ : ∃ p, l[k - 1] = p := ⟨_, rfl⟩
        have hpk : p.short := hp ▸ hl l[k - 1] (List.getElem_mem hk1)
        refine Ze (p := (0 : Int) < (k : Int)) true (decide_eq_true (h3)) (Zw (.bool true) (Zw (.slice A l.length cap) (Zw (.int .i64 (k : Int)) (q_sum (k := .i64) (((k : Int) : Int) - 1) (by kernel_rfl) (fun _ => by kernel_rfl) (IntWalk.i64_in _ (by omega)) (gF (.pointer (some ⟨b, off + (k - 1) * 14, none⟩)) (by kernel_rfl) (ZA (b := b) (off := off) (c := cap) (n := l.length) (k := .i64) (j := (k : Int) - 1) (e := 80) (sz := 14) hA) (Zw (.pointer (some ⟨b, off + (k - 1) * 14 + 7, none⟩)) (q_old (zA p.hi) (a := ⟨b, off + (k - 1) * 14 + 7, none⟩) (by kernel_rfl) rfl (by kernel_rfl) (fun w hO => yD yB (fun j u h => (hO.below.cell (p := ⟨b, off + j, none⟩) hlt).trans (hcell j u h)) (k - 1) 7 (by omega) (by omega) _ (by rw [hp]; kernel_rfl)) (Zw (.pointer (some ⟨b1, 0, none⟩)) (Zm 0 ⟨b1, (yY s).cells, 80⟩ (off := 0) (.agg #[.int .i64 s.lo.e, .int .i64 s.lo.v.maj, .int .i64 s.lo.v.min, .int .i64 s.lo.v.pat, .string (mkS s.lo.v.pre), .string (mkS s.lo.v.build), .bool s.lo.aft]) (Zq (k := 173) (args := #[zA p.hi, .agg #[.int .i64 s.lo.e, .int .i64 s.lo.v.maj, .int .i64 s.lo.v.min, .int .i64 s.lo.v.pat, .string (mkS s.lo.v.pre), .string (mkS s.lo.v.build), .bool s.lo.aft]]) (.int .i64 (zM p.hi s.lo)) (fun w _ => m9 p.hi s.lo w hpk.2 hsk.1) ?_))))))))))
        by_cases h4 : (0 : Int) ≤ zM p.hi s.lo
        · refine nI (p := (0 : Int) ≤ zM p.hi s.lo) true (by kernel_rfl) (fun _ => by kernel_rfl) (decide_eq_true (h4)) ?_
          refine Zw (.bool true) (kP (zB (Zt (ZO (Zv (.bool false) (ZN (zC (zF (z8 ?_)))))))))
          exact yC (zF (z8 (ZF (.bool false) Tryz.results129 (fun w hO => ⟨by rw [may_not hk (by omega) (by simp only [hp, hs]; omega)], hO.below⟩))))
        refine Ze (p := (0 : Int) ≤ zM p.hi s.lo) false (decide_eq_false (h4)) (Zw (.bool false) (kP (zB (Zf (yS (zS (zB (z7 (Zu (k := .i64) (((k + 1 : Nat) : Int)) (IntWalk.i64_in _ (by omega)) (Zv (.int .i64 ((k + 1 : Nat) : Int)) (zP ?_)))))))))))
        have hnext : zL (l.take (k + 1)) = true := may_step hk hrel.2 (by rw [hs]; assumption) (fun h0 => by simp only [hp, hs]; omega)
        exact xG (fun w hO => Own.sub [_] hO) (zU (m' := l.length - (k + 1)) (by omega) ⟨k + 1, _, ⟨by omega, hnext⟩, rfl, ZU, rfl⟩)
      refine Ze (p := (0 : Int) < (k : Int)) false (decide_eq_false (h3)) (Zw (.bool false) (Zj (Zj (Zj (Zj (Zj (Zj (Zj (Zj (Zj (Zj ?_)))))))))))
      refine Zw (.bool false) (kP (zB (Zf (yS (zS (zB (z7 (Zu (k := .i64) (((k + 1 : Nat) : Int)) (IntWalk.i64_in _ (by omega)) (Zv (.int .i64 ((k + 1 : Nat) : Int)) (zP ?_))))))))))
      have hnext : zL (l.take (k + 1)) = true := may_step hk hrel.2 (by rw [hs]; assumption) (fun h0 => absurd h0 (by omega))
      exact xG (fun w hO => Own.sub [_] hO) (zU (m' := l.length - (k + 1)) (by omega) ⟨k + 1, _, ⟨by omega, hnext⟩, rfl, ZU, rfl⟩)
    | false =>
      refine Zv (.bool true) (ZY (ZO (Zv (.bool false) (ZN (zC (z8 (zF ?_)))))))
      exact z8 (yC (zF (z8 (ZF (.bool false) Tryz.results129 (fun w hO => ⟨by rw [may_take_bad hk (by rw [hs]; assumption)], hO.below⟩)))))
  refine Zd (p := (k : Int) < (l.length : Int)) false (decide_eq_false (h1)) (ZN (z6 (Zf (y8 (zD (zN (zI (zB (z6 (z7 ?_))))))))))
  exact Zv (.bool true) (ZN (zC (ZF (.bool true) Tryz.results129 (fun w hO => ⟨by have h := hrel.2; rw [List.take_of_length_le (by omega)] at h; rw [h], hO.below⟩))))
end
section
section
variable {M : List Nat} {P : Program} {n0 : Nat} {ops : Array Oper} {W : World} {Q : Exit → Act → World → Prop} {rest : List Oper} {o : Oper} {L : List Blk} {f : Nat → Value}
theorem s_append0 {t tn e : TypeId} {x y : Operand} {i : TypeInfo} {z : Value} {kn : IntKind} {k sz : Nat} (hw : k8 ops n0 f o = true) (ho : o.op = .call { callee := .builtin .append, args := #[x, y], argTypes := #[t, tn] })
    (hx : ev n0 f x = .slice none 0 0) (hy : ev n0 f y = .int .i64 k) (ht : P.underlying t = some (.slice e)) (htn : P.underlying tn = some (.int kn)) (hi : P.info? e = some i) (hz : i.zero = some z) (hsz : i.size = sz) (hzs : z.cells.size = sz) (h0 : 0 < k) (hs : 0 < sz)
    (h63 : k ≤ maxLen) (h48 : k * i.bytes ≤ 140737488355328)
    (h : ∀ b cs cap, cs.size = cap * sz → k ≤ cap → cap ≤ maxLen → Seg M P n0 ops W Q rest (⟨b, cs, e⟩ :: L) (upd f o.dst (.slice (some ⟨b, 0, none⟩) k cap))) : Seg M P n0 ops W Q (o :: rest) L f :=
  vZ hw fun w hO => by
    subst hsz
    have hsmall : k ≤ 9223372036854775807 := by simp only [maxLen] at h63; omega
    have hr := Lib.run_append_grow_zeros (P := P) w t tn o.type e i z .i64 kn ht htn hi hz none 0 0 [] (run_firstCells_none w.drew i.size 0 0 0) k h0 hs (by omega) (by omega) (by omega) (by rw [Nat.zero_add, nextslicecap_zero h0]; omega)
    have hge := grownCap_ge w (0 + k) 0 e
    have hcm := grownCap_le_maxLen w (0 + k) 0 e (by omega)
    obtain ⟨cs, hcs⟩ : ∃ cs : Array Value, cs = #[] ++ Builtin.zeroCells z.cells k ++ Builtin.zeroCells z.cells (grownCap w (0 + k) 0 e - (0 + k)) := ⟨_, rfl⟩
    have hr2 : (Builtin.append_ #[t, tn] o.type #[.slice none 0 0, .int .i64 k]).run P w = .ok (.slice (some ⟨w.heap.size, 0, none⟩) k (grownCap w (0 + k) 0 e)) (w.drew.alloc (.cells cs e)) := by rw [hr, hcs, Nat.zero_add]
    have hcz : cs.size = grownCap w (0 + k) 0 e * i.size := by
      rw [hcs]
      simp only [Array.size_append, size_zeroCells, hzs, List.size_toArray, List.length_nil, Array.size_empty]
      rw [Nat.zero_add, ← Nat.add_mul]
      congr 1
      omega
    refine vO (.slice (some ⟨w.heap.size, 0, none⟩) k (grownCap w (0 + k) 0 e)) (w' := w.drew.alloc (.cells cs e)) ?_ ((h w.heap.size cs (grownCap w (0 + k) 0 e) hcz (by omega) hcm).go _ (Own.alloc (L := L) (tS hO) cs e))
    unfold execOp
    simp only [ho, resolve, invoke, builtin, Sem.run_bind, Sem.run_pure, Result.andThen_ok, List.map_toArray, List.map_cons, List.map_nil, hx, hy, hr2]
end
theorem run_sllA {P : Program} {ρ : Operand → Value} {o : Oper} {t e : TypeId} {x y : Operand} {A : Option Addr} {b off n c sz : Nat} {k : IntKind} {j : Int} (ho : o.op = .slice t x (some y) none none) (hx : ρ x = .slice A n c) (hA : A = some ⟨b, off, none⟩) (hy : ρ y = .int k j)
    (hu : P.underlying t = some (.slice e)) (hs : (P.info? e).map (·.size) = some sz) (h0 : 0 ≤ j) (h1 : j ≤ n) (w : World) : (execOp ρ o).run P w = .ok (.value (.slice (some ⟨b, off + (if c = j.toNat then 0 else j.toNat * sz), none⟩) (n - j.toNat) (c - j.toNat))) w := by
  subst hA
  exact fL ho hx hy hu hs h0 h1 w
theorem Reads.drop1 {α : Type} {g : α → List Value} {sz : Nat} (hg : ∀ x, (g x).length = sz) {w : World} {B b off c : Nat} {A : Option Addr} {l : List α} (h : Reads g w B A l) (hA : A = some ⟨b, off, none⟩) (hc : l.length ≤ c) : Reads g w B (some ⟨b, off + (if c = (1 : Int).toNat then 0 else (1 : Int).toNat * sz), none⟩) (l.drop 1) := by
  subst hA
  cases l with
  | nil => exact fun h0 => by simp at h0
  | cons x r => exact h.tail hg (by rw [List.length_cons] at hc; omega)
end
section
section
variable {M : List Nat} {P : Program} {n : Nat} {ops : Array Oper} {W : World} {Q : Exit → Act → World → Prop} {rest : List Oper} {o : Oper} {L : List Blk} {f : Nat → Value} {Qe : List Blk → (Nat → Value) → Prop}
theorem mJ (x : Blk) {ty : TypeId} {p : Operand} {off : Nat} (v : Value) (hw : k8 ops n f o = true) (ho : o.op = .load ty p) (hL : x ∈ L) (hp : ev n f p = .pointer (some ⟨x.b, off, none⟩)) (hv : kQ P ty x.cs off = some v)
    (h : Seg M P n ops W Q rest L (upd f o.dst v)) : Seg M P n ops W Q (o :: rest) L f :=
  s_read v hw (fun _ hO => qG ho hp (qI hv (hO.held x hL))) h
end
end
section
end
section
theorem Own.sublist {M : List Nat} {W w : World} {L L' : List Blk} (h : Own M W w L) (hs : List.Sublist L' L) : Own M W w L' := h.take (fun x hx => hs.subset hx) (h.apart.sublist (hs.map _))
end
section
def tW (v : Ver) (k : Nat) : Ver := if k = 0 then Ver.rel (v.maj + 1) 0 0 else if k = 1 then Ver.rel v.maj (v.min + 1) 0 else Ver.rel v.maj v.min (v.pat + 1)
def y6 (v : Ver) (part : Int) : Bool := v.may && decide (0 ≤ part ∧ part < 3) && !(xN v.maj v.min v.pat part.toNat == 9999)
def yG (v : Ver) (part : Int) : Ver := if y6 v part then tW v part.toNat else Ver.zero
def BEnd (v : Ver) (part : Int) (w : World) (e : Ending) (w' : World) : Prop := e = .returned (.tuple #[y5 (yG v part), .bool (y6 v part)]) ∧ Below w.heap.size w w'
theorem empty_mk2 (b : List UInt8) : (mkS b).toList.isEmpty = b.isEmpty := by rw [Lib.toList_data, mk_data]
theorem vN {v u : Ver} {part : Int} {b : Bool} {w wr : World} {tmps : Array Value} {old : Array Value} (h2 : tmps.getD 4 undef = .pointer (some ⟨w.heap.size + 1, 0, none⟩)) (h3 : tmps.getD 5 undef = .bool b)
    (hg : wr.heap[w.heap.size + 1]? = some (.cells old 44)) (hbel : Below w.heap.size w wr) (hb : y6 v part = b) (hv : yG v part = u) :
    bodyPost Tryz.prog Tryz.f203 (BEnd v part w) .ret ⟨tmps, []⟩ (wr.setRow (w.heap.size + 1) #[.int .i64 u.maj, .int .i64 u.min, .int .i64 u.pat, .string (mkS u.pre), .string (mkS u.build)]) := by
  have hrow := setRow_heap wr (w.heap.size + 1) _ #[.int .i64 u.maj, .int .i64 u.min, .int .i64 u.pat, .string (mkS u.pre), .string (mkS u.build)] _ _ hg
  have hr := run_loadVar_row (P := Tryz.prog) _ (w.heap.size + 1) 44 44 _ _ _ hrow Tryz.underlying44 rfl (by kernel_rfl)
  have h2' : tmps[4]?.getD undef = .pointer (some ⟨w.heap.size + 1, 0, none⟩) := by simpa using h2
  have h3' : tmps[5]?.getD undef = .bool b := by simpa using h3
  refine bodyPost_ret (v := .tuple #[y5 u, .bool b]) (by simp [results, Tryz.results203, asAddr, h2', h3', hr, y5]) rfl ⟨by rw [hv, hb], gE hbel (by omega) _⟩
theorem zeroInt (w : World) : (zeroValue 3).run Tryz.prog w = .ok (.int .i64 0) w := by kernel_rfl
theorem bS {w : World} {N k : Nat} {a b c : Value} (x : Value) (hg : w.heap[N]? = some (.cells #[a, b, c] 88)) : w.setCell ⟨N, k, none⟩ x = w.setRow N ((#[a, b, c] : Array Value).setIfInBounds k x) := setCell_eq_setRow _ _ _ _ _ _ _ hg
theorem wF (w : World) (g : Nat) (a b : Array Value) : (w.setRow g a).setRow g b = w.setRow g b := setRow_setRow _ _ _ _
theorem clear_two {w : World} {N : Nat} {a b c : Int} {old : Array Value} (hg : w.heap[N]? = some (.cells old 88)) (_ho : old.size = 3) :
    (Builtin.clear_ #[40] 0 #[.slice (some ⟨N, 1, none⟩) 2 2]).run Tryz.prog (w.setRow N #[.int .i64 a, .int .i64 b, .int .i64 c]) = .ok (.tuple #[]) (w.setRow N #[.int .i64 a, .int .i64 0, .int .i64 0]) := by
  have h1 := setRow_heap w N old #[.int .i64 a, .int .i64 b, .int .i64 c] _ _ hg
  obtain ⟨n1, m1⟩ := x9 (j := 1) h1 (by simp)
  obtain ⟨n2, m2⟩ := x9 (j := 2) h1 (by simp)
  have := Lib.run_clear_slice (P := Tryz.prog) (w.setRow N #[.int .i64 a, .int .i64 b, .int .i64 c]) 40 3 0 (.int .i64 0) Tryz.underlying40 zeroInt rfl rfl N 1 2 2 (by omega)
    (fun j hj => by match j, hj with | 0, _ => rw [n1]; rfl | 1, _ => rw [n2]; rfl) (fun j hj => by match j, hj with | 0, _ => exact m1 | 1, _ => exact m2)
  rw [this]
  congr 1
  show ((w.setRow N #[.int .i64 a, .int .i64 b, .int .i64 c]).setCell ⟨N, 1, none⟩ (.int .i64 0)).setCell ⟨N, 2, none⟩ (.int .i64 0) = _
  rw [bS _ h1, wF]
  have h2 := setRow_heap w N old ((#[.int .i64 a, .int .i64 b, .int .i64 c] : Array Value).setIfInBounds 1 (.int .i64 0)) _ _ hg
  rw [bS (a := .int .i64 a) (b := .int .i64 0) (c := .int .i64 c) _ h2, wF]
  rfl
theorem clear_one {w : World} {N : Nat} {a b c : Int} {old : Array Value} (hg : w.heap[N]? = some (.cells old 88)) (_ho : old.size = 3) :
    (Builtin.clear_ #[40] 0 #[.slice (some ⟨N, 2, none⟩) 1 1]).run Tryz.prog (w.setRow N #[.int .i64 a, .int .i64 b, .int .i64 c]) = .ok (.tuple #[]) (w.setRow N #[.int .i64 a, .int .i64 b, .int .i64 0]) := by
  have h1 := setRow_heap w N old #[.int .i64 a, .int .i64 b, .int .i64 c] _ _ hg
  obtain ⟨n2, m2⟩ := x9 (j := 2) h1 (by simp)
  have := Lib.run_clear_slice (P := Tryz.prog) (w.setRow N #[.int .i64 a, .int .i64 b, .int .i64 c]) 40 3 0 (.int .i64 0) Tryz.underlying40 zeroInt rfl rfl N 2 1 1 (by omega)
    (fun j hj => by match j, hj with | 0, _ => rw [n2]; rfl) (fun j hj => by match j, hj with | 0, _ => exact m2)
  rw [this]
  congr 1
  show (w.setRow N #[.int .i64 a, .int .i64 b, .int .i64 c]).setCell ⟨N, 2, none⟩ (.int .i64 0) = _
  rw [bS _ h1, wF]
  rfl
theorem clear_none {w : World} (x : Option Addr) (c : Nat) : (Builtin.clear_ #[40] 0 #[.slice x 0 c]).run Tryz.prog w = .ok (.tuple #[]) w := by
  cases x <;> simp [Builtin.clear_, run_underlying Tryz.underlying40]
theorem bump_go (v : Ver) (part : Int) (w : World) (hp : v.pre.length ≤ 1000000) (hq : v.build.length ≤ 1000000) :
    Calls Tryz.prog 203 #[y5 v, .int .i64 part] w (BEnd v part w) := by
  have cM := fun w' => jN v w' (by omega) (by omega)
  have cN := fun w' => fX v w'
  have hN : v.may = true → (0 ≤ v.maj ∧ v.maj ≤ 9999) ∧ (0 ≤ v.min ∧ v.min ≤ 9999) ∧ (0 ≤ v.pat ∧ v.pat ≤ 9999) := fun h => by
    obtain ⟨h1, h2, h3⟩ := qD h
    unfold yH at h1 h2 h3; simp at h1 h2 h3
    exact ⟨h1, h2, h3⟩
  obtain ⟨u, hu⟩ : ∃ u, u = v := ⟨_, rfl⟩
  have HU := Lib.hid hu
  rw [← hu] at hN
  have hgo : BEnd v part w = BEnd u part w := by rw [hu]
  rw [hgo]
  obtain ⟨m, hm⟩ : ∃ m, u.may = m := ⟨_, rfl⟩
  rw [← hu, hm] at cM
  rw [← hu] at cN ⊢
  clear hgo hu
  obtain ⟨a, b, c, p, q⟩ := u
  unfold y5 at cM cN ⊢
  dsimp only at cM cN hN ⊢
  go_enter Tryz.func203, Tryz.ntmps203
  go_wp2_with fail
  refine (cN _).mono ?_
  rintro e w1 ⟨rfl, hb1⟩
  have hz1 := hb1.size
  simp only [zV] at hz1
  have hgB := Lib.hid ((hb1.block w.heap.size (by simp only [zV]; omega)).trans ((xO _ _ (by simp only [zV]; omega)).trans (kT w _)))
  have hgR := Lib.hid ((hb1.block (w.heap.size + 1) (by simp only [zV]; omega)).trans (uE _ _ _ (by simp only [zV])))
  have hbw : Below w.heap.size w w1 := (((Below.refl _ _).alloc (Nat.le_refl _) _).alloc (by simp only [zV]; omega) _).trans (hb1.mono (by simp only [zV]; omega))
  have hlB : w.heap.size < w1.heap.size := by omega
  go_wp2_with (first | (refine wpList_load_row rfl 44 _ rfl w.heap.size rfl _ _ _ _ ((xO _ _ hlB).trans hgB.out) Tryz.underlying44 rfl (by kernel_rfl) ?_) | fail)
  refine (cM _).mono ?_
  rintro e w2 ⟨rfl, hb2⟩
  have hz2 := hb2.size
  rw [zV] at hz2
  have hgR2 := Lib.hid ((hb2.block (w.heap.size + 1) (by rw [zV]; omega)).trans ((xO _ _ (by omega)).trans hgR.out))
  have hgN := Lib.hid ((hb2.block w1.heap.size (by rw [zV]; omega)).trans (kT w1 _))
  have hbw2 : Below w.heap.size w w2 := (hbw.alloc (by omega) _).trans (hb2.mono (by rw [zV]; omega))
  clear hbw hb1 hb2 hgB hgR cM cN
  cases m with
  | false =>
    have HB : Hid (y6 ⟨a, b, c, p, q⟩ part = false) := by show _ = _; unfold y6; rw [hm]; rfl
    clear hm hN
    go_wp2_with (refine wpList_store_row rfl 44 _ _ rfl (w.heap.size + 1) #[.int .i64 0, .int .i64 0, .int .i64 0, .string ⟨#[]⟩, .string ⟨#[]⟩] rfl rfl _ _ hgR2.out (by kernel_rfl) rfl (kI _ _ _ _ _) ?_)
    exact vN (u := Ver.zero) rfl rfl hgR2.out hbw2 HB.out (by unfold yG; rw [HB.out]; rfl)
  | true =>
    obtain ⟨⟨a0, a9⟩, ⟨b0, b9⟩, ⟨c0, c9⟩⟩ := hN hm
    have HM := Lib.hid hm
    clear hN hm
    by_cases p0 : part < 0
    · have HB : Hid (y6 ⟨a, b, c, p, q⟩ part = false) := by show _ = _; unfold y6; rw [decide_eq_false (by omega)]; simp
      go_wp2_with (refine wpList_store_row rfl 44 _ _ rfl (w.heap.size + 1) #[.int .i64 0, .int .i64 0, .int .i64 0, .string ⟨#[]⟩, .string ⟨#[]⟩] rfl rfl _ _ hgR2.out (by kernel_rfl) rfl (kI _ _ _ _ _) ?_)
      exact vN (u := Ver.zero) rfl rfl hgR2.out hbw2 HB.out (by unfold yG; rw [HB.out]; rfl)
    · by_cases p3 : 3 ≤ part
      · have HB : Hid (y6 ⟨a, b, c, p, q⟩ part = false) := by show _ = _; unfold y6; rw [decide_eq_false (by omega)]; simp
        go_wp2_with (refine wpList_store_row rfl 44 _ _ rfl (w.heap.size + 1) #[.int .i64 0, .int .i64 0, .int .i64 0, .string ⟨#[]⟩, .string ⟨#[]⟩] rfl rfl _ _ hgR2.out (by kernel_rfl) rfl (kI _ _ _ _ _) ?_)
        exact vN (u := Ver.zero) rfl rfl hgR2.out hbw2 HB.out (by unfold yG; rw [HB.out]; rfl)
      · obtain ⟨n0, m0⟩ := x9 (j := 0) hgN.out (by simp)
        obtain ⟨n1, m1⟩ := x9 (j := 1) hgN.out (by simp)
        obtain ⟨n2, m2⟩ := x9 (j := 2) hgN.out (by simp)
        simp only [List.getElem_toArray, List.getElem_cons_succ, List.getElem_cons_zero] at n0 n1 n2
        have hpart : part = 0 ∨ part = 1 ∨ part = 2 := by omega
        clear p0 p3
        rcases hpart with rfl | rfl | rfl
        · by_cases h9 : a = 9999
          · have h9b : (a == 9999) = true := by simpa using h9
            have HB : Hid (y6 ⟨a, b, c, p, q⟩ 0 = false) := by show _ = _; unfold y6; rw [show xN a b c (0 : Int).toNat = a from rfl, h9b]; simp
            clear h9
            go_wp2_with (refine wpList_store_row rfl 44 _ _ rfl (w.heap.size + 1) #[.int .i64 0, .int .i64 0, .int .i64 0, .string ⟨#[]⟩, .string ⟨#[]⟩] rfl rfl _ _ hgR2.out (by kernel_rfl) rfl (kI _ _ _ _ _) ?_)
            exact vN (u := Ver.zero) rfl rfl hgR2.out hbw2 HB.out (by unfold yG; rw [HB.out]; rfl)
          · have h9b : (a == 9999) = false := by simpa using h9
            have HB : Hid (y6 ⟨a, b, c, p, q⟩ 0 = true) := by show _ = _; unfold y6; rw [HM.out, show xN a b c (0 : Int).toNat = a from rfl, h9b]; rfl
            have hW : (w2.setCell ⟨w1.heap.size, 0, none⟩ (.int .i64 (a + 1))) = w2.setRow w1.heap.size #[.int .i64 (a + 1), .int .i64 (b), .int .i64 (c)] := bS _ hgN.out
            have hcl : (Builtin.clear_ #[40] 0 #[.slice (some ⟨w1.heap.size, 1, none⟩) 2 2]).run Tryz.prog (w2.setRow w1.heap.size #[.int .i64 (a + 1), .int .i64 (b), .int .i64 (c)]) = .ok (.tuple #[]) (w2.setRow w1.heap.size #[.int .i64 (a + 1), .int .i64 (0), .int .i64 (0)]) := clear_two hgN.out rfl
            have hN2 := Lib.hid (setRow_heap w2 w1.heap.size _ #[.int .i64 (a + 1), .int .i64 (0), .int .i64 (0)] _ _ hgN.out)
            have hR2 := Lib.hid ((vJ w2 w1.heap.size (w.heap.size + 1) #[.int .i64 (a + 1), .int .i64 (0), .int .i64 (0)] (by omega)).trans hgR2.out)
            have hbR : Below w.heap.size w (w2.setRow w1.heap.size #[.int .i64 (a + 1), .int .i64 (0), .int .i64 (0)]) := gE hbw2 (by omega) _
            have hsR : (w2.setRow w1.heap.size #[.int .i64 (a + 1), .int .i64 (0), .int .i64 (0)]).heap.size = w2.heap.size := by unfold World.setRow; simp
            have HSR := Lib.hid hsR
            clear hsR h9
            go_wp2_with (first
              | (refine wpList_load_row rfl 88 _ rfl w1.heap.size rfl _ _ _ _ hN2.out Tryz.underlying88 rfl (by kernel_rfl) ?_)
              | (go_at_call 206; refine (b8 _ _ _ _).mono ?_; unfold y5 Ver.rel; rintro e w3 ⟨rfl, hb3⟩; have hR3 := Lib.hid ((hb3.block (w.heap.size + 1) (by rw [HSR.out]; omega)).trans hR2.out); have hbw3 := hbR.trans (hb3.mono hbR.size))
              | (refine wpList_store_row rfl 44 _ _ rfl (w.heap.size + 1) #[.int .i64 (a + 1), .int .i64 (0), .int .i64 (0), .string (mkS []), .string (mkS [])] rfl rfl _ _ hR3.out (by kernel_rfl) rfl (kI _ _ _ _ _) ?_))
            exact vN (u := Ver.rel (a + 1) (0) (0)) rfl rfl hR3.out hbw3 HB.out (by unfold yG; rw [HB.out]; rfl)
        · by_cases h9 : b = 9999
          · have h9b : (b == 9999) = true := by simpa using h9
            have HB : Hid (y6 ⟨a, b, c, p, q⟩ 1 = false) := by show _ = _; unfold y6; rw [show xN a b c (1 : Int).toNat = b from rfl, h9b]; simp
            clear h9
            go_wp2_with (refine wpList_store_row rfl 44 _ _ rfl (w.heap.size + 1) #[.int .i64 0, .int .i64 0, .int .i64 0, .string ⟨#[]⟩, .string ⟨#[]⟩] rfl rfl _ _ hgR2.out (by kernel_rfl) rfl (kI _ _ _ _ _) ?_)
            exact vN (u := Ver.zero) rfl rfl hgR2.out hbw2 HB.out (by unfold yG; rw [HB.out]; rfl)
          · have h9b : (b == 9999) = false := by simpa using h9
            have HB : Hid (y6 ⟨a, b, c, p, q⟩ 1 = true) := by show _ = _; unfold y6; rw [HM.out, show xN a b c (1 : Int).toNat = b from rfl, h9b]; rfl
            have hW : (w2.setCell ⟨w1.heap.size, 1, none⟩ (.int .i64 (b + 1))) = w2.setRow w1.heap.size #[.int .i64 (a), .int .i64 (b + 1), .int .i64 (c)] := bS _ hgN.out
            have hcl : (Builtin.clear_ #[40] 0 #[.slice (some ⟨w1.heap.size, 2, none⟩) 1 1]).run Tryz.prog (w2.setRow w1.heap.size #[.int .i64 (a), .int .i64 (b + 1), .int .i64 (c)]) = .ok (.tuple #[]) (w2.setRow w1.heap.size #[.int .i64 (a), .int .i64 (b + 1), .int .i64 (0)]) := clear_one hgN.out rfl
            have hN2 := Lib.hid (setRow_heap w2 w1.heap.size _ #[.int .i64 (a), .int .i64 (b + 1), .int .i64 (0)] _ _ hgN.out)
            have hR2 := Lib.hid ((vJ w2 w1.heap.size (w.heap.size + 1) #[.int .i64 (a), .int .i64 (b + 1), .int .i64 (0)] (by omega)).trans hgR2.out)
            have hbR : Below w.heap.size w (w2.setRow w1.heap.size #[.int .i64 (a), .int .i64 (b + 1), .int .i64 (0)]) := gE hbw2 (by omega) _
            have hsR : (w2.setRow w1.heap.size #[.int .i64 (a), .int .i64 (b + 1), .int .i64 (0)]).heap.size = w2.heap.size := by unfold World.setRow; simp
            have HSR := Lib.hid hsR
            clear hsR h9
            go_wp2_with (first
              | (refine wpList_load_row rfl 88 _ rfl w1.heap.size rfl _ _ _ _ hN2.out Tryz.underlying88 rfl (by kernel_rfl) ?_)
              | (go_at_call 206; refine (b8 _ _ _ _).mono ?_; unfold y5 Ver.rel; rintro e w3 ⟨rfl, hb3⟩; have hR3 := Lib.hid ((hb3.block (w.heap.size + 1) (by rw [HSR.out]; omega)).trans hR2.out); have hbw3 := hbR.trans (hb3.mono hbR.size))
              | (refine wpList_store_row rfl 44 _ _ rfl (w.heap.size + 1) #[.int .i64 (a), .int .i64 (b + 1), .int .i64 (0), .string (mkS []), .string (mkS [])] rfl rfl _ _ hR3.out (by kernel_rfl) rfl (kI _ _ _ _ _) ?_))
            exact vN (u := Ver.rel (a) (b + 1) (0)) rfl rfl hR3.out hbw3 HB.out (by unfold yG; rw [HB.out]; rfl)
        · by_cases h9 : c = 9999
          · have h9b : (c == 9999) = true := by simpa using h9
            have HB : Hid (y6 ⟨a, b, c, p, q⟩ 2 = false) := by show _ = _; unfold y6; rw [show xN a b c (2 : Int).toNat = c from rfl, h9b]; simp
            clear h9
            go_wp2_with (refine wpList_store_row rfl 44 _ _ rfl (w.heap.size + 1) #[.int .i64 0, .int .i64 0, .int .i64 0, .string ⟨#[]⟩, .string ⟨#[]⟩] rfl rfl _ _ hgR2.out (by kernel_rfl) rfl (kI _ _ _ _ _) ?_)
            exact vN (u := Ver.zero) rfl rfl hgR2.out hbw2 HB.out (by unfold yG; rw [HB.out]; rfl)
          · have h9b : (c == 9999) = false := by simpa using h9
            have HB : Hid (y6 ⟨a, b, c, p, q⟩ 2 = true) := by show _ = _; unfold y6; rw [HM.out, show xN a b c (2 : Int).toNat = c from rfl, h9b]; rfl
            have hW : (w2.setCell ⟨w1.heap.size, 2, none⟩ (.int .i64 (c + 1))) = w2.setRow w1.heap.size #[.int .i64 (a), .int .i64 (b), .int .i64 (c + 1)] := bS _ hgN.out
            have hcl : (Builtin.clear_ #[40] 0 #[.slice (some ⟨w1.heap.size, 0, none⟩) 0 0]).run Tryz.prog (w2.setRow w1.heap.size #[.int .i64 (a), .int .i64 (b), .int .i64 (c + 1)]) = .ok (.tuple #[]) (w2.setRow w1.heap.size #[.int .i64 (a), .int .i64 (b), .int .i64 (c + 1)]) := clear_none _ _
            have hN2 := Lib.hid (setRow_heap w2 w1.heap.size _ #[.int .i64 (a), .int .i64 (b), .int .i64 (c + 1)] _ _ hgN.out)
            have hR2 := Lib.hid ((vJ w2 w1.heap.size (w.heap.size + 1) #[.int .i64 (a), .int .i64 (b), .int .i64 (c + 1)] (by omega)).trans hgR2.out)
            have hbR : Below w.heap.size w (w2.setRow w1.heap.size #[.int .i64 (a), .int .i64 (b), .int .i64 (c + 1)]) := gE hbw2 (by omega) _
            have hsR : (w2.setRow w1.heap.size #[.int .i64 (a), .int .i64 (b), .int .i64 (c + 1)]).heap.size = w2.heap.size := by unfold World.setRow; simp
            have HSR := Lib.hid hsR
            clear hsR h9
            go_wp2_with (first
              | (refine wpList_load_row rfl 88 _ rfl w1.heap.size rfl _ _ _ _ hN2.out Tryz.underlying88 rfl (by kernel_rfl) ?_)
              | (go_at_call 206; refine (b8 _ _ _ _).mono ?_; unfold y5 Ver.rel; rintro e w3 ⟨rfl, hb3⟩; have hR3 := Lib.hid ((hb3.block (w.heap.size + 1) (by rw [HSR.out]; omega)).trans hR2.out); have hbw3 := hbR.trans (hb3.mono hbR.size))
              | (refine wpList_store_row rfl 44 _ _ rfl (w.heap.size + 1) #[.int .i64 (a), .int .i64 (b), .int .i64 (c + 1), .string (mkS []), .string (mkS [])] rfl rfl _ _ hR3.out (by kernel_rfl) rfl (kI _ _ _ _ _) ?_))
            exact vN (u := Ver.rel (a) (b) (c + 1)) rfl rfl hR3.out hbw3 HB.out (by unfold yG; rw [HB.out]; rfl)
theorem bump_any (v : Ver) (part : Int) (w : World) (hp : v.pre.length ≤ 1000000) (hq : v.build.length ≤ 1000000) :
    Calls Tryz.prog 203 #[y5 v, .int .i64 part] w fun e w' => e = .returned (.tuple #[y5 (yG v part), .bool (y6 v part)]) ∧ Below w.heap.size w w' := bump_go v part w hp hq
def gD (v : Ver) : Bool := v.may && (!v.pre.isEmpty || y6 v 2 || y6 v 1 || y6 v 0)
def x1 (v : Ver) : Ver :=
  if v.may then (if v.pre.isEmpty then (if y6 v 2 then yG v 2 else if y6 v 1 then yG v 1 else if y6 v 0 then yG v 0 else Ver.zero) else Ver.rel v.maj v.min v.pat) else Ver.zero
def NEnd (v : Ver) (w : World) (e : Ending) (w' : World) : Prop := e = .returned (.tuple #[y5 (x1 v), .bool (gD v)]) ∧ Below w.heap.size w w'
theorem d5 {v u : Ver} {b : Bool} {w wr : World} {tmps : Array Value} {old : Array Value} (h2 : tmps.getD 2 undef = .pointer (some ⟨w.heap.size + 1, 0, none⟩)) (h3 : tmps.getD 3 undef = .bool b)
    (hg : wr.heap[w.heap.size + 1]? = some (.cells old 44)) (hbel : Below w.heap.size w wr) (hb : gD v = b) (hv : x1 v = u) :
    bodyPost Tryz.prog Tryz.f181 (NEnd v w) .ret ⟨tmps, []⟩ (wr.setRow (w.heap.size + 1) #[.int .i64 u.maj, .int .i64 u.min, .int .i64 u.pat, .string (mkS u.pre), .string (mkS u.build)]) := by
  have hrow := setRow_heap wr (w.heap.size + 1) _ #[.int .i64 u.maj, .int .i64 u.min, .int .i64 u.pat, .string (mkS u.pre), .string (mkS u.build)] _ _ hg
  have hr := run_loadVar_row (P := Tryz.prog) _ (w.heap.size + 1) 44 44 _ _ _ hrow Tryz.underlying44 rfl (by kernel_rfl)
  have h2' : tmps[2]?.getD undef = .pointer (some ⟨w.heap.size + 1, 0, none⟩) := by simpa using h2
  have h3' : tmps[3]?.getD undef = .bool b := by simpa using h3
  refine bodyPost_ret (v := .tuple #[y5 u, .bool b]) (by simp [results, Tryz.results181, asAddr, h2', h3', hr, y5]) rfl ⟨by rw [hv, hb], gE hbel (by omega) _⟩
def jR (v : Ver) : Nat → Ver × Bool
  | 0 => (Ver.zero, false)
  | k + 1 => if y6 v k then (yG v k, true) else jR v k
theorem mU (v : Ver) (h : (!v.pre.isEmpty && v.may) = false) : x1 v = (jR v 3).1 ∧ gD v = (jR v 3).2 := by
  unfold x1 gD
  show _ = (if y6 v 2 then (yG v 2, true) else if y6 v 1 then (yG v 1, true) else if y6 v 0 then (yG v 0, true) else (Ver.zero, false)).1 ∧ _ = (if y6 v 2 then (yG v 2, true) else if y6 v 1 then (yG v 1, true) else if y6 v 0 then (yG v 0, true) else (Ver.zero, false)).2
  cases hm : v.may with
  | true =>
    rw [hm, Bool.and_true] at h
    rw [h]
    have hp : v.pre.isEmpty = true := by simpa using h
    rw [hp]
    cases y6 v 2 <;> cases y6 v 1 <;> cases y6 v 0 <;> simp
  | false =>
    have hk : ∀ k, y6 v k = false := fun k => by unfold y6; rw [hm]; rfl
    rw [hk, hk, hk]; simp
theorem next_go (v : Ver) (w : World) (hp : v.pre.length ≤ 1000000) (hq : v.build.length ≤ 1000000) :
    Calls Tryz.prog 181 #[y5 v] w (NEnd v w) := by
  have cM := fun w' => jN v w' (by omega) (by omega)
  have cN := fun w' => fX v w'
  have ep := empty_mk2 v.pre
  obtain ⟨a, b, c, p, q⟩ := v
  unfold y5 at cM cN ⊢
  dsimp only at cM cN ep hp hq ⊢
  cases he : p.isEmpty with
  | true =>
    have HG : Hid ((!p.isEmpty && (Ver.mk a b c p q).may) = false) := by show _ = _; rw [he]; rfl
    rw [he] at ep
    clear he cM cN
    go_enter Tryz.func181, Tryz.ntmps181
    go_wp2
    go_loopw [4] (fun x wr => ∃ k : Nat, k ≤ 3 ∧ x = .int .i64 ((k : Int) - 1) ∧ wr.heap[w.heap.size]? = some (.cells #[.int .i64 a, .int .i64 b, .int .i64 c, .string (mkS p), .string (mkS q)] 44) ∧ wr.heap[w.heap.size + 1]? = some (.cells #[.int .i64 0, .int .i64 0, .int .i64 0, .string ⟨#[]⟩, .string ⟨#[]⟩] 44) ∧ Below w.heap.size w wr ∧ Hid (jR ⟨a, b, c, p, q⟩ k = jR ⟨a, b, c, p, q⟩ 3)) (fun x _ => ((intOf x) + 1).toNat)
    case atStart => exact ⟨3, by omega, rfl, (xO _ _ (by rw [zV]; omega)).trans (kT w _), uE _ _ _ (by rw [zV]), ((Below.refl _ _).alloc (Nat.le_refl _) _).alloc (by rw [zV]; omega) _, rfl⟩
    case round =>
      obtain ⟨k, hk, rfl, hB, hR, hbel, HR⟩ := hrel
      have hlR := (Array.getElem?_eq_some_iff.1 hR).1
      have HB := Lib.hid hB
      have HR0 := Lib.hid hR
      clear hB hR
      cases k with
      | zero =>
        have HF : Hid (jR ⟨a, b, c, p, q⟩ 3 = (Ver.zero, false)) := HR.out.symm
        go_wp2_with (refine wpList_store_row rfl 44 _ _ rfl (w.heap.size + 1) #[.int .i64 0, .int .i64 0, .int .i64 0, .string ⟨#[]⟩, .string ⟨#[]⟩] rfl rfl _ _ HR0.out (by kernel_rfl) rfl (kI _ _ _ _ _) ?_)
        have hf := mU ⟨a, b, c, p, q⟩ HG.out
        rw [HF.out] at hf
        exact d5 (u := Ver.zero) rfl rfl HR0.out hbel hf.2 hf.1
      | succ k =>
        have hk0 : (0 : Int) ≤ k := by omega
        have hke : (((k + 1 : Nat) : Int) - 1) = (k : Int) := by omega
        rw [hke]
        have cB := fun w' => bump_any ⟨a, b, c, p, q⟩ (k : Int) w' hp hq
        unfold y5 at cB
        dsimp only at cB
        cases hb : y6 ⟨a, b, c, p, q⟩ (k : Int) with
        | true =>
          rw [hb] at cB
          obtain ⟨u, hu⟩ : ∃ u, yG ⟨a, b, c, p, q⟩ (k : Int) = u := ⟨_, rfl⟩
          rw [hu] at cB
          have hfq : jR ⟨a, b, c, p, q⟩ 3 = (u, true) := by rw [← HR.out, jR, hb, hu]; rfl
          have HF := Lib.hid hfq
          clear hfq hb hu hke
          go_wp2_with (first
            | (refine wpList_load_row rfl 44 _ rfl w.heap.size rfl _ _ _ _ HB.out Tryz.underlying44 rfl (by kernel_rfl) ?_)
            | (go_at_call 203; refine (cB _).mono ?_; rintro e w3 ⟨rfl, hb3⟩; have hR3 := Lib.hid ((hb3.block (w.heap.size + 1) hlR).trans HR0.out); have hbw3 := hbel.trans (hb3.mono hbel.size); have hl3 := Nat.lt_of_lt_of_le hlR hb3.size)
            | (refine wpList_store_row rfl 44 _ _ rfl (w.heap.size + 1) #[.int .i64 u.maj, .int .i64 u.min, .int .i64 u.pat, .string (mkS u.pre), .string (mkS u.build)] rfl rfl _ _ ((xO _ _ hl3).trans hR3.out) (by kernel_rfl) rfl (kI _ _ _ _ _) ?_))
          have hf := mU ⟨a, b, c, p, q⟩ HG.out
          rw [HF.out] at hf
          exact d5 (u := u) rfl rfl ((xO _ _ hl3).trans hR3.out) (hbw3.alloc (by omega) _) hf.2 hf.1
        | false =>
          rw [hb] at cB
          obtain ⟨u, hu⟩ : ∃ u, yG ⟨a, b, c, p, q⟩ (k : Int) = u := ⟨_, rfl⟩
          rw [hu] at cB
          have hfq : jR ⟨a, b, c, p, q⟩ k = jR ⟨a, b, c, p, q⟩ 3 := by rw [← HR.out, jR, hb]; rfl
          have HF := Lib.hid hfq
          clear hfq hb hu hke
          go_wp2_with (first
            | (refine wpList_load_row rfl 44 _ rfl w.heap.size rfl _ _ _ _ HB.out Tryz.underlying44 rfl (by kernel_rfl) ?_)
            | (go_at_call 203; refine (cB _).mono ?_; rintro e w3 ⟨rfl, hb3⟩; have hl3 := Nat.lt_of_lt_of_le hlR hb3.size))
          have hR3 := (hb3.block (w.heap.size + 1) hlR).trans HR0.out
          have hB3 := (hb3.block w.heap.size (by omega)).trans HB.out
          have hbw3 := hbel.trans (hb3.mono hbel.size)
          go_roundw
          case rel => exact ⟨k, by omega, rfl, (xO _ _ (by omega)).trans hB3, (xO _ _ hl3).trans hR3, hbw3.alloc (by omega) _, HF.out⟩
          case measure => simp [intOf]; try omega
  | false =>
    rw [he] at ep
    obtain ⟨m, hm⟩ : ∃ m, (Ver.mk a b c p q).may = m := ⟨_, rfl⟩
    rw [hm] at cM
    cases m with
    | false =>
      have HG : Hid ((!p.isEmpty && (Ver.mk a b c p q).may) = false) := by show _ = _; rw [hm, Bool.and_false]
      clear he hm cN
      go_enter Tryz.func181, Tryz.ntmps181
      go_wp2_with fail
      refine (cM _).mono ?_
      rintro e w1 ⟨rfl, hb1⟩
      have hgB := (hb1.block w.heap.size (by simp only [zV]; omega)).trans ((xO _ _ (by simp only [zV]; omega)).trans (kT w _))
      have hgR := (hb1.block (w.heap.size + 1) (by simp only [zV]; omega)).trans (uE _ _ _ (by simp only [zV]))
      have hbw : Below w.heap.size w w1 := (((Below.refl _ _).alloc (Nat.le_refl _) _).alloc (by simp only [zV]; omega) _).trans (hb1.mono (by simp only [zV]; omega))
      have HGB := Lib.hid hgB
      have HGR := Lib.hid hgR
      clear hgB hgR
      go_wp2
      go_loopw [4] (fun x wr => ∃ k : Nat, k ≤ 3 ∧ x = .int .i64 ((k : Int) - 1) ∧ wr.heap[w.heap.size]? = some (.cells #[.int .i64 a, .int .i64 b, .int .i64 c, .string (mkS p), .string (mkS q)] 44) ∧ wr.heap[w.heap.size + 1]? = some (.cells #[.int .i64 0, .int .i64 0, .int .i64 0, .string ⟨#[]⟩, .string ⟨#[]⟩] 44) ∧ Below w.heap.size w wr ∧ Hid (jR ⟨a, b, c, p, q⟩ k = jR ⟨a, b, c, p, q⟩ 3)) (fun x _ => ((intOf x) + 1).toNat)
      case atStart => exact ⟨3, by omega, rfl, HGB.out, HGR.out, hbw, rfl⟩
      case round =>
        obtain ⟨k, hk, rfl, hB, hR, hbel, HR⟩ := hrel
        have hlR := (Array.getElem?_eq_some_iff.1 hR).1
        have HB := Lib.hid hB
        have HR0 := Lib.hid hR
        clear hB hR
        cases k with
        | zero =>
          have HF : Hid (jR ⟨a, b, c, p, q⟩ 3 = (Ver.zero, false)) := HR.out.symm
          go_wp2_with (refine wpList_store_row rfl 44 _ _ rfl (w.heap.size + 1) #[.int .i64 0, .int .i64 0, .int .i64 0, .string ⟨#[]⟩, .string ⟨#[]⟩] rfl rfl _ _ HR0.out (by kernel_rfl) rfl (kI _ _ _ _ _) ?_)
          have hf := mU ⟨a, b, c, p, q⟩ HG.out
          rw [HF.out] at hf
          exact d5 (u := Ver.zero) rfl rfl HR0.out hbel hf.2 hf.1
        | succ k =>
          have hk0 : (0 : Int) ≤ k := by omega
          have hke : (((k + 1 : Nat) : Int) - 1) = (k : Int) := by omega
          rw [hke]
          have cB := fun w' => bump_any ⟨a, b, c, p, q⟩ (k : Int) w' hp hq
          unfold y5 at cB
          dsimp only at cB
          cases hb : y6 ⟨a, b, c, p, q⟩ (k : Int) with
          | true =>
            rw [hb] at cB
            obtain ⟨u, hu⟩ : ∃ u, yG ⟨a, b, c, p, q⟩ (k : Int) = u := ⟨_, rfl⟩
            rw [hu] at cB
            have hfq : jR ⟨a, b, c, p, q⟩ 3 = (u, true) := by rw [← HR.out, jR, hb, hu]; rfl
            have HF := Lib.hid hfq
            clear hfq hb hu hke
            go_wp2_with (first
              | (refine wpList_load_row rfl 44 _ rfl w.heap.size rfl _ _ _ _ HB.out Tryz.underlying44 rfl (by kernel_rfl) ?_)
              | (go_at_call 203; refine (cB _).mono ?_; rintro e w3 ⟨rfl, hb3⟩; have hR3 := Lib.hid ((hb3.block (w.heap.size + 1) hlR).trans HR0.out); have hbw3 := hbel.trans (hb3.mono hbel.size); have hl3 := Nat.lt_of_lt_of_le hlR hb3.size)
              | (refine wpList_store_row rfl 44 _ _ rfl (w.heap.size + 1) #[.int .i64 u.maj, .int .i64 u.min, .int .i64 u.pat, .string (mkS u.pre), .string (mkS u.build)] rfl rfl _ _ ((xO _ _ hl3).trans hR3.out) (by kernel_rfl) rfl (kI _ _ _ _ _) ?_))
            have hf := mU ⟨a, b, c, p, q⟩ HG.out
            rw [HF.out] at hf
            exact d5 (u := u) rfl rfl ((xO _ _ hl3).trans hR3.out) (hbw3.alloc (by omega) _) hf.2 hf.1
          | false =>
            rw [hb] at cB
            obtain ⟨u, hu⟩ : ∃ u, yG ⟨a, b, c, p, q⟩ (k : Int) = u := ⟨_, rfl⟩
            rw [hu] at cB
            have hfq : jR ⟨a, b, c, p, q⟩ k = jR ⟨a, b, c, p, q⟩ 3 := by rw [← HR.out, jR, hb]; rfl
            have HF := Lib.hid hfq
            clear hfq hb hu hke
            go_wp2_with (first
              | (refine wpList_load_row rfl 44 _ rfl w.heap.size rfl _ _ _ _ HB.out Tryz.underlying44 rfl (by kernel_rfl) ?_)
              | (go_at_call 203; refine (cB _).mono ?_; rintro e w3 ⟨rfl, hb3⟩; have hl3 := Nat.lt_of_lt_of_le hlR hb3.size))
            have hR3 := (hb3.block (w.heap.size + 1) hlR).trans HR0.out
            have hB3 := (hb3.block w.heap.size (by omega)).trans HB.out
            have hbw3 := hbel.trans (hb3.mono hbel.size)
            go_roundw
            case rel => exact ⟨k, by omega, rfl, (xO _ _ (by omega)).trans hB3, (xO _ _ hl3).trans hR3, hbw3.alloc (by omega) _, HF.out⟩
            case measure => simp [intOf]; try omega
    | true =>
      have HV : Hid (x1 ⟨a, b, c, p, q⟩ = Ver.rel a b c) := by show _ = _; unfold x1; rw [if_pos hm, if_neg (by simp [he])]
      have HO : Hid (gD ⟨a, b, c, p, q⟩ = true) := by show _ = _; unfold gD; rw [hm]; simp [he]
      clear he hm
      go_enter Tryz.func181, Tryz.ntmps181
      go_wp2_with fail
      refine (cM _).mono ?_
      rintro e w1 ⟨rfl, hb1⟩
      have hz1 := hb1.size
      simp only [zV] at hz1
      have hgB := (hb1.block w.heap.size (by simp only [zV]; omega)).trans ((xO _ _ (by simp only [zV]; omega)).trans (kT w _))
      have hgR := (hb1.block (w.heap.size + 1) (by simp only [zV]; omega)).trans (uE _ _ _ (by simp only [zV]))
      have hbw : Below w.heap.size w w1 := (((Below.refl _ _).alloc (Nat.le_refl _) _).alloc (by simp only [zV]; omega) _).trans (hb1.mono (by simp only [zV]; omega))
      have HGB := Lib.hid hgB
      have HGR := Lib.hid hgR
      clear hgB hgR hb1 cM
      go_wp2_with (first
        | (refine wpList_load_row rfl 44 _ rfl w.heap.size rfl _ _ _ _ HGB.out Tryz.underlying44 rfl (by kernel_rfl) ?_)
        | (go_at_call 165; refine (cN _).mono ?_; rintro e w2 ⟨rfl, hb2⟩; have hR2 := Lib.hid ((hb2.block (w.heap.size + 1) (by omega)).trans HGR.out); have hbw2 := hbw.trans (hb2.mono hbw.size); have hl2 := hb2.size)
        | (go_at_call 206; refine (b8 _ _ _ _).mono ?_; unfold y5 Ver.rel; rintro e w3 ⟨rfl, hb3⟩; have hR3 := Lib.hid ((hb3.block (w.heap.size + 1) (by omega)).trans hR2.out); have hbw3 := hbw2.trans (hb3.mono hbw2.size))
        | (refine wpList_store_row rfl 44 _ _ rfl (w.heap.size + 1) #[.int .i64 a, .int .i64 b, .int .i64 c, .string (mkS []), .string (mkS [])] rfl rfl _ _ hR3.out (by kernel_rfl) rfl (kI _ _ _ _ _) ?_))
      exact d5 (u := Ver.rel a b c) rfl rfl hR3.out hbw3 HO.out HV.out
theorem vnext_any (v : Ver) (w : World) (hp : v.pre.length ≤ 1000000) (hq : v.build.length ≤ 1000000) :
    Calls Tryz.prog 181 #[y5 v] w fun e w' => e = .returned (.tuple #[y5 (x1 v), .bool (gD v)]) ∧ Below w.heap.size w w' := next_go v w hp hq
end
section
theorem bump2 {v : Ver} (h : v.may = true) : y6 v 2 = true ↔ v.pat ≠ 9999 := by
  unfold y6; rw [h, show xN v.maj v.min v.pat (2 : Int).toNat = v.pat from rfl]; simp
theorem bump1 {v : Ver} (h : v.may = true) : y6 v 1 = true ↔ v.min ≠ 9999 := by
  unfold y6; rw [h, show xN v.maj v.min v.pat (1 : Int).toNat = v.min from rfl]; simp
theorem bump0 {v : Ver} (h : v.may = true) : y6 v 0 = true ↔ v.maj ≠ 9999 := by
  unfold y6; rw [h, show xN v.maj v.min v.pat (0 : Int).toNat = v.maj from rfl]; simp
theorem rel_in {a b c : Int} (ha : 0 ≤ a ∧ a ≤ 9999) (hb : 0 ≤ b ∧ b ≤ 9999) (hc : 0 ≤ c ∧ c ≤ 9999) : (Ver.rel a b c).may = true := by
  rw [rel_may4, num_in ha, num_in hb, num_in hc]; rfl
theorem next_is {v : Ver} (h : v.may = true) : (gD v = false ∧ v.pre = [] ∧ v.code = 999999999999) ∨
    (gD v = true ∧ ∃ a b c, x1 v = Ver.rel a b c ∧ (Ver.rel a b c).may = true ∧ ((v.pre = [] ∧ (Ver.rel a b c).code = v.code + 1) ∨ (v.pre ≠ [] ∧ (Ver.rel a b c).code = v.code))) := by
  obtain ⟨h1, h2, h3⟩ := vV h
  unfold gD x1
  rw [h]
  by_cases hp : v.pre = []
  · have e : v.pre.isEmpty = true := by rw [hp]; rfl
    rw [e]
    by_cases k2 : v.pat = 9999
    · have b2 : y6 v 2 = false := Bool.eq_false_iff.2 (fun e => (bump2 h).1 e k2)
      rw [b2]
      by_cases k1 : v.min = 9999
      · have b1 : y6 v 1 = false := Bool.eq_false_iff.2 (fun e => (bump1 h).1 e k1)
        rw [b1]
        by_cases k0 : v.maj = 9999
        · have b0 : y6 v 0 = false := Bool.eq_false_iff.2 (fun e => (bump0 h).1 e k0)
          rw [b0]
          exact .inl ⟨rfl, hp, by unfold Ver.code; omega⟩
        · have b0 := (bump0 h).2 k0
          have bv : yG v 0 = Ver.rel (v.maj + 1) 0 0 := by unfold yG; rw [b0]; rfl
          rw [b0, bv]
          exact .inr ⟨rfl, v.maj + 1, 0, 0, rfl, rel_in (by omega) (by omega) (by omega), .inl ⟨hp, by unfold Ver.code Ver.rel; dsimp only; omega⟩⟩
      · have b1 := (bump1 h).2 k1
        have bv : yG v 1 = Ver.rel v.maj (v.min + 1) 0 := by unfold yG; rw [b1]; rfl
        rw [b1, bv]
        exact .inr ⟨rfl, v.maj, v.min + 1, 0, rfl, rel_in (by omega) (by omega) (by omega), .inl ⟨hp, by unfold Ver.code Ver.rel; dsimp only; omega⟩⟩
    · have b2 := (bump2 h).2 k2
      have bv : yG v 2 = Ver.rel v.maj v.min (v.pat + 1) := by unfold yG; rw [b2]; rfl
      rw [b2, bv]
      exact .inr ⟨rfl, v.maj, v.min, v.pat + 1, rfl, rel_in (by omega) (by omega) (by omega), .inl ⟨hp, by unfold Ver.code Ver.rel; dsimp only; omega⟩⟩
  · have e : v.pre.isEmpty = false := List.isEmpty_eq_false_iff.2 hp
    rw [e]
    exact .inr ⟨rfl, v.maj, v.min, v.pat, rfl, rel_in h1 h2 h3, .inr ⟨hp, rfl⟩⟩
theorem m7 {v : Ver} (h : v.may = true) : 0 ≤ v.code ∧ v.code ≤ 999999999999 := by
  obtain ⟨h1, h2, h3⟩ := vV h
  unfold Ver.code; omega
end
section
def qZ (v : Ver) : Bool := decide (v.maj = 0) && decide (v.min = 0) && decide (v.pat = 0)
theorem pI {v : Ver} (h : v.may = true) : qZ v = decide (v.code = 0) := by
  obtain ⟨h1, h2, h3⟩ := vV h
  unfold qZ Ver.code
  rw [← Bool.decide_and, ← Bool.decide_and]
  exact decide_eq_decide.2 ⟨fun ⟨⟨a, b⟩, c⟩ => by omega, fun e => ⟨⟨by omega, by omega⟩, by omega⟩⟩
def x6 (c : Cu) : Bool := decide (¬ c.e = 0) || (!c.aft && decide (c.v.pre = []) && !qZ c.v)
def AllRight (l : List Sp) : Prop := ∀ s ∈ l, x6 s.lo = true ∧ x6 s.hi = true
def valC (c : Cu) : Int := if c.e = -1 then 0 else if c.e = 1 then 1000000000000 else c.v.code
def muI (v : Ver) : Int := if v.pre = [] then v.code else v.code - 1
def mu (x : Cu) : Int := if x.e = 0 then (if muI x.v < 0 then 0 else muI x.v) else 0
theorem mu_range {x : Cu} (hx : x.may = true) : 0 ≤ mu x ∧ mu x ≤ 999999999999 := by
  have h := m7 (vS hx)
  unfold mu muI
  split
  · split
    · omega
    · split at * <;> omega
  · omega
theorem ci_le {a b : Int} : Lib.compareInt a b ≤ 0 ↔ a ≤ b := by
  unfold Lib.compareInt
  split
  · omega
  · split <;> omega
theorem right_le {c x : Cu} (hc : c.may = true) (hr : x6 c = true) (hx : x.may = true) (he : zM x (zZ 1) < 0) : zM c x ≤ 0 ↔ valC c ≤ mu x := by
  have hmx := mu_range hx
  have hxe : x.e = 0 ∨ x.e = -1 := by
    rcases tL hx with ⟨h, _⟩ | ⟨h, h2, h3⟩
    · exact .inl h
    · rcases h with h | h
      · exact .inr h
      · exfalso
        have : x = zZ 1 := by
          obtain ⟨e, v, a⟩ := x
          simp only at h h2 h3
          subst h h2 h3; rfl
        rw [this, kY] at he; omega
  rw [qW hc hx]
  rcases tL hc with ⟨h0, hb⟩ | ⟨h1, hv, ha⟩
  · have hr2 := hr
    unfold x6 at hr2
    rw [decide_eq_false (by simpa using h0), Bool.false_or] at hr2
    simp only [Bool.and_eq_true, Bool.not_eq_true', decide_eq_true_eq] at hr2
    obtain ⟨⟨ha, hp⟩, hl⟩ := hr2
    rw [pI (vS hc), decide_eq_false_iff_not] at hl
    have hcc := m7 (vS hc)
    have hval : valC c = c.v.code := by unfold valC; rw [if_neg (by omega), if_neg (by omega)]
    rw [hval]
    rcases hxe with hx0 | hx1
    · have hcx := m7 (vS hx)
      rw [h0, hx0, show Lib.compareInt 0 0 = 0 from rfl, lex_0, uA (vS hc) (vS hx), ha, hp]
      have hmu : mu x = if muI x.v < 0 then 0 else muI x.v := by unfold mu; rw [if_pos hx0]
      rw [hmu]
      unfold muI gG
      by_cases k1 : c.v.code < x.v.code
      · rw [if_pos k1, f8]
        constructor
        · intro _; split <;> split at * <;> omega
        · intro _; omega
      · rw [if_neg k1]
        by_cases k2 : x.v.code < c.v.code
        · rw [if_pos k2, mP]
          constructor
          · intro h; omega
          · intro h; exfalso; split at h <;> split at * <;> omega
        · rw [if_neg k2]
          by_cases k3 : x.v.pre = []
          · rw [k3, if_pos rfl, lex_0]
            have : Lib.compareInt (b01 false) (b01 x.aft) ≤ 0 := by rw [ci_le]; cases x.aft <;> decide
            constructor
            · intro _; rw [if_pos rfl, if_neg (by omega)]; omega
            · intro _; exact this
          · rw [if_neg (fun e => k3 e.symm), if_pos rfl, mP]
            constructor
            · intro h; omega
            · intro h; exfalso; rw [if_neg k3] at h; split at h <;> omega
    · rw [h0, hx1, show Lib.compareInt 0 (-1) = 1 from rfl, mP]
      have hmu : mu x = 0 := by unfold mu; rw [if_neg (by omega)]
      rw [hmu]
      constructor <;> intro h <;> omega
  · rcases h1 with h1 | h1
    · have hval : valC c = 0 := by unfold valC; rw [if_pos h1]
      rw [hval]
      refine ⟨fun _ => hmx.1, fun _ => ?_⟩
      rcases hxe with hx0 | hx1
      · rw [h1, hx0, show Lib.compareInt (-1) 0 = -1 from rfl, f8]; omega
      · rcases tL hx with ⟨h, _⟩ | ⟨_, hv2, ha2⟩
        · omega
        · rw [h1, hx1, hv, hv2, ha, ha2, show Lib.compareInt (-1) (-1) = 0 from rfl, lex_0, show xK Ver.zero Ver.zero = 0 from cmpR_core rfl, lex_0]; decide
    · have hval : valC c = 1000000000000 := by unfold valC; rw [if_neg (by omega), if_pos h1]
      rw [hval]
      refine ⟨fun h => ?_, fun h => by omega⟩
      exfalso
      rcases hxe with hx0 | hx1
      · rw [h1, hx0, show Lib.compareInt 1 0 = 1 from rfl, mP] at h; omega
      · rw [h1, hx1, show Lib.compareInt 1 (-1) = 1 from rfl, mP] at h; omega
def denN (l : List Sp) (n : Int) : Bool := l.any fun s => decide (valC s.lo ≤ n) && decide (n < valC s.hi)
theorem mu_pos {v : Ver} (hv : v.may = true) (hp : v.pre = []) : mu (bF v) = v.code := by
  have := m7 hv
  unfold mu muI bF yF
  dsimp only
  rw [if_pos rfl, if_pos hp]
  have e : ({ v with build := [] } : Ver).code = v.code := rfl
  rw [e, if_neg (by omega)]
theorem pS (p : Cu → Cu → Bool) (Q : Cu → Prop) : ∀ (cs : List Cu) (out : List Sp), (∀ c ∈ cs, Q c) → (∀ s ∈ out, Q s.lo ∧ Q s.hi) → ∀ s ∈ kV p out cs, Q s.lo ∧ Q s.hi
  | [], out, _, ho => by unfold kV; exact ho
  | [c], out, _, ho => by unfold kV; exact ho
  | c :: d :: r, out, hc, ho => by
    unfold kV
    refine pS p Q (d :: r) _ (fun x hx => hc x (List.mem_cons_of_mem _ hx)) ?_
    split
    · intro s hs
      unfold v8 at hs
      split at hs
      · rename_i t ht
        split at hs
        · rcases List.mem_append.1 hs with h | h
          · exact ho s (List.dropLast_subset _ h)
          · obtain rfl : s = _ := by simpa using h
            exact ⟨(ho t (List.mem_of_getLast? ht)).1, hc d (by simp)⟩
        · rcases List.mem_append.1 hs with h | h
          · exact ho s h
          · obtain rfl : s = _ := by simpa using h
            exact ⟨hc c (by simp), hc d (by simp)⟩
      · obtain rfl : s = _ := by simpa using hs
        exact ⟨hc c (by simp), hc d (by simp)⟩
    · exact ho
theorem cutsL_all (Q : Cu → Prop) (h1 : Q (zZ (-1))) (h2 : Q (zZ 1)) (l : List Sp) (hl : ∀ s ∈ l, Q s.lo ∧ Q s.hi) : ∀ c ∈ gC l, Q c := by
  have go : ∀ (l : List Sp) (out : List Cu), (∀ c ∈ out, Q c) → (∀ s ∈ l, Q s.lo ∧ Q s.hi) → ∀ c ∈ l.foldl (fun out s => kX s.hi (kX s.lo out)) out, Q c := by
    intro l
    induction l with
    | nil => intro out ho _; exact ho
    | cons s r ih =>
      intro out ho hl
      refine ih _ (fun c hc => ?_) (fun t ht => hl t (List.mem_cons_of_mem _ ht))
      rcases putL_mem _ _ _ hc with rfl | hc
      · exact (hl s (List.mem_cons_self ..)).2
      · rcases putL_mem _ _ _ hc with rfl | hc
        · exact (hl s (List.mem_cons_self ..)).1
        · exact ho c hc
  exact go l _ (fun c hc => by
    rcases List.mem_cons.1 hc with rfl | hc
    · exact h1
    · obtain rfl : c = _ := by simpa using hc
      exact h2) hl
theorem mV (k : Int) (h : ¬ k = 0) : x6 (zZ k) = true := by unfold x6 zZ; rw [decide_eq_true h]; rfl
theorem AllRight.make {l : List Sp} (h : AllRight l) : AllRight (uJ l) := pS _ (x6 · = true) _ [] (cutsL_all _ (mV _ (by decide)) (mV _ (by decide)) l h) (fun s hs => by simp at hs)
theorem AllRight.app {a b : List Sp} (ha : AllRight a) (hb : AllRight b) : AllRight (a ++ b) := fun s hs => (List.mem_append.1 hs).elim (ha s) (hb s)
theorem AllRight.or {a b : List Sp} (ha : AllRight a) (hb : AllRight b) : AllRight (orL a b) := (ha.app hb).make
end
section
def n8 (v : Ver) : Ver := Ver.rel v.maj v.min v.pat
def relA (v : Ver) : Cu := if qZ v then zZ (-1) else ⟨0, n8 v, false⟩
def relB (v : Ver) : Cu := if gD (n8 v) then ⟨0, x1 (n8 v), false⟩ else zZ 1
def kJ (c : Cu) : Cu := if ¬ c.e = 0 then c else if c.aft = true ∧ c.v.pre = [] then relB c.v else relA c.v
def jV (s : Sp) : Sp := ⟨kJ s.lo, kJ s.hi⟩
def gO (l : List Sp) : List Sp := uJ ((l.map jV).filter (·.may))
theorem relV_may {v : Ver} (h : v.may = true) : (n8 v).may = true := by
  obtain ⟨h1, h2, h3⟩ := vV h
  exact rel_in h1 h2 h3
theorem relV_code (v : Ver) : (n8 v).code = v.code := rfl
theorem relA_ok {v : Ver} (h : v.may = true) : (relA v).may = true ∧ x6 (relA v) = true ∧ valC (relA v) = v.code := by
  unfold relA
  have hl := pI h
  split
  · rename_i h1
    rw [hl, decide_eq_true_eq] at h1
    exact ⟨mT, mV _ (by decide), by rw [h1]; rfl⟩
  · rename_i h1
    have h2 : qZ (n8 v) = false := by
      have : qZ (n8 v) = qZ v := rfl
      rw [this]; simpa using h1
    exact ⟨by unfold Cu.may; dsimp only; rw [if_pos rfl, relV_may h]; rfl, by unfold x6; dsimp only; rw [h2]; rfl, rfl⟩
theorem relB_ok {v : Ver} (h : v.may = true) : (relB v).may = true ∧ x6 (relB v) = true ∧ valC (relB v) = v.code + 1 := by
  unfold relB
  rcases next_is (relV_may h) with ⟨h1, h2, h3⟩ | ⟨h1, a, b, c, h2, h3, h4⟩
  · rw [h1, if_neg (by decide)]
    rw [relV_code] at h3
    exact ⟨wJ, mV _ (by decide), by rw [h3]; rfl⟩
  · rw [h1, if_pos rfl, h2]
    have hc : (Ver.rel a b c).code = v.code + 1 := by
      rcases h4 with ⟨_, h5⟩ | ⟨h5, _⟩
      · rw [h5, relV_code]
      · exact absurd rfl h5
    have h0 := (m7 h).1
    have hl : qZ (Ver.rel a b c) = false := by rw [pI h3, decide_eq_false_iff_not]; omega
    refine ⟨by unfold Cu.may; dsimp only; rw [if_pos rfl, h3]; rfl, by unfold x6; dsimp only; rw [hl]; rfl, ?_⟩
    unfold valC; dsimp only
    rw [if_neg (by decide), if_neg (by decide), hc]
theorem mE {c : Cu} (h : c.may = true) : (kJ c).may = true ∧ x6 (kJ c) = true := by
  unfold kJ
  split
  · rename_i h0
    exact ⟨h, by unfold x6; rw [decide_eq_true h0]; rfl⟩
  · split
    · have := relB_ok (vS h); exact ⟨this.1, this.2.1⟩
    · have := relA_ok (vS h); exact ⟨this.1, this.2.1⟩
theorem turn_le {c : Cu} {r : Ver} (hc : c.may = true) (hr : r.may = true) (hp : r.pre = []) : zM c (bF r) ≤ 0 ↔ zM (kJ c) (bF r) ≤ 0 := by
  by_cases h0 : c.e = 0
  · have ht := mE hc
    have hv := vS hc
    rw [right_le ht.1 ht.2 (qP hr) (jY hr), mu_pos hr hp]
    have ha := dK hc hr
    have h1 : (zM c (bF r) ≤ 0) ↔ (xF c r = true) := by rw [ha, decide_eq_true_eq]
    rw [h1]
    unfold xF
    rw [hc, hr, if_pos h0]
    simp only [Bool.true_and, decide_eq_true_eq]
    have hcr := (cmp_rel hv hr hp).1
    have hrng := u9 (v := c.v) (w := r)
    have hz : xK c.v r = 0 ↔ (c.v.code = r.code ∧ c.v.pre = []) := by
      rw [uA hv hr, hp]
      by_cases k1 : c.v.code < r.code
      · rw [if_pos k1]; constructor <;> intro h <;> omega
      · rw [if_neg k1]
        by_cases k2 : r.code < c.v.code
        · rw [if_pos k2]; constructor <;> intro h <;> omega
        · rw [if_neg k2]
          unfold gG
          by_cases k3 : c.v.pre = []
          · rw [if_pos k3]; exact ⟨fun _ => ⟨by omega, k3⟩, fun _ => rfl⟩
          · rw [if_neg k3, if_neg k3, if_pos rfl]
            exact ⟨fun h => by omega, fun h => absurd h.2 k3⟩
    have hlt : xK c.v r < 0 ↔ xK c.v r = -1 := by omega
    rw [hlt, hcr, hz]
    unfold kJ
    rw [if_neg (by simpa using h0)]
    by_cases k : c.aft = true ∧ c.v.pre = []
    · rw [if_pos k, (relB_ok hv).2.2]
      constructor
      · rintro (h | ⟨_, h⟩)
        · rcases h with h | ⟨_, h⟩
          · omega
          · exact absurd k.2 h
        · rw [k.1] at h; cases h
      · intro h; exact .inl (.inl (by omega))
    · rw [if_neg k, (relA_ok hv).2.2]
      constructor
      · rintro (h | ⟨⟨h, _⟩, _⟩)
        · rcases h with h | ⟨h, _⟩ <;> omega
        · omega
      · intro h
        rcases Int.lt_or_eq_of_le h with h | h
        · exact .inl (.inl h)
        · by_cases k3 : c.v.pre = []
          · refine .inr ⟨⟨h, k3⟩, ?_⟩
            cases k4 : c.aft with
            | false => rfl
            | true => exact absurd ⟨k4, k3⟩ k
          · exact .inl (.inr ⟨h, k3⟩)
  · have : kJ c = c := by unfold kJ; rw [if_pos h0]
    rw [this]
theorem turn_in {s : Sp} {r : Ver} (hs : s.may = true) (hr : r.may = true) (hp : r.pre = []) : kZ (jV s) (bF r) = kZ s (bF r) := by
  obtain ⟨h1, h2⟩ := y7 hs
  unfold kZ jV
  dsimp only
  rw [decide_eq_decide.2 (turn_le h1 hr hp).symm]
  congr 1
  refine decide_eq_decide.2 ?_
  have := turn_le h2 hr hp
  have a1 := xJ (a := s.hi) (b := bF r)
  have a2 := xJ (a := kJ s.hi) (b := bF r)
  constructor
  · intro h; have : ¬ zM s.hi (bF r) ≤ 0 := fun h3 => by have := this.1 h3; omega
    omega
  · intro h; have : ¬ zM (kJ s.hi) (bF r) ≤ 0 := fun h3 => by have := this.2 h3; omega
    omega
theorem f7 (l : List Sp) : ∀ s ∈ (l.map jV).filter (·.may), s.may = true := fun s hs => (List.mem_filter.1 hs).2
theorem makeRel_may (l : List Sp) : zL (gO l) = true := (uW (f7 l)).1
theorem makeRel_right {l : List Sp} (h : ∀ s ∈ l, s.may = true) : AllRight (gO l) := by
  refine AllRight.make (fun s hs => ?_)
  obtain ⟨t, ht, rfl⟩ := List.mem_map.1 (List.mem_filter.1 hs).1
  have := y7 (h t ht)
  exact ⟨(mE this.1).2, (mE this.2).2⟩
theorem makeRel_has {l : List Sp} {r : Ver} (hl : zL l = true) (hr : r.may = true) (hp : r.pre = []) : xC (gO l) r = xC l r := by
  rw [vW (makeRel_may l) hr, vW hl hr]
  show den (uJ _) _ = _
  rw [(uW (f7 l)).2 _ (qP hr) (jY hr)]
  unfold den
  rw [Bool.eq_iff_iff, List.any_eq_true, List.any_eq_true]
  constructor
  · rintro ⟨s, hs, h⟩
    obtain ⟨t, ht, rfl⟩ := List.mem_map.1 (List.mem_filter.1 hs).1
    exact ⟨t, ht, by rw [← turn_in (x8 hl t ht) hr hp]; exact h⟩
  · rintro ⟨s, hs, h⟩
    have hm := x8 hl s hs
    rw [← turn_in hm hr hp] at h
    refine ⟨jV s, List.mem_filter.2 ⟨List.mem_map.2 ⟨s, hs, rfl⟩, ?_⟩, h⟩
    have h1 := y7 hm
    cases hc : (jV s).may with
    | true => rfl
    | false =>
      have := in_none (mE h1.1).1 (mE h1.2).1 (qP hr) (sp_not_of hc)
      rw [show (Sp.mk (kJ s.lo) (kJ s.hi)) = jV s from rfl, h] at this
      cases this
def oneRel (v : Ver) : List Sp := [⟨relA v, relB v⟩]
def onePre (v : Ver) : List Sp := [⟨⟨0, yF v, false⟩, ⟨0, yF v, true⟩⟩]
end
section
structure St where
  rel : List Sp
  pre : List Sp
def St.may (s : St) : Bool := zL s.rel && zL s.pre && s.rel.all fun x => x6 x.lo && x6 x.hi
structure SF (s : St) (n : Nat) : Prop where
  rel : RF s.rel n
  pre : RF s.pre n
  right : AllRight s.rel
theorem right_all {l : List Sp} : (l.all fun x => x6 x.lo && x6 x.hi) = true ↔ AllRight l := by
  rw [List.all_eq_true]
  exact ⟨fun h s hs => by simpa using h s hs, fun h s hs => by simpa using h s hs⟩
theorem SF.may {s : St} {n : Nat} (h : SF s n) : s.may = true := by
  unfold St.may
  rw [h.rel.may, h.pre.may, right_all.2 h.right]; rfl
theorem St.facts {s : St} (h : s.may = true) : zL s.rel = true ∧ zL s.pre = true ∧ AllRight s.rel := by
  unfold St.may at h
  rw [Bool.and_eq_true, Bool.and_eq_true, right_all] at h
  exact ⟨h.1.1, h.1.2, h.2⟩
theorem SF.of {s : St} {n : Nat} (h : s.may = true) (h1 : s.rel.length ≤ n) (h2 : s.pre.length ≤ n) : SF s n :=
  ⟨⟨(St.facts h).1, h1⟩, ⟨(St.facts h).2.1, h2⟩, (St.facts h).2.2⟩
def q7 (s : St) (v : Ver) : Bool := s.may && v.may && (if v.pre = [] then xC s.rel v else xC s.pre v)
def gP : St := ⟨[], []⟩
def nN : List Sp := [⟨zZ (-1), zZ 1⟩]
def allT : St := ⟨nN, nN⟩
def orT (a b : St) : St := ⟨orL a.rel b.rel, orL a.pre b.pre⟩
def andT (a b : St) : St := ⟨fB a.rel b.rel, fB a.pre b.pre⟩
def notT (a : St) : St := ⟨qY a.rel, qY a.pre⟩
def minusT (a b : St) : St := andT a (notT b)
def exactT (v : Ver) : St := if v.may then (if v.pre = [] then ⟨oneRel v, []⟩ else ⟨[], onePre v⟩) else gP
theorem St.eq {a b : St} (h1 : a.rel = b.rel) (h2 : a.pre = b.pre) : a = b := by cases a; cases b; simp only at h1 h2; rw [h1, h2]
theorem nil_rf : RF [] 0 := ⟨rfl, Nat.le_refl _⟩
theorem RF.le {l : List Sp} {n m : Nat} (h : RF l n) (hm : n ≤ m) : RF l m := ⟨h.may, Nat.le_trans h.len hm⟩
theorem SF.le {s : St} {n m : Nat} (h : SF s n) (hm : n ≤ m) : SF s m := ⟨h.rel.le hm, h.pre.le hm, h.right⟩
theorem nil_right : AllRight [] := fun s hs => by simp at hs
theorem none_sf : SF gP 0 := ⟨nil_rf, nil_rf, nil_right⟩
theorem whole_rf : RF nN 1 := ⟨by decide, Nat.le_refl _⟩
theorem SF.or {a b : St} {n m : Nat} (ha : SF a n) (hb : SF b m) : SF (orT a b) (2 + 2 * (n + m)) := ⟨ha.rel.or hb.rel, ha.pre.or hb.pre, ha.right.or hb.right⟩
theorem has_may {s : St} {v : Ver} {n : Nat} (hs : SF s n) (hv : v.may = true) : q7 s v = if v.pre = [] then xC s.rel v else xC s.pre v := by
  unfold q7; rw [hs.may, hv, Bool.true_and, Bool.true_and]
section
variable {a b : St} {n m : Nat} {v : Ver} (ha : SF a n) (hb : SF b m) (hv : v.may = true)
include ha hb hv
theorem setHas_or : q7 (orT a b) v = (q7 a v || q7 b v) := by
  rw [has_may (ha.or hb) hv, has_may ha hv, has_may hb hv]
  split
  · exact has_or4 ha.rel.may hb.rel.may hv
  · exact has_or4 ha.pre.may hb.pre.may hv
end
theorem whole_den {x : Cu} (hx : x.may = true) (he : zM x (zZ 1) < 0) : den nN x = true := by
  show (kZ ⟨zZ (-1), zZ 1⟩ x || false) = true
  rw [Bool.or_false]
  unfold kZ
  rw [decide_eq_true (hD hx), decide_eq_true he]; rfl
theorem setHas_none {v : Ver} : q7 gP v = false := by
  unfold q7
  have h : xC [] v = false := rfl
  show (_ && (if v.pre = [] then xC [] v else xC [] v)) = false
  rw [h, ite_self, Bool.and_false]
def edgeN (l : List Sp) : List Int := l.flatMap fun s => [s.lo, s.hi].filterMap fun c => if c.e = 0 then some c.v.code else none
theorem not_whole : qY nN = [] := mK _ _ (bG whole_rf.may).1 rfl fun x hx he => by
  rw [(bG whole_rf.may).2 x hx he, whole_den hx he]; rfl
theorem not_nil : qY [] = nN := by rw [← not_whole, not_not4 whole_rf.may]
end
section
structure Co where
  op : Int
  parts : Int
  v : Ver
deriving DecidableEq
def y9 (op : Int) : List UInt8 := if op = 1 then [61] else if op = 2 then [33, 61] else if op = 3 then [60] else if op = 4 then [60, 61] else if op = 5 then [62] else if op = 6 then [62, 61] else if op = 7 then [94] else if op = 8 then [126] else []
def Co.may (c : Co) : Bool := decide (1 ≤ c.op ∧ c.op ≤ 9) && c.v.may && decide (c.v.build = []) && (if c.op = 9 then decide (0 ≤ c.parts ∧ c.parts ≤ 2) else decide (1 ≤ c.parts ∧ c.parts ≤ 3)) && decide (3 ≤ c.parts ∨ c.v.pre = []) && decide (0 < c.parts ∨ c.v.maj = 0) && decide (1 < c.parts ∨ c.v.min = 0) && decide (2 < c.parts ∨ c.v.pat = 0)
theorem Co.facts {c : Co} (h : c.may = true) : (1 ≤ c.op ∧ c.op ≤ 9) ∧ c.v.may = true ∧ c.v.build = [] ∧ (c.op = 9 → 0 ≤ c.parts ∧ c.parts ≤ 2) ∧ (¬ c.op = 9 → 1 ≤ c.parts ∧ c.parts ≤ 3) ∧ (3 ≤ c.parts ∨ c.v.pre = []) ∧ (0 < c.parts ∨ c.v.maj = 0) ∧ (1 < c.parts ∨ c.v.min = 0) ∧ (2 < c.parts ∨ c.v.pat = 0) := by
  unfold Co.may at h
  simp only [Bool.and_eq_true, decide_eq_true_eq] at h
  obtain ⟨⟨⟨⟨⟨⟨⟨h1, h2⟩, h3⟩, h4⟩, h5⟩, h6⟩, h7⟩, h8⟩ := h
  refine ⟨h1, h2, h3, fun e => ?_, fun e => ?_, h5, h6, h7, h8⟩
  · rw [if_pos e] at h4; exact of_decide_eq_true h4
  · rw [if_neg e] at h4; exact of_decide_eq_true h4
theorem Co.may_iff {c : Co} : c.may = true ↔ (1 ≤ c.op ∧ c.op ≤ 9) ∧ c.v.may = true ∧ c.v.build = [] ∧ (c.op = 9 → 0 ≤ c.parts ∧ c.parts ≤ 2) ∧ (¬ c.op = 9 → 1 ≤ c.parts ∧ c.parts ≤ 3) ∧ (3 ≤ c.parts ∨ c.v.pre = []) ∧ (0 < c.parts ∨ c.v.maj = 0) ∧ (1 < c.parts ∨ c.v.min = 0) ∧ (2 < c.parts ∨ c.v.pat = 0) := by
  refine ⟨Co.facts, fun ⟨h1, h2, h3, k9, kn, h5, h6, h7, h8⟩ => ?_⟩
  unfold Co.may
  rw [decide_eq_true h1, h2, decide_eq_true h3, decide_eq_true h5, decide_eq_true h6, decide_eq_true h7, decide_eq_true h8]
  by_cases e : c.op = 9
  · rw [if_pos e, decide_eq_true (k9 e)]; rfl
  · rw [if_neg e, decide_eq_true (kn e)]; rfl
def yE (v : Ver) (n : Nat) : List (List UInt8) := [Lib.itoa v.maj, Lib.itoa v.min, Lib.itoa v.pat].take n
def Co.rest (c : Co) : List UInt8 := if c.op = 9 then yA 46 (yE c.v c.parts.toNat ++ [[42]]) else yA 46 (yE c.v c.parts.toNat) ++ bP 45 c.v.pre
def Co.text (c : Co) : List UInt8 := y9 c.op ++ c.rest
def Co.print (c : Co) : List UInt8 := if c.may then c.text else []
def xM (s t : List UInt8) : Bool := decide (s.take t.length = t)
def fJ (s : List UInt8) : Int × List UInt8 :=
  if xM s [33, 61] then (2, s.drop 2) else if xM s [60, 61] then (4, s.drop 2) else if xM s [62, 61] then (6, s.drop 2) else if xM s [61] then (1, s.drop 1)
  else if xM s [60] then (3, s.drop 1) else if xM s [62] then (5, s.drop 1) else if xM s [94] then (7, s.drop 1) else if xM s [126] then (8, s.drop 1)
  else if s.getLast? = some 42 then (9, s) else (7, s)
def fZ (op : Int) (rest : List UInt8) : List (List UInt8) := if op = 9 then (pcs (yJ 45 rest).1).dropLast else pcs (yJ 45 rest).1
def guessC (op : Int) (rest : List UInt8) : Option Co :=
  if (fZ op rest).length ≤ 3 ∧ (fZ op rest).all gK = true then
    some ⟨op, (fZ op rest).length, ⟨zT (tg (fZ op rest) 0), zT (tg (fZ op rest) 1), zT (tg (fZ op rest) 2), (yJ 45 rest).2.1, []⟩⟩
  else none
def fits (s : List UInt8) (c : Co) : Bool := !decide (c.print = []) && (decide (c.print = s) || decide (c.print = 94 :: s))
def qB (s : List UInt8) : Option Co := (guessC (fJ s).1 (fJ s).2).filter (fits s)
theorem print_may {c : Co} (h : ¬ c.print = []) : c.may = true := by
  cases hm : c.may with
  | true => rfl
  | false => exact absurd (show c.print = [] by unfold Co.print; rw [hm]; rfl) h
theorem gW {c : Co} (h : c.may = true) : c.print = c.text := by unfold Co.print; rw [h]; rfl
theorem parseC_back {s : List UInt8} {c : Co} (h : qB s = some c) : c.may = true ∧ (c.text = s ∨ c.text = 94 :: s) := by
  unfold qB at h
  obtain ⟨_, h⟩ := Option.filter_eq_some_iff.1 h
  unfold fits at h
  simp only [Bool.and_eq_true, Bool.not_eq_true', decide_eq_false_iff_not, Bool.or_eq_true, decide_eq_true_eq] at h
  have hm := print_may h.1
  rw [gW hm] at h
  exact ⟨hm, h.2⟩
theorem pcs_cons {x y : List UInt8} (h : (46 : UInt8) ∉ x) : pcs (x ++ 46 :: y) = x :: pcs y := by
  unfold pcs
  rw [uK, cutAt_hit 46 _ _ h]
  simp
theorem pcs_one {x : List UInt8} (h : (46 : UInt8) ∉ x) : pcs x = [x] := by
  unfold pcs
  rw [uK, wN 46 _ h]
  simp
theorem pcs_join : ∀ (l : List (List UInt8)), l ≠ [] → (∀ x ∈ l, (46 : UInt8) ∉ x) → pcs (yA 46 l) = l
  | [], h, _ => absurd rfl h
  | [x], _, h => pcs_one (h x (List.mem_singleton.2 rfl))
  | x :: y :: r, _, h => by
    rw [yA, pcs_cons (h x (List.mem_cons_self ..)), pcs_join (y :: r) (by simp) fun z hz => h z (List.mem_cons_of_mem _ hz)]
theorem nums_mem {v : Ver} (hv : v.may = true) {n : Nat} {x : List UInt8} (h : x ∈ yE v n) : ∃ k : Int, yH k = true ∧ x = Lib.itoa k := by
  obtain ⟨h1, h2, h3⟩ := qD hv
  unfold yE at h
  have h := List.mem_of_mem_take h
  simp only [List.mem_cons, List.not_mem_nil, or_false] at h
  rcases h with rfl | rfl | rfl
  · exact ⟨_, h1, rfl⟩
  · exact ⟨_, h2, rfl⟩
  · exact ⟨_, h3, rfl⟩
theorem jA {v : Ver} (hv : v.may = true) {n : Nat} (b : UInt8) (hb : kN b.toNat = false) : ∀ x ∈ yE v n, b ∉ x := fun x hx => by
  obtain ⟨k, hk, rfl⟩ := nums_mem hv hx
  exact dig_free hk b hb
theorem wE (b : UInt8) (hb : b ≠ 46) : ∀ (l : List (List UInt8)), (∀ x ∈ l, b ∉ x) → b ∉ yA 46 l
  | [], _ => by simp [yA]
  | [x], h => h x (List.mem_singleton.2 rfl)
  | x :: y :: r, h => by
    rw [yA]
    simp only [List.mem_append, List.mem_cons, not_or]
    exact ⟨h x (List.mem_cons_self ..), hb, wE b hb (y :: r) fun z hz => h z (List.mem_cons_of_mem _ hz)⟩
theorem qU (v : Ver) {n : Nat} (h : n ≤ 3) : (yE v n).length = n := by
  unfold yE
  rw [List.length_take]
  simp; omega
theorem nums_num {v : Ver} (hv : v.may = true) (n : Nat) : (yE v n).all gK = true := List.all_eq_true.2 fun x hx => by
  obtain ⟨k, hk, rfl⟩ := nums_mem hv hx
  exact numI_itoa hk
theorem nums_back {v : Ver} (hv : v.may = true) {n : Nat} (h : n ≤ 3) (h0 : 0 < n ∨ v.maj = 0) (h1 : 1 < n ∨ v.min = 0) (h2 : 2 < n ∨ v.pat = 0) : zT (tg (yE v n) 0) = v.maj ∧ zT (tg (yE v n) 1) = v.min ∧ zT (tg (yE v n) 2) = v.pat := by
  obtain ⟨m1, m2, m3⟩ := qD hv
  have e1 := bZ m1
  have e2 := bZ m2
  have e3 := bZ m3
  match n, h with
  | 0, _ => exact ⟨(h0.resolve_left (by decide)).symm, (h1.resolve_left (by decide)).symm, (h2.resolve_left (by decide)).symm⟩
  | 1, _ => exact ⟨e1, (h1.resolve_left (by decide)).symm, (h2.resolve_left (by decide)).symm⟩
  | 2, _ => exact ⟨e1, e2, (h2.resolve_left (by decide)).symm⟩
  | 3, _ => exact ⟨e1, e2, e3⟩
theorem guess_rest {c : Co} (h : c.may = true) : guessC c.op c.rest = some c := by
  obtain ⟨_, hv, hb, h9, hn, hp, k0, k1, k2⟩ := Co.facts h
  obtain ⟨op, parts, v⟩ := c
  simp only at hv hb h9 hn hp k0 k1 k2 ⊢
  have hparts : (parts.toNat : Int) = parts ∧ parts.toNat ≤ 3 := by
    by_cases e : op = 9
    · have := h9 e; omega
    · have := hn e; omega
  have key : fZ op (Co.rest ⟨op, parts, v⟩) = yE v parts.toNat ∧ (yJ 45 (Co.rest ⟨op, parts, v⟩)).2.1 = v.pre := by
    unfold fZ Co.rest
    by_cases e : op = 9
    · rw [if_pos e]
      dsimp only
      rw [if_pos e]
      have f : ∀ b : UInt8, kN b.toNat = false → b ≠ 42 → ∀ x ∈ yE v parts.toNat ++ [[42]], b ∉ x := fun b hb hb2 x hx => by
        rcases List.mem_append.1 hx with hx | hx
        · exact jA hv b hb x hx
        · rw [List.mem_singleton.1 hx]
          intro hm
          exact hb2 (List.mem_singleton.1 hm)
      rw [wN 45 _ (wE 45 (by decide) _ (f 45 (by decide) (by decide)))]
      have hpre : v.pre = [] := hp.resolve_left (by have := h9 e; omega)
      exact ⟨by
        show (pcs (yA 46 (yE v parts.toNat ++ [[42]]))).dropLast = _
        rw [pcs_join _ (by simp) (f 46 (by decide) (by decide)), List.dropLast_concat], hpre.symm⟩
    · rw [if_neg e]
      dsimp only
      rw [if_neg e]
      have hne : yE v parts.toNat ≠ [] := fun h0 => by
        have := qU v hparts.2
        rw [h0] at this
        have := hn e
        simp at *; omega
      rw [cut_tail 45 _ _ (wE 45 (by decide) _ (jA hv 45 (by decide)))]
      exact ⟨pcs_join _ hne (jA hv 46 (by decide)), rfl⟩
  unfold guessC
  rw [key.1, key.2, if_pos ⟨by rw [qU v hparts.2]; exact hparts.2, nums_num hv _⟩]
  obtain ⟨e1, e2, e3⟩ := nums_back hv hparts.2 (by omega) (by omega) (by omega)
  rw [e1, e2, e3, qU v hparts.2, hparts.1]
  obtain ⟨a, b, p, q, r⟩ := v
  simp only at hb
  rw [hb]
theorem itoa_head {k : Int} (h : yH k = true) : ∃ d r, Lib.itoa k = d :: r ∧ kN d.toNat = true := by
  have hm := num_itoa h
  cases e : Lib.itoa k with
  | nil => rw [e] at hm; cases hm
  | cons d r => exact ⟨d, r, rfl, by
      have := dig_mem k.toNat d (by rw [← tN h, e]; exact List.mem_cons_self)
      exact this⟩
theorem join_head {x : List UInt8} {l : List (List UInt8)} {d : UInt8} {r : List UInt8} (h : x = d :: r) : ∃ r', yA 46 (x :: l) = d :: r' := by
  subst h
  cases l with
  | nil => exact ⟨r, rfl⟩
  | cons y t => exact ⟨_, rfl⟩
theorem bY {c : Co} (h : c.may = true) (hn : ¬ c.op = 9) : ∃ d r, c.rest = d :: r ∧ kN d.toNat = true := by
  obtain ⟨_, hv, _, _, h9, _⟩ := Co.facts h
  obtain ⟨d, r, e, hd⟩ := itoa_head (qD hv).1
  obtain ⟨n, en⟩ : ∃ n, c.parts.toNat = n + 1 := ⟨c.parts.toNat - 1, by have := h9 hn; omega⟩
  obtain ⟨r', e'⟩ := join_head (l := [Lib.itoa c.v.min, Lib.itoa c.v.pat].take n) e
  refine ⟨d, r' ++ bP 45 c.v.pre, ?_, hd⟩
  unfold Co.rest yE
  rw [if_neg hn, en, List.take_succ_cons, e']; rfl
theorem mI {c : Co} (h : c.may = true) (hn : c.op = 9) : ∃ d r, c.rest = d :: r ∧ (kN d.toNat = true ∨ d = 42) := by
  obtain ⟨_, hv, _, h9, _⟩ := Co.facts h
  obtain ⟨d, r, e, hd⟩ := itoa_head (qD hv).1
  unfold Co.rest yE
  rw [if_pos hn]
  cases hp : c.parts.toNat with
  | zero => exact ⟨42, [], rfl, .inr rfl⟩
  | succ n =>
    obtain ⟨r', e'⟩ := join_head (l := [Lib.itoa c.v.min, Lib.itoa c.v.pat].take n ++ [[42]]) e
    exact ⟨d, r', by rw [List.take_succ_cons, List.cons_append, e'], .inl hd⟩
theorem qL {d : UInt8} {r : List UInt8} {a : UInt8} {t : List UInt8} (h : d ≠ a) : xM (d :: r) (a :: t) = false := decide_eq_false fun e => by
  rw [List.length_cons, List.take_succ_cons] at e
  injection e with e1 _
  exact h e1
theorem split_plain {d : UInt8} {r : List UInt8} (h : kN d.toNat = true ∨ d = 42) : fJ (d :: r) = if (d :: r).getLast? = some 42 then (9, d :: r) else (7, d :: r) := by
  have hd : ∀ a : UInt8, kN a.toNat = false → a ≠ 42 → d ≠ a := fun a ha h42 e => by
    subst e
    rcases h with h | h
    · rw [ha] at h; cases h
    · exact h42 h
  unfold fJ
  rw [qL (hd 33 (by decide) (by decide)), qL (hd 60 (by decide) (by decide)), qL (hd 62 (by decide) (by decide)), qL (hd 61 (by decide) (by decide)), qL (hd 60 (by decide) (by decide)), qL (hd 62 (by decide) (by decide)), qL (hd 94 (by decide) (by decide)), qL (hd 126 (by decide) (by decide))]
  rfl
theorem split_sign {op : Int} (h1 : 1 ≤ op) (h8 : op ≤ 8) {d : UInt8} {r : List UInt8} (hd : kN d.toNat = true) : fJ (y9 op ++ d :: r) = (op, d :: r) := by
  have h61 : d ≠ 61 := fun e => by subst e; revert hd; decide
  have hop : op = 1 ∨ op = 2 ∨ op = 3 ∨ op = 4 ∨ op = 5 ∨ op = 6 ∨ op = 7 ∨ op = 8 := by omega
  rcases hop with rfl | rfl | rfl | rfl | rfl | rfl | rfl | rfl <;> simp [y9, fJ, xM, h61]
theorem last_join (x : List UInt8) : ∀ (l : List (List UInt8)), (yA 46 (l ++ [x ++ [42]])).getLast? = some 42
  | [] => by simp [yA]
  | [y] => by
    show (y ++ 46 :: (x ++ [42])).getLast? = some 42
    rw [show y ++ 46 :: (x ++ [42]) = (y ++ 46 :: x) ++ [42] from by simp, List.getLast?_concat]
  | y :: z :: r => by
    have := last_join x (z :: r)
    show (y ++ 46 :: yA 46 (z :: r ++ [x ++ [42]])).getLast? = some 42
    rw [List.getLast?_append]
    cases hj : yA 46 (z :: r ++ [x ++ [42]]) with
    | nil => rw [hj] at this; cases this
    | cons a b => rw [hj] at this; rw [List.getLast?_cons_cons, this]; rfl
theorem star_free (s : List UInt8) (h : q8 s = true) : (42 : UInt8) ∉ s := by
  intro hm
  unfold q8 at h
  rcases splitL_mem 46 s [] 42 hm with e | ⟨x, hx, hc⟩
  · revert e; decide
  · have hne : s.isEmpty = false := by cases s with
      | nil => cases hm
      | cons _ _ => rfl
    rw [hne, Bool.false_or, Bool.and_eq_true] at h
    have := List.all_eq_true.1 h.2 x hx
    unfold gI at this
    rw [Bool.and_eq_true] at this
    have := List.all_eq_true.1 this.2 _ hc
    revert this; decide
theorem rest_star {c : Co} (h : c.may = true) (hn : ¬ c.op = 9) : (42 : UInt8) ∉ c.rest := by
  obtain ⟨_, hv, _⟩ := Co.facts h
  have hl : q8 c.v.pre = true := by
    have := dY hv
    unfold qO at this
    exact (Bool.and_eq_true_iff.1 this).1
  unfold Co.rest
  rw [if_neg hn]
  intro hm
  rcases List.mem_append.1 hm with hm | hm
  · exact wE 42 (by decide) _ (jA hv 42 (by decide)) hm
  · unfold bP at hm
    split at hm
    · cases hm
    · rcases List.mem_cons.1 hm with e | hm
      · revert e; decide
      · exact star_free _ hl hm
theorem split_text {c : Co} (h : c.may = true) : fJ c.text = (c.op, c.rest) := by
  obtain ⟨ho, _⟩ := Co.facts h
  unfold Co.text
  by_cases hn : c.op = 9
  · obtain ⟨d, r, e, hd⟩ := mI h hn
    have hl : c.rest.getLast? = some 42 := by unfold Co.rest; rw [if_pos hn]; exact last_join [] _
    rw [hn, show y9 9 = [] from rfl, List.nil_append]
    rw [e] at hl ⊢
    rw [split_plain hd, if_pos hl]
  · obtain ⟨d, r, e, hd⟩ := bY h hn
    rw [e]
    exact split_sign ho.1 (by omega) hd
theorem parseC_text {c : Co} (h : c.may = true) : qB c.text = some c := by
  unfold qB
  rw [split_text h, guess_rest h]
  refine Option.filter_eq_some_iff.2 ⟨rfl, ?_⟩
  have hne : ¬ c.text = [] := fun e => by
    unfold Co.text at e
    have e2 := (List.append_eq_nil_iff.1 e).2
    by_cases hn : c.op = 9
    · obtain ⟨d, r, e3, _⟩ := mI h hn; rw [e3] at e2; cases e2
    · obtain ⟨d, r, e3, _⟩ := bY h hn; rw [e3] at e2; cases e2
  unfold fits
  rw [gW h, decide_eq_false hne, decide_eq_true rfl]; rfl
theorem parseC_caret {c : Co} {s : List UInt8} (h : c.may = true) (hs : c.text = 94 :: s) : qB s = some c := by
  obtain ⟨ho, _⟩ := Co.facts h
  have hop : c.op = 7 ∧ c.rest = s := by
    unfold Co.text at hs
    by_cases hn : c.op = 9
    · obtain ⟨d, r, e, hd⟩ := mI h hn
      rw [hn, show y9 9 = [] from rfl, List.nil_append, e] at hs
      injection hs with e1 _
      rw [e1] at hd
      exact absurd hd (by decide)
    · have hop : c.op = 1 ∨ c.op = 2 ∨ c.op = 3 ∨ c.op = 4 ∨ c.op = 5 ∨ c.op = 6 ∨ c.op = 7 ∨ c.op = 8 := by omega
      rcases hop with e | e | e | e | e | e | e | e <;> rw [e] at hs <;> simp [y9] at hs
      exact ⟨e, hs⟩
  obtain ⟨d, r, e, hd⟩ := bY h (by omega)
  have h42 : ¬ s.getLast? = some 42 := fun hl => by
    have := List.mem_of_getLast? hl
    rw [← hop.2] at this
    exact rest_star h (by omega) this
  unfold qB
  have hsp : fJ s = (7, s) := by
    rw [← hop.2, e, split_plain (.inl hd), if_neg (by rw [← e, hop.2]; exact h42)]
  rw [hsp]
  have hg := guess_rest h
  rw [hop.1, hop.2] at hg
  rw [hg]
  refine Option.filter_eq_some_iff.2 ⟨rfl, ?_⟩
  unfold fits
  rw [gW h, hs, decide_eq_false (by simp), decide_eq_true rfl, Bool.or_true]; rfl
theorem dU (s : List UInt8) (c : Co) : qB s = some c ↔ c.may = true ∧ (c.text = s ∨ c.text = 94 :: s) :=
  ⟨parseC_back, fun ⟨hm, h⟩ => h.elim (fun e => e ▸ parseC_text hm) (fun e => parseC_caret hm e)⟩
end
section
end
section
def xX (v : Ver) : Nat → Cu
  | 0 => if y6 v 0 then ⟨0, yG v 0, false⟩ else zZ 1
  | k + 1 => if y6 v ((k + 1 : Nat) : Int) then ⟨0, yG v ((k + 1 : Nat) : Int), false⟩ else xX v k
def g8 (c : Co) : Nat := if 0 < c.v.maj ∨ c.parts = 1 then 0 else if 0 < c.v.min ∨ c.parts = 2 then 1 else 2
def Co.low (c : Co) : Cu := ⟨0, yF c.v, false⟩
def Co.aft (c : Co) : Cu := if c.parts < 3 ∧ 0 < c.parts then xX c.v (c.parts - 1).toNat else ⟨0, yF c.v, true⟩
def Co.span (c : Co) : Cu × Cu :=
  if c.op = 1 ∨ c.op = 2 then (c.low, c.aft) else if c.op = 3 then (zZ (-1), c.low) else if c.op = 4 then (zZ (-1), c.aft) else if c.op = 5 then (c.aft, zZ 1) else if c.op = 6 then (c.low, zZ 1)
  else if c.op = 7 then (c.low, xX c.v (g8 c)) else if c.op = 8 then (c.low, xX c.v (min (c.parts - 1) 1).toNat) else if c.parts = 0 then (zZ (-1), zZ 1) else (c.low, xX c.v (c.parts - 1).toNat)
def kH (lo hi : Cu) : List Sp := gY [] lo hi
def Co.region (c : Co) : List Sp := if c.may then (if c.op = 2 then qY (kH c.span.1 c.span.2) else kH c.span.1 c.span.2) else []
def Co.zone (c : Co) : List Sp := if c.may && !decide (c.v.pre = []) then [⟨⟨0, { c.v with pre := [48], build := [] }, false⟩, ⟨0, { c.v with pre := [], build := [] }, false⟩⟩] else []
theorem oneRow_may (lo hi : Cu) : zL (kH lo hi) = true := add_ok rfl (fun t h => by cases h)
theorem pU {v : Ver} (h : v.may = true) (a : Bool) : (⟨0, yF v, a⟩ : Cu).may = true := by
  have h2 := m6 h
  unfold Cu.may
  rw [if_pos rfl]
  show ((yF v).may && ([] : List UInt8).isEmpty) = true
  rw [h2]; rfl
theorem bump_rel {v : Ver} {k : Int} (h : y6 v k = true) : ∃ a b c, yG v k = Ver.rel a b c := by
  unfold yG
  rw [if_pos h]
  unfold tW
  split
  · exact ⟨_, _, _, rfl⟩
  · split
    · exact ⟨_, _, _, rfl⟩
    · exact ⟨_, _, _, rfl⟩
def upN (v : Ver) (k : Nat) : Int := if k = 0 then (v.maj + 1) * 100000000 else if k = 1 then v.maj * 100000000 + (v.min + 1) * 10000 else v.code + 1
theorem turns_lt (c : Co) : g8 c < 3 := by
  unfold g8
  split
  · omega
  · split <;> omega
theorem low_order {v w : Ver} (h : v.may = true) (hw : w.may = true) : xF ⟨0, yF v, false⟩ w = decide (xK v w ≤ 0) := by
  unfold xF
  rw [pU h false, hw, if_pos rfl, Bool.true_and, Bool.true_and]
  show decide (xK (yF v) w < 0 ∨ _) = _
  rw [order_core h hw]
  exact decide_eq_decide.2 ⟨fun h => by rcases h with h | ⟨h, _⟩ <;> omega, fun h => by have := u9 (v := v) (w := w); simp; omega⟩
def ordB (op n : Int) : Bool := if op = 1 then decide (n = 0) else if op = 2 then decide (¬ n = 0) else if op = 3 then decide (n < 0) else if op = 4 then decide (n ≤ 0) else if op = 5 then decide (0 < n) else decide (0 ≤ n)
end
section
def gX (c : Co) (v : Ver) (p : Int) : Bool := (decide (p < 1) || decide (v.maj = c.v.maj)) && (decide (p < 2) || decide (v.min = c.v.min)) && (decide (p < 3) || decide (v.pat = c.v.pat))
def overB (c : Co) (v : Ver) : Bool := if ¬ v.maj = c.v.maj ∨ c.parts = 1 then decide (c.v.maj < v.maj) else if ¬ v.min = c.v.min ∨ c.parts = 2 then decide (c.v.min < v.min) else decide (c.v.pat < v.pat)
def saysN (c : Co) : Int := if 0 < c.v.maj ∨ c.parts = 1 then 1 else if 0 < c.v.min ∨ c.parts = 2 then 2 else 3
def saysB (c : Co) (v : Ver) : Bool :=
  if c.op = 1 ∨ c.op = 9 then gX c v c.parts else if c.op = 2 then !gX c v c.parts else if c.op = 3 then !gX c v c.parts && !overB c v else if c.op = 4 then gX c v c.parts || !overB c v
  else if c.op = 5 then overB c v else if c.op = 6 then gX c v c.parts || overB c v else if c.op = 8 then gX c v (min c.parts 2) && (gX c v c.parts || overB c v)
  else gX c v (saysN c) && (gX c v c.parts || overB c v)
def truncN (v : Ver) (q : Nat) : Int := if q = 1 then v.maj * 100000000 else if q = 2 then v.maj * 100000000 + v.min * 10000 else v.code
end
section
theorem numD_0 : zT [48] = 0 := by decide
theorem presL_least {t : List UInt8} {r : List (List UInt8)} (h : n9 t = true) : gB [[48]] (t :: r) ≤ 0 := by
  unfold gB
  have h1 : kL [48] = true := by decide
  have ho : dV [48] t ≤ 0 := by
    unfold dV
    rw [h1, Bool.true_and]
    cases hn : kL t with
    | true =>
      rw [if_pos rfl, numD_0]
      have := numD_nat t
      exact ci_le.2 this
    | false => rw [if_neg (by decide), if_pos rfl]; decide
  split
  · exact ho
  · cases r <;> simp [gB]
theorem pcs_ne (p : List UInt8) : pcs p ≠ [] := wB 46 p []
theorem pres_least {p : List UInt8} (h : qO p = true) (hp : ¬ p = []) : gG [48] p ≤ 0 := by
  unfold gG
  rw [if_neg (show ¬ ([48] : List UInt8) = [] by decide), if_neg hp]
  split
  · decide
  · rw [show pcs [48] = [[48]] from by decide]
    unfold qO at h
    have hne : p.isEmpty = false := by cases p with
      | nil => exact absurd rfl hp
      | cons _ _ => rfl
    rw [hne, Bool.false_or, Bool.and_eq_true, List.all_eq_true] at h
    cases e : pcs p with
    | nil => exact absurd e (pcs_ne p)
    | cons t r => exact presL_least (h.2 t (by rw [e]; exact List.mem_cons_self))
def u0 (v : Ver) : Ver := { v with pre := [48], build := [] }
def dI (v : Ver) : Ver := { v with pre := [], build := [] }
theorem least_may {v : Ver} (h : v.may = true) : (u0 v).may = true ∧ (dI v).may = true := by
  obtain ⟨h1, h2, h3⟩ := qD h
  have k : qO [48] = true := by decide
  unfold Ver.may u0 dI
  dsimp only
  rw [h1, h2, h3, k]
  exact ⟨rfl, rfl⟩
theorem code_parts {v w : Ver} (hv : v.may = true) (hw : w.may = true) : v.code = w.code ↔ v.maj = w.maj ∧ v.min = w.min ∧ v.pat = w.pat := by
  obtain ⟨a1, a2, a3⟩ := vV hv
  obtain ⟨b1, b2, b3⟩ := vV hw
  have e1 : v.code = (v.maj * 10000 + v.min) * 10000 + v.pat := rfl
  have e2 : w.code = (w.maj * 10000 + w.min) * 10000 + w.pat := rfl
  omega
theorem begins3 {c : Co} {v : Ver} (hc : c.v.may = true) (hv : v.may = true) : gX c v 3 = decide (c.v.code = v.code) := by
  refine Bool.eq_iff_iff.2 ?_
  rw [decide_eq_true_eq, code_parts hc hv]
  unfold gX
  simp
  omega
theorem zone_row {c : Co} (h : c.may = true) (hp : ¬ c.v.pre = []) : c.zone = [⟨⟨0, u0 c.v, false⟩, ⟨0, dI c.v, false⟩⟩] := by
  unfold Co.zone
  rw [h, decide_eq_false hp]; rfl
theorem zone_sp {v : Ver} (h : v.may = true) : (Sp.mk ⟨0, u0 v, false⟩ ⟨0, dI v, false⟩).may = true := by
  obtain ⟨m1, m2⟩ := least_may h
  refine wC ?_
  have c1 : (⟨0, u0 v, false⟩ : Cu).may = true := pU m1 false
  have c2 : (⟨0, dI v, false⟩ : Cu).may = true := pU m2 false
  rw [qW c1 c2]
  have e : xK (u0 v) (dI v) = -1 := by
    rw [uA m1 m2]
    have e1 : (u0 v).code = (dI v).code := rfl
    rw [e1, if_neg (by omega), if_neg (by omega)]; rfl
  show lex (Lib.compareInt 0 0) (lex (xK (u0 v) (dI v)) (Lib.compareInt (b01 false) (b01 false))) < 0
  rw [e]
  decide
theorem zone_may {c : Co} : zL c.zone = true := by
  by_cases h : c.may = true
  · by_cases hp : c.v.pre = []
    · unfold Co.zone; rw [h, decide_eq_true hp]; rfl
    · rw [zone_row h hp]; exact zone_sp (Co.facts h).2.1
  · unfold Co.zone
    rw [Bool.eq_false_iff.2 h]; rfl
theorem zone_has {c : Co} {v : Ver} (h : c.may = true) (hv : v.may = true) : xC c.zone v = (!decide (c.v.pre = []) && !decide (v.pre = []) && gX c v 3) := by
  have hcv := (Co.facts h).2.1
  by_cases hp : c.v.pre = []
  · unfold Co.zone
    rw [h, decide_eq_true hp]; rfl
  · obtain ⟨m1, m2⟩ := least_may hcv
    have hm : zL c.zone = true := zone_may
    unfold xC
    rw [hm, zone_row h hp, Bool.true_and]
    show (gL ⟨⟨0, u0 c.v, false⟩, ⟨0, dI c.v, false⟩⟩ v || false) = _
    rw [Bool.or_false]
    unfold gL
    have a1 : xF ⟨0, u0 c.v, false⟩ v = decide (xK (u0 c.v) v ≤ 0) := low_order m1 hv
    have a2 : xF ⟨0, dI c.v, false⟩ v = decide (xK (dI c.v) v ≤ 0) := low_order m2 hv
    rw [zone_sp hcv, Bool.true_and, a1, a2, decide_eq_false hp, begins3 hcv hv, uA m1 hv, uA m2 hv]
    have e1 : (u0 c.v).code = c.v.code := rfl
    have e2 : (dI c.v).code = c.v.code := rfl
    have e3 : (u0 c.v).pre = [48] := rfl
    have e4 : (dI c.v).pre = [] := rfl
    rw [e1, e2, e3, e4]
    by_cases h1 : c.v.code < v.code
    · rw [if_pos h1, if_pos h1, decide_eq_false (show ¬ c.v.code = v.code by omega)]; simp
    · rw [if_neg h1, if_neg h1]
      by_cases h2 : v.code < c.v.code
      · rw [if_pos h2, if_pos h2, decide_eq_false (show ¬ c.v.code = v.code by omega)]; simp
      · rw [if_neg h2, if_neg h2, decide_eq_true (show c.v.code = v.code by omega)]
        by_cases hvp : v.pre = []
        · rw [hvp]
          simp [gG]
        · rw [decide_eq_true (pres_least (dY hv) hvp), decide_eq_false hvp]
          have : ¬ gG [] v.pre ≤ 0 := by
            unfold gG
            rw [if_neg (fun e => hvp e.symm), if_pos rfl]; decide
          rw [decide_eq_false this]; rfl
def withO (c : Co) (o : Int) : Co := { c with op := o }
end
section
def v7 (sep : List UInt8) : List (List UInt8) → List UInt8
  | [] => []
  | [x] => x
  | x :: y :: l => x ++ sep ++ v7 sep (y :: l)
theorem mQ (sep x y : List UInt8) (l : List (List UInt8)) : v7 sep (x :: y :: l) = x ++ sep ++ v7 sep (y :: l) := rfl
theorem joinB_snoc (sep x : List UInt8) : ∀ (l : List (List UInt8)), v7 sep (l ++ [x]) = if l = [] then x else v7 sep l ++ sep ++ x
  | [] => rfl
  | [y] => rfl
  | y :: z :: l => by
    rw [if_neg (by simp)]
    show y ++ sep ++ v7 sep ((z :: l) ++ [x]) = y ++ sep ++ v7 sep (z :: l) ++ sep ++ x
    rw [joinB_snoc sep x (z :: l), if_neg (by simp)]
    simp only [List.append_assoc]
def sumN : List Nat → Nat
  | [] => 0
  | n :: l => n + sumN l
theorem joinB_len (sep : List UInt8) : ∀ (l : List (List UInt8)), (v7 sep l).length = sumN (l.map (·.length)) + (l.length - 1) * sep.length
  | [] => by simp [v7, sumN]
  | [x] => by simp [v7, sumN]
  | x :: y :: l => by
    rw [mQ, List.length_append, List.length_append, joinB_len sep (y :: l)]
    show x.length + sep.length + (sumN ((y :: l).map (·.length)) + ((y :: l).length - 1) * sep.length) = x.length + sumN ((y :: l).map (·.length)) + ((y :: l).length + 1 - 1) * sep.length
    have e : ((y :: l).length + 1 - 1) * sep.length = ((y :: l).length - 1) * sep.length + sep.length := by
      rw [show (y :: l).length + 1 - 1 = ((y :: l).length - 1) + 1 from by simp, Nat.add_mul, Nat.one_mul]
    omega
def xH (a : List Co) : List UInt8 := v7 [44, 32] (a.map Co.print)
def kG (r : List (List Co)) : List UInt8 := v7 [32, 124, 124, 32] (r.map xH)
def fewA (a : List Co) : Bool := decide (1 ≤ a.length ∧ a.length ≤ 6) && a.all Co.may
def fewR (r : List (List Co)) : Bool := decide (1 ≤ r.length ∧ r.length ≤ 6) && r.all fewA
def rgMay (r : List (List Co)) : Bool := fewR r && decide ((kG r).length ≤ 96)
def dP (r : List (List Co)) : List UInt8 := if rgMay r then kG r else []
theorem fewA.facts {a : List Co} (h : fewA a = true) : (1 ≤ a.length ∧ a.length ≤ 6) ∧ ∀ c ∈ a, c.may = true := by
  unfold fewA at h
  rw [Bool.and_eq_true, decide_eq_true_eq] at h
  exact ⟨h.1, List.all_eq_true.1 h.2⟩
theorem fewR.facts {r : List (List Co)} (h : fewR r = true) : (1 ≤ r.length ∧ r.length ≤ 6) ∧ ∀ a ∈ r, fewA a = true := by
  unfold fewR at h
  rw [Bool.and_eq_true, decide_eq_true_eq] at h
  exact ⟨h.1, List.all_eq_true.1 h.2⟩
theorem rgMay.facts {r : List (List Co)} (h : rgMay r = true) : fewR r = true ∧ (kG r).length ≤ 96 := by
  unfold rgMay at h
  rw [Bool.and_eq_true, decide_eq_true_eq] at h
  exact h
def kU : List UInt8 → List UInt8
  | [] => []
  | c :: l => if c = 32 then kU l else c :: l
def kD (s : List UInt8) : List UInt8 := (kU (kU s).reverse).reverse
def gH : List UInt8 → List UInt8 → List (List UInt8)
  | acc, [] => [acc]
  | acc, [c] => [acc ++ [c]]
  | acc, c :: d :: r => if c = 124 ∧ d = 124 then acc :: gH [] r else gH (acc ++ [c]) (d :: r)
def w0 {α β : Type} (f : α → Option β) : List α → Option (List β)
  | [] => some []
  | x :: l => match f x, w0 f l with
    | some y, some m => some (y :: m)
    | _, _ => none
theorem allO_cons {α β : Type} {f : α → Option β} {x : α} {l : List α} {y : β} {m : List β} (h1 : f x = some y) (h2 : w0 f l = some m) : w0 f (x :: l) = some (y :: m) := by
  show (match f x, w0 f l with | some y, some m => some (y :: m) | _, _ => none) = _
  rw [h1, h2]
theorem allO_inv {α β : Type} {f : α → Option β} {x : α} {l : List α} {m : List β} (h : w0 f (x :: l) = some m) : ∃ y m', m = y :: m' ∧ f x = some y ∧ w0 f l = some m' := by
  have h : (match f x, w0 f l with | some y, some m => some (y :: m) | _, _ => none) = some m := h
  cases h1 : f x with
  | none => rw [h1] at h; cases h
  | some y =>
    cases h2 : w0 f l with
    | none => rw [h1, h2] at h; cases h
    | some m' => rw [h1, h2] at h; injection h with h; exact ⟨y, m', h.symm, rfl, rfl⟩
theorem allO_none {α β : Type} {f : α → Option β} : ∀ {l : List α} {x : α}, x ∈ l → f x = none → w0 f l = none
  | y :: l, x, hx, h => by
    show (match f y, w0 f l with | some y, some m => some (y :: m) | _, _ => none) = _
    rcases List.mem_cons.1 hx with rfl | hx
    · rw [h]
    · rw [allO_none hx h]; cases f y <;> rfl
theorem dJ {α β : Type} {f : α → Option β} : ∀ {l : List α} {m : List β}, w0 f l = some m → m.length = l.length
  | [], m, h => by injection h with h; subst h; rfl
  | x :: l, m, h => by
    obtain ⟨y, m', rfl, _, h2⟩ := allO_inv h
    rw [List.length_cons, List.length_cons, dJ h2]
theorem allO_app {α β : Type} {f : α → Option β} {b : List α} {n : List β} (hb : w0 f b = some n) : ∀ {a : List α} {m : List β}, w0 f a = some m → w0 f (a ++ b) = some (m ++ n)
  | [], m, h => by injection h with h; subst h; exact hb
  | x :: a, m, h => by
    obtain ⟨y, m', rfl, h1, h2⟩ := allO_inv h
    exact allO_cons h1 (allO_app hb h2)
theorem allO_snoc {α β : Type} {f : α → Option β} {a : List α} {m : List β} {x : α} {y : β} (h : w0 f a = some m) (h1 : f x = some y) : w0 f (a ++ [x]) = some (m ++ [y]) := allO_app (allO_cons h1 rfl) h
theorem allO_back {α β : Type} {f : α → Option β} : ∀ {l : List α} {m : List β}, w0 f l = some m → ∀ y ∈ m, ∃ x ∈ l, f x = some y
  | [], m, h, y, hy => by injection h with h; subst h; cases hy
  | z :: l, m, h, y, hy => by
    obtain ⟨w, m', rfl, h1, h2⟩ := allO_inv h
    rcases List.mem_cons.1 hy with rfl | hy
    · exact ⟨z, List.mem_cons_self .., h1⟩
    · obtain ⟨x, hx, e⟩ := allO_back h2 y hy
      exact ⟨x, List.mem_cons_of_mem _ hx, e⟩
def parseP (s : List UInt8) : Option Co := qB (kD s)
def parseA (s : List UInt8) : Option (List Co) := w0 parseP (yU 44 [] s)
def qQ (s : List UInt8) : Option (List (List Co)) := w0 parseA (gH [] s)
def kC (s : List UInt8) : Option (List (List Co)) := if 96 < s.length then none else (qQ s).filter rgMay
def jF (s : List UInt8) : Int := if 96 < s.length then 3 else match qQ s with
  | none => 6
  | some r => if fewR r then (if (kG r).length ≤ 96 then 0 else 3) else 6
def blanks (n : Nat) : List UInt8 := List.replicate n 32
theorem altsL_ne : ∀ (s acc : List UInt8), gH acc s ≠ []
  | [], acc => by simp [gH]
  | [c], acc => by simp [gH]
  | c :: d :: r, acc => by
    rw [gH]
    split
    · simp
    · exact altsL_ne (d :: r) _
theorem altsL_le : ∀ (s acc : List UInt8), ∀ x ∈ gH acc s, x.length ≤ acc.length + s.length
  | [], acc, x, hx => by
    have : x = acc := by simpa [gH] using hx
    subst this; simp
  | [c], acc, x, hx => by
    have : x = acc ++ [c] := by simpa [gH] using hx
    subst this; simp
  | c :: d :: r, acc, x, hx => by
    rw [gH] at hx
    split at hx
    · rcases List.mem_cons.1 hx with rfl | hx
      · simp only [List.length_cons]; omega
      · have := altsL_le r [] x hx
        simp only [List.length_cons, List.length_nil] at this ⊢; omega
    · have := altsL_le (d :: r) (acc ++ [c]) x hx
      simp only [List.length_append, List.length_cons, List.length_nil] at this ⊢; omega
theorem pW : ∀ (s acc : List UInt8), (gH acc s).length ≤ s.length + 1
  | [], acc => by simp [gH]
  | [c], acc => by simp [gH]
  | c :: d :: r, acc => by
    rw [gH]
    split
    · have := pW r []; simp only [List.length_cons]; omega
    · have := pW (d :: r) (acc ++ [c]); simp only [List.length_cons] at this ⊢; omega
inductive Two {α β : Type} (R : α → β → Prop) : List α → List β → Prop
  | nil : Two R [] []
  | cons {x : α} {y : β} {l : List α} {m : List β} (h : R x y) (t : Two R l m) : Two R (x :: l) (y :: m)
def SpellC (s : List UInt8) (c : Co) : Prop := ∃ n m, s = blanks n ++ c.text ++ blanks m
def SpellA (s : List UInt8) (a : List Co) : Prop := ∃ ps, s = yA 44 ps ∧ Two SpellC ps a ∧ ps ≠ []
def SpellR (s : List UInt8) (r : List (List Co)) : Prop := ∃ l, s = v7 [124, 124] l ∧ Two SpellA l r ∧ l ≠ []
theorem text_ne {c : Co} (h : c.may = true) : c.text ≠ [] := by
  intro e
  have := (dU c.text c).2 ⟨h, .inl rfl⟩
  rw [e] at this
  revert this
  have : qB [] = none := by decide
  rw [this]; simp
theorem hY {s : List UInt8} {r : List (List Co)} (h : kC s = some r) : jF s = 0 ∧ rgMay r = true ∧ qQ s = some r ∧ s.length ≤ 96 := by
  unfold kC at h
  split at h
  · cases h
  · rename_i hl
    cases hp : qQ s with
    | none => rw [hp] at h; cases h
    | some q =>
      rw [hp] at h
      unfold Option.filter at h
      simp only at h
      split at h
      · rename_i hm
        injection h with h
        subst h
        obtain ⟨k1, k2⟩ := rgMay.facts hm
        refine ⟨?_, hm, rfl, by omega⟩
        unfold jF
        rw [if_neg hl, hp]
        simp only
        rw [if_pos k1, if_pos k2]
      · cases h
theorem err_none {s : List UInt8} (h : kC s = none) : jF s = 3 ∨ jF s = 6 := by
  unfold kC at h
  unfold jF
  split at h
  · rename_i hl; rw [if_pos hl]; exact .inl rfl
  · rename_i hl
    rw [if_neg hl]
    cases hp : qQ s with
    | none => exact .inr rfl
    | some q =>
      rw [hp] at h
      simp only
      cases h1 : fewR q with
      | false => exact .inr rfl
      | true =>
        rw [if_pos rfl]
        by_cases h2 : (kG q).length ≤ 96
        · exfalso
          have : rgMay q = true := by unfold rgMay; rw [h1, decide_eq_true h2]; rfl
          simp [Option.filter, this] at h
        · rw [if_neg h2]; exact .inl rfl
end
section
theorem nodup_le {α : Type} [DecidableEq α] : ∀ (l m : List α), l.Nodup → (∀ x ∈ l, x ∈ m) → l.length ≤ m.length
  | [], m, _, _ => Nat.zero_le _
  | x :: l, m, hn, hs => by
    have hx := hs x (List.mem_cons_self ..)
    have h1 := List.length_erase_of_mem hx
    have hn2 := List.nodup_cons.1 hn
    have h2 := nodup_le l (m.erase x) hn2.2 fun y hy => (List.mem_erase_of_ne (by rintro rfl; exact hn2.1 hy)).2 (hs y (List.mem_cons_of_mem _ hy))
    have h3 : 0 < m.length := List.length_pos_of_mem hx
    rw [List.length_cons]; omega
def flatC : List Sp → List Cu
  | [] => []
  | s :: l => s.lo :: s.hi :: flatC l
theorem flatC_len : ∀ (l : List Sp), (flatC l).length = 2 * l.length
  | [] => rfl
  | s :: l => by show (flatC l).length + 1 + 1 = 2 * (l.length + 1); rw [flatC_len l]; omega
theorem mS : ∀ {l : List Sp} {x : Cu}, x ∈ flatC l → ∃ s ∈ l, x = s.lo ∨ x = s.hi
  | s :: l, x, h => by
    rcases List.mem_cons.1 h with e | h
    · exact ⟨s, List.mem_cons_self .., .inl e⟩
    · rcases List.mem_cons.1 h with e | h
      · exact ⟨s, List.mem_cons_self .., .inr e⟩
      · obtain ⟨t, ht, e⟩ := mS h
        exact ⟨t, List.mem_cons_of_mem _ ht, e⟩
theorem flatC_nodup : ∀ {l : List Sp}, zL l = true → (flatC l).Nodup
  | [], _ => List.nodup_nil
  | s :: l, h => by
    have hs := xV h
    have hm := y7 hs
    have hlt := uR hs
    have haf := g6 h
    have far : ∀ x ∈ flatC l, zM s.hi x < 0 := fun x hx => by
      obtain ⟨t, ht, e⟩ := mS hx
      have tm := x8 (kS h) t ht
      have t2 := y7 tm
      rcases e with rfl | rfl
      · exact haf t ht
      · exact xU hm.2 t2.1 t2.2 (haf t ht) (uR tm)
    have xm : ∀ x ∈ flatC l, x.may = true := fun x hx => by
      obtain ⟨t, ht, e⟩ := mS hx
      have t2 := y7 (x8 (kS h) t ht)
      rcases e with rfl | rfl
      · exact t2.1
      · exact t2.2
    refine List.nodup_cons.2 ⟨fun hx => ?_, List.nodup_cons.2 ⟨fun hx => ?_, flatC_nodup (kS h)⟩⟩
    · rcases List.mem_cons.1 hx with e | hx
      · rw [e, kY] at hlt; omega
      · have := xU hm.1 hm.2 (xm _ hx) hlt (far _ hx)
        rw [kY] at this; omega
    · have := far _ hx
      rw [kY] at this; omega
theorem row_half {l : List Sp} {C : List Cu} (h : zL l = true) (hc : ∀ s ∈ l, s.lo ∈ C ∧ s.hi ∈ C) : 2 * l.length ≤ C.length := by
  rw [← flatC_len]
  refine nodup_le _ _ (flatC_nodup h) fun x hx => ?_
  obtain ⟨s, hs, e⟩ := mS hx
  rcases e with rfl | rfl
  · exact (hc s hs).1
  · exact (hc s hs).2
theorem pR {p : Cu → Cu → Bool} {l : List Sp} (hl : ∀ s ∈ l, s.may = true) (h : zL (kV p [] (gC l)) = true) : (kV p [] (gC l)).length ≤ 1 + l.length := by
  have h1 := row_half h (pS p (· ∈ gC l) (gC l) [] (fun c hc => hc) (fun s hs => by simp at hs))
  have h2 := cuts_len hl
  omega
theorem RF.make1 {l : List Sp} {n : Nat} (hl : ∀ s ∈ l, s.may = true) (hn : l.length ≤ n) : RF (uJ l) (1 + n) := ⟨(uW hl).1, by
  have := pR (p := inL l) hl (uW hl).1
  unfold uJ; omega⟩
theorem RF.or1 {a b : List Sp} {n m : Nat} (ha : RF a n) (hb : RF b m) : RF (orL a b) (1 + (n + m)) := RF.make1 (dH ha.may hb.may) (by rw [List.length_append]; have := ha.len; have := hb.len; omega)
theorem RF.and1 {a b : List Sp} {n m : Nat} (ha : RF a n) (hb : RF b m) : RF (fB a b) (1 + (n + m)) := ⟨(and_ok ha.may hb.may).1, by
  have h1 := pR (p := fun c d => inL a c d && inL b c d) (dH ha.may hb.may) (and_ok ha.may hb.may).1
  have := ha.len; have := hb.len
  rw [List.length_append] at h1
  unfold fB; omega⟩
theorem RF.not1 {a : List Sp} {n : Nat} (ha : RF a n) : RF (qY a) (1 + n) := ⟨(bG ha.may).1, by
  have h1 := pR (p := fun c d => !inL a c d) (x8 ha.may) (bG ha.may).1
  have := ha.len
  unfold qY; omega⟩
theorem RF.rel1 {a : List Sp} {n : Nat} (ha : RF a n) : RF (gO a) (1 + n) := RF.make1 (f7 a) (by
  have := List.length_filter_le (fun s : Sp => s.may) (a.map jV)
  rw [List.length_map] at this
  have := ha.len; omega)
theorem SF.or1 {a b : St} {n m : Nat} (ha : SF a n) (hb : SF b m) : SF (orT a b) (1 + (n + m)) := ⟨ha.rel.or1 hb.rel, ha.pre.or1 hb.pre, ha.right.or hb.right⟩
theorem one_r1 (lo hi : Cu) : RF (kH lo hi) 1 := ⟨oneRow_may lo hi, by have := n7 [] lo hi; unfold kH; simpa using this⟩
theorem j6 (c : Co) : RF c.region 2 := by
  unfold Co.region
  split
  · split
    · exact (one_r1 _ _).not1
    · exact (one_r1 _ _).le (by decide)
  · exact nil_rf.le (by decide)
theorem mC (c : Co) : RF c.zone 1 := ⟨zone_may, by unfold Co.zone; split <;> simp⟩
def xS (a : List Co) : List Sp := a.foldl (fun l c => fB l c.region) nN
def xQ (a : List Co) : List Sp := a.foldl (fun l c => orL l c.zone) []
def xD (a : List Co) : St := ⟨gO (xS a), fB (xS a) (xQ a)⟩
def xI (r : List (List Co)) : St := r.foldl (fun s a => orT s (xD a)) gP
def xB (r : List (List Co)) : St := if rgMay r then xI r else gP
theorem mA (a : List Co) (c : Co) : xS (a ++ [c]) = fB (xS a) c.region := by unfold xS; rw [List.foldl_append]; rfl
theorem fC (a : List Co) (c : Co) : xQ (a ++ [c]) = orL (xQ a) c.zone := by unfold xQ; rw [List.foldl_append]; rfl
theorem nZ (r : List (List Co)) (a : List Co) : xI (r ++ [a]) = orT (xI r) (xD a) := by unfold xI; rw [List.foldl_append]; rfl
theorem bR {α : Type} {P : List α → Prop} (h0 : P []) (h1 : ∀ l x, P l → P (l ++ [x])) (l : List α) : P l := by
  have : ∀ n (l : List α), l.length = n → P l := by
    intro n
    induction n with
    | zero => intro l hl; rw [List.length_eq_zero_iff.1 hl]; exact h0
    | succ n ih =>
      intro l hl
      have hne : l ≠ [] := by rintro rfl; simp at hl
      rw [← List.dropLast_concat_getLast hne]
      exact h1 _ _ (ih _ (by rw [List.length_dropLast, hl]; rfl))
  exact this _ l rfl
theorem jE (a : List Co) : RF (xS a) (1 + 3 * a.length) :=
  bR (P := fun a => RF (xS a) (1 + 3 * a.length)) whole_rf (fun l x h => by
    rw [mA, List.length_append]
    exact (h.and1 (j6 x)).le (by simp; omega)) a
theorem wQ (a : List Co) : RF (xQ a) (2 * a.length) :=
  bR (P := fun a => RF (xQ a) (2 * a.length)) nil_rf (fun l x h => by
    rw [fC, List.length_append]
    exact (h.or1 (mC x)).le (by simp; omega)) a
theorem mZ (a : List Co) : SF (xD a) (2 + 5 * a.length) := ⟨(jE a).rel1.le (by omega), ((jE a).and1 (wQ a)).le (by omega), makeRel_right (x8 (jE a).may)⟩
theorem orAll_sf {n : Nat} (r : List (List Co)) : (∀ a ∈ r, a.length ≤ n) → SF (xI r) (r.length * (3 + 5 * n)) :=
  bR (P := fun r => (∀ a ∈ r, a.length ≤ n) → SF (xI r) (r.length * (3 + 5 * n))) (fun _ => by rw [List.length_nil, Nat.zero_mul]; exact none_sf) (fun l x h ha => by
    rw [nZ, List.length_append]
    have h1 := h fun a hm => ha a (List.mem_append.2 (.inl hm))
    have h2 := (mZ x).le (m := 2 + 5 * n) (by have := ha x (by simp); omega)
    refine (h1.or1 h2).le ?_
    show _ ≤ (l.length + 1) * (3 + 5 * n)
    rw [Nat.add_mul, Nat.one_mul]; omega) r
theorem orAll_few {r : List (List Co)} (h : fewR r = true) : SF (xI r) 198 := by
  obtain ⟨h1, h2⟩ := fewR.facts h
  refine (orAll_sf (n := 6) r fun a ha => ((fewA.facts (h2 a ha)).1).2).le ?_
  show r.length * 33 ≤ 198
  omega
theorem fQ (r : List (List Co)) : SF (xB r) 198 := by
  unfold xB
  split
  · rename_i h; exact orAll_few (rgMay.facts h).1
  · exact none_sf.le (by decide)
theorem altRel_den (a : List Co) {x : Cu} (hx : x.may = true) (he : zM x (zZ 1) < 0) : den (xS a) x = a.all fun c => den c.region x :=
  bR (P := fun a => den (xS a) x = a.all fun c => den c.region x) (whole_den hx he) (fun l c h => by
    rw [mA, (and_ok (jE l).may (j6 c).may).2 x hx he, h]; simp) a
theorem altZone_den (a : List Co) {x : Cu} (hx : x.may = true) (he : zM x (zZ 1) < 0) : den (xQ a) x = a.any fun c => den c.zone x :=
  bR (P := fun a => den (xQ a) x = a.any fun c => den c.zone x) rfl (fun l c h => by
    rw [fC, (or_ok (wQ l).may (mC c).may).2 x hx he, h]; simp) a
theorem altRel_has (a : List Co) {v : Ver} (hv : v.may = true) : xC (xS a) v = a.all fun c => xC c.region v := by
  rw [vW (jE a).may hv, altRel_den a (qP hv) (jY hv)]
  congr 1; funext c; rw [vW (j6 c).may hv]
theorem altZone_has (a : List Co) {v : Ver} (hv : v.may = true) : xC (xQ a) v = a.any fun c => xC c.zone v := by
  rw [vW (wQ a).may hv, altZone_den a (qP hv) (jY hv)]
  congr 1; funext c; rw [vW (mC c).may hv]
theorem altSet_has (a : List Co) {v : Ver} (hv : v.may = true) : q7 (xD a) v = ((a.all fun c => xC c.region v) && (decide (v.pre = []) || a.any fun c => xC c.zone v)) := by
  rw [has_may (mZ a) hv, ← altRel_has a hv, ← altZone_has a hv]
  by_cases hp : v.pre = []
  · rw [if_pos hp, decide_eq_true hp, Bool.true_or, Bool.and_true]
    exact makeRel_has (jE a).may hv hp
  · rw [if_neg hp, decide_eq_false hp, Bool.false_or]
    exact has_and4 (jE a).may (wQ a).may hv
theorem orAll_may (r : List (List Co)) : ∃ n, SF (xI r) n := by
  have : ∃ n, ∀ a ∈ r, a.length ≤ n := by
    induction r with
    | nil => exact ⟨0, fun a h => by simp at h⟩
    | cons a r ih =>
      obtain ⟨n, h⟩ := ih
      refine ⟨a.length + n, fun b hb => ?_⟩
      rcases List.mem_cons.1 hb with rfl | hb
      · omega
      · have := h b hb; omega
  obtain ⟨n, h⟩ := this
  exact ⟨_, orAll_sf r h⟩
theorem orAll_has (r : List (List Co)) {v : Ver} (hv : v.may = true) : q7 (xI r) v = r.any fun a => q7 (xD a) v :=
  bR (P := fun r => q7 (xI r) v = r.any fun a => q7 (xD a) v) setHas_none (fun l a h => by
    obtain ⟨n, hl⟩ := orAll_may l
    rw [nZ, setHas_or hl (mZ a) hv, h]; simp) r
theorem rgSet_has {r : List (List Co)} (h : rgMay r = true) {v : Ver} (hv : v.may = true) : q7 (xB r) v = r.any fun a => (a.all fun c => xC c.region v) && (decide (v.pre = []) || a.any fun c => xC c.zone v) := by
  unfold xB
  rw [if_pos h, orAll_has r hv]
  congr 1; funext a; exact altSet_has a hv
end
end Go.Proofs.YtkljdpiaghepfaaGreatDoor
