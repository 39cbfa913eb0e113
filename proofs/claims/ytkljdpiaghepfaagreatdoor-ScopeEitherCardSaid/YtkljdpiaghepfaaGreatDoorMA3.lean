/-
  What the statement's proof leans on: the ways of walking, plain mathematics, and what the program's functions return; each theorem says on what conditions.
-/
import Derived.Tactics
import Derived.Lib.AppendZerosOnto
import Derived.Lib.SliceRun
import Derived.Outline
import Derived.Test.YtkljdpiaghepfaaGreatDoorMA2
set_option maxRecDepth 1000000
set_option maxHeartbeats 8000000
set_option linter.unusedVariables false
set_option linter.unusedSimpArgs false
namespace Go.Proofs.YtkljdpiaghepfaaGreatDoor
open Go.RowKit

section
deriving instance DecidableEq for Sp
theorem all2 (a b : Bool) : ([a, b].all id) = (a && b) := by simp
theorem sp_dec (u v : Sp) : decide (u = v) = (decide (u.lo = v.lo) && decide (u.hi = v.hi)) := by
  obtain ⟨a, b⟩ := u
  obtain ⟨a', b'⟩ := v
  simp only [Sp.mk.injEq, Bool.decide_and]
theorem eq_span (u v : Sp) (d : Nat) (w : World) : (Op.equalIn (d + 1 + 1 + 1 + 1) 80 (yF u) (yF v)).run Tryz.prog w = .ok (decide (u = v)) w := by
  have h := eq_agg (P := Tryz.prog) (d := d + 1 + 1 + 1) (t := 80) (xs := (yF u).cells) (ys := (yF v).cells) (bs := [decide (u.lo = v.lo), decide (u.hi = v.hi)]) Tryz.underlying80 (by kernel_rfl)
    ⟨by decide, ⟨zA u.lo, zA v.lo, fun w => ⟨by kernel_rfl, by kernel_rfl, eq_cut u.lo v.lo d w⟩⟩,
     by decide, ⟨zA u.hi, zA v.hi, fun w => ⟨by kernel_rfl, by kernel_rfl, eq_cut u.hi v.hi d w⟩⟩, trivial⟩ w
  rw [all2, ← sp_dec] at h
  exact h
theorem guard_span : Tryz.prog.eqGuardType Tryz.prog.depth 80 = false := by kernel_rfl
theorem binOp_agg_neq {P : Program} {t : TypeId} {xs ys : Array Value} {b : Bool} (w : World) (h : (Op.equalIn 10000 t (.agg xs) (.agg ys)).run P w = .ok b w) : (binOp .neq t (.agg xs) (.agg ys)).run P w = .ok (.bool (!b)) w := by
  have e : binOp .neq t (.agg xs) (.agg ys) = (do let r ← Op.equalIn 10000 t (.agg xs) (.agg ys); pure (.bool (!r))) := by first | rfl | simp [binOp]
  rw [e]
  simp only [Sem.run_bind, h, Result.andThen_ok, Sem.run_pure]
theorem run_ne_op {P : Program} {ρ : Operand → Value} {o : Oper} {t t' : TypeId} {x y : Operand} {xs ys : Array Value} {b : Bool} (ho : o.op = .binOp .neq t x y t') (hx : ρ x = .agg xs) (hy : ρ y = .agg ys) (hm : P.eqGuardType P.depth t = false)
    (h : ∀ w, (Op.equalIn 10000 t (.agg xs) (.agg ys)).run P w = .ok b w) (w : World) : (execOp ρ o).run P w = .ok (.value (.bool (!b))) w := by
  have h1 := run_eqGuard_agg (P := P) w .neq t x y xs ys hm
  have h2 := binOp_agg_neq w (h w)
  unfold execOp
  simp only [ho, hx, hy, Sem.run_bind, h1, Result.andThen_ok, h2, Sem.run_pure]
theorem op_ne_span {ρ : Operand → Value} {o : Oper} {t' : TypeId} {x y : Operand} {u v : Sp} {b : Bool} (ho : o.op = .binOp .neq 80 x y t') (hx : ρ x = yF u) (hy : ρ y = yF v) (hb : decide (u = v) = b) (w : World) : (execOp ρ o).run Tryz.prog w = .ok (.value (.bool (!b))) w :=
  run_ne_op ho hx hy guard_span (fun w => by rw [← hb]; exact eq_span u v 9996 w) w
theorem same_step {a b : List Sp} {k : Nat} (ha : k < a.length) (hb : k < b.length) (h : a.take k = b.take k) (e : a[k] = b[k]) : a.take (k + 1) = b.take (k + 1) := by
  rw [List.take_succ_eq_append_getElem ha, List.take_succ_eq_append_getElem hb, h, e]
theorem rsame_any (A B : Option Addr) (cap capb : Nat) (a b : List Sp) (W : World) (hv : Reads yT W W.heap.size A a) (hu : Reads yT W W.heap.size B b) (hn : a.length ≤ 1000000) (hm : b.length ≤ 1000000) :
    Calls Tryz.prog 46 #[.slice A a.length cap, .slice B b.length capb] W fun e w' => e = .returned (.bool (decide (a = b))) ∧ Below W.heap.size W w' := by
  refine zR (n := 26) Tryz.func46 rfl (by kernel_rfl) (by kernel_rfl) (ZO (Zv (.bool false) (ZN (z7 (ZO (Zv (.slice A a.length cap) (Zv (.int .i64 (a.length : Int)) (Zv (.slice B b.length capb) ?_))))))))
  refine Zv (.int .i64 (b.length : Int)) ?_
  by_cases h1 : (a.length : Int) = (b.length : Int)
  · refine vL (p := (a.length : Int) = (b.length : Int)) true (by kernel_rfl) (fun _ => by kernel_rfl) (decide_eq_true (h1)) ?_
    refine ZX (ZB (z7 (ZO (Zv (.int .i64 0) (ZN (zN ?_))))))
    refine x9 (fun L f m => ∃ (k : Nat) (j : Nat → Value), (k ≤ a.length ∧ a.take k = b.take k) ∧ L = [] ∧ f = g7 j [(0, .slice A a.length cap), (1, .slice B b.length capb), (5, .int .i64 (k : Int))] ∧ m = a.length - k) (a.length - 0) ⟨0, _, ⟨Nat.zero_le _, by rw [List.take_zero, List.take_zero]⟩, rfl, ZU, rfl⟩ ?_
    rintro L f m ⟨k, j, hrel, rfl, rfl, rfl⟩
    have hkl := hrel.1
    refine z7 (ZO (Zv (.int .i64 (k : Int)) (Zv (.slice A a.length cap) (Zv (.int .i64 (a.length : Int)) ?_))))
    by_cases h2 : (k : Int) < (a.length : Int)
    · have hk : k < a.length := by omega
      have hkb : k < b.length := by omega
      obtain ⟨g, off, hA, hlt, hcell⟩ := hv (by omega)
      obtain ⟨gb, ofh, hB, hlu, hcelu⟩ := hu (by omega)
      obtain ⟨s, hs⟩ : ∃ s, a[k] = s := ⟨_, rfl⟩
      obtain ⟨t, ht⟩ : ∃ t, b[k] = t := ⟨_, rfl⟩
      refine Zd (p := (k : Int) < (a.length : Int)) true (decide_eq_true (h2)) (ZY (ZB (z7 (zN (z7 (qP (by kernel_rfl) (by kernel_rfl) (Zw (.slice A a.length cap) (Zw (.int .i64 (k : Int)) ?_))))))))
      refine gD (.pointer (some ⟨g, off + k * 14, none⟩)) (by kernel_rfl) (ZA (b := g) (off := off) (c := cap) (n := a.length) (k := .i64) (j := (k : Int)) (e := 80) (sz := 14) hA) (mE (yF s) (a := ⟨g, off + k * 14, none⟩) (by kernel_rfl) rfl (by kernel_rfl) (fun w hO => yP zV (fun j u h => (hO.below.cell (p := ⟨g, off + j, none⟩) hlt).trans (hcell j u h)) k 0 hk (by omega) _ (by rw [hs]; kernel_rfl)) (Zw (.slice B b.length capb) (Zw (.int .i64 (k : Int)) (gD (.pointer (some ⟨gb, ofh + k * 14, none⟩)) (by kernel_rfl) (ZA (b := gb) (off := ofh) (c := capb) (n := b.length) (k := .i64) (j := (k : Int)) (e := 80) (sz := 14) hB) (mE (yF t) (a := ⟨gb, ofh + k * 14, none⟩) (by kernel_rfl) rfl (by kernel_rfl) (fun w hO => yP zV (fun j u h => (hO.below.cell (p := ⟨gb, ofh + j, none⟩) hlu).trans (hcelu j u h)) k 0 hkb (by omega) _ (by rw [ht]; kernel_rfl)) ?_)))))
      by_cases h3 : s = t
      · refine gD (.bool false) (by kernel_rfl) (op_ne_span rfl (by kernel_rfl) (by kernel_rfl) (decide_eq_true (h3))) ?_
        refine g0 (zC (Zf (xB (zS (zC (zB (Zv (.int .i64 (k : Int)) (Zu (k := .i64) (((k + 1 : Nat) : Int)) (IntWalk.i64_in _ (by omega)) (Zv (.int .i64 ((k + 1 : Nat) : Int)) (zT ?_))))))))))
        have hnext : a.take (k + 1) = b.take (k + 1) := same_step hk hkb hrel.2 (by rw [hs, ht]; assumption)
        exact zW (m' := a.length - (k + 1)) (by omega) ⟨k + 1, _, ⟨by omega, hnext⟩, rfl, ZU, rfl⟩
      refine gD (.bool true) (by kernel_rfl) (op_ne_span rfl (by kernel_rfl) (by kernel_rfl) (decide_eq_false (h3))) (g0 (zC (Zt (ZO (Zv (.bool false) (ZN (zD (zI (z6 ?_)))))))))
      exact yB (zI (z6 (ZF (.bool false) Tryz.results46 (fun w hO => ⟨by rw [decide_eq_false (show ¬ a = b from fun e => by subst e; first | omega | exact absurd (hs.symm.trans ht) (by assumption))], hO.below⟩))))
    refine Zd (p := (k : Int) < (a.length : Int)) false (decide_eq_false (h2)) (ZX (y7 (z8 (zQ (zJ (zC (ZO (Zv (.bool true) ?_))))))))
    exact ZN (zD (ZF (.bool true) Tryz.results46 (fun w hO => ⟨by rw [decide_eq_true (show a = b from by have h := hrel.2; rwa [List.take_of_length_le (by omega), List.take_of_length_le (by omega)] at h)], hO.below⟩)))
  refine Zn (p := (a.length : Int) = (b.length : Int)) false (decide_eq_false (h1)) (ZY (ZO (Zv (.bool false) (ZN (zD (z6 (ZF (.bool false) Tryz.results46 ?_)))))))
  exact fun w hO => ⟨by rw [decide_eq_false (show ¬ a = b from fun e => by subst e; first | omega | exact absurd (hs.symm.trans ht) (by assumption))], hO.below⟩
end
section
theorem mD {l : List Sp} {k : Nat} (hk : k < l.length) (h : zK (l.take k) = true) (hs : l[k].may = true) (hc : ∀ h0 : 0 < k, zL (l[k - 1]'(by omega)).hi l[k].lo < 0) : zK (l.take (k + 1)) = true := by
  rw [List.take_succ_eq_append_getElem hk]
  refine jT h hs fun t ht => ?_
  cases k with
  | zero => simp at ht
  | succ k =>
    have e := List.take_succ_eq_append_getElem (l := l) (i := k) (by omega)
    rw [e, List.getLast?_concat] at ht
    obtain rfl : l[k] = t := Option.some.inj ht
    exact hc (by omega)
theorem row_pair : ∀ {l : List Sp}, zK l = true → ∀ k (hk : k < l.length) (h0 : 0 < k), zL (l[k - 1]'(by omega)).hi l[k].lo < 0
  | [], _, k, hk, _ => by simp at hk
  | s :: l, h, k, hk, h0 => by
    cases k with
    | zero => omega
    | succ k =>
      cases k with
      | zero => exact kZ h _ (List.getElem_mem _)
      | succ k => exact row_pair (kL h) (k + 1) (by simpa using hk) (by omega)
theorem any_drop (l : List Sp) (v : Ver) (k : Nat) (hk : k < l.length) : (l.drop k).any (gV · v) = (gV l[k] v || (l.drop (k + 1)).any (gV · v)) := by
  rw [List.drop_eq_getElem_cons hk, List.any_cons]
theorem qQ (A : Option Addr) (cap : Nat) (l : List Sp) (W : World) (hv : Reads yT W W.heap.size A l) (hn : l.length ≤ 1000000) (hl : yU l) :
    Calls Tryz.prog 54 #[.slice A l.length cap] W fun e w' => e = .returned (.bool (zK l)) ∧ Below W.heap.size W w' := by
  refine zR (n := 35) Tryz.func54 rfl (by kernel_rfl) (by kernel_rfl) (ZO (Zv (.bool false) (ZN (z7 (ZO (Zv (.int .i64 0) (zT (zC ?_))))))))
  refine zN (x9 (fun L f m => ∃ (k : Nat) (j : Nat → Value), (k ≤ l.length ∧ zK (l.take k) = true) ∧ L = [] ∧ f = g7 j [(0, .slice A l.length cap), (3, .int .i64 (k : Int))] ∧ m = l.length - k) (l.length - 0) ⟨0, _, ⟨Nat.zero_le _, by rw [List.take_zero]; rfl⟩, rfl, ZU, rfl⟩ ?_)
  rintro L f m ⟨k, j, hrel, rfl, rfl, rfl⟩
  have hkl := hrel.1
  refine z7 (ZO (Zv (.int .i64 (k : Int)) (Zv (.slice A l.length cap) (Zv (.int .i64 (l.length : Int)) ?_))))
  by_cases h1 : (k : Int) < (l.length : Int)
  · have hk : k < l.length := by omega
    obtain ⟨b, off, hA, hlt, hcell⟩ := hv (by omega)
    obtain ⟨s, hs⟩ : ∃ s, l[k] = s := ⟨_, rfl⟩
    have hsk : s.short := hs ▸ hl l[k] (List.getElem_mem hk)
    refine Zd (p := (k : Int) < (l.length : Int)) true (decide_eq_true (h1)) (ZY (ZB (z7 (zN (z7 (qP (by kernel_rfl) (by kernel_rfl) (Zw (.slice A l.length cap) (Zw (.int .i64 (k : Int)) ?_))))))))
    refine gD (.pointer (some ⟨b, off + k * 14, none⟩)) (by kernel_rfl) (ZA (b := b) (off := off) (c := cap) (n := l.length) (k := .i64) (j := (k : Int)) (e := 80) (sz := 14) hA) (mE (yF s) (a := ⟨b, off + k * 14, none⟩) (by kernel_rfl) rfl (by kernel_rfl) (fun w hO => yP zV (fun j u h => (hO.below.cell (p := ⟨b, off + j, none⟩) hlt).trans (hcell j u h)) k 0 hk (by omega) _ (by rw [hs]; kernel_rfl)) (Zq (k := 96) (args := #[yF s]) (.bool s.may) (fun w _ => d5 s w hsk) ?_))
    cases h2 : s.may with
    | true =>
      refine Zw (.bool false) (Zw (.bool false) (Zw (.int .i64 (k : Int)) ?_))
      by_cases h3 : (0 : Int) < (k : Int)
      · have hk1 : k - 1 < l.length := by omega
        obtain ⟨r, hr⟩ : ∃ r, l[k - 1] = r := ⟨_, rfl⟩
        have hrk : r.short := hr ▸ hl l[k - 1] (List.getElem_mem hk1)
        refine Ze (p := (0 : Int) < (k : Int)) true (decide_eq_true (h3)) (Zw (.bool true) (Zw (.slice A l.length cap) (Zw (.int .i64 (k : Int)) (q_sum (k := .i64) (((k : Int) : Int) - 1) (by kernel_rfl) (fun _ => by kernel_rfl) (IntWalk.i64_in _ (by omega)) (gD (.pointer (some ⟨b, off + (k - 1) * 14, none⟩)) (by kernel_rfl) (jO (b := b) (off := off) (c := cap) (n := l.length) (k := .i64) (j := ((k : Int) : Int) - 1) (e := 80) (sz := 14) rfl (by kernel_rfl) hA (by kernel_rfl) (by kernel_rfl) (by kernel_rfl) (by omega) (by omega) (by omega)) (Zw (.pointer (some ⟨b, off + (k - 1) * 14 + 7, none⟩)) (mE (zA r.hi) (a := ⟨b, off + (k - 1) * 14 + 7, none⟩) (by kernel_rfl) rfl (by kernel_rfl) (fun w hO => yP zV (fun j u h => (hO.below.cell (p := ⟨b, off + j, none⟩) hlt).trans (hcell j u h)) (k - 1) 7 hk1 (by omega) _ (by rw [hr]; kernel_rfl)) (Zw (.slice A l.length cap) (Zw (.int .i64 (k : Int)) (gD (.pointer (some ⟨b, off + k * 14, none⟩)) (by kernel_rfl) (ZA (b := b) (off := off) (c := cap) (n := l.length) (k := .i64) (j := (k : Int)) (e := 80) (sz := 14) hA) (Zw (.pointer (some ⟨b, off + k * 14 + 0, none⟩)) ?_)))))))))))
        refine mE (zA s.lo) (a := ⟨b, off + k * 14 + 0, none⟩) (by kernel_rfl) rfl (by kernel_rfl) (fun w hO => yP zV (fun j u h => (hO.below.cell (p := ⟨b, off + j, none⟩) hlt).trans (hcell j u h)) k 0 hk (by omega) _ (by rw [hs]; kernel_rfl)) (Zq (k := 94) (args := #[zA r.hi, zA s.lo]) (.int .i64 (zL r.hi s.lo)) (fun w _ => jG r.hi s.lo w hrk.2 hsk.1) ?_)
        by_cases h4 : (0 : Int) ≤ zL r.hi s.lo
        · refine mF (p := (0 : Int) ≤ zL r.hi s.lo) true (by kernel_rfl) (fun _ => by kernel_rfl) (decide_eq_true (h4)) ?_
          refine Zw (.bool true) (Zw (.bool true) (g0 (zC (Zt (ZO (Zv (.bool false) (ZN (zD (zI ?_)))))))))
          exact z6 (yB (zI (z6 (ZF (.bool false) Tryz.results54 (fun w hO => ⟨by rw [show zK l = false from by cases hm : zK l with | false => rfl | true => first | (have h := x4 hm l[k] (List.getElem_mem hk); rw [hs] at h; simp_all; done) | (have h := row_pair hm k hk (by omega); rw [hs, hr] at h; omega)], hO.below⟩)))))
        refine Ze (p := (0 : Int) ≤ zL r.hi s.lo) false (decide_eq_false (h4)) (Zw (.bool false) (Zw (.bool false) (g0 (zC (Zf (xB (zS (zC (zB (Zv (.int .i64 (k : Int)) (Zu (k := .i64) (((k + 1 : Nat) : Int)) (IntWalk.i64_in _ (by omega)) ?_)))))))))))
        refine Zv (.int .i64 ((k + 1 : Nat) : Int)) (zT ?_)
        have hnext : zK (l.take (k + 1)) = true := mD hk hrel.2 (by rw [hs]; assumption) (fun _ => by rw [hr, hs]; omega)
        exact zW (m' := l.length - (k + 1)) (by omega) ⟨k + 1, _, ⟨by omega, hnext⟩, rfl, ZU, rfl⟩
      refine Ze (p := (0 : Int) < (k : Int)) false (decide_eq_false (h3)) (Zw (.bool false) (Zj (Zj (Zj (Zj (Zj (Zj (Zj (Zj (Zj (Zj ?_)))))))))))
      refine Zj (Zj (Zj (Zw (.bool false) (Zw (.bool false) (g0 (zC (Zf (xB (zS (zC (zB ?_)))))))))))
      refine Zv (.int .i64 (k : Int)) (Zu (k := .i64) (((k + 1 : Nat) : Int)) (IntWalk.i64_in _ (by omega)) (Zv (.int .i64 ((k + 1 : Nat) : Int)) (zT ?_)))
      have hnext : zK (l.take (k + 1)) = true := mD hk hrel.2 (by rw [hs]; assumption) (fun h0 => absurd h0 (by omega))
      exact zW (m' := l.length - (k + 1)) (by omega) ⟨k + 1, _, ⟨by omega, hnext⟩, rfl, ZU, rfl⟩
    | false =>
      refine Zw (.bool true) (Zw (.bool true) (Zj (Zj (Zj (Zj (Zj (Zj (Zj (Zj (Zj (Zj ?_)))))))))))
      refine Zj (Zj (Zj (Zj (Zj (Zj (Zj (Zw (.bool true) (g0 (zC (Zt (z7 ?_)))))))))))
      exact zB (Zv (.bool false) (ZN (zD (zI (z6 (yB (zI (z6 (ZF (.bool false) Tryz.results54 (fun w hO => ⟨by rw [show zK l = false from by cases hm : zK l with | false => rfl | true => first | (have h := x4 hm l[k] (List.getElem_mem hk); rw [hs] at h; simp_all; done) | (have h := row_pair hm k hk (by omega); rw [hs, hr] at h; omega)], hO.below⟩))))))))))
  refine Zd (p := (k : Int) < (l.length : Int)) false (decide_eq_false (h1)) (ZX (y7 (z8 (zQ (zJ (zC (ZO (Zv (.bool true) ?_))))))))
  exact ZN (zD (ZF (.bool true) Tryz.results54 (fun w hO => ⟨by rw [show zK l = true from by have h := hrel.2; rwa [List.take_of_length_le (by omega)] at h], hO.below⟩)))
theorem rrowHas_any (A : Option Addr) (cap : Nat) (l : List Sp) (v : Ver) (W : World) (hv : Reads yT W W.heap.size A l) (hn : l.length ≤ 1000000) (hl : yU l) (hv2 : v.short) :
    Calls Tryz.prog 52 #[.slice A l.length cap, yE v] W fun e w' => e = .returned (.bool (xH l v)) ∧ Below W.heap.size W w' := by
  refine zR (n := 22) Tryz.func52 rfl (by kernel_rfl) (by kernel_rfl) (ZO (Zb (yE v) (fun b1 => Zv (.bool false) (ZN (z7 (ZO (Zv (.int .i64 0) (zT ?_))))))))
  refine zC (zN (x9 (fun L f m => ∃ (k : Nat) (j : Nat → Value), (k ≤ l.length ∧ xH l v = (zK l && (l.drop k).any (gV · v))) ∧ L = [⟨b1, (yE v).cells, 44⟩] ∧ f = g7 j [(0, .slice A l.length cap), (3, .pointer (some ⟨b1, 0, none⟩)), (5, .int .i64 (k : Int))] ∧ m = l.length - k) (l.length - 0) ⟨0, _, ⟨Nat.zero_le _, by rw [List.drop_zero]; rfl⟩, rfl, ZU, rfl⟩ ?_))
  rintro L f m ⟨k, j, hrel, rfl, rfl, rfl⟩
  have hkl := hrel.1
  refine z7 (ZO (Zv (.int .i64 (k : Int)) (Zv (.slice A l.length cap) (Zv (.int .i64 (l.length : Int)) ?_))))
  by_cases h1 : (k : Int) < (l.length : Int)
  · have hk : k < l.length := by omega
    obtain ⟨b, off, hA, hlt, hcell⟩ := hv (by omega)
    obtain ⟨s, hs⟩ : ∃ s, l[k] = s := ⟨_, rfl⟩
    have hsk : s.short := hs ▸ hl l[k] (List.getElem_mem hk)
    refine Zd (p := (k : Int) < (l.length : Int)) true (decide_eq_true (h1)) (Zv (.bool true) (Zv (.slice A l.length cap) (Zc (k := 54) (args := #[.slice A l.length cap]) (.bool (zK l)) (fun w hO => qQ A cap l w (hv.on hO.below hO.below.size) hn hl) (Zv (.bool (zK l)) (zT (zC ?_))))))
    cases h2 : zK l with
    | true =>
      refine Zt (ZB (z7 (zN (z7 (qP (by kernel_rfl) (by kernel_rfl) (Zw (.slice A l.length cap) (Zw (.int .i64 (k : Int)) (gD (.pointer (some ⟨b, off + k * 14, none⟩)) (by kernel_rfl) (ZA (b := b) (off := off) (c := cap) (n := l.length) (k := .i64) (j := (k : Int)) (e := 80) (sz := 14) hA) (mE (yF s) (a := ⟨b, off + k * 14, none⟩) (by kernel_rfl) rfl (by kernel_rfl) (fun w hO => yP zV (fun j u h => (hO.below.cell (p := ⟨b, off + j, none⟩) hlt).trans (hcell j u h)) k 0 hk (by omega) _ (by rw [hs]; kernel_rfl)) (Zm 0 ⟨b1, (yE v).cells, 44⟩ (off := 0) (yE v) ?_))))))))))
      refine Zq (k := 92) (args := #[yF s, yE v]) (.bool (gV s v)) (fun w _ => rholdsC_any s v w hsk hv2) (g0 (zC ?_))
      cases h3 : gV s v with
      | true =>
        refine Zt (ZO (Zv (.bool true) (ZN (zD (zI (z6 (yB (zI (z6 ?_)))))))))
        exact ZF (.bool true) Tryz.results52 (fun w hO => ⟨by rw [show xH l v = true from by rw [hrel.2, any_drop l v k hk, hs]; simp [h1, h2, h3]], hO.below⟩)
      | false =>
        refine Zf (xB (zS (zC (zB (Zv (.int .i64 (k : Int)) (Zu (k := .i64) (((k + 1 : Nat) : Int)) (IntWalk.i64_in _ (by omega)) (Zv (.int .i64 ((k + 1 : Nat) : Int)) (zT ?_))))))))
        have hnext : xH l v = (zK l && (l.drop (k + 1)).any (gV · v)) := by rw [hrel.2, any_drop l v k hk, hs]; simp [h1, h2, h3]
        exact zW (m' := l.length - (k + 1)) (by omega) ⟨k + 1, _, ⟨by omega, by simpa [h1, h2, h3] using hnext⟩, rfl, ZU, rfl⟩
    | false =>
      refine Zf (y7 (z8 (zQ (zJ (zC (ZO (Zv (.bool false) (ZN (zD ?_)))))))))
      exact ZF (.bool false) Tryz.results52 (fun w hO => ⟨by rw [show xH l v = false from by rw [hrel.2]; first | (rw [List.drop_of_length_le (by omega)]; simp; done) | simp [h1, h2]], hO.below⟩)
  refine Zd (p := (k : Int) < (l.length : Int)) false (decide_eq_false (h1)) (Zv (.bool false) (Zk (Zk (Zv (.bool false) (ZX (y7 (z8 (zQ (zJ ?_)))))))))
  exact zC (ZO (Zv (.bool false) (ZN (zD (ZF (.bool false) Tryz.results52 (fun w hO => ⟨by rw [show xH l v = false from by rw [hrel.2]; first | (rw [List.drop_of_length_le (by omega)]; simp; done) | simp [h1]], hO.below⟩))))))
end
section
def SlS (v : Value) (l : List Sp) (ob : List Blk) : Prop := Sl 80 14 v l.length (l.flatMap yT) ob
theorem spanInfo : (Tryz.prog.info? 80).map (fun i => (i.zero.map (·.cells.size), i.size, i.bytes)) = some (some 14, 14, 144) := by kernel_rfl
theorem gI : ∃ i z, Tryz.prog.info? 80 = some i ∧ i.zero = some z ∧ i.size = 14 ∧ z.cells.size = 14 ∧ i.bytes = 144 := by
  have h := spanInfo
  cases hi : Tryz.prog.info? 80 with
  | none => rw [hi] at h; cases h
  | some i =>
    rw [hi] at h
    simp only [Option.map_some, Option.some.injEq, Prod.mk.injEq] at h
    cases hz : i.zero with
    | none => rw [hz] at h; simp at h
    | some z => rw [hz] at h; simp at h; exact ⟨i, z, rfl, hz, h.2.1, h.1, h.2.2⟩
theorem kD (s : Sp) : ∀ u ∈ yT s, u.oneCell' = true := by
  intro u hu
  unfold yT yF at hu
  simp only [Value.cells, List.mem_cons, List.not_mem_nil, or_false] at hu
  rcases hu with rfl | rfl | rfl | rfl | rfl | rfl | rfl | rfl | rfl | rfl | rfl | rfl | rfl | rfl <;> rfl
theorem grow_app {l : List Sp} {c d : Cu} (h : ∀ s ∈ l.getLast?, ¬ zL s.hi c = 0) : qE l c d = l ++ [⟨c, d⟩] := by
  unfold qE
  cases hg : l.getLast? with
  | none => have : l = [] := by simpa using hg
            subst this; rfl
  | some s => dsimp only; rw [if_neg (h s hg)]
theorem grow_set {l : List Sp} {c d : Cu} {s : Sp} (h0 : 0 < l.length) (hs : l[l.length - 1]'(by omega) = s) (h : zL s.hi c = 0) : qE l c d = l.set (l.length - 1) ⟨s.lo, d⟩ := by
  have hg : l.getLast? = some s := by rw [List.getLast?_eq_getElem?, List.getElem?_eq_getElem (by omega), hs]
  unfold qE
  rw [hg]
  dsimp only
  rw [if_pos h, List.dropLast_eq_take, List.set_eq_take_append_cons_drop, if_pos (by omega), List.drop_of_length_le (by omega)]
theorem last_at {l : List Sp} (h0 : 0 < l.length) {s t : Sp} (hs : l[l.length - 1]'(by omega) = s) (ht : t ∈ l.getLast?) : t = s := by
  rw [List.getLast?_eq_getElem?, List.getElem?_eq_getElem (by omega), hs] at ht
  exact (Option.some.inj ht).symm
theorem grow_any (A : Option Addr) (cap : Nat) (l : List Sp) (ob : List Blk) (c d : Cu) (W : World) (hv : SlS (.slice A l.length cap) l ob) (hO : Own (ob.map Blk.b) W W ob) (hn : l.length ≤ 1000000) (hl : yU l) (hc : c.short) (hd : d.short) :
    Calls Tryz.prog 102 #[.slice A l.length cap, zA c, zA d] W fun e w' => ∃ v' ob', e = .returned v' ∧ SlS v' (qE l c d) ob' ∧ Own (ob.map Blk.b) W w' ob' := by
  unfold SlS at hv ⊢
  refine hD (n := 35) hO Tryz.func102 rfl (by kernel_rfl) (by kernel_rfl) (ZO (Zb (zA c) (fun b1 => Zb (zA d) (fun b2 => Zv (.slice none 0 0) (ZN (z7 (ZO (Zv (.slice A l.length cap) ?_))))))))
  refine Zv (.int .i64 (l.length : Int)) (Zu (k := .i64) (((l.length : Int) : Int) - 1) (IntWalk.i64_in _ (by omega)) (Zv (.int .i64 (((l.length : Int) : Int) - 1)) (ZN (z7 (qP (by kernel_rfl) (by kernel_rfl) (Zw (.int .i64 (((l.length : Int) : Int) - 1)) ?_))))))
  by_cases h1 : (0 : Int) ≤ ((l.length : Int) : Int) - 1
  · obtain ⟨g, cur, rfl, rfl, hcap, hmax, hsz, hcur⟩ := hv.block (by omega)
    obtain ⟨s, hs⟩ : ∃ s, l[l.length - 1]'(by omega) = s := ⟨_, rfl⟩
    have hsk : s.short := hs ▸ hl _ (List.getElem_mem _)
    refine Ze (p := (0 : Int) ≤ ((l.length : Int) : Int) - 1) true (decide_eq_true (h1)) (Zw (.bool true) (Zw (.slice (some ⟨g, 0, none⟩) l.length cap) (Zw (.int .i64 (((l.length : Int) : Int) - 1)) (gD (.pointer (some ⟨g, (l.length - 1) * 14, none⟩)) (by kernel_rfl) (ZV (b := g) (off := 0) (n := l.length) (c := cap) (k := .i64) (j := (l.length : Int) - 1) (e := 80) (sz := 14)) (Zw (.pointer (some ⟨g, (l.length - 1) * 14 + 7, none⟩)) (u0 2 ⟨g, cur, 80⟩ (off := (l.length - 1) * 14 + 7) (zA s.hi) (by kernel_rfl) rfl (by kernel_rfl) (by kernel_rfl) (x8 zV hcur (l.length - 1) 7 (by omega) (by omega) _ (by rw [hs]; kernel_rfl)) (Zm 1 ⟨b1, (zA c).cells, 78⟩ (off := 0) (zA c) (Zq (k := 94) (args := #[zA s.hi, zA c]) (.int .i64 (zL s.hi c)) (fun w _ => jG s.hi c w hsk.2 hc) ?_))))))))
    by_cases h2 : (zL s.hi c : Int) = 0
    · refine mF (p := (zL s.hi c : Int) = 0) true (by kernel_rfl) (fun _ => by kernel_rfl) (decide_eq_true (h2)) ?_
      refine Zw (.bool true) (g0 (zC (Zt (ZO (Zv (.slice (some ⟨g, 0, none⟩) l.length cap) (Zv (.int .i64 (((l.length : Int) : Int) - 1)) (Zl 0 ⟨b2, (zA d).cells, 78⟩ (off := 0) (zA d) (y5 (.pointer (some ⟨g, (l.length - 1) * 14, none⟩)) (by kernel_rfl) (ZV (b := g) (off := 0) (n := l.length) (c := cap) (k := .i64) (j := (l.length : Int) - 1) (e := 80) (sz := 14)) (Zv (.pointer (some ⟨g, (l.length - 1) * 14 + 7, none⟩)) (nW 2 ⟨g, cur, 80⟩ (off := (l.length - 1) * 14 + 7) (zA d) 7 (by kernel_rfl) rfl rfl (by kernel_rfl) (by kernel_rfl) (by kernel_rfl) (by kernel_rfl) (by kernel_rfl) (by show (l.length - 1) * 14 + 7 + 7 ≤ cur.size; omega) (by kernel_rfl) ?_))))))))))
      refine ZR (Zv (.slice (some ⟨g, 0, none⟩) l.length cap) (Zv (.slice (some ⟨g, 0, none⟩) l.length cap) (ZN (zD (z6 (ZF (.slice (some ⟨g, 0, none⟩) l.length cap) Tryz.results102 ?_))))))
      have hse := bZ zV hcur (l.length - 1) 7 (by omega) (zA d).cells ⟨s.lo, d⟩ (show 7 + 7 ≤ 14 by decide) (by rw [hs]; rfl)
      refine fun w hO => ⟨_, [⟨g, xW cur ((l.length - 1) * 14 + 7) (zA d).cells, 80⟩], rfl, ?_, Own.take hO (fun x hx => by simp only [List.mem_singleton] at hx; subst hx; simp) (by simp)⟩
      rw [grow_set (by omega) hs (by assumption), List.length_set]
      exact ⟨by rw [kE zV, List.length_set], .inr ⟨g, cap, _, rfl, rfl, hcap, hmax, by rw [hse.2]; exact hsz, hse.1⟩⟩
    refine Ze (p := (zL s.hi c : Int) = 0) false (decide_eq_false (h2)) (Zw (.bool false) (g0 (zC (Zf (ZB (ZO (Zv (.slice (some ⟨g, 0, none⟩) l.length cap) (Zl 1 ⟨b1, (zA c).cells, 78⟩ (off := 0) (zA c) (Zl 0 ⟨b2, (zA d).cells, 78⟩ (off := 0) (zA d) ?_)))))))))
    refine Zv (.agg #[.int .i64 c.e, .int .i64 c.v.maj, .int .i64 c.v.min, .int .i64 c.v.pat, .string (mkS c.v.pre), .string (mkS c.v.build), .bool c.aft, .int .i64 d.e, .int .i64 d.v.maj, .int .i64 d.v.min, .int .i64 d.v.pat, .string (mkS d.v.pre), .string (mkS d.v.build), .bool d.aft]) (jE 80 #[.int .i64 c.e, .int .i64 c.v.maj, .int .i64 c.v.min, .int .i64 c.v.pat, .string (mkS c.v.pre), .string (mkS c.v.build), .bool c.aft, .int .i64 d.e, .int .i64 d.v.maj, .int .i64 d.v.min, .int .i64 d.v.pat, .string (mkS d.v.pre), .string (mkS d.v.build), .bool d.aft] (by kernel_rfl) rfl (fun _ => by kernel_rfl) (fun b3 => kA (L' := [⟨b3, #[.int .i64 c.e, .int .i64 c.v.maj, .int .i64 c.v.min, .int .i64 c.v.pat, .string (mkS c.v.pre), .string (mkS c.v.build), .bool c.aft, .int .i64 d.e, .int .i64 d.v.maj, .int .i64 d.v.min, .int .i64 d.v.pat, .string (mkS d.v.pre), .string (mkS d.v.build), .bool d.aft], 80⟩, ⟨b2, (zA d).cells, 78⟩, ⟨b1, (zA c).cells, 78⟩] ++ [⟨g, cur, 80⟩] ++ []) (by simp) ?_))
    obtain ⟨i, z, e1, e2, e3, e4, e5⟩ := gI
    refine q7 (sz := 14) (by kernel_rfl) rfl Tryz.underlying29 e1 e2 e3 e4 (by kernel_rfl) hv (a := ⟨b3, 0, none⟩) (m := 1) (c := 1) (news := yT ⟨c, d⟩) (by kernel_rfl) rfl (fun w hO j u hj => ?_) (kD _) (by unfold maxLen; omega) (by rw [e5]; omega) (fun v' ob' hv' => ?_)
    · rw [x6, cell_of_row w b3 (0 + j) (yT ⟨c, d⟩).toArray 80 _ (hO.held ⟨b3, (yT ⟨c, d⟩).toArray, 80⟩ (List.mem_append_left _ (List.mem_append_left _ (List.mem_cons_self ..))))]; simpa using hj
    refine Zv (v') (ZN (zD (ZF (v') Tryz.results102 (fun w hO => ⟨v', ob', rfl, by rw [grow_app (fun t ht => by rw [last_at (by omega) hs ht]; assumption)]; simpa using hv', Own.take hO (fun x hx => List.mem_append_left _ (List.mem_append_right _ hx)) ?_⟩))))
    have := hO.apart; rw [List.append_nil, List.map_append, List.nodup_append] at this; exact this.2.1
  refine Ze (p := (0 : Int) ≤ ((l.length : Int) : Int) - 1) false (decide_eq_false (h1)) (Zw (.bool false) (Zj (Zj (Zj (Zj (Zj (Zj (Zj (Zj (Zw (.bool false) (g0 ?_)))))))))))
  refine zC (Zf (ZB (ZO (Zv (.slice A l.length cap) (Zl 1 ⟨b1, (zA c).cells, 78⟩ (off := 0) (zA c) (Zl 0 ⟨b2, (zA d).cells, 78⟩ (off := 0) (zA d) (Zv (.agg #[.int .i64 c.e, .int .i64 c.v.maj, .int .i64 c.v.min, .int .i64 c.v.pat, .string (mkS c.v.pre), .string (mkS c.v.build), .bool c.aft, .int .i64 d.e, .int .i64 d.v.maj, .int .i64 d.v.min, .int .i64 d.v.pat, .string (mkS d.v.pre), .string (mkS d.v.build), .bool d.aft]) (jE 80 #[.int .i64 c.e, .int .i64 c.v.maj, .int .i64 c.v.min, .int .i64 c.v.pat, .string (mkS c.v.pre), .string (mkS c.v.build), .bool c.aft, .int .i64 d.e, .int .i64 d.v.maj, .int .i64 d.v.min, .int .i64 d.v.pat, .string (mkS d.v.pre), .string (mkS d.v.build), .bool d.aft] (by kernel_rfl) rfl (fun _ => by kernel_rfl) (fun b3 => kA (L' := [⟨b3, #[.int .i64 c.e, .int .i64 c.v.maj, .int .i64 c.v.min, .int .i64 c.v.pat, .string (mkS c.v.pre), .string (mkS c.v.build), .bool c.aft, .int .i64 d.e, .int .i64 d.v.maj, .int .i64 d.v.min, .int .i64 d.v.pat, .string (mkS d.v.pre), .string (mkS d.v.build), .bool d.aft], 80⟩, ⟨b2, (zA d).cells, 78⟩, ⟨b1, (zA c).cells, 78⟩] ++ ob ++ []) (by simp) ?_)))))))))
  obtain ⟨i, z, e1, e2, e3, e4, e5⟩ := gI
  refine q7 (sz := 14) (by kernel_rfl) rfl Tryz.underlying29 e1 e2 e3 e4 (by kernel_rfl) hv (a := ⟨b3, 0, none⟩) (m := 1) (c := 1) (news := yT ⟨c, d⟩) (by kernel_rfl) rfl (fun w hO j u hj => ?_) (kD _) (by unfold maxLen; omega) (by rw [e5]; omega) (fun v' ob' hv' => ?_)
  · rw [x6, cell_of_row w b3 (0 + j) (yT ⟨c, d⟩).toArray 80 _ (hO.held ⟨b3, (yT ⟨c, d⟩).toArray, 80⟩ (List.mem_append_left _ (List.mem_append_left _ (List.mem_cons_self ..))))]; simpa using hj
  refine Zv (v') (ZN (zD (ZF (v') Tryz.results102 (fun w hO => ⟨v', ob', rfl, by rw [grow_app (fun t ht => by have : l = [] := List.eq_nil_of_length_eq_zero (by omega); subst this; simp at ht)]; simpa using hv', Own.take hO (fun x hx => List.mem_append_left _ (List.mem_append_right _ hx)) ?_⟩))))
  have := hO.apart; rw [List.append_nil, List.map_append, List.nodup_append] at this; exact this.2.1
end
section
theorem putL_at {c : Cu} : ∀ {l : List Cu} (k : Nat) (hk : k < l.length), (∀ x ∈ l.take k, zL x c < 0) → zL l[k] c = 0 → kT c l = l
  | [], k, hk, _, _ => by simp at hk
  | d :: r, 0, hk, _, h => by
    have h' : zL d c = 0 := h
    unfold kT
    rw [if_neg (by omega), if_pos h']
  | d :: r, k + 1, hk, ht, h => by
    have hd : zL d c < 0 := ht d (by simp)
    unfold kT
    rw [if_pos hd, putL_at (l := r) k (by simpa using hk) (fun x hx => ht x (by simp [hx])) h]
theorem dT {c : Cu} : ∀ {l : List Cu} (k : Nat) (hk : k ≤ l.length), (∀ x ∈ l.take k, zL x c < 0) → (∀ h : k < l.length, ¬ zL l[k] c < 0 ∧ ¬ zL l[k] c = 0) → kT c l = l.take k ++ c :: l.drop k
  | [], k, hk, _, _ => by
    obtain rfl : k = 0 := by simpa using hk
    rfl
  | d :: r, 0, hk, _, h => by
    have h' : ¬ zL d c < 0 ∧ ¬ zL d c = 0 := h (by simp)
    unfold kT
    rw [if_neg h'.1, if_neg h'.2]; rfl
  | d :: r, k + 1, hk, ht, h => by
    have hd : zL d c < 0 := ht d (by simp)
    unfold kT
    rw [if_pos hd, dT (l := r) k (by simpa using hk) (fun x hx => ht x (by simp [hx])) (fun h0 => h (by simpa using h0))]; rfl
def u6 (s : Cu) : List Value := (zA s).cells.toList
theorem xA (s : Cu) : (u6 s).length = 7 := rfl
def ShortC (l : List Cu) : Prop := ∀ s ∈ l, s.short
def SlC (v : Value) (l : List Cu) (ob : List Blk) : Prop := Sl 78 7 v l.length (l.flatMap u6) ob
theorem cutInfo : (Tryz.prog.info? 78).map (fun i => (i.zero.map (·.cells.size), i.size, i.bytes)) = some (some 7, 7, 72) := by kernel_rfl
theorem cut_info : ∃ i z, Tryz.prog.info? 78 = some i ∧ i.zero = some z ∧ i.size = 7 ∧ z.cells.size = 7 ∧ i.bytes = 72 := by
  have h := cutInfo
  cases hi : Tryz.prog.info? 78 with
  | none => rw [hi] at h; cases h
  | some i =>
    rw [hi] at h
    simp only [Option.map_some, Option.some.injEq, Prod.mk.injEq] at h
    cases hz : i.zero with
    | none => rw [hz] at h; simp at h
    | some z => rw [hz] at h; simp at h; exact ⟨i, z, rfl, hz, h.2.1, h.1, h.2.2⟩
theorem bT (s : Cu) : ∀ u ∈ u6 s, u.oneCell' = true := by
  intro u hu
  unfold u6 zA at hu
  simp only [Value.cells, List.mem_cons, List.not_mem_nil, or_false] at hu
  rcases hu with rfl | rfl | rfl | rfl | rfl | rfl | rfl <;> rfl
theorem qT (l : List Cu) : ∀ u ∈ l.flatMap u6, u.oneCell' = true := fun u hu => by
  obtain ⟨x, _, hx⟩ := List.mem_flatMap.1 hu
  exact bT x u hx
theorem flat_drop {α : Type} {g : α → List Value} {sz : Nat} (hg : ∀ x, (g x).length = sz) (l : List α) (k : Nat) (hk : k ≤ l.length) : (l.drop k).flatMap g = (l.flatMap g).drop (k * sz) := by
  have e : l.flatMap g = (l.take k).flatMap g ++ (l.drop k).flatMap g := by rw [← List.flatMap_append, List.take_append_drop]
  have e2 : ((l.take k).flatMap g).length = k * sz := by rw [kE hg, List.length_take, Nat.min_eq_left hk]
  rw [e, ← e2, List.drop_left]
theorem flat_take {α : Type} {g : α → List Value} {sz : Nat} (hg : ∀ x, (g x).length = sz) (l : List α) (k : Nat) (hk : k ≤ l.length) : (l.take k).flatMap g = (l.flatMap g).take (k * sz) := by
  have e : l.flatMap g = (l.take k).flatMap g ++ (l.drop k).flatMap g := by rw [← List.flatMap_append, List.take_append_drop]
  have e2 : ((l.take k).flatMap g).length = k * sz := by rw [kE hg, List.length_take, Nat.min_eq_left hk]
  rw [e, ← e2, List.take_left]
theorem dC {α : Type} {g : α → List Value} {sz : Nat} (hg : ∀ x, (g x).length = sz) {cur : Array Value} {l : List α} (ht : cur.toList.take (l.length * sz) = l.flatMap g) (k : Nat) (hk : k ≤ l.length) {j : Nat} {u : Value} (hj : ((l.take k).flatMap g)[j]? = some u) : cur[0 + j]? = some u := by
  rw [flat_take hg l k hk, ← ht, List.take_take, Nat.min_eq_left (Nat.mul_le_mul_right _ hk), List.getElem?_take] at hj
  split at hj
  · rw [Nat.zero_add]; simpa using hj
  · cases hj
theorem bY {α : Type} {g : α → List Value} {sz : Nat} (hg : ∀ x, (g x).length = sz) {cur : Array Value} {l : List α} (ht : cur.toList.take (l.length * sz) = l.flatMap g) (k cap : Nat) (hk : k ≤ l.length) (hc : l.length ≤ cap) {j : Nat} {u : Value} (hj : ((l.drop k).flatMap g)[j]? = some u) : cur[(0 + if cap = k then 0 else k * sz) + j]? = some u := by
  by_cases h : cap = k
  · have : l.drop k = [] := List.drop_of_length_le (by omega)
    rw [this] at hj; simp at hj
  · rw [if_neg h, Nat.zero_add]
    rw [flat_drop hg l k hk, ← ht, List.getElem?_drop, List.getElem?_take] at hj
    split at hj
    · simpa using hj
    · cases hj
theorem Sl.to {T : TypeId} {sz : Nat} {v : Value} {n n' : Nat} {xs xs' : List Value} {ob : List Blk} (h : Sl T sz v n xs ob) (e : n = n') (e' : xs = xs') : Sl T sz v n' xs' ob := by subst e; subst e'; exact h
theorem put_any (A : Option Addr) (cap : Nat) (l : List Cu) (ob : List Blk) (c : Cu) (W : World) (hv : SlC (.slice A l.length cap) l ob) (hO : Own (ob.map Blk.b) W W ob) (h0 : 0 < l.length) (hn : l.length ≤ 3000000) (hl : ShortC l) (hc : c.short) :
    Calls Tryz.prog 155 #[.slice A l.length cap, zA c] W fun e w' => ∃ v' ob', e = .returned v' ∧ SlC v' (kT c l) ob' ∧ Own (ob.map Blk.b) W w' ob' := by
  unfold SlC at hv ⊢
  obtain ⟨g, cur, rfl, rfl, hcap, hmax, hsz, hcur⟩ := hv.block h0
  refine hD (n := 46) hO Tryz.func155 rfl (by kernel_rfl) (by kernel_rfl) (ZO (Zb (zA c) (fun b1 => Zv (.slice none 0 0) (ZR (Zv (.int .i64 0) (zT (zC ?_)))))))
  refine z7 (zN (x9 (fun L f m => ∃ (k : Nat) (j : Nat → Value), (k ≤ l.length ∧ ∀ x ∈ l.take k, zL x c < 0) ∧ L = [⟨b1, (zA c).cells, 78⟩, ⟨g, cur, 78⟩] ∧ f = g7 j [(0, .slice (some ⟨g, 0, none⟩) l.length cap), (3, .pointer (some ⟨b1, 0, none⟩)), (5, .int .i64 (k : Int))] ∧ m = l.length - k) (l.length - 0) ⟨0, _, ⟨Nat.zero_le _, by simp⟩, rfl, ZU, rfl⟩ ?_))
  rintro L f m ⟨k, j, hrel, rfl, rfl, rfl⟩
  have hkl := hrel.1
  refine z7 (z7 (qP (by kernel_rfl) (by kernel_rfl) (Zw (.int .i64 (k : Int)) (Zw (.slice (some ⟨g, 0, none⟩) l.length cap) (Zw (.int .i64 (l.length : Int)) ?_)))))
  by_cases h1 : (k : Int) < (l.length : Int)
  · have hk : k < l.length := by omega
    obtain ⟨s, hs⟩ : ∃ s, l[k] = s := ⟨_, rfl⟩
    have hsk : s.short := hs ▸ hl _ (List.getElem_mem _)
    refine Ze (p := (k : Int) < (l.length : Int)) true (decide_eq_true (h1)) (Zw (.bool true) (Zw (.slice (some ⟨g, 0, none⟩) l.length cap) (Zw (.int .i64 (k : Int)) (gD (.pointer (some ⟨g, k * 7, none⟩)) (by kernel_rfl) (xZ (b := g) (off := 0) (n := l.length) (c := cap) (k := .i64) (j := (k : Int)) (e := 78) (sz := 7) rfl (by kernel_rfl) (by kernel_rfl) (by kernel_rfl) (by kernel_rfl) (by omega) (by omega) (by show 0 + k * 7 = k * 7; omega)) (u0 1 ⟨g, cur, 78⟩ (off := k * 7) (zA s) (by kernel_rfl) rfl (by kernel_rfl) (by kernel_rfl) (x8 xA hcur k 0 (by omega) (by omega) _ (by rw [hs]; kernel_rfl)) (Zm 0 ⟨b1, (zA c).cells, 78⟩ (off := 0) (zA c) (Zq (k := 94) (args := #[zA s, zA c]) (.int .i64 (zL s c)) (fun w _ => jG s c w hsk hc) ?_)))))))
    by_cases h2 : (zL s c : Int) < 0
    · refine mF (p := (zL s c : Int) < 0) true (by kernel_rfl) (fun _ => by kernel_rfl) (decide_eq_true (h2)) ?_
      refine Zw (.bool true) (g0 (zC (Zt (ZB (zN (zB (Zv (.int .i64 (k : Int)) (Zu (k := .i64) (((k + 1 : Nat) : Int)) (IntWalk.i64_in _ (by omega)) (Zv (.int .i64 ((k + 1 : Nat) : Int)) (zT ?_))))))))))
      refine zS ?_
      have hnext : ∀ x ∈ l.take (k + 1), zL x c < 0 := by
        rw [List.take_succ_eq_append_getElem hk, hs]; intro x hx; rcases List.mem_append.1 hx with h | h; exact hrel.2 x h; obtain rfl : x = s := by simpa using h
        assumption
      exact zW (m' := l.length - (k + 1)) (by omega) ⟨k + 1, _, ⟨by omega, hnext⟩, rfl, ZU, rfl⟩
    refine Ze (p := (zL s c : Int) < 0) false (decide_eq_false (h2)) (Zw (.bool false) (g0 (zC (Zf (y7 (z8 (zQ (zJ (zC (z7 (z7 ?_)))))))))))
    refine qP (by kernel_rfl) (by kernel_rfl) (Zw (.int .i64 (k : Int)) (Zw (.slice (some ⟨g, 0, none⟩) l.length cap) (Zw (.int .i64 (l.length : Int)) (Ze (p := (k : Int) < (l.length : Int)) true (decide_eq_true (h1)) (Zw (.bool true) (Zw (.slice (some ⟨g, 0, none⟩) l.length cap) (Zw (.int .i64 (k : Int)) (gD (.pointer (some ⟨g, k * 7, none⟩)) (by kernel_rfl) (xZ (b := g) (off := 0) (n := l.length) (c := cap) (k := .i64) (j := (k : Int)) (e := 78) (sz := 7) rfl (by kernel_rfl) (by kernel_rfl) (by kernel_rfl) (by kernel_rfl) (by omega) (by omega) (by show 0 + k * 7 = k * 7; omega)) (u0 1 ⟨g, cur, 78⟩ (off := k * 7) (zA s) (by kernel_rfl) rfl (by kernel_rfl) (by kernel_rfl) (x8 xA hcur k 0 (by omega) (by omega) _ (by rw [hs]; kernel_rfl)) (Zm 0 ⟨b1, (zA c).cells, 78⟩ (off := 0) (zA c) (Zq (k := 94) (args := #[zA s, zA c]) (.int .i64 (zL s c)) (fun w _ => jG s c w hsk hc) ?_)))))))))))
    by_cases h3 : (zL s c : Int) = 0
    · refine mF (p := (zL s c : Int) = 0) true (by kernel_rfl) (fun _ => by kernel_rfl) (decide_eq_true (h3)) ?_
      refine Zw (.bool true) (g0 (zC (Zt (ZO (Zv (.slice (some ⟨g, 0, none⟩) l.length cap) (Zv (.slice (some ⟨g, 0, none⟩) l.length cap) (ZN (zD (z6 ?_)))))))))
      refine ZF (.slice (some ⟨g, 0, none⟩) l.length cap) Tryz.results155 (fun w hO => ⟨_, [⟨g, cur, 78⟩], rfl, ?_, Own.take hO (fun x hx => by simp only [List.mem_singleton] at hx; subst hx; simp) (by simp)⟩)
      rw [putL_at k hk hrel.2 (by rw [hs]; assumption)]; exact hv
    refine Ze (p := (zL s c : Int) = 0) false (decide_eq_false (h3)) (Zw (.bool false) (g0 (zC (Zf (ZB (z7 ?_))))))
    obtain ⟨i, z, e1, e2, e3, e4, e5⟩ := cut_info
    refine kM [⟨b1, (zA c).cells, 78⟩, ⟨g, cur, 78⟩] (by kernel_rfl) (fun w hO => hO) (yG 0 _ (.slice (some ⟨g, 0, none⟩) l.length cap) rfl (by kernel_rfl) (by kernel_rfl) (by kernel_rfl) (zF zG) (fun w hO => hO) (by kernel_rfl) (fun _ _ => by kernel_rfl) (yG 1 _ (.int .i64 (k : Int)) rfl (by kernel_rfl) (by kernel_rfl) (by kernel_rfl) (zF zG) (fun w hO => hO) (by kernel_rfl) (fun _ _ => by kernel_rfl) (yG 2 _ (.slice (some ⟨g, 0, none⟩) k cap) rfl (by kernel_rfl) (by kernel_rfl) (by kernel_rfl) (zF zG) (fun w hO => hO) (by kernel_rfl) (fun w _ => nZ (b := g) (off := 0) (n := l.length) (c := cap) (k := .i64) (j := (k : Int)) (e := 78) (sz := 7) rfl (by kernel_rfl) (by kernel_rfl) (by kernel_rfl) (by kernel_rfl) (by omega) (by omega) w) (fT 4 _ 0 ⟨b1, (zA c).cells, 78⟩ (off := 0) (zA c) rfl (by kernel_rfl) (by kernel_rfl) (by kernel_rfl) (zF zG) (fun w hO => hO) (by kernel_rfl) rfl rfl (by kernel_rfl) (by kernel_rfl) (yG 7 _ (.slice (some ⟨g, 0, none⟩) l.length cap) rfl (by kernel_rfl) (by kernel_rfl) (by kernel_rfl) (zF zG) (fun w hO => hO) (by kernel_rfl) (fun _ _ => by kernel_rfl) (yG 8 _ (.int .i64 (k : Int)) rfl (by kernel_rfl) (by kernel_rfl) (by kernel_rfl) (zF zG) (fun w hO => hO) (by kernel_rfl) (fun _ _ => by kernel_rfl) (yG 9 _ (.slice (some ⟨g, 0 + (if cap = k then 0 else k * 7), none⟩) (l.length - k) (cap - k)) rfl (by kernel_rfl) (by kernel_rfl) (by kernel_rfl) (zF zG) (fun w hO => hO) (by kernel_rfl) (fun w _ => dP (b := g) (off := 0) (n := l.length) (c := cap) (k := .i64) (j := (k : Int)) (e := 78) (sz := 7) rfl (by kernel_rfl) (by kernel_rfl) (by kernel_rfl) (by kernel_rfl) (by omega) (by omega) w) (v6 (L' := [] ++ [] ++ [⟨b1, (zA c).cells, 78⟩, ⟨g, cur, 78⟩]) rfl (dJ 3 5 (by kernel_rfl) ?_ ?_)))))))))
    · refine gL (E := []) (ob := []) (R := [⟨b1, (zA c).cells, 78⟩, ⟨g, cur, 78⟩]) (sz := 7) _ rfl (by kernel_rfl) rfl Tryz.underlying118 e1 e2 e3 e4 (by kernel_rfl) (Sl.nil 78 7) (a := ⟨g, 0, none⟩) (m := k) (c := cap) (news := (l.take k).flatMap u6) (by kernel_rfl) (by rw [kE xA, List.length_take, Nat.min_eq_left (by omega)]) (fun w hO j u hj => ?_) (qT _) (by unfold maxLen; omega) (by rw [e5]; omega) (fun ob' w hO => Own.sub ([] ++ ob') hO) (fun va oa hva => ?_)
      · rw [x6, cell_of_row w g (0 + j) cur 78 _ (hO.held ⟨g, cur, 78⟩ (by simp))]; exact dC xA hcur k (by omega) hj
      refine zX 5 (by kernel_rfl) (hl_lit _ 78 #[.int .i64 c.e, .int .i64 c.v.maj, .int .i64 c.v.min, .int .i64 c.v.pat, .string (mkS c.v.pre), .string (mkS c.v.build), .bool c.aft] rfl (by kernel_rfl) rfl (fun w hO => Own.sub ([] ++ oa) hO) (fun _ => by kernel_rfl) (fun b2 => v6 (L' := [⟨b2, #[.int .i64 c.e, .int .i64 c.v.maj, .int .i64 c.v.min, .int .i64 c.v.pat, .string (mkS c.v.pre), .string (mkS c.v.build), .bool c.aft], 78⟩] ++ oa ++ [⟨b1, (zA c).cells, 78⟩, ⟨g, cur, 78⟩]) (by simp) (zX 6 (by kernel_rfl) (gL (E := [⟨b2, #[.int .i64 c.e, .int .i64 c.v.maj, .int .i64 c.v.min, .int .i64 c.v.pat, .string (mkS c.v.pre), .string (mkS c.v.build), .bool c.aft], 78⟩]) (ob := oa) (R := [⟨b1, (zA c).cells, 78⟩, ⟨g, cur, 78⟩]) (sz := 7) _ rfl (by kernel_rfl) rfl Tryz.underlying118 e1 e2 e3 e4 (by kernel_rfl) hva (a := ⟨b2, 0, none⟩) (m := 1) (c := 1) (news := u6 c) (by kernel_rfl) (rfl) (fun w hO j u hj => ?_) (bT _) (by unfold maxLen; omega) (by rw [e5]; omega) (fun ob' w hO => Own.sub ([⟨b2, #[.int .i64 c.e, .int .i64 c.v.maj, .int .i64 c.v.min, .int .i64 c.v.pat, .string (mkS c.v.pre), .string (mkS c.v.build), .bool c.aft], 78⟩] ++ ob') hO) (fun vb oq hvb => ?_)))))
      · rw [x6, cell_of_row w b2 (0 + j) (u6 c).toArray 78 _ (hO.held ⟨b2, (u6 c).toArray, 78⟩ (List.mem_append_left _ (List.mem_append_left _ (List.mem_cons_self ..))))]; simpa using hj
      refine zX 10 (by kernel_rfl) (gL (E := [⟨b2, #[.int .i64 c.e, .int .i64 c.v.maj, .int .i64 c.v.min, .int .i64 c.v.pat, .string (mkS c.v.pre), .string (mkS c.v.build), .bool c.aft], 78⟩]) (ob := oq) (R := [⟨b1, (zA c).cells, 78⟩, ⟨g, cur, 78⟩]) (sz := 7) _ rfl (by kernel_rfl) rfl Tryz.underlying118 e1 e2 e3 e4 (by kernel_rfl) hvb (a := ⟨g, 0 + (if cap = k then 0 else k * 7), none⟩) (m := l.length - k) (c := cap - k) (news := (l.drop k).flatMap u6) (by kernel_rfl) (by rw [kE xA, List.length_drop]) (fun w hO j u hj => ?_) (qT _) (by unfold maxLen; omega) (by rw [e5]; omega) (fun ob' w hO => Own.sub ([⟨b2, #[.int .i64 c.e, .int .i64 c.v.maj, .int .i64 c.v.min, .int .i64 c.v.pat, .string (mkS c.v.pre), .string (mkS c.v.build), .bool c.aft], 78⟩] ++ ob') hO) (fun vc oc hvc => ?_))
      · rw [x6, cell_of_row w g _ cur 78 _ (hO.held ⟨g, cur, 78⟩ (by simp))]; exact bY xA hcur k cap (by omega) hcap hj
      refine yG 11 _ vc rfl (by kernel_rfl) (by kernel_rfl) (by kernel_rfl) (zF zG) (fun w hO => Own.sub ([⟨b2, #[.int .i64 c.e, .int .i64 c.v.maj, .int .i64 c.v.min, .int .i64 c.v.pat, .string (mkS c.v.pre), .string (mkS c.v.build), .bool c.aft], 78⟩] ++ oc) hO) (by kernel_rfl) (fun _ _ => by kernel_rfl) (x3 (by kernel_rfl) (zC (zD (ZF (vc) Tryz.results155 (fun w hO => ⟨vc, oc, rfl, ?_, Own.take hO (fun x hx => List.mem_append_left _ (List.mem_append_right _ hx)) ?_⟩)))))
      · rw [dT k (by omega) hrel.2 (fun h => by first | omega | (rw [hs]; exact ⟨by assumption, by assumption⟩))]
        exact hvc.to (by simp; omega) (by simp)
      · have := hO.apart; rw [List.map_append, List.map_append, List.nodup_append] at this; exact (List.nodup_append.1 this.1).2.1
    refine hl_lit _ 78 #[.int .i64 c.e, .int .i64 c.v.maj, .int .i64 c.v.min, .int .i64 c.v.pat, .string (mkS c.v.pre), .string (mkS c.v.build), .bool c.aft] rfl (by kernel_rfl) rfl (fun w hO => hO) (fun _ => by kernel_rfl) (fun b2 => v6 (L' := [⟨b2, #[.int .i64 c.e, .int .i64 c.v.maj, .int .i64 c.v.min, .int .i64 c.v.pat, .string (mkS c.v.pre), .string (mkS c.v.build), .bool c.aft], 78⟩] ++ [] ++ [⟨b1, (zA c).cells, 78⟩, ⟨g, cur, 78⟩]) rfl (zX 3 (by kernel_rfl) (gL (E := [⟨b2, #[.int .i64 c.e, .int .i64 c.v.maj, .int .i64 c.v.min, .int .i64 c.v.pat, .string (mkS c.v.pre), .string (mkS c.v.build), .bool c.aft], 78⟩]) (ob := []) (R := [⟨b1, (zA c).cells, 78⟩, ⟨g, cur, 78⟩]) (sz := 7) _ rfl (by kernel_rfl) rfl Tryz.underlying118 e1 e2 e3 e4 (by kernel_rfl) (Sl.nil 78 7) (a := ⟨g, 0, none⟩) (m := k) (c := cap) (news := (l.take k).flatMap u6) (by kernel_rfl) (by rw [kE xA, List.length_take, Nat.min_eq_left (by omega)]) (fun w hO j u hj => ?_) (qT _) (by unfold maxLen; omega) (by rw [e5]; omega) (fun ob' w hO => Own.sub ([⟨b2, #[.int .i64 c.e, .int .i64 c.v.maj, .int .i64 c.v.min, .int .i64 c.v.pat, .string (mkS c.v.pre), .string (mkS c.v.build), .bool c.aft], 78⟩] ++ ob') hO) (fun va oa hva => ?_))))
    · rw [x6, cell_of_row w g (0 + j) cur 78 _ (hO.held ⟨g, cur, 78⟩ (by simp))]; exact dC xA hcur k (by omega) hj
    refine zX 6 (by kernel_rfl) (gL (E := [⟨b2, #[.int .i64 c.e, .int .i64 c.v.maj, .int .i64 c.v.min, .int .i64 c.v.pat, .string (mkS c.v.pre), .string (mkS c.v.build), .bool c.aft], 78⟩]) (ob := oa) (R := [⟨b1, (zA c).cells, 78⟩, ⟨g, cur, 78⟩]) (sz := 7) _ rfl (by kernel_rfl) rfl Tryz.underlying118 e1 e2 e3 e4 (by kernel_rfl) hva (a := ⟨b2, 0, none⟩) (m := 1) (c := 1) (news := u6 c) (by kernel_rfl) (rfl) (fun w hO j u hj => ?_) (bT _) (by unfold maxLen; omega) (by rw [e5]; omega) (fun ob' w hO => Own.sub ([⟨b2, #[.int .i64 c.e, .int .i64 c.v.maj, .int .i64 c.v.min, .int .i64 c.v.pat, .string (mkS c.v.pre), .string (mkS c.v.build), .bool c.aft], 78⟩] ++ ob') hO) (fun vb oq hvb => ?_))
    · rw [x6, cell_of_row w b2 (0 + j) (u6 c).toArray 78 _ (hO.held ⟨b2, (u6 c).toArray, 78⟩ (List.mem_append_left _ (List.mem_append_left _ (List.mem_cons_self ..))))]; simpa using hj
    refine zX 10 (by kernel_rfl) (gL (E := [⟨b2, #[.int .i64 c.e, .int .i64 c.v.maj, .int .i64 c.v.min, .int .i64 c.v.pat, .string (mkS c.v.pre), .string (mkS c.v.build), .bool c.aft], 78⟩]) (ob := oq) (R := [⟨b1, (zA c).cells, 78⟩, ⟨g, cur, 78⟩]) (sz := 7) _ rfl (by kernel_rfl) rfl Tryz.underlying118 e1 e2 e3 e4 (by kernel_rfl) hvb (a := ⟨g, 0 + (if cap = k then 0 else k * 7), none⟩) (m := l.length - k) (c := cap - k) (news := (l.drop k).flatMap u6) (by kernel_rfl) (by rw [kE xA, List.length_drop]) (fun w hO j u hj => ?_) (qT _) (by unfold maxLen; omega) (by rw [e5]; omega) (fun ob' w hO => Own.sub ([⟨b2, #[.int .i64 c.e, .int .i64 c.v.maj, .int .i64 c.v.min, .int .i64 c.v.pat, .string (mkS c.v.pre), .string (mkS c.v.build), .bool c.aft], 78⟩] ++ ob') hO) (fun vc oc hvc => ?_))
    · rw [x6, cell_of_row w g _ cur 78 _ (hO.held ⟨g, cur, 78⟩ (by simp))]; exact bY xA hcur k cap (by omega) hcap hj
    refine yG 11 _ vc rfl (by kernel_rfl) (by kernel_rfl) (by kernel_rfl) (zF zG) (fun w hO => Own.sub ([⟨b2, #[.int .i64 c.e, .int .i64 c.v.maj, .int .i64 c.v.min, .int .i64 c.v.pat, .string (mkS c.v.pre), .string (mkS c.v.build), .bool c.aft], 78⟩] ++ oc) hO) (by kernel_rfl) (fun _ _ => by kernel_rfl) (x3 (by kernel_rfl) (zC (zD (ZF (vc) Tryz.results155 (fun w hO => ⟨vc, oc, rfl, ?_, Own.take hO (fun x hx => List.mem_append_left _ (List.mem_append_right _ hx)) ?_⟩)))))
    · rw [dT k (by omega) hrel.2 (fun h => by first | omega | (rw [hs]; exact ⟨by assumption, by assumption⟩))]
      exact hvc.to (by simp; omega) (by simp)
    · have := hO.apart; rw [List.map_append, List.map_append, List.nodup_append] at this; exact (List.nodup_append.1 this.1).2.1
  refine Ze (p := (k : Int) < (l.length : Int)) false (decide_eq_false (h1)) (Zw (.bool false) (Zj (Zj (Zj (Zj (Zj (Zj (Zj (Zw (.bool false) (g0 (zC ?_)))))))))))
  refine Zf (y7 (z8 (zQ (zJ (zC (z7 (z7 (qP (by kernel_rfl) (by kernel_rfl) (Zw (.int .i64 (k : Int)) (Zw (.slice (some ⟨g, 0, none⟩) l.length cap) (Zw (.int .i64 (l.length : Int)) ?_)))))))))))
  refine Ze (p := (k : Int) < (l.length : Int)) false (decide_eq_false (h1)) (Zw (.bool false) (Zj (Zj (Zj (Zj (Zj (Zj (Zj (Zw (.bool false) (g0 (zC ?_)))))))))))
  refine Zf (ZB (z7 ?_))
  obtain ⟨i, z, e1, e2, e3, e4, e5⟩ := cut_info
  refine kM [⟨b1, (zA c).cells, 78⟩, ⟨g, cur, 78⟩] (by kernel_rfl) (fun w hO => hO) (yG 0 _ (.slice (some ⟨g, 0, none⟩) l.length cap) rfl (by kernel_rfl) (by kernel_rfl) (by kernel_rfl) (zF zG) (fun w hO => hO) (by kernel_rfl) (fun _ _ => by kernel_rfl) (yG 1 _ (.int .i64 (k : Int)) rfl (by kernel_rfl) (by kernel_rfl) (by kernel_rfl) (zF zG) (fun w hO => hO) (by kernel_rfl) (fun _ _ => by kernel_rfl) (yG 2 _ (.slice (some ⟨g, 0, none⟩) k cap) rfl (by kernel_rfl) (by kernel_rfl) (by kernel_rfl) (zF zG) (fun w hO => hO) (by kernel_rfl) (fun w _ => nZ (b := g) (off := 0) (n := l.length) (c := cap) (k := .i64) (j := (k : Int)) (e := 78) (sz := 7) rfl (by kernel_rfl) (by kernel_rfl) (by kernel_rfl) (by kernel_rfl) (by omega) (by omega) w) (fT 4 _ 0 ⟨b1, (zA c).cells, 78⟩ (off := 0) (zA c) rfl (by kernel_rfl) (by kernel_rfl) (by kernel_rfl) (zF zG) (fun w hO => hO) (by kernel_rfl) rfl rfl (by kernel_rfl) (by kernel_rfl) (yG 7 _ (.slice (some ⟨g, 0, none⟩) l.length cap) rfl (by kernel_rfl) (by kernel_rfl) (by kernel_rfl) (zF zG) (fun w hO => hO) (by kernel_rfl) (fun _ _ => by kernel_rfl) (yG 8 _ (.int .i64 (k : Int)) rfl (by kernel_rfl) (by kernel_rfl) (by kernel_rfl) (zF zG) (fun w hO => hO) (by kernel_rfl) (fun _ _ => by kernel_rfl) (yG 9 _ (.slice (some ⟨g, 0 + (if cap = k then 0 else k * 7), none⟩) (l.length - k) (cap - k)) rfl (by kernel_rfl) (by kernel_rfl) (by kernel_rfl) (zF zG) (fun w hO => hO) (by kernel_rfl) (fun w _ => dP (b := g) (off := 0) (n := l.length) (c := cap) (k := .i64) (j := (k : Int)) (e := 78) (sz := 7) rfl (by kernel_rfl) (by kernel_rfl) (by kernel_rfl) (by kernel_rfl) (by omega) (by omega) w) (v6 (L' := [] ++ [] ++ [⟨b1, (zA c).cells, 78⟩, ⟨g, cur, 78⟩]) rfl (dJ 3 5 (by kernel_rfl) ?_ ?_)))))))))
  · refine gL (E := []) (ob := []) (R := [⟨b1, (zA c).cells, 78⟩, ⟨g, cur, 78⟩]) (sz := 7) _ rfl (by kernel_rfl) rfl Tryz.underlying118 e1 e2 e3 e4 (by kernel_rfl) (Sl.nil 78 7) (a := ⟨g, 0, none⟩) (m := k) (c := cap) (news := (l.take k).flatMap u6) (by kernel_rfl) (by rw [kE xA, List.length_take, Nat.min_eq_left (by omega)]) (fun w hO j u hj => ?_) (qT _) (by unfold maxLen; omega) (by rw [e5]; omega) (fun ob' w hO => Own.sub ([] ++ ob') hO) (fun va oa hva => ?_)
    · rw [x6, cell_of_row w g (0 + j) cur 78 _ (hO.held ⟨g, cur, 78⟩ (by simp))]; exact dC xA hcur k (by omega) hj
    refine zX 5 (by kernel_rfl) (hl_lit _ 78 #[.int .i64 c.e, .int .i64 c.v.maj, .int .i64 c.v.min, .int .i64 c.v.pat, .string (mkS c.v.pre), .string (mkS c.v.build), .bool c.aft] rfl (by kernel_rfl) rfl (fun w hO => Own.sub ([] ++ oa) hO) (fun _ => by kernel_rfl) (fun b2 => v6 (L' := [⟨b2, #[.int .i64 c.e, .int .i64 c.v.maj, .int .i64 c.v.min, .int .i64 c.v.pat, .string (mkS c.v.pre), .string (mkS c.v.build), .bool c.aft], 78⟩] ++ oa ++ [⟨b1, (zA c).cells, 78⟩, ⟨g, cur, 78⟩]) (by simp) (zX 6 (by kernel_rfl) (gL (E := [⟨b2, #[.int .i64 c.e, .int .i64 c.v.maj, .int .i64 c.v.min, .int .i64 c.v.pat, .string (mkS c.v.pre), .string (mkS c.v.build), .bool c.aft], 78⟩]) (ob := oa) (R := [⟨b1, (zA c).cells, 78⟩, ⟨g, cur, 78⟩]) (sz := 7) _ rfl (by kernel_rfl) rfl Tryz.underlying118 e1 e2 e3 e4 (by kernel_rfl) hva (a := ⟨b2, 0, none⟩) (m := 1) (c := 1) (news := u6 c) (by kernel_rfl) (rfl) (fun w hO j u hj => ?_) (bT _) (by unfold maxLen; omega) (by rw [e5]; omega) (fun ob' w hO => Own.sub ([⟨b2, #[.int .i64 c.e, .int .i64 c.v.maj, .int .i64 c.v.min, .int .i64 c.v.pat, .string (mkS c.v.pre), .string (mkS c.v.build), .bool c.aft], 78⟩] ++ ob') hO) (fun vb oq hvb => ?_)))))
    · rw [x6, cell_of_row w b2 (0 + j) (u6 c).toArray 78 _ (hO.held ⟨b2, (u6 c).toArray, 78⟩ (List.mem_append_left _ (List.mem_append_left _ (List.mem_cons_self ..))))]; simpa using hj
    refine zX 10 (by kernel_rfl) (gL (E := [⟨b2, #[.int .i64 c.e, .int .i64 c.v.maj, .int .i64 c.v.min, .int .i64 c.v.pat, .string (mkS c.v.pre), .string (mkS c.v.build), .bool c.aft], 78⟩]) (ob := oq) (R := [⟨b1, (zA c).cells, 78⟩, ⟨g, cur, 78⟩]) (sz := 7) _ rfl (by kernel_rfl) rfl Tryz.underlying118 e1 e2 e3 e4 (by kernel_rfl) hvb (a := ⟨g, 0 + (if cap = k then 0 else k * 7), none⟩) (m := l.length - k) (c := cap - k) (news := (l.drop k).flatMap u6) (by kernel_rfl) (by rw [kE xA, List.length_drop]) (fun w hO j u hj => ?_) (qT _) (by unfold maxLen; omega) (by rw [e5]; omega) (fun ob' w hO => Own.sub ([⟨b2, #[.int .i64 c.e, .int .i64 c.v.maj, .int .i64 c.v.min, .int .i64 c.v.pat, .string (mkS c.v.pre), .string (mkS c.v.build), .bool c.aft], 78⟩] ++ ob') hO) (fun vc oc hvc => ?_))
    · rw [x6, cell_of_row w g _ cur 78 _ (hO.held ⟨g, cur, 78⟩ (by simp))]; exact bY xA hcur k cap (by omega) hcap hj
    refine yG 11 _ vc rfl (by kernel_rfl) (by kernel_rfl) (by kernel_rfl) (zF zG) (fun w hO => Own.sub ([⟨b2, #[.int .i64 c.e, .int .i64 c.v.maj, .int .i64 c.v.min, .int .i64 c.v.pat, .string (mkS c.v.pre), .string (mkS c.v.build), .bool c.aft], 78⟩] ++ oc) hO) (by kernel_rfl) (fun _ _ => by kernel_rfl) (x3 (by kernel_rfl) (zC (zD (ZF (vc) Tryz.results155 (fun w hO => ⟨vc, oc, rfl, ?_, Own.take hO (fun x hx => List.mem_append_left _ (List.mem_append_right _ hx)) ?_⟩)))))
    · rw [dT k (by omega) hrel.2 (fun h => by first | omega | (rw [hs]; exact ⟨by assumption, by assumption⟩))]
      exact hvc.to (by simp; omega) (by simp)
    · have := hO.apart; rw [List.map_append, List.map_append, List.nodup_append] at this; exact (List.nodup_append.1 this.1).2.1
  refine hl_lit _ 78 #[.int .i64 c.e, .int .i64 c.v.maj, .int .i64 c.v.min, .int .i64 c.v.pat, .string (mkS c.v.pre), .string (mkS c.v.build), .bool c.aft] rfl (by kernel_rfl) rfl (fun w hO => hO) (fun _ => by kernel_rfl) (fun b2 => v6 (L' := [⟨b2, #[.int .i64 c.e, .int .i64 c.v.maj, .int .i64 c.v.min, .int .i64 c.v.pat, .string (mkS c.v.pre), .string (mkS c.v.build), .bool c.aft], 78⟩] ++ [] ++ [⟨b1, (zA c).cells, 78⟩, ⟨g, cur, 78⟩]) rfl (zX 3 (by kernel_rfl) (gL (E := [⟨b2, #[.int .i64 c.e, .int .i64 c.v.maj, .int .i64 c.v.min, .int .i64 c.v.pat, .string (mkS c.v.pre), .string (mkS c.v.build), .bool c.aft], 78⟩]) (ob := []) (R := [⟨b1, (zA c).cells, 78⟩, ⟨g, cur, 78⟩]) (sz := 7) _ rfl (by kernel_rfl) rfl Tryz.underlying118 e1 e2 e3 e4 (by kernel_rfl) (Sl.nil 78 7) (a := ⟨g, 0, none⟩) (m := k) (c := cap) (news := (l.take k).flatMap u6) (by kernel_rfl) (by rw [kE xA, List.length_take, Nat.min_eq_left (by omega)]) (fun w hO j u hj => ?_) (qT _) (by unfold maxLen; omega) (by rw [e5]; omega) (fun ob' w hO => Own.sub ([⟨b2, #[.int .i64 c.e, .int .i64 c.v.maj, .int .i64 c.v.min, .int .i64 c.v.pat, .string (mkS c.v.pre), .string (mkS c.v.build), .bool c.aft], 78⟩] ++ ob') hO) (fun va oa hva => ?_))))
  · rw [x6, cell_of_row w g (0 + j) cur 78 _ (hO.held ⟨g, cur, 78⟩ (by simp))]; exact dC xA hcur k (by omega) hj
  refine zX 6 (by kernel_rfl) (gL (E := [⟨b2, #[.int .i64 c.e, .int .i64 c.v.maj, .int .i64 c.v.min, .int .i64 c.v.pat, .string (mkS c.v.pre), .string (mkS c.v.build), .bool c.aft], 78⟩]) (ob := oa) (R := [⟨b1, (zA c).cells, 78⟩, ⟨g, cur, 78⟩]) (sz := 7) _ rfl (by kernel_rfl) rfl Tryz.underlying118 e1 e2 e3 e4 (by kernel_rfl) hva (a := ⟨b2, 0, none⟩) (m := 1) (c := 1) (news := u6 c) (by kernel_rfl) (rfl) (fun w hO j u hj => ?_) (bT _) (by unfold maxLen; omega) (by rw [e5]; omega) (fun ob' w hO => Own.sub ([⟨b2, #[.int .i64 c.e, .int .i64 c.v.maj, .int .i64 c.v.min, .int .i64 c.v.pat, .string (mkS c.v.pre), .string (mkS c.v.build), .bool c.aft], 78⟩] ++ ob') hO) (fun vb oq hvb => ?_))
  · rw [x6, cell_of_row w b2 (0 + j) (u6 c).toArray 78 _ (hO.held ⟨b2, (u6 c).toArray, 78⟩ (List.mem_append_left _ (List.mem_append_left _ (List.mem_cons_self ..))))]; simpa using hj
  refine zX 10 (by kernel_rfl) (gL (E := [⟨b2, #[.int .i64 c.e, .int .i64 c.v.maj, .int .i64 c.v.min, .int .i64 c.v.pat, .string (mkS c.v.pre), .string (mkS c.v.build), .bool c.aft], 78⟩]) (ob := oq) (R := [⟨b1, (zA c).cells, 78⟩, ⟨g, cur, 78⟩]) (sz := 7) _ rfl (by kernel_rfl) rfl Tryz.underlying118 e1 e2 e3 e4 (by kernel_rfl) hvb (a := ⟨g, 0 + (if cap = k then 0 else k * 7), none⟩) (m := l.length - k) (c := cap - k) (news := (l.drop k).flatMap u6) (by kernel_rfl) (by rw [kE xA, List.length_drop]) (fun w hO j u hj => ?_) (qT _) (by unfold maxLen; omega) (by rw [e5]; omega) (fun ob' w hO => Own.sub ([⟨b2, #[.int .i64 c.e, .int .i64 c.v.maj, .int .i64 c.v.min, .int .i64 c.v.pat, .string (mkS c.v.pre), .string (mkS c.v.build), .bool c.aft], 78⟩] ++ ob') hO) (fun vc oc hvc => ?_))
  · rw [x6, cell_of_row w g _ cur 78 _ (hO.held ⟨g, cur, 78⟩ (by simp))]; exact bY xA hcur k cap (by omega) hcap hj
  refine yG 11 _ vc rfl (by kernel_rfl) (by kernel_rfl) (by kernel_rfl) (zF zG) (fun w hO => Own.sub ([⟨b2, #[.int .i64 c.e, .int .i64 c.v.maj, .int .i64 c.v.min, .int .i64 c.v.pat, .string (mkS c.v.pre), .string (mkS c.v.build), .bool c.aft], 78⟩] ++ oc) hO) (by kernel_rfl) (fun _ _ => by kernel_rfl) (x3 (by kernel_rfl) (zC (zD (ZF (vc) Tryz.results155 (fun w hO => ⟨vc, oc, rfl, ?_, Own.take hO (fun x hx => List.mem_append_left _ (List.mem_append_right _ hx)) ?_⟩)))))
  · rw [dT k (by omega) hrel.2 (fun h => by first | omega | (rw [hs]; exact ⟨by assumption, by assumption⟩))]
    exact hvc.to (by simp; omega) (by simp)
  · have := hO.apart; rw [List.map_append, List.map_append, List.nodup_append] at this; exact (List.nodup_append.1 this.1).2.1
end
section
theorem Own.lend {M : List Nat} {W w : World} {L : List Blk} (h : Own M W w L) : Own (L.map Blk.b) w w L :=
  ⟨rfl, rfl, rfl, Nat.le_refl _, Nat.le_refl _, fun _ _ _ => rfl, h.held, fun x hx => .inr (List.mem_map.2 ⟨x, hx, rfl⟩), h.apart⟩
theorem SlC.form {v : Value} {l : List Cu} {ob : List Blk} (h : SlC v l ob) : ∃ A cap, v = .slice A l.length cap := by
  rcases h.2 with ⟨h1, h2, _⟩ | ⟨g, cap, cur, h1, _⟩
  · exact ⟨none, 0, by rw [h1, h2]⟩
  · exact ⟨_, cap, h1⟩
theorem put_call {M : List Nat} {W w : World} {v : Value} {l : List Cu} {ob : List Blk} (c : Cu) (hO : Own M W w ob) (hv : SlC v l ob) (h0 : 0 < l.length) (hn : l.length ≤ 3000000) (hl : ShortC l) (hc : c.short) :
    Calls Tryz.prog 155 #[v, zA c] w fun e w' => ∃ v' ob', e = .returned v' ∧ SlC v' (kT c l) ob' ∧ Own M W w' ob' := by
  obtain ⟨A, cap, rfl⟩ := hv.form
  refine (put_any A cap l ob c w hv hO.lend h0 hn hl hc).mono fun e w' ⟨v', ob', h1, h2, h3⟩ => ⟨v', ob', h1, h2, ?_⟩
  have := Own.join (R := []) (by simpa using hO) h3
  simpa using this
theorem pA (c : Cu) : ∀ (l : List Cu), (kT c l).length ≤ l.length + 1 ∧ 0 < (kT c l).length
  | [] => ⟨by simp [kT], by simp [kT]⟩
  | d :: r => by
    have ih := pA c r
    unfold kT
    split
    · simp; omega
    · split <;> simp
theorem mT {c : Cu} (hc : c.short) {l : List Cu} (hl : ShortC l) : ShortC (kT c l) := fun x hx => by
  rcases putL_mem c l x hx with rfl | h
  · exact hc
  · exact hl x h
theorem cuts_step (l : List Sp) (k : Nat) (hk : k < l.length) : kV (l.take (k + 1)) = kT l[k].hi (kT l[k].lo (kV (l.take k))) := by
  unfold kV
  rw [List.take_succ_eq_append_getElem hk, List.foldl_append]; rfl
theorem bS (l : List Sp) (hl : yU l) : ∀ (k : Nat), k ≤ l.length → (kV (l.take k)).length ≤ 2 + 2 * k ∧ 0 < (kV (l.take k)).length ∧ ShortC (kV (l.take k))
  | 0, _ => ⟨by simp [kV], by simp [kV], fun x hx => by
      simp only [kV, List.take_zero, List.foldl_nil, List.mem_cons, List.not_mem_nil, or_false] at hx
      rcases hx with rfl | rfl <;> exact ⟨by simp [zY, Ver.zero], by simp [zY, Ver.zero]⟩⟩
  | k + 1, h => by
    have ih := bS l hl k (by omega)
    have hs := hl l[k] (List.getElem_mem _)
    rw [cuts_step l k h]
    have e1 := pA l[k].lo (kV (l.take k))
    have e2 := pA l[k].hi (kT l[k].lo (kV (l.take k)))
    exact ⟨by omega, e2.2, mT hs.2 (mT hs.1 ih.2.2)⟩
theorem rfirst_any (W : World) : Calls Tryz.prog 147 #[] W fun e w' => e = .returned (zA (zY (-1))) ∧ Below W.heap.size W w' := by
  refine zR (n := 2) Tryz.func147 rfl (by kernel_rfl) (by kernel_rfl) (ZO (Za (.agg #[.int .i64 0, .int .i64 0, .int .i64 0, .int .i64 0, .string ⟨#[]⟩, .string ⟨#[]⟩, .bool false]) (fun b1 => ZR (Zv (.agg #[.int .i64 (-1), .int .i64 0, .int .i64 0, .int .i64 0, .string ⟨#[]⟩, .string ⟨#[]⟩, .bool false]) (Zs 0 ⟨b1, #[.int .i64 0, .int .i64 0, .int .i64 0, .int .i64 0, .string ⟨#[]⟩, .string ⟨#[]⟩, .bool false], 78⟩ (off := 0) (.agg #[.int .i64 (-1), .int .i64 0, .int .i64 0, .int .i64 0, .string ⟨#[]⟩, .string ⟨#[]⟩, .bool false]) (zT (zC ?_)))))))
  exact zD (ZC 0 ⟨b1, #[.int .i64 (-1), .int .i64 0, .int .i64 0, .int .i64 0, .string ⟨#[]⟩, .string ⟨#[]⟩, .bool false], 78⟩ (off := 0) (.agg #[.int .i64 (-1), .int .i64 0, .int .i64 0, .int .i64 0, .string ⟨#[]⟩, .string ⟨#[]⟩, .bool false]) Tryz.results147 (fun w hO => ⟨rfl, hO.below⟩))
theorem rlast_any (W : World) : Calls Tryz.prog 148 #[] W fun e w' => e = .returned (zA (zY (1))) ∧ Below W.heap.size W w' := by
  refine zR (n := 2) Tryz.func148 rfl (by kernel_rfl) (by kernel_rfl) (ZO (Za (.agg #[.int .i64 0, .int .i64 0, .int .i64 0, .int .i64 0, .string ⟨#[]⟩, .string ⟨#[]⟩, .bool false]) (fun b1 => ZR (Zv (.agg #[.int .i64 1, .int .i64 0, .int .i64 0, .int .i64 0, .string ⟨#[]⟩, .string ⟨#[]⟩, .bool false]) (Zs 0 ⟨b1, #[.int .i64 0, .int .i64 0, .int .i64 0, .int .i64 0, .string ⟨#[]⟩, .string ⟨#[]⟩, .bool false], 78⟩ (off := 0) (.agg #[.int .i64 1, .int .i64 0, .int .i64 0, .int .i64 0, .string ⟨#[]⟩, .string ⟨#[]⟩, .bool false]) (zT (zC ?_)))))))
  exact zD (ZC 0 ⟨b1, #[.int .i64 1, .int .i64 0, .int .i64 0, .int .i64 0, .string ⟨#[]⟩, .string ⟨#[]⟩, .bool false], 78⟩ (off := 0) (.agg #[.int .i64 1, .int .i64 0, .int .i64 0, .int .i64 0, .string ⟨#[]⟩, .string ⟨#[]⟩, .bool false]) Tryz.results148 (fun w hO => ⟨rfl, hO.below⟩))
theorem cuts_any (A : Option Addr) (cap : Nat) (l : List Sp) (W : World) (hv : Reads yT W W.heap.size A l) (hn : l.length ≤ 1000000) (hl : yU l) :
    Calls Tryz.prog 100 #[.slice A l.length cap] W fun e w' => ∃ v' ob', e = .returned v' ∧ SlC v' (kV l) ob' ∧ Own [] W w' ob' := by
  refine zR (n := 28) Tryz.func100 rfl (by kernel_rfl) (by kernel_rfl) (ZO (Zv (.slice none 0 0) (ZR (Zc (k := 147) (args := #[]) (zA (zY (-1))) (fun w _ => rfirst_any w) (Zc (k := 148) (args := #[]) (zA (zY 1)) (fun w _ => rlast_any w) (jE 78 #[.int .i64 ((zY (-1)).e), .int .i64 ((zY (-1)).v.maj), .int .i64 ((zY (-1)).v.min), .int .i64 ((zY (-1)).v.pat), .string (mkS (zY (-1)).v.pre), .string (mkS (zY (-1)).v.build), .bool ((zY (-1)).aft), .int .i64 ((zY 1).e), .int .i64 ((zY 1).v.maj), .int .i64 ((zY 1).v.min), .int .i64 ((zY 1).v.pat), .string (mkS (zY 1).v.pre), .string (mkS (zY 1).v.build), .bool ((zY 1).aft)] (by kernel_rfl) rfl (fun _ => by kernel_rfl) (fun b1 => Zv (.slice (some ⟨b1, 0, none⟩) 2 2) ?_)))))))
  refine ZN (z7 (ZO (Zv (.int .i64 0) (ZN (zN ?_)))))
  have hstart : SlC (.slice (some ⟨b1, 0, none⟩) 2 2) (kV (l.take 0)) [⟨b1, #[.int .i64 ((zY (-1)).e), .int .i64 ((zY (-1)).v.maj), .int .i64 ((zY (-1)).v.min), .int .i64 ((zY (-1)).v.pat), .string (mkS (zY (-1)).v.pre), .string (mkS (zY (-1)).v.build), .bool ((zY (-1)).aft), .int .i64 ((zY 1).e), .int .i64 ((zY 1).v.maj), .int .i64 ((zY 1).v.min), .int .i64 ((zY 1).v.pat), .string (mkS (zY 1).v.pre), .string (mkS (zY 1).v.build), .bool ((zY 1).aft)], 78⟩] := ⟨rfl, .inr ⟨b1, 2, _, rfl, rfl, Nat.le_refl _, by unfold maxLen; omega, rfl, rfl⟩⟩
  refine q5 (L' := [⟨b1, #[.int .i64 ((zY (-1)).e), .int .i64 ((zY (-1)).v.maj), .int .i64 ((zY (-1)).v.min), .int .i64 ((zY (-1)).v.pat), .string (mkS (zY (-1)).v.pre), .string (mkS (zY (-1)).v.build), .bool ((zY (-1)).aft), .int .i64 ((zY 1).e), .int .i64 ((zY 1).v.maj), .int .i64 ((zY 1).v.min), .int .i64 ((zY 1).v.pat), .string (mkS (zY 1).v.pre), .string (mkS (zY 1).v.build), .bool ((zY 1).aft)], 78⟩] ++ []) rfl (x9 (fun L f m => ∃ (k : Nat) (v : Value) (ob : List Blk) (j : Nat → Value), (k ≤ l.length ∧ SlC v (kV (l.take k)) ob) ∧ L = ob ++ [] ∧ f = g7 j [(0, .slice A l.length cap), (3, v), (4, .int .i64 (k : Int))] ∧ m = l.length - k) (l.length - 0) ⟨0, _, [⟨b1, #[.int .i64 ((zY (-1)).e), .int .i64 ((zY (-1)).v.maj), .int .i64 ((zY (-1)).v.min), .int .i64 ((zY (-1)).v.pat), .string (mkS (zY (-1)).v.pre), .string (mkS (zY (-1)).v.build), .bool ((zY (-1)).aft), .int .i64 ((zY 1).e), .int .i64 ((zY 1).v.maj), .int .i64 ((zY 1).v.min), .int .i64 ((zY 1).v.pat), .string (mkS (zY 1).v.pre), .string (mkS (zY 1).v.build), .bool ((zY 1).aft)], 78⟩], _, ⟨Nat.zero_le _, hstart⟩, rfl, ZU, rfl⟩ ?_)
  rintro L f m ⟨k, v, ob, j, hrel, rfl, rfl, rfl⟩
  have hkl := hrel.1
  refine z7 (ZO (Zv (.int .i64 (k : Int)) (Zv (.slice A l.length cap) (Zv (.int .i64 (l.length : Int)) ?_))))
  by_cases h1 : (k : Int) < (l.length : Int)
  · have hk : k < l.length := by omega
    obtain ⟨b, off, hA, hlt, hcell⟩ := hv (by omega)
    obtain ⟨s, hs⟩ : ∃ s, l[k] = s := ⟨_, rfl⟩
    have hsk : s.short := hs ▸ hl _ (List.getElem_mem _)
    have hcz := bS l hl k hkl
    refine Zd (p := (k : Int) < (l.length : Int)) true (decide_eq_true (h1)) (ZY (ZB (z7 (zN (q5 (L' := ob) (by simp) (kM [] (by kernel_rfl) (fun w hO => Own.take hO (by simp) (by simp)) (yG 0 _ (v) rfl (by kernel_rfl) (by kernel_rfl) (by kernel_rfl) (zO (zF (yM (zO (zF zG))))) (fun w hO => Own.take hO (by simp) (by simp)) (by kernel_rfl) (fun _ _ => by kernel_rfl) (yG 1 _ (.slice A l.length cap) rfl (by kernel_rfl) (by kernel_rfl) (by kernel_rfl) (zO (zF (yM (zO (zF zG))))) (fun w hO => Own.take hO (by simp) (by simp)) (by kernel_rfl) (fun _ _ => by kernel_rfl) ?_))))))))
    refine yG 2 _ (.int .i64 (k : Int)) rfl (by kernel_rfl) (by kernel_rfl) (by kernel_rfl) (zO (zF (yM (zO (zF zG))))) (fun w hO => Own.take hO (by simp) (by simp)) (by kernel_rfl) (fun _ _ => by kernel_rfl) (yG 3 _ (.pointer (some ⟨b, off + k * 14, none⟩)) rfl (by kernel_rfl) (by kernel_rfl) (by kernel_rfl) (zO (zF (yM (zO (zF zG))))) (fun w hO => Own.take hO (by simp) (by simp)) (by kernel_rfl) (fun w _ => jO (b := b) (off := off) (c := cap) (n := l.length) (k := .i64) (j := (k : Int)) (e := 80) (sz := 14) rfl (by kernel_rfl) hA (by kernel_rfl) (by kernel_rfl) (by kernel_rfl) (by omega) (by omega) (by show off + k * 14 = off + k * 14; rfl) w) (yG 4 _ (.pointer (some ⟨b, off + k * 14 + 0, none⟩)) rfl (by kernel_rfl) (by kernel_rfl) (by kernel_rfl) (zO (zF (yM (zO (zF zG))))) (fun w hO => Own.take hO (by simp) (by simp)) (by kernel_rfl) (fun _ _ => by kernel_rfl) (tJ 5 _ (a := ⟨b, off + k * 14 + 0, none⟩) (zA s.lo) rfl (by kernel_rfl) (by kernel_rfl) (by kernel_rfl) (zO (zF (yM (zO (zF zG))))) (fun w hO => Own.take hO (by simp) (by simp)) (by kernel_rfl) rfl (by kernel_rfl) (fun w hO => yP zV (fun j u h => (hO.below.cell (p := ⟨b, off + j, none⟩) hlt).trans (hcell j u h)) k 0 hk (by omega) _ (by rw [hs]; kernel_rfl)) (yG 7 _ (.slice A l.length cap) rfl (by kernel_rfl) (by kernel_rfl) (by kernel_rfl) (zO (zF (yM (zO (zF zG))))) (fun w hO => Own.take hO (by simp) (by simp)) (by kernel_rfl) (fun _ _ => by kernel_rfl) (yG 8 _ (.int .i64 (k : Int)) rfl (by kernel_rfl) (by kernel_rfl) (by kernel_rfl) (zO (zF (yM (zO (zF zG))))) (fun w hO => Own.take hO (by simp) (by simp)) (by kernel_rfl) (fun _ _ => by kernel_rfl) (yG 9 _ (.pointer (some ⟨b, off + k * 14, none⟩)) rfl (by kernel_rfl) (by kernel_rfl) (by kernel_rfl) (zO (zF (yM (zO (zF zG))))) (fun w hO => Own.take hO (by simp) (by simp)) (by kernel_rfl) (fun w _ => jO (b := b) (off := off) (c := cap) (n := l.length) (k := .i64) (j := (k : Int)) (e := 80) (sz := 14) rfl (by kernel_rfl) hA (by kernel_rfl) (by kernel_rfl) (by kernel_rfl) (by omega) (by omega) (by show off + k * 14 = off + k * 14; rfl) w) (yG 10 _ (.pointer (some ⟨b, off + k * 14 + 7, none⟩)) rfl (by kernel_rfl) (by kernel_rfl) (by kernel_rfl) (zO (zF (yM (zO (zF zG))))) (fun w hO => Own.take hO (by simp) (by simp)) (by kernel_rfl) (fun _ _ => by kernel_rfl) (tJ 11 _ (a := ⟨b, off + k * 14 + 7, none⟩) (zA s.hi) rfl (by kernel_rfl) (by kernel_rfl) (by kernel_rfl) (zO (zF (yM (zO (zF zG))))) (fun w hO => Own.take hO (by simp) (by simp)) (by kernel_rfl) rfl (by kernel_rfl) (fun w hO => yP zV (fun j u h => (hO.below.cell (p := ⟨b, off + j, none⟩) hlt).trans (hcell j u h)) k 7 hk (by omega) _ (by rw [hs]; kernel_rfl)) ?_))))))))
    have hp1 := pA s.lo (kV (l.take k))
    refine zX 6 (by kernel_rfl) (gO _ (k := 155) (args := #[v, zA s.lo]) (fun v' L' => SlC v' (kT s.lo (kV (l.take k))) L') rfl (by kernel_rfl) (fun _ => by kernel_rfl) (fun w hO => put_call s.lo hO hrel.2 hcz.2.1 (by omega) hcz.2.2 hsk.1) (fun _ _ _ => (fun w hO => Own.take hO (by simp) (by simp))) (fun v1 ob1 hv1 => zX 12 (by kernel_rfl) (gO _ (k := 155) (args := #[v1, zA s.hi]) (fun v' L' => SlC v' (kT s.hi (kT s.lo (kV (l.take k)))) L') rfl (by kernel_rfl) (fun _ => by kernel_rfl) (fun w hO => put_call s.hi hO hv1 hp1.2 (by omega) (mT hsk.1 hcz.2.2) hsk.2) (fun _ _ _ => (fun w hO => Own.take hO (by simp) (by simp))) (fun v2 ob2 hv2 => yG 13 _ (v2) rfl (by kernel_rfl) (by kernel_rfl) (by kernel_rfl) (zO (zF (yM (zO (zF zG))))) (fun w hO => Own.take hO (by simp) (by simp)) (by kernel_rfl) (fun _ _ => by kernel_rfl) (x3 (by kernel_rfl) (fin_cast (L' := ob2 ++ []) (by simp) (zS (zC (zB (Zv (.int .i64 (k : Int)) (Zu (k := .i64) (((k + 1 : Nat) : Int)) (IntWalk.i64_in _ (by omega)) ?_)))))))))))
    refine Zv (.int .i64 ((k + 1 : Nat) : Int)) (zT ?_)
    have hnext : SlC v2 (kV (l.take (k + 1))) ob2 := by rw [cuts_step l k hk, hs]; exact hv2
    exact zW (m' := l.length - (k + 1)) (by omega) ⟨k + 1, v2, ob2, _, ⟨by omega, hnext⟩, rfl, ZU, rfl⟩
  refine Zd (p := (k : Int) < (l.length : Int)) false (decide_eq_false (h1)) (ZX (y7 (z8 (zQ (zJ (zC (ZO (Zv (v) ?_))))))))
  exact Zv (v) (ZN (zD (ZF (v) Tryz.results100 (fun w hO => ⟨v, ob, rfl, by have h := hrel.2; rwa [List.take_of_length_le (by omega)] at h, by simpa using hO⟩))))
end
section
section
variable {M : List Nat} {P : Program} {n : Nat} {ops : Array Oper} {W : World} {Q : Exit → Act → World → Prop} {L0 L : List Blk} {f : Nat → Value} {fuel : Nat} {listed : Array Bool} {rest : List Oper} {o : Oper}
theorem yD {k : FuncId} {args : Array Value} (R : Value → List Blk → Prop) (hw : xN ops n f o = true) (he : ∀ w, (execOp (ev n f) o).run P w = .ok (.enter k args) w)
    (hc : ∀ w, Own M W w L → Calls P k args w fun e w' => ∃ v L', e = .returned v ∧ R v L' ∧ Own M W w' L') (h : ∀ v L', R v L' → Seg M P n ops W Q rest L' (upd f o.dst v)) : Seg M P n ops W Q (o :: rest) L f :=
  vZ hw fun w hO => nP (he w) ((hc w hO).mono fun e w' ⟨v, L', e1, e2, e3⟩ => ⟨v, e1, (h v L' e2).go w' e3⟩)
theorem hl_sum {k : IntKind} (i : Nat) (oi : Oper) (z : Int) (hi : ops[i]? = some oi) (hs : Region.noSelect ops = true) (hf : Region.free .any ops listed i = true) (hr : (Region.ready .any ops listed).contains i = true)
    (hQ : PQ Q) (hsub : ∀ w, Own M W w L → Own M W w L0) (hw : xN ops n f oi = true) (hrun : ∀ w, (execOp (ev n f) oi).run P w = .ok (.value (.int k (k.wrap z))) w) (hz : k.wrap z = z)
    (h : gW M P n ops W L0 Q fuel (listed.setIfInBounds i true) L (upd f oi.dst (.int k z))) : gW M P n ops W L0 Q (fuel + 1) listed L f :=
  yG i oi (.int k z) hi hs hf hr hQ hsub hw (fun w _ => by rw [hrun w, hz]) h
theorem Own.perm {w : World} {L' : List Blk} (h : Own M W w L) (hp : L.Perm L') : Own M W w L' :=
  h.take (fun x hx => hp.mem_iff.2 hx) ((hp.map Blk.b).nodup_iff.1 h.apart)
end
theorem SlS.form {v : Value} {l : List Sp} {ob : List Blk} (h : SlS v l ob) : ∃ A cap, v = .slice A l.length cap := by
  rcases h.2 with ⟨h1, h2, _⟩ | ⟨g, cap, cur, h1, _⟩
  · exact ⟨none, 0, by rw [h1, h2]⟩
  · exact ⟨_, cap, h1⟩
theorem grow_call {M : List Nat} {W w : World} {v : Value} {l : List Sp} {x : Blk} {ob : List Blk} (c d : Cu) (hO : Own M W w (x :: ob)) (hv : SlS v l ob) (hn : l.length ≤ 1000000) (hl : yU l) (hc : c.short) (hd : d.short) :
    Calls Tryz.prog 102 #[v, zA c, zA d] w fun e w' => ∃ v' L', e = .returned v' ∧ (∃ ob', L' = x :: ob' ∧ SlS v' (qE l c d) ob') ∧ Own M W w' L' := by
  obtain ⟨A, cap, rfl⟩ := hv.form
  refine (grow_any A cap l ob c d w hv (Own.lend (hO.sub [x])) hn hl hc hd).mono fun e w' ⟨v', ob', h1, h2, h3⟩ => ⟨v', x :: ob', h1, ⟨ob', rfl, h2⟩, ?_⟩
  have hp : Own M W w (ob ++ [x]) := hO.perm (List.perm_append_comm (l₁ := [x]) (l₂ := ob))
  exact (Own.join hp h3).perm (List.perm_append_comm (l₁ := ob') (l₂ := [x]))
theorem grow_len (l : List Sp) (c d : Cu) : (qE l c d).length ≤ l.length + 1 := by
  unfold qE
  split
  · split
    · first | (simp; done) | (simp; omega)
    · simp
  · simp
theorem grow_short {l : List Sp} {c d : Cu} (hl : yU l) (hc : c.short) (hd : d.short) : yU (qE l c d) := by
  unfold qE
  split
  · rename_i s hs
    split
    · intro x hx
      rcases List.mem_append.1 hx with h | h
      · exact hl x (List.dropLast_subset _ h)
      · obtain rfl : x = _ := by simpa using h
        exact ⟨(hl s (List.mem_of_getLast? hs)).1, hd⟩
    · intro x hx
      rcases List.mem_append.1 hx with h | h
      · exact hl x h
      · obtain rfl : x = _ := by simpa using h
        exact ⟨hc, hd⟩
  · intro x hx
    obtain rfl : x = _ := by simpa using hx
    exact ⟨hc, hd⟩
theorem build_step (p : Cu → Cu → Bool) (out : List Sp) (cs : List Cu) (k : Nat) (hk : k + 1 < cs.length) {c d : Cu} (hc : cs[k] = c) (hd : cs[k + 1] = d) : kP p out (cs.drop k) = kP p (if p c d then qE out c d else out) (cs.drop (k + 1)) := by
  rw [List.drop_eq_getElem_cons (show k < cs.length by omega), List.drop_eq_getElem_cons hk, hc, hd]
  conv => lhs; unfold kP
theorem build_end (p : Cu → Cu → Bool) (out : List Sp) (cs : List Cu) (k : Nat) (hk : ¬ k + 1 < cs.length) : kP p out (cs.drop k) = out := by
  have : (cs.drop k).length ≤ 1 := by rw [List.length_drop]; omega
  match h : cs.drop k with
  | [] => rfl
  | [x] => rfl
  | x :: y :: r => rw [h] at this; simp at this
structure Built (p : Cu → Cu → Bool) (cs : List Cu) (k : Nat) (v : Value) (out : List Sp) (ob : List Blk) : Prop where
  le : k ≤ cs.length
  sl : SlS v out ob
  len : out.length ≤ k
  short : yU out
  eq : kP p [] cs = kP p out (cs.drop k)
theorem Built.start (p : Cu → Cu → Bool) (cs : List Cu) : Built p cs 0 (.slice none 0 0) [] [] := ⟨Nat.zero_le _, Sl.nil _ _, Nat.le_refl _, fun s hs => by simp at hs, rfl⟩
theorem Built.keep {p : Cu → Cu → Bool} {cs : List Cu} {k : Nat} {v : Value} {out : List Sp} {ob : List Blk} (h : Built p cs k v out ob) (hk : k + 1 < cs.length) {c d : Cu} (hc : cs[k] = c) (hd : cs[k + 1] = d) (hp : p c d = false) : Built p cs (k + 1) v out ob :=
  ⟨by omega, h.sl, by have := h.len; omega, h.short, by rw [h.eq, build_step p out cs k hk hc hd, hp]; rfl⟩
theorem Built.grow {p : Cu → Cu → Bool} {cs : List Cu} {k : Nat} {v v2 : Value} {out : List Sp} {ob ob2 : List Blk} (h : Built p cs k v out ob) (hk : k + 1 < cs.length) {c d : Cu} (hc : cs[k] = c) (hd : cs[k + 1] = d) (hp : p c d = true) (hcs : c.short) (hds : d.short) (h2 : SlS v2 (qE out c d) ob2) : Built p cs (k + 1) v2 (qE out c d) ob2 :=
  ⟨by omega, h2, by have := h.len; have := grow_len out c d; omega, grow_short h.short hcs hds, by rw [h.eq, build_step p out cs k hk hc hd, hp]; rfl⟩
end
section
def xL (l : List Sp) : Bool := l.all (·.may)
theorem allMay_mem {l : List Sp} : xL l = true ↔ ∀ s ∈ l, s.may = true := by unfold xL; rw [List.all_eq_true]
theorem allMay_take (l : List Sp) (k : Nat) (hk : k < l.length) (h : xL (l.take k) = true) (hs : l[k].may = true) : xL (l.take (k + 1)) = true := by
  rw [allMay_mem] at h ⊢
  rw [List.take_succ_eq_append_getElem hk]
  intro x hx
  rcases List.mem_append.1 hx with hx | hx
  · exact h x hx
  · obtain rfl : x = l[k] := by simpa using hx
    exact hs
theorem dH (l : List Sp) (k : Nat) (hk : k < l.length) (hs : l[k].may = false) : xL l = false := by
  cases h : xL l with
  | false => rfl
  | true => rw [allMay_mem.1 h _ (List.getElem_mem hk)] at hs; cases hs
theorem rmake_any (A : Option Addr) (cap : Nat) (l : List Sp) (W : World) (hv : Reads yT W W.heap.size A l) (hn : l.length ≤ 300000) (hl : yU l) :
    Calls Tryz.prog 103 #[.slice A l.length cap] W fun e w' => ∃ v' ob', e = .returned (.tuple #[v', .bool (xL l)]) ∧ SlS v' (if xL l then vE l else []) ob' ∧ Own [] W w' ob' := by
  refine zR (n := 52) Tryz.func103 rfl (by kernel_rfl) (by kernel_rfl) (ZO (Zv (.slice none 0 0) (Zv (.bool false) (ZN (z7 (ZO (Zv (.int .i64 0) (zT ?_))))))))
  refine zC (zN (x9 (fun L f m => ∃ (k : Nat) (j : Nat → Value), (k ≤ l.length ∧ xL (l.take k) = true) ∧ L = [] ∧ f = g7 j [(0, .slice A l.length cap), (4, .int .i64 (k : Int))] ∧ m = l.length - k) (l.length - 0) ⟨0, _, ⟨Nat.zero_le _, by rw [List.take_zero]; rfl⟩, rfl, ZU, rfl⟩ ?_))
  rintro L f m ⟨k, j, hrel, rfl, rfl, rfl⟩
  have hkl := hrel.1
  refine z7 (ZO (Zv (.int .i64 (k : Int)) (Zv (.slice A l.length cap) (Zv (.int .i64 (l.length : Int)) ?_))))
  by_cases h1 : (k : Int) < (l.length : Int)
  · have hk : k < l.length := by omega
    obtain ⟨b, off, hA, hlt, hcell⟩ := hv (by omega)
    obtain ⟨s, hs⟩ : ∃ s, l[k] = s := ⟨_, rfl⟩
    have hsk : s.short := hs ▸ hl _ (List.getElem_mem _)
    refine Zd (p := (k : Int) < (l.length : Int)) true (decide_eq_true (h1)) (ZY (ZB (z7 (zN (ZO (Zv (.slice A l.length cap) (Zv (.int .i64 (k : Int)) ?_)))))))
    refine y5 (.pointer (some ⟨b, off + k * 14, none⟩)) (by kernel_rfl) (ZA (b := b) (off := off) (c := cap) (n := l.length) (k := .i64) (j := (k : Int)) (e := 80) (sz := 14) hA) (Zo (yF s) (a := ⟨b, off + k * 14, none⟩) (fun w hO => yP zV (fun j u h => (hO.below.cell (p := ⟨b, off + j, none⟩) hlt).trans (hcell j u h)) k 0 hk (by omega) _ (by rw [hs]; kernel_rfl)) (Zc (k := 96) (args := #[yF s]) (.bool s.may) (fun w _ => d5 s w hsk) ?_))
    cases h2 : s.may with
    | true =>
      refine Zv (.bool false) (ZX (xB (zS (zC (zB (Zv (.int .i64 (k : Int)) (Zu (k := .i64) (((k + 1 : Nat) : Int)) (IntWalk.i64_in _ (by omega)) (Zv (.int .i64 ((k + 1 : Nat) : Int)) (zT ?_)))))))))
      have hnext : xL (l.take (k + 1)) = true := allMay_take l k hk hrel.2 (by rw [hs]; assumption)
      exact zW (m' := l.length - (k + 1)) (by omega) ⟨k + 1, _, ⟨by omega, hnext⟩, rfl, ZU, rfl⟩
    | false =>
      refine Zv (.bool true) (ZY (ZO (Zv (.slice none 0 0) (Zv (.bool false) (ZN (zD (zI ?_)))))))
      exact z6 (yB (zI (z6 (f7 (.slice none 0 0) (.bool false) Tryz.results103 (by kernel_rfl) (by kernel_rfl) (fun w hO => ⟨_, [], by rw [dH l k hk (by rw [hs]; assumption)], by rw [dH l k hk (by rw [hs]; assumption), if_neg (by decide)]; exact Sl.nil _ _, by simpa using hO⟩)))))
  have hall : xL l = true := by have h := hrel.2; rwa [List.take_of_length_le (by omega)] at h
  refine Zd (p := (k : Int) < (l.length : Int)) false (decide_eq_false (h1)) (ZX (y7 (z8 (zQ (zJ (zC (ZO (Zv (.slice none 0 0) ?_))))))))
  refine ZR (Zv (.slice A l.length cap) (yD (k := 100) (args := #[.slice A l.length cap]) (fun v' L' => SlC v' (kV l) L') (by kernel_rfl) (fun _ => by kernel_rfl) (fun w hO => (cuts_any A cap l w (hv.on hO.below hO.size) (by omega) hl).mono fun e w' ⟨v', ob', h1, h2, h3⟩ => ⟨v', ob', h1, h2, by simpa using Own.joinN hO h3⟩) (fun cv oc hcv => ?_)))
  have hcz := bS l hl l.length (Nat.le_refl _)
  rw [List.take_length] at hcz
  obtain ⟨cs, hcs⟩ : ∃ cs, cs = kV l := ⟨_, rfl⟩
  rw [← hcs] at hcv hcz
  have hcsn := hcz.1
  have hcs0 := hcz.2.1
  have hcsS := hcz.2.2
  obtain ⟨B, ccap, rfl⟩ := hcv.form
  obtain ⟨g, cur, rfl, rfl, hccap, hcmax, hcsz, hcur⟩ := hcv.block hcs0
  refine Zv (.slice (some ⟨g, 0, none⟩) cs.length ccap) (ZN (z7 (ZO (Zv (.int .i64 0) (ZN (zN (x9 (fun L f m => ∃ (k : Nat) (v : Value) (out : List Sp) (ob : List Blk) (j : Nat → Value), (Built (inL l) cs k v out ob) ∧ L = ⟨g, cur, 78⟩ :: ob ∧ f = g7 j [(0, .slice A l.length cap), (5, v), (6, .slice (some ⟨g, 0, none⟩) cs.length ccap), (7, .int .i64 (k : Int))] ∧ m = cs.length - k) (cs.length - 0) ⟨0, _, [], [], _, Built.start _ cs, rfl, ZU, rfl⟩ ?_)))))))
  rintro L f m ⟨k, v, out, ob, j, hrel, rfl, rfl, rfl⟩
  have hkl := hrel.le
  refine z7 (ZO (Zv (.int .i64 (k : Int)) (Zu (k := .i64) (((k + 1 : Nat) : Int)) (IntWalk.i64_in _ (by omega)) (Zv (.slice (some ⟨g, 0, none⟩) cs.length ccap) (Zv (.int .i64 (cs.length : Int)) ?_)))))
  by_cases h3 : ((k + 1 : Nat) : Int) < (cs.length : Int)
  · have hk : k + 1 < cs.length := by omega
    obtain ⟨c, hc⟩ : ∃ c, cs[k] = c := ⟨_, rfl⟩
    obtain ⟨d, hd⟩ : ∃ d, cs[k + 1] = d := ⟨_, rfl⟩
    have hcS : c.short := hc ▸ hcsS _ (List.getElem_mem _)
    have hdS : d.short := hd ▸ hcsS _ (List.getElem_mem _)
    have hlen := hrel.len
    refine Zd (p := ((k + 1 : Nat) : Int) < (cs.length : Int)) true (decide_eq_true (h3)) (ZY (ZB (z7 (zN (z7 (qP (by kernel_rfl) (by kernel_rfl) (Zw (.slice A l.length cap) (Zw (.slice (some ⟨g, 0, none⟩) cs.length ccap) ?_))))))))
    refine Zw (.int .i64 (k : Int)) (gD (.pointer (some ⟨g, k * 7, none⟩)) (by kernel_rfl) (xZ (b := g) (off := 0) (n := cs.length) (c := ccap) (k := .i64) (j := (k : Int)) (e := 78) (sz := 7) rfl (by kernel_rfl) (by kernel_rfl) (by kernel_rfl) (by kernel_rfl) (by omega) (by omega) (by show 0 + k * 7 = k * 7; omega)) (u0 0 ⟨g, cur, 78⟩ (off := k * 7) (zA c) (by kernel_rfl) rfl (by kernel_rfl) (by kernel_rfl) (x8 xA hcur k 0 (by omega) (by omega) _ (by rw [hc]; kernel_rfl)) (Zw (.slice (some ⟨g, 0, none⟩) cs.length ccap) (Zw (.int .i64 (k : Int)) (q_sum (k := .i64) (((k + 1 : Nat) : Int)) (by kernel_rfl) (fun _ => by kernel_rfl) (IntWalk.i64_in _ (by omega)) (gD (.pointer (some ⟨g, (k + 1) * 7, none⟩)) (by kernel_rfl) (xZ (b := g) (off := 0) (n := cs.length) (c := ccap) (k := .i64) (j := ((k + 1 : Nat) : Int)) (e := 78) (sz := 7) rfl (by kernel_rfl) (by kernel_rfl) (by kernel_rfl) (by kernel_rfl) (by omega) (by omega) (by show 0 + (k + 1) * 7 = (k + 1) * 7; omega)) (u0 0 ⟨g, cur, 78⟩ (off := (k + 1) * 7) (zA d) (by kernel_rfl) rfl (by kernel_rfl) (by kernel_rfl) (x8 xA hcur (k + 1) 0 (by omega) (by omega) _ (by rw [hd]; kernel_rfl)) (Zq (k := 101) (args := #[.slice A l.length cap, zA c, zA d]) (.bool (inL l c d)) (fun w hO => in_any A cap l c d w (hv.on hO.below hO.size) (by omega) hl hcS hdS) (g0 (zC ?_))))))))))
    cases h4 : inL l c d with
    | true =>
      refine Zt (kM [⟨g, cur, 78⟩] (by kernel_rfl) (fun w hO => Own.take hO (by simp) (by simp)) (yG 0 _ (v) rfl (by kernel_rfl) (by kernel_rfl) (by kernel_rfl) (zO (zF (yM (zO (zF zG))))) (fun w hO => Own.take hO (by simp) (by simp)) (by kernel_rfl) (fun _ _ => by kernel_rfl) (yG 1 _ (.slice (some ⟨g, 0, none⟩) cs.length ccap) rfl (by kernel_rfl) (by kernel_rfl) (by kernel_rfl) (zO (zF (yM (zO (zF zG))))) (fun w hO => Own.take hO (by simp) (by simp)) (by kernel_rfl) (fun _ _ => by kernel_rfl) (yG 2 _ (.int .i64 (k : Int)) rfl (by kernel_rfl) (by kernel_rfl) (by kernel_rfl) (zO (zF (yM (zO (zF zG))))) (fun w hO => Own.take hO (by simp) (by simp)) (by kernel_rfl) (fun _ _ => by kernel_rfl) (yG 3 _ (.pointer (some ⟨g, k * 7, none⟩)) rfl (by kernel_rfl) (by kernel_rfl) (by kernel_rfl) (zO (zF (yM (zO (zF zG))))) (fun w hO => Own.take hO (by simp) (by simp)) (by kernel_rfl) (fun w _ => xZ (b := g) (off := 0) (n := cs.length) (c := ccap) (k := .i64) (j := (k : Int)) (e := 78) (sz := 7) rfl (by kernel_rfl) (by kernel_rfl) (by kernel_rfl) (by kernel_rfl) (by omega) (by omega) (by show 0 + k * 7 = k * 7; omega) w) (fT 4 _ 0 ⟨g, cur, 78⟩ (off := k * 7) (zA c) rfl (by kernel_rfl) (by kernel_rfl) (by kernel_rfl) (zO (zF (yM (zO (zF zG))))) (fun w hO => Own.take hO (by simp) (by simp)) (by kernel_rfl) rfl rfl (by kernel_rfl) (x8 xA hcur k 0 (by omega) (by omega) _ (by rw [hc]; kernel_rfl)) (yG 5 _ (.slice (some ⟨g, 0, none⟩) cs.length ccap) rfl (by kernel_rfl) (by kernel_rfl) (by kernel_rfl) (zO (zF (yM (zO (zF zG))))) (fun w hO => Own.take hO (by simp) (by simp)) (by kernel_rfl) (fun _ _ => by kernel_rfl) (yG 6 _ (.int .i64 (k : Int)) rfl (by kernel_rfl) (by kernel_rfl) (by kernel_rfl) (zO (zF (yM (zO (zF zG))))) (fun w hO => Own.take hO (by simp) (by simp)) (by kernel_rfl) (fun _ _ => by kernel_rfl) (hl_sum (k := .i64) 7 _ ((k + 1 : Nat) : Int) rfl (by kernel_rfl) (by kernel_rfl) (by kernel_rfl) (zO (zF (yM (zO (zF zG))))) (fun w hO => Own.take hO (by simp) (by simp)) (by kernel_rfl) (fun _ => by kernel_rfl) (IntWalk.i64_in _ (by omega)) (yG 8 _ (.pointer (some ⟨g, (k + 1) * 7, none⟩)) rfl (by kernel_rfl) (by kernel_rfl) (by kernel_rfl) (zO (zF (yM (zO (zF zG))))) (fun w hO => Own.take hO (by simp) (by simp)) (by kernel_rfl) (fun w _ => xZ (b := g) (off := 0) (n := cs.length) (c := ccap) (k := .i64) (j := ((k + 1 : Nat) : Int)) (e := 78) (sz := 7) rfl (by kernel_rfl) (by kernel_rfl) (by kernel_rfl) (by kernel_rfl) (by omega) (by omega) (by show 0 + (k + 1) * 7 = (k + 1) * 7; omega) w) (fT 9 _ 0 ⟨g, cur, 78⟩ (off := (k + 1) * 7) (zA d) rfl (by kernel_rfl) (by kernel_rfl) (by kernel_rfl) (zO (zF (yM (zO (zF zG))))) (fun w hO => Own.take hO (by simp) (by simp)) (by kernel_rfl) rfl rfl (by kernel_rfl) (x8 xA hcur (k + 1) 0 (by omega) (by omega) _ (by rw [hd]; kernel_rfl)) ?_)))))))))))
      refine zX 10 (by kernel_rfl) (gO _ (k := 102) (args := #[v, zA c, zA d]) (fun v' L' => ∃ ob', L' = ⟨g, cur, 78⟩ :: ob' ∧ SlS v' (qE out c d) ob') rfl (by kernel_rfl) (fun _ => by kernel_rfl) (fun w hO => grow_call c d hO hrel.sl (by omega) hrel.short hcS hdS) (fun v' L' ⟨ob', e, _⟩ => by subst e; exact (fun w hO => Own.take hO (by simp) (by simp))) (fun v2 L2 hv2 => ?_))
      obtain ⟨ob2, rfl, hs2⟩ := hv2
      exact yG 11 _ (v2) rfl (by kernel_rfl) (by kernel_rfl) (by kernel_rfl) (zO (zF (yM (zO (zF zG))))) (fun w hO => Own.take hO (by simp) (by simp)) (by kernel_rfl) (fun _ _ => by kernel_rfl) (x3 (by kernel_rfl) (zS (zC (zB (Zv (.int .i64 (k : Int)) (Zu (k := .i64) (((k + 1 : Nat) : Int)) (IntWalk.i64_in _ (by omega)) (Zv (.int .i64 ((k + 1 : Nat) : Int)) (zT (zW (m' := cs.length - (k + 1)) (by omega) ⟨k + 1, v2, qE out c d, ob2, _, hrel.grow hk hc hd (by simp [h1, h3, h4]) hcS hdS hs2, rfl, ZU, rfl⟩)))))))))
    | false =>
      exact Zf (xB (zS (zC (zB (Zv (.int .i64 (k : Int)) (Zu (k := .i64) (((k + 1 : Nat) : Int)) (IntWalk.i64_in _ (by omega)) (Zv (.int .i64 ((k + 1 : Nat) : Int)) (zT (zW (m' := cs.length - (k + 1)) (by omega) ⟨k + 1, v, out, ob, _, hrel.keep hk hc hd (by simp [h1, h3, h4]), rfl, ZU, rfl⟩)))))))))
  refine Zd (p := ((k + 1 : Nat) : Int) < (cs.length : Int)) false (decide_eq_false (h3)) (ZX (y7 (z8 (zQ (zJ (zC (ZO (Zv (v) ?_))))))))
  exact Zv (v) (Zv (.bool true) (ZN (zD (f7 (v) (.bool true) Tryz.results103 (by kernel_rfl) (by kernel_rfl) (fun w hO => ⟨v, ob, by rw [hall], by rw [hall, if_pos rfl, show vE l = out from by unfold vE; rw [← hcs, hrel.eq, build_end _ _ _ _ (by omega)]]; exact hrel.sl, hO.sub [_]⟩)))))
end
section
theorem nL {a b : List Sp} (ha : yU a) (hb : yU b) : yU (a ++ b) := fun s hs => by
  rcases List.mem_append.1 hs with h | h
  · exact ha s h
  · exact hb s h
theorem rand_any (A B : Option Addr) (cap capb : Nat) (a b : List Sp) (W : World) (hv : Reads yT W W.heap.size A a) (hu : Reads yT W W.heap.size B b) (hn : a.length ≤ 100000) (hm : b.length ≤ 100000) (ha : yU a) (hb : yU b) :
    Calls Tryz.prog 57 #[.slice A a.length cap, .slice B b.length capb] W fun e w' => ∃ v' ob', e = .returned v' ∧ SlS v' (if zK a && zK b then wC a b else []) ob' ∧ Own [] W w' ob' := by
  refine zR (n := 64) Tryz.func57 rfl (by kernel_rfl) (by kernel_rfl) (ZO (Zv (.slice none 0 0) (ZN (z7 (ZO (Zv (.slice A a.length cap) (Zc (k := 54) (args := #[.slice A a.length cap]) (.bool (zK a)) (fun w hO => qQ A cap a w (hv.on hO.below hO.size) (by omega) ha) ?_)))))))
  cases h1 : zK a with
  | true =>
    refine Zv (.bool false) (Zv (.bool false) (Zv (.slice B b.length capb) (Zc (k := 54) (args := #[.slice B b.length capb]) (.bool (zK b)) (fun w hO => qQ B capb b w (hu.on hO.below hO.size) (by omega) hb) ?_)))
    cases h2 : zK b with
    | true =>
      refine Zv (.bool false) (Zv (.bool false) (ZX (ZB (ZO (Zv (.slice none 0 0) (zT (zC ?_)))))))
      refine ZO (Zv (.slice A a.length cap) ?_)
      obtain ⟨i, z, e1, e2, e3, e4, e5⟩ := gI
      refine kA (L' := [] ++ [] ++ []) rfl (jF (E := []) (ob := []) (L0 := []) (sz := 14) (l := a) (A := A) (c := cap) zV (by kernel_rfl) rfl Tryz.underlying29 e1 e2 e3 e4 (by kernel_rfl) (Sl.nil 80 14) (by kernel_rfl) (fun w hO => hv.on hO.below hO.size) kD (by unfold maxLen; omega) (by rw [e5]; omega) (fun va oa hva => Zv (.slice B b.length capb) (jF (E := []) (ob := oa) (L0 := []) (sz := 14) (l := b) (A := B) (c := capb) zV (by kernel_rfl) rfl Tryz.underlying29 e1 e2 e3 e4 (by kernel_rfl) hva (by kernel_rfl) (fun w hO => hu.on hO.below hO.size) kD (by unfold maxLen; omega) (by rw [e5]; omega) (fun vb oq hvb => ?_))))
      have hvl : SlS vb (a ++ b) oq := hvb.to (by simp) (by simp)
      have hlen : (a ++ b).length ≤ 200000 := by rw [List.length_append]; omega
      have hlab := nL ha hb
      refine kA (L' := oq) (by simp) ?_
      clear hvb
      obtain ⟨C, capc, rfl⟩ := hvl.form
      refine yD (k := 100) (args := #[.slice C (a ++ b).length capc]) (fun v' L' => SlC v' (kV (a ++ b)) L') (by kernel_rfl) (fun _ => by kernel_rfl) (fun w hO => (cuts_any C capc (a ++ b) w (Sl.reads hvl rfl hO (fun x hx => hx)) (by omega) hlab).mono fun e w' ⟨v', ob', h1, h2, h3⟩ => ⟨v', ob', h1, h2, Own.take (Own.joinN hO h3) (fun x hx => List.mem_append_left _ hx) h3.apart⟩) (fun cv oc hcv => ?_)
      have hcz := bS (a ++ b) hlab (a ++ b).length (Nat.le_refl _)
      rw [List.take_length] at hcz
      obtain ⟨cs, hcs⟩ : ∃ cs, cs = kV (a ++ b) := ⟨_, rfl⟩
      rw [← hcs] at hcv hcz
      have hcsn := hcz.1
      have hcs0 := hcz.2.1
      have hcsS := hcz.2.2
      obtain ⟨D, ccap, rfl⟩ := hcv.form
      obtain ⟨g, cur, rfl, rfl, hccap, hcmax, hcsz, hcur⟩ := hcv.block hcs0
      refine Zv (.slice (some ⟨g, 0, none⟩) cs.length ccap) (ZN (z7 (ZO (Zv (.int .i64 0) (ZN (zN (x9 (fun L f m => ∃ (k : Nat) (v : Value) (out : List Sp) (ob : List Blk) (j : Nat → Value), (Built (fun c d => inL a c d && inL b c d) cs k v out ob) ∧ L = ⟨g, cur, 78⟩ :: ob ∧ f = g7 j [(0, .slice A a.length cap), (1, .slice B b.length capb), (5, v), (6, .slice (some ⟨g, 0, none⟩) cs.length ccap), (7, .int .i64 (k : Int))] ∧ m = cs.length - k) (cs.length - 0) ⟨0, _, [], [], _, Built.start _ cs, rfl, ZU, rfl⟩ ?_)))))))
      rintro L f m ⟨k, v, out, ob, j, hrel, rfl, rfl, rfl⟩
      have hkl := hrel.le
      refine z7 (ZO (Zv (.int .i64 (k : Int)) (Zu (k := .i64) (((k + 1 : Nat) : Int)) (IntWalk.i64_in _ (by omega)) (Zv (.slice (some ⟨g, 0, none⟩) cs.length ccap) (Zv (.int .i64 (cs.length : Int)) ?_)))))
      by_cases h3 : ((k + 1 : Nat) : Int) < (cs.length : Int)
      · have hk : k + 1 < cs.length := by omega
        obtain ⟨c, hc⟩ : ∃ c, cs[k] = c := ⟨_, rfl⟩
        obtain ⟨d, hd⟩ : ∃ d, cs[k + 1] = d := ⟨_, rfl⟩
        have hcS : c.short := hc ▸ hcsS _ (List.getElem_mem _)
        have hdS : d.short := hd ▸ hcsS _ (List.getElem_mem _)
        have hlen := hrel.len
        refine Zd (p := ((k + 1 : Nat) : Int) < (cs.length : Int)) true (decide_eq_true (h3)) (ZY (ZB (z7 (zN (z7 (qP (by kernel_rfl) (by kernel_rfl) (Zw (.slice A a.length cap) (Zw (.slice (some ⟨g, 0, none⟩) cs.length ccap) ?_))))))))
        refine Zw (.int .i64 (k : Int)) (gD (.pointer (some ⟨g, k * 7, none⟩)) (by kernel_rfl) (xZ (b := g) (off := 0) (n := cs.length) (c := ccap) (k := .i64) (j := (k : Int)) (e := 78) (sz := 7) rfl (by kernel_rfl) (by kernel_rfl) (by kernel_rfl) (by kernel_rfl) (by omega) (by omega) (by show 0 + k * 7 = k * 7; omega)) (u0 0 ⟨g, cur, 78⟩ (off := k * 7) (zA c) (by kernel_rfl) rfl (by kernel_rfl) (by kernel_rfl) (x8 xA hcur k 0 (by omega) (by omega) _ (by rw [hc]; kernel_rfl)) (Zw (.slice (some ⟨g, 0, none⟩) cs.length ccap) (Zw (.int .i64 (k : Int)) (q_sum (k := .i64) (((k + 1 : Nat) : Int)) (by kernel_rfl) (fun _ => by kernel_rfl) (IntWalk.i64_in _ (by omega)) (gD (.pointer (some ⟨g, (k + 1) * 7, none⟩)) (by kernel_rfl) (xZ (b := g) (off := 0) (n := cs.length) (c := ccap) (k := .i64) (j := ((k + 1 : Nat) : Int)) (e := 78) (sz := 7) rfl (by kernel_rfl) (by kernel_rfl) (by kernel_rfl) (by kernel_rfl) (by omega) (by omega) (by show 0 + (k + 1) * 7 = (k + 1) * 7; omega)) (u0 0 ⟨g, cur, 78⟩ (off := (k + 1) * 7) (zA d) (by kernel_rfl) rfl (by kernel_rfl) (by kernel_rfl) (x8 xA hcur (k + 1) 0 (by omega) (by omega) _ (by rw [hd]; kernel_rfl)) (Zq (k := 101) (args := #[.slice A a.length cap, zA c, zA d]) (.bool (inL a c d)) (fun w hO => in_any A cap a c d w (hv.on hO.below hO.size) (by omega) ha hcS hdS) (Zw (.bool (inL a c d)) ?_)))))))))
        cases h4 : inL a c d with
        | true =>
          refine Zw (.slice B b.length capb) (Zw (.slice (some ⟨g, 0, none⟩) cs.length ccap) (Zw (.int .i64 (k : Int)) (gD (.pointer (some ⟨g, k * 7, none⟩)) (by kernel_rfl) (xZ (b := g) (off := 0) (n := cs.length) (c := ccap) (k := .i64) (j := (k : Int)) (e := 78) (sz := 7) rfl (by kernel_rfl) (by kernel_rfl) (by kernel_rfl) (by kernel_rfl) (by omega) (by omega) (by show 0 + k * 7 = k * 7; omega)) (u0 0 ⟨g, cur, 78⟩ (off := k * 7) (zA c) (by kernel_rfl) rfl (by kernel_rfl) (by kernel_rfl) (x8 xA hcur k 0 (by omega) (by omega) _ (by rw [hc]; kernel_rfl)) (Zw (.slice (some ⟨g, 0, none⟩) cs.length ccap) (Zw (.int .i64 (k : Int)) (q_sum (k := .i64) (((k + 1 : Nat) : Int)) (by kernel_rfl) (fun _ => by kernel_rfl) (IntWalk.i64_in _ (by omega)) (gD (.pointer (some ⟨g, (k + 1) * 7, none⟩)) (by kernel_rfl) (xZ (b := g) (off := 0) (n := cs.length) (c := ccap) (k := .i64) (j := ((k + 1 : Nat) : Int)) (e := 78) (sz := 7) rfl (by kernel_rfl) (by kernel_rfl) (by kernel_rfl) (by kernel_rfl) (by omega) (by omega) (by show 0 + (k + 1) * 7 = (k + 1) * 7; omega)) (u0 0 ⟨g, cur, 78⟩ (off := (k + 1) * 7) (zA d) (by kernel_rfl) rfl (by kernel_rfl) (by kernel_rfl) (x8 xA hcur (k + 1) 0 (by omega) (by omega) _ (by rw [hd]; kernel_rfl)) (Zq (k := 101) (args := #[.slice B b.length capb, zA c, zA d]) (.bool (inL b c d)) (fun w hO => in_any B capb b c d w (hu.on hO.below hO.size) (by omega) hb hcS hdS) (Zw (.bool (inL b c d)) ?_)))))))))))
          refine g0 (zC ?_)
          cases h5 : inL b c d with
          | true =>
            refine Zt (kM [⟨g, cur, 78⟩] (by kernel_rfl) (fun w hO => Own.take hO (by simp) (by simp)) (yG 0 _ (v) rfl (by kernel_rfl) (by kernel_rfl) (by kernel_rfl) (zO (zF (yM (zO (zF zG))))) (fun w hO => Own.take hO (by simp) (by simp)) (by kernel_rfl) (fun _ _ => by kernel_rfl) (yG 1 _ (.slice (some ⟨g, 0, none⟩) cs.length ccap) rfl (by kernel_rfl) (by kernel_rfl) (by kernel_rfl) (zO (zF (yM (zO (zF zG))))) (fun w hO => Own.take hO (by simp) (by simp)) (by kernel_rfl) (fun _ _ => by kernel_rfl) (yG 2 _ (.int .i64 (k : Int)) rfl (by kernel_rfl) (by kernel_rfl) (by kernel_rfl) (zO (zF (yM (zO (zF zG))))) (fun w hO => Own.take hO (by simp) (by simp)) (by kernel_rfl) (fun _ _ => by kernel_rfl) (yG 3 _ (.pointer (some ⟨g, k * 7, none⟩)) rfl (by kernel_rfl) (by kernel_rfl) (by kernel_rfl) (zO (zF (yM (zO (zF zG))))) (fun w hO => Own.take hO (by simp) (by simp)) (by kernel_rfl) (fun w _ => xZ (b := g) (off := 0) (n := cs.length) (c := ccap) (k := .i64) (j := (k : Int)) (e := 78) (sz := 7) rfl (by kernel_rfl) (by kernel_rfl) (by kernel_rfl) (by kernel_rfl) (by omega) (by omega) (by show 0 + k * 7 = k * 7; omega) w) (fT 4 _ 0 ⟨g, cur, 78⟩ (off := k * 7) (zA c) rfl (by kernel_rfl) (by kernel_rfl) (by kernel_rfl) (zO (zF (yM (zO (zF zG))))) (fun w hO => Own.take hO (by simp) (by simp)) (by kernel_rfl) rfl rfl (by kernel_rfl) (x8 xA hcur k 0 (by omega) (by omega) _ (by rw [hc]; kernel_rfl)) (yG 5 _ (.slice (some ⟨g, 0, none⟩) cs.length ccap) rfl (by kernel_rfl) (by kernel_rfl) (by kernel_rfl) (zO (zF (yM (zO (zF zG))))) (fun w hO => Own.take hO (by simp) (by simp)) (by kernel_rfl) (fun _ _ => by kernel_rfl) (yG 6 _ (.int .i64 (k : Int)) rfl (by kernel_rfl) (by kernel_rfl) (by kernel_rfl) (zO (zF (yM (zO (zF zG))))) (fun w hO => Own.take hO (by simp) (by simp)) (by kernel_rfl) (fun _ _ => by kernel_rfl) (hl_sum (k := .i64) 7 _ ((k + 1 : Nat) : Int) rfl (by kernel_rfl) (by kernel_rfl) (by kernel_rfl) (zO (zF (yM (zO (zF zG))))) (fun w hO => Own.take hO (by simp) (by simp)) (by kernel_rfl) (fun _ => by kernel_rfl) (IntWalk.i64_in _ (by omega)) (yG 8 _ (.pointer (some ⟨g, (k + 1) * 7, none⟩)) rfl (by kernel_rfl) (by kernel_rfl) (by kernel_rfl) (zO (zF (yM (zO (zF zG))))) (fun w hO => Own.take hO (by simp) (by simp)) (by kernel_rfl) (fun w _ => xZ (b := g) (off := 0) (n := cs.length) (c := ccap) (k := .i64) (j := ((k + 1 : Nat) : Int)) (e := 78) (sz := 7) rfl (by kernel_rfl) (by kernel_rfl) (by kernel_rfl) (by kernel_rfl) (by omega) (by omega) (by show 0 + (k + 1) * 7 = (k + 1) * 7; omega) w) (fT 9 _ 0 ⟨g, cur, 78⟩ (off := (k + 1) * 7) (zA d) rfl (by kernel_rfl) (by kernel_rfl) (by kernel_rfl) (zO (zF (yM (zO (zF zG))))) (fun w hO => Own.take hO (by simp) (by simp)) (by kernel_rfl) rfl rfl (by kernel_rfl) (x8 xA hcur (k + 1) 0 (by omega) (by omega) _ (by rw [hd]; kernel_rfl)) ?_)))))))))))
            refine zX 10 (by kernel_rfl) (gO _ (k := 102) (args := #[v, zA c, zA d]) (fun v' L' => ∃ ob', L' = ⟨g, cur, 78⟩ :: ob' ∧ SlS v' (qE out c d) ob') rfl (by kernel_rfl) (fun _ => by kernel_rfl) (fun w hO => grow_call c d hO hrel.sl (by omega) hrel.short hcS hdS) (fun v' L' ⟨ob', e, _⟩ => by subst e; exact (fun w hO => Own.take hO (by simp) (by simp))) (fun v2 L2 hv2 => ?_))
            obtain ⟨ob2, rfl, hs2⟩ := hv2
            exact yG 11 _ (v2) rfl (by kernel_rfl) (by kernel_rfl) (by kernel_rfl) (zO (zF (yM (zO (zF zG))))) (fun w hO => Own.take hO (by simp) (by simp)) (by kernel_rfl) (fun _ _ => by kernel_rfl) (x3 (by kernel_rfl) (zS (zC (zB (Zv (.int .i64 (k : Int)) (Zu (k := .i64) (((k + 1 : Nat) : Int)) (IntWalk.i64_in _ (by omega)) (Zv (.int .i64 ((k + 1 : Nat) : Int)) (zT (zW (m' := cs.length - (k + 1)) (by omega) ⟨k + 1, v2, qE out c d, ob2, _, hrel.grow hk hc hd (by simp [h1, h2, h3, h4, h5]) hcS hdS hs2, rfl, ZU, rfl⟩)))))))))
          | false =>
            exact Zf (xB (zS (zC (zB (Zv (.int .i64 (k : Int)) (Zu (k := .i64) (((k + 1 : Nat) : Int)) (IntWalk.i64_in _ (by omega)) (Zv (.int .i64 ((k + 1 : Nat) : Int)) (zT (zW (m' := cs.length - (k + 1)) (by omega) ⟨k + 1, v, out, ob, _, hrel.keep hk hc hd (by simp [h1, h2, h3, h4, h5]), rfl, ZU, rfl⟩)))))))))
        | false =>
          refine Zj (Zj (Zj (Zj (Zj (Zj (Zj (Zj (Zj (Zj (Zj (Zw (.bool false) ?_)))))))))))
          exact g0 (zC (Zf (xB (zS (zC (zB (Zv (.int .i64 (k : Int)) (Zu (k := .i64) (((k + 1 : Nat) : Int)) (IntWalk.i64_in _ (by omega)) (Zv (.int .i64 ((k + 1 : Nat) : Int)) (zT (zW (m' := cs.length - (k + 1)) (by omega) ⟨k + 1, v, out, ob, _, hrel.keep hk hc hd (by simp [h1, h2, h3, h4]), rfl, ZU, rfl⟩)))))))))))
      refine Zd (p := ((k + 1 : Nat) : Int) < (cs.length : Int)) false (decide_eq_false (h3)) (ZX (y7 (z8 (zQ (zJ (zC (ZO (Zv (v) ?_))))))))
      exact Zv (v) (ZN (zD (ZF (v) Tryz.results57 (fun w hO => ⟨v, ob, rfl, by rw [if_pos (by simp), show wC a b = out from by unfold wC; rw [← hcs, hrel.eq, build_end _ _ _ _ (by omega)]]; exact hrel.sl, hO.sub [_]⟩))))
    | false =>
      refine Zv (.bool true) (Zv (.bool true) (ZY (ZO (Zv (.slice none 0 0) (ZN (zD (z6 ?_)))))))
      exact ZF (.slice none 0 0) Tryz.results57 (fun w hO => ⟨_, [], rfl, by rw [if_neg (by simp)]; exact Sl.nil _ _, by simpa using hO⟩)
  | false =>
    refine Zv (.bool true) (Zv (.bool true) (Zk (Zk (Zk (Zv (.bool true) (ZY (ZO (Zv (.slice none 0 0) ?_))))))))
    exact ZN (zD (z6 (ZF (.slice none 0 0) Tryz.results57 (fun w hO => ⟨_, [], rfl, by rw [if_neg (by simp)]; exact Sl.nil _ _, by simpa using hO⟩))))
theorem ror_any (A B : Option Addr) (cap capb : Nat) (a b : List Sp) (W : World) (hv : Reads yT W W.heap.size A a) (hu : Reads yT W W.heap.size B b) (hn : a.length ≤ 100000) (hm : b.length ≤ 100000) (ha : yU a) (hb : yU b) :
    Calls Tryz.prog 58 #[.slice A a.length cap, .slice B b.length capb] W fun e w' => ∃ v' ob', e = .returned v' ∧ SlS v' (if zK a && zK b then orL a b else []) ob' ∧ Own [] W w' ob' := by
  refine zR (n := 24) Tryz.func58 rfl (by kernel_rfl) (by kernel_rfl) (ZO (Zv (.slice none 0 0) (ZN (z7 (ZO (Zv (.slice A a.length cap) (Zc (k := 54) (args := #[.slice A a.length cap]) (.bool (zK a)) (fun w hO => qQ A cap a w (hv.on hO.below hO.size) (by omega) ha) ?_)))))))
  cases h1 : zK a with
  | true =>
    refine Zv (.bool false) (Zv (.bool false) (Zv (.slice B b.length capb) (Zc (k := 54) (args := #[.slice B b.length capb]) (.bool (zK b)) (fun w hO => qQ B capb b w (hu.on hO.below hO.size) (by omega) hb) ?_)))
    cases h2 : zK b with
    | true =>
      refine Zv (.bool false) (Zv (.bool false) (ZX (ZB (ZO (Zv (.slice A a.length cap) ?_)))))
      obtain ⟨i, z, e1, e2, e3, e4, e5⟩ := gI
      refine kA (L' := [] ++ [] ++ []) rfl (jF (E := []) (ob := []) (L0 := []) (sz := 14) (l := a) (A := A) (c := cap) zV (by kernel_rfl) rfl Tryz.underlying29 e1 e2 e3 e4 (by kernel_rfl) (Sl.nil 80 14) (by kernel_rfl) (fun w hO => hv.on hO.below hO.size) kD (by unfold maxLen; omega) (by rw [e5]; omega) (fun va oa hva => Zv (.slice B b.length capb) (jF (E := []) (ob := oa) (L0 := []) (sz := 14) (l := b) (A := B) (c := capb) zV (by kernel_rfl) rfl Tryz.underlying29 e1 e2 e3 e4 (by kernel_rfl) hva (by kernel_rfl) (fun w hO => hu.on hO.below hO.size) kD (by unfold maxLen; omega) (by rw [e5]; omega) (fun vb oq hvb => ?_))))
      have hvl : SlS vb (a ++ b) oq := hvb.to (by simp) (by simp)
      have hlen : (a ++ b).length ≤ 200000 := by rw [List.length_append]; omega
      have hlab := nL ha hb
      refine kA (L' := oq) (by simp) ?_
      clear hvb
      obtain ⟨C, capc, rfl⟩ := hvl.form
      refine yD (k := 103) (args := #[.slice C (a ++ b).length capc]) (fun v' L' => ∃ mv, v' = .tuple #[mv, .bool (xL (a ++ b))] ∧ SlS mv (if xL (a ++ b) then vE (a ++ b) else []) L') (by kernel_rfl) (fun _ => by kernel_rfl) (fun w hO => (rmake_any C capc (a ++ b) w (Sl.reads hvl rfl hO (fun x hx => hx)) (by omega) hlab).mono fun e w' ⟨v', ob', h1, h2, h3⟩ => ⟨_, ob', h1, ⟨v', rfl, h2⟩, Own.take (Own.joinN hO h3) (fun x hx => List.mem_append_left _ hx) h3.apart⟩) (fun tv om htv => ?_)
      obtain ⟨mv, rfl, hmv⟩ := htv
      refine Zv (.tuple #[mv, .bool (xL (a ++ b))]) (Zv (mv) (Zv (.bool (xL (a ++ b))) (Zv (mv) (Zv (.bool (xL (a ++ b))) (ZR (Zv (mv) (Zv (mv) (zT ?_))))))))
      exact zC (zD (ZF (mv) Tryz.results58 (fun w hO => ⟨mv, om, rfl, by rw [if_pos (by simp)]; unfold orL; have hall : xL (a ++ b) = true := allMay_mem.2 (uY (by assumption) (by assumption)); rw [hall, if_pos rfl] at hmv; exact hmv, hO⟩)))
    | false =>
      refine Zv (.bool true) (Zv (.bool true) (ZY (ZO (Zv (.slice none 0 0) (ZN (zD (z6 ?_)))))))
      exact ZF (.slice none 0 0) Tryz.results58 (fun w hO => ⟨_, [], rfl, by rw [if_neg (by simp)]; exact Sl.nil _ _, by simpa using hO⟩)
  | false =>
    refine Zv (.bool true) (Zv (.bool true) (Zk (Zk (Zk (Zv (.bool true) (ZY (ZO (Zv (.slice none 0 0) ?_))))))))
    exact ZN (zD (z6 (ZF (.slice none 0 0) Tryz.results58 (fun w hO => ⟨_, [], rfl, by rw [if_neg (by simp)]; exact Sl.nil _ _, by simpa using hO⟩))))
end
section
theorem build_len (p : Cu → Cu → Bool) : ∀ (cs : List Cu) (out : List Sp), (kP p out cs).length ≤ out.length + cs.length
  | [], out => by unfold kP; simp
  | [c], out => by unfold kP; simp
  | c :: d :: r, out => by
    have ih := build_len p (d :: r) (if p c d then qE out c d else out)
    unfold kP
    have : (if p c d = true then qE out c d else out).length ≤ out.length + 1 := by
      split
      · exact grow_len out c d
      · omega
    simp only [List.length_cons] at ih ⊢
    omega
end
section
def yL (a b : Cu) : Cu := if 0 < zL a b then b else a
def yS (a b : Cu) : Cu := if 0 < zL a b then a else b
theorem minC_may {a b : Cu} (ha : a.may = true) (hb : b.may = true) : (yL a b).may = true := by unfold yL; split <;> assumption
theorem dY {a b : Cu} (ha : a.may = true) (hb : b.may = true) : (yS a b).may = true := by unfold yS; split <;> assumption
theorem minC_lt {a b x : Cu} (ha : a.may = true) (hb : b.may = true) (hx : x.may = true) : decide (zL x (yL a b) < 0) = (decide (zL x a < 0) && decide (zL x b < 0)) := by
  rw [← Bool.decide_and]
  refine decide_eq_decide.2 ?_
  unfold yL
  split
  · rename_i h
    exact ⟨fun h2 => ⟨xM hx hb ha h2 (by have := xD (a := a) (b := b); omega), h2⟩, fun h2 => h2.2⟩
  · rename_i h
    exact ⟨fun h2 => ⟨h2, uX hx ha hb h2 (by omega)⟩, fun h2 => h2.1⟩
theorem maxC_le {a b x : Cu} (ha : a.may = true) (hb : b.may = true) (hx : x.may = true) : decide (zL (yS a b) x ≤ 0) = (decide (zL a x ≤ 0) && decide (zL b x ≤ 0)) := by
  rw [← Bool.decide_and]
  refine decide_eq_decide.2 ?_
  unfold yS
  split
  · rename_i h
    exact ⟨fun h2 => ⟨h2, qN hb ha hx (by have := xD (a := a) (b := b); omega) h2⟩, fun h2 => h2.1⟩
  · rename_i h
    exact ⟨fun h2 => ⟨qN ha hb hx (by omega) h2, h2⟩, fun h2 => h2.2⟩
theorem bA {c d : Cu} (h : zL c d < 0) : (Sp.mk c d).may = true := by
  unfold Sp.may
  have := uW c d
  rw [decide_eq_true_eq]; show zL c d = -1; omega
theorem pY {c d : Cu} (h : (Sp.mk c d).may = false) : ¬ zL c d < 0 := fun h2 => by rw [bA h2] at h; cases h
theorem in_none {c d x : Cu} (hc : c.may = true) (hd : d.may = true) (hx : x.may = true) (h : ¬ zL c d < 0) : kX ⟨c, d⟩ x = false := by
  unfold kX
  rw [Bool.and_eq_false_iff, decide_eq_false_iff_not, decide_eq_false_iff_not]
  by_cases h1 : zL c x ≤ 0
  · exact .inr fun h2 => h (nH hc hx hd h1 h2)
  · exact .inl h1
def gS (l : List Sp) (c d : Cu) : List Sp := if (Sp.mk c d).may then l ++ [⟨c, d⟩] else l
theorem add_ok {out : List Sp} {c d : Cu} (ho : zK out = true) (hl : ∀ t ∈ out.getLast?, zL t.hi c < 0) : zK (gS out c d) = true := by
  unfold gS
  split
  · exact jT ho (by assumption) hl
  · exact ho
theorem add_den {out : List Sp} {c d x : Cu} (hc : c.may = true) (hd : d.may = true) (hx : x.may = true) : den (gS out c d) x = (den out x || kX ⟨c, d⟩ x) := by
  unfold gS
  split
  · rw [wO]; unfold den; simp
  · rename_i h
    rw [in_none hc hd hx (pY (by simpa using h)), Bool.or_false]
theorem add_last {out : List Sp} {c d : Cu} : ∀ t ∈ (gS out c d).getLast?, t = ⟨c, d⟩ ∨ (t ∈ out.getLast? ∧ ¬ zL c d < 0) := by
  unfold gS
  split
  · intro t ht
    rw [List.getLast?_concat] at ht
    exact .inl (Option.some.inj ht).symm
  · rename_i h
    exact fun t ht => .inr ⟨ht, pY (by simpa using h)⟩
theorem m6 (l : List Sp) (c d : Cu) : (gS l c d).length ≤ l.length + 1 := by unfold gS; split <;> simp
def pE (p : List Sp × Cu) (s : Sp) : List Sp × Cu := (gS p.1 p.2 s.lo, s.hi)
def notG (l : List Sp) : List Sp := gS (l.foldl pE ([], zY (-1))).1 (l.foldl pE ([], zY (-1))).2 (zY 1)
theorem bQ (s : Sp) (l : List Sp) (x : Cu) : den (s :: l) x = (kX s x || den l x) := by unfold den; rw [List.any_cons]
theorem bR {s : Sp} {l : List Sp} {x : Cu} (h : zK (s :: l) = true) (hx : x.may = true) (hlt : zL x s.hi ≤ 0) : den l x = false :=
  uT fun t ht => nH hx (zZ (xP h)).2 (zZ (x4 h t (List.mem_cons_of_mem _ ht))).1 hlt (kZ h t ht)
theorem not_go : ∀ (l out : List Sp) (f : Cu), zK l = true → zK out = true → f.may = true → (∀ t ∈ out.getLast?, zL t.hi f < 0) → (∀ s ∈ l.head?, zL f s.lo ≤ 0) →
    zK (gS (l.foldl pE (out, f)).1 (l.foldl pE (out, f)).2 (zY 1)) = true ∧ ∀ x : Cu, x.may = true → zL x (zY 1) < 0 → den (gS (l.foldl pE (out, f)).1 (l.foldl pE (out, f)).2 (zY 1)) x = (den out x || (decide (zL f x ≤ 0) && !den l x))
  | [], out, f, hl, ho, hf, h1, h2 => ⟨add_ok ho h1, fun x hx he => by
      show den (gS out f (zY 1)) x = _
      rw [add_den hf uQ hx]
      unfold kX
      rw [decide_eq_true he]
      simp [den]⟩
  | s :: r, out, f, hl, ho, hf, h1, h2 => by
    have hs := xP hl
    obtain ⟨m1, m2⟩ := zZ hs
    have hlt := u7 hs
    have hfs : zL f s.lo ≤ 0 := h2 s rfl
    have ih := not_go r (gS out f s.lo) s.hi (kL hl) (add_ok ho h1) m2 (fun t ht => by
      rcases add_last t ht with rfl | ⟨h3, h4⟩
      · exact hlt
      · exact xM (zZ (x4 ho t (List.mem_of_getLast? h3))).2 hf m2 (h1 t h3) (nH hf m1 m2 hfs hlt)) (fun t ht => by
        have := kZ hl t (List.mem_of_mem_head? ht); omega)
    refine ⟨ih.1, fun x hx he => ?_⟩
    show den (gS (r.foldl pE (gS out f s.lo, s.hi)).1 (r.foldl pE (gS out f s.lo, s.hi)).2 (zY 1)) x = _
    rw [ih.2 x hx he, add_den hf m1 hx, bQ]
    unfold kX
    show (den out x || (decide (zL f x ≤ 0) && decide (zL x s.lo < 0)) || _) = _
    by_cases c1 : zL x s.lo < 0
    · have c2 : zL x s.hi < 0 := xM hx m1 m2 c1 hlt
      rw [decide_eq_true c1, bR hl hx (by omega), decide_eq_false (show ¬ zL s.hi x ≤ 0 from by have := xD (a := x) (b := s.hi); omega), decide_eq_false (show ¬ zL s.lo x ≤ 0 from by have := xD (a := x) (b := s.lo); omega)]
      simp
    · rw [decide_eq_false c1]
      have c3 : zL s.lo x ≤ 0 := jB c1
      rw [decide_eq_true c3, decide_eq_true (qN hf m1 hx hfs c3)]
      by_cases c4 : zL x s.hi < 0
      · rw [decide_eq_true c4, decide_eq_false (show ¬ zL s.hi x ≤ 0 from by have := xD (a := x) (b := s.hi); omega)]
        simp
      · rw [decide_eq_false c4, decide_eq_true (jB c4)]
        simp
theorem notG_eq {l : List Sp} (h : zK l = true) : notG l = vW l := by
  have h1 := not_go l [] (zY (-1)) h rfl fV (fun t ht => by simp at ht) (fun s hs => f5 (zZ (x4 h s (List.mem_of_mem_head? hs))).1)
  have h2 := wQ h
  refine wJ _ _ h1.1 h2.1 fun c hc he => ?_
  rw [h2.2 c hc he]
  show den (gS _ _ _) c = _
  rw [h1.2 c hc he, decide_eq_true (f5 hc)]
  simp [den]
def pR : Nat → List Sp → List Sp → List Sp → List Sp
  | n + 1, out, s :: a, u :: b => if s.hi = yL s.hi u.hi then pR n (gS out (yS s.lo u.lo) (yL s.hi u.hi)) a (u :: b) else pR n (gS out (yS s.lo u.lo) (yL s.hi u.hi)) (s :: a) b
  | _, out, _, _ => out
theorem min_is {a b : Cu} : a = yL a b ↔ zL a b ≤ 0 := by
  unfold yL
  split
  · rename_i h
    exact ⟨fun e => by have := kW a; rw [← e] at h; omega, fun h2 => by omega⟩
  · rename_i h
    exact ⟨fun _ => by omega, fun _ => rfl⟩
theorem maxC_ge {a b : Cu} (ha : a.may = true) (hb : b.may = true) : zL a (yS a b) ≤ 0 ∧ zL b (yS a b) ≤ 0 := by
  unfold yS
  split
  · rename_i h
    exact ⟨by rw [kW]; decide, by have := xD (a := a) (b := b); omega⟩
  · rename_i h
    exact ⟨by omega, by rw [kW]; decide⟩
theorem maxC_up {a b c d x : Cu} (ha : a.may = true) (hb : b.may = true) (hc : c.may = true) (hd : d.may = true) (hx : x.may = true) (h1 : zL a c ≤ 0) (h2 : zL b d ≤ 0) (h : zL x (yS a b) < 0) : zL x (yS c d) < 0 := by
  have g := maxC_ge hc hd
  have m := dY hc hd
  unfold yS at h
  split at h
  · exact uX hx ha m h (qN ha hc m h1 g.1)
  · exact uX hx hb m h (qN hb hd m h2 g.2)
theorem maxC_one {a b x : Cu} (ha : a.may = true) (hb : b.may = true) (hx : x.may = true) (h : zL x a < 0) : zL x (yS a b) < 0 := uX hx ha (dY ha hb) h (maxC_ge ha hb).1
theorem maxC_two {a b x : Cu} (ha : a.may = true) (hb : b.may = true) (hx : x.may = true) (h : zL x b < 0) : zL x (yS a b) < 0 := uX hx hb (dY ha hb) h (maxC_ge ha hb).2
theorem in_both {s u : Sp} {x : Cu} (hs : s.may = true) (hu : u.may = true) (hx : x.may = true) : kX ⟨yS s.lo u.lo, yL s.hi u.hi⟩ x = (kX s x && kX u x) := by
  unfold kX
  rw [maxC_le (zZ hs).1 (zZ hu).1 hx, minC_lt (zZ hs).2 (zZ hu).2 hx]
  cases decide (zL s.lo x ≤ 0) <;> cases decide (zL u.lo x ≤ 0) <;> cases decide (zL x s.hi < 0) <;> cases decide (zL x u.hi < 0) <;> rfl
theorem and_go : ∀ (n : Nat) (out a b : List Sp), a.length + b.length ≤ n → zK out = true → zK a = true → zK b = true → (∀ t ∈ out.getLast?, ∀ s ∈ a.head?, ∀ u ∈ b.head?, zL t.hi (yS s.lo u.lo) < 0) →
    zK (pR n out a b) = true ∧ ∀ x : Cu, x.may = true → den (pR n out a b) x = (den out x || (den a x && den b x))
  | 0, out, a, b, hn, ho, ha, hb, hl => by
    obtain rfl : a = [] := List.eq_nil_of_length_eq_zero (by omega)
    exact ⟨ho, fun x _ => by simp [pR, den]⟩
  | n + 1, out, [], b, hn, ho, ha, hb, hl => ⟨ho, fun x _ => by simp [pR, den]⟩
  | n + 1, out, s :: a, [], hn, ho, ha, hb, hl => ⟨ho, fun x _ => by simp [pR, den]⟩
  | n + 1, out, s :: a, u :: b, hn, ho, ha, hb, hl => by
    have hs := xP ha
    have hu := xP hb
    obtain ⟨s1, s2⟩ := zZ hs
    obtain ⟨u1, u2⟩ := zZ hu
    have ho2 := add_ok (d := yL s.hi u.hi) ho (fun t ht => hl t ht s rfl u rfl)
    have mx := dY s1 u1
    have mn := minC_may s2 u2
    have hout : ∀ t ∈ out.getLast?, t.hi.may = true := fun t ht => (zZ (x4 ho t (List.mem_of_getLast? ht))).2
    unfold pR
    split
    · rename_i h
      have hle := min_is.1 h
      have ih := and_go n (gS out (yS s.lo u.lo) (yL s.hi u.hi)) a (u :: b) (by simp at hn ⊢; omega) ho2 (kL ha) hb (fun t ht s' hs' u' hu' => by
        obtain rfl : u = u' := Option.some.inj hu'
        have hsa := kZ ha s' (List.mem_of_mem_head? hs')
        have ms' := (zZ (x4 ha s' (List.mem_cons_of_mem _ (List.mem_of_mem_head? hs')))).1
        rcases add_last t ht with rfl | ⟨h3, h4⟩
        · show zL (yL s.hi u.hi) _ < 0
          rw [← h]
          exact maxC_one ms' u1 s2 hsa
        · exact maxC_up s1 u1 ms' u1 (hout t h3) (by have := xM s1 s2 ms' (u7 hs) hsa; omega) (by rw [kW]; decide) (hl t h3 s rfl u rfl))
      refine ⟨ih.1, fun x hx => ?_⟩
      rw [ih.2 x hx, add_den mx mn hx, in_both hs hu hx, bQ s, bQ u]
      cases hi : kX s x with
      | false => simp
      | true =>
        have hxs : zL x s.hi < 0 := by unfold kX at hi; simp at hi; exact hi.2
        rw [bR hb hx (by have := uX hx s2 u2 hxs hle; omega), bR ha hx (by omega)]
        simp
    · rename_i h
      have hgt : ¬ zL s.hi u.hi ≤ 0 := fun h2 => h (min_is.2 h2)
      have hlt : zL u.hi s.hi < 0 := clt_flip hgt
      have hmin : yL s.hi u.hi = u.hi := by unfold yL; rw [if_pos (by omega)]
      have ih := and_go n (gS out (yS s.lo u.lo) (yL s.hi u.hi)) (s :: a) b (by simp at hn ⊢; omega) ho2 ha (kL hb) (fun t ht s' hs' u' hu' => by
        obtain rfl : s = s' := Option.some.inj hs'
        have hub := kZ hb u' (List.mem_of_mem_head? hu')
        have mu' := (zZ (x4 hb u' (List.mem_cons_of_mem _ (List.mem_of_mem_head? hu')))).1
        rcases add_last t ht with rfl | ⟨h3, h4⟩
        · show zL (yL s.hi u.hi) _ < 0
          rw [hmin]
          exact maxC_two s1 mu' u2 hub
        · exact maxC_up s1 u1 s1 mu' (hout t h3) (by rw [kW]; decide) (by have := xM u1 u2 mu' (u7 hu) hub; omega) (hl t h3 s rfl u rfl))
      refine ⟨ih.1, fun x hx => ?_⟩
      rw [ih.2 x hx, add_den mx mn hx, in_both hs hu hx, bQ s, bQ u]
      cases hi : kX u x with
      | false => simp
      | true =>
        have hxu : zL x u.hi < 0 := by unfold kX at hi; simp at hi; exact hi.2
        rw [bR ha hx (by have := xM hx u2 s2 hxu hlt; omega), bR hb hx (by omega)]
        cases kX s x <;> simp
theorem andG_eq {a b : List Sp} (ha : zK a = true) (hb : zK b = true) : pR (a.length + b.length) [] a b = wC a b := by
  have h1 := and_go (a.length + b.length) [] a b (Nat.le_refl _) rfl ha hb (fun t ht => by simp at ht)
  have h2 := tX ha hb
  refine wJ _ _ h1.1 h2.1 fun c hc he => ?_
  rw [h2.2 c hc he, h1.2 c hc]
  simp [den]
def vS (out : List Sp) (s : Sp) : List Sp :=
  match out.getLast? with
  | none => [s]
  | some t => if zL t.hi s.lo < 0 then out ++ [s] else out.dropLast ++ [⟨t.lo, yS t.hi s.hi⟩]
theorem in_merge {s t : Sp} {x : Cu} (hs : s.may = true) (ht : t.may = true) (hx : x.may = true) (h1 : zL t.lo s.lo ≤ 0) (h2 : zL s.lo t.hi ≤ 0) : kX ⟨t.lo, yS t.hi s.hi⟩ x = (kX t x || kX s x) := by
  obtain ⟨s1, s2⟩ := zZ hs
  obtain ⟨t1, t2⟩ := zZ ht
  unfold kX
  show (decide (zL t.lo x ≤ 0) && decide (zL x (yS t.hi s.hi) < 0)) = _
  by_cases c1 : zL t.lo x ≤ 0
  · rw [decide_eq_true c1]
    unfold yS
    split
    · rename_i h
      by_cases c2 : zL x s.hi < 0
      · rw [decide_eq_true (show zL x t.hi < 0 from xM hx s2 t2 c2 (by have := xD (a := t.hi) (b := s.hi); omega))]; simp
      · rw [decide_eq_false c2]; simp
    · rename_i h
      by_cases c2 : zL x t.hi < 0
      · rw [decide_eq_true c2, decide_eq_true (show zL x s.hi < 0 from uX hx t2 s2 c2 (by omega))]; simp
      · rw [decide_eq_false c2, decide_eq_true (show zL s.lo x ≤ 0 from qN s1 t2 hx h2 (jB c2))]; simp
  · rw [decide_eq_false c1, decide_eq_false (show ¬ zL s.lo x ≤ 0 from fun h => c1 (qN t1 s1 hx h1 h))]; simp
theorem mstep_ok {out : List Sp} {s : Sp} (ho : zK out = true) (hs : s.may = true) (hl : ∀ t ∈ out.getLast?, zL t.lo s.lo ≤ 0) :
    zK (vS out s) = true ∧ (∀ t ∈ (vS out s).getLast?, t.lo = s.lo ∨ ∃ t' ∈ out.getLast?, t.lo = t'.lo) ∧ ∀ x : Cu, x.may = true → den (vS out s) x = (den out x || kX s x) := by
  unfold vS
  cases hg : out.getLast? with
  | none =>
    have : out = [] := by simpa using hg
    subst this
    refine ⟨jT (l := []) rfl hs (fun t ht => by simp at ht), fun t ht => ?_, fun x _ => by simp [den]⟩
    obtain rfl : s = t := by simpa using ht
    exact .inl rfl
  | some t =>
    have hlo := hl t hg
    have hsp := last_split hg
    have htm := x4 ho t (List.mem_of_getLast? hg)
    obtain ⟨s1, s2⟩ := zZ hs
    obtain ⟨t1, t2⟩ := zZ htm
    dsimp only
    split
    · rename_i h
      refine ⟨jT ho hs (fun t' ht' => by rw [hg] at ht'; obtain rfl := Option.some.inj ht'; exact h), fun t' ht' => ?_, fun x _ => by rw [wO]; simp [den]⟩
      rw [List.getLast?_concat] at ht'
      obtain rfl := Option.some.inj ht'
      exact .inl rfl
    · rename_i h
      have hi := row_init (hsp ▸ ho)
      have hmay : (Sp.mk t.lo (yS t.hi s.hi)).may = true := bA (uX t1 t2 (dY t2 s2) (u7 htm) (maxC_ge t2 s2).1)
      refine ⟨jT hi.1 hmay (fun x hx => hi.2 x hx), fun t' ht' => ?_, fun x hx => ?_⟩
      · rw [List.getLast?_concat] at ht'
        obtain rfl := Option.some.inj ht'
        exact .inr ⟨t, rfl, rfl⟩
      · rw [wO]
        conv => rhs; rw [hsp, wO]
        have e := in_merge hs htm hx hlo (jB h)
        simp only [den, List.any_cons, List.any_nil, Bool.or_false] at e ⊢
        rw [e, Bool.or_assoc]
def dI : List Sp → Prop
  | [] => True
  | s :: r => (∀ t ∈ r, zL s.lo t.lo ≤ 0) ∧ dI r
theorem merge_go : ∀ (l out : List Sp), (∀ s ∈ l, s.may = true) → dI l → zK out = true → (∀ t ∈ out.getLast?, ∀ s ∈ l, zL t.lo s.lo ≤ 0) →
    zK (l.foldl vS out) = true ∧ ∀ x : Cu, x.may = true → den (l.foldl vS out) x = (den out x || den l x)
  | [], out, _, _, ho, _ => ⟨ho, fun x _ => by simp [den]⟩
  | s :: r, out, hm, hso, ho, hl => by
    have h1 := mstep_ok ho (hm s (List.mem_cons_self ..)) (fun t ht => hl t ht s (List.mem_cons_self ..))
    have ih := merge_go r (vS out s) (fun t ht => hm t (List.mem_cons_of_mem _ ht)) hso.2 h1.1 (fun t ht u hu => by
      rcases h1.2.1 t ht with e | ⟨t', ht', e⟩
      · rw [e]; exact hso.1 u hu
      · rw [e]; exact hl t' ht' u (List.mem_cons_of_mem _ hu))
    refine ⟨ih.1, fun x hx => ?_⟩
    show den (r.foldl vS (vS out s)) x = _
    rw [ih.2 x hx, h1.2.2 x hx, bQ, Bool.or_assoc]
theorem merge_eq {l d : List Sp} (hm : ∀ s ∈ l, s.may = true) (hp : d.Perm l) (hs : dI d) : d.foldl vS [] = vE l := by
  have hmd : ∀ s ∈ d, s.may = true := fun s h => hm s (hp.mem_iff.1 h)
  have h1 := merge_go d [] hmd hs rfl (fun t ht => by simp at ht)
  have h2 := uC hm
  refine wJ _ _ h1.1 h2.1 fun c hc he => ?_
  rw [h2.2 c hc he, h1.2 c hc]
  show (false || den d c) = den l c
  rw [Bool.false_or]
  unfold den
  exact hp.any_eq
theorem mstep_len (out : List Sp) (s : Sp) : (vS out s).length ≤ out.length + 1 := by
  unfold vS
  split
  · simp
  · split
    · simp
    · first | (simp; done) | (simp; omega)
end
section
theorem tM (c : UInt8) : ∀ s : List UInt8, s.length = (y8 c s).1.length + (if (y8 c s).2.2 then 1 + (y8 c s).2.1.length else 0)
  | [] => rfl
  | b :: r => by
    unfold y8
    have ih := tM c r
    by_cases h : b = c
    · first | (simp [h]; done) | (subst h; simp; omega) | (simp [h]; omega)
    · first | (simp [h] at ih ⊢; omega) | (simp [h, Ne.symm h] at ih ⊢; omega)
theorem cutGo_short : ∀ (n : Nat) (s : List UInt8), (gF n s).2 = true → s.length ≤ 9 * n
  | 0, s, h => by simp [gF] at h
  | n + 1, s, h => by
    have hl := tM 46 s
    cases ht : gB (y8 46 s).1 with
    | false => rw [cutGo_bad n s ht] at h; cases h
    | true =>
      have h8 : (y8 46 s).1.length ≤ 8 := Nat.le_of_not_lt fun h2 => by rw [mN h2] at ht; cases ht
      cases hm : (y8 46 s).2.2 with
      | false => rw [hm] at hl; simp at hl; omega
      | true =>
        rw [cutGo_on n s ht hm] at h
        have ih := cutGo_short n _ h
        rw [hm] at hl; simp at hl; omega
theorem preOk_short {s : List UInt8} (h : vO s = true) : s.length ≤ 36 := by
  rw [preOk_lst, Bool.and_eq_true] at h
  have h1 := h.1
  unfold lst at h1
  split at h1
  · rename_i h0
    have : s = [] := by simpa using h0
    subst this; exact Nat.zero_le _
  · have := cutGo_short _ _ h1; omega
theorem may_short {v : Ver} (h : v.may = true) (hb : v.build = []) : v.short := ⟨by have := preOk_short (fP h); omega, by rw [hb]; exact Nat.zero_le _⟩
theorem cu_short {c : Cu} (h : c.may = true) : c.short := may_short (vD h) (qW h)
theorem sp_short {s : Sp} (h : s.may = true) : s.short := ⟨cu_short (zZ h).1, cu_short (zZ h).2⟩
structure RF (l : List Sp) (n : Nat) : Prop where
  may : zK l = true
  len : l.length ≤ n
theorem RF.short {l : List Sp} {n : Nat} (h : RF l n) : yU l := fun s hs => sp_short (x4 h.may s hs)
theorem cuts_len {l : List Sp} (hl : ∀ s ∈ l, s.may = true) : (kV l).length ≤ 2 + 2 * l.length := by
  have h := (bS l (fun s hs => sp_short (hl s hs)) l.length (Nat.le_refl _)).1
  rwa [List.take_length] at h
theorem RF.make {l : List Sp} {n : Nat} (hl : ∀ s ∈ l, s.may = true) (hn : l.length ≤ n) : RF (vE l) (2 + 2 * n) := ⟨(uC hl).1, by
  have h1 := build_len (inL l) (kV l) []
  have h2 := cuts_len hl
  unfold vE
  rw [List.length_nil] at h1
  omega⟩
theorem RF.or {a b : List Sp} {n m : Nat} (ha : RF a n) (hb : RF b m) : RF (orL a b) (2 + 2 * (n + m)) := RF.make (uY ha.may hb.may) (by rw [List.length_append]; have := ha.len; have := hb.len; omega)
section
variable {a b c : List Sp} (ha : zK a = true) (hb : zK b = true) (hc : zK c = true)
include ha in
theorem not_not4 : vW (vW a) = a := wJ _ _ (wQ (wQ ha).1).1 ha fun x hx he => by
  rw [(wQ (wQ ha).1).2 x hx he, (wQ ha).2 x hx he, Bool.not_not]
include ha hb in
end
theorem jH {v : Ver} (hv : v.may = true) : zL (wP v) (zY 1) < 0 := by
  have h1 := le_last (qI hv)
  have h2 : zL (wP v) (zY 1) ≠ 0 := fun e => by
    have := (cut_eq (qI hv) uQ).1 e
    have h3 := congrArg Cu.e this
    simp [wP, zY] at h3
  omega
theorem has_or4 {a b : List Sp} {v : Ver} (ha : zK a = true) (hb : zK b = true) (hv : v.may = true) : xH (orL a b) v = (xH a v || xH b v) := by
  rw [vH (or_ok ha hb).1 hv, vH ha hv, vH hb hv, (or_ok ha hb).2 _ (qI hv) (jH hv)]
theorem has_and4 {a b : List Sp} {v : Ver} (ha : zK a = true) (hb : zK b = true) (hv : v.may = true) : xH (wC a b) v = (xH a v && xH b v) := by
  rw [vH (tX ha hb).1 hv, vH ha hv, vH hb hv, (tX ha hb).2 _ (qI hv) (jH hv)]
end
section
section
variable {M : List Nat} {P : Program} {n : Nat} {W : World} {Q : Exit → Act → World → Prop} {L : List Blk} {f : Nat → Value}
theorem wT {fn : Func} {R : Ending → World → Prop} {p q : Tmp} {ty tz : TypeId} (i j : Nat) (x y : Blk) {off oft : Nat} (v v' : Value) (hres : fn.results = #[.cell p ty, .cell q tz]) (hL : L[i]? = some x) (hL' : L[j]? = some y)
    (hp : ev n f (.tmp p) = .pointer (some ⟨x.b, off, none⟩)) (hq : ev n f (.tmp q) = .pointer (some ⟨y.b, oft, none⟩)) (hv : kS P ty x.cs off = some v) (hv' : kS P tz y.cs oft = some v') (hR : ∀ w, Own M W w L → R (.returned (.tuple #[v, v'])) w) : Fin M n W (bodyPost P fn R) .ret L f := ⟨fun w hO => by
  refine bodyPost_ret (v := .tuple #[v, v']) ?_ rfl (hR w hO)
  have e : (Fr n f).tmps.getD p undef = .pointer (some ⟨x.b, off, none⟩) := (qX n f p).trans hp
  have e' : (Fr n f).tmps[p]?.getD undef = .pointer (some ⟨x.b, off, none⟩) := by simpa using e
  have e2 : (Fr n f).tmps.getD q undef = .pointer (some ⟨y.b, oft, none⟩) := (qX n f q).trans hq
  have e2' : (Fr n f).tmps[q]?.getD undef = .pointer (some ⟨y.b, oft, none⟩) := by simpa using e2
  have h1 := gT hv (hO.get hL)
  have h2 := gT hv' (hO.get hL')
  simp [results, hres, e', e2', asAddr, h1, h2]⟩
def JoinQ (M : List Nat) (n : Nat) (W : World) (R : List Blk → (Nat → Value) → Prop) : Exit → Act → World → Prop
  | .normal, a, w => ∃ L f, R L f ∧ Own M W w L ∧ a = Fr n f
  | _, _, _ => False
theorem yA {R : List Blk → (Nat → Value) → Prop} : PQ (JoinQ M n W R) := fun c a d v w h => h
theorem ok_join {c : Code} (R : List Blk → (Nat → Value) → Prop) (h1 : Ok M P n W (JoinQ M n W R) c L f) (h2 : ∀ L f, R L f → Fin M n W Q .normal L f) : Ok M P n W Q c L f := ⟨fun w hO =>
  Code.wp_mono (fun e a w h => by
    cases e with
    | normal =>
      obtain ⟨L', f', hR, hO', rfl⟩ := h
      exact (h2 L' f' hR).go w hO'
    | _ => exact absurd h id) (h1.go w hO)⟩
theorem xV {R : List Blk → (Nat → Value) → Prop} (h : R L f) : Fin M n W (JoinQ M n W R) .normal L f := ⟨fun w hO => ⟨L, f, h, hO, rfl⟩⟩
end
theorem Reads.tail {α : Type} {g : α → List Value} {sz : Nat} (hg : ∀ x, (g x).length = sz) {w : World} {B b off c : Nat} {x : α} {l : List α} (h : Reads g w B (some ⟨b, off, none⟩) (x :: l)) (hc : l.length < c) : Reads g w B (some ⟨b, off + (if c = (1 : Int).toNat then 0 else (1 : Int).toNat * sz), none⟩) l := fun h0 => by
  obtain ⟨b', off', e, hlt, hcell⟩ := h (by simp)
  obtain ⟨rfl, rfl⟩ : b = b' ∧ off = off' := by simp at e; exact e
  refine ⟨b, _, rfl, hlt, fun k u hk => ?_⟩
  rw [if_neg (by show ¬ c = 1; omega)]
  have := hcell (sz + k) u (by rw [List.flatMap_cons, List.getElem?_append_right (by rw [hg]; omega), hg]; rw [show sz + k - sz = k from by omega]; exact hk)
  rw [show off + (1 : Int).toNat * sz + k = off + (sz + k) from by show off + 1 * sz + k = _; omega]
  exact this
end
section
theorem n7 {a b : Cu} (ha : a.short) (hb : b.short) : (yL a b).short := by unfold yL; split <;> assumption
theorem d9 {a b : Cu} (ha : a.short) (hb : b.short) : (yS a b).short := by unfold yS; split <;> assumption
theorem q9 (a b : Cu) (W : World) (ha : a.short) (hb : b.short) :
    Calls Tryz.prog 130 #[zA a, zA b] W fun e w' => e = .returned (.tuple #[zA (yL a b), zA (yS a b)]) ∧ Below W.heap.size W w' := by
  refine zR (n := 14) Tryz.func130 rfl (by kernel_rfl) (by kernel_rfl) (ZO (Zb (zA a) (fun b1 => Zb (zA b) (fun b2 => Za (.agg #[.int .i64 0, .int .i64 0, .int .i64 0, .int .i64 0, .string ⟨#[]⟩, .string ⟨#[]⟩, .bool false]) (fun b3 => Za (.agg #[.int .i64 0, .int .i64 0, .int .i64 0, .int .i64 0, .string ⟨#[]⟩, .string ⟨#[]⟩, .bool false]) (fun b4 => ZN (z7 (z7 (zB ?_)))))))))
  refine Zl 3 ⟨b1, (zA a).cells, 78⟩ (off := 0) (zA a) (Zl 2 ⟨b2, (zA b).cells, 78⟩ (off := 0) (zA b) (Zc (k := 173) (args := #[zA a, zA b]) (.int .i64 (zL a b)) (fun w _ => fA a b w ha hb) ?_))
  by_cases h1 : (0 : Int) < zL a b
  · refine yI (p := (0 : Int) < zL a b) true (by kernel_rfl) (fun _ => by kernel_rfl) (decide_eq_true (h1)) ?_
    refine ZY (z7 (kM [⟨b2, (zA b).cells, 78⟩, ⟨b1, (zA a).cells, 78⟩] (by kernel_rfl) (fun w hO => Own.sub [⟨b4, #[.int .i64 0, .int .i64 0, .int .i64 0, .int .i64 0, .string ⟨#[]⟩, .string ⟨#[]⟩, .bool false], 78⟩, ⟨b3, #[.int .i64 0, .int .i64 0, .int .i64 0, .int .i64 0, .string ⟨#[]⟩, .string ⟨#[]⟩, .bool false], 78⟩] hO) (ZL 0 [⟨b4, #[.int .i64 0, .int .i64 0, .int .i64 0, .int .i64 0, .string ⟨#[]⟩, .string ⟨#[]⟩, .bool false], 78⟩, ⟨b3, #[.int .i64 0, .int .i64 0, .int .i64 0, .int .i64 0, .string ⟨#[]⟩, .string ⟨#[]⟩, .bool false], 78⟩] _ 0 ⟨b2, (zA b).cells, 78⟩ (off := 0) (zA b) (zF (zF zG)) rfl rfl (ZL 1 [⟨b4, #[.int .i64 0, .int .i64 0, .int .i64 0, .int .i64 0, .string ⟨#[]⟩, .string ⟨#[]⟩, .bool false], 78⟩, ⟨b3, #[.int .i64 0, .int .i64 0, .int .i64 0, .int .i64 0, .string ⟨#[]⟩, .string ⟨#[]⟩, .bool false], 78⟩] _ 1 ⟨b1, (zA a).cells, 78⟩ (off := 0) (zA a) (zF (zF zG)) rfl rfl (zX 2 (by kernel_rfl) (ZS [⟨b4, #[.int .i64 0, .int .i64 0, .int .i64 0, .int .i64 0, .string ⟨#[]⟩, .string ⟨#[]⟩, .bool false], 78⟩, ⟨b3, #[.int .i64 0, .int .i64 0, .int .i64 0, .int .i64 0, .string ⟨#[]⟩, .string ⟨#[]⟩, .bool false], 78⟩] _ 1 ⟨b3, #[.int .i64 0, .int .i64 0, .int .i64 0, .int .i64 0, .string ⟨#[]⟩, .string ⟨#[]⟩, .bool false], 78⟩ (off := 0) (zA b) rfl rfl (zX 3 (by kernel_rfl) (ZS [⟨b4, #[.int .i64 0, .int .i64 0, .int .i64 0, .int .i64 0, .string ⟨#[]⟩, .string ⟨#[]⟩, .bool false], 78⟩, ⟨b3, (zA b).cells, 78⟩] _ 0 ⟨b4, #[.int .i64 0, .int .i64 0, .int .i64 0, .int .i64 0, .string ⟨#[]⟩, .string ⟨#[]⟩, .bool false], 78⟩ (off := 0) (zA a) rfl rfl (x3 (by kernel_rfl) ?_)))))))))
    exact zC (zD (z6 (wT 1 0 ⟨b3, (zA b).cells, 78⟩ ⟨b4, (zA a).cells, 78⟩ (off := 0) (oft := 0) (zA b) (zA a) Tryz.results130 (by kernel_rfl) (by kernel_rfl) (by kernel_rfl) (by kernel_rfl) (by kernel_rfl) (by kernel_rfl) (fun w hO => ⟨by unfold yL yS; simp only [h1, if_true, if_false], hO.below⟩))))
  refine Zd (p := (0 : Int) < zL a b) false (decide_eq_false (h1)) (ZX (ZB (z7 (kM [⟨b2, (zA b).cells, 78⟩, ⟨b1, (zA a).cells, 78⟩] (by kernel_rfl) (fun w hO => Own.sub [⟨b4, #[.int .i64 0, .int .i64 0, .int .i64 0, .int .i64 0, .string ⟨#[]⟩, .string ⟨#[]⟩, .bool false], 78⟩, ⟨b3, #[.int .i64 0, .int .i64 0, .int .i64 0, .int .i64 0, .string ⟨#[]⟩, .string ⟨#[]⟩, .bool false], 78⟩] hO) (ZL 0 [⟨b4, #[.int .i64 0, .int .i64 0, .int .i64 0, .int .i64 0, .string ⟨#[]⟩, .string ⟨#[]⟩, .bool false], 78⟩, ⟨b3, #[.int .i64 0, .int .i64 0, .int .i64 0, .int .i64 0, .string ⟨#[]⟩, .string ⟨#[]⟩, .bool false], 78⟩] _ 1 ⟨b1, (zA a).cells, 78⟩ (off := 0) (zA a) (zF zG) rfl rfl (ZL 1 [⟨b4, #[.int .i64 0, .int .i64 0, .int .i64 0, .int .i64 0, .string ⟨#[]⟩, .string ⟨#[]⟩, .bool false], 78⟩, ⟨b3, #[.int .i64 0, .int .i64 0, .int .i64 0, .int .i64 0, .string ⟨#[]⟩, .string ⟨#[]⟩, .bool false], 78⟩] _ 0 ⟨b2, (zA b).cells, 78⟩ (off := 0) (zA b) (zF zG) rfl rfl (zX 2 (by kernel_rfl) (ZS [⟨b4, #[.int .i64 0, .int .i64 0, .int .i64 0, .int .i64 0, .string ⟨#[]⟩, .string ⟨#[]⟩, .bool false], 78⟩, ⟨b3, #[.int .i64 0, .int .i64 0, .int .i64 0, .int .i64 0, .string ⟨#[]⟩, .string ⟨#[]⟩, .bool false], 78⟩] _ 1 ⟨b3, #[.int .i64 0, .int .i64 0, .int .i64 0, .int .i64 0, .string ⟨#[]⟩, .string ⟨#[]⟩, .bool false], 78⟩ (off := 0) (zA a) rfl rfl ?_))))))))
  exact zX 3 (by kernel_rfl) (ZS [⟨b4, #[.int .i64 0, .int .i64 0, .int .i64 0, .int .i64 0, .string ⟨#[]⟩, .string ⟨#[]⟩, .bool false], 78⟩, ⟨b3, (zA a).cells, 78⟩] _ 0 ⟨b4, #[.int .i64 0, .int .i64 0, .int .i64 0, .int .i64 0, .string ⟨#[]⟩, .string ⟨#[]⟩, .bool false], 78⟩ (off := 0) (zA b) rfl rfl (x3 (by kernel_rfl) (zC (zD (wT 1 0 ⟨b3, (zA a).cells, 78⟩ ⟨b4, (zA b).cells, 78⟩ (off := 0) (oft := 0) (zA a) (zA b) Tryz.results130 (by kernel_rfl) (by kernel_rfl) (by kernel_rfl) (by kernel_rfl) (by kernel_rfl) (by kernel_rfl) (fun w hO => ⟨by unfold yL yS; simp only [h1, if_true, if_false], hO.below⟩))))))
def idxP (v : Ver) : List Sp → Int → Int
  | [], _ => -1
  | s :: r, k => if gV s v then k else idxP v r (k + 1)
end
section
theorem may_drop : ∀ (a b : List Sp), zK (a ++ b) = true → zK b = true
  | [], _, h => h
  | _ :: a, b, h => may_drop a b (kL h)
theorem may_take_bad {l : List Sp} {k : Nat} (hk : k < l.length) (h : l[k].may = false) : zK l = false := by
  cases h2 : zK l with
  | false => rfl
  | true => rw [x4 h2 _ (List.getElem_mem hk)] at h; cases h
theorem may_step {l : List Sp} {k : Nat} (hk : k < l.length) (h : zK (l.take k) = true) (hs : l[k].may = true) (hp : 0 < k → zL (l[k - 1]'(by omega)).hi l[k].lo < 0) : zK (l.take (k + 1)) = true := by
  rw [List.take_succ_eq_append_getElem hk]
  refine jT h hs (fun s hs2 => ?_)
  by_cases h0 : k = 0
  · subst h0; simp at hs2
  · have e : s = l[k - 1]'(by omega) := by
      rw [List.getLast?_eq_getElem?, List.length_take, Nat.min_eq_left (by omega), List.getElem?_take, if_pos (by omega), List.getElem?_eq_getElem (by omega)] at hs2
      exact (Option.some.inj hs2).symm
    rw [e]; exact hp (by omega)
theorem may_not {l : List Sp} {k : Nat} (hk : k < l.length) (h0 : 0 < k) (h : ¬ zL (l[k - 1]'(by omega)).hi l[k].lo < 0) : zK l = false := by
  cases h2 : zK l with
  | false => rfl
  | true =>
    refine absurd ?_ h
    have e : l = l.take (k - 1) ++ (l[k - 1]'(by omega)) :: l[k] :: l.drop (k + 1) := by
      have e1 := (List.take_append_drop (k - 1) l).symm
      rw [List.drop_eq_getElem_cons (show k - 1 < l.length by omega)] at e1
      have e2 : l.drop (k - 1 + 1) = l[k] :: l.drop (k + 1) := by
        rw [show k - 1 + 1 = k from by omega, List.drop_eq_getElem_cons hk]
      rw [e2] at e1; exact e1
    have h3 : zK ((l[k - 1]'(by omega)) :: l[k] :: l.drop (k + 1)) = true := may_drop (l.take (k - 1)) _ (e ▸ h2)
    exact kZ h3 _ (List.mem_cons_self ..)
theorem j7 (A : Option Addr) (cap : Nat) (l : List Sp) (W : World) (hv : Reads yT W W.heap.size A l) (hn : l.length ≤ 1000000) (hl : yU l) :
    Calls Tryz.prog 129 #[.slice A l.length cap] W fun e w' => e = .returned (.bool (zK l)) ∧ Below W.heap.size W w' := by
  refine zR (n := 30) Tryz.func129 rfl (by kernel_rfl) (by kernel_rfl) (ZO (Zv (.bool false) (ZN (z7 (ZO (Zv (.slice A l.length cap) (Zv (.int .i64 (l.length : Int)) (Zv (.int .i64 0) ?_))))))))
  refine ZN (zN (x9 (fun L f m => ∃ (k : Nat) (j : Nat → Value), (k ≤ l.length ∧ zK (l.take k) = true) ∧ L = [] ∧ f = g7 j [(0, .slice A l.length cap), (5, .slice A l.length cap), (6, .int .i64 (l.length : Int)), (7, .int .i64 (k : Int))] ∧ m = l.length - k) (l.length - 0) ⟨0, _, ⟨Nat.zero_le _, by rw [List.take_zero]; rfl⟩, rfl, ZU, rfl⟩ ?_))
  rintro L f m ⟨k, j, hrel, rfl, rfl, rfl⟩
  have hkl := hrel.1
  refine z7 (zB ?_)
  by_cases h1 : (k : Int) < (l.length : Int)
  · have hk : k < l.length := by omega
    obtain ⟨b, off, hA, hlt, hcell⟩ := hv (by omega)
    obtain ⟨s, hs⟩ : ∃ s, l[k] = s := ⟨_, rfl⟩
    have hsk : s.short := hs ▸ hl l[k] (List.getElem_mem hk)
    refine Zd (p := (k : Int) < (l.length : Int)) true (decide_eq_true (h1)) (ZN (z7 (Zt (ZB (z7 (zN (ZO (Zv (.int .i64 (k : Int)) ?_))))))))
    refine y5 (.pointer (some ⟨b, off + k * 14, none⟩)) (by kernel_rfl) (ZA (b := b) (off := off) (c := cap) (n := l.length) (k := .i64) (j := (k : Int)) (e := 80) (sz := 14) hA) (Zo (yF s) (a := ⟨b, off + k * 14, none⟩) (fun w hO => yP zV (fun j u h => (hO.below.cell (p := ⟨b, off + j, none⟩) hlt).trans (hcell j u h)) k 0 hk (by omega) _ (by rw [hs]; kernel_rfl)) (Za (.agg #[.int .i64 0, .int .i64 0, .int .i64 0, .int .i64 0, .string ⟨#[]⟩, .string ⟨#[]⟩, .bool false, .int .i64 0, .int .i64 0, .int .i64 0, .int .i64 0, .string ⟨#[]⟩, .string ⟨#[]⟩, .bool false]) (fun b1 => Zv (.int .i64 (k : Int)) (Zs 0 ⟨b1, #[.int .i64 0, .int .i64 0, .int .i64 0, .int .i64 0, .string ⟨#[]⟩, .string ⟨#[]⟩, .bool false, .int .i64 0, .int .i64 0, .int .i64 0, .int .i64 0, .string ⟨#[]⟩, .string ⟨#[]⟩, .bool false], 80⟩ (off := 0) (yF s) (ZN (z7 (ZO (Zl 0 ⟨b1, (yF s).cells, 80⟩ (off := 0) (yF s) (Zc (k := 139) (args := #[yF s]) (.bool s.may) (fun w _ => wH s w hsk) ?_)))))))))
    cases h2 : s.may with
    | true =>
      refine Zv (.bool false) (ZX (ZB (z7 (qP (by kernel_rfl) (by kernel_rfl) (Zw (.int .i64 (k : Int)) ?_)))))
      by_cases h3 : (0 : Int) < (k : Int)
      · have hk1 : k - 1 < l.length := by omega
        obtain ⟨p, hp⟩ : ∃ p, l[k - 1] = p := ⟨_, rfl⟩
        have hpk : p.short := hp ▸ hl l[k - 1] (List.getElem_mem hk1)
        refine Ze (p := (0 : Int) < (k : Int)) true (decide_eq_true (h3)) (Zw (.bool true) (Zw (.slice A l.length cap) (Zw (.int .i64 (k : Int)) (q_sum (k := .i64) (((k : Int) : Int) - 1) (by kernel_rfl) (fun _ => by kernel_rfl) (IntWalk.i64_in _ (by omega)) (gD (.pointer (some ⟨b, off + (k - 1) * 14, none⟩)) (by kernel_rfl) (ZA (b := b) (off := off) (c := cap) (n := l.length) (k := .i64) (j := (k : Int) - 1) (e := 80) (sz := 14) hA) (Zw (.pointer (some ⟨b, off + (k - 1) * 14 + 7, none⟩)) (mE (zA p.hi) (a := ⟨b, off + (k - 1) * 14 + 7, none⟩) (by kernel_rfl) rfl (by kernel_rfl) (fun w hO => yP zV (fun j u h => (hO.below.cell (p := ⟨b, off + j, none⟩) hlt).trans (hcell j u h)) (k - 1) 7 (by omega) (by omega) _ (by rw [hp]; kernel_rfl)) (Zw (.pointer (some ⟨b1, 0, none⟩)) (Zm 0 ⟨b1, (yF s).cells, 80⟩ (off := 0) (.agg #[.int .i64 s.lo.e, .int .i64 s.lo.v.maj, .int .i64 s.lo.v.min, .int .i64 s.lo.v.pat, .string (mkS s.lo.v.pre), .string (mkS s.lo.v.build), .bool s.lo.aft]) (Zq (k := 173) (args := #[zA p.hi, .agg #[.int .i64 s.lo.e, .int .i64 s.lo.v.maj, .int .i64 s.lo.v.min, .int .i64 s.lo.v.pat, .string (mkS s.lo.v.pre), .string (mkS s.lo.v.build), .bool s.lo.aft]]) (.int .i64 (zL p.hi s.lo)) (fun w _ => fA p.hi s.lo w hpk.2 hsk.1) ?_))))))))))
        by_cases h4 : (0 : Int) ≤ zL p.hi s.lo
        · refine mF (p := (0 : Int) ≤ zL p.hi s.lo) true (by kernel_rfl) (fun _ => by kernel_rfl) (decide_eq_true (h4)) ?_
          refine Zw (.bool true) (g0 (zC (Zt (ZO (Zv (.bool false) (ZN (zD (zI (z6 ?_)))))))))
          exact yB (zI (z6 (ZF (.bool false) Tryz.results129 (fun w hO => ⟨by rw [may_not hk (by omega) (by simp only [hp, hs]; omega)], hO.below⟩))))
        refine Ze (p := (0 : Int) ≤ zL p.hi s.lo) false (decide_eq_false (h4)) (Zw (.bool false) (g0 (zC (Zf (xB (zS (zC (zB (Zu (k := .i64) (((k + 1 : Nat) : Int)) (IntWalk.i64_in _ (by omega)) (Zv (.int .i64 ((k + 1 : Nat) : Int)) (zT ?_)))))))))))
        have hnext : zK (l.take (k + 1)) = true := may_step hk hrel.2 (by rw [hs]; assumption) (fun h0 => by simp only [hp, hs]; omega)
        exact kF (fun w hO => Own.sub [_] hO) (zW (m' := l.length - (k + 1)) (by omega) ⟨k + 1, _, ⟨by omega, hnext⟩, rfl, ZU, rfl⟩)
      refine Ze (p := (0 : Int) < (k : Int)) false (decide_eq_false (h3)) (Zw (.bool false) (Zj (Zj (Zj (Zj (Zj (Zj (Zj (Zj (Zj (Zj ?_)))))))))))
      refine Zw (.bool false) (g0 (zC (Zf (xB (zS (zC (zB (Zu (k := .i64) (((k + 1 : Nat) : Int)) (IntWalk.i64_in _ (by omega)) (Zv (.int .i64 ((k + 1 : Nat) : Int)) (zT ?_))))))))))
      have hnext : zK (l.take (k + 1)) = true := may_step hk hrel.2 (by rw [hs]; assumption) (fun h0 => absurd h0 (by omega))
      exact kF (fun w hO => Own.sub [_] hO) (zW (m' := l.length - (k + 1)) (by omega) ⟨k + 1, _, ⟨by omega, hnext⟩, rfl, ZU, rfl⟩)
    | false =>
      refine Zv (.bool true) (ZY (ZO (Zv (.bool false) (ZN (zD (z6 (zI ?_)))))))
      exact z6 (yB (zI (z6 (ZF (.bool false) Tryz.results129 (fun w hO => ⟨by rw [may_take_bad hk (by rw [hs]; assumption)], hO.below⟩)))))
  refine Zd (p := (k : Int) < (l.length : Int)) false (decide_eq_false (h1)) (ZN (z7 (Zf (y7 (z8 (zQ (zJ (zC (z7 (zB ?_))))))))))
  exact Zv (.bool true) (ZN (zD (ZF (.bool true) Tryz.results129 (fun w hO => ⟨by have h := hrel.2; rw [List.take_of_length_le (by omega)] at h; rw [h], hO.below⟩))))
end
section
section
variable {M : List Nat} {P : Program} {n0 : Nat} {ops : Array Oper} {W : World} {Q : Exit → Act → World → Prop} {rest : List Oper} {o : Oper} {L : List Blk} {f : Nat → Value}
theorem s_append0 {t tn e : TypeId} {x y : Operand} {i : TypeInfo} {z : Value} {kn : IntKind} {k sz : Nat} (hw : xN ops n0 f o = true) (ho : o.op = .call { callee := .builtin .append, args := #[x, y], argTypes := #[t, tn] })
    (hx : ev n0 f x = .slice none 0 0) (hy : ev n0 f y = .int .i64 k) (ht : P.underlying t = some (.slice e)) (htn : P.underlying tn = some (.int kn)) (hi : P.info? e = some i) (hz : i.zero = some z) (hsz : i.size = sz) (hzs : z.cells.size = sz) (h0 : 0 < k) (hs : 0 < sz)
    (h63 : k ≤ maxLen) (h48 : k * i.bytes ≤ 140737488355328)
    (h : ∀ b cs cap, cs.size = cap * sz → k ≤ cap → cap ≤ maxLen → Seg M P n0 ops W Q rest (⟨b, cs, e⟩ :: L) (upd f o.dst (.slice (some ⟨b, 0, none⟩) k cap))) : Seg M P n0 ops W Q (o :: rest) L f :=
  vZ hw fun w hO => by
    subst hsz
    have hsmall : k ≤ 9223372036854775807 := by simp only [maxLen] at h63; omega
    have hr := Lib.run_append_grow_zeros (P := P) w t tn o.type e i z .i64 kn ht htn hi hz none 0 0 [] (run_firstCells_none w.drew i.size 0 0 0) k h0 hs (by omega) (by omega) (by omega) (by rw [Nat.zero_add, nextslicecap_zero h0]; omega)
    have hge := grownCap_ge w (0 + k) 0 e
    have hcm := grownCap_le_maxLen w (0 + k) 0 e (by omega)
    obtain ⟨cs, hcs⟩ : ∃ cs : Array Value, cs = #[] ++ Builtin.zeroCells z.cells k ++ Builtin.zeroCells z.cells (grownCap w (0 + k) 0 e - (0 + k)) := ⟨_, rfl⟩
    have hr2 : (Builtin.append_ #[t, tn] o.type #[.slice none 0 0, .int .i64 k]).run P w = .ok (.slice (some ⟨w.heap.size, 0, none⟩) k (grownCap w (0 + k) 0 e)) (w.drew.alloc (.cells cs e)) := by rw [hr, hcs, Nat.zero_add]
    have hcz : cs.size = grownCap w (0 + k) 0 e * i.size := by
      rw [hcs]
      simp only [Array.size_append, size_zeroCells, hzs, List.size_toArray, List.length_nil, Array.size_empty]
      rw [Nat.zero_add, ← Nat.add_mul]
      congr 1
      omega
    refine vJ (.slice (some ⟨w.heap.size, 0, none⟩) k (grownCap w (0 + k) 0 e)) (w' := w.drew.alloc (.cells cs e)) ?_ ((h w.heap.size cs (grownCap w (0 + k) 0 e) hcz (by omega) hcm).go _ (Own.alloc (L := L) (drew_own hO) cs e))
    unfold execOp
    simp only [ho, resolve, invoke, builtin, Sem.run_bind, Sem.run_pure, Result.andThen_ok, List.map_toArray, List.map_cons, List.map_nil, hx, hy, hr2]
end
theorem run_sllA {P : Program} {ρ : Operand → Value} {o : Oper} {t e : TypeId} {x y : Operand} {A : Option Addr} {b off n c sz : Nat} {k : IntKind} {j : Int} (ho : o.op = .slice t x (some y) none none) (hx : ρ x = .slice A n c) (hA : A = some ⟨b, off, none⟩) (hy : ρ y = .int k j)
    (hu : P.underlying t = some (.slice e)) (hs : (P.info? e).map (·.size) = some sz) (h0 : 0 ≤ j) (h1 : j ≤ n) (w : World) : (execOp ρ o).run P w = .ok (.value (.slice (some ⟨b, off + (if c = j.toNat then 0 else j.toNat * sz), none⟩) (n - j.toNat) (c - j.toNat))) w := by
  subst hA
  exact dP ho hx hy hu hs h0 h1 w
theorem Reads.drop1 {α : Type} {g : α → List Value} {sz : Nat} (hg : ∀ x, (g x).length = sz) {w : World} {B b off c : Nat} {A : Option Addr} {l : List α} (h : Reads g w B A l) (hA : A = some ⟨b, off, none⟩) (hc : l.length ≤ c) : Reads g w B (some ⟨b, off + (if c = (1 : Int).toNat then 0 else (1 : Int).toNat * sz), none⟩) (l.drop 1) := by
  subst hA
  cases l with
  | nil => exact fun h0 => by simp at h0
  | cons x r => exact h.tail hg (by rw [List.length_cons] at hc; omega)
end
section
section
variable {M : List Nat} {P : Program} {n : Nat} {ops : Array Oper} {W : World} {Q : Exit → Act → World → Prop} {rest : List Oper} {o : Oper} {L : List Blk} {f : Nat → Value} {Qe : List Blk → (Nat → Value) → Prop}
theorem nX (x : Blk) {ty : TypeId} {p : Operand} {off : Nat} (v : Value) (hw : xN ops n f o = true) (ho : o.op = .load ty p) (hL : x ∈ L) (hp : ev n f p = .pointer (some ⟨x.b, off, none⟩)) (hv : kS P ty x.cs off = some v)
    (h : Seg M P n ops W Q rest L (upd f o.dst v)) : Seg M P n ops W Q (o :: rest) L f :=
  s_read v hw (fun _ hO => gN ho hp (gT hv (hO.held x hL))) h
end
end
section
end
section
theorem Own.sublist {M : List Nat} {W w : World} {L L' : List Blk} (h : Own M W w L) (hs : List.Sublist L' L) : Own M W w L' := h.take (fun x hx => hs.subset hx) (h.apart.sublist (hs.map _))
end
section
def bumpN (v : Ver) (k : Nat) : Ver := if k = 0 then Ver.rel (v.maj + 1) 0 0 else if k = 1 then Ver.rel v.maj (v.min + 1) 0 else Ver.rel v.maj v.min (v.pat + 1)
def y9 (v : Ver) (part : Int) : Bool := v.may && decide (0 ≤ part ∧ part < 3) && !(xQ v.maj v.min v.pat part.toNat == 9999)
def yX (v : Ver) (part : Int) : Ver := if y9 v part then bumpN v part.toNat else Ver.zero
def BEnd (v : Ver) (part : Int) (w : World) (e : Ending) (w' : World) : Prop := e = .returned (.tuple #[yE (yX v part), .bool (y9 v part)]) ∧ Below w.heap.size w w'
theorem empty_mk2 (b : List UInt8) : (mkS b).toList.isEmpty = b.isEmpty := by rw [Lib.toList_data, mk_data]
theorem qY {v u : Ver} {part : Int} {b : Bool} {w wr : World} {tmps : Array Value} {old : Array Value} (h2 : tmps.getD 4 undef = .pointer (some ⟨w.heap.size + 1, 0, none⟩)) (h3 : tmps.getD 5 undef = .bool b)
    (hg : wr.heap[w.heap.size + 1]? = some (.cells old 44)) (hbel : Below w.heap.size w wr) (hb : y9 v part = b) (hv : yX v part = u) :
    bodyPost Tryz.prog Tryz.f203 (BEnd v part w) .ret ⟨tmps, []⟩ (wr.setRow (w.heap.size + 1) #[.int .i64 u.maj, .int .i64 u.min, .int .i64 u.pat, .string (mkS u.pre), .string (mkS u.build)]) := by
  have hrow := setRow_heap wr (w.heap.size + 1) _ #[.int .i64 u.maj, .int .i64 u.min, .int .i64 u.pat, .string (mkS u.pre), .string (mkS u.build)] _ _ hg
  have hr := run_loadVar_row (P := Tryz.prog) _ (w.heap.size + 1) 44 44 _ _ _ hrow Tryz.underlying44 rfl (by kernel_rfl)
  have h2' : tmps[4]?.getD undef = .pointer (some ⟨w.heap.size + 1, 0, none⟩) := by simpa using h2
  have h3' : tmps[5]?.getD undef = .bool b := by simpa using h3
  refine bodyPost_ret (v := .tuple #[yE u, .bool b]) (by simp [results, Tryz.results203, asAddr, h2', h3', hr, yE]) rfl ⟨by rw [hv, hb], gR hbel (by omega) _⟩
theorem zeroInt (w : World) : (zeroValue 3).run Tryz.prog w = .ok (.int .i64 0) w := by kernel_rfl
theorem bB {w : World} {N k : Nat} {a b c : Value} (x : Value) (hg : w.heap[N]? = some (.cells #[a, b, c] 88)) : w.setCell ⟨N, k, none⟩ x = w.setRow N ((#[a, b, c] : Array Value).setIfInBounds k x) := setCell_eq_setRow _ _ _ _ _ _ _ hg
theorem uM (w : World) (g : Nat) (a b : Array Value) : (w.setRow g a).setRow g b = w.setRow g b := setRow_setRow _ _ _ _
theorem clear_two {w : World} {N : Nat} {a b c : Int} {old : Array Value} (hg : w.heap[N]? = some (.cells old 88)) (_ho : old.size = 3) :
    (Builtin.clear_ #[40] 0 #[.slice (some ⟨N, 1, none⟩) 2 2]).run Tryz.prog (w.setRow N #[.int .i64 a, .int .i64 b, .int .i64 c]) = .ok (.tuple #[]) (w.setRow N #[.int .i64 a, .int .i64 0, .int .i64 0]) := by
  have h1 := setRow_heap w N old #[.int .i64 a, .int .i64 b, .int .i64 c] _ _ hg
  obtain ⟨n1, m1⟩ := xC (j := 1) h1 (by simp)
  obtain ⟨n2, m2⟩ := xC (j := 2) h1 (by simp)
  have := Lib.run_clear_slice (P := Tryz.prog) (w.setRow N #[.int .i64 a, .int .i64 b, .int .i64 c]) 40 3 0 (.int .i64 0) Tryz.underlying40 zeroInt rfl rfl N 1 2 2 (by omega)
    (fun j hj => by match j, hj with | 0, _ => rw [n1]; rfl | 1, _ => rw [n2]; rfl) (fun j hj => by match j, hj with | 0, _ => exact m1 | 1, _ => exact m2)
  rw [this]
  congr 1
  show ((w.setRow N #[.int .i64 a, .int .i64 b, .int .i64 c]).setCell ⟨N, 1, none⟩ (.int .i64 0)).setCell ⟨N, 2, none⟩ (.int .i64 0) = _
  rw [bB _ h1, uM]
  have h2 := setRow_heap w N old ((#[.int .i64 a, .int .i64 b, .int .i64 c] : Array Value).setIfInBounds 1 (.int .i64 0)) _ _ hg
  rw [bB (a := .int .i64 a) (b := .int .i64 0) (c := .int .i64 c) _ h2, uM]
  rfl
theorem clear_one {w : World} {N : Nat} {a b c : Int} {old : Array Value} (hg : w.heap[N]? = some (.cells old 88)) (_ho : old.size = 3) :
    (Builtin.clear_ #[40] 0 #[.slice (some ⟨N, 2, none⟩) 1 1]).run Tryz.prog (w.setRow N #[.int .i64 a, .int .i64 b, .int .i64 c]) = .ok (.tuple #[]) (w.setRow N #[.int .i64 a, .int .i64 b, .int .i64 0]) := by
  have h1 := setRow_heap w N old #[.int .i64 a, .int .i64 b, .int .i64 c] _ _ hg
  obtain ⟨n2, m2⟩ := xC (j := 2) h1 (by simp)
  have := Lib.run_clear_slice (P := Tryz.prog) (w.setRow N #[.int .i64 a, .int .i64 b, .int .i64 c]) 40 3 0 (.int .i64 0) Tryz.underlying40 zeroInt rfl rfl N 2 1 1 (by omega)
    (fun j hj => by match j, hj with | 0, _ => rw [n2]; rfl) (fun j hj => by match j, hj with | 0, _ => exact m2)
  rw [this]
  congr 1
  show (w.setRow N #[.int .i64 a, .int .i64 b, .int .i64 c]).setCell ⟨N, 2, none⟩ (.int .i64 0) = _
  rw [bB _ h1, uM]
  rfl
theorem clear_none {w : World} (x : Option Addr) (c : Nat) : (Builtin.clear_ #[40] 0 #[.slice x 0 c]).run Tryz.prog w = .ok (.tuple #[]) w := by
  cases x <;> simp [Builtin.clear_, run_underlying Tryz.underlying40]
theorem bump_go (v : Ver) (part : Int) (w : World) (hp : v.pre.length ≤ 1000000) (hq : v.build.length ≤ 1000000) :
    Calls Tryz.prog 203 #[yE v, .int .i64 part] w (BEnd v part w) := by
  have cM := fun w' => j5 v w' (by omega) (by omega)
  have cN := fun w' => dX v w'
  have hN : v.may = true → (0 ≤ v.maj ∧ v.maj ≤ 9999) ∧ (0 ≤ v.min ∧ v.min ≤ 9999) ∧ (0 ≤ v.pat ∧ v.pat ≤ 9999) := fun h => by
    obtain ⟨h1, h2, h3⟩ := j4 h
    unfold yH at h1 h2 h3; simp at h1 h2 h3
    exact ⟨h1, h2, h3⟩
  obtain ⟨u, hu⟩ : ∃ u, u = v := ⟨_, rfl⟩
  have HU := Lib.hid hu
  rw [← hu] at hN
  have hgo : BEnd v part w = BEnd u part w := by rw [hu]
  rw [hgo]
  obtain ⟨m, hm⟩ : ∃ m, u.may = m := ⟨_, rfl⟩
  rw [← hu, hm] at cM
  rw [← hu] at cN ⊢
  clear hgo hu
  obtain ⟨a, b, c, p, q⟩ := u
  unfold yE at cM cN ⊢
  dsimp only at cM cN hN ⊢
  go_enter Tryz.func203, Tryz.ntmps203
  go_wp2_with fail
  refine (cN _).mono ?_
  rintro e w1 ⟨rfl, hb1⟩
  have hz1 := hb1.size
  simp only [y6] at hz1
  have hgB := Lib.hid ((hb1.block w.heap.size (by simp only [y6]; omega)).trans ((k8 _ _ (by simp only [y6]; omega)).trans (gP w _)))
  have hgR := Lib.hid ((hb1.block (w.heap.size + 1) (by simp only [y6]; omega)).trans (wM _ _ _ (by simp only [y6])))
  have hbw : Below w.heap.size w w1 := (((Below.refl _ _).alloc (Nat.le_refl _) _).alloc (by simp only [y6]; omega) _).trans (hb1.mono (by simp only [y6]; omega))
  have hlB : w.heap.size < w1.heap.size := by omega
  go_wp2_with (first | (refine wpList_load_row rfl 44 _ rfl w.heap.size rfl _ _ _ _ ((k8 _ _ hlB).trans hgB.out) Tryz.underlying44 rfl (by kernel_rfl) ?_) | fail)
  refine (cM _).mono ?_
  rintro e w2 ⟨rfl, hb2⟩
  have hz2 := hb2.size
  rw [y6] at hz2
  have hgR2 := Lib.hid ((hb2.block (w.heap.size + 1) (by rw [y6]; omega)).trans ((k8 _ _ (by omega)).trans hgR.out))
  have hgN := Lib.hid ((hb2.block w1.heap.size (by rw [y6]; omega)).trans (gP w1 _))
  have hbw2 : Below w.heap.size w w2 := (hbw.alloc (by omega) _).trans (hb2.mono (by rw [y6]; omega))
  clear hbw hb1 hb2 hgB hgR cM cN
  cases m with
  | false =>
    have HB : Hid (y9 ⟨a, b, c, p, q⟩ part = false) := by show _ = _; unfold y9; rw [hm]; rfl
    clear hm hN
    go_wp2_with (refine wpList_store_row rfl 44 _ _ rfl (w.heap.size + 1) #[.int .i64 0, .int .i64 0, .int .i64 0, .string ⟨#[]⟩, .string ⟨#[]⟩] rfl rfl _ _ hgR2.out (by kernel_rfl) rfl (qF _ _ _ _ _) ?_)
    exact qY (u := Ver.zero) rfl rfl hgR2.out hbw2 HB.out (by unfold yX; rw [HB.out]; rfl)
  | true =>
    obtain ⟨⟨a0, a9⟩, ⟨b0, b9⟩, ⟨c0, c9⟩⟩ := hN hm
    have HM := Lib.hid hm
    clear hN hm
    by_cases p0 : part < 0
    · have HB : Hid (y9 ⟨a, b, c, p, q⟩ part = false) := by show _ = _; unfold y9; rw [decide_eq_false (by omega)]; simp
      go_wp2_with (refine wpList_store_row rfl 44 _ _ rfl (w.heap.size + 1) #[.int .i64 0, .int .i64 0, .int .i64 0, .string ⟨#[]⟩, .string ⟨#[]⟩] rfl rfl _ _ hgR2.out (by kernel_rfl) rfl (qF _ _ _ _ _) ?_)
      exact qY (u := Ver.zero) rfl rfl hgR2.out hbw2 HB.out (by unfold yX; rw [HB.out]; rfl)
    · by_cases p3 : 3 ≤ part
      · have HB : Hid (y9 ⟨a, b, c, p, q⟩ part = false) := by show _ = _; unfold y9; rw [decide_eq_false (by omega)]; simp
        go_wp2_with (refine wpList_store_row rfl 44 _ _ rfl (w.heap.size + 1) #[.int .i64 0, .int .i64 0, .int .i64 0, .string ⟨#[]⟩, .string ⟨#[]⟩] rfl rfl _ _ hgR2.out (by kernel_rfl) rfl (qF _ _ _ _ _) ?_)
        exact qY (u := Ver.zero) rfl rfl hgR2.out hbw2 HB.out (by unfold yX; rw [HB.out]; rfl)
      · obtain ⟨n0, m0⟩ := xC (j := 0) hgN.out (by simp)
        obtain ⟨n1, m1⟩ := xC (j := 1) hgN.out (by simp)
        obtain ⟨n2, m2⟩ := xC (j := 2) hgN.out (by simp)
        simp only [List.getElem_toArray, List.getElem_cons_succ, List.getElem_cons_zero] at n0 n1 n2
        have hpart : part = 0 ∨ part = 1 ∨ part = 2 := by omega
        clear p0 p3
        rcases hpart with rfl | rfl | rfl
        · by_cases h9 : a = 9999
          · have h9b : (a == 9999) = true := by simpa using h9
            have HB : Hid (y9 ⟨a, b, c, p, q⟩ 0 = false) := by show _ = _; unfold y9; rw [show xQ a b c (0 : Int).toNat = a from rfl, h9b]; simp
            clear h9
            go_wp2_with (refine wpList_store_row rfl 44 _ _ rfl (w.heap.size + 1) #[.int .i64 0, .int .i64 0, .int .i64 0, .string ⟨#[]⟩, .string ⟨#[]⟩] rfl rfl _ _ hgR2.out (by kernel_rfl) rfl (qF _ _ _ _ _) ?_)
            exact qY (u := Ver.zero) rfl rfl hgR2.out hbw2 HB.out (by unfold yX; rw [HB.out]; rfl)
          · have h9b : (a == 9999) = false := by simpa using h9
            have HB : Hid (y9 ⟨a, b, c, p, q⟩ 0 = true) := by show _ = _; unfold y9; rw [HM.out, show xQ a b c (0 : Int).toNat = a from rfl, h9b]; rfl
            have hW : (w2.setCell ⟨w1.heap.size, 0, none⟩ (.int .i64 (a + 1))) = w2.setRow w1.heap.size #[.int .i64 (a + 1), .int .i64 (b), .int .i64 (c)] := bB _ hgN.out
            have hcl : (Builtin.clear_ #[40] 0 #[.slice (some ⟨w1.heap.size, 1, none⟩) 2 2]).run Tryz.prog (w2.setRow w1.heap.size #[.int .i64 (a + 1), .int .i64 (b), .int .i64 (c)]) = .ok (.tuple #[]) (w2.setRow w1.heap.size #[.int .i64 (a + 1), .int .i64 (0), .int .i64 (0)]) := clear_two hgN.out rfl
            have hN2 := Lib.hid (setRow_heap w2 w1.heap.size _ #[.int .i64 (a + 1), .int .i64 (0), .int .i64 (0)] _ _ hgN.out)
            have hR2 := Lib.hid ((qV w2 w1.heap.size (w.heap.size + 1) #[.int .i64 (a + 1), .int .i64 (0), .int .i64 (0)] (by omega)).trans hgR2.out)
            have hbR : Below w.heap.size w (w2.setRow w1.heap.size #[.int .i64 (a + 1), .int .i64 (0), .int .i64 (0)]) := gR hbw2 (by omega) _
            have hsR : (w2.setRow w1.heap.size #[.int .i64 (a + 1), .int .i64 (0), .int .i64 (0)]).heap.size = w2.heap.size := by unfold World.setRow; simp
            have HSR := Lib.hid hsR
            clear hsR h9
            go_wp2_with (first
              | (refine wpList_load_row rfl 88 _ rfl w1.heap.size rfl _ _ _ _ hN2.out Tryz.underlying88 rfl (by kernel_rfl) ?_)
              | (go_at_call 206; refine (wK _ _ _ _).mono ?_; unfold yE Ver.rel; rintro e w3 ⟨rfl, hb3⟩; have hR3 := Lib.hid ((hb3.block (w.heap.size + 1) (by rw [HSR.out]; omega)).trans hR2.out); have hbw3 := hbR.trans (hb3.mono hbR.size))
              | (refine wpList_store_row rfl 44 _ _ rfl (w.heap.size + 1) #[.int .i64 (a + 1), .int .i64 (0), .int .i64 (0), .string (mkS []), .string (mkS [])] rfl rfl _ _ hR3.out (by kernel_rfl) rfl (qF _ _ _ _ _) ?_))
            exact qY (u := Ver.rel (a + 1) (0) (0)) rfl rfl hR3.out hbw3 HB.out (by unfold yX; rw [HB.out]; rfl)
        · by_cases h9 : b = 9999
          · have h9b : (b == 9999) = true := by simpa using h9
            have HB : Hid (y9 ⟨a, b, c, p, q⟩ 1 = false) := by show _ = _; unfold y9; rw [show xQ a b c (1 : Int).toNat = b from rfl, h9b]; simp
            clear h9
            go_wp2_with (refine wpList_store_row rfl 44 _ _ rfl (w.heap.size + 1) #[.int .i64 0, .int .i64 0, .int .i64 0, .string ⟨#[]⟩, .string ⟨#[]⟩] rfl rfl _ _ hgR2.out (by kernel_rfl) rfl (qF _ _ _ _ _) ?_)
            exact qY (u := Ver.zero) rfl rfl hgR2.out hbw2 HB.out (by unfold yX; rw [HB.out]; rfl)
          · have h9b : (b == 9999) = false := by simpa using h9
            have HB : Hid (y9 ⟨a, b, c, p, q⟩ 1 = true) := by show _ = _; unfold y9; rw [HM.out, show xQ a b c (1 : Int).toNat = b from rfl, h9b]; rfl
            have hW : (w2.setCell ⟨w1.heap.size, 1, none⟩ (.int .i64 (b + 1))) = w2.setRow w1.heap.size #[.int .i64 (a), .int .i64 (b + 1), .int .i64 (c)] := bB _ hgN.out
            have hcl : (Builtin.clear_ #[40] 0 #[.slice (some ⟨w1.heap.size, 2, none⟩) 1 1]).run Tryz.prog (w2.setRow w1.heap.size #[.int .i64 (a), .int .i64 (b + 1), .int .i64 (c)]) = .ok (.tuple #[]) (w2.setRow w1.heap.size #[.int .i64 (a), .int .i64 (b + 1), .int .i64 (0)]) := clear_one hgN.out rfl
            have hN2 := Lib.hid (setRow_heap w2 w1.heap.size _ #[.int .i64 (a), .int .i64 (b + 1), .int .i64 (0)] _ _ hgN.out)
            have hR2 := Lib.hid ((qV w2 w1.heap.size (w.heap.size + 1) #[.int .i64 (a), .int .i64 (b + 1), .int .i64 (0)] (by omega)).trans hgR2.out)
            have hbR : Below w.heap.size w (w2.setRow w1.heap.size #[.int .i64 (a), .int .i64 (b + 1), .int .i64 (0)]) := gR hbw2 (by omega) _
            have hsR : (w2.setRow w1.heap.size #[.int .i64 (a), .int .i64 (b + 1), .int .i64 (0)]).heap.size = w2.heap.size := by unfold World.setRow; simp
            have HSR := Lib.hid hsR
            clear hsR h9
            go_wp2_with (first
              | (refine wpList_load_row rfl 88 _ rfl w1.heap.size rfl _ _ _ _ hN2.out Tryz.underlying88 rfl (by kernel_rfl) ?_)
              | (go_at_call 206; refine (wK _ _ _ _).mono ?_; unfold yE Ver.rel; rintro e w3 ⟨rfl, hb3⟩; have hR3 := Lib.hid ((hb3.block (w.heap.size + 1) (by rw [HSR.out]; omega)).trans hR2.out); have hbw3 := hbR.trans (hb3.mono hbR.size))
              | (refine wpList_store_row rfl 44 _ _ rfl (w.heap.size + 1) #[.int .i64 (a), .int .i64 (b + 1), .int .i64 (0), .string (mkS []), .string (mkS [])] rfl rfl _ _ hR3.out (by kernel_rfl) rfl (qF _ _ _ _ _) ?_))
            exact qY (u := Ver.rel (a) (b + 1) (0)) rfl rfl hR3.out hbw3 HB.out (by unfold yX; rw [HB.out]; rfl)
        · by_cases h9 : c = 9999
          · have h9b : (c == 9999) = true := by simpa using h9
            have HB : Hid (y9 ⟨a, b, c, p, q⟩ 2 = false) := by show _ = _; unfold y9; rw [show xQ a b c (2 : Int).toNat = c from rfl, h9b]; simp
            clear h9
            go_wp2_with (refine wpList_store_row rfl 44 _ _ rfl (w.heap.size + 1) #[.int .i64 0, .int .i64 0, .int .i64 0, .string ⟨#[]⟩, .string ⟨#[]⟩] rfl rfl _ _ hgR2.out (by kernel_rfl) rfl (qF _ _ _ _ _) ?_)
            exact qY (u := Ver.zero) rfl rfl hgR2.out hbw2 HB.out (by unfold yX; rw [HB.out]; rfl)
          · have h9b : (c == 9999) = false := by simpa using h9
            have HB : Hid (y9 ⟨a, b, c, p, q⟩ 2 = true) := by show _ = _; unfold y9; rw [HM.out, show xQ a b c (2 : Int).toNat = c from rfl, h9b]; rfl
            have hW : (w2.setCell ⟨w1.heap.size, 2, none⟩ (.int .i64 (c + 1))) = w2.setRow w1.heap.size #[.int .i64 (a), .int .i64 (b), .int .i64 (c + 1)] := bB _ hgN.out
            have hcl : (Builtin.clear_ #[40] 0 #[.slice (some ⟨w1.heap.size, 0, none⟩) 0 0]).run Tryz.prog (w2.setRow w1.heap.size #[.int .i64 (a), .int .i64 (b), .int .i64 (c + 1)]) = .ok (.tuple #[]) (w2.setRow w1.heap.size #[.int .i64 (a), .int .i64 (b), .int .i64 (c + 1)]) := clear_none _ _
            have hN2 := Lib.hid (setRow_heap w2 w1.heap.size _ #[.int .i64 (a), .int .i64 (b), .int .i64 (c + 1)] _ _ hgN.out)
            have hR2 := Lib.hid ((qV w2 w1.heap.size (w.heap.size + 1) #[.int .i64 (a), .int .i64 (b), .int .i64 (c + 1)] (by omega)).trans hgR2.out)
            have hbR : Below w.heap.size w (w2.setRow w1.heap.size #[.int .i64 (a), .int .i64 (b), .int .i64 (c + 1)]) := gR hbw2 (by omega) _
            have hsR : (w2.setRow w1.heap.size #[.int .i64 (a), .int .i64 (b), .int .i64 (c + 1)]).heap.size = w2.heap.size := by unfold World.setRow; simp
            have HSR := Lib.hid hsR
            clear hsR h9
            go_wp2_with (first
              | (refine wpList_load_row rfl 88 _ rfl w1.heap.size rfl _ _ _ _ hN2.out Tryz.underlying88 rfl (by kernel_rfl) ?_)
              | (go_at_call 206; refine (wK _ _ _ _).mono ?_; unfold yE Ver.rel; rintro e w3 ⟨rfl, hb3⟩; have hR3 := Lib.hid ((hb3.block (w.heap.size + 1) (by rw [HSR.out]; omega)).trans hR2.out); have hbw3 := hbR.trans (hb3.mono hbR.size))
              | (refine wpList_store_row rfl 44 _ _ rfl (w.heap.size + 1) #[.int .i64 (a), .int .i64 (b), .int .i64 (c + 1), .string (mkS []), .string (mkS [])] rfl rfl _ _ hR3.out (by kernel_rfl) rfl (qF _ _ _ _ _) ?_))
            exact qY (u := Ver.rel (a) (b) (c + 1)) rfl rfl hR3.out hbw3 HB.out (by unfold yX; rw [HB.out]; rfl)
theorem bump_any (v : Ver) (part : Int) (w : World) (hp : v.pre.length ≤ 1000000) (hq : v.build.length ≤ 1000000) :
    Calls Tryz.prog 203 #[yE v, .int .i64 part] w fun e w' => e = .returned (.tuple #[yE (yX v part), .bool (y9 v part)]) ∧ Below w.heap.size w w' := bump_go v part w hp hq
def gA (v : Ver) : Bool := v.may && (!v.pre.isEmpty || y9 v 2 || y9 v 1 || y9 v 0)
def yY (v : Ver) : Ver :=
  if v.may then (if v.pre.isEmpty then (if y9 v 2 then yX v 2 else if y9 v 1 then yX v 1 else if y9 v 0 then yX v 0 else Ver.zero) else Ver.rel v.maj v.min v.pat) else Ver.zero
def NEnd (v : Ver) (w : World) (e : Ending) (w' : World) : Prop := e = .returned (.tuple #[yE (yY v), .bool (gA v)]) ∧ Below w.heap.size w w'
theorem bK {v u : Ver} {b : Bool} {w wr : World} {tmps : Array Value} {old : Array Value} (h2 : tmps.getD 2 undef = .pointer (some ⟨w.heap.size + 1, 0, none⟩)) (h3 : tmps.getD 3 undef = .bool b)
    (hg : wr.heap[w.heap.size + 1]? = some (.cells old 44)) (hbel : Below w.heap.size w wr) (hb : gA v = b) (hv : yY v = u) :
    bodyPost Tryz.prog Tryz.f181 (NEnd v w) .ret ⟨tmps, []⟩ (wr.setRow (w.heap.size + 1) #[.int .i64 u.maj, .int .i64 u.min, .int .i64 u.pat, .string (mkS u.pre), .string (mkS u.build)]) := by
  have hrow := setRow_heap wr (w.heap.size + 1) _ #[.int .i64 u.maj, .int .i64 u.min, .int .i64 u.pat, .string (mkS u.pre), .string (mkS u.build)] _ _ hg
  have hr := run_loadVar_row (P := Tryz.prog) _ (w.heap.size + 1) 44 44 _ _ _ hrow Tryz.underlying44 rfl (by kernel_rfl)
  have h2' : tmps[2]?.getD undef = .pointer (some ⟨w.heap.size + 1, 0, none⟩) := by simpa using h2
  have h3' : tmps[3]?.getD undef = .bool b := by simpa using h3
  refine bodyPost_ret (v := .tuple #[yE u, .bool b]) (by simp [results, Tryz.results181, asAddr, h2', h3', hr, yE]) rfl ⟨by rw [hv, hb], gR hbel (by omega) _⟩
def j8 (v : Ver) : Nat → Ver × Bool
  | 0 => (Ver.zero, false)
  | k + 1 => if y9 v k then (yX v k, true) else j8 v k
theorem fW (v : Ver) (h : (!v.pre.isEmpty && v.may) = false) : yY v = (j8 v 3).1 ∧ gA v = (j8 v 3).2 := by
  unfold yY gA
  show _ = (if y9 v 2 then (yX v 2, true) else if y9 v 1 then (yX v 1, true) else if y9 v 0 then (yX v 0, true) else (Ver.zero, false)).1 ∧ _ = (if y9 v 2 then (yX v 2, true) else if y9 v 1 then (yX v 1, true) else if y9 v 0 then (yX v 0, true) else (Ver.zero, false)).2
  cases hm : v.may with
  | true =>
    rw [hm, Bool.and_true] at h
    rw [h]
    have hp : v.pre.isEmpty = true := by simpa using h
    rw [hp]
    cases y9 v 2 <;> cases y9 v 1 <;> cases y9 v 0 <;> simp
  | false =>
    have hk : ∀ k, y9 v k = false := fun k => by unfold y9; rw [hm]; rfl
    rw [hk, hk, hk]; simp
theorem next_go (v : Ver) (w : World) (hp : v.pre.length ≤ 1000000) (hq : v.build.length ≤ 1000000) :
    Calls Tryz.prog 181 #[yE v] w (NEnd v w) := by
  have cM := fun w' => j5 v w' (by omega) (by omega)
  have cN := fun w' => dX v w'
  have ep := empty_mk2 v.pre
  obtain ⟨a, b, c, p, q⟩ := v
  unfold yE at cM cN ⊢
  dsimp only at cM cN ep hp hq ⊢
  cases he : p.isEmpty with
  | true =>
    have HG : Hid ((!p.isEmpty && (Ver.mk a b c p q).may) = false) := by show _ = _; rw [he]; rfl
    rw [he] at ep
    clear he cM cN
    go_enter Tryz.func181, Tryz.ntmps181
    go_wp2
    go_loopw [4] (fun x wr => ∃ k : Nat, k ≤ 3 ∧ x = .int .i64 ((k : Int) - 1) ∧ wr.heap[w.heap.size]? = some (.cells #[.int .i64 a, .int .i64 b, .int .i64 c, .string (mkS p), .string (mkS q)] 44) ∧ wr.heap[w.heap.size + 1]? = some (.cells #[.int .i64 0, .int .i64 0, .int .i64 0, .string ⟨#[]⟩, .string ⟨#[]⟩] 44) ∧ Below w.heap.size w wr ∧ Hid (j8 ⟨a, b, c, p, q⟩ k = j8 ⟨a, b, c, p, q⟩ 3)) (fun x _ => ((intOf x) + 1).toNat)
    case atStart => exact ⟨3, by omega, rfl, (k8 _ _ (by rw [y6]; omega)).trans (gP w _), wM _ _ _ (by rw [y6]), ((Below.refl _ _).alloc (Nat.le_refl _) _).alloc (by rw [y6]; omega) _, rfl⟩
    case round =>
      obtain ⟨k, hk, rfl, hB, hR, hbel, HR⟩ := hrel
      have hlR := (Array.getElem?_eq_some_iff.1 hR).1
      have HB := Lib.hid hB
      have HR0 := Lib.hid hR
      clear hB hR
      cases k with
      | zero =>
        have HF : Hid (j8 ⟨a, b, c, p, q⟩ 3 = (Ver.zero, false)) := HR.out.symm
        go_wp2_with (refine wpList_store_row rfl 44 _ _ rfl (w.heap.size + 1) #[.int .i64 0, .int .i64 0, .int .i64 0, .string ⟨#[]⟩, .string ⟨#[]⟩] rfl rfl _ _ HR0.out (by kernel_rfl) rfl (qF _ _ _ _ _) ?_)
        have hf := fW ⟨a, b, c, p, q⟩ HG.out
        rw [HF.out] at hf
        exact bK (u := Ver.zero) rfl rfl HR0.out hbel hf.2 hf.1
      | succ k =>
        have hk0 : (0 : Int) ≤ k := by omega
        have hke : (((k + 1 : Nat) : Int) - 1) = (k : Int) := by omega
        rw [hke]
        have cB := fun w' => bump_any ⟨a, b, c, p, q⟩ (k : Int) w' hp hq
        unfold yE at cB
        dsimp only at cB
        cases hb : y9 ⟨a, b, c, p, q⟩ (k : Int) with
        | true =>
          rw [hb] at cB
          obtain ⟨u, hu⟩ : ∃ u, yX ⟨a, b, c, p, q⟩ (k : Int) = u := ⟨_, rfl⟩
          rw [hu] at cB
          have hfq : j8 ⟨a, b, c, p, q⟩ 3 = (u, true) := by rw [← HR.out, j8, hb, hu]; rfl
          have HF := Lib.hid hfq
          clear hfq hb hu hke
          go_wp2_with (first
            | (refine wpList_load_row rfl 44 _ rfl w.heap.size rfl _ _ _ _ HB.out Tryz.underlying44 rfl (by kernel_rfl) ?_)
            | (go_at_call 203; refine (cB _).mono ?_; rintro e w3 ⟨rfl, hb3⟩; have hR3 := Lib.hid ((hb3.block (w.heap.size + 1) hlR).trans HR0.out); have hbw3 := hbel.trans (hb3.mono hbel.size); have hl3 := Nat.lt_of_lt_of_le hlR hb3.size)
            | (refine wpList_store_row rfl 44 _ _ rfl (w.heap.size + 1) #[.int .i64 u.maj, .int .i64 u.min, .int .i64 u.pat, .string (mkS u.pre), .string (mkS u.build)] rfl rfl _ _ ((k8 _ _ hl3).trans hR3.out) (by kernel_rfl) rfl (qF _ _ _ _ _) ?_))
          have hf := fW ⟨a, b, c, p, q⟩ HG.out
          rw [HF.out] at hf
          exact bK (u := u) rfl rfl ((k8 _ _ hl3).trans hR3.out) (hbw3.alloc (by omega) _) hf.2 hf.1
        | false =>
          rw [hb] at cB
          obtain ⟨u, hu⟩ : ∃ u, yX ⟨a, b, c, p, q⟩ (k : Int) = u := ⟨_, rfl⟩
          rw [hu] at cB
          have hfq : j8 ⟨a, b, c, p, q⟩ k = j8 ⟨a, b, c, p, q⟩ 3 := by rw [← HR.out, j8, hb]; rfl
          have HF := Lib.hid hfq
          clear hfq hb hu hke
          go_wp2_with (first
            | (refine wpList_load_row rfl 44 _ rfl w.heap.size rfl _ _ _ _ HB.out Tryz.underlying44 rfl (by kernel_rfl) ?_)
            | (go_at_call 203; refine (cB _).mono ?_; rintro e w3 ⟨rfl, hb3⟩; have hl3 := Nat.lt_of_lt_of_le hlR hb3.size))
          have hR3 := (hb3.block (w.heap.size + 1) hlR).trans HR0.out
          have hB3 := (hb3.block w.heap.size (by omega)).trans HB.out
          have hbw3 := hbel.trans (hb3.mono hbel.size)
          go_roundw
          case rel => exact ⟨k, by omega, rfl, (k8 _ _ (by omega)).trans hB3, (k8 _ _ hl3).trans hR3, hbw3.alloc (by omega) _, HF.out⟩
          case measure => simp [intOf]; try omega
  | false =>
    rw [he] at ep
    obtain ⟨m, hm⟩ : ∃ m, (Ver.mk a b c p q).may = m := ⟨_, rfl⟩
    rw [hm] at cM
    cases m with
    | false =>
      have HG : Hid ((!p.isEmpty && (Ver.mk a b c p q).may) = false) := by show _ = _; rw [hm, Bool.and_false]
      clear he hm cN
      go_enter Tryz.func181, Tryz.ntmps181
      go_wp2_with fail
      refine (cM _).mono ?_
      rintro e w1 ⟨rfl, hb1⟩
      have hgB := (hb1.block w.heap.size (by simp only [y6]; omega)).trans ((k8 _ _ (by simp only [y6]; omega)).trans (gP w _))
      have hgR := (hb1.block (w.heap.size + 1) (by simp only [y6]; omega)).trans (wM _ _ _ (by simp only [y6]))
      have hbw : Below w.heap.size w w1 := (((Below.refl _ _).alloc (Nat.le_refl _) _).alloc (by simp only [y6]; omega) _).trans (hb1.mono (by simp only [y6]; omega))
      have HGB := Lib.hid hgB
      have HGR := Lib.hid hgR
      clear hgB hgR
      go_wp2
      go_loopw [4] (fun x wr => ∃ k : Nat, k ≤ 3 ∧ x = .int .i64 ((k : Int) - 1) ∧ wr.heap[w.heap.size]? = some (.cells #[.int .i64 a, .int .i64 b, .int .i64 c, .string (mkS p), .string (mkS q)] 44) ∧ wr.heap[w.heap.size + 1]? = some (.cells #[.int .i64 0, .int .i64 0, .int .i64 0, .string ⟨#[]⟩, .string ⟨#[]⟩] 44) ∧ Below w.heap.size w wr ∧ Hid (j8 ⟨a, b, c, p, q⟩ k = j8 ⟨a, b, c, p, q⟩ 3)) (fun x _ => ((intOf x) + 1).toNat)
      case atStart => exact ⟨3, by omega, rfl, HGB.out, HGR.out, hbw, rfl⟩
      case round =>
        obtain ⟨k, hk, rfl, hB, hR, hbel, HR⟩ := hrel
        have hlR := (Array.getElem?_eq_some_iff.1 hR).1
        have HB := Lib.hid hB
        have HR0 := Lib.hid hR
        clear hB hR
        cases k with
        | zero =>
          have HF : Hid (j8 ⟨a, b, c, p, q⟩ 3 = (Ver.zero, false)) := HR.out.symm
          go_wp2_with (refine wpList_store_row rfl 44 _ _ rfl (w.heap.size + 1) #[.int .i64 0, .int .i64 0, .int .i64 0, .string ⟨#[]⟩, .string ⟨#[]⟩] rfl rfl _ _ HR0.out (by kernel_rfl) rfl (qF _ _ _ _ _) ?_)
          have hf := fW ⟨a, b, c, p, q⟩ HG.out
          rw [HF.out] at hf
          exact bK (u := Ver.zero) rfl rfl HR0.out hbel hf.2 hf.1
        | succ k =>
          have hk0 : (0 : Int) ≤ k := by omega
          have hke : (((k + 1 : Nat) : Int) - 1) = (k : Int) := by omega
          rw [hke]
          have cB := fun w' => bump_any ⟨a, b, c, p, q⟩ (k : Int) w' hp hq
          unfold yE at cB
          dsimp only at cB
          cases hb : y9 ⟨a, b, c, p, q⟩ (k : Int) with
          | true =>
            rw [hb] at cB
            obtain ⟨u, hu⟩ : ∃ u, yX ⟨a, b, c, p, q⟩ (k : Int) = u := ⟨_, rfl⟩
            rw [hu] at cB
            have hfq : j8 ⟨a, b, c, p, q⟩ 3 = (u, true) := by rw [← HR.out, j8, hb, hu]; rfl
            have HF := Lib.hid hfq
            clear hfq hb hu hke
            go_wp2_with (first
              | (refine wpList_load_row rfl 44 _ rfl w.heap.size rfl _ _ _ _ HB.out Tryz.underlying44 rfl (by kernel_rfl) ?_)
              | (go_at_call 203; refine (cB _).mono ?_; rintro e w3 ⟨rfl, hb3⟩; have hR3 := Lib.hid ((hb3.block (w.heap.size + 1) hlR).trans HR0.out); have hbw3 := hbel.trans (hb3.mono hbel.size); have hl3 := Nat.lt_of_lt_of_le hlR hb3.size)
              | (refine wpList_store_row rfl 44 _ _ rfl (w.heap.size + 1) #[.int .i64 u.maj, .int .i64 u.min, .int .i64 u.pat, .string (mkS u.pre), .string (mkS u.build)] rfl rfl _ _ ((k8 _ _ hl3).trans hR3.out) (by kernel_rfl) rfl (qF _ _ _ _ _) ?_))
            have hf := fW ⟨a, b, c, p, q⟩ HG.out
            rw [HF.out] at hf
            exact bK (u := u) rfl rfl ((k8 _ _ hl3).trans hR3.out) (hbw3.alloc (by omega) _) hf.2 hf.1
          | false =>
            rw [hb] at cB
            obtain ⟨u, hu⟩ : ∃ u, yX ⟨a, b, c, p, q⟩ (k : Int) = u := ⟨_, rfl⟩
            rw [hu] at cB
            have hfq : j8 ⟨a, b, c, p, q⟩ k = j8 ⟨a, b, c, p, q⟩ 3 := by rw [← HR.out, j8, hb]; rfl
            have HF := Lib.hid hfq
            clear hfq hb hu hke
            go_wp2_with (first
              | (refine wpList_load_row rfl 44 _ rfl w.heap.size rfl _ _ _ _ HB.out Tryz.underlying44 rfl (by kernel_rfl) ?_)
              | (go_at_call 203; refine (cB _).mono ?_; rintro e w3 ⟨rfl, hb3⟩; have hl3 := Nat.lt_of_lt_of_le hlR hb3.size))
            have hR3 := (hb3.block (w.heap.size + 1) hlR).trans HR0.out
            have hB3 := (hb3.block w.heap.size (by omega)).trans HB.out
            have hbw3 := hbel.trans (hb3.mono hbel.size)
            go_roundw
            case rel => exact ⟨k, by omega, rfl, (k8 _ _ (by omega)).trans hB3, (k8 _ _ hl3).trans hR3, hbw3.alloc (by omega) _, HF.out⟩
            case measure => simp [intOf]; try omega
    | true =>
      have HV : Hid (yY ⟨a, b, c, p, q⟩ = Ver.rel a b c) := by show _ = _; unfold yY; rw [if_pos hm, if_neg (by simp [he])]
      have HO : Hid (gA ⟨a, b, c, p, q⟩ = true) := by show _ = _; unfold gA; rw [hm]; simp [he]
      clear he hm
      go_enter Tryz.func181, Tryz.ntmps181
      go_wp2_with fail
      refine (cM _).mono ?_
      rintro e w1 ⟨rfl, hb1⟩
      have hz1 := hb1.size
      simp only [y6] at hz1
      have hgB := (hb1.block w.heap.size (by simp only [y6]; omega)).trans ((k8 _ _ (by simp only [y6]; omega)).trans (gP w _))
      have hgR := (hb1.block (w.heap.size + 1) (by simp only [y6]; omega)).trans (wM _ _ _ (by simp only [y6]))
      have hbw : Below w.heap.size w w1 := (((Below.refl _ _).alloc (Nat.le_refl _) _).alloc (by simp only [y6]; omega) _).trans (hb1.mono (by simp only [y6]; omega))
      have HGB := Lib.hid hgB
      have HGR := Lib.hid hgR
      clear hgB hgR hb1 cM
      go_wp2_with (first
        | (refine wpList_load_row rfl 44 _ rfl w.heap.size rfl _ _ _ _ HGB.out Tryz.underlying44 rfl (by kernel_rfl) ?_)
        | (go_at_call 165; refine (cN _).mono ?_; rintro e w2 ⟨rfl, hb2⟩; have hR2 := Lib.hid ((hb2.block (w.heap.size + 1) (by omega)).trans HGR.out); have hbw2 := hbw.trans (hb2.mono hbw.size); have hl2 := hb2.size)
        | (go_at_call 206; refine (wK _ _ _ _).mono ?_; unfold yE Ver.rel; rintro e w3 ⟨rfl, hb3⟩; have hR3 := Lib.hid ((hb3.block (w.heap.size + 1) (by omega)).trans hR2.out); have hbw3 := hbw2.trans (hb3.mono hbw2.size))
        | (refine wpList_store_row rfl 44 _ _ rfl (w.heap.size + 1) #[.int .i64 a, .int .i64 b, .int .i64 c, .string (mkS []), .string (mkS [])] rfl rfl _ _ hR3.out (by kernel_rfl) rfl (qF _ _ _ _ _) ?_))
      exact bK (u := Ver.rel a b c) rfl rfl hR3.out hbw3 HO.out HV.out
theorem vnext_any (v : Ver) (w : World) (hp : v.pre.length ≤ 1000000) (hq : v.build.length ≤ 1000000) :
    Calls Tryz.prog 181 #[yE v] w fun e w' => e = .returned (.tuple #[yE (yY v), .bool (gA v)]) ∧ Below w.heap.size w w' := next_go v w hp hq
end
section
theorem bump2 {v : Ver} (h : v.may = true) : y9 v 2 = true ↔ v.pat ≠ 9999 := by
  unfold y9; rw [h, show xQ v.maj v.min v.pat (2 : Int).toNat = v.pat from rfl]; simp
theorem bump1 {v : Ver} (h : v.may = true) : y9 v 1 = true ↔ v.min ≠ 9999 := by
  unfold y9; rw [h, show xQ v.maj v.min v.pat (1 : Int).toNat = v.min from rfl]; simp
theorem bump0 {v : Ver} (h : v.may = true) : y9 v 0 = true ↔ v.maj ≠ 9999 := by
  unfold y9; rw [h, show xQ v.maj v.min v.pat (0 : Int).toNat = v.maj from rfl]; simp
theorem rel_in {a b c : Int} (ha : 0 ≤ a ∧ a ≤ 9999) (hb : 0 ≤ b ∧ b ≤ 9999) (hc : 0 ≤ c ∧ c ≤ 9999) : (Ver.rel a b c).may = true := by
  rw [rel_may4, num_in ha, num_in hb, num_in hc]; rfl
theorem next_is {v : Ver} (h : v.may = true) : (gA v = false ∧ v.pre = [] ∧ v.code = 999999999999) ∨
    (gA v = true ∧ ∃ a b c, yY v = Ver.rel a b c ∧ (Ver.rel a b c).may = true ∧ ((v.pre = [] ∧ (Ver.rel a b c).code = v.code + 1) ∨ (v.pre ≠ [] ∧ (Ver.rel a b c).code = v.code))) := by
  obtain ⟨h1, h2, h3⟩ := jQ h
  unfold gA yY
  rw [h]
  by_cases hp : v.pre = []
  · have e : v.pre.isEmpty = true := by rw [hp]; rfl
    rw [e]
    by_cases k2 : v.pat = 9999
    · have b2 : y9 v 2 = false := Bool.eq_false_iff.2 (fun e => (bump2 h).1 e k2)
      rw [b2]
      by_cases k1 : v.min = 9999
      · have b1 : y9 v 1 = false := Bool.eq_false_iff.2 (fun e => (bump1 h).1 e k1)
        rw [b1]
        by_cases k0 : v.maj = 9999
        · have b0 : y9 v 0 = false := Bool.eq_false_iff.2 (fun e => (bump0 h).1 e k0)
          rw [b0]
          exact .inl ⟨rfl, hp, by unfold Ver.code; omega⟩
        · have b0 := (bump0 h).2 k0
          have bv : yX v 0 = Ver.rel (v.maj + 1) 0 0 := by unfold yX; rw [b0]; rfl
          rw [b0, bv]
          exact .inr ⟨rfl, v.maj + 1, 0, 0, rfl, rel_in (by omega) (by omega) (by omega), .inl ⟨hp, by unfold Ver.code Ver.rel; dsimp only; omega⟩⟩
      · have b1 := (bump1 h).2 k1
        have bv : yX v 1 = Ver.rel v.maj (v.min + 1) 0 := by unfold yX; rw [b1]; rfl
        rw [b1, bv]
        exact .inr ⟨rfl, v.maj, v.min + 1, 0, rfl, rel_in (by omega) (by omega) (by omega), .inl ⟨hp, by unfold Ver.code Ver.rel; dsimp only; omega⟩⟩
    · have b2 := (bump2 h).2 k2
      have bv : yX v 2 = Ver.rel v.maj v.min (v.pat + 1) := by unfold yX; rw [b2]; rfl
      rw [b2, bv]
      exact .inr ⟨rfl, v.maj, v.min, v.pat + 1, rfl, rel_in (by omega) (by omega) (by omega), .inl ⟨hp, by unfold Ver.code Ver.rel; dsimp only; omega⟩⟩
  · have e : v.pre.isEmpty = false := List.isEmpty_eq_false_iff.2 hp
    rw [e]
    exact .inr ⟨rfl, v.maj, v.min, v.pat, rfl, rel_in h1 h2 h3, .inr ⟨hp, rfl⟩⟩
theorem f9 {v : Ver} (h : v.may = true) : 0 ≤ v.code ∧ v.code ≤ 999999999999 := by
  obtain ⟨h1, h2, h3⟩ := jQ h
  unfold Ver.code; omega
end
section
def qO (v : Ver) : Bool := decide (v.maj = 0) && decide (v.min = 0) && decide (v.pat = 0)
theorem nD {v : Ver} (h : v.may = true) : qO v = decide (v.code = 0) := by
  obtain ⟨h1, h2, h3⟩ := jQ h
  unfold qO Ver.code
  rw [← Bool.decide_and, ← Bool.decide_and]
  exact decide_eq_decide.2 ⟨fun ⟨⟨a, b⟩, c⟩ => by omega, fun e => ⟨⟨by omega, by omega⟩, by omega⟩⟩
def x2 (c : Cu) : Bool := decide (¬ c.e = 0) || (!c.aft && decide (c.v.pre = []) && !qO c.v)
def AllRight (l : List Sp) : Prop := ∀ s ∈ l, x2 s.lo = true ∧ x2 s.hi = true
def valC (c : Cu) : Int := if c.e = -1 then 0 else if c.e = 1 then 1000000000000 else c.v.code
def muI (v : Ver) : Int := if v.pre = [] then v.code else v.code - 1
def mu (x : Cu) : Int := if x.e = 0 then (if muI x.v < 0 then 0 else muI x.v) else 0
theorem mu_range {x : Cu} (hx : x.may = true) : 0 ≤ mu x ∧ mu x ≤ 999999999999 := by
  have h := f9 (vD hx)
  unfold mu muI
  split
  · split
    · omega
    · split at * <;> omega
  · omega
theorem ci_le {a b : Int} : Lib.compareInt a b ≤ 0 ↔ a ≤ b := by
  unfold Lib.compareInt
  split
  · omega
  · split <;> omega
theorem right_le {c x : Cu} (hc : c.may = true) (hr : x2 c = true) (hx : x.may = true) (he : zL x (zY 1) < 0) : zL c x ≤ 0 ↔ valC c ≤ mu x := by
  have hmx := mu_range hx
  have hxe : x.e = 0 ∨ x.e = -1 := by
    rcases pF hx with ⟨h, _⟩ | ⟨h, h2, h3⟩
    · exact .inl h
    · rcases h with h | h
      · exact .inr h
      · exfalso
        have : x = zY 1 := by
          obtain ⟨e, v, a⟩ := x
          simp only at h h2 h3
          subst h h2 h3; rfl
        rw [this, kW] at he; omega
  rw [qM hc hx]
  rcases pF hc with ⟨h0, hb⟩ | ⟨h1, hv, ha⟩
  · have hr2 := hr
    unfold x2 at hr2
    rw [decide_eq_false (by simpa using h0), Bool.false_or] at hr2
    simp only [Bool.and_eq_true, Bool.not_eq_true', decide_eq_true_eq] at hr2
    obtain ⟨⟨ha, hp⟩, hl⟩ := hr2
    rw [nD (vD hc), decide_eq_false_iff_not] at hl
    have hcc := f9 (vD hc)
    have hval : valC c = c.v.code := by unfold valC; rw [if_neg (by omega), if_neg (by omega)]
    rw [hval]
    rcases hxe with hx0 | hx1
    · have hcx := f9 (vD hx)
      rw [h0, hx0, show Lib.compareInt 0 0 = 0 from rfl, lex_0, bU (vD hc) (vD hx), ha, hp]
      have hmu : mu x = if muI x.v < 0 then 0 else muI x.v := by unfold mu; rw [if_pos hx0]
      rw [hmu]
      unfold muI q8
      by_cases k1 : c.v.code < x.v.code
      · rw [if_pos k1, dB]
        constructor
        · intro _; split <;> split at * <;> omega
        · intro _; omega
      · rw [if_neg k1]
        by_cases k2 : x.v.code < c.v.code
        · rw [if_pos k2, fR]
          constructor
          · intro h; omega
          · intro h; exfalso; split at h <;> split at * <;> omega
        · rw [if_neg k2]
          by_cases k3 : x.v.pre = []
          · rw [k3, if_pos rfl, lex_0]
            have : Lib.compareInt (b01 false) (b01 x.aft) ≤ 0 := by rw [ci_le]; cases x.aft <;> decide
            constructor
            · intro _; rw [if_pos rfl, if_neg (by omega)]; omega
            · intro _; exact this
          · rw [if_neg (fun e => k3 e.symm), if_pos rfl, fR]
            constructor
            · intro h; omega
            · intro h; exfalso; rw [if_neg k3] at h; split at h <;> omega
    · rw [h0, hx1, show Lib.compareInt 0 (-1) = 1 from rfl, fR]
      have hmu : mu x = 0 := by unfold mu; rw [if_neg (by omega)]
      rw [hmu]
      constructor <;> intro h <;> omega
  · rcases h1 with h1 | h1
    · have hval : valC c = 0 := by unfold valC; rw [if_pos h1]
      rw [hval]
      refine ⟨fun _ => hmx.1, fun _ => ?_⟩
      rcases hxe with hx0 | hx1
      · rw [h1, hx0, show Lib.compareInt (-1) 0 = -1 from rfl, dB]; omega
      · rcases pF hx with ⟨h, _⟩ | ⟨_, hv2, ha2⟩
        · omega
        · rw [h1, hx1, hv, hv2, ha, ha2, show Lib.compareInt (-1) (-1) = 0 from rfl, lex_0, show xJ Ver.zero Ver.zero = 0 from tQ rfl, lex_0]; decide
    · have hval : valC c = 1000000000000 := by unfold valC; rw [if_neg (by omega), if_pos h1]
      rw [hval]
      refine ⟨fun h => ?_, fun h => by omega⟩
      exfalso
      rcases hxe with hx0 | hx1
      · rw [h1, hx0, show Lib.compareInt 1 0 = 1 from rfl, fR] at h; omega
      · rw [h1, hx1, show Lib.compareInt 1 (-1) = 1 from rfl, fR] at h; omega
def denN (l : List Sp) (n : Int) : Bool := l.any fun s => decide (valC s.lo ≤ n) && decide (n < valC s.hi)
theorem mu_pos {v : Ver} (hv : v.may = true) (hp : v.pre = []) : mu (wP v) = v.code := by
  have := f9 hv
  unfold mu muI wP kG
  dsimp only
  rw [if_pos rfl, if_pos hp]
  have e : ({ v with build := [] } : Ver).code = v.code := rfl
  rw [e, if_neg (by omega)]
theorem nK (p : Cu → Cu → Bool) (Q : Cu → Prop) : ∀ (cs : List Cu) (out : List Sp), (∀ c ∈ cs, Q c) → (∀ s ∈ out, Q s.lo ∧ Q s.hi) → ∀ s ∈ kP p out cs, Q s.lo ∧ Q s.hi
  | [], out, _, ho => by unfold kP; exact ho
  | [c], out, _, ho => by unfold kP; exact ho
  | c :: d :: r, out, hc, ho => by
    unfold kP
    refine nK p Q (d :: r) _ (fun x hx => hc x (List.mem_cons_of_mem _ hx)) ?_
    split
    · intro s hs
      unfold qE at hs
      split at hs
      · rename_i t ht
        split at hs
        · rcases List.mem_append.1 hs with h | h
          · exact ho s (List.dropLast_subset _ h)
          · obtain rfl : s = _ := by simpa using h
            exact ⟨(ho t (List.mem_of_getLast? ht)).1, hc d (by simp)⟩
        · rcases List.mem_append.1 hs with h | h
          · exact ho s h
          · obtain rfl : s = _ := by simpa using h
            exact ⟨hc c (by simp), hc d (by simp)⟩
      · obtain rfl : s = _ := by simpa using hs
        exact ⟨hc c (by simp), hc d (by simp)⟩
    · exact ho
theorem cutsL_all (Q : Cu → Prop) (h1 : Q (zY (-1))) (h2 : Q (zY 1)) (l : List Sp) (hl : ∀ s ∈ l, Q s.lo ∧ Q s.hi) : ∀ c ∈ kV l, Q c := by
  have go : ∀ (l : List Sp) (out : List Cu), (∀ c ∈ out, Q c) → (∀ s ∈ l, Q s.lo ∧ Q s.hi) → ∀ c ∈ l.foldl (fun out s => kT s.hi (kT s.lo out)) out, Q c := by
    intro l
    induction l with
    | nil => intro out ho _; exact ho
    | cons s r ih =>
      intro out ho hl
      refine ih _ (fun c hc => ?_) (fun t ht => hl t (List.mem_cons_of_mem _ ht))
      rcases putL_mem _ _ _ hc with rfl | hc
      · exact (hl s (List.mem_cons_self ..)).2
      · rcases putL_mem _ _ _ hc with rfl | hc
        · exact (hl s (List.mem_cons_self ..)).1
        · exact ho c hc
  exact go l _ (fun c hc => by
    rcases List.mem_cons.1 hc with rfl | hc
    · exact h1
    · obtain rfl : c = _ := by simpa using hc
      exact h2) hl
theorem fY (k : Int) (h : ¬ k = 0) : x2 (zY k) = true := by unfold x2 zY; rw [decide_eq_true h]; rfl
theorem AllRight.make {l : List Sp} (h : AllRight l) : AllRight (vE l) := nK _ (x2 · = true) _ [] (cutsL_all _ (fY _ (by decide)) (fY _ (by decide)) l h) (fun s hs => by simp at hs)
theorem AllRight.app {a b : List Sp} (ha : AllRight a) (hb : AllRight b) : AllRight (a ++ b) := fun s hs => (List.mem_append.1 hs).elim (ha s) (hb s)
theorem AllRight.or {a b : List Sp} (ha : AllRight a) (hb : AllRight b) : AllRight (orL a b) := (ha.app hb).make
end
section
def m7 (v : Ver) : Ver := Ver.rel v.maj v.min v.pat
def relA (v : Ver) : Cu := if qO v then zY (-1) else ⟨0, m7 v, false⟩
def relB (v : Ver) : Cu := if gA (m7 v) then ⟨0, yY (m7 v), false⟩ else zY 1
def kC (c : Cu) : Cu := if ¬ c.e = 0 then c else if c.aft = true ∧ c.v.pre = [] then relB c.v else relA c.v
def jD (s : Sp) : Sp := ⟨kC s.lo, kC s.hi⟩
def gG (l : List Sp) : List Sp := vE ((l.map jD).filter (·.may))
theorem relV_may {v : Ver} (h : v.may = true) : (m7 v).may = true := by
  obtain ⟨h1, h2, h3⟩ := jQ h
  exact rel_in h1 h2 h3
theorem relV_code (v : Ver) : (m7 v).code = v.code := rfl
theorem relA_ok {v : Ver} (h : v.may = true) : (relA v).may = true ∧ x2 (relA v) = true ∧ valC (relA v) = v.code := by
  unfold relA
  have hl := nD h
  split
  · rename_i h1
    rw [hl, decide_eq_true_eq] at h1
    exact ⟨fV, fY _ (by decide), by rw [h1]; rfl⟩
  · rename_i h1
    have h2 : qO (m7 v) = false := by
      have : qO (m7 v) = qO v := rfl
      rw [this]; simpa using h1
    exact ⟨by unfold Cu.may; dsimp only; rw [if_pos rfl, relV_may h]; rfl, by unfold x2; dsimp only; rw [h2]; rfl, rfl⟩
theorem relB_ok {v : Ver} (h : v.may = true) : (relB v).may = true ∧ x2 (relB v) = true ∧ valC (relB v) = v.code + 1 := by
  unfold relB
  rcases next_is (relV_may h) with ⟨h1, h2, h3⟩ | ⟨h1, a, b, c, h2, h3, h4⟩
  · rw [h1, if_neg (by decide)]
    rw [relV_code] at h3
    exact ⟨uQ, fY _ (by decide), by rw [h3]; rfl⟩
  · rw [h1, if_pos rfl, h2]
    have hc : (Ver.rel a b c).code = v.code + 1 := by
      rcases h4 with ⟨_, h5⟩ | ⟨h5, _⟩
      · rw [h5, relV_code]
      · exact absurd rfl h5
    have h0 := (f9 h).1
    have hl : qO (Ver.rel a b c) = false := by rw [nD h3, decide_eq_false_iff_not]; omega
    refine ⟨by unfold Cu.may; dsimp only; rw [if_pos rfl, h3]; rfl, by unfold x2; dsimp only; rw [hl]; rfl, ?_⟩
    unfold valC; dsimp only
    rw [if_neg (by decide), if_neg (by decide), hc]
theorem fG {c : Cu} (h : c.may = true) : (kC c).may = true ∧ x2 (kC c) = true := by
  unfold kC
  split
  · rename_i h0
    exact ⟨h, by unfold x2; rw [decide_eq_true h0]; rfl⟩
  · split
    · have := relB_ok (vD h); exact ⟨this.1, this.2.1⟩
    · have := relA_ok (vD h); exact ⟨this.1, this.2.1⟩
theorem turn_le {c : Cu} {r : Ver} (hc : c.may = true) (hr : r.may = true) (hp : r.pre = []) : zL c (wP r) ≤ 0 ↔ zL (kC c) (wP r) ≤ 0 := by
  by_cases h0 : c.e = 0
  · have ht := fG hc
    have hv := vD hc
    rw [right_le ht.1 ht.2 (qI hr) (jH hr), mu_pos hr hp]
    have ha := bX hc hr
    have h1 : (zL c (wP r) ≤ 0) ↔ (xE c r = true) := by rw [ha, decide_eq_true_eq]
    rw [h1]
    unfold xE
    rw [hc, hr, if_pos h0]
    simp only [Bool.true_and, decide_eq_true_eq]
    have hcr := (cmp_rel hv hr hp).1
    have hrng := uV (v := c.v) (w := r)
    have hz : xJ c.v r = 0 ↔ (c.v.code = r.code ∧ c.v.pre = []) := by
      rw [bU hv hr, hp]
      by_cases k1 : c.v.code < r.code
      · rw [if_pos k1]; constructor <;> intro h <;> omega
      · rw [if_neg k1]
        by_cases k2 : r.code < c.v.code
        · rw [if_pos k2]; constructor <;> intro h <;> omega
        · rw [if_neg k2]
          unfold q8
          by_cases k3 : c.v.pre = []
          · rw [if_pos k3]; exact ⟨fun _ => ⟨by omega, k3⟩, fun _ => rfl⟩
          · rw [if_neg k3, if_neg k3, if_pos rfl]
            exact ⟨fun h => by omega, fun h => absurd h.2 k3⟩
    have hlt : xJ c.v r < 0 ↔ xJ c.v r = -1 := by omega
    rw [hlt, hcr, hz]
    unfold kC
    rw [if_neg (by simpa using h0)]
    by_cases k : c.aft = true ∧ c.v.pre = []
    · rw [if_pos k, (relB_ok hv).2.2]
      constructor
      · rintro (h | ⟨_, h⟩)
        · rcases h with h | ⟨_, h⟩
          · omega
          · exact absurd k.2 h
        · rw [k.1] at h; cases h
      · intro h; exact .inl (.inl (by omega))
    · rw [if_neg k, (relA_ok hv).2.2]
      constructor
      · rintro (h | ⟨⟨h, _⟩, _⟩)
        · rcases h with h | ⟨h, _⟩ <;> omega
        · omega
      · intro h
        rcases Int.lt_or_eq_of_le h with h | h
        · exact .inl (.inl h)
        · by_cases k3 : c.v.pre = []
          · refine .inr ⟨⟨h, k3⟩, ?_⟩
            cases k4 : c.aft with
            | false => rfl
            | true => exact absurd ⟨k4, k3⟩ k
          · exact .inl (.inr ⟨h, k3⟩)
  · have : kC c = c := by unfold kC; rw [if_pos h0]
    rw [this]
theorem turn_in {s : Sp} {r : Ver} (hs : s.may = true) (hr : r.may = true) (hp : r.pre = []) : kX (jD s) (wP r) = kX s (wP r) := by
  obtain ⟨h1, h2⟩ := zZ hs
  unfold kX jD
  dsimp only
  rw [decide_eq_decide.2 (turn_le h1 hr hp).symm]
  congr 1
  refine decide_eq_decide.2 ?_
  have := turn_le h2 hr hp
  have a1 := xD (a := s.hi) (b := wP r)
  have a2 := xD (a := kC s.hi) (b := wP r)
  constructor
  · intro h; have : ¬ zL s.hi (wP r) ≤ 0 := fun h3 => by have := this.1 h3; omega
    omega
  · intro h; have : ¬ zL (kC s.hi) (wP r) ≤ 0 := fun h3 => by have := this.2 h3; omega
    omega
theorem dA (l : List Sp) : ∀ s ∈ (l.map jD).filter (·.may), s.may = true := fun s hs => (List.mem_filter.1 hs).2
theorem makeRel_may (l : List Sp) : zK (gG l) = true := (uC (dA l)).1
theorem makeRel_right {l : List Sp} (h : ∀ s ∈ l, s.may = true) : AllRight (gG l) := by
  refine AllRight.make (fun s hs => ?_)
  obtain ⟨t, ht, rfl⟩ := List.mem_map.1 (List.mem_filter.1 hs).1
  have := zZ (h t ht)
  exact ⟨(fG this.1).2, (fG this.2).2⟩
theorem makeRel_has {l : List Sp} {r : Ver} (hl : zK l = true) (hr : r.may = true) (hp : r.pre = []) : xH (gG l) r = xH l r := by
  rw [vH (makeRel_may l) hr, vH hl hr]
  show den (vE _) _ = _
  rw [(uC (dA l)).2 _ (qI hr) (jH hr)]
  unfold den
  rw [Bool.eq_iff_iff, List.any_eq_true, List.any_eq_true]
  constructor
  · rintro ⟨s, hs, h⟩
    obtain ⟨t, ht, rfl⟩ := List.mem_map.1 (List.mem_filter.1 hs).1
    exact ⟨t, ht, by rw [← turn_in (x4 hl t ht) hr hp]; exact h⟩
  · rintro ⟨s, hs, h⟩
    have hm := x4 hl s hs
    rw [← turn_in hm hr hp] at h
    refine ⟨jD s, List.mem_filter.2 ⟨List.mem_map.2 ⟨s, hs, rfl⟩, ?_⟩, h⟩
    have h1 := zZ hm
    cases hc : (jD s).may with
    | true => rfl
    | false =>
      have := in_none (fG h1.1).1 (fG h1.2).1 (qI hr) (pY hc)
      rw [show (Sp.mk (kC s.lo) (kC s.hi)) = jD s from rfl, h] at this
      cases this
def oneRel (v : Ver) : List Sp := [⟨relA v, relB v⟩]
def onePre (v : Ver) : List Sp := [⟨⟨0, kG v, false⟩, ⟨0, kG v, true⟩⟩]
end
section
structure St where
  rel : List Sp
  pre : List Sp
def St.may (s : St) : Bool := zK s.rel && zK s.pre && s.rel.all fun x => x2 x.lo && x2 x.hi
structure SF (s : St) (n : Nat) : Prop where
  rel : RF s.rel n
  pre : RF s.pre n
  right : AllRight s.rel
theorem right_all {l : List Sp} : (l.all fun x => x2 x.lo && x2 x.hi) = true ↔ AllRight l := by
  rw [List.all_eq_true]
  exact ⟨fun h s hs => by simpa using h s hs, fun h s hs => by simpa using h s hs⟩
theorem SF.may {s : St} {n : Nat} (h : SF s n) : s.may = true := by
  unfold St.may
  rw [h.rel.may, h.pre.may, right_all.2 h.right]; rfl
theorem St.facts {s : St} (h : s.may = true) : zK s.rel = true ∧ zK s.pre = true ∧ AllRight s.rel := by
  unfold St.may at h
  rw [Bool.and_eq_true, Bool.and_eq_true, right_all] at h
  exact ⟨h.1.1, h.1.2, h.2⟩
theorem SF.of {s : St} {n : Nat} (h : s.may = true) (h1 : s.rel.length ≤ n) (h2 : s.pre.length ≤ n) : SF s n :=
  ⟨⟨(St.facts h).1, h1⟩, ⟨(St.facts h).2.1, h2⟩, (St.facts h).2.2⟩
def q6 (s : St) (v : Ver) : Bool := s.may && v.may && (if v.pre = [] then xH s.rel v else xH s.pre v)
def g9 : St := ⟨[], []⟩
def mK : List Sp := [⟨zY (-1), zY 1⟩]
def allT : St := ⟨mK, mK⟩
def orT (a b : St) : St := ⟨orL a.rel b.rel, orL a.pre b.pre⟩
def andT (a b : St) : St := ⟨wC a.rel b.rel, wC a.pre b.pre⟩
def notT (a : St) : St := ⟨vW a.rel, vW a.pre⟩
def minusT (a b : St) : St := andT a (notT b)
def exactT (v : Ver) : St := if v.may then (if v.pre = [] then ⟨oneRel v, []⟩ else ⟨[], onePre v⟩) else g9
theorem St.eq {a b : St} (h1 : a.rel = b.rel) (h2 : a.pre = b.pre) : a = b := by cases a; cases b; simp only at h1 h2; rw [h1, h2]
theorem nil_rf : RF [] 0 := ⟨rfl, Nat.le_refl _⟩
theorem RF.le {l : List Sp} {n m : Nat} (h : RF l n) (hm : n ≤ m) : RF l m := ⟨h.may, Nat.le_trans h.len hm⟩
theorem SF.le {s : St} {n m : Nat} (h : SF s n) (hm : n ≤ m) : SF s m := ⟨h.rel.le hm, h.pre.le hm, h.right⟩
theorem nil_right : AllRight [] := fun s hs => by simp at hs
theorem none_sf : SF g9 0 := ⟨nil_rf, nil_rf, nil_right⟩
theorem whole_rf : RF mK 1 := ⟨by decide, Nat.le_refl _⟩
theorem SF.or {a b : St} {n m : Nat} (ha : SF a n) (hb : SF b m) : SF (orT a b) (2 + 2 * (n + m)) := ⟨ha.rel.or hb.rel, ha.pre.or hb.pre, ha.right.or hb.right⟩
theorem has_may {s : St} {v : Ver} {n : Nat} (hs : SF s n) (hv : v.may = true) : q6 s v = if v.pre = [] then xH s.rel v else xH s.pre v := by
  unfold q6; rw [hs.may, hv, Bool.true_and, Bool.true_and]
section
variable {a b : St} {n m : Nat} {v : Ver} (ha : SF a n) (hb : SF b m) (hv : v.may = true)
include ha hb hv
theorem setHas_or : q6 (orT a b) v = (q6 a v || q6 b v) := by
  rw [has_may (ha.or hb) hv, has_may ha hv, has_may hb hv]
  split
  · exact has_or4 ha.rel.may hb.rel.may hv
  · exact has_or4 ha.pre.may hb.pre.may hv
end
theorem whole_den {x : Cu} (hx : x.may = true) (he : zL x (zY 1) < 0) : den mK x = true := by
  show (kX ⟨zY (-1), zY 1⟩ x || false) = true
  rw [Bool.or_false]
  unfold kX
  rw [decide_eq_true (f5 hx), decide_eq_true he]; rfl
theorem setHas_none {v : Ver} : q6 g9 v = false := by
  unfold q6
  have h : xH [] v = false := rfl
  show (_ && (if v.pre = [] then xH [] v else xH [] v)) = false
  rw [h, ite_self, Bool.and_false]
def edgeN (l : List Sp) : List Int := l.flatMap fun s => [s.lo, s.hi].filterMap fun c => if c.e = 0 then some c.v.code else none
theorem not_whole : vW mK = [] := wJ _ _ (wQ whole_rf.may).1 rfl fun x hx he => by
  rw [(wQ whole_rf.may).2 x hx he, whole_den hx he]; rfl
theorem not_nil : vW [] = mK := by rw [← not_whole, not_not4 whole_rf.may]
end
end Go.Proofs.YtkljdpiaghepfaaGreatDoor
