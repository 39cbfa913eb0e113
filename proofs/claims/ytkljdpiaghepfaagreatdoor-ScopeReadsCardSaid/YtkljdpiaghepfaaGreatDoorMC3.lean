/-
  What the statement's proof leans on: the ways of walking, mM mathematics, and what the program's functions return; each theorem says on what conditions.
-/
import Derived.Tactics
import Derived.Lib.AppendZerosOnto
import Derived.Lib.SliceRun
import Derived.Outline
import Derived.Test.YtkljdpiaghepfaaGreatDoorMC2
set_option maxRecDepth 1000000
set_option maxHeartbeats 8000000
set_option linter.unusedVariables false
set_option linter.unusedSimpArgs false
set_option linter.unnecessarySimpa false
namespace Go.Proofs.YtkljdpiaghepfaaGreatDoor
open Go.RowKit

section
deriving instance DecidableEq for Sp
theorem all2 (a b : Bool) : ([a, b].all id) = (a && b) := by simp
theorem sp_dec (u v : Sp) : decide (u = v) = (decide (u.lo = v.lo) && decide (u.hi = v.hi)) := by
  obtain ⟨a, b⟩ := u
  obtain ⟨a', b'⟩ := v
  simp only [Sp.mk.injEq, Bool.decide_and]
theorem eq_span (u v : Sp) (d : Nat) (w : World) : (Op.equalIn (d + 1 + 1 + 1 + 1) 80 (yX u) (yX v)).run Tryz.prog w = .ok (decide (u = v)) w := by
  have h := eq_agg (P := Tryz.prog) (d := d + 1 + 1 + 1) (t := 80) (xs := (yX u).cells) (ys := (yX v).cells) (bs := [decide (u.lo = v.lo), decide (u.hi = v.hi)]) Tryz.underlying80 (by kernel_rfl)
    ⟨by decide, ⟨zC u.lo, zC v.lo, fun w => ⟨by kernel_rfl, by kernel_rfl, eq_cut u.lo v.lo d w⟩⟩,
     by decide, ⟨zC u.hi, zC v.hi, fun w => ⟨by kernel_rfl, by kernel_rfl, eq_cut u.hi v.hi d w⟩⟩, trivial⟩ w
  rw [all2, ← sp_dec] at h
  exact h
theorem guard_span : Tryz.prog.eqGuardType Tryz.prog.depth 80 = false := by kernel_rfl
theorem binOp_agg_neq {P : Program} {t : TypeId} {xs ys : Array Value} {b : Bool} (w : World) (h : (Op.equalIn 10000 t (.agg xs) (.agg ys)).run P w = .ok b w) : (binOp .neq t (.agg xs) (.agg ys)).run P w = .ok (.bool (!b)) w := by
  have e : binOp .neq t (.agg xs) (.agg ys) = (do let r ← Op.equalIn 10000 t (.agg xs) (.agg ys); pure (.bool (!r))) := by first | rfl | simp [binOp]
  rw [e]
  simp only [Sem.run_bind, h, Result.andThen_ok, Sem.run_pure]
theorem run_ne_op {P : Program} {ρ : Operand → Value} {o : Oper} {t t' : TypeId} {x y : Operand} {xs ys : Array Value} {b : Bool} (ho : o.op = .binOp .neq t x y t') (hx : ρ x = .agg xs) (hy : ρ y = .agg ys) (hm : P.eqGuardType P.depth t = false)
    (h : ∀ w, (Op.equalIn 10000 t (.agg xs) (.agg ys)).run P w = .ok b w) (w : World) : (execOp ρ o).run P w = .ok (.value (.bool (!b))) w := by
  have h1 := run_eqGuard_agg (P := P) w .neq t x y xs ys hm
  have h2 := binOp_agg_neq w (h w)
  unfold execOp
  simp only [ho, hx, hy, Sem.run_bind, h1, Result.andThen_ok, h2, Sem.run_pure]
theorem op_ne_span {ρ : Operand → Value} {o : Oper} {t' : TypeId} {x y : Operand} {u v : Sp} {b : Bool} (ho : o.op = .binOp .neq 80 x y t') (hx : ρ x = yX u) (hy : ρ y = yX v) (hb : decide (u = v) = b) (w : World) : (execOp ρ o).run Tryz.prog w = .ok (.value (.bool (!b))) w :=
  run_ne_op ho hx hy guard_span (fun w => by rw [← hb]; exact eq_span u v 9996 w) w
theorem same_step {a b : List Sp} {k : Nat} (ha : k < a.length) (hb : k < b.length) (h : a.take k = b.take k) (e : a[k] = b[k]) : a.take (k + 1) = b.take (k + 1) := by
  rw [List.take_succ_eq_append_getElem ha, List.take_succ_eq_append_getElem hb, h, e]
theorem rsame_any (A B : Option Addr) (cap capb : Nat) (a b : List Sp) (W : World) (hv : Reads yR W W.heap.size A a) (hu : Reads yR W W.heap.size B b) (hn : a.length ≤ 1000000) (hm : b.length ≤ 1000000) :
    Calls Tryz.prog 46 #[.slice A a.length cap, .slice B b.length capb] W fun e w' => e = .returned (.bool (decide (a = b))) ∧ Below W.heap.size W w' := by
  refine Z2 (n := 26) Tryz.func46 rfl (ZO (Zv Z5 (ZN (z7 (ZO (Zv (.slice A a.length cap) (Zv (.int .i64 (a.length : Int)) (Zv (.slice B b.length capb) ?_))))))))
  refine Zv (.int .i64 (b.length : Int)) ?_
  by_cases h1 : (a.length : Int) = (b.length : Int)
  · refine Zn (p := (a.length : Int) = (b.length : Int)) true (decide_eq_true (h1)) (ZX (ZB (z7 (ZO (Zv (.int .i64 0) (zP (z8 ?_)))))))
    refine zL (yL (fun L f m => ∃ (k : Nat) (j : Nat → Value), (k ≤ a.length ∧ a.take k = b.take k) ∧ L = [] ∧ f = xF j [(0, .slice A a.length cap), (1, .slice B b.length capb), (5, .int .i64 (k : Int))] ∧ m = a.length - k) (a.length - 0) ⟨0, _, ⟨Nat.zero_le _, by rw [List.take_zero, List.take_zero]⟩, rfl, ZU, rfl⟩ ?_)
    rintro L f m ⟨k, j, hrel, rfl, rfl, rfl⟩
    have hkl := hrel.1
    refine z7 (ZO (Zv (.int .i64 (k : Int)) (Zv (.slice A a.length cap) (Zv (.int .i64 (a.length : Int)) ?_))))
    by_cases h2 : (k : Int) < (a.length : Int)
    · have hk : k < a.length := by omega
      have hkb : k < b.length := by omega
      obtain ⟨g, off, hA, hlt, hcell⟩ := hv (by omega)
      obtain ⟨gb, ofh, hB, hlu, hcelu⟩ := hu (by omega)
      obtain ⟨s, hs⟩ : ∃ s, a[k] = s := ⟨_, rfl⟩
      obtain ⟨t, ht⟩ : ∃ t, b[k] = t := ⟨_, rfl⟩
      refine Zg h2 (ZY (ZB (z7 (zL (z7 (kM (by kernel_rfl) (by kernel_rfl) (Zw (.slice A a.length cap) (Zw (.int .i64 (k : Int)) ?_))))))))
      refine xH (Zp g (off + k * 14)) (by kernel_rfl) (ZA (b := g) (off := off) (c := cap) (n := a.length) (k := .i64) (j := (k : Int)) (e := 80) (sz := 14) hA) (wR (yX s) (a := ⟨g, off + k * 14, none⟩) (by kernel_rfl) rfl (by kernel_rfl) (fun w hO => y6 y9 (fun j u h => (hO.below.cell (p := ⟨g, off + j, none⟩) hlt).trans (hcell j u h)) k 0 hk (by omega) _ (by rw [hs]; kernel_rfl)) (Zw (.slice B b.length capb) (Zw (.int .i64 (k : Int)) (xH (Zp gb (ofh + k * 14)) (by kernel_rfl) (ZA (b := gb) (off := ofh) (c := capb) (n := b.length) (k := .i64) (j := (k : Int)) (e := 80) (sz := 14) hB) (wR (yX t) (a := ⟨gb, ofh + k * 14, none⟩) (by kernel_rfl) rfl (by kernel_rfl) (fun w hO => y6 y9 (fun j u h => (hO.below.cell (p := ⟨gb, ofh + j, none⟩) hlu).trans (hcelu j u h)) k 0 hkb (by omega) _ (by rw [ht]; kernel_rfl)) ?_)))))
      by_cases h3 : s = t
      · refine xH Z5 (by kernel_rfl) (op_ne_span rfl (by kernel_rfl) (by kernel_rfl) (decide_eq_true (h3))) (xU (z8 (Zf (yC (zQ (z8 (zA (Zv (.int .i64 (k : Int)) (Zu (k := .i64) (((k + 1 : Nat) : Int)) (IntWalk.i64_in _ (by omega)) (Zv (.int .i64 ((k + 1 : Nat) : Int)) (zP ?_)))))))))))
        have hnext : a.take (k + 1) = b.take (k + 1) := same_step hk hkb hrel.2 (by rw [hs, ht]; assumption)
        exact zT (m' := a.length - (k + 1)) (by omega) ⟨k + 1, _, ⟨by omega, hnext⟩, rfl, ZU, rfl⟩
      refine xH Z4 (by kernel_rfl) (op_ne_span rfl (by kernel_rfl) (by kernel_rfl) (decide_eq_false (h3))) (xU (z8 (Zt (ZO (Zv Z5 (ZN (zB (zF (z6 ?_)))))))))
      exact zW (zF (z6 (ZF Z5 Tryz.results46 (fun w hO => ⟨by rw [decide_eq_false (show ¬ a = b from fun e => by subst e; first | omega | exact absurd (hs.symm.trans ht) (by assumption))], hO.below⟩))))
    refine Zh h2 (ZX (y5 (zD (zN (zH (z8 (ZO (Zv Z4 ?_))))))))
    exact ZN (zB (ZF Z4 Tryz.results46 (fun w hO => ⟨by rw [decide_eq_true (show a = b from by have h := hrel.2; rwa [List.take_of_length_le (by omega), List.take_of_length_le (by omega)] at h)], hO.below⟩)))
  refine Zn (p := (a.length : Int) = (b.length : Int)) false (decide_eq_false (h1)) (ZY (ZO (Zv Z5 (ZN (zB (z6 (ZF Z5 Tryz.results46 ?_)))))))
  exact fun w hO => ⟨by rw [decide_eq_false (show ¬ a = b from fun e => by subst e; first | omega | exact absurd (hs.symm.trans ht) (by assumption))], hO.below⟩
end
section
theorem pI {l : List Sp} {k : Nat} (hk : k < l.length) (h : zR (l.take k) = true) (hs : l[k].may = true) (hc : ∀ h0 : 0 < k, zV (l[k - 1]'(by omega)).hi l[k].lo < 0) : zR (l.take (k + 1)) = true := by
  rw [List.take_succ_eq_append_getElem hk]
  refine wF h hs fun t ht => ?_
  cases k with
  | zero => simp at ht
  | succ k =>
    have e := List.take_succ_eq_append_getElem (l := l) (i := k) (by omega)
    rw [e, List.getLast?_concat] at ht
    obtain rfl : l[k] = t := Option.some.inj ht
    exact hc (by omega)
theorem row_pair : ∀ {l : List Sp}, zR l = true → ∀ k (hk : k < l.length) (h0 : 0 < k), zV (l[k - 1]'(by omega)).hi l[k].lo < 0
  | [], _, k, hk, _ => by simp at hk
  | s :: l, h, k, hk, h0 => by
    cases k with
    | zero => omega
    | succ k =>
      cases k with
      | zero => exact gG h _ (List.getElem_mem _)
      | succ k => exact row_pair (kZ h) (k + 1) (by simpa using hk) (by omega)
theorem any_drop (l : List Sp) (v : Ver) (k : Nat) (hk : k < l.length) : (l.drop k).any (qH · v) = (qH l[k] v || (l.drop (k + 1)).any (qH · v)) := by
  rw [List.drop_eq_getElem_cons hk, List.any_cons]
theorem gM (A : Option Addr) (cap : Nat) (l : List Sp) (W : World) (hv : Reads yR W W.heap.size A l) (hn : l.length ≤ 1000000) (hl : x8 l) :
    Calls Tryz.prog 54 #[.slice A l.length cap] W fun e w' => e = .returned (.bool (zR l)) ∧ Below W.heap.size W w' := by
  refine Z2 (n := 35) Tryz.func54 rfl (ZO (Zv Z5 (ZN (z7 (ZO (Zv (.int .i64 0) (zP (z8 ?_))))))))
  refine zL (yL (fun L f m => ∃ (k : Nat) (j : Nat → Value), (k ≤ l.length ∧ zR (l.take k) = true) ∧ L = [] ∧ f = xF j [(0, .slice A l.length cap), (3, .int .i64 (k : Int))] ∧ m = l.length - k) (l.length - 0) ⟨0, _, ⟨Nat.zero_le _, by rw [List.take_zero]; rfl⟩, rfl, ZU, rfl⟩ ?_)
  rintro L f m ⟨k, j, hrel, rfl, rfl, rfl⟩
  have hkl := hrel.1
  refine z7 (ZO (Zv (.int .i64 (k : Int)) (Zv (.slice A l.length cap) (Zv (.int .i64 (l.length : Int)) ?_))))
  by_cases h1 : (k : Int) < (l.length : Int)
  · have hk : k < l.length := by omega
    obtain ⟨b, off, hA, hlt, hcell⟩ := hv (by omega)
    obtain ⟨s, hs⟩ : ∃ s, l[k] = s := ⟨_, rfl⟩
    have hsk : s.short := hs ▸ hl l[k] (List.getElem_mem hk)
    refine Zg h1 (ZY (ZB (z7 (zL (z7 (kM (by kernel_rfl) (by kernel_rfl) (Zw (.slice A l.length cap) (Zw (.int .i64 (k : Int)) ?_))))))))
    refine xH (Zp b (off + k * 14)) (by kernel_rfl) (ZA (b := b) (off := off) (c := cap) (n := l.length) (k := .i64) (j := (k : Int)) (e := 80) (sz := 14) hA) (wR (yX s) (a := ⟨b, off + k * 14, none⟩) (by kernel_rfl) rfl (by kernel_rfl) (fun w hO => y6 y9 (fun j u h => (hO.below.cell (p := ⟨b, off + j, none⟩) hlt).trans (hcell j u h)) k 0 hk (by omega) _ (by rw [hs]; kernel_rfl)) (Zq (k := 96) (args := #[yX s]) (.bool s.may) (fun w _ => j4 s w hsk) ?_))
    cases h2 : s.may with
    | true =>
      refine Zw Z5 (Zw Z5 (Zw (.int .i64 (k : Int)) ?_))
      by_cases h3 : (0 : Int) < (k : Int)
      · have hk1 : k - 1 < l.length := by omega
        obtain ⟨r, hr⟩ : ∃ r, l[k - 1] = r := ⟨_, rfl⟩
        have hrk : r.short := hr ▸ hl l[k - 1] (List.getElem_mem hk1)
        refine Zi h3 (Zw Z4 (Zw (.slice A l.length cap) (Zw (.int .i64 (k : Int)) (q_sum (k := .i64) (((k : Int) : Int) - 1) (by kernel_rfl) (fun _ => by kernel_rfl) (IntWalk.i64_in _ (by omega)) (xH (Zp b (off + (k - 1) * 14)) (by kernel_rfl) (qJ (b := b) (off := off) (c := cap) (n := l.length) (k := .i64) (j := ((k : Int) : Int) - 1) (e := 80) (sz := 14) rfl (by kernel_rfl) hA (by kernel_rfl) (by kernel_rfl) (by kernel_rfl) (by omega) (by omega) (by omega)) (Zw (Zp b (off + (k - 1) * 14 + 7)) (wR (zC r.hi) (a := ⟨b, off + (k - 1) * 14 + 7, none⟩) (by kernel_rfl) rfl (by kernel_rfl) (fun w hO => y6 y9 (fun j u h => (hO.below.cell (p := ⟨b, off + j, none⟩) hlt).trans (hcell j u h)) (k - 1) 7 hk1 (by omega) _ (by rw [hr]; kernel_rfl)) (Zw (.slice A l.length cap) (Zw (.int .i64 (k : Int)) (xH (Zp b (off + k * 14)) (by kernel_rfl) (ZA (b := b) (off := off) (c := cap) (n := l.length) (k := .i64) (j := (k : Int)) (e := 80) (sz := 14) hA) (Zw (Zp b (off + k * 14 + 0)) ?_)))))))))))
        refine wR (zC s.lo) (a := ⟨b, off + k * 14 + 0, none⟩) (by kernel_rfl) rfl (by kernel_rfl) (fun w hO => y6 y9 (fun j u h => (hO.below.cell (p := ⟨b, off + j, none⟩) hlt).trans (hcell j u h)) k 0 hk (by omega) _ (by rw [hs]; kernel_rfl)) (Zq (k := 94) (args := #[zC r.hi, zC s.lo]) (.int .i64 (zV r.hi s.lo)) (fun w _ => jS r.hi s.lo w hrk.2 hsk.1) ?_)
        by_cases h4 : (0 : Int) ≤ zV r.hi s.lo
        · refine Zi h4 (Zw Z4 (Zw Z4 (xU (z8 (Zt (ZO (Zv Z5 (ZN (zB ?_)))))))))
          exact zF (z6 (zW (zF (z6 (ZF Z5 Tryz.results54 (fun w hO => ⟨by rw [show zR l = false from by cases hm : zR l with | false => rfl | true => first | (have h := xJ hm l[k] (List.getElem_mem hk); rw [hs] at h; simp_all; done) | (have h := row_pair hm k hk (by omega); rw [hs, hr] at h; omega)], hO.below⟩))))))
        refine ZI h4 (Zw Z5 (Zw Z5 (xU (z8 (Zf (yC (zQ (z8 (zA (Zv (.int .i64 (k : Int)) (Zu (k := .i64) (((k + 1 : Nat) : Int)) (IntWalk.i64_in _ (by omega)) ?_)))))))))))
        refine Zv (.int .i64 ((k + 1 : Nat) : Int)) (zP ?_)
        have hnext : zR (l.take (k + 1)) = true := pI hk hrel.2 (by rw [hs]; assumption) (fun _ => by rw [hr, hs]; omega)
        exact zT (m' := l.length - (k + 1)) (by omega) ⟨k + 1, _, ⟨by omega, hnext⟩, rfl, ZU, rfl⟩
      refine ZI h3 (Zw Z5 (Zj (Zj (Zj (Zj (Zj (Zj (Zj (Zj (Zj (Zj ?_)))))))))))
      refine Zj (Zj (Zj (Zw Z5 (Zw Z5 (xU (z8 (Zf (yC (zQ (z8 (zA ?_)))))))))))
      refine Zv (.int .i64 (k : Int)) (Zu (k := .i64) (((k + 1 : Nat) : Int)) (IntWalk.i64_in _ (by omega)) (Zv (.int .i64 ((k + 1 : Nat) : Int)) (zP ?_)))
      have hnext : zR (l.take (k + 1)) = true := pI hk hrel.2 (by rw [hs]; assumption) (fun h0 => absurd h0 (by omega))
      exact zT (m' := l.length - (k + 1)) (by omega) ⟨k + 1, _, ⟨by omega, hnext⟩, rfl, ZU, rfl⟩
    | false =>
      refine Zw Z4 (Zw Z4 (Zj (Zj (Zj (Zj (Zj (Zj (Zj (Zj (Zj (Zj ?_)))))))))))
      refine Zj (Zj (Zj (Zj (Zj (Zj (Zj (Zw Z4 (xU (z8 (Zt (z7 ?_)))))))))))
      exact zA (Zv Z5 (ZN (zB (zF (z6 (zW (zF (z6 (ZF Z5 Tryz.results54 (fun w hO => ⟨by rw [show zR l = false from by cases hm : zR l with | false => rfl | true => first | (have h := xJ hm l[k] (List.getElem_mem hk); rw [hs] at h; simp_all; done) | (have h := row_pair hm k hk (by omega); rw [hs, hr] at h; omega)], hO.below⟩))))))))))
  refine Zh h1 (ZX (y5 (zD (zN (zH (z8 (ZO (Zv Z4 ?_))))))))
  exact ZN (zB (ZF Z4 Tryz.results54 (fun w hO => ⟨by rw [show zR l = true from by have h := hrel.2; rwa [List.take_of_length_le (by omega)] at h], hO.below⟩)))
theorem rrowHas_any (A : Option Addr) (cap : Nat) (l : List Sp) (v : Ver) (W : World) (hv : Reads yR W W.heap.size A l) (hn : l.length ≤ 1000000) (hl : x8 l) (hv2 : v.short) :
    Calls Tryz.prog 52 #[.slice A l.length cap, y8 v] W fun e w' => e = .returned (.bool (xY l v)) ∧ Below W.heap.size W w' := by
  refine Z2 (n := 22) Tryz.func52 rfl (ZO (Zb (y8 v) (fun b1 => Zv Z5 (ZN (z7 (ZO (Zv (.int .i64 0) (zP ?_))))))))
  refine z8 (zL (yL (fun L f m => ∃ (k : Nat) (j : Nat → Value), (k ≤ l.length ∧ xY l v = (zR l && (l.drop k).any (qH · v))) ∧ L = [⟨b1, (y8 v).cells, 44⟩] ∧ f = xF j [(0, .slice A l.length cap), (3, Zp b1 0), (5, .int .i64 (k : Int))] ∧ m = l.length - k) (l.length - 0) ⟨0, _, ⟨Nat.zero_le _, by rw [List.drop_zero]; rfl⟩, rfl, ZU, rfl⟩ ?_))
  rintro L f m ⟨k, j, hrel, rfl, rfl, rfl⟩
  have hkl := hrel.1
  refine z7 (ZO (Zv (.int .i64 (k : Int)) (Zv (.slice A l.length cap) (Zv (.int .i64 (l.length : Int)) ?_))))
  by_cases h1 : (k : Int) < (l.length : Int)
  · have hk : k < l.length := by omega
    obtain ⟨b, off, hA, hlt, hcell⟩ := hv (by omega)
    obtain ⟨s, hs⟩ : ∃ s, l[k] = s := ⟨_, rfl⟩
    have hsk : s.short := hs ▸ hl l[k] (List.getElem_mem hk)
    refine Zg h1 (Zv Z4 (Zv (.slice A l.length cap) (Zc (k := 54) (args := #[.slice A l.length cap]) (.bool (zR l)) (fun w hO => gM A cap l w (hv.on hO.below hO.below.size) hn hl) (Zv (.bool (zR l)) (zP (z8 ?_))))))
    cases h2 : zR l with
    | true =>
      refine Zt (ZB (z7 (zL (z7 (kM (by kernel_rfl) (by kernel_rfl) (Zw (.slice A l.length cap) (Zw (.int .i64 (k : Int)) (xH (Zp b (off + k * 14)) (by kernel_rfl) (ZA (b := b) (off := off) (c := cap) (n := l.length) (k := .i64) (j := (k : Int)) (e := 80) (sz := 14) hA) (wR (yX s) (a := ⟨b, off + k * 14, none⟩) (by kernel_rfl) rfl (by kernel_rfl) (fun w hO => y6 y9 (fun j u h => (hO.below.cell (p := ⟨b, off + j, none⟩) hlt).trans (hcell j u h)) k 0 hk (by omega) _ (by rw [hs]; kernel_rfl)) (Zm 0 ⟨b1, (y8 v).cells, 44⟩ (off := 0) (y8 v) ?_))))))))))
      refine Zq (k := 92) (args := #[yX s, y8 v]) (.bool (qH s v)) (fun w _ => rholdsC_any s v w hsk hv2) (xU (z8 ?_))
      cases h3 : qH s v with
      | true =>
        refine Zt (ZO (Zv Z4 (ZN (zB (zF (z6 (zW (zF (z6 ?_)))))))))
        exact ZF Z4 Tryz.results52 (fun w hO => ⟨by rw [show xY l v = true from by rw [hrel.2, any_drop l v k hk, hs]; simp [h1, h2, h3]], hO.below⟩)
      | false =>
        refine Zf (yC (zQ (z8 (zA (Zv (.int .i64 (k : Int)) (Zu (k := .i64) (((k + 1 : Nat) : Int)) (IntWalk.i64_in _ (by omega)) (Zv (.int .i64 ((k + 1 : Nat) : Int)) (zP ?_))))))))
        have hnext : xY l v = (zR l && (l.drop (k + 1)).any (qH · v)) := by rw [hrel.2, any_drop l v k hk, hs]; simp [h1, h2, h3]
        exact zT (m' := l.length - (k + 1)) (by omega) ⟨k + 1, _, ⟨by omega, by simpa [h1, h2, h3] using hnext⟩, rfl, ZU, rfl⟩
    | false =>
      refine Zf (y5 (zD (zN (zH (z8 (ZO (Zv Z5 (ZN (zB ?_)))))))))
      exact ZF Z5 Tryz.results52 (fun w hO => ⟨by rw [show xY l v = false from by rw [hrel.2]; first | (rw [List.drop_of_length_le (by omega)]; simp; done) | simp [h1, h2]], hO.below⟩)
  refine Zh h1 (Zv Z5 (Zk (Zk (Zv Z5 (ZX (y5 (zD (zN (zH ?_)))))))))
  exact z8 (ZO (Zv Z5 (ZN (zB (ZF Z5 Tryz.results52 (fun w hO => ⟨by rw [show xY l v = false from by rw [hrel.2]; first | (rw [List.drop_of_length_le (by omega)]; simp; done) | simp [h1]], hO.below⟩))))))
end
section
def SlS (v : Value) (l : List Sp) (ob : List Blk) : Prop := Sl 80 14 v l.length (l.flatMap yR) ob
theorem spanInfo : (Tryz.prog.info? 80).map (fun i => (i.zero.map (·.cells.size), i.size, i.bytes)) = some (some 14, 14, 144) := by kernel_rfl
theorem kX : ∃ i z, Tryz.prog.info? 80 = some i ∧ i.zero = some z ∧ i.size = 14 ∧ z.cells.size = 14 ∧ i.bytes = 144 := by
  have h := spanInfo
  cases hi : Tryz.prog.info? 80 with
  | none => rw [hi] at h; cases h
  | some i =>
    rw [hi] at h
    simp only [Option.map_some, Option.some.injEq, Prod.mk.injEq] at h
    cases hz : i.zero with
    | none => rw [hz] at h; simp at h
    | some z => rw [hz] at h; simp at h; exact ⟨i, z, rfl, hz, h.2.1, h.1, h.2.2⟩
theorem xX (s : Sp) : ∀ u ∈ yR s, u.oneCell' = true := by
  intro u hu
  unfold yR yX at hu
  simp only [Value.cells, List.mem_cons, List.not_mem_nil, or_false] at hu
  rcases hu with rfl | rfl | rfl | rfl | rfl | rfl | rfl | rfl | rfl | rfl | rfl | rfl | rfl | rfl <;> rfl
theorem grow_app {l : List Sp} {c d : Cu} (h : ∀ s ∈ l.getLast?, ¬ zV s.hi c = 0) : qI l c d = l ++ [⟨c, d⟩] := by
  unfold qI
  cases hg : l.getLast? with
  | none => have : l = [] := by simpa using hg
            subst this; rfl
  | some s => dsimp only; rw [if_neg (h s hg)]
theorem grow_set {l : List Sp} {c d : Cu} {s : Sp} (h0 : 0 < l.length) (hs : l[l.length - 1]'(by omega) = s) (h : zV s.hi c = 0) : qI l c d = l.set (l.length - 1) ⟨s.lo, d⟩ := by
  have hg : l.getLast? = some s := by rw [List.getLast?_eq_getElem?, List.getElem?_eq_getElem (by omega), hs]
  unfold qI
  rw [hg]
  dsimp only
  rw [if_pos h, List.dropLast_eq_take, List.set_eq_take_append_cons_drop, if_pos (by omega), List.drop_of_length_le (by omega)]
theorem last_at {l : List Sp} (h0 : 0 < l.length) {s t : Sp} (hs : l[l.length - 1]'(by omega) = s) (ht : t ∈ l.getLast?) : t = s := by
  rw [List.getLast?_eq_getElem?, List.getElem?_eq_getElem (by omega), hs] at ht
  exact (Option.some.inj ht).symm
theorem grow_any (A : Option Addr) (cap : Nat) (l : List Sp) (ob : List Blk) (c d : Cu) (W : World) (hv : SlS (.slice A l.length cap) l ob) (hO : Own (ob.map Blk.b) W W ob) (hn : l.length ≤ 1000000) (hl : x8 l) (hc : c.short) (hd : d.short) :
    Calls Tryz.prog 102 #[.slice A l.length cap, zC c, zC d] W fun e w' => ∃ v' ob', e = .returned v' ∧ SlS v' (qI l c d) ob' ∧ Own (ob.map Blk.b) W w' ob' := by
  unfold SlS at hv ⊢
  refine nW (n := 35) hO Tryz.func102 rfl (by kernel_rfl) (by kernel_rfl) (ZO (Zb (zC c) (fun b1 => Zb (zC d) (fun b2 => Zv (.slice none 0 0) (ZN (z7 (ZO (Zv (.slice A l.length cap) ?_))))))))
  refine Zv (.int .i64 (l.length : Int)) (Zu (k := .i64) (((l.length : Int) : Int) - 1) (IntWalk.i64_in _ (by omega)) (Zv (.int .i64 (((l.length : Int) : Int) - 1)) (ZN (z7 (kM (by kernel_rfl) (by kernel_rfl) (Zw (.int .i64 (((l.length : Int) : Int) - 1)) ?_))))))
  by_cases h1 : (0 : Int) ≤ ((l.length : Int) : Int) - 1
  · obtain ⟨g, cur, rfl, rfl, hcap, hmax, hsz, hcur⟩ := hv.block (by omega)
    obtain ⟨s, hs⟩ : ∃ s, l[l.length - 1]'(by omega) = s := ⟨_, rfl⟩
    have hsk : s.short := hs ▸ hl _ (List.getElem_mem _)
    refine Zi h1 (Zw Z4 (Zw (.slice (some ⟨g, 0, none⟩) l.length cap) (Zw (.int .i64 (((l.length : Int) : Int) - 1)) (xH (Zp g ((l.length - 1) * 14)) (by kernel_rfl) (ZV (b := g) (off := 0) (n := l.length) (c := cap) (k := .i64) (j := (l.length : Int) - 1) (e := 80) (sz := 14)) (Zw (Zp g ((l.length - 1) * 14 + 7)) (uE 2 ⟨g, cur, 80⟩ (off := (l.length - 1) * 14 + 7) (zC s.hi) (by kernel_rfl) rfl (by kernel_rfl) (by kernel_rfl) (x6 y9 hcur (l.length - 1) 7 (by omega) (by omega) _ (by rw [hs]; kernel_rfl)) (Zm 1 ⟨b1, (zC c).cells, 78⟩ (off := 0) (zC c) (Zq (k := 94) (args := #[zC s.hi, zC c]) (.int .i64 (zV s.hi c)) (fun w _ => jS s.hi c w hsk.2 hc) ?_))))))))
    by_cases h2 : (zV s.hi c : Int) = 0
    · refine Zi h2 (Zw Z4 (xU (z8 (Zt (ZO (Zv (.slice (some ⟨g, 0, none⟩) l.length cap) (Zv (.int .i64 (((l.length : Int) : Int) - 1)) (Zl 0 ⟨b2, (zC d).cells, 78⟩ (off := 0) (zC d) (zU (Zp g ((l.length - 1) * 14)) (by kernel_rfl) (ZV (b := g) (off := 0) (n := l.length) (c := cap) (k := .i64) (j := (l.length : Int) - 1) (e := 80) (sz := 14)) (Zv (Zp g ((l.length - 1) * 14 + 7)) ?_))))))))))
      refine tW 2 ⟨g, cur, 80⟩ (off := (l.length - 1) * 14 + 7) (zC d) 7 (by kernel_rfl) rfl rfl (by kernel_rfl) (by kernel_rfl) (by kernel_rfl) (by kernel_rfl) (by kernel_rfl) (by show (l.length - 1) * 14 + 7 + 7 ≤ cur.size; omega) (by kernel_rfl) (ZR (Zv (.slice (some ⟨g, 0, none⟩) l.length cap) (Zv (.slice (some ⟨g, 0, none⟩) l.length cap) (ZN (zB (z6 (ZF (.slice (some ⟨g, 0, none⟩) l.length cap) Tryz.results102 ?_)))))))
      have hse := fK y9 hcur (l.length - 1) 7 (by omega) (zC d).cells ⟨s.lo, d⟩ (show 7 + 7 ≤ 14 by decide) (by rw [hs]; rfl)
      refine fun w hO => ⟨_, [⟨g, kO cur ((l.length - 1) * 14 + 7) (zC d).cells, 80⟩], rfl, ?_, Own.take hO (fun x hx => by simp only [List.mem_singleton] at hx; subst hx; simp) (by simp)⟩
      rw [grow_set (by omega) hs (by assumption), List.length_set]
      exact ⟨by rw [kU y9, List.length_set], .inr ⟨g, cap, _, rfl, rfl, hcap, hmax, by rw [hse.2]; exact hsz, hse.1⟩⟩
    refine ZI h2 (Zw Z5 (xU (z8 (Zf (ZB (ZO (Zv (.slice (some ⟨g, 0, none⟩) l.length cap) (Zl 1 ⟨b1, (zC c).cells, 78⟩ (off := 0) (zC c) (Zl 0 ⟨b2, (zC d).cells, 78⟩ (off := 0) (zC d) ?_)))))))))
    refine Zv (.agg (ZJ2 c d)) (qC 80 (ZJ2 c d) (by kernel_rfl) rfl (fun _ => by kernel_rfl) (fun b3 => xT (L' := [⟨b3, (ZJ2 c d), 80⟩, ⟨b2, (zC d).cells, 78⟩, ⟨b1, (zC c).cells, 78⟩] ++ [⟨g, cur, 80⟩] ++ []) (by simp) ?_))
    obtain ⟨i, z, e1, e2, e3, e4, e5⟩ := kX
    refine kR (sz := 14) (by kernel_rfl) rfl Tryz.underlying29 e1 e2 e3 e4 (by kernel_rfl) hv (a := ⟨b3, 0, none⟩) (m := 1) (c := 1) (news := yR ⟨c, d⟩) (by kernel_rfl) rfl (fun w hO j u hj => ?_) (xX _) (by unfold maxLen; omega) (by rw [e5]; omega) (fun v' ob' hv' => ?_)
    · rw [yW, cell_of_row w b3 (0 + j) (yR ⟨c, d⟩).toArray 80 _ (hO.held ⟨b3, (yR ⟨c, d⟩).toArray, 80⟩ (List.mem_append_left _ (List.mem_append_left _ (List.mem_cons_self ..))))]; simpa using hj
    refine Zv (v') (ZN (zB (ZF (v') Tryz.results102 (fun w hO => ⟨v', ob', rfl, by rw [grow_app (fun t ht => by rw [last_at (by omega) hs ht]; assumption)]; simpa using hv', Own.take hO (fun x hx => List.mem_append_left _ (List.mem_append_right _ hx)) ?_⟩))))
    have := hO.apart; rw [List.append_nil, List.map_append, List.nodup_append] at this; exact this.2.1
  refine ZI h1 (Zw Z5 (Zj (Zj (Zj (Zj (Zj (Zj (Zj (Zj (Zw Z5 (xU ?_)))))))))))
  refine z8 (Zf (ZB (ZO (Zv (.slice A l.length cap) (Zl 1 ⟨b1, (zC c).cells, 78⟩ (off := 0) (zC c) (Zl 0 ⟨b2, (zC d).cells, 78⟩ (off := 0) (zC d) (Zv (.agg (ZJ2 c d)) (qC 80 (ZJ2 c d) (by kernel_rfl) rfl (fun _ => by kernel_rfl) (fun b3 => xT (L' := [⟨b3, (ZJ2 c d), 80⟩, ⟨b2, (zC d).cells, 78⟩, ⟨b1, (zC c).cells, 78⟩] ++ ob ++ []) (by simp) ?_)))))))))
  obtain ⟨i, z, e1, e2, e3, e4, e5⟩ := kX
  refine kR (sz := 14) (by kernel_rfl) rfl Tryz.underlying29 e1 e2 e3 e4 (by kernel_rfl) hv (a := ⟨b3, 0, none⟩) (m := 1) (c := 1) (news := yR ⟨c, d⟩) (by kernel_rfl) rfl (fun w hO j u hj => ?_) (xX _) (by unfold maxLen; omega) (by rw [e5]; omega) (fun v' ob' hv' => ?_)
  · rw [yW, cell_of_row w b3 (0 + j) (yR ⟨c, d⟩).toArray 80 _ (hO.held ⟨b3, (yR ⟨c, d⟩).toArray, 80⟩ (List.mem_append_left _ (List.mem_append_left _ (List.mem_cons_self ..))))]; simpa using hj
  refine Zv (v') (ZN (zB (ZF (v') Tryz.results102 (fun w hO => ⟨v', ob', rfl, by rw [grow_app (fun t ht => by have : l = [] := List.eq_nil_of_length_eq_zero (by omega); subst this; simp at ht)]; simpa using hv', Own.take hO (fun x hx => List.mem_append_left _ (List.mem_append_right _ hx)) ?_⟩))))
  have := hO.apart; rw [List.append_nil, List.map_append, List.nodup_append] at this; exact this.2.1
end
section
theorem putL_at {c : Cu} : ∀ {l : List Cu} (k : Nat) (hk : k < l.length), (∀ x ∈ l.take k, zV x c < 0) → zV l[k] c = 0 → gC c l = l
  | [], k, hk, _, _ => by simp at hk
  | d :: r, 0, hk, _, h => by
    have h' : zV d c = 0 := h
    unfold gC
    rw [if_neg (by omega), if_pos h']
  | d :: r, k + 1, hk, ht, h => by
    have hd : zV d c < 0 := ht d (by simp)
    unfold gC
    rw [if_pos hd, putL_at (l := r) k (by simpa using hk) (fun x hx => ht x (by simp [hx])) h]
theorem mL {c : Cu} : ∀ {l : List Cu} (k : Nat) (hk : k ≤ l.length), (∀ x ∈ l.take k, zV x c < 0) → (∀ h : k < l.length, ¬ zV l[k] c < 0 ∧ ¬ zV l[k] c = 0) → gC c l = l.take k ++ c :: l.drop k
  | [], k, hk, _, _ => by
    obtain rfl : k = 0 := by simpa using hk
    rfl
  | d :: r, 0, hk, _, h => by
    have h' : ¬ zV d c < 0 ∧ ¬ zV d c = 0 := h (by simp)
    unfold gC
    rw [if_neg h'.1, if_neg h'.2]; rfl
  | d :: r, k + 1, hk, ht, h => by
    have hd : zV d c < 0 := ht d (by simp)
    unfold gC
    rw [if_pos hd, mL (l := r) k (by simpa using hk) (fun x hx => ht x (by simp [hx])) (fun h0 => h (by simpa using h0))]; rfl
def wO (s : Cu) : List Value := (zC s).cells.toList
theorem xE (s : Cu) : (wO s).length = 7 := rfl
def ShortC (l : List Cu) : Prop := ∀ s ∈ l, s.short
def SlC (v : Value) (l : List Cu) (ob : List Blk) : Prop := Sl 78 7 v l.length (l.flatMap wO) ob
theorem cutInfo : (Tryz.prog.info? 78).map (fun i => (i.zero.map (·.cells.size), i.size, i.bytes)) = some (some 7, 7, 72) := by kernel_rfl
theorem cut_info : ∃ i z, Tryz.prog.info? 78 = some i ∧ i.zero = some z ∧ i.size = 7 ∧ z.cells.size = 7 ∧ i.bytes = 72 := by
  have h := cutInfo
  cases hi : Tryz.prog.info? 78 with
  | none => rw [hi] at h; cases h
  | some i =>
    rw [hi] at h
    simp only [Option.map_some, Option.some.injEq, Prod.mk.injEq] at h
    cases hz : i.zero with
    | none => rw [hz] at h; simp at h
    | some z => rw [hz] at h; simp at h; exact ⟨i, z, rfl, hz, h.2.1, h.1, h.2.2⟩
theorem fE (s : Cu) : ∀ u ∈ wO s, u.oneCell' = true := by
  intro u hu
  unfold wO zC at hu
  simp only [Value.cells, List.mem_cons, List.not_mem_nil, or_false] at hu
  rcases hu with rfl | rfl | rfl | rfl | rfl | rfl | rfl <;> rfl
theorem vY (l : List Cu) : ∀ u ∈ l.flatMap wO, u.oneCell' = true := fun u hu => by
  obtain ⟨x, _, hx⟩ := List.mem_flatMap.1 hu
  exact fE x u hx
theorem flat_drop {α : Type} {g : α → List Value} {sz : Nat} (hg : ∀ x, (g x).length = sz) (l : List α) (k : Nat) (hk : k ≤ l.length) : (l.drop k).flatMap g = (l.flatMap g).drop (k * sz) := by
  have e : l.flatMap g = (l.take k).flatMap g ++ (l.drop k).flatMap g := by rw [← List.flatMap_append, List.take_append_drop]
  have e2 : ((l.take k).flatMap g).length = k * sz := by rw [kU hg, List.length_take, Nat.min_eq_left hk]
  rw [e, ← e2, List.drop_left]
theorem flat_take {α : Type} {g : α → List Value} {sz : Nat} (hg : ∀ x, (g x).length = sz) (l : List α) (k : Nat) (hk : k ≤ l.length) : (l.take k).flatMap g = (l.flatMap g).take (k * sz) := by
  have e : l.flatMap g = (l.take k).flatMap g ++ (l.drop k).flatMap g := by rw [← List.flatMap_append, List.take_append_drop]
  have e2 : ((l.take k).flatMap g).length = k * sz := by rw [kU hg, List.length_take, Nat.min_eq_left hk]
  rw [e, ← e2, List.take_left]
theorem hY {α : Type} {g : α → List Value} {sz : Nat} (hg : ∀ x, (g x).length = sz) {cur : Array Value} {l : List α} (ht : cur.toList.take (l.length * sz) = l.flatMap g) (k : Nat) (hk : k ≤ l.length) {j : Nat} {u : Value} (hj : ((l.take k).flatMap g)[j]? = some u) : cur[0 + j]? = some u := by
  rw [flat_take hg l k hk, ← ht, List.take_take, Nat.min_eq_left (Nat.mul_le_mul_right _ hk), List.getElem?_take] at hj
  split at hj
  · rw [Nat.zero_add]; simpa using hj
  · cases hj
theorem fJ {α : Type} {g : α → List Value} {sz : Nat} (hg : ∀ x, (g x).length = sz) {cur : Array Value} {l : List α} (ht : cur.toList.take (l.length * sz) = l.flatMap g) (k cap : Nat) (hk : k ≤ l.length) (hc : l.length ≤ cap) {j : Nat} {u : Value} (hj : ((l.drop k).flatMap g)[j]? = some u) : cur[(0 + if cap = k then 0 else k * sz) + j]? = some u := by
  by_cases h : cap = k
  · have : l.drop k = [] := List.drop_of_length_le (by omega)
    rw [this] at hj; simp at hj
  · rw [if_neg h, Nat.zero_add]
    rw [flat_drop hg l k hk, ← ht, List.getElem?_drop, List.getElem?_take] at hj
    split at hj
    · simpa using hj
    · cases hj
theorem Sl.to {T : TypeId} {sz : Nat} {v : Value} {n n' : Nat} {xs xs' : List Value} {ob : List Blk} (h : Sl T sz v n xs ob) (e : n = n') (e' : xs = xs') : Sl T sz v n' xs' ob := by subst e; subst e'; exact h
theorem put_any (A : Option Addr) (cap : Nat) (l : List Cu) (ob : List Blk) (c : Cu) (W : World) (hv : SlC (.slice A l.length cap) l ob) (hO : Own (ob.map Blk.b) W W ob) (h0 : 0 < l.length) (hn : l.length ≤ 3000000) (hl : ShortC l) (hc : c.short) :
    Calls Tryz.prog 155 #[.slice A l.length cap, zC c] W fun e w' => ∃ v' ob', e = .returned v' ∧ SlC v' (gC c l) ob' ∧ Own (ob.map Blk.b) W w' ob' := by
  unfold SlC at hv ⊢
  obtain ⟨g, cur, rfl, rfl, hcap, hmax, hsz, hcur⟩ := hv.block h0
  refine nW (n := 46) hO Tryz.func155 rfl (by kernel_rfl) (by kernel_rfl) (ZO (Zb (zC c) (fun b1 => Zv (.slice none 0 0) (ZR (Zv (.int .i64 0) (zP (z8 ?_)))))))
  refine z7 (zL (yL (fun L f m => ∃ (k : Nat) (j : Nat → Value), (k ≤ l.length ∧ ∀ x ∈ l.take k, zV x c < 0) ∧ L = [⟨b1, (zC c).cells, 78⟩, ⟨g, cur, 78⟩] ∧ f = xF j [(0, .slice (some ⟨g, 0, none⟩) l.length cap), (3, Zp b1 0), (5, .int .i64 (k : Int))] ∧ m = l.length - k) (l.length - 0) ⟨0, _, ⟨Nat.zero_le _, by simp⟩, rfl, ZU, rfl⟩ ?_))
  rintro L f m ⟨k, j, hrel, rfl, rfl, rfl⟩
  have hkl := hrel.1
  refine z7 (z7 (kM (by kernel_rfl) (by kernel_rfl) (Zw (.int .i64 (k : Int)) (Zw (.slice (some ⟨g, 0, none⟩) l.length cap) (Zw (.int .i64 (l.length : Int)) ?_)))))
  by_cases h1 : (k : Int) < (l.length : Int)
  · have hk : k < l.length := by omega
    obtain ⟨s, hs⟩ : ∃ s, l[k] = s := ⟨_, rfl⟩
    have hsk : s.short := hs ▸ hl _ (List.getElem_mem _)
    refine Zi h1 (Zw Z4 (Zw (.slice (some ⟨g, 0, none⟩) l.length cap) (Zw (.int .i64 (k : Int)) (xH (Zp g (k * 7)) (by kernel_rfl) (yP (b := g) (off := 0) (n := l.length) (c := cap) (k := .i64) (j := (k : Int)) (e := 78) (sz := 7) rfl (by kernel_rfl) (by kernel_rfl) (by kernel_rfl) (by kernel_rfl) (by omega) (by omega) (by show 0 + k * 7 = k * 7; omega)) (uE 1 ⟨g, cur, 78⟩ (off := k * 7) (zC s) (by kernel_rfl) rfl (by kernel_rfl) (by kernel_rfl) (x6 xE hcur k 0 (by omega) (by omega) _ (by rw [hs]; kernel_rfl)) (Zm 0 ⟨b1, (zC c).cells, 78⟩ (off := 0) (zC c) (Zq (k := 94) (args := #[zC s, zC c]) (.int .i64 (zV s c)) (fun w _ => jS s c w hsk hc) ?_)))))))
    by_cases h2 : (zV s c : Int) < 0
    · refine Zi h2 (Zw Z4 (xU (z8 (Zt (ZB (zL (zA (Zv (.int .i64 (k : Int)) (Zu (k := .i64) (((k + 1 : Nat) : Int)) (IntWalk.i64_in _ (by omega)) (Zv (.int .i64 ((k + 1 : Nat) : Int)) ?_))))))))))
      refine zP (zQ ?_)
      have hnext : ∀ x ∈ l.take (k + 1), zV x c < 0 := by
        rw [List.take_succ_eq_append_getElem hk, hs]; intro x hx; rcases List.mem_append.1 hx with h | h; exact hrel.2 x h; obtain rfl : x = s := by simpa using h
        assumption
      exact zT (m' := l.length - (k + 1)) (by omega) ⟨k + 1, _, ⟨by omega, hnext⟩, rfl, ZU, rfl⟩
    refine ZI h2 (Zw Z5 (xU (z8 (Zf (y5 (zD (zN (zH (z8 (z7 (z7 ?_)))))))))))
    refine kM (by kernel_rfl) (by kernel_rfl) (Zw (.int .i64 (k : Int)) (Zw (.slice (some ⟨g, 0, none⟩) l.length cap) (Zw (.int .i64 (l.length : Int)) (Zi h1 (Zw Z4 (Zw (.slice (some ⟨g, 0, none⟩) l.length cap) (Zw (.int .i64 (k : Int)) (xH (Zp g (k * 7)) (by kernel_rfl) (yP (b := g) (off := 0) (n := l.length) (c := cap) (k := .i64) (j := (k : Int)) (e := 78) (sz := 7) rfl (by kernel_rfl) (by kernel_rfl) (by kernel_rfl) (by kernel_rfl) (by omega) (by omega) (by show 0 + k * 7 = k * 7; omega)) (uE 1 ⟨g, cur, 78⟩ (off := k * 7) (zC s) (by kernel_rfl) rfl (by kernel_rfl) (by kernel_rfl) (x6 xE hcur k 0 (by omega) (by omega) _ (by rw [hs]; kernel_rfl)) (Zm 0 ⟨b1, (zC c).cells, 78⟩ (off := 0) (zC c) (Zq (k := 94) (args := #[zC s, zC c]) (.int .i64 (zV s c)) (fun w _ => jS s c w hsk hc) ?_)))))))))))
    by_cases h3 : (zV s c : Int) = 0
    · refine Zi h3 (Zw Z4 (xU (z8 (Zt (ZO (Zv (.slice (some ⟨g, 0, none⟩) l.length cap) (Zv (.slice (some ⟨g, 0, none⟩) l.length cap) (ZN (zB ?_)))))))))
      refine z6 (ZF (.slice (some ⟨g, 0, none⟩) l.length cap) Tryz.results155 (fun w hO => ⟨_, [⟨g, cur, 78⟩], rfl, ?_, Own.take hO (fun x hx => by simp only [List.mem_singleton] at hx; subst hx; simp) (by simp)⟩))
      rw [putL_at k hk hrel.2 (by rw [hs]; assumption)]; exact hv
    refine ZI h3 (Zw Z5 (xU (z8 (Zf (ZB (z7 ?_))))))
    obtain ⟨i, z, e1, e2, e3, e4, e5⟩ := cut_info
    refine xO [⟨b1, (zC c).cells, 78⟩, ⟨g, cur, 78⟩] (by kernel_rfl) (fun w hO => hO) (Z3 0 _ (.slice (some ⟨g, 0, none⟩) l.length cap) rfl (zG zI) (fun w hO => hO) (Z3 1 _ (.int .i64 (k : Int)) rfl (zG zI) (fun w hO => hO) (qM 2 _ (.slice (some ⟨g, 0, none⟩) k cap) rfl (by kernel_rfl) (by kernel_rfl) (by kernel_rfl) (zG zI) (fun w hO => hO) (by kernel_rfl) (fun w _ => dT (b := g) (off := 0) (n := l.length) (c := cap) (k := .i64) (j := (k : Int)) (e := 78) (sz := 7) rfl (by kernel_rfl) (by kernel_rfl) (by kernel_rfl) (by kernel_rfl) (by omega) (by omega) w) (dA 4 _ 0 ⟨b1, (zC c).cells, 78⟩ (off := 0) (zC c) rfl (by kernel_rfl) (by kernel_rfl) (by kernel_rfl) (zG zI) (fun w hO => hO) (by kernel_rfl) rfl rfl (by kernel_rfl) (by kernel_rfl) (Z3 7 _ (.slice (some ⟨g, 0, none⟩) l.length cap) rfl (zG zI) (fun w hO => hO) (Z3 8 _ (.int .i64 (k : Int)) rfl (zG zI) (fun w hO => hO) (qM 9 _ (.slice (some ⟨g, 0 + (if cap = k then 0 else k * 7), none⟩) (l.length - k) (cap - k)) rfl (by kernel_rfl) (by kernel_rfl) (by kernel_rfl) (zG zI) (fun w hO => hO) (by kernel_rfl) (fun w _ => mI (b := g) (off := 0) (n := l.length) (c := cap) (k := .i64) (j := (k : Int)) (e := 78) (sz := 7) rfl (by kernel_rfl) (by kernel_rfl) (by kernel_rfl) (by kernel_rfl) (by omega) (by omega) w) (vD (L' := [] ++ [] ++ [⟨b1, (zC c).cells, 78⟩, ⟨g, cur, 78⟩]) rfl (wS 3 5 (by kernel_rfl) ?_ ?_)))))))))
    · refine gZ (E := []) (ob := []) (R := [⟨b1, (zC c).cells, 78⟩, ⟨g, cur, 78⟩]) (sz := 7) _ rfl (by kernel_rfl) rfl Tryz.underlying118 e1 e2 e3 e4 (by kernel_rfl) (Sl.nil 78 7) (a := ⟨g, 0, none⟩) (m := k) (c := cap) (news := (l.take k).flatMap wO) (by kernel_rfl) (by rw [kU xE, List.length_take, Nat.min_eq_left (by omega)]) (fun w hO j u hj => ?_) (vY _) (by unfold maxLen; omega) (by rw [e5]; omega) (fun ob' w hO => Own.sub ([] ++ ob') hO) (fun va oa hva => ?_)
      · rw [yW, cell_of_row w g (0 + j) cur 78 _ (hO.held ⟨g, cur, 78⟩ (by simp))]; exact hY xE hcur k (by omega) hj
      refine Zz 5 (hl_lit _ 78 (ZJ c) rfl (by kernel_rfl) rfl (fun w hO => Own.sub ([] ++ oa) hO) (fun _ => by kernel_rfl) (fun b2 => vD (L' := [⟨b2, (ZJ c), 78⟩] ++ oa ++ [⟨b1, (zC c).cells, 78⟩, ⟨g, cur, 78⟩]) (by simp) (Zz 6 (gZ (E := [⟨b2, (ZJ c), 78⟩]) (ob := oa) (R := [⟨b1, (zC c).cells, 78⟩, ⟨g, cur, 78⟩]) (sz := 7) _ rfl (by kernel_rfl) rfl Tryz.underlying118 e1 e2 e3 e4 (by kernel_rfl) hva (a := ⟨b2, 0, none⟩) (m := 1) (c := 1) (news := wO c) (by kernel_rfl) (rfl) (fun w hO j u hj => ?_) (fE _) (by unfold maxLen; omega) (by rw [e5]; omega) (fun ob' w hO => Own.sub ([⟨b2, (ZJ c), 78⟩] ++ ob') hO) (fun vb oq hvb => ?_)))))
      · rw [yW, cell_of_row w b2 (0 + j) (wO c).toArray 78 _ (hO.held ⟨b2, (wO c).toArray, 78⟩ (List.mem_append_left _ (List.mem_append_left _ (List.mem_cons_self ..))))]; simpa using hj
      refine Zz 10 (gZ (E := [⟨b2, (ZJ c), 78⟩]) (ob := oq) (R := [⟨b1, (zC c).cells, 78⟩, ⟨g, cur, 78⟩]) (sz := 7) _ rfl (by kernel_rfl) rfl Tryz.underlying118 e1 e2 e3 e4 (by kernel_rfl) hvb (a := ⟨g, 0 + (if cap = k then 0 else k * 7), none⟩) (m := l.length - k) (c := cap - k) (news := (l.drop k).flatMap wO) (by kernel_rfl) (by rw [kU xE, List.length_drop]) (fun w hO j u hj => ?_) (vY _) (by unfold maxLen; omega) (by rw [e5]; omega) (fun ob' w hO => Own.sub ([⟨b2, (ZJ c), 78⟩] ++ ob') hO) (fun vc oc hvc => ?_))
      · rw [yW, cell_of_row w g _ cur 78 _ (hO.held ⟨g, cur, 78⟩ (by simp))]; exact fJ xE hcur k cap (by omega) hcap hj
      refine Z3 11 _ vc rfl (zG zI) (fun w hO => Own.sub ([⟨b2, (ZJ c), 78⟩] ++ oc) hO) (ZZ (z8 (zB (ZF (vc) Tryz.results155 (fun w hO => ⟨vc, oc, rfl, ?_, Own.take hO (fun x hx => List.mem_append_left _ (List.mem_append_right _ hx)) ?_⟩)))))
      · rw [mL k (by omega) hrel.2 (fun h => by first | omega | (rw [hs]; exact ⟨by assumption, by assumption⟩))]
        exact hvc.to (by simp; omega) (by simp)
      · have := hO.apart; rw [List.map_append, List.map_append, List.nodup_append] at this; exact (List.nodup_append.1 this.1).2.1
    refine hl_lit _ 78 (ZJ c) rfl (by kernel_rfl) rfl (fun w hO => hO) (fun _ => by kernel_rfl) (fun b2 => vD (L' := [⟨b2, (ZJ c), 78⟩] ++ [] ++ [⟨b1, (zC c).cells, 78⟩, ⟨g, cur, 78⟩]) rfl (Zz 3 (gZ (E := [⟨b2, (ZJ c), 78⟩]) (ob := []) (R := [⟨b1, (zC c).cells, 78⟩, ⟨g, cur, 78⟩]) (sz := 7) _ rfl (by kernel_rfl) rfl Tryz.underlying118 e1 e2 e3 e4 (by kernel_rfl) (Sl.nil 78 7) (a := ⟨g, 0, none⟩) (m := k) (c := cap) (news := (l.take k).flatMap wO) (by kernel_rfl) (by rw [kU xE, List.length_take, Nat.min_eq_left (by omega)]) (fun w hO j u hj => ?_) (vY _) (by unfold maxLen; omega) (by rw [e5]; omega) (fun ob' w hO => Own.sub ([⟨b2, (ZJ c), 78⟩] ++ ob') hO) (fun va oa hva => ?_))))
    · rw [yW, cell_of_row w g (0 + j) cur 78 _ (hO.held ⟨g, cur, 78⟩ (by simp))]; exact hY xE hcur k (by omega) hj
    refine Zz 6 (gZ (E := [⟨b2, (ZJ c), 78⟩]) (ob := oa) (R := [⟨b1, (zC c).cells, 78⟩, ⟨g, cur, 78⟩]) (sz := 7) _ rfl (by kernel_rfl) rfl Tryz.underlying118 e1 e2 e3 e4 (by kernel_rfl) hva (a := ⟨b2, 0, none⟩) (m := 1) (c := 1) (news := wO c) (by kernel_rfl) (rfl) (fun w hO j u hj => ?_) (fE _) (by unfold maxLen; omega) (by rw [e5]; omega) (fun ob' w hO => Own.sub ([⟨b2, (ZJ c), 78⟩] ++ ob') hO) (fun vb oq hvb => ?_))
    · rw [yW, cell_of_row w b2 (0 + j) (wO c).toArray 78 _ (hO.held ⟨b2, (wO c).toArray, 78⟩ (List.mem_append_left _ (List.mem_append_left _ (List.mem_cons_self ..))))]; simpa using hj
    refine Zz 10 (gZ (E := [⟨b2, (ZJ c), 78⟩]) (ob := oq) (R := [⟨b1, (zC c).cells, 78⟩, ⟨g, cur, 78⟩]) (sz := 7) _ rfl (by kernel_rfl) rfl Tryz.underlying118 e1 e2 e3 e4 (by kernel_rfl) hvb (a := ⟨g, 0 + (if cap = k then 0 else k * 7), none⟩) (m := l.length - k) (c := cap - k) (news := (l.drop k).flatMap wO) (by kernel_rfl) (by rw [kU xE, List.length_drop]) (fun w hO j u hj => ?_) (vY _) (by unfold maxLen; omega) (by rw [e5]; omega) (fun ob' w hO => Own.sub ([⟨b2, (ZJ c), 78⟩] ++ ob') hO) (fun vc oc hvc => ?_))
    · rw [yW, cell_of_row w g _ cur 78 _ (hO.held ⟨g, cur, 78⟩ (by simp))]; exact fJ xE hcur k cap (by omega) hcap hj
    refine Z3 11 _ vc rfl (zG zI) (fun w hO => Own.sub ([⟨b2, (ZJ c), 78⟩] ++ oc) hO) (ZZ (z8 (zB (ZF (vc) Tryz.results155 (fun w hO => ⟨vc, oc, rfl, ?_, Own.take hO (fun x hx => List.mem_append_left _ (List.mem_append_right _ hx)) ?_⟩)))))
    · rw [mL k (by omega) hrel.2 (fun h => by first | omega | (rw [hs]; exact ⟨by assumption, by assumption⟩))]
      exact hvc.to (by simp; omega) (by simp)
    · have := hO.apart; rw [List.map_append, List.map_append, List.nodup_append] at this; exact (List.nodup_append.1 this.1).2.1
  refine ZI h1 (Zw Z5 (Zj (Zj (Zj (Zj (Zj (Zj (Zj (Zw Z5 (xU (z8 ?_)))))))))))
  refine Zf (y5 (zD (zN (zH (z8 (z7 (z7 (kM (by kernel_rfl) (by kernel_rfl) (Zw (.int .i64 (k : Int)) (Zw (.slice (some ⟨g, 0, none⟩) l.length cap) (Zw (.int .i64 (l.length : Int)) ?_)))))))))))
  refine ZI h1 (Zw Z5 (Zj (Zj (Zj (Zj (Zj (Zj (Zj (Zw Z5 (xU (z8 ?_)))))))))))
  refine Zf (ZB (z7 ?_))
  obtain ⟨i, z, e1, e2, e3, e4, e5⟩ := cut_info
  refine xO [⟨b1, (zC c).cells, 78⟩, ⟨g, cur, 78⟩] (by kernel_rfl) (fun w hO => hO) (Z3 0 _ (.slice (some ⟨g, 0, none⟩) l.length cap) rfl (zG zI) (fun w hO => hO) (Z3 1 _ (.int .i64 (k : Int)) rfl (zG zI) (fun w hO => hO) (qM 2 _ (.slice (some ⟨g, 0, none⟩) k cap) rfl (by kernel_rfl) (by kernel_rfl) (by kernel_rfl) (zG zI) (fun w hO => hO) (by kernel_rfl) (fun w _ => dT (b := g) (off := 0) (n := l.length) (c := cap) (k := .i64) (j := (k : Int)) (e := 78) (sz := 7) rfl (by kernel_rfl) (by kernel_rfl) (by kernel_rfl) (by kernel_rfl) (by omega) (by omega) w) (dA 4 _ 0 ⟨b1, (zC c).cells, 78⟩ (off := 0) (zC c) rfl (by kernel_rfl) (by kernel_rfl) (by kernel_rfl) (zG zI) (fun w hO => hO) (by kernel_rfl) rfl rfl (by kernel_rfl) (by kernel_rfl) (Z3 7 _ (.slice (some ⟨g, 0, none⟩) l.length cap) rfl (zG zI) (fun w hO => hO) (Z3 8 _ (.int .i64 (k : Int)) rfl (zG zI) (fun w hO => hO) (qM 9 _ (.slice (some ⟨g, 0 + (if cap = k then 0 else k * 7), none⟩) (l.length - k) (cap - k)) rfl (by kernel_rfl) (by kernel_rfl) (by kernel_rfl) (zG zI) (fun w hO => hO) (by kernel_rfl) (fun w _ => mI (b := g) (off := 0) (n := l.length) (c := cap) (k := .i64) (j := (k : Int)) (e := 78) (sz := 7) rfl (by kernel_rfl) (by kernel_rfl) (by kernel_rfl) (by kernel_rfl) (by omega) (by omega) w) (vD (L' := [] ++ [] ++ [⟨b1, (zC c).cells, 78⟩, ⟨g, cur, 78⟩]) rfl (wS 3 5 (by kernel_rfl) ?_ ?_)))))))))
  · refine gZ (E := []) (ob := []) (R := [⟨b1, (zC c).cells, 78⟩, ⟨g, cur, 78⟩]) (sz := 7) _ rfl (by kernel_rfl) rfl Tryz.underlying118 e1 e2 e3 e4 (by kernel_rfl) (Sl.nil 78 7) (a := ⟨g, 0, none⟩) (m := k) (c := cap) (news := (l.take k).flatMap wO) (by kernel_rfl) (by rw [kU xE, List.length_take, Nat.min_eq_left (by omega)]) (fun w hO j u hj => ?_) (vY _) (by unfold maxLen; omega) (by rw [e5]; omega) (fun ob' w hO => Own.sub ([] ++ ob') hO) (fun va oa hva => ?_)
    · rw [yW, cell_of_row w g (0 + j) cur 78 _ (hO.held ⟨g, cur, 78⟩ (by simp))]; exact hY xE hcur k (by omega) hj
    refine Zz 5 (hl_lit _ 78 (ZJ c) rfl (by kernel_rfl) rfl (fun w hO => Own.sub ([] ++ oa) hO) (fun _ => by kernel_rfl) (fun b2 => vD (L' := [⟨b2, (ZJ c), 78⟩] ++ oa ++ [⟨b1, (zC c).cells, 78⟩, ⟨g, cur, 78⟩]) (by simp) (Zz 6 (gZ (E := [⟨b2, (ZJ c), 78⟩]) (ob := oa) (R := [⟨b1, (zC c).cells, 78⟩, ⟨g, cur, 78⟩]) (sz := 7) _ rfl (by kernel_rfl) rfl Tryz.underlying118 e1 e2 e3 e4 (by kernel_rfl) hva (a := ⟨b2, 0, none⟩) (m := 1) (c := 1) (news := wO c) (by kernel_rfl) (rfl) (fun w hO j u hj => ?_) (fE _) (by unfold maxLen; omega) (by rw [e5]; omega) (fun ob' w hO => Own.sub ([⟨b2, (ZJ c), 78⟩] ++ ob') hO) (fun vb oq hvb => ?_)))))
    · rw [yW, cell_of_row w b2 (0 + j) (wO c).toArray 78 _ (hO.held ⟨b2, (wO c).toArray, 78⟩ (List.mem_append_left _ (List.mem_append_left _ (List.mem_cons_self ..))))]; simpa using hj
    refine Zz 10 (gZ (E := [⟨b2, (ZJ c), 78⟩]) (ob := oq) (R := [⟨b1, (zC c).cells, 78⟩, ⟨g, cur, 78⟩]) (sz := 7) _ rfl (by kernel_rfl) rfl Tryz.underlying118 e1 e2 e3 e4 (by kernel_rfl) hvb (a := ⟨g, 0 + (if cap = k then 0 else k * 7), none⟩) (m := l.length - k) (c := cap - k) (news := (l.drop k).flatMap wO) (by kernel_rfl) (by rw [kU xE, List.length_drop]) (fun w hO j u hj => ?_) (vY _) (by unfold maxLen; omega) (by rw [e5]; omega) (fun ob' w hO => Own.sub ([⟨b2, (ZJ c), 78⟩] ++ ob') hO) (fun vc oc hvc => ?_))
    · rw [yW, cell_of_row w g _ cur 78 _ (hO.held ⟨g, cur, 78⟩ (by simp))]; exact fJ xE hcur k cap (by omega) hcap hj
    refine Z3 11 _ vc rfl (zG zI) (fun w hO => Own.sub ([⟨b2, (ZJ c), 78⟩] ++ oc) hO) (ZZ (z8 (zB (ZF (vc) Tryz.results155 (fun w hO => ⟨vc, oc, rfl, ?_, Own.take hO (fun x hx => List.mem_append_left _ (List.mem_append_right _ hx)) ?_⟩)))))
    · rw [mL k (by omega) hrel.2 (fun h => by first | omega | (rw [hs]; exact ⟨by assumption, by assumption⟩))]
      exact hvc.to (by simp; omega) (by simp)
    · have := hO.apart; rw [List.map_append, List.map_append, List.nodup_append] at this; exact (List.nodup_append.1 this.1).2.1
  refine hl_lit _ 78 (ZJ c) rfl (by kernel_rfl) rfl (fun w hO => hO) (fun _ => by kernel_rfl) (fun b2 => vD (L' := [⟨b2, (ZJ c), 78⟩] ++ [] ++ [⟨b1, (zC c).cells, 78⟩, ⟨g, cur, 78⟩]) rfl (Zz 3 (gZ (E := [⟨b2, (ZJ c), 78⟩]) (ob := []) (R := [⟨b1, (zC c).cells, 78⟩, ⟨g, cur, 78⟩]) (sz := 7) _ rfl (by kernel_rfl) rfl Tryz.underlying118 e1 e2 e3 e4 (by kernel_rfl) (Sl.nil 78 7) (a := ⟨g, 0, none⟩) (m := k) (c := cap) (news := (l.take k).flatMap wO) (by kernel_rfl) (by rw [kU xE, List.length_take, Nat.min_eq_left (by omega)]) (fun w hO j u hj => ?_) (vY _) (by unfold maxLen; omega) (by rw [e5]; omega) (fun ob' w hO => Own.sub ([⟨b2, (ZJ c), 78⟩] ++ ob') hO) (fun va oa hva => ?_))))
  · rw [yW, cell_of_row w g (0 + j) cur 78 _ (hO.held ⟨g, cur, 78⟩ (by simp))]; exact hY xE hcur k (by omega) hj
  refine Zz 6 (gZ (E := [⟨b2, (ZJ c), 78⟩]) (ob := oa) (R := [⟨b1, (zC c).cells, 78⟩, ⟨g, cur, 78⟩]) (sz := 7) _ rfl (by kernel_rfl) rfl Tryz.underlying118 e1 e2 e3 e4 (by kernel_rfl) hva (a := ⟨b2, 0, none⟩) (m := 1) (c := 1) (news := wO c) (by kernel_rfl) (rfl) (fun w hO j u hj => ?_) (fE _) (by unfold maxLen; omega) (by rw [e5]; omega) (fun ob' w hO => Own.sub ([⟨b2, (ZJ c), 78⟩] ++ ob') hO) (fun vb oq hvb => ?_))
  · rw [yW, cell_of_row w b2 (0 + j) (wO c).toArray 78 _ (hO.held ⟨b2, (wO c).toArray, 78⟩ (List.mem_append_left _ (List.mem_append_left _ (List.mem_cons_self ..))))]; simpa using hj
  refine Zz 10 (gZ (E := [⟨b2, (ZJ c), 78⟩]) (ob := oq) (R := [⟨b1, (zC c).cells, 78⟩, ⟨g, cur, 78⟩]) (sz := 7) _ rfl (by kernel_rfl) rfl Tryz.underlying118 e1 e2 e3 e4 (by kernel_rfl) hvb (a := ⟨g, 0 + (if cap = k then 0 else k * 7), none⟩) (m := l.length - k) (c := cap - k) (news := (l.drop k).flatMap wO) (by kernel_rfl) (by rw [kU xE, List.length_drop]) (fun w hO j u hj => ?_) (vY _) (by unfold maxLen; omega) (by rw [e5]; omega) (fun ob' w hO => Own.sub ([⟨b2, (ZJ c), 78⟩] ++ ob') hO) (fun vc oc hvc => ?_))
  · rw [yW, cell_of_row w g _ cur 78 _ (hO.held ⟨g, cur, 78⟩ (by simp))]; exact fJ xE hcur k cap (by omega) hcap hj
  refine Z3 11 _ vc rfl (zG zI) (fun w hO => Own.sub ([⟨b2, (ZJ c), 78⟩] ++ oc) hO) (ZZ (z8 (zB (ZF (vc) Tryz.results155 (fun w hO => ⟨vc, oc, rfl, ?_, Own.take hO (fun x hx => List.mem_append_left _ (List.mem_append_right _ hx)) ?_⟩)))))
  · rw [mL k (by omega) hrel.2 (fun h => by first | omega | (rw [hs]; exact ⟨by assumption, by assumption⟩))]
    exact hvc.to (by simp; omega) (by simp)
  · have := hO.apart; rw [List.map_append, List.map_append, List.nodup_append] at this; exact (List.nodup_append.1 this.1).2.1
end
section
theorem Own.lend {M : List Nat} {W w : World} {L : List Blk} (h : Own M W w L) : Own (L.map Blk.b) w w L :=
  ⟨rfl, rfl, rfl, Nat.le_refl _, Nat.le_refl _, fun _ _ _ => rfl, h.held, fun x hx => .inr (List.mem_map.2 ⟨x, hx, rfl⟩), h.apart⟩
theorem SlC.form {v : Value} {l : List Cu} {ob : List Blk} (h : SlC v l ob) : ∃ A cap, v = .slice A l.length cap := by
  rcases h.2 with ⟨h1, h2, _⟩ | ⟨g, cap, cur, h1, _⟩
  · exact ⟨none, 0, by rw [h1, h2]⟩
  · exact ⟨_, cap, h1⟩
theorem put_call {M : List Nat} {W w : World} {v : Value} {l : List Cu} {ob : List Blk} (c : Cu) (hO : Own M W w ob) (hv : SlC v l ob) (h0 : 0 < l.length) (hn : l.length ≤ 3000000) (hl : ShortC l) (hc : c.short) :
    Calls Tryz.prog 155 #[v, zC c] w fun e w' => ∃ v' ob', e = .returned v' ∧ SlC v' (gC c l) ob' ∧ Own M W w' ob' := by
  obtain ⟨A, cap, rfl⟩ := hv.form
  refine (put_any A cap l ob c w hv hO.lend h0 hn hl hc).mono fun e w' ⟨v', ob', h1, h2, h3⟩ => ⟨v', ob', h1, h2, ?_⟩
  have := Own.join (R := []) (by simpa using hO) h3
  simpa using this
theorem putL_len (c : Cu) : ∀ (l : List Cu), (gC c l).length ≤ l.length + 1 ∧ 0 < (gC c l).length
  | [] => ⟨by simp [gC], by simp [gC]⟩
  | d :: r => by
    have ih := putL_len c r
    unfold gC
    split
    · simp; omega
    · split <;> simp
theorem pV {c : Cu} (hc : c.short) {l : List Cu} (hl : ShortC l) : ShortC (gC c l) := fun x hx => by
  rcases putL_mem c l x hx with rfl | h
  · exact hc
  · exact hl x h
theorem cuts_step (l : List Sp) (k : Nat) (hk : k < l.length) : g7 (l.take (k + 1)) = gC l[k].hi (gC l[k].lo (g7 (l.take k))) := by
  unfold g7
  rw [List.take_succ_eq_append_getElem hk, List.foldl_append]; rfl
theorem bH (l : List Sp) (hl : x8 l) : ∀ (k : Nat), k ≤ l.length → (g7 (l.take k)).length ≤ 2 + 2 * k ∧ 0 < (g7 (l.take k)).length ∧ ShortC (g7 (l.take k))
  | 0, _ => ⟨by simp [g7], by simp [g7], fun x hx => by
      simp only [g7, List.take_zero, List.foldl_nil, List.mem_cons, List.not_mem_nil, or_false] at hx
      rcases hx with rfl | rfl <;> exact ⟨by simp [zX, Ver.zero], by simp [zX, Ver.zero]⟩⟩
  | k + 1, h => by
    have ih := bH l hl k (by omega)
    have hs := hl l[k] (List.getElem_mem _)
    rw [cuts_step l k h]
    have e1 := putL_len l[k].lo (g7 (l.take k))
    have e2 := putL_len l[k].hi (gC l[k].lo (g7 (l.take k)))
    exact ⟨by omega, e2.2, pV hs.2 (pV hs.1 ih.2.2)⟩
theorem uT (W : World) : Calls Tryz.prog 147 #[] W fun e w' => e = .returned (zC (zX (-1))) ∧ Below W.heap.size W w' := by
  refine Z2 (n := 2) Tryz.func147 rfl (ZO (Za (.agg ZE) (fun b1 => ZR (Zv (.agg Z7) (Zs 0 ⟨b1, ZE, 78⟩ (off := 0) (.agg Z7) (zP (z8 ?_)))))))
  exact zB (ZC 0 ⟨b1, Z7, 78⟩ (off := 0) (.agg Z7) Tryz.results147 (fun w hO => ⟨rfl, hO.below⟩))
theorem uS (W : World) : Calls Tryz.prog 148 #[] W fun e w' => e = .returned (zC (zX (1))) ∧ Below W.heap.size W w' := by
  refine Z2 (n := 2) Tryz.func148 rfl (ZO (Za (.agg ZE) (fun b1 => ZR (Zv (.agg Z8) (Zs 0 ⟨b1, ZE, 78⟩ (off := 0) (.agg Z8) (zP (z8 ?_)))))))
  exact zB (ZC 0 ⟨b1, Z8, 78⟩ (off := 0) (.agg Z8) Tryz.results148 (fun w hO => ⟨rfl, hO.below⟩))
theorem cuts_any (A : Option Addr) (cap : Nat) (l : List Sp) (W : World) (hv : Reads yR W W.heap.size A l) (hn : l.length ≤ 1000000) (hl : x8 l) :
    Calls Tryz.prog 100 #[.slice A l.length cap] W fun e w' => ∃ v' ob', e = .returned v' ∧ SlC v' (g7 l) ob' ∧ Own [] W w' ob' := by
  refine Z2 (n := 28) Tryz.func100 rfl (ZO (Zv (.slice none 0 0) (ZR (Zc (k := 147) (args := #[]) (zC (zX (-1))) (fun w _ => uT w) (Zc (k := 148) (args := #[]) (zC (zX 1)) (fun w _ => uS w) (qC 78 #[.int .i64 ((zX (-1)).e), .int .i64 ((zX (-1)).v.maj), .int .i64 ((zX (-1)).v.min), .int .i64 ((zX (-1)).v.pat), .string (mkS (zX (-1)).v.pre), .string (mkS (zX (-1)).v.build), .bool ((zX (-1)).aft), .int .i64 ((zX 1).e), .int .i64 ((zX 1).v.maj), .int .i64 ((zX 1).v.min), .int .i64 ((zX 1).v.pat), .string (mkS (zX 1).v.pre), .string (mkS (zX 1).v.build), .bool ((zX 1).aft)] (by kernel_rfl) rfl (fun _ => by kernel_rfl) (fun b1 => Zv (.slice (some ⟨b1, 0, none⟩) 2 2) ?_)))))))
  refine ZN (z7 (ZO (Zv (.int .i64 0) (ZN (zL ?_)))))
  have hstart : SlC (.slice (some ⟨b1, 0, none⟩) 2 2) (g7 (l.take 0)) [⟨b1, #[.int .i64 ((zX (-1)).e), .int .i64 ((zX (-1)).v.maj), .int .i64 ((zX (-1)).v.min), .int .i64 ((zX (-1)).v.pat), .string (mkS (zX (-1)).v.pre), .string (mkS (zX (-1)).v.build), .bool ((zX (-1)).aft), .int .i64 ((zX 1).e), .int .i64 ((zX 1).v.maj), .int .i64 ((zX 1).v.min), .int .i64 ((zX 1).v.pat), .string (mkS (zX 1).v.pre), .string (mkS (zX 1).v.build), .bool ((zX 1).aft)], 78⟩] := ⟨rfl, .inr ⟨b1, 2, _, rfl, rfl, Nat.le_refl _, by unfold maxLen; omega, rfl, rfl⟩⟩
  refine qE (L' := [⟨b1, #[.int .i64 ((zX (-1)).e), .int .i64 ((zX (-1)).v.maj), .int .i64 ((zX (-1)).v.min), .int .i64 ((zX (-1)).v.pat), .string (mkS (zX (-1)).v.pre), .string (mkS (zX (-1)).v.build), .bool ((zX (-1)).aft), .int .i64 ((zX 1).e), .int .i64 ((zX 1).v.maj), .int .i64 ((zX 1).v.min), .int .i64 ((zX 1).v.pat), .string (mkS (zX 1).v.pre), .string (mkS (zX 1).v.build), .bool ((zX 1).aft)], 78⟩] ++ []) rfl (yL (fun L f m => ∃ (k : Nat) (v : Value) (ob : List Blk) (j : Nat → Value), (k ≤ l.length ∧ SlC v (g7 (l.take k)) ob) ∧ L = ob ++ [] ∧ f = xF j [(0, .slice A l.length cap), (3, v), (4, .int .i64 (k : Int))] ∧ m = l.length - k) (l.length - 0) ⟨0, _, [⟨b1, #[.int .i64 ((zX (-1)).e), .int .i64 ((zX (-1)).v.maj), .int .i64 ((zX (-1)).v.min), .int .i64 ((zX (-1)).v.pat), .string (mkS (zX (-1)).v.pre), .string (mkS (zX (-1)).v.build), .bool ((zX (-1)).aft), .int .i64 ((zX 1).e), .int .i64 ((zX 1).v.maj), .int .i64 ((zX 1).v.min), .int .i64 ((zX 1).v.pat), .string (mkS (zX 1).v.pre), .string (mkS (zX 1).v.build), .bool ((zX 1).aft)], 78⟩], _, ⟨Nat.zero_le _, hstart⟩, rfl, ZU, rfl⟩ ?_)
  rintro L f m ⟨k, v, ob, j, hrel, rfl, rfl, rfl⟩
  have hkl := hrel.1
  refine z7 (ZO (Zv (.int .i64 (k : Int)) (Zv (.slice A l.length cap) (Zv (.int .i64 (l.length : Int)) ?_))))
  by_cases h1 : (k : Int) < (l.length : Int)
  · have hk : k < l.length := by omega
    obtain ⟨b, off, hA, hlt, hcell⟩ := hv (by omega)
    obtain ⟨s, hs⟩ : ∃ s, l[k] = s := ⟨_, rfl⟩
    have hsk : s.short := hs ▸ hl _ (List.getElem_mem _)
    have hcz := bH l hl k hkl
    refine Zg h1 (ZY (ZB (z7 (zL (qE (L' := ob) (by simp) (xO [] (by kernel_rfl) (fun w hO => Own.take hO (by simp) (by simp)) (Z3 0 _ (v) rfl (zJ (zG (yA (zJ (zG zI))))) (fun w hO => Own.take hO (by simp) (by simp)) (Z3 1 _ (.slice A l.length cap) rfl (zJ (zG (yA (zJ (zG zI))))) (fun w hO => Own.take hO (by simp) (by simp)) ?_))))))))
    refine Z3 2 _ (.int .i64 (k : Int)) rfl (zJ (zG (yA (zJ (zG zI))))) (fun w hO => Own.take hO (by simp) (by simp)) (qM 3 _ (Zp b (off + k * 14)) rfl (by kernel_rfl) (by kernel_rfl) (by kernel_rfl) (zJ (zG (yA (zJ (zG zI))))) (fun w hO => Own.take hO (by simp) (by simp)) (by kernel_rfl) (fun w _ => qJ (b := b) (off := off) (c := cap) (n := l.length) (k := .i64) (j := (k : Int)) (e := 80) (sz := 14) rfl (by kernel_rfl) hA (by kernel_rfl) (by kernel_rfl) (by kernel_rfl) (by omega) (by omega) (by show off + k * 14 = off + k * 14; rfl) w) (Z3 4 _ (Zp b (off + k * 14 + 0)) rfl (zJ (zG (yA (zJ (zG zI))))) (fun w hO => Own.take hO (by simp) (by simp)) (hJ 5 _ (a := ⟨b, off + k * 14 + 0, none⟩) (zC s.lo) rfl (by kernel_rfl) (by kernel_rfl) (by kernel_rfl) (zJ (zG (yA (zJ (zG zI))))) (fun w hO => Own.take hO (by simp) (by simp)) (by kernel_rfl) rfl (by kernel_rfl) (fun w hO => y6 y9 (fun j u h => (hO.below.cell (p := ⟨b, off + j, none⟩) hlt).trans (hcell j u h)) k 0 hk (by omega) _ (by rw [hs]; kernel_rfl)) (Z3 7 _ (.slice A l.length cap) rfl (zJ (zG (yA (zJ (zG zI))))) (fun w hO => Own.take hO (by simp) (by simp)) (Z3 8 _ (.int .i64 (k : Int)) rfl (zJ (zG (yA (zJ (zG zI))))) (fun w hO => Own.take hO (by simp) (by simp)) (qM 9 _ (Zp b (off + k * 14)) rfl (by kernel_rfl) (by kernel_rfl) (by kernel_rfl) (zJ (zG (yA (zJ (zG zI))))) (fun w hO => Own.take hO (by simp) (by simp)) (by kernel_rfl) (fun w _ => qJ (b := b) (off := off) (c := cap) (n := l.length) (k := .i64) (j := (k : Int)) (e := 80) (sz := 14) rfl (by kernel_rfl) hA (by kernel_rfl) (by kernel_rfl) (by kernel_rfl) (by omega) (by omega) (by show off + k * 14 = off + k * 14; rfl) w) (Z3 10 _ (Zp b (off + k * 14 + 7)) rfl (zJ (zG (yA (zJ (zG zI))))) (fun w hO => Own.take hO (by simp) (by simp)) (hJ 11 _ (a := ⟨b, off + k * 14 + 7, none⟩) (zC s.hi) rfl (by kernel_rfl) (by kernel_rfl) (by kernel_rfl) (zJ (zG (yA (zJ (zG zI))))) (fun w hO => Own.take hO (by simp) (by simp)) (by kernel_rfl) rfl (by kernel_rfl) (fun w hO => y6 y9 (fun j u h => (hO.below.cell (p := ⟨b, off + j, none⟩) hlt).trans (hcell j u h)) k 7 hk (by omega) _ (by rw [hs]; kernel_rfl)) ?_))))))))
    have hp1 := putL_len s.lo (g7 (l.take k))
    refine Zz 6 (g6 _ (k := 155) (args := #[v, zC s.lo]) (fun v' L' => SlC v' (gC s.lo (g7 (l.take k))) L') rfl (by kernel_rfl) (fun _ => by kernel_rfl) (fun w hO => put_call s.lo hO hrel.2 hcz.2.1 (by omega) hcz.2.2 hsk.1) (fun _ _ _ => (fun w hO => Own.take hO (by simp) (by simp))) (fun v1 ob1 hv1 => Zz 12 (g6 _ (k := 155) (args := #[v1, zC s.hi]) (fun v' L' => SlC v' (gC s.hi (gC s.lo (g7 (l.take k)))) L') rfl (by kernel_rfl) (fun _ => by kernel_rfl) (fun w hO => put_call s.hi hO hv1 hp1.2 (by omega) (pV hsk.1 hcz.2.2) hsk.2) (fun _ _ _ => (fun w hO => Own.take hO (by simp) (by simp))) (fun v2 ob2 hv2 => Z3 13 _ (v2) rfl (zJ (zG (yA (zJ (zG zI))))) (fun w hO => Own.take hO (by simp) (by simp)) (ZZ (fin_cast (L' := ob2 ++ []) (by simp) (zQ (z8 (zA (Zv (.int .i64 (k : Int)) (Zu (k := .i64) (((k + 1 : Nat) : Int)) (IntWalk.i64_in _ (by omega)) ?_)))))))))))
    refine Zv (.int .i64 ((k + 1 : Nat) : Int)) (zP ?_)
    have hnext : SlC v2 (g7 (l.take (k + 1))) ob2 := by rw [cuts_step l k hk, hs]; exact hv2
    exact zT (m' := l.length - (k + 1)) (by omega) ⟨k + 1, v2, ob2, _, ⟨by omega, hnext⟩, rfl, ZU, rfl⟩
  refine Zh h1 (ZX (y5 (zD (zN (zH (z8 (ZO (Zv (v) ?_))))))))
  exact Zv (v) (ZN (zB (ZF (v) Tryz.results100 (fun w hO => ⟨v, ob, rfl, by have h := hrel.2; rwa [List.take_of_length_le (by omega)] at h, by simpa using hO⟩))))
end
section
section
variable {M : List Nat} {P : Program} {n : Nat} {ops : Array Oper} {W : World} {Q : Exit → Act → World → Prop} {L0 L : List Blk} {f : Nat → Value} {fuel : Nat} {listed : Array Bool} {rest : List Oper} {o : Oper}
theorem s_callo {k : FuncId} {args : Array Value} (R : Value → List Blk → Prop) (hw : xS ops n f o = true) (he : ∀ w, (execOp (ev n f) o).run P w = .ok (.enter k args) w)
    (hc : ∀ w, Own M W w L → Calls P k args w fun e w' => ∃ v L', e = .returned v ∧ R v L' ∧ Own M W w' L') (h : ∀ v L', R v L' → Seg M P n ops W Q rest L' (upd f o.dst v)) : Seg M P n ops W Q (o :: rest) L f :=
  jM hw fun w hO => tS (he w) ((hc w hO).mono fun e w' ⟨v, L', e1, e2, e3⟩ => ⟨v, e1, (h v L' e2).go w' e3⟩)
theorem Zr {k : FuncId} {args : Array Value} (R : Value → List Blk → Prop) (hc : ∀ w, Own M W w L → Calls P k args w fun e w' => ∃ v L', e = .returned v ∧ R v L' ∧ Own M W w' L') (h : ∀ v L', R v L' → Seg M P n ops W Q rest L' (upd f o.dst v)) (hw : xS ops n f o = true := by kernel_rfl) (he : ∀ w, (execOp (ev n f) o).run P w = .ok (.enter k args) w := by intro _; kernel_rfl) : Seg M P n ops W Q (o :: rest) L f := s_callo R hw he hc h
theorem hl_sum {k : IntKind} (i : Nat) (oi : Oper) (z : Int) (hi : ops[i]? = some oi) (hs : Region.noSelect ops = true) (hf : Region.free .any ops listed i = true) (hr : (Region.ready .any ops listed).contains i = true)
    (hQ : PQ Q) (hsub : ∀ w, Own M W w L → Own M W w L0) (hw : xS ops n f oi = true) (hrun : ∀ w, (execOp (ev n f) oi).run P w = .ok (.value (.int k (k.wrap z))) w) (hz : k.wrap z = z)
    (h : vI M P n ops W L0 Q fuel (listed.setIfInBounds i true) L (upd f oi.dst (.int k z))) : vI M P n ops W L0 Q (fuel + 1) listed L f :=
  qM i oi (.int k z) hi hs hf hr hQ hsub hw (fun w _ => by rw [hrun w, hz]) h
theorem Own.perm {w : World} {L' : List Blk} (h : Own M W w L) (hp : L.Perm L') : Own M W w L' :=
  h.take (fun x hx => hp.mem_iff.2 hx) ((hp.map Blk.b).nodup_iff.1 h.apart)
end
theorem SlS.form {v : Value} {l : List Sp} {ob : List Blk} (h : SlS v l ob) : ∃ A cap, v = .slice A l.length cap := by
  rcases h.2 with ⟨h1, h2, _⟩ | ⟨g, cap, cur, h1, _⟩
  · exact ⟨none, 0, by rw [h1, h2]⟩
  · exact ⟨_, cap, h1⟩
theorem grow_call {M : List Nat} {W w : World} {v : Value} {l : List Sp} {x : Blk} {ob : List Blk} (c d : Cu) (hO : Own M W w (x :: ob)) (hv : SlS v l ob) (hn : l.length ≤ 1000000) (hl : x8 l) (hc : c.short) (hd : d.short) :
    Calls Tryz.prog 102 #[v, zC c, zC d] w fun e w' => ∃ v' L', e = .returned v' ∧ (∃ ob', L' = x :: ob' ∧ SlS v' (qI l c d) ob') ∧ Own M W w' L' := by
  obtain ⟨A, cap, rfl⟩ := hv.form
  refine (grow_any A cap l ob c d w hv (Own.lend (hO.sub [x])) hn hl hc hd).mono fun e w' ⟨v', ob', h1, h2, h3⟩ => ⟨v', x :: ob', h1, ⟨ob', rfl, h2⟩, ?_⟩
  have hp : Own M W w (ob ++ [x]) := hO.perm (List.perm_append_comm (l₁ := [x]) (l₂ := ob))
  exact (Own.join hp h3).perm (List.perm_append_comm (l₁ := ob') (l₂ := [x]))
theorem grow_len (l : List Sp) (c d : Cu) : (qI l c d).length ≤ l.length + 1 := by
  unfold qI
  split
  · split
    · first | (simp; done) | (simp; omega)
    · simp
  · simp
theorem grow_short {l : List Sp} {c d : Cu} (hl : x8 l) (hc : c.short) (hd : d.short) : x8 (qI l c d) := by
  unfold qI
  split
  · rename_i s hs
    split
    · intro x hx
      rcases List.mem_append.1 hx with h | h
      · exact hl x (List.dropLast_subset _ h)
      · obtain rfl : x = _ := by simpa using h
        exact ⟨(hl s (List.mem_of_getLast? hs)).1, hd⟩
    · intro x hx
      rcases List.mem_append.1 hx with h | h
      · exact hl x h
      · obtain rfl : x = _ := by simpa using h
        exact ⟨hc, hd⟩
  · intro x hx
    obtain rfl : x = _ := by simpa using hx
    exact ⟨hc, hd⟩
theorem build_step (p : Cu → Cu → Bool) (out : List Sp) (cs : List Cu) (k : Nat) (hk : k + 1 < cs.length) {c d : Cu} (hc : cs[k] = c) (hd : cs[k + 1] = d) : g9 p out (cs.drop k) = g9 p (if p c d then qI out c d else out) (cs.drop (k + 1)) := by
  rw [List.drop_eq_getElem_cons (show k < cs.length by omega), List.drop_eq_getElem_cons hk, hc, hd]
  conv => lhs; unfold g9
theorem build_end (p : Cu → Cu → Bool) (out : List Sp) (cs : List Cu) (k : Nat) (hk : ¬ k + 1 < cs.length) : g9 p out (cs.drop k) = out := by
  have : (cs.drop k).length ≤ 1 := by rw [List.length_drop]; omega
  match h : cs.drop k with
  | [] => rfl
  | [x] => rfl
  | x :: y :: r => rw [h] at this; simp at this
structure Built (p : Cu → Cu → Bool) (cs : List Cu) (k : Nat) (v : Value) (out : List Sp) (ob : List Blk) : Prop where
  le : k ≤ cs.length
  sl : SlS v out ob
  len : out.length ≤ k
  short : x8 out
  eq : g9 p [] cs = g9 p out (cs.drop k)
theorem Built.start (p : Cu → Cu → Bool) (cs : List Cu) : Built p cs 0 (.slice none 0 0) [] [] := ⟨Nat.zero_le _, Sl.nil _ _, Nat.le_refl _, fun s hs => by simp at hs, rfl⟩
theorem Built.keep {p : Cu → Cu → Bool} {cs : List Cu} {k : Nat} {v : Value} {out : List Sp} {ob : List Blk} (h : Built p cs k v out ob) (hk : k + 1 < cs.length) {c d : Cu} (hc : cs[k] = c) (hd : cs[k + 1] = d) (hp : p c d = false) : Built p cs (k + 1) v out ob :=
  ⟨by omega, h.sl, by have := h.len; omega, h.short, by rw [h.eq, build_step p out cs k hk hc hd, hp]; rfl⟩
theorem Built.grow {p : Cu → Cu → Bool} {cs : List Cu} {k : Nat} {v v2 : Value} {out : List Sp} {ob ob2 : List Blk} (h : Built p cs k v out ob) (hk : k + 1 < cs.length) {c d : Cu} (hc : cs[k] = c) (hd : cs[k + 1] = d) (hp : p c d = true) (hcs : c.short) (hds : d.short) (h2 : SlS v2 (qI out c d) ob2) : Built p cs (k + 1) v2 (qI out c d) ob2 :=
  ⟨by omega, h2, by have := h.len; have := grow_len out c d; omega, grow_short h.short hcs hds, by rw [h.eq, build_step p out cs k hk hc hd, hp]; rfl⟩
theorem rnot_any (A : Option Addr) (cap : Nat) (l : List Sp) (W : World) (hv : Reads yR W W.heap.size A l) (hn : l.length ≤ 300000) (hl : x8 l) :
    Calls Tryz.prog 95 #[.slice A l.length cap] W fun e w' => ∃ v' ob', e = .returned v' ∧ SlS v' (if zR l then vP l else []) ob' ∧ Own [] W w' ob' := by
  refine Z2 (n := 42) Tryz.func95 rfl (ZO (Zv (.slice none 0 0) (ZN (z7 (ZO (Zv (.slice A l.length cap) (Zc (k := 54) (args := #[.slice A l.length cap]) (.bool (zR l)) (fun w hO => gM A cap l w (hv.on hO.below hO.size) (by omega) hl) ?_)))))))
  cases h1 : zR l with
  | true =>
    refine Zv Z5 (ZX (ZB (ZO (Zv (.slice none 0 0) (ZN (z7 ?_))))))
    refine zA (Zv (.slice A l.length cap) (Zr (k := 100) (args := #[.slice A l.length cap]) (fun v' L' => SlC v' (g7 l) L') (fun w hO => (cuts_any A cap l w (hv.on hO.below hO.size) (by omega) hl).mono fun e w' ⟨v', ob', h1, h2, h3⟩ => ⟨v', ob', h1, h2, by simpa using Own.joinN hO h3⟩) (fun cv oc hcv => ?_)))
    have hcz := bH l hl l.length (Nat.le_refl _)
    rw [List.take_length] at hcz
    obtain ⟨cs, hcs⟩ : ∃ cs, cs = g7 l := ⟨_, rfl⟩
    rw [← hcs] at hcv hcz
    have hcsn := hcz.1
    have hcs0 := hcz.2.1
    have hcsS := hcz.2.2
    obtain ⟨B, ccap, rfl⟩ := hcv.form
    obtain ⟨g, cur, rfl, rfl, hccap, hcmax, hcsz, hcur⟩ := hcv.block hcs0
    refine Zv (.slice (some ⟨g, 0, none⟩) cs.length ccap) (ZN (z7 (ZO (Zv (.int .i64 0) (ZN (zL (yL (fun L f m => ∃ (k : Nat) (v : Value) (out : List Sp) (ob : List Blk) (j : Nat → Value), (Built (fun c d => !inL l c d) cs k v out ob) ∧ L = ⟨g, cur, 78⟩ :: ob ∧ f = xF j [(0, .slice A l.length cap), (3, v), (4, .slice (some ⟨g, 0, none⟩) cs.length ccap), (5, .int .i64 (k : Int))] ∧ m = cs.length - k) (cs.length - 0) ⟨0, _, [], [], _, Built.start _ cs, rfl, ZU, rfl⟩ ?_)))))))
    rintro L f m ⟨k, v, out, ob, j, hrel, rfl, rfl, rfl⟩
    have hkl := hrel.le
    refine z7 (ZO (Zv (.int .i64 (k : Int)) (Zu (k := .i64) (((k + 1 : Nat) : Int)) (IntWalk.i64_in _ (by omega)) (Zv (.slice (some ⟨g, 0, none⟩) cs.length ccap) (Zv (.int .i64 (cs.length : Int)) ?_)))))
    by_cases h2 : ((k + 1 : Nat) : Int) < (cs.length : Int)
    · have hk : k + 1 < cs.length := by omega
      obtain ⟨c, hc⟩ : ∃ c, cs[k] = c := ⟨_, rfl⟩
      obtain ⟨d, hd⟩ : ∃ d, cs[k + 1] = d := ⟨_, rfl⟩
      have hcS : c.short := hc ▸ hcsS _ (List.getElem_mem _)
      have hdS : d.short := hd ▸ hcsS _ (List.getElem_mem _)
      have hlen := hrel.len
      refine Zg h2 (ZY (ZB (z7 (zL (z7 (kM (by kernel_rfl) (by kernel_rfl) (Zw (.slice A l.length cap) (Zw (.slice (some ⟨g, 0, none⟩) cs.length ccap) ?_))))))))
      refine Zw (.int .i64 (k : Int)) (xH (Zp g (k * 7)) (by kernel_rfl) (yP (b := g) (off := 0) (n := cs.length) (c := ccap) (k := .i64) (j := (k : Int)) (e := 78) (sz := 7) rfl (by kernel_rfl) (by kernel_rfl) (by kernel_rfl) (by kernel_rfl) (by omega) (by omega) (by show 0 + k * 7 = k * 7; omega)) (uE 0 ⟨g, cur, 78⟩ (off := k * 7) (zC c) (by kernel_rfl) rfl (by kernel_rfl) (by kernel_rfl) (x6 xE hcur k 0 (by omega) (by omega) _ (by rw [hc]; kernel_rfl)) (Zw (.slice (some ⟨g, 0, none⟩) cs.length ccap) (Zw (.int .i64 (k : Int)) (q_sum (k := .i64) (((k + 1 : Nat) : Int)) (by kernel_rfl) (fun _ => by kernel_rfl) (IntWalk.i64_in _ (by omega)) (xH (Zp g ((k + 1) * 7)) (by kernel_rfl) (yP (b := g) (off := 0) (n := cs.length) (c := ccap) (k := .i64) (j := ((k + 1 : Nat) : Int)) (e := 78) (sz := 7) rfl (by kernel_rfl) (by kernel_rfl) (by kernel_rfl) (by kernel_rfl) (by omega) (by omega) (by show 0 + (k + 1) * 7 = (k + 1) * 7; omega)) (uE 0 ⟨g, cur, 78⟩ (off := (k + 1) * 7) (zC d) (by kernel_rfl) rfl (by kernel_rfl) (by kernel_rfl) (x6 xE hcur (k + 1) 0 (by omega) (by omega) _ (by rw [hd]; kernel_rfl)) (Zq (k := 101) (args := #[.slice A l.length cap, zC c, zC d]) (.bool (inL l c d)) (fun w hO => in_any A cap l c d w (hv.on hO.below hO.size) (by omega) hl hcS hdS) ?_))))))))
      cases h3 : inL l c d with
      | true =>
        refine Zw Z5 (xU (z8 (Zf (yC (zQ (z8 (zA (Zv (.int .i64 (k : Int)) (Zu (k := .i64) (((k + 1 : Nat) : Int)) (IntWalk.i64_in _ (by omega)) (Zv (.int .i64 ((k + 1 : Nat) : Int)) (zP ?_)))))))))))
        exact zT (m' := cs.length - (k + 1)) (by omega) ⟨k + 1, v, out, ob, _, hrel.keep hk hc hd (by simp [h1, h2, h3]), rfl, ZU, rfl⟩
      | false =>
        refine Zw Z4 (xU (z8 (Zt (xO [⟨g, cur, 78⟩] (by kernel_rfl) (fun w hO => Own.take hO (by simp) (by simp)) (Z3 0 _ (v) rfl (zJ (zG (yA (zJ (zG zI))))) (fun w hO => Own.take hO (by simp) (by simp)) (Z3 1 _ (.slice (some ⟨g, 0, none⟩) cs.length ccap) rfl (zJ (zG (yA (zJ (zG zI))))) (fun w hO => Own.take hO (by simp) (by simp)) (Z3 2 _ (.int .i64 (k : Int)) rfl (zJ (zG (yA (zJ (zG zI))))) (fun w hO => Own.take hO (by simp) (by simp)) (qM 3 _ (Zp g (k * 7)) rfl (by kernel_rfl) (by kernel_rfl) (by kernel_rfl) (zJ (zG (yA (zJ (zG zI))))) (fun w hO => Own.take hO (by simp) (by simp)) (by kernel_rfl) (fun w _ => yP (b := g) (off := 0) (n := cs.length) (c := ccap) (k := .i64) (j := (k : Int)) (e := 78) (sz := 7) rfl (by kernel_rfl) (by kernel_rfl) (by kernel_rfl) (by kernel_rfl) (by omega) (by omega) (by show 0 + k * 7 = k * 7; omega) w) (dA 4 _ 0 ⟨g, cur, 78⟩ (off := k * 7) (zC c) rfl (by kernel_rfl) (by kernel_rfl) (by kernel_rfl) (zJ (zG (yA (zJ (zG zI))))) (fun w hO => Own.take hO (by simp) (by simp)) (by kernel_rfl) rfl rfl (by kernel_rfl) (x6 xE hcur k 0 (by omega) (by omega) _ (by rw [hc]; kernel_rfl)) (Z3 5 _ (.slice (some ⟨g, 0, none⟩) cs.length ccap) rfl (zJ (zG (yA (zJ (zG zI))))) (fun w hO => Own.take hO (by simp) (by simp)) (Z3 6 _ (.int .i64 (k : Int)) rfl (zJ (zG (yA (zJ (zG zI))))) (fun w hO => Own.take hO (by simp) (by simp)) ?_)))))))))))
        refine hl_sum (k := .i64) 7 _ ((k + 1 : Nat) : Int) rfl (by kernel_rfl) (by kernel_rfl) (by kernel_rfl) (zJ (zG (yA (zJ (zG zI))))) (fun w hO => Own.take hO (by simp) (by simp)) (by kernel_rfl) (fun _ => by kernel_rfl) (IntWalk.i64_in _ (by omega)) (qM 8 _ (Zp g ((k + 1) * 7)) rfl (by kernel_rfl) (by kernel_rfl) (by kernel_rfl) (zJ (zG (yA (zJ (zG zI))))) (fun w hO => Own.take hO (by simp) (by simp)) (by kernel_rfl) (fun w _ => yP (b := g) (off := 0) (n := cs.length) (c := ccap) (k := .i64) (j := ((k + 1 : Nat) : Int)) (e := 78) (sz := 7) rfl (by kernel_rfl) (by kernel_rfl) (by kernel_rfl) (by kernel_rfl) (by omega) (by omega) (by show 0 + (k + 1) * 7 = (k + 1) * 7; omega) w) (dA 9 _ 0 ⟨g, cur, 78⟩ (off := (k + 1) * 7) (zC d) rfl (by kernel_rfl) (by kernel_rfl) (by kernel_rfl) (zJ (zG (yA (zJ (zG zI))))) (fun w hO => Own.take hO (by simp) (by simp)) (by kernel_rfl) rfl rfl (by kernel_rfl) (x6 xE hcur (k + 1) 0 (by omega) (by omega) _ (by rw [hd]; kernel_rfl)) (Zz 10 (g6 _ (k := 102) (args := #[v, zC c, zC d]) (fun v' L' => ∃ ob', L' = ⟨g, cur, 78⟩ :: ob' ∧ SlS v' (qI out c d) ob') rfl (by kernel_rfl) (fun _ => by kernel_rfl) (fun w hO => grow_call c d hO hrel.sl (by omega) hrel.short hcS hdS) (fun v' L' ⟨ob', e, _⟩ => by subst e; exact (fun w hO => Own.take hO (by simp) (by simp))) (fun v2 L2 hv2 => ?_)))))
        obtain ⟨ob2, rfl, hs2⟩ := hv2
        exact Z3 11 _ (v2) rfl (zJ (zG (yA (zJ (zG zI))))) (fun w hO => Own.take hO (by simp) (by simp)) (ZZ (zQ (z8 (zA (Zv (.int .i64 (k : Int)) (Zu (k := .i64) (((k + 1 : Nat) : Int)) (IntWalk.i64_in _ (by omega)) (Zv (.int .i64 ((k + 1 : Nat) : Int)) (zP (zT (m' := cs.length - (k + 1)) (by omega) ⟨k + 1, v2, qI out c d, ob2, _, hrel.grow hk hc hd (by simp [h1, h2, h3]) hcS hdS hs2, rfl, ZU, rfl⟩)))))))))
    refine Zh h2 (ZX (y5 (zD (zN (zH (z8 (ZO (Zv (v) ?_))))))))
    exact Zv (v) (ZN (zB (ZF (v) Tryz.results95 (fun w hO => ⟨v, ob, rfl, by rw [if_pos rfl, show vP l = out from by unfold vP; rw [← hcs, hrel.eq, build_end _ _ _ _ (by omega)]]; exact hrel.sl, hO.sub [_]⟩))))
  | false =>
    refine Zv Z4 (ZY (ZO (Zv (.slice none 0 0) (ZN (zB (z6 (ZF (.slice none 0 0) Tryz.results95 ?_)))))))
    exact fun w hO => ⟨_, [], rfl, by rw [if_neg (by decide)]; exact Sl.nil _ _, by simpa using hO⟩
end
section
def k8 (l : List Sp) : Bool := l.all (·.may)
theorem allMay_mem {l : List Sp} : k8 l = true ↔ ∀ s ∈ l, s.may = true := by unfold k8; rw [List.all_eq_true]
theorem allMay_take (l : List Sp) (k : Nat) (hk : k < l.length) (h : k8 (l.take k) = true) (hs : l[k].may = true) : k8 (l.take (k + 1)) = true := by
  rw [allMay_mem] at h ⊢
  rw [List.take_succ_eq_append_getElem hk]
  intro x hx
  rcases List.mem_append.1 hx with hx | hx
  · exact h x hx
  · obtain rfl : x = l[k] := by simpa using hx
    exact hs
theorem mB (l : List Sp) (k : Nat) (hk : k < l.length) (hs : l[k].may = false) : k8 l = false := by
  cases h : k8 l with
  | false => rfl
  | true => rw [allMay_mem.1 h _ (List.getElem_mem hk)] at hs; cases hs
theorem rmake_any (A : Option Addr) (cap : Nat) (l : List Sp) (W : World) (hv : Reads yR W W.heap.size A l) (hn : l.length ≤ 300000) (hl : x8 l) :
    Calls Tryz.prog 103 #[.slice A l.length cap] W fun e w' => ∃ v' ob', e = .returned (.tuple #[v', .bool (k8 l)]) ∧ SlS v' (if k8 l then jG l else []) ob' ∧ Own [] W w' ob' := by
  refine Z2 (n := 52) Tryz.func103 rfl (ZO (Zv (.slice none 0 0) (Zv Z5 (ZN (z7 (ZO (Zv (.int .i64 0) (zP ?_))))))))
  refine z8 (zL (yL (fun L f m => ∃ (k : Nat) (j : Nat → Value), (k ≤ l.length ∧ k8 (l.take k) = true) ∧ L = [] ∧ f = xF j [(0, .slice A l.length cap), (4, .int .i64 (k : Int))] ∧ m = l.length - k) (l.length - 0) ⟨0, _, ⟨Nat.zero_le _, by rw [List.take_zero]; rfl⟩, rfl, ZU, rfl⟩ ?_))
  rintro L f m ⟨k, j, hrel, rfl, rfl, rfl⟩
  have hkl := hrel.1
  refine z7 (ZO (Zv (.int .i64 (k : Int)) (Zv (.slice A l.length cap) (Zv (.int .i64 (l.length : Int)) ?_))))
  by_cases h1 : (k : Int) < (l.length : Int)
  · have hk : k < l.length := by omega
    obtain ⟨b, off, hA, hlt, hcell⟩ := hv (by omega)
    obtain ⟨s, hs⟩ : ∃ s, l[k] = s := ⟨_, rfl⟩
    have hsk : s.short := hs ▸ hl _ (List.getElem_mem _)
    refine Zg h1 (ZY (ZB (z7 (zL (ZO (Zv (.slice A l.length cap) (Zv (.int .i64 (k : Int)) ?_)))))))
    refine zU (Zp b (off + k * 14)) (by kernel_rfl) (ZA (b := b) (off := off) (c := cap) (n := l.length) (k := .i64) (j := (k : Int)) (e := 80) (sz := 14) hA) (Zo (yX s) (a := ⟨b, off + k * 14, none⟩) (fun w hO => y6 y9 (fun j u h => (hO.below.cell (p := ⟨b, off + j, none⟩) hlt).trans (hcell j u h)) k 0 hk (by omega) _ (by rw [hs]; kernel_rfl)) (Zc (k := 96) (args := #[yX s]) (.bool s.may) (fun w _ => j4 s w hsk) ?_))
    cases h2 : s.may with
    | true =>
      refine Zv Z5 (ZX (yC (zQ (z8 (zA (Zv (.int .i64 (k : Int)) (Zu (k := .i64) (((k + 1 : Nat) : Int)) (IntWalk.i64_in _ (by omega)) (Zv (.int .i64 ((k + 1 : Nat) : Int)) (zP ?_)))))))))
      have hnext : k8 (l.take (k + 1)) = true := allMay_take l k hk hrel.2 (by rw [hs]; assumption)
      exact zT (m' := l.length - (k + 1)) (by omega) ⟨k + 1, _, ⟨by omega, hnext⟩, rfl, ZU, rfl⟩
    | false =>
      refine Zv Z4 (ZY (ZO (Zv (.slice none 0 0) (Zv Z5 (ZN (zB (zF ?_)))))))
      exact z6 (zW (zF (z6 (ZG (.slice none 0 0) Z5 Tryz.results103 (fun w hO => ⟨_, [], by rw [mB l k hk (by rw [hs]; assumption)], by rw [mB l k hk (by rw [hs]; assumption), if_neg (by decide)]; exact Sl.nil _ _, by simpa using hO⟩)))))
  have hall : k8 l = true := by have h := hrel.2; rwa [List.take_of_length_le (by omega)] at h
  refine Zh h1 (ZX (y5 (zD (zN (zH (z8 (ZO (Zv (.slice none 0 0) ?_))))))))
  refine ZR (Zv (.slice A l.length cap) (Zr (k := 100) (args := #[.slice A l.length cap]) (fun v' L' => SlC v' (g7 l) L') (fun w hO => (cuts_any A cap l w (hv.on hO.below hO.size) (by omega) hl).mono fun e w' ⟨v', ob', h1, h2, h3⟩ => ⟨v', ob', h1, h2, by simpa using Own.joinN hO h3⟩) (fun cv oc hcv => ?_)))
  have hcz := bH l hl l.length (Nat.le_refl _)
  rw [List.take_length] at hcz
  obtain ⟨cs, hcs⟩ : ∃ cs, cs = g7 l := ⟨_, rfl⟩
  rw [← hcs] at hcv hcz
  have hcsn := hcz.1
  have hcs0 := hcz.2.1
  have hcsS := hcz.2.2
  obtain ⟨B, ccap, rfl⟩ := hcv.form
  obtain ⟨g, cur, rfl, rfl, hccap, hcmax, hcsz, hcur⟩ := hcv.block hcs0
  refine Zv (.slice (some ⟨g, 0, none⟩) cs.length ccap) (ZN (z7 (ZO (Zv (.int .i64 0) (ZN (zL (yL (fun L f m => ∃ (k : Nat) (v : Value) (out : List Sp) (ob : List Blk) (j : Nat → Value), (Built (inL l) cs k v out ob) ∧ L = ⟨g, cur, 78⟩ :: ob ∧ f = xF j [(0, .slice A l.length cap), (5, v), (6, .slice (some ⟨g, 0, none⟩) cs.length ccap), (7, .int .i64 (k : Int))] ∧ m = cs.length - k) (cs.length - 0) ⟨0, _, [], [], _, Built.start _ cs, rfl, ZU, rfl⟩ ?_)))))))
  rintro L f m ⟨k, v, out, ob, j, hrel, rfl, rfl, rfl⟩
  have hkl := hrel.le
  refine z7 (ZO (Zv (.int .i64 (k : Int)) (Zu (k := .i64) (((k + 1 : Nat) : Int)) (IntWalk.i64_in _ (by omega)) (Zv (.slice (some ⟨g, 0, none⟩) cs.length ccap) (Zv (.int .i64 (cs.length : Int)) ?_)))))
  by_cases h3 : ((k + 1 : Nat) : Int) < (cs.length : Int)
  · have hk : k + 1 < cs.length := by omega
    obtain ⟨c, hc⟩ : ∃ c, cs[k] = c := ⟨_, rfl⟩
    obtain ⟨d, hd⟩ : ∃ d, cs[k + 1] = d := ⟨_, rfl⟩
    have hcS : c.short := hc ▸ hcsS _ (List.getElem_mem _)
    have hdS : d.short := hd ▸ hcsS _ (List.getElem_mem _)
    have hlen := hrel.len
    refine Zg h3 (ZY (ZB (z7 (zL (z7 (kM (by kernel_rfl) (by kernel_rfl) (Zw (.slice A l.length cap) (Zw (.slice (some ⟨g, 0, none⟩) cs.length ccap) ?_))))))))
    refine Zw (.int .i64 (k : Int)) (xH (Zp g (k * 7)) (by kernel_rfl) (yP (b := g) (off := 0) (n := cs.length) (c := ccap) (k := .i64) (j := (k : Int)) (e := 78) (sz := 7) rfl (by kernel_rfl) (by kernel_rfl) (by kernel_rfl) (by kernel_rfl) (by omega) (by omega) (by show 0 + k * 7 = k * 7; omega)) (uE 0 ⟨g, cur, 78⟩ (off := k * 7) (zC c) (by kernel_rfl) rfl (by kernel_rfl) (by kernel_rfl) (x6 xE hcur k 0 (by omega) (by omega) _ (by rw [hc]; kernel_rfl)) (Zw (.slice (some ⟨g, 0, none⟩) cs.length ccap) (Zw (.int .i64 (k : Int)) (q_sum (k := .i64) (((k + 1 : Nat) : Int)) (by kernel_rfl) (fun _ => by kernel_rfl) (IntWalk.i64_in _ (by omega)) (xH (Zp g ((k + 1) * 7)) (by kernel_rfl) (yP (b := g) (off := 0) (n := cs.length) (c := ccap) (k := .i64) (j := ((k + 1 : Nat) : Int)) (e := 78) (sz := 7) rfl (by kernel_rfl) (by kernel_rfl) (by kernel_rfl) (by kernel_rfl) (by omega) (by omega) (by show 0 + (k + 1) * 7 = (k + 1) * 7; omega)) (uE 0 ⟨g, cur, 78⟩ (off := (k + 1) * 7) (zC d) (by kernel_rfl) rfl (by kernel_rfl) (by kernel_rfl) (x6 xE hcur (k + 1) 0 (by omega) (by omega) _ (by rw [hd]; kernel_rfl)) (Zq (k := 101) (args := #[.slice A l.length cap, zC c, zC d]) (.bool (inL l c d)) (fun w hO => in_any A cap l c d w (hv.on hO.below hO.size) (by omega) hl hcS hdS) (xU (z8 ?_))))))))))
    cases h4 : inL l c d with
    | true =>
      refine Zt (xO [⟨g, cur, 78⟩] (by kernel_rfl) (fun w hO => Own.take hO (by simp) (by simp)) (Z3 0 _ (v) rfl (zJ (zG (yA (zJ (zG zI))))) (fun w hO => Own.take hO (by simp) (by simp)) (Z3 1 _ (.slice (some ⟨g, 0, none⟩) cs.length ccap) rfl (zJ (zG (yA (zJ (zG zI))))) (fun w hO => Own.take hO (by simp) (by simp)) (Z3 2 _ (.int .i64 (k : Int)) rfl (zJ (zG (yA (zJ (zG zI))))) (fun w hO => Own.take hO (by simp) (by simp)) (qM 3 _ (Zp g (k * 7)) rfl (by kernel_rfl) (by kernel_rfl) (by kernel_rfl) (zJ (zG (yA (zJ (zG zI))))) (fun w hO => Own.take hO (by simp) (by simp)) (by kernel_rfl) (fun w _ => yP (b := g) (off := 0) (n := cs.length) (c := ccap) (k := .i64) (j := (k : Int)) (e := 78) (sz := 7) rfl (by kernel_rfl) (by kernel_rfl) (by kernel_rfl) (by kernel_rfl) (by omega) (by omega) (by show 0 + k * 7 = k * 7; omega) w) (dA 4 _ 0 ⟨g, cur, 78⟩ (off := k * 7) (zC c) rfl (by kernel_rfl) (by kernel_rfl) (by kernel_rfl) (zJ (zG (yA (zJ (zG zI))))) (fun w hO => Own.take hO (by simp) (by simp)) (by kernel_rfl) rfl rfl (by kernel_rfl) (x6 xE hcur k 0 (by omega) (by omega) _ (by rw [hc]; kernel_rfl)) (Z3 5 _ (.slice (some ⟨g, 0, none⟩) cs.length ccap) rfl (zJ (zG (yA (zJ (zG zI))))) (fun w hO => Own.take hO (by simp) (by simp)) (Z3 6 _ (.int .i64 (k : Int)) rfl (zJ (zG (yA (zJ (zG zI))))) (fun w hO => Own.take hO (by simp) (by simp)) (hl_sum (k := .i64) 7 _ ((k + 1 : Nat) : Int) rfl (by kernel_rfl) (by kernel_rfl) (by kernel_rfl) (zJ (zG (yA (zJ (zG zI))))) (fun w hO => Own.take hO (by simp) (by simp)) (by kernel_rfl) (fun _ => by kernel_rfl) (IntWalk.i64_in _ (by omega)) (qM 8 _ (Zp g ((k + 1) * 7)) rfl (by kernel_rfl) (by kernel_rfl) (by kernel_rfl) (zJ (zG (yA (zJ (zG zI))))) (fun w hO => Own.take hO (by simp) (by simp)) (by kernel_rfl) (fun w _ => yP (b := g) (off := 0) (n := cs.length) (c := ccap) (k := .i64) (j := ((k + 1 : Nat) : Int)) (e := 78) (sz := 7) rfl (by kernel_rfl) (by kernel_rfl) (by kernel_rfl) (by kernel_rfl) (by omega) (by omega) (by show 0 + (k + 1) * 7 = (k + 1) * 7; omega) w) (dA 9 _ 0 ⟨g, cur, 78⟩ (off := (k + 1) * 7) (zC d) rfl (by kernel_rfl) (by kernel_rfl) (by kernel_rfl) (zJ (zG (yA (zJ (zG zI))))) (fun w hO => Own.take hO (by simp) (by simp)) (by kernel_rfl) rfl rfl (by kernel_rfl) (x6 xE hcur (k + 1) 0 (by omega) (by omega) _ (by rw [hd]; kernel_rfl)) ?_)))))))))))
      refine Zz 10 (g6 _ (k := 102) (args := #[v, zC c, zC d]) (fun v' L' => ∃ ob', L' = ⟨g, cur, 78⟩ :: ob' ∧ SlS v' (qI out c d) ob') rfl (by kernel_rfl) (fun _ => by kernel_rfl) (fun w hO => grow_call c d hO hrel.sl (by omega) hrel.short hcS hdS) (fun v' L' ⟨ob', e, _⟩ => by subst e; exact (fun w hO => Own.take hO (by simp) (by simp))) (fun v2 L2 hv2 => ?_))
      obtain ⟨ob2, rfl, hs2⟩ := hv2
      exact Z3 11 _ (v2) rfl (zJ (zG (yA (zJ (zG zI))))) (fun w hO => Own.take hO (by simp) (by simp)) (ZZ (zQ (z8 (zA (Zv (.int .i64 (k : Int)) (Zu (k := .i64) (((k + 1 : Nat) : Int)) (IntWalk.i64_in _ (by omega)) (Zv (.int .i64 ((k + 1 : Nat) : Int)) (zP (zT (m' := cs.length - (k + 1)) (by omega) ⟨k + 1, v2, qI out c d, ob2, _, hrel.grow hk hc hd (by simp [h1, h3, h4]) hcS hdS hs2, rfl, ZU, rfl⟩)))))))))
    | false =>
      exact Zf (yC (zQ (z8 (zA (Zv (.int .i64 (k : Int)) (Zu (k := .i64) (((k + 1 : Nat) : Int)) (IntWalk.i64_in _ (by omega)) (Zv (.int .i64 ((k + 1 : Nat) : Int)) (zP (zT (m' := cs.length - (k + 1)) (by omega) ⟨k + 1, v, out, ob, _, hrel.keep hk hc hd (by simp [h1, h3, h4]), rfl, ZU, rfl⟩)))))))))
  refine Zh h3 (ZX (y5 (zD (zN (zH (z8 (ZO (Zv (v) ?_))))))))
  exact Zv (v) (Zv Z4 (ZN (zB (ZG (v) Z4 Tryz.results103 (fun w hO => ⟨v, ob, by rw [hall], by rw [hall, if_pos rfl, show jG l = out from by unfold jG; rw [← hcs, hrel.eq, build_end _ _ _ _ (by omega)]]; exact hrel.sl, hO.sub [_]⟩)))))
end
section
theorem tP {a b : List Sp} (ha : x8 a) (hb : x8 b) : x8 (a ++ b) := fun s hs => by
  rcases List.mem_append.1 hs with h | h
  · exact ha s h
  · exact hb s h
theorem rand_any (A B : Option Addr) (cap capb : Nat) (a b : List Sp) (W : World) (hv : Reads yR W W.heap.size A a) (hu : Reads yR W W.heap.size B b) (hn : a.length ≤ 100000) (hm : b.length ≤ 100000) (ha : x8 a) (hb : x8 b) :
    Calls Tryz.prog 57 #[.slice A a.length cap, .slice B b.length capb] W fun e w' => ∃ v' ob', e = .returned v' ∧ SlS v' (if zR a && zR b then wP a b else []) ob' ∧ Own [] W w' ob' := by
  refine Z2 (n := 64) Tryz.func57 rfl (ZO (Zv (.slice none 0 0) (ZN (z7 (ZO (Zv (.slice A a.length cap) (Zc (k := 54) (args := #[.slice A a.length cap]) (.bool (zR a)) (fun w hO => gM A cap a w (hv.on hO.below hO.size) (by omega) ha) ?_)))))))
  cases h1 : zR a with
  | true =>
    refine Zv Z5 (Zv Z5 (Zv (.slice B b.length capb) (Zc (k := 54) (args := #[.slice B b.length capb]) (.bool (zR b)) (fun w hO => gM B capb b w (hu.on hO.below hO.size) (by omega) hb) ?_)))
    cases h2 : zR b with
    | true =>
      refine Zv Z5 (Zv Z5 (ZX (ZB (ZO (Zv (.slice none 0 0) (zP (z8 ?_)))))))
      refine ZO (Zv (.slice A a.length cap) ?_)
      obtain ⟨i, z, e1, e2, e3, e4, e5⟩ := kX
      refine xT (L' := [] ++ [] ++ []) rfl (jQ (E := []) (ob := []) (L0 := []) (sz := 14) (l := a) (A := A) (c := cap) y9 (by kernel_rfl) rfl Tryz.underlying29 e1 e2 e3 e4 (by kernel_rfl) (Sl.nil 80 14) (by kernel_rfl) (fun w hO => hv.on hO.below hO.size) xX (by unfold maxLen; omega) (by rw [e5]; omega) (fun va oa hva => Zv (.slice B b.length capb) (jQ (E := []) (ob := oa) (L0 := []) (sz := 14) (l := b) (A := B) (c := capb) y9 (by kernel_rfl) rfl Tryz.underlying29 e1 e2 e3 e4 (by kernel_rfl) hva (by kernel_rfl) (fun w hO => hu.on hO.below hO.size) xX (by unfold maxLen; omega) (by rw [e5]; omega) (fun vb oq hvb => ?_))))
      have hvl : SlS vb (a ++ b) oq := hvb.to (by simp) (by simp)
      have hlen : (a ++ b).length ≤ 200000 := by rw [List.length_append]; omega
      have hlab := tP ha hb
      refine xT (L' := oq) (by simp) ?_
      clear hvb
      obtain ⟨C, capc, rfl⟩ := hvl.form
      refine Zr (k := 100) (args := #[.slice C (a ++ b).length capc]) (fun v' L' => SlC v' (g7 (a ++ b)) L') (fun w hO => (cuts_any C capc (a ++ b) w (Sl.reads hvl rfl hO (fun x hx => hx)) (by omega) hlab).mono fun e w' ⟨v', ob', h1, h2, h3⟩ => ⟨v', ob', h1, h2, Own.take (Own.joinN hO h3) (fun x hx => List.mem_append_left _ hx) h3.apart⟩) (fun cv oc hcv => ?_)
      have hcz := bH (a ++ b) hlab (a ++ b).length (Nat.le_refl _)
      rw [List.take_length] at hcz
      obtain ⟨cs, hcs⟩ : ∃ cs, cs = g7 (a ++ b) := ⟨_, rfl⟩
      rw [← hcs] at hcv hcz
      have hcsn := hcz.1
      have hcs0 := hcz.2.1
      have hcsS := hcz.2.2
      obtain ⟨D, ccap, rfl⟩ := hcv.form
      obtain ⟨g, cur, rfl, rfl, hccap, hcmax, hcsz, hcur⟩ := hcv.block hcs0
      refine Zv (.slice (some ⟨g, 0, none⟩) cs.length ccap) (ZN (z7 (ZO (Zv (.int .i64 0) (ZN (zL (yL (fun L f m => ∃ (k : Nat) (v : Value) (out : List Sp) (ob : List Blk) (j : Nat → Value), (Built (fun c d => inL a c d && inL b c d) cs k v out ob) ∧ L = ⟨g, cur, 78⟩ :: ob ∧ f = xF j [(0, .slice A a.length cap), (1, .slice B b.length capb), (5, v), (6, .slice (some ⟨g, 0, none⟩) cs.length ccap), (7, .int .i64 (k : Int))] ∧ m = cs.length - k) (cs.length - 0) ⟨0, _, [], [], _, Built.start _ cs, rfl, ZU, rfl⟩ ?_)))))))
      rintro L f m ⟨k, v, out, ob, j, hrel, rfl, rfl, rfl⟩
      have hkl := hrel.le
      refine z7 (ZO (Zv (.int .i64 (k : Int)) (Zu (k := .i64) (((k + 1 : Nat) : Int)) (IntWalk.i64_in _ (by omega)) (Zv (.slice (some ⟨g, 0, none⟩) cs.length ccap) (Zv (.int .i64 (cs.length : Int)) ?_)))))
      by_cases h3 : ((k + 1 : Nat) : Int) < (cs.length : Int)
      · have hk : k + 1 < cs.length := by omega
        obtain ⟨c, hc⟩ : ∃ c, cs[k] = c := ⟨_, rfl⟩
        obtain ⟨d, hd⟩ : ∃ d, cs[k + 1] = d := ⟨_, rfl⟩
        have hcS : c.short := hc ▸ hcsS _ (List.getElem_mem _)
        have hdS : d.short := hd ▸ hcsS _ (List.getElem_mem _)
        have hlen := hrel.len
        refine Zg h3 (ZY (ZB (z7 (zL (z7 (kM (by kernel_rfl) (by kernel_rfl) (Zw (.slice A a.length cap) (Zw (.slice (some ⟨g, 0, none⟩) cs.length ccap) ?_))))))))
        refine Zw (.int .i64 (k : Int)) (xH (Zp g (k * 7)) (by kernel_rfl) (yP (b := g) (off := 0) (n := cs.length) (c := ccap) (k := .i64) (j := (k : Int)) (e := 78) (sz := 7) rfl (by kernel_rfl) (by kernel_rfl) (by kernel_rfl) (by kernel_rfl) (by omega) (by omega) (by show 0 + k * 7 = k * 7; omega)) (uE 0 ⟨g, cur, 78⟩ (off := k * 7) (zC c) (by kernel_rfl) rfl (by kernel_rfl) (by kernel_rfl) (x6 xE hcur k 0 (by omega) (by omega) _ (by rw [hc]; kernel_rfl)) (Zw (.slice (some ⟨g, 0, none⟩) cs.length ccap) (Zw (.int .i64 (k : Int)) (q_sum (k := .i64) (((k + 1 : Nat) : Int)) (by kernel_rfl) (fun _ => by kernel_rfl) (IntWalk.i64_in _ (by omega)) (xH (Zp g ((k + 1) * 7)) (by kernel_rfl) (yP (b := g) (off := 0) (n := cs.length) (c := ccap) (k := .i64) (j := ((k + 1 : Nat) : Int)) (e := 78) (sz := 7) rfl (by kernel_rfl) (by kernel_rfl) (by kernel_rfl) (by kernel_rfl) (by omega) (by omega) (by show 0 + (k + 1) * 7 = (k + 1) * 7; omega)) (uE 0 ⟨g, cur, 78⟩ (off := (k + 1) * 7) (zC d) (by kernel_rfl) rfl (by kernel_rfl) (by kernel_rfl) (x6 xE hcur (k + 1) 0 (by omega) (by omega) _ (by rw [hd]; kernel_rfl)) (Zq (k := 101) (args := #[.slice A a.length cap, zC c, zC d]) (.bool (inL a c d)) (fun w hO => in_any A cap a c d w (hv.on hO.below hO.size) (by omega) ha hcS hdS) (Zw (.bool (inL a c d)) ?_)))))))))
        cases h4 : inL a c d with
        | true =>
          refine Zw (.slice B b.length capb) (Zw (.slice (some ⟨g, 0, none⟩) cs.length ccap) (Zw (.int .i64 (k : Int)) (xH (Zp g (k * 7)) (by kernel_rfl) (yP (b := g) (off := 0) (n := cs.length) (c := ccap) (k := .i64) (j := (k : Int)) (e := 78) (sz := 7) rfl (by kernel_rfl) (by kernel_rfl) (by kernel_rfl) (by kernel_rfl) (by omega) (by omega) (by show 0 + k * 7 = k * 7; omega)) (uE 0 ⟨g, cur, 78⟩ (off := k * 7) (zC c) (by kernel_rfl) rfl (by kernel_rfl) (by kernel_rfl) (x6 xE hcur k 0 (by omega) (by omega) _ (by rw [hc]; kernel_rfl)) (Zw (.slice (some ⟨g, 0, none⟩) cs.length ccap) (Zw (.int .i64 (k : Int)) (q_sum (k := .i64) (((k + 1 : Nat) : Int)) (by kernel_rfl) (fun _ => by kernel_rfl) (IntWalk.i64_in _ (by omega)) (xH (Zp g ((k + 1) * 7)) (by kernel_rfl) (yP (b := g) (off := 0) (n := cs.length) (c := ccap) (k := .i64) (j := ((k + 1 : Nat) : Int)) (e := 78) (sz := 7) rfl (by kernel_rfl) (by kernel_rfl) (by kernel_rfl) (by kernel_rfl) (by omega) (by omega) (by show 0 + (k + 1) * 7 = (k + 1) * 7; omega)) (uE 0 ⟨g, cur, 78⟩ (off := (k + 1) * 7) (zC d) (by kernel_rfl) rfl (by kernel_rfl) (by kernel_rfl) (x6 xE hcur (k + 1) 0 (by omega) (by omega) _ (by rw [hd]; kernel_rfl)) (Zq (k := 101) (args := #[.slice B b.length capb, zC c, zC d]) (.bool (inL b c d)) (fun w hO => in_any B capb b c d w (hu.on hO.below hO.size) (by omega) hb hcS hdS) (Zw (.bool (inL b c d)) ?_)))))))))))
          refine xU (z8 ?_)
          cases h5 : inL b c d with
          | true =>
            refine Zt (xO [⟨g, cur, 78⟩] (by kernel_rfl) (fun w hO => Own.take hO (by simp) (by simp)) (Z3 0 _ (v) rfl (zJ (zG (yA (zJ (zG zI))))) (fun w hO => Own.take hO (by simp) (by simp)) (Z3 1 _ (.slice (some ⟨g, 0, none⟩) cs.length ccap) rfl (zJ (zG (yA (zJ (zG zI))))) (fun w hO => Own.take hO (by simp) (by simp)) (Z3 2 _ (.int .i64 (k : Int)) rfl (zJ (zG (yA (zJ (zG zI))))) (fun w hO => Own.take hO (by simp) (by simp)) (qM 3 _ (Zp g (k * 7)) rfl (by kernel_rfl) (by kernel_rfl) (by kernel_rfl) (zJ (zG (yA (zJ (zG zI))))) (fun w hO => Own.take hO (by simp) (by simp)) (by kernel_rfl) (fun w _ => yP (b := g) (off := 0) (n := cs.length) (c := ccap) (k := .i64) (j := (k : Int)) (e := 78) (sz := 7) rfl (by kernel_rfl) (by kernel_rfl) (by kernel_rfl) (by kernel_rfl) (by omega) (by omega) (by show 0 + k * 7 = k * 7; omega) w) (dA 4 _ 0 ⟨g, cur, 78⟩ (off := k * 7) (zC c) rfl (by kernel_rfl) (by kernel_rfl) (by kernel_rfl) (zJ (zG (yA (zJ (zG zI))))) (fun w hO => Own.take hO (by simp) (by simp)) (by kernel_rfl) rfl rfl (by kernel_rfl) (x6 xE hcur k 0 (by omega) (by omega) _ (by rw [hc]; kernel_rfl)) (Z3 5 _ (.slice (some ⟨g, 0, none⟩) cs.length ccap) rfl (zJ (zG (yA (zJ (zG zI))))) (fun w hO => Own.take hO (by simp) (by simp)) (Z3 6 _ (.int .i64 (k : Int)) rfl (zJ (zG (yA (zJ (zG zI))))) (fun w hO => Own.take hO (by simp) (by simp)) (hl_sum (k := .i64) 7 _ ((k + 1 : Nat) : Int) rfl (by kernel_rfl) (by kernel_rfl) (by kernel_rfl) (zJ (zG (yA (zJ (zG zI))))) (fun w hO => Own.take hO (by simp) (by simp)) (by kernel_rfl) (fun _ => by kernel_rfl) (IntWalk.i64_in _ (by omega)) (qM 8 _ (Zp g ((k + 1) * 7)) rfl (by kernel_rfl) (by kernel_rfl) (by kernel_rfl) (zJ (zG (yA (zJ (zG zI))))) (fun w hO => Own.take hO (by simp) (by simp)) (by kernel_rfl) (fun w _ => yP (b := g) (off := 0) (n := cs.length) (c := ccap) (k := .i64) (j := ((k + 1 : Nat) : Int)) (e := 78) (sz := 7) rfl (by kernel_rfl) (by kernel_rfl) (by kernel_rfl) (by kernel_rfl) (by omega) (by omega) (by show 0 + (k + 1) * 7 = (k + 1) * 7; omega) w) (dA 9 _ 0 ⟨g, cur, 78⟩ (off := (k + 1) * 7) (zC d) rfl (by kernel_rfl) (by kernel_rfl) (by kernel_rfl) (zJ (zG (yA (zJ (zG zI))))) (fun w hO => Own.take hO (by simp) (by simp)) (by kernel_rfl) rfl rfl (by kernel_rfl) (x6 xE hcur (k + 1) 0 (by omega) (by omega) _ (by rw [hd]; kernel_rfl)) ?_)))))))))))
            refine Zz 10 (g6 _ (k := 102) (args := #[v, zC c, zC d]) (fun v' L' => ∃ ob', L' = ⟨g, cur, 78⟩ :: ob' ∧ SlS v' (qI out c d) ob') rfl (by kernel_rfl) (fun _ => by kernel_rfl) (fun w hO => grow_call c d hO hrel.sl (by omega) hrel.short hcS hdS) (fun v' L' ⟨ob', e, _⟩ => by subst e; exact (fun w hO => Own.take hO (by simp) (by simp))) (fun v2 L2 hv2 => ?_))
            obtain ⟨ob2, rfl, hs2⟩ := hv2
            exact Z3 11 _ (v2) rfl (zJ (zG (yA (zJ (zG zI))))) (fun w hO => Own.take hO (by simp) (by simp)) (ZZ (zQ (z8 (zA (Zv (.int .i64 (k : Int)) (Zu (k := .i64) (((k + 1 : Nat) : Int)) (IntWalk.i64_in _ (by omega)) (Zv (.int .i64 ((k + 1 : Nat) : Int)) (zP (zT (m' := cs.length - (k + 1)) (by omega) ⟨k + 1, v2, qI out c d, ob2, _, hrel.grow hk hc hd (by simp [h1, h2, h3, h4, h5]) hcS hdS hs2, rfl, ZU, rfl⟩)))))))))
          | false =>
            exact Zf (yC (zQ (z8 (zA (Zv (.int .i64 (k : Int)) (Zu (k := .i64) (((k + 1 : Nat) : Int)) (IntWalk.i64_in _ (by omega)) (Zv (.int .i64 ((k + 1 : Nat) : Int)) (zP (zT (m' := cs.length - (k + 1)) (by omega) ⟨k + 1, v, out, ob, _, hrel.keep hk hc hd (by simp [h1, h2, h3, h4, h5]), rfl, ZU, rfl⟩)))))))))
        | false =>
          refine Zj (Zj (Zj (Zj (Zj (Zj (Zj (Zj (Zj (Zj (Zj (Zw Z5 ?_)))))))))))
          exact xU (z8 (Zf (yC (zQ (z8 (zA (Zv (.int .i64 (k : Int)) (Zu (k := .i64) (((k + 1 : Nat) : Int)) (IntWalk.i64_in _ (by omega)) (Zv (.int .i64 ((k + 1 : Nat) : Int)) (zP (zT (m' := cs.length - (k + 1)) (by omega) ⟨k + 1, v, out, ob, _, hrel.keep hk hc hd (by simp [h1, h2, h3, h4]), rfl, ZU, rfl⟩)))))))))))
      refine Zh h3 (ZX (y5 (zD (zN (zH (z8 (ZO (Zv (v) ?_))))))))
      exact Zv (v) (ZN (zB (ZF (v) Tryz.results57 (fun w hO => ⟨v, ob, rfl, by rw [if_pos (by simp), show wP a b = out from by unfold wP; rw [← hcs, hrel.eq, build_end _ _ _ _ (by omega)]]; exact hrel.sl, hO.sub [_]⟩))))
    | false =>
      refine Zv Z4 (Zv Z4 (ZY (ZO (Zv (.slice none 0 0) (ZN (zB (z6 ?_)))))))
      exact ZF (.slice none 0 0) Tryz.results57 (fun w hO => ⟨_, [], rfl, by rw [if_neg (by simp)]; exact Sl.nil _ _, by simpa using hO⟩)
  | false =>
    refine Zv Z4 (Zv Z4 (Zk (Zk (Zk (Zv Z4 (ZY (ZO (Zv (.slice none 0 0) ?_))))))))
    exact ZN (zB (z6 (ZF (.slice none 0 0) Tryz.results57 (fun w hO => ⟨_, [], rfl, by rw [if_neg (by simp)]; exact Sl.nil _ _, by simpa using hO⟩))))
theorem ror_any (A B : Option Addr) (cap capb : Nat) (a b : List Sp) (W : World) (hv : Reads yR W W.heap.size A a) (hu : Reads yR W W.heap.size B b) (hn : a.length ≤ 100000) (hm : b.length ≤ 100000) (ha : x8 a) (hb : x8 b) :
    Calls Tryz.prog 58 #[.slice A a.length cap, .slice B b.length capb] W fun e w' => ∃ v' ob', e = .returned v' ∧ SlS v' (if zR a && zR b then orL a b else []) ob' ∧ Own [] W w' ob' := by
  refine Z2 (n := 24) Tryz.func58 rfl (ZO (Zv (.slice none 0 0) (ZN (z7 (ZO (Zv (.slice A a.length cap) (Zc (k := 54) (args := #[.slice A a.length cap]) (.bool (zR a)) (fun w hO => gM A cap a w (hv.on hO.below hO.size) (by omega) ha) ?_)))))))
  cases h1 : zR a with
  | true =>
    refine Zv Z5 (Zv Z5 (Zv (.slice B b.length capb) (Zc (k := 54) (args := #[.slice B b.length capb]) (.bool (zR b)) (fun w hO => gM B capb b w (hu.on hO.below hO.size) (by omega) hb) ?_)))
    cases h2 : zR b with
    | true =>
      refine Zv Z5 (Zv Z5 (ZX (ZB (ZO (Zv (.slice A a.length cap) ?_)))))
      obtain ⟨i, z, e1, e2, e3, e4, e5⟩ := kX
      refine xT (L' := [] ++ [] ++ []) rfl (jQ (E := []) (ob := []) (L0 := []) (sz := 14) (l := a) (A := A) (c := cap) y9 (by kernel_rfl) rfl Tryz.underlying29 e1 e2 e3 e4 (by kernel_rfl) (Sl.nil 80 14) (by kernel_rfl) (fun w hO => hv.on hO.below hO.size) xX (by unfold maxLen; omega) (by rw [e5]; omega) (fun va oa hva => Zv (.slice B b.length capb) (jQ (E := []) (ob := oa) (L0 := []) (sz := 14) (l := b) (A := B) (c := capb) y9 (by kernel_rfl) rfl Tryz.underlying29 e1 e2 e3 e4 (by kernel_rfl) hva (by kernel_rfl) (fun w hO => hu.on hO.below hO.size) xX (by unfold maxLen; omega) (by rw [e5]; omega) (fun vb oq hvb => ?_))))
      have hvl : SlS vb (a ++ b) oq := hvb.to (by simp) (by simp)
      have hlen : (a ++ b).length ≤ 200000 := by rw [List.length_append]; omega
      have hlab := tP ha hb
      refine xT (L' := oq) (by simp) ?_
      clear hvb
      obtain ⟨C, capc, rfl⟩ := hvl.form
      refine Zr (k := 103) (args := #[.slice C (a ++ b).length capc]) (fun v' L' => ∃ mv, v' = .tuple #[mv, .bool (k8 (a ++ b))] ∧ SlS mv (if k8 (a ++ b) then jG (a ++ b) else []) L') (fun w hO => (rmake_any C capc (a ++ b) w (Sl.reads hvl rfl hO (fun x hx => hx)) (by omega) hlab).mono fun e w' ⟨v', ob', h1, h2, h3⟩ => ⟨_, ob', h1, ⟨v', rfl, h2⟩, Own.take (Own.joinN hO h3) (fun x hx => List.mem_append_left _ hx) h3.apart⟩) (fun tv om htv => ?_)
      obtain ⟨mv, rfl, hmv⟩ := htv
      refine Zv (.tuple #[mv, .bool (k8 (a ++ b))]) (Zv (mv) (Zv (.bool (k8 (a ++ b))) (Zv (mv) (Zv (.bool (k8 (a ++ b))) (ZR (Zv (mv) (Zv (mv) (zP ?_))))))))
      exact z8 (zB (ZF (mv) Tryz.results58 (fun w hO => ⟨mv, om, rfl, by rw [if_pos (by simp)]; unfold orL; have hall : k8 (a ++ b) = true := allMay_mem.2 (bT (by assumption) (by assumption)); rw [hall, if_pos rfl] at hmv; exact hmv, hO⟩)))
    | false =>
      refine Zv Z4 (Zv Z4 (ZY (ZO (Zv (.slice none 0 0) (ZN (zB (z6 ?_)))))))
      exact ZF (.slice none 0 0) Tryz.results58 (fun w hO => ⟨_, [], rfl, by rw [if_neg (by simp)]; exact Sl.nil _ _, by simpa using hO⟩)
  | false =>
    refine Zv Z4 (Zv Z4 (Zk (Zk (Zk (Zv Z4 (ZY (ZO (Zv (.slice none 0 0) ?_))))))))
    exact ZN (zB (z6 (ZF (.slice none 0 0) Tryz.results58 (fun w hO => ⟨_, [], rfl, by rw [if_neg (by simp)]; exact Sl.nil _ _, by simpa using hO⟩))))
end
section
theorem build_len (p : Cu → Cu → Bool) : ∀ (cs : List Cu) (out : List Sp), (g9 p out cs).length ≤ out.length + cs.length
  | [], out => by unfold g9; simp
  | [c], out => by unfold g9; simp
  | c :: d :: r, out => by
    have ih := build_len p (d :: r) (if p c d then qI out c d else out)
    unfold g9
    have : (if p c d = true then qI out c d else out).length ≤ out.length + 1 := by
      split
      · exact grow_len out c d
      · omega
    simp only [List.length_cons] at ih ⊢
    omega
end
section
def x9 (a b : Cu) : Cu := if 0 < zV a b then b else a
def xB (a b : Cu) : Cu := if 0 < zV a b then a else b
theorem minC_may {a b : Cu} (ha : a.may = true) (hb : b.may = true) : (x9 a b).may = true := by unfold x9; split <;> assumption
theorem mP {a b : Cu} (ha : a.may = true) (hb : b.may = true) : (xB a b).may = true := by unfold xB; split <;> assumption
theorem minC_lt {a b x : Cu} (ha : a.may = true) (hb : b.may = true) (hx : x.may = true) : decide (zV x (x9 a b) < 0) = (decide (zV x a < 0) && decide (zV x b < 0)) := by
  rw [← Bool.decide_and]
  refine decide_eq_decide.2 ?_
  unfold x9
  split
  · rename_i h
    exact ⟨fun h2 => ⟨kD hx hb ha h2 (by have := xV (a := a) (b := b); omega), h2⟩, fun h2 => h2.2⟩
  · rename_i h
    exact ⟨fun h2 => ⟨h2, bS hx ha hb h2 (by omega)⟩, fun h2 => h2.1⟩
theorem maxC_le {a b x : Cu} (ha : a.may = true) (hb : b.may = true) (hx : x.may = true) : decide (zV (xB a b) x ≤ 0) = (decide (zV a x ≤ 0) && decide (zV b x ≤ 0)) := by
  rw [← Bool.decide_and]
  refine decide_eq_decide.2 ?_
  unfold xB
  split
  · rename_i h
    exact ⟨fun h2 => ⟨h2, vN hb ha hx (by have := xV (a := a) (b := b); omega) h2⟩, fun h2 => h2.1⟩
  · rename_i h
    exact ⟨fun h2 => ⟨vN ha hb hx (by omega) h2, h2⟩, fun h2 => h2.2⟩
theorem bC {c d : Cu} (h : zV c d < 0) : (Sp.mk c d).may = true := by
  unfold Sp.may
  have := bR c d
  rw [decide_eq_true_eq]; show zV c d = -1; omega
theorem sp_not_of {c d : Cu} (h : (Sp.mk c d).may = false) : ¬ zV c d < 0 := fun h2 => by rw [bC h2] at h; cases h
theorem in_none {c d x : Cu} (hc : c.may = true) (hd : d.may = true) (hx : x.may = true) (h : ¬ zV c d < 0) : gE ⟨c, d⟩ x = false := by
  unfold gE
  rw [Bool.and_eq_false_iff, decide_eq_false_iff_not, decide_eq_false_iff_not]
  by_cases h1 : zV c x ≤ 0
  · exact .inr fun h2 => h (tK hc hx hd h1 h2)
  · exact .inl h1
def qG (l : List Sp) (c d : Cu) : List Sp := if (Sp.mk c d).may then l ++ [⟨c, d⟩] else l
theorem add_ok {out : List Sp} {c d : Cu} (ho : zR out = true) (hl : ∀ t ∈ out.getLast?, zV t.hi c < 0) : zR (qG out c d) = true := by
  unfold qG
  split
  · exact wF ho (by assumption) hl
  · exact ho
theorem add_den {out : List Sp} {c d x : Cu} (hc : c.may = true) (hd : d.may = true) (hx : x.may = true) : den (qG out c d) x = (den out x || gE ⟨c, d⟩ x) := by
  unfold qG
  split
  · rw [dC]; unfold den; simp
  · rename_i h
    rw [in_none hc hd hx (sp_not_of (by simpa using h)), Bool.or_false]
theorem add_last {out : List Sp} {c d : Cu} : ∀ t ∈ (qG out c d).getLast?, t = ⟨c, d⟩ ∨ (t ∈ out.getLast? ∧ ¬ zV c d < 0) := by
  unfold qG
  split
  · intro t ht
    rw [List.getLast?_concat] at ht
    exact .inl (Option.some.inj ht).symm
  · rename_i h
    exact fun t ht => .inr ⟨ht, sp_not_of (by simpa using h)⟩
theorem pA (l : List Sp) (c d : Cu) : (qG l c d).length ≤ l.length + 1 := by unfold qG; split <;> simp
def nstep (p : List Sp × Cu) (s : Sp) : List Sp × Cu := (qG p.1 p.2 s.lo, s.hi)
def notG (l : List Sp) : List Sp := qG (l.foldl nstep ([], zX (-1))).1 (l.foldl nstep ([], zX (-1))).2 (zX 1)
theorem fC (s : Sp) (l : List Sp) (x : Cu) : den (s :: l) x = (gE s x || den l x) := by unfold den; rw [List.any_cons]
theorem fD {s : Sp} {l : List Sp} {x : Cu} (h : zR (s :: l) = true) (hx : x.may = true) (hlt : zV x s.hi ≤ 0) : den l x = false :=
  bP fun t ht => tK hx (yD (kG h)).2 (yD (xJ h t (List.mem_cons_of_mem _ ht))).1 hlt (gG h t ht)
theorem not_go : ∀ (l out : List Sp) (f : Cu), zR l = true → zR out = true → f.may = true → (∀ t ∈ out.getLast?, zV t.hi f < 0) → (∀ s ∈ l.head?, zV f s.lo ≤ 0) →
    zR (qG (l.foldl nstep (out, f)).1 (l.foldl nstep (out, f)).2 (zX 1)) = true ∧ ∀ x : Cu, x.may = true → zV x (zX 1) < 0 → den (qG (l.foldl nstep (out, f)).1 (l.foldl nstep (out, f)).2 (zX 1)) x = (den out x || (decide (zV f x ≤ 0) && !den l x))
  | [], out, f, hl, ho, hf, h1, h2 => ⟨add_ok ho h1, fun x hx he => by
      show den (qG out f (zX 1)) x = _
      rw [add_den hf bL hx]
      unfold gE
      rw [decide_eq_true he]
      simp [den]⟩
  | s :: r, out, f, hl, ho, hf, h1, h2 => by
    have hs := kG hl
    obtain ⟨m1, m2⟩ := yD hs
    have hlt := wQ hs
    have hfs : zV f s.lo ≤ 0 := h2 s rfl
    have ih := not_go r (qG out f s.lo) s.hi (kZ hl) (add_ok ho h1) m2 (fun t ht => by
      rcases add_last t ht with rfl | ⟨h3, h4⟩
      · exact hlt
      · exact kD (yD (xJ ho t (List.mem_of_getLast? h3))).2 hf m2 (h1 t h3) (tK hf m1 m2 hfs hlt)) (fun t ht => by
        have := gG hl t (List.mem_of_mem_head? ht); omega)
    refine ⟨ih.1, fun x hx he => ?_⟩
    show den (qG (r.foldl nstep (qG out f s.lo, s.hi)).1 (r.foldl nstep (qG out f s.lo, s.hi)).2 (zX 1)) x = _
    rw [ih.2 x hx he, add_den hf m1 hx, fC]
    unfold gE
    show (den out x || (decide (zV f x ≤ 0) && decide (zV x s.lo < 0)) || _) = _
    by_cases c1 : zV x s.lo < 0
    · have c2 : zV x s.hi < 0 := kD hx m1 m2 c1 hlt
      rw [decide_eq_true c1, fD hl hx (by omega), decide_eq_false (show ¬ zV s.hi x ≤ 0 from by have := xV (a := x) (b := s.hi); omega), decide_eq_false (show ¬ zV s.lo x ≤ 0 from by have := xV (a := x) (b := s.lo); omega)]
      simp
    · rw [decide_eq_false c1]
      have c3 : zV s.lo x ≤ 0 := uN c1
      rw [decide_eq_true c3, decide_eq_true (vN hf m1 hx hfs c3)]
      by_cases c4 : zV x s.hi < 0
      · rw [decide_eq_true c4, decide_eq_false (show ¬ zV s.hi x ≤ 0 from by have := xV (a := x) (b := s.hi); omega)]
        simp
      · rw [decide_eq_false c4, decide_eq_true (uN c4)]
        simp
theorem notG_eq {l : List Sp} (h : zR l = true) : notG l = vP l := by
  have h1 := not_go l [] (zX (-1)) h rfl nP (fun t ht => by simp at ht) (fun s hs => mR (yD (xJ h s (List.mem_of_mem_head? hs))).1)
  have h2 := dG h
  refine nE _ _ h1.1 h2.1 fun c hc he => ?_
  rw [h2.2 c hc he]
  show den (qG _ _ _) c = _
  rw [h1.2 c hc he, decide_eq_true (mR hc)]
  simp [den]
def andG : Nat → List Sp → List Sp → List Sp → List Sp
  | n + 1, out, s :: a, u :: b => if s.hi = x9 s.hi u.hi then andG n (qG out (xB s.lo u.lo) (x9 s.hi u.hi)) a (u :: b) else andG n (qG out (xB s.lo u.lo) (x9 s.hi u.hi)) (s :: a) b
  | _, out, _, _ => out
theorem min_is {a b : Cu} : a = x9 a b ↔ zV a b ≤ 0 := by
  unfold x9
  split
  · rename_i h
    exact ⟨fun e => by have := gD a; rw [← e] at h; omega, fun h2 => by omega⟩
  · rename_i h
    exact ⟨fun _ => by omega, fun _ => rfl⟩
theorem maxC_ge {a b : Cu} (ha : a.may = true) (hb : b.may = true) : zV a (xB a b) ≤ 0 ∧ zV b (xB a b) ≤ 0 := by
  unfold xB
  split
  · rename_i h
    exact ⟨by rw [gD]; decide, by have := xV (a := a) (b := b); omega⟩
  · rename_i h
    exact ⟨by omega, by rw [gD]; decide⟩
theorem maxC_up {a b c d x : Cu} (ha : a.may = true) (hb : b.may = true) (hc : c.may = true) (hd : d.may = true) (hx : x.may = true) (h1 : zV a c ≤ 0) (h2 : zV b d ≤ 0) (h : zV x (xB a b) < 0) : zV x (xB c d) < 0 := by
  have g := maxC_ge hc hd
  have m := mP hc hd
  unfold xB at h
  split at h
  · exact bS hx ha m h (vN ha hc m h1 g.1)
  · exact bS hx hb m h (vN hb hd m h2 g.2)
theorem maxC_one {a b x : Cu} (ha : a.may = true) (hb : b.may = true) (hx : x.may = true) (h : zV x a < 0) : zV x (xB a b) < 0 := bS hx ha (mP ha hb) h (maxC_ge ha hb).1
theorem maxC_two {a b x : Cu} (ha : a.may = true) (hb : b.may = true) (hx : x.may = true) (h : zV x b < 0) : zV x (xB a b) < 0 := bS hx hb (mP ha hb) h (maxC_ge ha hb).2
theorem in_both {s u : Sp} {x : Cu} (hs : s.may = true) (hu : u.may = true) (hx : x.may = true) : gE ⟨xB s.lo u.lo, x9 s.hi u.hi⟩ x = (gE s x && gE u x) := by
  unfold gE
  rw [maxC_le (yD hs).1 (yD hu).1 hx, minC_lt (yD hs).2 (yD hu).2 hx]
  cases decide (zV s.lo x ≤ 0) <;> cases decide (zV u.lo x ≤ 0) <;> cases decide (zV x s.hi < 0) <;> cases decide (zV x u.hi < 0) <;> rfl
theorem and_go : ∀ (n : Nat) (out a b : List Sp), a.length + b.length ≤ n → zR out = true → zR a = true → zR b = true → (∀ t ∈ out.getLast?, ∀ s ∈ a.head?, ∀ u ∈ b.head?, zV t.hi (xB s.lo u.lo) < 0) →
    zR (andG n out a b) = true ∧ ∀ x : Cu, x.may = true → den (andG n out a b) x = (den out x || (den a x && den b x))
  | 0, out, a, b, hn, ho, ha, hb, hl => by
    obtain rfl : a = [] := List.eq_nil_of_length_eq_zero (by omega)
    exact ⟨ho, fun x _ => by simp [andG, den]⟩
  | n + 1, out, [], b, hn, ho, ha, hb, hl => ⟨ho, fun x _ => by simp [andG, den]⟩
  | n + 1, out, s :: a, [], hn, ho, ha, hb, hl => ⟨ho, fun x _ => by simp [andG, den]⟩
  | n + 1, out, s :: a, u :: b, hn, ho, ha, hb, hl => by
    have hs := kG ha
    have hu := kG hb
    obtain ⟨s1, s2⟩ := yD hs
    obtain ⟨u1, u2⟩ := yD hu
    have ho2 := add_ok (d := x9 s.hi u.hi) ho (fun t ht => hl t ht s rfl u rfl)
    have mx := mP s1 u1
    have mn := minC_may s2 u2
    have hout : ∀ t ∈ out.getLast?, t.hi.may = true := fun t ht => (yD (xJ ho t (List.mem_of_getLast? ht))).2
    unfold andG
    split
    · rename_i h
      have hle := min_is.1 h
      have ih := and_go n (qG out (xB s.lo u.lo) (x9 s.hi u.hi)) a (u :: b) (by simp at hn ⊢; omega) ho2 (kZ ha) hb (fun t ht s' hs' u' hu' => by
        obtain rfl : u = u' := Option.some.inj hu'
        have hsa := gG ha s' (List.mem_of_mem_head? hs')
        have ms' := (yD (xJ ha s' (List.mem_cons_of_mem _ (List.mem_of_mem_head? hs')))).1
        rcases add_last t ht with rfl | ⟨h3, h4⟩
        · show zV (x9 s.hi u.hi) _ < 0
          rw [← h]
          exact maxC_one ms' u1 s2 hsa
        · exact maxC_up s1 u1 ms' u1 (hout t h3) (by have := kD s1 s2 ms' (wQ hs) hsa; omega) (by rw [gD]; decide) (hl t h3 s rfl u rfl))
      refine ⟨ih.1, fun x hx => ?_⟩
      rw [ih.2 x hx, add_den mx mn hx, in_both hs hu hx, fC s, fC u]
      cases hi : gE s x with
      | false => simp
      | true =>
        have hxs : zV x s.hi < 0 := by unfold gE at hi; simp at hi; exact hi.2
        rw [fD hb hx (by have := bS hx s2 u2 hxs hle; omega), fD ha hx (by omega)]
        simp
    · rename_i h
      have hgt : ¬ zV s.hi u.hi ≤ 0 := fun h2 => h (min_is.2 h2)
      have hlt : zV u.hi s.hi < 0 := clt_flip hgt
      have hmin : x9 s.hi u.hi = u.hi := by unfold x9; rw [if_pos (by omega)]
      have ih := and_go n (qG out (xB s.lo u.lo) (x9 s.hi u.hi)) (s :: a) b (by simp at hn ⊢; omega) ho2 ha (kZ hb) (fun t ht s' hs' u' hu' => by
        obtain rfl : s = s' := Option.some.inj hs'
        have hub := gG hb u' (List.mem_of_mem_head? hu')
        have mu' := (yD (xJ hb u' (List.mem_cons_of_mem _ (List.mem_of_mem_head? hu')))).1
        rcases add_last t ht with rfl | ⟨h3, h4⟩
        · show zV (x9 s.hi u.hi) _ < 0
          rw [hmin]
          exact maxC_two s1 mu' u2 hub
        · exact maxC_up s1 u1 s1 mu' (hout t h3) (by rw [gD]; decide) (by have := kD u1 u2 mu' (wQ hu) hub; omega) (hl t h3 s rfl u rfl))
      refine ⟨ih.1, fun x hx => ?_⟩
      rw [ih.2 x hx, add_den mx mn hx, in_both hs hu hx, fC s, fC u]
      cases hi : gE u x with
      | false => simp
      | true =>
        have hxu : zV x u.hi < 0 := by unfold gE at hi; simp at hi; exact hi.2
        rw [fD ha hx (by have := kD hx u2 s2 hxu hlt; omega), fD hb hx (by omega)]
        cases gE s x <;> simp
theorem andG_eq {a b : List Sp} (ha : zR a = true) (hb : zR b = true) : andG (a.length + b.length) [] a b = wP a b := by
  have h1 := and_go (a.length + b.length) [] a b (Nat.le_refl _) rfl ha hb (fun t ht => by simp at ht)
  have h2 := and_ok ha hb
  refine nE _ _ h1.1 h2.1 fun c hc he => ?_
  rw [h2.2 c hc he, h1.2 c hc]
  simp [den]
def jZ (out : List Sp) (s : Sp) : List Sp :=
  match out.getLast? with
  | none => [s]
  | some t => if zV t.hi s.lo < 0 then out ++ [s] else out.dropLast ++ [⟨t.lo, xB t.hi s.hi⟩]
theorem in_merge {s t : Sp} {x : Cu} (hs : s.may = true) (ht : t.may = true) (hx : x.may = true) (h1 : zV t.lo s.lo ≤ 0) (h2 : zV s.lo t.hi ≤ 0) : gE ⟨t.lo, xB t.hi s.hi⟩ x = (gE t x || gE s x) := by
  obtain ⟨s1, s2⟩ := yD hs
  obtain ⟨t1, t2⟩ := yD ht
  unfold gE
  show (decide (zV t.lo x ≤ 0) && decide (zV x (xB t.hi s.hi) < 0)) = _
  by_cases c1 : zV t.lo x ≤ 0
  · rw [decide_eq_true c1]
    unfold xB
    split
    · rename_i h
      by_cases c2 : zV x s.hi < 0
      · rw [decide_eq_true (show zV x t.hi < 0 from kD hx s2 t2 c2 (by have := xV (a := t.hi) (b := s.hi); omega))]; simp
      · rw [decide_eq_false c2]; simp
    · rename_i h
      by_cases c2 : zV x t.hi < 0
      · rw [decide_eq_true c2, decide_eq_true (show zV x s.hi < 0 from bS hx t2 s2 c2 (by omega))]; simp
      · rw [decide_eq_false c2, decide_eq_true (show zV s.lo x ≤ 0 from vN s1 t2 hx h2 (uN c2))]; simp
  · rw [decide_eq_false c1, decide_eq_false (show ¬ zV s.lo x ≤ 0 from fun h => c1 (vN t1 s1 hx h1 h))]; simp
theorem mstep_ok {out : List Sp} {s : Sp} (ho : zR out = true) (hs : s.may = true) (hl : ∀ t ∈ out.getLast?, zV t.lo s.lo ≤ 0) :
    zR (jZ out s) = true ∧ (∀ t ∈ (jZ out s).getLast?, t.lo = s.lo ∨ ∃ t' ∈ out.getLast?, t.lo = t'.lo) ∧ ∀ x : Cu, x.may = true → den (jZ out s) x = (den out x || gE s x) := by
  unfold jZ
  cases hg : out.getLast? with
  | none =>
    have : out = [] := by simpa using hg
    subst this
    refine ⟨wF (l := []) rfl hs (fun t ht => by simp at ht), fun t ht => ?_, fun x _ => by simp [den]⟩
    obtain rfl : s = t := by simpa using ht
    exact .inl rfl
  | some t =>
    have hlo := hl t hg
    have hsp := last_split hg
    have htm := xJ ho t (List.mem_of_getLast? hg)
    obtain ⟨s1, s2⟩ := yD hs
    obtain ⟨t1, t2⟩ := yD htm
    dsimp only
    split
    · rename_i h
      refine ⟨wF ho hs (fun t' ht' => by rw [hg] at ht'; obtain rfl := Option.some.inj ht'; exact h), fun t' ht' => ?_, fun x _ => by rw [dC]; simp [den]⟩
      rw [List.getLast?_concat] at ht'
      obtain rfl := Option.some.inj ht'
      exact .inl rfl
    · rename_i h
      have hi := row_init (hsp ▸ ho)
      have hmay : (Sp.mk t.lo (xB t.hi s.hi)).may = true := bC (bS t1 t2 (mP t2 s2) (wQ htm) (maxC_ge t2 s2).1)
      refine ⟨wF hi.1 hmay (fun x hx => hi.2 x hx), fun t' ht' => ?_, fun x hx => ?_⟩
      · rw [List.getLast?_concat] at ht'
        obtain rfl := Option.some.inj ht'
        exact .inr ⟨t, rfl, rfl⟩
      · rw [dC]
        conv => rhs; rw [hsp, dC]
        have e := in_merge hs htm hx hlo (uN h)
        simp only [den, List.any_cons, List.any_nil, Bool.or_false] at e ⊢
        rw [e, Bool.or_assoc]
def mD : List Sp → Prop
  | [] => True
  | s :: r => (∀ t ∈ r, zV s.lo t.lo ≤ 0) ∧ mD r
theorem merge_go : ∀ (l out : List Sp), (∀ s ∈ l, s.may = true) → mD l → zR out = true → (∀ t ∈ out.getLast?, ∀ s ∈ l, zV t.lo s.lo ≤ 0) →
    zR (l.foldl jZ out) = true ∧ ∀ x : Cu, x.may = true → den (l.foldl jZ out) x = (den out x || den l x)
  | [], out, _, _, ho, _ => ⟨ho, fun x _ => by simp [den]⟩
  | s :: r, out, hm, hso, ho, hl => by
    have h1 := mstep_ok ho (hm s (List.mem_cons_self ..)) (fun t ht => hl t ht s (List.mem_cons_self ..))
    have ih := merge_go r (jZ out s) (fun t ht => hm t (List.mem_cons_of_mem _ ht)) hso.2 h1.1 (fun t ht u hu => by
      rcases h1.2.1 t ht with e | ⟨t', ht', e⟩
      · rw [e]; exact hso.1 u hu
      · rw [e]; exact hl t' ht' u (List.mem_cons_of_mem _ hu))
    refine ⟨ih.1, fun x hx => ?_⟩
    show den (r.foldl jZ (jZ out s)) x = _
    rw [ih.2 x hx, h1.2.2 x hx, fC, Bool.or_assoc]
theorem merge_eq {l d : List Sp} (hm : ∀ s ∈ l, s.may = true) (hp : d.Perm l) (hs : mD d) : d.foldl jZ [] = jG l := by
  have hmd : ∀ s ∈ d, s.may = true := fun s h => hm s (hp.mem_iff.1 h)
  have h1 := merge_go d [] hmd hs rfl (fun t ht => by simp at ht)
  have h2 := wY hm
  refine nE _ _ h1.1 h2.1 fun c hc he => ?_
  rw [h2.2 c hc he, h1.2 c hc]
  show (false || den d c) = den l c
  rw [Bool.false_or]
  unfold den
  exact hp.any_eq
theorem mstep_len (out : List Sp) (s : Sp) : (jZ out s).length ≤ out.length + 1 := by
  unfold jZ
  split
  · simp
  · split
    · simp
    · first | (simp; done) | (simp; omega)
end
section
theorem cutAt_len (c : UInt8) : ∀ s : List UInt8, s.length = (yH c s).1.length + (if (yH c s).2.2 then 1 + (yH c s).2.1.length else 0)
  | [] => rfl
  | b :: r => by
    unfold yH
    have ih := cutAt_len c r
    by_cases h : b = c
    · first | (simp [h]; done) | (subst h; simp; omega) | (simp [h]; omega)
    · first | (simp [h] at ih ⊢; omega) | (simp [h, Ne.symm h] at ih ⊢; omega)
theorem cutGo_short : ∀ (n : Nat) (s : List UInt8), (gQ n s).2 = true → s.length ≤ 9 * n
  | 0, s, h => by simp [gQ] at h
  | n + 1, s, h => by
    have hl := cutAt_len 46 s
    cases ht : gO (yH 46 s).1 with
    | false => rw [cutGo_bad n s ht] at h; cases h
    | true =>
      have h8 : (yH 46 s).1.length ≤ 8 := Nat.le_of_not_lt fun h2 => by rw [pQ h2] at ht; cases ht
      cases hm : (yH 46 s).2.2 with
      | false => rw [hm] at hl; simp at hl; omega
      | true =>
        rw [cutGo_on n s ht hm] at h
        have ih := cutGo_short n _ h
        rw [hm] at hl; simp at hl; omega
theorem preOk_short {s : List UInt8} (h : jU s = true) : s.length ≤ 36 := by
  rw [preOk_lst, Bool.and_eq_true] at h
  have h1 := h.1
  unfold lst at h1
  split at h1
  · rename_i h0
    have : s = [] := by simpa using h0
    subst this; exact Nat.zero_le _
  · have := cutGo_short _ _ h1; omega
theorem may_short {v : Ver} (h : v.may = true) (hb : v.build = []) : v.short := ⟨by have := preOk_short (may_pre h); omega, by rw [hb]; exact Nat.zero_le _⟩
theorem cu_short {c : Cu} (h : c.may = true) : c.short := may_short (jF h) (j7 h)
theorem tV {s : Sp} (h : s.may = true) : s.short := ⟨cu_short (yD h).1, cu_short (yD h).2⟩
structure RF (l : List Sp) (n : Nat) : Prop where
  may : zR l = true
  len : l.length ≤ n
theorem RF.short {l : List Sp} {n : Nat} (h : RF l n) : x8 l := fun s hs => tV (xJ h.may s hs)
theorem cuts_len {l : List Sp} (hl : ∀ s ∈ l, s.may = true) : (g7 l).length ≤ 2 + 2 * l.length := by
  have h := (bH l (fun s hs => tV (hl s hs)) l.length (Nat.le_refl _)).1
  rwa [List.take_length] at h
theorem RF.make {l : List Sp} {n : Nat} (hl : ∀ s ∈ l, s.may = true) (hn : l.length ≤ n) : RF (jG l) (2 + 2 * n) := ⟨(wY hl).1, by
  have h1 := build_len (inL l) (g7 l) []
  have h2 := cuts_len hl
  unfold jG
  rw [List.length_nil] at h1
  omega⟩
theorem RF.or {a b : List Sp} {n m : Nat} (ha : RF a n) (hb : RF b m) : RF (orL a b) (2 + 2 * (n + m)) := RF.make (bT ha.may hb.may) (by rw [List.length_append]; have := ha.len; have := hb.len; omega)
section
variable {a b c : List Sp} (ha : zR a = true) (hb : zR b = true) (hc : zR c = true)
include ha in
theorem not_not4 : vP (vP a) = a := nE _ _ (dG (dG ha).1).1 ha fun x hx he => by
  rw [(dG (dG ha).1).2 x hx he, (dG ha).2 x hx he, Bool.not_not]
include ha hb in
end
theorem uU {v : Ver} (hv : v.may = true) : zV (dF v) (zX 1) < 0 := by
  have h1 := le_last (vG hv)
  have h2 : zV (dF v) (zX 1) ≠ 0 := fun e => by
    have := (cut_eq (vG hv) bL).1 e
    have h3 := congrArg Cu.e this
    simp [dF, zX] at h3
  omega
theorem has_or4 {a b : List Sp} {v : Ver} (ha : zR a = true) (hb : zR b = true) (hv : v.may = true) : xY (orL a b) v = (xY a v || xY b v) := by
  rw [jJ (or_ok ha hb).1 hv, jJ ha hv, jJ hb hv, (or_ok ha hb).2 _ (vG hv) (uU hv)]
theorem has_and4 {a b : List Sp} {v : Ver} (ha : zR a = true) (hb : zR b = true) (hv : v.may = true) : xY (wP a b) v = (xY a v && xY b v) := by
  rw [jJ (and_ok ha hb).1 hv, jJ ha hv, jJ hb hv, (and_ok ha hb).2 _ (vG hv) (uU hv)]
end
section
section
variable {M : List Nat} {P : Program} {n : Nat} {W : World} {Q : Exit → Act → World → Prop} {L : List Blk} {f : Nat → Value}
theorem fin_cc {fn : Func} {R : Ending → World → Prop} {p q : Tmp} {ty tz : TypeId} (i j : Nat) (x y : Blk) {off oft : Nat} (v v' : Value) (hres : fn.results = #[.cell p ty, .cell q tz]) (hL : L[i]? = some x) (hL' : L[j]? = some y)
    (hp : ev n f (.tmp p) = .pointer (some ⟨x.b, off, none⟩)) (hq : ev n f (.tmp q) = .pointer (some ⟨y.b, oft, none⟩)) (hv : g8 P ty x.cs off = some v) (hv' : g8 P tz y.cs oft = some v') (hR : ∀ w, Own M W w L → R (.returned (.tuple #[v, v'])) w) : Fin M n W (bodyPost P fn R) .ret L f := ⟨fun w hO => by
  refine bodyPost_ret (v := .tuple #[v, v']) ?_ rfl (hR w hO)
  have e : (Fr n f).tmps.getD p undef = .pointer (some ⟨x.b, off, none⟩) := (j8 n f p).trans hp
  have e' : (Fr n f).tmps[p]?.getD undef = .pointer (some ⟨x.b, off, none⟩) := by simpa using e
  have e2 : (Fr n f).tmps.getD q undef = .pointer (some ⟨y.b, oft, none⟩) := (j8 n f q).trans hq
  have e2' : (Fr n f).tmps[q]?.getD undef = .pointer (some ⟨y.b, oft, none⟩) := by simpa using e2
  have h1 := gP hv (hO.get hL)
  have h2 := gP hv' (hO.get hL')
  simp [results, hres, e', e2', asAddr, h1, h2]⟩
theorem ZH {fn : Func} {R : Ending → World → Prop} {p q : Tmp} {ty tz : TypeId} (i j : Nat) (x y : Blk) {off oft : Nat} (v v' : Value) (hres : fn.results = #[.cell p ty, .cell q tz]) (hR : ∀ w, Own M W w L → R (.returned (.tuple #[v, v'])) w) (hL : L[i]? = some x := by kernel_rfl) (hL' : L[j]? = some y := by kernel_rfl) (hp : ev n f (.tmp p) = .pointer (some ⟨x.b, off, none⟩) := by kernel_rfl) (hq : ev n f (.tmp q) = .pointer (some ⟨y.b, oft, none⟩) := by kernel_rfl) (hv : g8 P ty x.cs off = some v := by kernel_rfl) (hv' : g8 P tz y.cs oft = some v' := by kernel_rfl) : Fin M n W (bodyPost P fn R) .ret L f := fin_cc i j x y v v' hres hL hL' hp hq hv hv' hR
def JoinQ (M : List Nat) (n : Nat) (W : World) (R : List Blk → (Nat → Value) → Prop) : Exit → Act → World → Prop
  | .normal, a, w => ∃ L f, R L f ∧ Own M W w L ∧ a = Fr n f
  | _, _, _ => False
theorem yJ {R : List Blk → (Nat → Value) → Prop} : PQ (JoinQ M n W R) := fun c a d v w h => h
theorem j6 {c : Code} (R : List Blk → (Nat → Value) → Prop) (h1 : Ok M P n W (JoinQ M n W R) c L f) (h2 : ∀ L f, R L f → Fin M n W Q .normal L f) : Ok M P n W Q c L f := ⟨fun w hO =>
  Code.wp_mono (fun e a w h => by
    cases e with
    | normal =>
      obtain ⟨L', f', hR, hO', rfl⟩ := h
      exact (h2 L' f' hR).go w hO'
    | _ => exact absurd h id) (h1.go w hO)⟩
theorem yQ {R : List Blk → (Nat → Value) → Prop} (h : R L f) : Fin M n W (JoinQ M n W R) .normal L f := ⟨fun w hO => ⟨L, f, h, hO, rfl⟩⟩
end
theorem Reads.tail {α : Type} {g : α → List Value} {sz : Nat} (hg : ∀ x, (g x).length = sz) {w : World} {B b off c : Nat} {x : α} {l : List α} (h : Reads g w B (some ⟨b, off, none⟩) (x :: l)) (hc : l.length < c) : Reads g w B (some ⟨b, off + (if c = (1 : Int).toNat then 0 else (1 : Int).toNat * sz), none⟩) l := fun h0 => by
  obtain ⟨b', off', e, hlt, hcell⟩ := h (by simp)
  obtain ⟨rfl, rfl⟩ : b = b' ∧ off = off' := by simp at e; exact e
  refine ⟨b, _, rfl, hlt, fun k u hk => ?_⟩
  rw [if_neg (by show ¬ c = 1; omega)]
  have := hcell (sz + k) u (by rw [List.flatMap_cons, List.getElem?_append_right (by rw [hg]; omega), hg]; rw [show sz + k - sz = k from by omega]; exact hk)
  rw [show off + (1 : Int).toNat * sz + k = off + (sz + k) from by show off + 1 * sz + k = _; omega]
  exact this
end
section
theorem tD {a b : Cu} (ha : a.short) (hb : b.short) : (x9 a b).short := by unfold x9; split <;> assumption
theorem fV {a b : Cu} (ha : a.short) (hb : b.short) : (xB a b).short := by unfold xB; split <;> assumption
theorem qT (a b : Cu) (W : World) (ha : a.short) (hb : b.short) :
    Calls Tryz.prog 130 #[zC a, zC b] W fun e w' => e = .returned (.tuple #[zC (x9 a b), zC (xB a b)]) ∧ Below W.heap.size W w' := by
  refine Z2 (n := 14) Tryz.func130 rfl (ZO (Zb (zC a) (fun b1 => Zb (zC b) (fun b2 => Za (.agg ZE) (fun b3 => Za (.agg ZE) (fun b4 => ZN (z7 (z7 (zA ?_)))))))))
  refine Zl 3 ⟨b1, (zC a).cells, 78⟩ (off := 0) (zC a) (Zl 2 ⟨b2, (zC b).cells, 78⟩ (off := 0) (zC b) (Zc (k := 173) (args := #[zC a, zC b]) (.int .i64 (zV a b)) (fun w _ => mV a b w ha hb) ?_))
  by_cases h1 : (0 : Int) < zV a b
  · refine Zg h1 (ZY (z7 (xO [⟨b2, (zC b).cells, 78⟩, ⟨b1, (zC a).cells, 78⟩] (by kernel_rfl) (fun w hO => Own.sub [⟨b4, ZE, 78⟩, ⟨b3, ZE, 78⟩] hO) (ZL 0 [⟨b4, ZE, 78⟩, ⟨b3, ZE, 78⟩] _ 0 ⟨b2, (zC b).cells, 78⟩ (off := 0) (zC b) (zG (zG zI)) rfl rfl (ZL 1 [⟨b4, ZE, 78⟩, ⟨b3, ZE, 78⟩] _ 1 ⟨b1, (zC a).cells, 78⟩ (off := 0) (zC a) (zG (zG zI)) rfl rfl (Zz 2 (ZS [⟨b4, ZE, 78⟩, ⟨b3, ZE, 78⟩] _ 1 ⟨b3, ZE, 78⟩ (off := 0) (zC b) rfl rfl (Zz 3 (ZS [⟨b4, ZE, 78⟩, ⟨b3, (zC b).cells, 78⟩] _ 0 ⟨b4, ZE, 78⟩ (off := 0) (zC a) rfl rfl ?_)))))))))
    exact ZZ (z8 (zB (z6 (ZH 1 0 ⟨b3, (zC b).cells, 78⟩ ⟨b4, (zC a).cells, 78⟩ (off := 0) (oft := 0) (zC b) (zC a) Tryz.results130 (fun w hO => ⟨by unfold x9 xB; simp only [h1, if_true, if_false], hO.below⟩)))))
  refine Zh h1 (ZX (ZB (z7 (xO [⟨b2, (zC b).cells, 78⟩, ⟨b1, (zC a).cells, 78⟩] (by kernel_rfl) (fun w hO => Own.sub [⟨b4, ZE, 78⟩, ⟨b3, ZE, 78⟩] hO) (ZL 0 [⟨b4, ZE, 78⟩, ⟨b3, ZE, 78⟩] _ 1 ⟨b1, (zC a).cells, 78⟩ (off := 0) (zC a) (zG zI) rfl rfl (ZL 1 [⟨b4, ZE, 78⟩, ⟨b3, ZE, 78⟩] _ 0 ⟨b2, (zC b).cells, 78⟩ (off := 0) (zC b) (zG zI) rfl rfl (Zz 2 (ZS [⟨b4, ZE, 78⟩, ⟨b3, ZE, 78⟩] _ 1 ⟨b3, ZE, 78⟩ (off := 0) (zC a) rfl rfl ?_))))))))
  exact Zz 3 (ZS [⟨b4, ZE, 78⟩, ⟨b3, (zC a).cells, 78⟩] _ 0 ⟨b4, ZE, 78⟩ (off := 0) (zC b) rfl rfl (ZZ (z8 (zB (ZH 1 0 ⟨b3, (zC a).cells, 78⟩ ⟨b4, (zC b).cells, 78⟩ (off := 0) (oft := 0) (zC a) (zC b) Tryz.results130 (fun w hO => ⟨by unfold x9 xB; simp only [h1, if_true, if_false], hO.below⟩))))))
def idxP (v : Ver) : List Sp → Int → Int
  | [], _ => -1
  | s :: r, k => if qH s v then k else idxP v r (k + 1)
end
section
theorem may_drop : ∀ (a b : List Sp), zR (a ++ b) = true → zR b = true
  | [], _, h => h
  | _ :: a, b, h => may_drop a b (kZ h)
theorem may_take_bad {l : List Sp} {k : Nat} (hk : k < l.length) (h : l[k].may = false) : zR l = false := by
  cases h2 : zR l with
  | false => rfl
  | true => rw [xJ h2 _ (List.getElem_mem hk)] at h; cases h
theorem may_step {l : List Sp} {k : Nat} (hk : k < l.length) (h : zR (l.take k) = true) (hs : l[k].may = true) (hp : 0 < k → zV (l[k - 1]'(by omega)).hi l[k].lo < 0) : zR (l.take (k + 1)) = true := by
  rw [List.take_succ_eq_append_getElem hk]
  refine wF h hs (fun s hs2 => ?_)
  by_cases h0 : k = 0
  · subst h0; simp at hs2
  · have e : s = l[k - 1]'(by omega) := by
      rw [List.getLast?_eq_getElem?, List.length_take, Nat.min_eq_left (by omega), List.getElem?_take, if_pos (by omega), List.getElem?_eq_getElem (by omega)] at hs2
      exact (Option.some.inj hs2).symm
    rw [e]; exact hp (by omega)
theorem may_not {l : List Sp} {k : Nat} (hk : k < l.length) (h0 : 0 < k) (h : ¬ zV (l[k - 1]'(by omega)).hi l[k].lo < 0) : zR l = false := by
  cases h2 : zR l with
  | false => rfl
  | true =>
    refine absurd ?_ h
    have e : l = l.take (k - 1) ++ (l[k - 1]'(by omega)) :: l[k] :: l.drop (k + 1) := by
      have e1 := (List.take_append_drop (k - 1) l).symm
      rw [List.drop_eq_getElem_cons (show k - 1 < l.length by omega)] at e1
      have e2 : l.drop (k - 1 + 1) = l[k] :: l.drop (k + 1) := by
        rw [show k - 1 + 1 = k from by omega, List.drop_eq_getElem_cons hk]
      rw [e2] at e1; exact e1
    have h3 : zR ((l[k - 1]'(by omega)) :: l[k] :: l.drop (k + 1)) = true := may_drop (l.take (k - 1)) _ (e ▸ h2)
    exact gG h3 _ (List.mem_cons_self ..)
theorem uI (A : Option Addr) (cap : Nat) (l : List Sp) (W : World) (hv : Reads yR W W.heap.size A l) (hn : l.length ≤ 1000000) (hl : x8 l) :
    Calls Tryz.prog 129 #[.slice A l.length cap] W fun e w' => e = .returned (.bool (zR l)) ∧ Below W.heap.size W w' := by
  refine Z2 (n := 30) Tryz.func129 rfl (ZO (Zv Z5 (ZN (z7 (ZO (Zv (.slice A l.length cap) (Zv (.int .i64 (l.length : Int)) (Zv (.int .i64 0) ?_))))))))
  refine ZN (zL (yL (fun L f m => ∃ (k : Nat) (j : Nat → Value), (k ≤ l.length ∧ zR (l.take k) = true) ∧ L = [] ∧ f = xF j [(0, .slice A l.length cap), (5, .slice A l.length cap), (6, .int .i64 (l.length : Int)), (7, .int .i64 (k : Int))] ∧ m = l.length - k) (l.length - 0) ⟨0, _, ⟨Nat.zero_le _, by rw [List.take_zero]; rfl⟩, rfl, ZU, rfl⟩ ?_))
  rintro L f m ⟨k, j, hrel, rfl, rfl, rfl⟩
  have hkl := hrel.1
  refine z7 (zA ?_)
  by_cases h1 : (k : Int) < (l.length : Int)
  · have hk : k < l.length := by omega
    obtain ⟨b, off, hA, hlt, hcell⟩ := hv (by omega)
    obtain ⟨s, hs⟩ : ∃ s, l[k] = s := ⟨_, rfl⟩
    have hsk : s.short := hs ▸ hl l[k] (List.getElem_mem hk)
    refine Zg h1 (ZN (z7 (Zt (ZB (z7 (zL (ZO (Zv (.int .i64 (k : Int)) ?_))))))))
    refine zU (Zp b (off + k * 14)) (by kernel_rfl) (ZA (b := b) (off := off) (c := cap) (n := l.length) (k := .i64) (j := (k : Int)) (e := 80) (sz := 14) hA) (Zo (yX s) (a := ⟨b, off + k * 14, none⟩) (fun w hO => y6 y9 (fun j u h => (hO.below.cell (p := ⟨b, off + j, none⟩) hlt).trans (hcell j u h)) k 0 hk (by omega) _ (by rw [hs]; kernel_rfl)) (Za (.agg Z6) (fun b1 => Zv (.int .i64 (k : Int)) (Zs 0 ⟨b1, Z6, 80⟩ (off := 0) (yX s) (ZN (z7 (ZO (Zl 0 ⟨b1, (yX s).cells, 80⟩ (off := 0) (yX s) (Zc (k := 139) (args := #[yX s]) (.bool s.may) (fun w _ => d5 s w hsk) ?_)))))))))
    cases h2 : s.may with
    | true =>
      refine Zv Z5 (ZX (ZB (z7 (kM (by kernel_rfl) (by kernel_rfl) (Zw (.int .i64 (k : Int)) ?_)))))
      by_cases h3 : (0 : Int) < (k : Int)
      · have hk1 : k - 1 < l.length := by omega
        obtain ⟨p, hp⟩ : ∃ p, l[k - 1] = p := ⟨_, rfl⟩
        have hpk : p.short := hp ▸ hl l[k - 1] (List.getElem_mem hk1)
        refine Zi h3 (Zw Z4 (Zw (.slice A l.length cap) (Zw (.int .i64 (k : Int)) (q_sum (k := .i64) (((k : Int) : Int) - 1) (by kernel_rfl) (fun _ => by kernel_rfl) (IntWalk.i64_in _ (by omega)) (xH (Zp b (off + (k - 1) * 14)) (by kernel_rfl) (ZA (b := b) (off := off) (c := cap) (n := l.length) (k := .i64) (j := (k : Int) - 1) (e := 80) (sz := 14) hA) (Zw (Zp b (off + (k - 1) * 14 + 7)) (wR (zC p.hi) (a := ⟨b, off + (k - 1) * 14 + 7, none⟩) (by kernel_rfl) rfl (by kernel_rfl) (fun w hO => y6 y9 (fun j u h => (hO.below.cell (p := ⟨b, off + j, none⟩) hlt).trans (hcell j u h)) (k - 1) 7 (by omega) (by omega) _ (by rw [hp]; kernel_rfl)) (Zw (Zp b1 0) (Zm 0 ⟨b1, (yX s).cells, 80⟩ (off := 0) (.agg (ZJ s.lo)) (Zq (k := 173) (args := #[zC p.hi, .agg (ZJ s.lo)]) (.int .i64 (zV p.hi s.lo)) (fun w _ => mV p.hi s.lo w hpk.2 hsk.1) ?_))))))))))
        by_cases h4 : (0 : Int) ≤ zV p.hi s.lo
        · refine Zi h4 (Zw Z4 (xU (z8 (Zt (ZO (Zv Z5 (ZN (zB (zF ?_)))))))))
          exact z6 (zW (zF (z6 (ZF Z5 Tryz.results129 (fun w hO => ⟨by rw [may_not hk (by omega) (by simp only [hp, hs]; omega)], hO.below⟩)))))
        refine ZI h4 (Zw Z5 (xU (z8 (Zf (yC (zQ (z8 (zA (Zu (k := .i64) (((k + 1 : Nat) : Int)) (IntWalk.i64_in _ (by omega)) (Zv (.int .i64 ((k + 1 : Nat) : Int)) (zP ?_)))))))))))
        have hnext : zR (l.take (k + 1)) = true := may_step hk hrel.2 (by rw [hs]; assumption) (fun h0 => by simp only [hp, hs]; omega)
        exact xM (fun w hO => Own.sub [_] hO) (zT (m' := l.length - (k + 1)) (by omega) ⟨k + 1, _, ⟨by omega, hnext⟩, rfl, ZU, rfl⟩)
      refine ZI h3 (Zw Z5 (Zj (Zj (Zj (Zj (Zj (Zj (Zj (Zj (Zj (Zj ?_)))))))))))
      refine Zw Z5 (xU (z8 (Zf (yC (zQ (z8 (zA (Zu (k := .i64) (((k + 1 : Nat) : Int)) (IntWalk.i64_in _ (by omega)) (Zv (.int .i64 ((k + 1 : Nat) : Int)) (zP ?_))))))))))
      have hnext : zR (l.take (k + 1)) = true := may_step hk hrel.2 (by rw [hs]; assumption) (fun h0 => absurd h0 (by omega))
      exact xM (fun w hO => Own.sub [_] hO) (zT (m' := l.length - (k + 1)) (by omega) ⟨k + 1, _, ⟨by omega, hnext⟩, rfl, ZU, rfl⟩)
    | false =>
      refine Zv Z4 (ZY (ZO (Zv Z5 (ZN (zB (z6 (zF ?_)))))))
      exact z6 (zW (zF (z6 (ZF Z5 Tryz.results129 (fun w hO => ⟨by rw [may_take_bad hk (by rw [hs]; assumption)], hO.below⟩)))))
  refine Zh h1 (ZN (z7 (Zf (y5 (zD (zN (zH (z8 (z7 (zA ?_))))))))))
  exact Zv Z4 (ZN (zB (ZF Z4 Tryz.results129 (fun w hO => ⟨by have h := hrel.2; rw [List.take_of_length_le (by omega)] at h; rw [h], hO.below⟩))))
end
section
section
variable {M : List Nat} {P : Program} {n0 : Nat} {ops : Array Oper} {W : World} {Q : Exit → Act → World → Prop} {rest : List Oper} {o : Oper} {L : List Blk} {f : Nat → Value}
theorem s_append0 {t tn e : TypeId} {x y : Operand} {i : TypeInfo} {z : Value} {kn : IntKind} {k sz : Nat} (hw : xS ops n0 f o = true) (ho : o.op = .call { callee := .builtin .append, args := #[x, y], argTypes := #[t, tn] })
    (hx : ev n0 f x = .slice none 0 0) (hy : ev n0 f y = .int .i64 k) (ht : P.underlying t = some (.slice e)) (htn : P.underlying tn = some (.int kn)) (hi : P.info? e = some i) (hz : i.zero = some z) (hsz : i.size = sz) (hzs : z.cells.size = sz) (h0 : 0 < k) (hs : 0 < sz)
    (h63 : k ≤ maxLen) (h48 : k * i.bytes ≤ 140737488355328)
    (h : ∀ b cs cap, cs.size = cap * sz → k ≤ cap → cap ≤ maxLen → Seg M P n0 ops W Q rest (⟨b, cs, e⟩ :: L) (upd f o.dst (.slice (some ⟨b, 0, none⟩) k cap))) : Seg M P n0 ops W Q (o :: rest) L f :=
  jM hw fun w hO => by
    subst hsz
    have hsmall : k ≤ 9223372036854775807 := by simp only [maxLen] at h63; omega
    have hr := Lib.run_append_grow_zeros (P := P) w t tn o.type e i z .i64 kn ht htn hi hz none 0 0 [] (run_firstCells_none w.drew i.size 0 0 0) k h0 hs (by omega) (by omega) (by omega) (by rw [Nat.zero_add, nextslicecap_zero h0]; omega)
    have hge := grownCap_ge w (0 + k) 0 e
    have hcm := grownCap_le_maxLen w (0 + k) 0 e (by omega)
    obtain ⟨cs, hcs⟩ : ∃ cs : Array Value, cs = #[] ++ Builtin.zeroCells z.cells k ++ Builtin.zeroCells z.cells (grownCap w (0 + k) 0 e - (0 + k)) := ⟨_, rfl⟩
    have hr2 : (Builtin.append_ #[t, tn] o.type #[.slice none 0 0, .int .i64 k]).run P w = .ok (.slice (some ⟨w.heap.size, 0, none⟩) k (grownCap w (0 + k) 0 e)) (w.drew.alloc (.cells cs e)) := by rw [hr, hcs, Nat.zero_add]
    have hcz : cs.size = grownCap w (0 + k) 0 e * i.size := by
      rw [hcs]
      simp only [Array.size_append, size_zeroCells, hzs, List.size_toArray, List.length_nil, Array.size_empty]
      rw [Nat.zero_add, ← Nat.add_mul]
      congr 1
      omega
    refine vR (.slice (some ⟨w.heap.size, 0, none⟩) k (grownCap w (0 + k) 0 e)) (w' := w.drew.alloc (.cells cs e)) ?_ ((h w.heap.size cs (grownCap w (0 + k) 0 e) hcz (by omega) hcm).go _ (Own.alloc (L := L) (drew_own hO) cs e))
    unfold execOp
    simp only [ho, resolve, invoke, builtin, Sem.run_bind, Sem.run_pure, Result.andThen_ok, List.map_toArray, List.map_cons, List.map_nil, hx, hy, hr2]
end
theorem run_sllA {P : Program} {ρ : Operand → Value} {o : Oper} {t e : TypeId} {x y : Operand} {A : Option Addr} {b off n c sz : Nat} {k : IntKind} {j : Int} (ho : o.op = .slice t x (some y) none none) (hx : ρ x = .slice A n c) (hA : A = some ⟨b, off, none⟩) (hy : ρ y = .int k j)
    (hu : P.underlying t = some (.slice e)) (hs : (P.info? e).map (·.size) = some sz) (h0 : 0 ≤ j) (h1 : j ≤ n) (w : World) : (execOp ρ o).run P w = .ok (.value (.slice (some ⟨b, off + (if c = j.toNat then 0 else j.toNat * sz), none⟩) (n - j.toNat) (c - j.toNat))) w := by
  subst hA
  exact mI ho hx hy hu hs h0 h1 w
theorem Reads.drop1 {α : Type} {g : α → List Value} {sz : Nat} (hg : ∀ x, (g x).length = sz) {w : World} {B b off c : Nat} {A : Option Addr} {l : List α} (h : Reads g w B A l) (hA : A = some ⟨b, off, none⟩) (hc : l.length ≤ c) : Reads g w B (some ⟨b, off + (if c = (1 : Int).toNat then 0 else (1 : Int).toNat * sz), none⟩) (l.drop 1) := by
  subst hA
  cases l with
  | nil => exact fun h0 => by simp at h0
  | cons x r => exact h.tail hg (by rw [List.length_cons] at hc; omega)
end
section
section
variable {M : List Nat} {P : Program} {n : Nat} {ops : Array Oper} {W : World} {Q : Exit → Act → World → Prop} {rest : List Oper} {o : Oper} {L : List Blk} {f : Nat → Value} {Qe : List Blk → (Nat → Value) → Prop}
theorem d7 (x : Blk) {ty : TypeId} {p : Operand} {off : Nat} (v : Value) (hw : xS ops n f o = true) (ho : o.op = .load ty p) (hL : x ∈ L) (hp : ev n f p = .pointer (some ⟨x.b, off, none⟩)) (hv : g8 P ty x.cs off = some v)
    (h : Seg M P n ops W Q rest L (upd f o.dst v)) : Seg M P n ops W Q (o :: rest) L f :=
  s_read v hw (fun _ hO => gL ho hp (gP hv (hO.held x hL))) h
end
end
section
end
section
theorem Own.sublist {M : List Nat} {W w : World} {L L' : List Blk} (h : Own M W w L) (hs : List.Sublist L' L) : Own M W w L' := h.take (fun x hx => hs.subset hx) (h.apart.sublist (hs.map _))
end
section
def bumpN (v : Ver) (k : Nat) : Ver := if k = 0 then Ver.rel (v.maj + 1) 0 0 else if k = 1 then Ver.rel v.maj (v.min + 1) 0 else Ver.rel v.maj v.min (v.pat + 1)
def yB (v : Ver) (part : Int) : Bool := v.may && decide (0 ≤ part ∧ part < 3) && !(kA v.maj v.min v.pat part.toNat == 9999)
def yI (v : Ver) (part : Int) : Ver := if yB v part then bumpN v part.toNat else Ver.zero
def BEnd (v : Ver) (part : Int) (w : World) (e : Ending) (w' : World) : Prop := e = .returned (.tuple #[y8 (yI v part), .bool (yB v part)]) ∧ Below w.heap.size w w'
theorem empty_mk2 (b : List UInt8) : (mkS b).toList.isEmpty = b.isEmpty := by rw [Lib.toList_data, mk_data]
theorem j9 {v u : Ver} {part : Int} {b : Bool} {w wr : World} {tmps : Array Value} {old : Array Value} (h2 : tmps.getD 4 undef = .pointer (some ⟨w.heap.size + 1, 0, none⟩)) (h3 : tmps.getD 5 undef = .bool b)
    (hg : wr.heap[w.heap.size + 1]? = some (.cells old 44)) (hbel : Below w.heap.size w wr) (hb : yB v part = b) (hv : yI v part = u) :
    bodyPost Tryz.prog Tryz.f203 (BEnd v part w) .ret ⟨tmps, []⟩ (wr.setRow (w.heap.size + 1) (ZP u)) := by
  have hrow := setRow_heap wr (w.heap.size + 1) _ (ZP u) _ _ hg
  have hr := run_loadVar_row (P := Tryz.prog) _ (w.heap.size + 1) 44 44 _ _ _ hrow Tryz.underlying44 rfl (by kernel_rfl)
  have h2' : tmps[4]?.getD undef = .pointer (some ⟨w.heap.size + 1, 0, none⟩) := by simpa using h2
  have h3' : tmps[5]?.getD undef = .bool b := by simpa using h3
  refine bodyPost_ret (v := .tuple #[y8 u, .bool b]) (by simp [results, Tryz.results203, asAddr, h2', h3', hr, y8]) rfl ⟨by rw [hv, hb], gB hbel (by omega) _⟩
theorem zeroInt (w : World) : (zeroValue 3).run Tryz.prog w = .ok (.int .i64 0) w := by kernel_rfl
theorem dR {w : World} {N k : Nat} {a b c : Value} (x : Value) (hg : w.heap[N]? = some (.cells #[a, b, c] 88)) : w.setCell ⟨N, k, none⟩ x = w.setRow N ((#[a, b, c] : Array Value).setIfInBounds k x) := setCell_eq_setRow _ _ _ _ _ _ _ hg
theorem bJ (w : World) (g : Nat) (a b : Array Value) : (w.setRow g a).setRow g b = w.setRow g b := setRow_setRow _ _ _ _
theorem clear_two {w : World} {N : Nat} {a b c : Int} {old : Array Value} (hg : w.heap[N]? = some (.cells old 88)) (_ho : old.size = 3) :
    (Builtin.clear_ #[40] 0 #[.slice (some ⟨N, 1, none⟩) 2 2]).run Tryz.prog (w.setRow N #[.int .i64 a, .int .i64 b, .int .i64 c]) = .ok (.tuple #[]) (w.setRow N #[.int .i64 a, .int .i64 0, .int .i64 0]) := by
  have h1 := setRow_heap w N old #[.int .i64 a, .int .i64 b, .int .i64 c] _ _ hg
  obtain ⟨n1, m1⟩ := xC (j := 1) h1 (by simp)
  obtain ⟨n2, m2⟩ := xC (j := 2) h1 (by simp)
  have := Lib.run_clear_slice (P := Tryz.prog) (w.setRow N #[.int .i64 a, .int .i64 b, .int .i64 c]) 40 3 0 (.int .i64 0) Tryz.underlying40 zeroInt rfl rfl N 1 2 2 (by omega)
    (fun j hj => by match j, hj with | 0, _ => rw [n1]; rfl | 1, _ => rw [n2]; rfl) (fun j hj => by match j, hj with | 0, _ => exact m1 | 1, _ => exact m2)
  rw [this]
  congr 1
  show ((w.setRow N #[.int .i64 a, .int .i64 b, .int .i64 c]).setCell ⟨N, 1, none⟩ (.int .i64 0)).setCell ⟨N, 2, none⟩ (.int .i64 0) = _
  rw [dR _ h1, bJ]
  have h2 := setRow_heap w N old ((#[.int .i64 a, .int .i64 b, .int .i64 c] : Array Value).setIfInBounds 1 (.int .i64 0)) _ _ hg
  rw [dR (a := .int .i64 a) (b := .int .i64 0) (c := .int .i64 c) _ h2, bJ]
  rfl
theorem clear_one {w : World} {N : Nat} {a b c : Int} {old : Array Value} (hg : w.heap[N]? = some (.cells old 88)) (_ho : old.size = 3) :
    (Builtin.clear_ #[40] 0 #[.slice (some ⟨N, 2, none⟩) 1 1]).run Tryz.prog (w.setRow N #[.int .i64 a, .int .i64 b, .int .i64 c]) = .ok (.tuple #[]) (w.setRow N #[.int .i64 a, .int .i64 b, .int .i64 0]) := by
  have h1 := setRow_heap w N old #[.int .i64 a, .int .i64 b, .int .i64 c] _ _ hg
  obtain ⟨n2, m2⟩ := xC (j := 2) h1 (by simp)
  have := Lib.run_clear_slice (P := Tryz.prog) (w.setRow N #[.int .i64 a, .int .i64 b, .int .i64 c]) 40 3 0 (.int .i64 0) Tryz.underlying40 zeroInt rfl rfl N 2 1 1 (by omega)
    (fun j hj => by match j, hj with | 0, _ => rw [n2]; rfl) (fun j hj => by match j, hj with | 0, _ => exact m2)
  rw [this]
  congr 1
  show (w.setRow N #[.int .i64 a, .int .i64 b, .int .i64 c]).setCell ⟨N, 2, none⟩ (.int .i64 0) = _
  rw [dR _ h1, bJ]
  rfl
theorem clear_none {w : World} (x : Option Addr) (c : Nat) : (Builtin.clear_ #[40] 0 #[.slice x 0 c]).run Tryz.prog w = .ok (.tuple #[]) w := by
  cases x <;> simp [Builtin.clear_, run_underlying Tryz.underlying40]
theorem bump_go (v : Ver) (part : Int) (w : World) (hp : v.pre.length ≤ 1000000) (hq : v.build.length ≤ 1000000) :
    Calls Tryz.prog 203 #[y8 v, .int .i64 part] w (BEnd v part w) := by
  have cM := fun w' => uG v w' (by omega) (by omega)
  have cN := fun w' => mO v w'
  have hN : v.may = true → (0 ≤ v.maj ∧ v.maj ≤ 9999) ∧ (0 ≤ v.min ∧ v.min ≤ 9999) ∧ (0 ≤ v.pat ∧ v.pat ≤ 9999) := fun h => by
    obtain ⟨h1, h2, h3⟩ := vV h
    unfold yN at h1 h2 h3; simp at h1 h2 h3
    exact ⟨h1, h2, h3⟩
  obtain ⟨u, hu⟩ : ∃ u, u = v := ⟨_, rfl⟩
  have HU := Lib.hid hu
  rw [← hu] at hN
  have hgo : BEnd v part w = BEnd u part w := by rw [hu]
  rw [hgo]
  obtain ⟨m, hm⟩ : ∃ m, u.may = m := ⟨_, rfl⟩
  rw [← hu, hm] at cM
  rw [← hu] at cN ⊢
  clear hgo hu
  obtain ⟨a, b, c, p, q⟩ := u
  unfold y8 at cM cN ⊢
  dsimp only at cM cN hN ⊢
  go_enter Tryz.func203, Tryz.ntmps203
  go_wp2_with fail
  refine (cN _).mono ?_
  rintro e w1 ⟨rfl, hb1⟩
  have hz1 := hb1.size
  simp only [zZ] at hz1
  have hgB := Lib.hid ((hb1.block w.heap.size (by simp only [zZ]; omega)).trans ((xL _ _ (by simp only [zZ]; omega)).trans (kT w _)))
  have hgR := Lib.hid ((hb1.block (w.heap.size + 1) (by simp only [zZ]; omega)).trans (uJ _ _ _ (by simp only [zZ])))
  have hbw : Below w.heap.size w w1 := (((Below.refl _ _).alloc (Nat.le_refl _) _).alloc (by simp only [zZ]; omega) _).trans (hb1.mono (by simp only [zZ]; omega))
  have hlB : w.heap.size < w1.heap.size := by omega
  go_wp2_with (first | (refine wpList_load_row rfl 44 _ rfl w.heap.size rfl _ _ _ _ ((xL _ _ hlB).trans hgB.out) Tryz.underlying44 rfl (by kernel_rfl) ?_) | fail)
  refine (cM _).mono ?_
  rintro e w2 ⟨rfl, hb2⟩
  have hz2 := hb2.size
  rw [zZ] at hz2
  have hgR2 := Lib.hid ((hb2.block (w.heap.size + 1) (by rw [zZ]; omega)).trans ((xL _ _ (by omega)).trans hgR.out))
  have hgN := Lib.hid ((hb2.block w1.heap.size (by rw [zZ]; omega)).trans (kT w1 _))
  have hbw2 : Below w.heap.size w w2 := (hbw.alloc (by omega) _).trans (hb2.mono (by rw [zZ]; omega))
  clear hbw hb1 hb2 hgB hgR cM cN
  cases m with
  | false =>
    have HB : Hid (yB ⟨a, b, c, p, q⟩ part = false) := by show _ = _; unfold yB; rw [hm]; rfl
    clear hm hN
    go_wp2_with (refine wpList_store_row rfl 44 _ _ rfl (w.heap.size + 1) Z1 rfl rfl _ _ hgR2.out (by kernel_rfl) rfl (kE _ _ _ _ _) ?_)
    exact j9 (u := Ver.zero) rfl rfl hgR2.out hbw2 HB.out (by unfold yI; rw [HB.out]; rfl)
  | true =>
    obtain ⟨⟨a0, a9⟩, ⟨b0, b9⟩, ⟨c0, c9⟩⟩ := hN hm
    have HM := Lib.hid hm
    clear hN hm
    by_cases p0 : part < 0
    · have HB : Hid (yB ⟨a, b, c, p, q⟩ part = false) := by show _ = _; unfold yB; rw [decide_eq_false (by omega)]; simp
      go_wp2_with (refine wpList_store_row rfl 44 _ _ rfl (w.heap.size + 1) Z1 rfl rfl _ _ hgR2.out (by kernel_rfl) rfl (kE _ _ _ _ _) ?_)
      exact j9 (u := Ver.zero) rfl rfl hgR2.out hbw2 HB.out (by unfold yI; rw [HB.out]; rfl)
    · by_cases p3 : 3 ≤ part
      · have HB : Hid (yB ⟨a, b, c, p, q⟩ part = false) := by show _ = _; unfold yB; rw [decide_eq_false (by omega)]; simp
        go_wp2_with (refine wpList_store_row rfl 44 _ _ rfl (w.heap.size + 1) Z1 rfl rfl _ _ hgR2.out (by kernel_rfl) rfl (kE _ _ _ _ _) ?_)
        exact j9 (u := Ver.zero) rfl rfl hgR2.out hbw2 HB.out (by unfold yI; rw [HB.out]; rfl)
      · obtain ⟨n0, m0⟩ := xC (j := 0) hgN.out (by simp)
        obtain ⟨n1, m1⟩ := xC (j := 1) hgN.out (by simp)
        obtain ⟨n2, m2⟩ := xC (j := 2) hgN.out (by simp)
        simp only [List.getElem_toArray, List.getElem_cons_succ, List.getElem_cons_zero] at n0 n1 n2
        have hpart : part = 0 ∨ part = 1 ∨ part = 2 := by omega
        clear p0 p3
        rcases hpart with rfl | rfl | rfl
        · by_cases h9 : a = 9999
          · have h9b : (a == 9999) = true := by simpa using h9
            have HB : Hid (yB ⟨a, b, c, p, q⟩ 0 = false) := by show _ = _; unfold yB; rw [show kA a b c (0 : Int).toNat = a from rfl, h9b]; simp
            clear h9
            go_wp2_with (refine wpList_store_row rfl 44 _ _ rfl (w.heap.size + 1) Z1 rfl rfl _ _ hgR2.out (by kernel_rfl) rfl (kE _ _ _ _ _) ?_)
            exact j9 (u := Ver.zero) rfl rfl hgR2.out hbw2 HB.out (by unfold yI; rw [HB.out]; rfl)
          · have h9b : (a == 9999) = false := by simpa using h9
            have HB : Hid (yB ⟨a, b, c, p, q⟩ 0 = true) := by show _ = _; unfold yB; rw [HM.out, show kA a b c (0 : Int).toNat = a from rfl, h9b]; rfl
            have hW : (w2.setCell ⟨w1.heap.size, 0, none⟩ (.int .i64 (a + 1))) = w2.setRow w1.heap.size #[.int .i64 (a + 1), .int .i64 (b), .int .i64 (c)] := dR _ hgN.out
            have hcl : (Builtin.clear_ #[40] 0 #[.slice (some ⟨w1.heap.size, 1, none⟩) 2 2]).run Tryz.prog (w2.setRow w1.heap.size #[.int .i64 (a + 1), .int .i64 (b), .int .i64 (c)]) = .ok (.tuple #[]) (w2.setRow w1.heap.size #[.int .i64 (a + 1), .int .i64 (0), .int .i64 (0)]) := clear_two hgN.out rfl
            have hN2 := Lib.hid (setRow_heap w2 w1.heap.size _ #[.int .i64 (a + 1), .int .i64 (0), .int .i64 (0)] _ _ hgN.out)
            have hR2 := Lib.hid ((j3 w2 w1.heap.size (w.heap.size + 1) #[.int .i64 (a + 1), .int .i64 (0), .int .i64 (0)] (by omega)).trans hgR2.out)
            have hbR : Below w.heap.size w (w2.setRow w1.heap.size #[.int .i64 (a + 1), .int .i64 (0), .int .i64 (0)]) := gB hbw2 (by omega) _
            have hsR : (w2.setRow w1.heap.size #[.int .i64 (a + 1), .int .i64 (0), .int .i64 (0)]).heap.size = w2.heap.size := by unfold World.setRow; simp
            have HSR := Lib.hid hsR
            clear hsR h9
            go_wp2_with (first
              | (refine wpList_load_row rfl 88 _ rfl w1.heap.size rfl _ _ _ _ hN2.out Tryz.underlying88 rfl (by kernel_rfl) ?_)
              | (go_at_call 206; refine (d8 _ _ _ _).mono ?_; unfold y8 Ver.rel; rintro e w3 ⟨rfl, hb3⟩; have hR3 := Lib.hid ((hb3.block (w.heap.size + 1) (by rw [HSR.out]; omega)).trans hR2.out); have hbw3 := hbR.trans (hb3.mono hbR.size))
              | (refine wpList_store_row rfl 44 _ _ rfl (w.heap.size + 1) #[.int .i64 (a + 1), .int .i64 (0), .int .i64 (0), .string (mkS []), .string (mkS [])] rfl rfl _ _ hR3.out (by kernel_rfl) rfl (kE _ _ _ _ _) ?_))
            exact j9 (u := Ver.rel (a + 1) (0) (0)) rfl rfl hR3.out hbw3 HB.out (by unfold yI; rw [HB.out]; rfl)
        · by_cases h9 : b = 9999
          · have h9b : (b == 9999) = true := by simpa using h9
            have HB : Hid (yB ⟨a, b, c, p, q⟩ 1 = false) := by show _ = _; unfold yB; rw [show kA a b c (1 : Int).toNat = b from rfl, h9b]; simp
            clear h9
            go_wp2_with (refine wpList_store_row rfl 44 _ _ rfl (w.heap.size + 1) Z1 rfl rfl _ _ hgR2.out (by kernel_rfl) rfl (kE _ _ _ _ _) ?_)
            exact j9 (u := Ver.zero) rfl rfl hgR2.out hbw2 HB.out (by unfold yI; rw [HB.out]; rfl)
          · have h9b : (b == 9999) = false := by simpa using h9
            have HB : Hid (yB ⟨a, b, c, p, q⟩ 1 = true) := by show _ = _; unfold yB; rw [HM.out, show kA a b c (1 : Int).toNat = b from rfl, h9b]; rfl
            have hW : (w2.setCell ⟨w1.heap.size, 1, none⟩ (.int .i64 (b + 1))) = w2.setRow w1.heap.size #[.int .i64 (a), .int .i64 (b + 1), .int .i64 (c)] := dR _ hgN.out
            have hcl : (Builtin.clear_ #[40] 0 #[.slice (some ⟨w1.heap.size, 2, none⟩) 1 1]).run Tryz.prog (w2.setRow w1.heap.size #[.int .i64 (a), .int .i64 (b + 1), .int .i64 (c)]) = .ok (.tuple #[]) (w2.setRow w1.heap.size #[.int .i64 (a), .int .i64 (b + 1), .int .i64 (0)]) := clear_one hgN.out rfl
            have hN2 := Lib.hid (setRow_heap w2 w1.heap.size _ #[.int .i64 (a), .int .i64 (b + 1), .int .i64 (0)] _ _ hgN.out)
            have hR2 := Lib.hid ((j3 w2 w1.heap.size (w.heap.size + 1) #[.int .i64 (a), .int .i64 (b + 1), .int .i64 (0)] (by omega)).trans hgR2.out)
            have hbR : Below w.heap.size w (w2.setRow w1.heap.size #[.int .i64 (a), .int .i64 (b + 1), .int .i64 (0)]) := gB hbw2 (by omega) _
            have hsR : (w2.setRow w1.heap.size #[.int .i64 (a), .int .i64 (b + 1), .int .i64 (0)]).heap.size = w2.heap.size := by unfold World.setRow; simp
            have HSR := Lib.hid hsR
            clear hsR h9
            go_wp2_with (first
              | (refine wpList_load_row rfl 88 _ rfl w1.heap.size rfl _ _ _ _ hN2.out Tryz.underlying88 rfl (by kernel_rfl) ?_)
              | (go_at_call 206; refine (d8 _ _ _ _).mono ?_; unfold y8 Ver.rel; rintro e w3 ⟨rfl, hb3⟩; have hR3 := Lib.hid ((hb3.block (w.heap.size + 1) (by rw [HSR.out]; omega)).trans hR2.out); have hbw3 := hbR.trans (hb3.mono hbR.size))
              | (refine wpList_store_row rfl 44 _ _ rfl (w.heap.size + 1) #[.int .i64 (a), .int .i64 (b + 1), .int .i64 (0), .string (mkS []), .string (mkS [])] rfl rfl _ _ hR3.out (by kernel_rfl) rfl (kE _ _ _ _ _) ?_))
            exact j9 (u := Ver.rel (a) (b + 1) (0)) rfl rfl hR3.out hbw3 HB.out (by unfold yI; rw [HB.out]; rfl)
        · by_cases h9 : c = 9999
          · have h9b : (c == 9999) = true := by simpa using h9
            have HB : Hid (yB ⟨a, b, c, p, q⟩ 2 = false) := by show _ = _; unfold yB; rw [show kA a b c (2 : Int).toNat = c from rfl, h9b]; simp
            clear h9
            go_wp2_with (refine wpList_store_row rfl 44 _ _ rfl (w.heap.size + 1) Z1 rfl rfl _ _ hgR2.out (by kernel_rfl) rfl (kE _ _ _ _ _) ?_)
            exact j9 (u := Ver.zero) rfl rfl hgR2.out hbw2 HB.out (by unfold yI; rw [HB.out]; rfl)
          · have h9b : (c == 9999) = false := by simpa using h9
            have HB : Hid (yB ⟨a, b, c, p, q⟩ 2 = true) := by show _ = _; unfold yB; rw [HM.out, show kA a b c (2 : Int).toNat = c from rfl, h9b]; rfl
            have hW : (w2.setCell ⟨w1.heap.size, 2, none⟩ (.int .i64 (c + 1))) = w2.setRow w1.heap.size #[.int .i64 (a), .int .i64 (b), .int .i64 (c + 1)] := dR _ hgN.out
            have hcl : (Builtin.clear_ #[40] 0 #[.slice (some ⟨w1.heap.size, 0, none⟩) 0 0]).run Tryz.prog (w2.setRow w1.heap.size #[.int .i64 (a), .int .i64 (b), .int .i64 (c + 1)]) = .ok (.tuple #[]) (w2.setRow w1.heap.size #[.int .i64 (a), .int .i64 (b), .int .i64 (c + 1)]) := clear_none _ _
            have hN2 := Lib.hid (setRow_heap w2 w1.heap.size _ #[.int .i64 (a), .int .i64 (b), .int .i64 (c + 1)] _ _ hgN.out)
            have hR2 := Lib.hid ((j3 w2 w1.heap.size (w.heap.size + 1) #[.int .i64 (a), .int .i64 (b), .int .i64 (c + 1)] (by omega)).trans hgR2.out)
            have hbR : Below w.heap.size w (w2.setRow w1.heap.size #[.int .i64 (a), .int .i64 (b), .int .i64 (c + 1)]) := gB hbw2 (by omega) _
            have hsR : (w2.setRow w1.heap.size #[.int .i64 (a), .int .i64 (b), .int .i64 (c + 1)]).heap.size = w2.heap.size := by unfold World.setRow; simp
            have HSR := Lib.hid hsR
            clear hsR h9
            go_wp2_with (first
              | (refine wpList_load_row rfl 88 _ rfl w1.heap.size rfl _ _ _ _ hN2.out Tryz.underlying88 rfl (by kernel_rfl) ?_)
              | (go_at_call 206; refine (d8 _ _ _ _).mono ?_; unfold y8 Ver.rel; rintro e w3 ⟨rfl, hb3⟩; have hR3 := Lib.hid ((hb3.block (w.heap.size + 1) (by rw [HSR.out]; omega)).trans hR2.out); have hbw3 := hbR.trans (hb3.mono hbR.size))
              | (refine wpList_store_row rfl 44 _ _ rfl (w.heap.size + 1) #[.int .i64 (a), .int .i64 (b), .int .i64 (c + 1), .string (mkS []), .string (mkS [])] rfl rfl _ _ hR3.out (by kernel_rfl) rfl (kE _ _ _ _ _) ?_))
            exact j9 (u := Ver.rel (a) (b) (c + 1)) rfl rfl hR3.out hbw3 HB.out (by unfold yI; rw [HB.out]; rfl)
theorem bump_any (v : Ver) (part : Int) (w : World) (hp : v.pre.length ≤ 1000000) (hq : v.build.length ≤ 1000000) :
    Calls Tryz.prog 203 #[y8 v, .int .i64 part] w fun e w' => e = .returned (.tuple #[y8 (yI v part), .bool (yB v part)]) ∧ Below w.heap.size w w' := bump_go v part w hp hq
def kC (v : Ver) : Bool := v.may && (!v.pre.isEmpty || yB v 2 || yB v 1 || yB v 0)
def yO (v : Ver) : Ver :=
  if v.may then (if v.pre.isEmpty then (if yB v 2 then yI v 2 else if yB v 1 then yI v 1 else if yB v 0 then yI v 0 else Ver.zero) else Ver.rel v.maj v.min v.pat) else Ver.zero
def NEnd (v : Ver) (w : World) (e : Ending) (w' : World) : Prop := e = .returned (.tuple #[y8 (yO v), .bool (kC v)]) ∧ Below w.heap.size w w'
theorem f0 {v u : Ver} {b : Bool} {w wr : World} {tmps : Array Value} {old : Array Value} (h2 : tmps.getD 2 undef = .pointer (some ⟨w.heap.size + 1, 0, none⟩)) (h3 : tmps.getD 3 undef = .bool b)
    (hg : wr.heap[w.heap.size + 1]? = some (.cells old 44)) (hbel : Below w.heap.size w wr) (hb : kC v = b) (hv : yO v = u) :
    bodyPost Tryz.prog Tryz.f181 (NEnd v w) .ret ⟨tmps, []⟩ (wr.setRow (w.heap.size + 1) (ZP u)) := by
  have hrow := setRow_heap wr (w.heap.size + 1) _ (ZP u) _ _ hg
  have hr := run_loadVar_row (P := Tryz.prog) _ (w.heap.size + 1) 44 44 _ _ _ hrow Tryz.underlying44 rfl (by kernel_rfl)
  have h2' : tmps[2]?.getD undef = .pointer (some ⟨w.heap.size + 1, 0, none⟩) := by simpa using h2
  have h3' : tmps[3]?.getD undef = .bool b := by simpa using h3
  refine bodyPost_ret (v := .tuple #[y8 u, .bool b]) (by simp [results, Tryz.results181, asAddr, h2', h3', hr, y8]) rfl ⟨by rw [hv, hb], gB hbel (by omega) _⟩
def qV (v : Ver) : Nat → Ver × Bool
  | 0 => (Ver.zero, false)
  | k + 1 => if yB v k then (yI v k, true) else qV v k
theorem bG (v : Ver) (h : (!v.pre.isEmpty && v.may) = false) : yO v = (qV v 3).1 ∧ kC v = (qV v 3).2 := by
  unfold yO kC
  show _ = (if yB v 2 then (yI v 2, true) else if yB v 1 then (yI v 1, true) else if yB v 0 then (yI v 0, true) else (Ver.zero, false)).1 ∧ _ = (if yB v 2 then (yI v 2, true) else if yB v 1 then (yI v 1, true) else if yB v 0 then (yI v 0, true) else (Ver.zero, false)).2
  cases hm : v.may with
  | true =>
    rw [hm, Bool.and_true] at h
    rw [h]
    have hp : v.pre.isEmpty = true := by simpa using h
    rw [hp]
    cases yB v 2 <;> cases yB v 1 <;> cases yB v 0 <;> simp
  | false =>
    have hk : ∀ k, yB v k = false := fun k => by unfold yB; rw [hm]; rfl
    rw [hk, hk, hk]; simp
theorem next_go (v : Ver) (w : World) (hp : v.pre.length ≤ 1000000) (hq : v.build.length ≤ 1000000) :
    Calls Tryz.prog 181 #[y8 v] w (NEnd v w) := by
  have cM := fun w' => uG v w' (by omega) (by omega)
  have cN := fun w' => mO v w'
  have ep := empty_mk2 v.pre
  obtain ⟨a, b, c, p, q⟩ := v
  unfold y8 at cM cN ⊢
  dsimp only at cM cN ep hp hq ⊢
  cases he : p.isEmpty with
  | true =>
    have HG : Hid ((!p.isEmpty && (Ver.mk a b c p q).may) = false) := by show _ = _; rw [he]; rfl
    rw [he] at ep
    clear he cM cN
    go_enter Tryz.func181, Tryz.ntmps181
    go_wp2
    go_loopw [4] (fun x wr => ∃ k : Nat, k ≤ 3 ∧ x = .int .i64 ((k : Int) - 1) ∧ wr.heap[w.heap.size]? = some (.cells #[.int .i64 a, .int .i64 b, .int .i64 c, .string (mkS p), .string (mkS q)] 44) ∧ wr.heap[w.heap.size + 1]? = some (.cells Z1 44) ∧ Below w.heap.size w wr ∧ Hid (qV ⟨a, b, c, p, q⟩ k = qV ⟨a, b, c, p, q⟩ 3)) (fun x _ => ((intOf x) + 1).toNat)
    case atStart => exact ⟨3, by omega, rfl, (xL _ _ (by rw [zZ]; omega)).trans (kT w _), uJ _ _ _ (by rw [zZ]), ((Below.refl _ _).alloc (Nat.le_refl _) _).alloc (by rw [zZ]; omega) _, rfl⟩
    case round =>
      obtain ⟨k, hk, rfl, hB, hR, hbel, HR⟩ := hrel
      have hlR := (Array.getElem?_eq_some_iff.1 hR).1
      have HB := Lib.hid hB
      have HR0 := Lib.hid hR
      clear hB hR
      cases k with
      | zero =>
        have HF : Hid (qV ⟨a, b, c, p, q⟩ 3 = (Ver.zero, false)) := HR.out.symm
        go_wp2_with (refine wpList_store_row rfl 44 _ _ rfl (w.heap.size + 1) Z1 rfl rfl _ _ HR0.out (by kernel_rfl) rfl (kE _ _ _ _ _) ?_)
        have hf := bG ⟨a, b, c, p, q⟩ HG.out
        rw [HF.out] at hf
        exact f0 (u := Ver.zero) rfl rfl HR0.out hbel hf.2 hf.1
      | succ k =>
        have hk0 : (0 : Int) ≤ k := by omega
        have hke : (((k + 1 : Nat) : Int) - 1) = (k : Int) := by omega
        rw [hke]
        have cB := fun w' => bump_any ⟨a, b, c, p, q⟩ (k : Int) w' hp hq
        unfold y8 at cB
        dsimp only at cB
        cases hb : yB ⟨a, b, c, p, q⟩ (k : Int) with
        | true =>
          rw [hb] at cB
          obtain ⟨u, hu⟩ : ∃ u, yI ⟨a, b, c, p, q⟩ (k : Int) = u := ⟨_, rfl⟩
          rw [hu] at cB
          have hfq : qV ⟨a, b, c, p, q⟩ 3 = (u, true) := by rw [← HR.out, qV, hb, hu]; rfl
          have HF := Lib.hid hfq
          clear hfq hb hu hke
          go_wp2_with (first
            | (refine wpList_load_row rfl 44 _ rfl w.heap.size rfl _ _ _ _ HB.out Tryz.underlying44 rfl (by kernel_rfl) ?_)
            | (go_at_call 203; refine (cB _).mono ?_; rintro e w3 ⟨rfl, hb3⟩; have hR3 := Lib.hid ((hb3.block (w.heap.size + 1) hlR).trans HR0.out); have hbw3 := hbel.trans (hb3.mono hbel.size); have hl3 := Nat.lt_of_lt_of_le hlR hb3.size)
            | (refine wpList_store_row rfl 44 _ _ rfl (w.heap.size + 1) (ZP u) rfl rfl _ _ ((xL _ _ hl3).trans hR3.out) (by kernel_rfl) rfl (kE _ _ _ _ _) ?_))
          have hf := bG ⟨a, b, c, p, q⟩ HG.out
          rw [HF.out] at hf
          exact f0 (u := u) rfl rfl ((xL _ _ hl3).trans hR3.out) (hbw3.alloc (by omega) _) hf.2 hf.1
        | false =>
          rw [hb] at cB
          obtain ⟨u, hu⟩ : ∃ u, yI ⟨a, b, c, p, q⟩ (k : Int) = u := ⟨_, rfl⟩
          rw [hu] at cB
          have hfq : qV ⟨a, b, c, p, q⟩ k = qV ⟨a, b, c, p, q⟩ 3 := by rw [← HR.out, qV, hb]; rfl
          have HF := Lib.hid hfq
          clear hfq hb hu hke
          go_wp2_with (first
            | (refine wpList_load_row rfl 44 _ rfl w.heap.size rfl _ _ _ _ HB.out Tryz.underlying44 rfl (by kernel_rfl) ?_)
            | (go_at_call 203; refine (cB _).mono ?_; rintro e w3 ⟨rfl, hb3⟩; have hl3 := Nat.lt_of_lt_of_le hlR hb3.size))
          have hR3 := (hb3.block (w.heap.size + 1) hlR).trans HR0.out
          have hB3 := (hb3.block w.heap.size (by omega)).trans HB.out
          have hbw3 := hbel.trans (hb3.mono hbel.size)
          go_roundw
          case rel => exact ⟨k, by omega, rfl, (xL _ _ (by omega)).trans hB3, (xL _ _ hl3).trans hR3, hbw3.alloc (by omega) _, HF.out⟩
          case measure => simp [intOf]; try omega
  | false =>
    rw [he] at ep
    obtain ⟨m, hm⟩ : ∃ m, (Ver.mk a b c p q).may = m := ⟨_, rfl⟩
    rw [hm] at cM
    cases m with
    | false =>
      have HG : Hid ((!p.isEmpty && (Ver.mk a b c p q).may) = false) := by show _ = _; rw [hm, Bool.and_false]
      clear he hm cN
      go_enter Tryz.func181, Tryz.ntmps181
      go_wp2_with fail
      refine (cM _).mono ?_
      rintro e w1 ⟨rfl, hb1⟩
      have hgB := (hb1.block w.heap.size (by simp only [zZ]; omega)).trans ((xL _ _ (by simp only [zZ]; omega)).trans (kT w _))
      have hgR := (hb1.block (w.heap.size + 1) (by simp only [zZ]; omega)).trans (uJ _ _ _ (by simp only [zZ]))
      have hbw : Below w.heap.size w w1 := (((Below.refl _ _).alloc (Nat.le_refl _) _).alloc (by simp only [zZ]; omega) _).trans (hb1.mono (by simp only [zZ]; omega))
      have HGB := Lib.hid hgB
      have HGR := Lib.hid hgR
      clear hgB hgR
      go_wp2
      go_loopw [4] (fun x wr => ∃ k : Nat, k ≤ 3 ∧ x = .int .i64 ((k : Int) - 1) ∧ wr.heap[w.heap.size]? = some (.cells #[.int .i64 a, .int .i64 b, .int .i64 c, .string (mkS p), .string (mkS q)] 44) ∧ wr.heap[w.heap.size + 1]? = some (.cells Z1 44) ∧ Below w.heap.size w wr ∧ Hid (qV ⟨a, b, c, p, q⟩ k = qV ⟨a, b, c, p, q⟩ 3)) (fun x _ => ((intOf x) + 1).toNat)
      case atStart => exact ⟨3, by omega, rfl, HGB.out, HGR.out, hbw, rfl⟩
      case round =>
        obtain ⟨k, hk, rfl, hB, hR, hbel, HR⟩ := hrel
        have hlR := (Array.getElem?_eq_some_iff.1 hR).1
        have HB := Lib.hid hB
        have HR0 := Lib.hid hR
        clear hB hR
        cases k with
        | zero =>
          have HF : Hid (qV ⟨a, b, c, p, q⟩ 3 = (Ver.zero, false)) := HR.out.symm
          go_wp2_with (refine wpList_store_row rfl 44 _ _ rfl (w.heap.size + 1) Z1 rfl rfl _ _ HR0.out (by kernel_rfl) rfl (kE _ _ _ _ _) ?_)
          have hf := bG ⟨a, b, c, p, q⟩ HG.out
          rw [HF.out] at hf
          exact f0 (u := Ver.zero) rfl rfl HR0.out hbel hf.2 hf.1
        | succ k =>
          have hk0 : (0 : Int) ≤ k := by omega
          have hke : (((k + 1 : Nat) : Int) - 1) = (k : Int) := by omega
          rw [hke]
          have cB := fun w' => bump_any ⟨a, b, c, p, q⟩ (k : Int) w' hp hq
          unfold y8 at cB
          dsimp only at cB
          cases hb : yB ⟨a, b, c, p, q⟩ (k : Int) with
          | true =>
            rw [hb] at cB
            obtain ⟨u, hu⟩ : ∃ u, yI ⟨a, b, c, p, q⟩ (k : Int) = u := ⟨_, rfl⟩
            rw [hu] at cB
            have hfq : qV ⟨a, b, c, p, q⟩ 3 = (u, true) := by rw [← HR.out, qV, hb, hu]; rfl
            have HF := Lib.hid hfq
            clear hfq hb hu hke
            go_wp2_with (first
              | (refine wpList_load_row rfl 44 _ rfl w.heap.size rfl _ _ _ _ HB.out Tryz.underlying44 rfl (by kernel_rfl) ?_)
              | (go_at_call 203; refine (cB _).mono ?_; rintro e w3 ⟨rfl, hb3⟩; have hR3 := Lib.hid ((hb3.block (w.heap.size + 1) hlR).trans HR0.out); have hbw3 := hbel.trans (hb3.mono hbel.size); have hl3 := Nat.lt_of_lt_of_le hlR hb3.size)
              | (refine wpList_store_row rfl 44 _ _ rfl (w.heap.size + 1) (ZP u) rfl rfl _ _ ((xL _ _ hl3).trans hR3.out) (by kernel_rfl) rfl (kE _ _ _ _ _) ?_))
            have hf := bG ⟨a, b, c, p, q⟩ HG.out
            rw [HF.out] at hf
            exact f0 (u := u) rfl rfl ((xL _ _ hl3).trans hR3.out) (hbw3.alloc (by omega) _) hf.2 hf.1
          | false =>
            rw [hb] at cB
            obtain ⟨u, hu⟩ : ∃ u, yI ⟨a, b, c, p, q⟩ (k : Int) = u := ⟨_, rfl⟩
            rw [hu] at cB
            have hfq : qV ⟨a, b, c, p, q⟩ k = qV ⟨a, b, c, p, q⟩ 3 := by rw [← HR.out, qV, hb]; rfl
            have HF := Lib.hid hfq
            clear hfq hb hu hke
            go_wp2_with (first
              | (refine wpList_load_row rfl 44 _ rfl w.heap.size rfl _ _ _ _ HB.out Tryz.underlying44 rfl (by kernel_rfl) ?_)
              | (go_at_call 203; refine (cB _).mono ?_; rintro e w3 ⟨rfl, hb3⟩; have hl3 := Nat.lt_of_lt_of_le hlR hb3.size))
            have hR3 := (hb3.block (w.heap.size + 1) hlR).trans HR0.out
            have hB3 := (hb3.block w.heap.size (by omega)).trans HB.out
            have hbw3 := hbel.trans (hb3.mono hbel.size)
            go_roundw
            case rel => exact ⟨k, by omega, rfl, (xL _ _ (by omega)).trans hB3, (xL _ _ hl3).trans hR3, hbw3.alloc (by omega) _, HF.out⟩
            case measure => simp [intOf]; try omega
    | true =>
      have HV : Hid (yO ⟨a, b, c, p, q⟩ = Ver.rel a b c) := by show _ = _; unfold yO; rw [if_pos hm, if_neg (by simp [he])]
      have HO : Hid (kC ⟨a, b, c, p, q⟩ = true) := by show _ = _; unfold kC; rw [hm]; simp [he]
      clear he hm
      go_enter Tryz.func181, Tryz.ntmps181
      go_wp2_with fail
      refine (cM _).mono ?_
      rintro e w1 ⟨rfl, hb1⟩
      have hz1 := hb1.size
      simp only [zZ] at hz1
      have hgB := (hb1.block w.heap.size (by simp only [zZ]; omega)).trans ((xL _ _ (by simp only [zZ]; omega)).trans (kT w _))
      have hgR := (hb1.block (w.heap.size + 1) (by simp only [zZ]; omega)).trans (uJ _ _ _ (by simp only [zZ]))
      have hbw : Below w.heap.size w w1 := (((Below.refl _ _).alloc (Nat.le_refl _) _).alloc (by simp only [zZ]; omega) _).trans (hb1.mono (by simp only [zZ]; omega))
      have HGB := Lib.hid hgB
      have HGR := Lib.hid hgR
      clear hgB hgR hb1 cM
      go_wp2_with (first
        | (refine wpList_load_row rfl 44 _ rfl w.heap.size rfl _ _ _ _ HGB.out Tryz.underlying44 rfl (by kernel_rfl) ?_)
        | (go_at_call 165; refine (cN _).mono ?_; rintro e w2 ⟨rfl, hb2⟩; have hR2 := Lib.hid ((hb2.block (w.heap.size + 1) (by omega)).trans HGR.out); have hbw2 := hbw.trans (hb2.mono hbw.size); have hl2 := hb2.size)
        | (go_at_call 206; refine (d8 _ _ _ _).mono ?_; unfold y8 Ver.rel; rintro e w3 ⟨rfl, hb3⟩; have hR3 := Lib.hid ((hb3.block (w.heap.size + 1) (by omega)).trans hR2.out); have hbw3 := hbw2.trans (hb3.mono hbw2.size))
        | (refine wpList_store_row rfl 44 _ _ rfl (w.heap.size + 1) #[.int .i64 a, .int .i64 b, .int .i64 c, .string (mkS []), .string (mkS [])] rfl rfl _ _ hR3.out (by kernel_rfl) rfl (kE _ _ _ _ _) ?_))
      exact f0 (u := Ver.rel a b c) rfl rfl hR3.out hbw3 HO.out HV.out
theorem vnext_any (v : Ver) (w : World) (hp : v.pre.length ≤ 1000000) (hq : v.build.length ≤ 1000000) :
    Calls Tryz.prog 181 #[y8 v] w fun e w' => e = .returned (.tuple #[y8 (yO v), .bool (kC v)]) ∧ Below w.heap.size w w' := next_go v w hp hq
end
section
theorem bump2 {v : Ver} (h : v.may = true) : yB v 2 = true ↔ v.pat ≠ 9999 := by
  unfold yB; rw [h, show kA v.maj v.min v.pat (2 : Int).toNat = v.pat from rfl]; simp
theorem bump1 {v : Ver} (h : v.may = true) : yB v 1 = true ↔ v.min ≠ 9999 := by
  unfold yB; rw [h, show kA v.maj v.min v.pat (1 : Int).toNat = v.min from rfl]; simp
theorem bump0 {v : Ver} (h : v.may = true) : yB v 0 = true ↔ v.maj ≠ 9999 := by
  unfold yB; rw [h, show kA v.maj v.min v.pat (0 : Int).toNat = v.maj from rfl]; simp
theorem rel_in {a b c : Int} (ha : 0 ≤ a ∧ a ≤ 9999) (hb : 0 ≤ b ∧ b ≤ 9999) (hc : 0 ≤ c ∧ c ≤ 9999) : (Ver.rel a b c).may = true := by
  rw [rel_may4, num_in ha, num_in hb, num_in hc]; rfl
theorem next_is {v : Ver} (h : v.may = true) : (kC v = false ∧ v.pre = [] ∧ v.code = 999999999999) ∨
    (kC v = true ∧ ∃ a b c, yO v = Ver.rel a b c ∧ (Ver.rel a b c).may = true ∧ ((v.pre = [] ∧ (Ver.rel a b c).code = v.code + 1) ∨ (v.pre ≠ [] ∧ (Ver.rel a b c).code = v.code))) := by
  obtain ⟨h1, h2, h3⟩ := wC h
  unfold kC yO
  rw [h]
  by_cases hp : v.pre = []
  · have e : v.pre.isEmpty = true := by rw [hp]; rfl
    rw [e]
    by_cases k2 : v.pat = 9999
    · have b2 : yB v 2 = false := Bool.eq_false_iff.2 (fun e => (bump2 h).1 e k2)
      rw [b2]
      by_cases k1 : v.min = 9999
      · have b1 : yB v 1 = false := Bool.eq_false_iff.2 (fun e => (bump1 h).1 e k1)
        rw [b1]
        by_cases k0 : v.maj = 9999
        · have b0 : yB v 0 = false := Bool.eq_false_iff.2 (fun e => (bump0 h).1 e k0)
          rw [b0]
          exact .inl ⟨rfl, hp, by unfold Ver.code; omega⟩
        · have b0 := (bump0 h).2 k0
          have bv : yI v 0 = Ver.rel (v.maj + 1) 0 0 := by unfold yI; rw [b0]; rfl
          rw [b0, bv]
          exact .inr ⟨rfl, v.maj + 1, 0, 0, rfl, rel_in (by omega) (by omega) (by omega), .inl ⟨hp, by unfold Ver.code Ver.rel; dsimp only; omega⟩⟩
      · have b1 := (bump1 h).2 k1
        have bv : yI v 1 = Ver.rel v.maj (v.min + 1) 0 := by unfold yI; rw [b1]; rfl
        rw [b1, bv]
        exact .inr ⟨rfl, v.maj, v.min + 1, 0, rfl, rel_in (by omega) (by omega) (by omega), .inl ⟨hp, by unfold Ver.code Ver.rel; dsimp only; omega⟩⟩
    · have b2 := (bump2 h).2 k2
      have bv : yI v 2 = Ver.rel v.maj v.min (v.pat + 1) := by unfold yI; rw [b2]; rfl
      rw [b2, bv]
      exact .inr ⟨rfl, v.maj, v.min, v.pat + 1, rfl, rel_in (by omega) (by omega) (by omega), .inl ⟨hp, by unfold Ver.code Ver.rel; dsimp only; omega⟩⟩
  · have e : v.pre.isEmpty = false := List.isEmpty_eq_false_iff.2 hp
    rw [e]
    exact .inr ⟨rfl, v.maj, v.min, v.pat, rfl, rel_in h1 h2 h3, .inr ⟨hp, rfl⟩⟩
theorem mT {v : Ver} (h : v.may = true) : 0 ≤ v.code ∧ v.code ≤ 999999999999 := by
  obtain ⟨h1, h2, h3⟩ := wC h
  unfold Ver.code; omega
end
section
def qU (v : Ver) : Bool := decide (v.maj = 0) && decide (v.min = 0) && decide (v.pat = 0)
theorem tH {v : Ver} (h : v.may = true) : qU v = decide (v.code = 0) := by
  obtain ⟨h1, h2, h3⟩ := wC h
  unfold qU Ver.code
  rw [← Bool.decide_and, ← Bool.decide_and]
  exact decide_eq_decide.2 ⟨fun ⟨⟨a, b⟩, c⟩ => by omega, fun e => ⟨⟨by omega, by omega⟩, by omega⟩⟩
def xG (c : Cu) : Bool := decide (¬ c.e = 0) || (!c.aft && decide (c.v.pre = []) && !qU c.v)
def AllRight (l : List Sp) : Prop := ∀ s ∈ l, xG s.lo = true ∧ xG s.hi = true
def valC (c : Cu) : Int := if c.e = -1 then 0 else if c.e = 1 then 1000000000000 else c.v.code
def muI (v : Ver) : Int := if v.pre = [] then v.code else v.code - 1
def mu (x : Cu) : Int := if x.e = 0 then (if muI x.v < 0 then 0 else muI x.v) else 0
theorem mu_range {x : Cu} (hx : x.may = true) : 0 ≤ mu x ∧ mu x ≤ 999999999999 := by
  have h := mT (jF hx)
  unfold mu muI
  split
  · split
    · omega
    · split at * <;> omega
  · omega
theorem ci_le {a b : Int} : Lib.compareInt a b ≤ 0 ↔ a ≤ b := by
  unfold Lib.compareInt
  split
  · omega
  · split <;> omega
theorem right_le {c x : Cu} (hc : c.may = true) (hr : xG c = true) (hx : x.may = true) (he : zV x (zX 1) < 0) : zV c x ≤ 0 ↔ valC c ≤ mu x := by
  have hmx := mu_range hx
  have hxe : x.e = 0 ∨ x.e = -1 := by
    rcases may_e hx with ⟨h, _⟩ | ⟨h, h2, h3⟩
    · exact .inl h
    · rcases h with h | h
      · exact .inr h
      · exfalso
        have : x = zX 1 := by
          obtain ⟨e, v, a⟩ := x
          simp only at h h2 h3
          subst h h2 h3; rfl
        rw [this, gD] at he; omega
  rw [vM hc hx]
  rcases may_e hc with ⟨h0, hb⟩ | ⟨h1, hv, ha⟩
  · have hr2 := hr
    unfold xG at hr2
    rw [decide_eq_false (by simpa using h0), Bool.false_or] at hr2
    simp only [Bool.and_eq_true, Bool.not_eq_true', decide_eq_true_eq] at hr2
    obtain ⟨⟨ha, hp⟩, hl⟩ := hr2
    rw [tH (jF hc), decide_eq_false_iff_not] at hl
    have hcc := mT (jF hc)
    have hval : valC c = c.v.code := by unfold valC; rw [if_neg (by omega), if_neg (by omega)]
    rw [hval]
    rcases hxe with hx0 | hx1
    · have hcx := mT (jF hx)
      rw [h0, hx0, show Lib.compareInt 0 0 = 0 from rfl, lex_0, fF (jF hc) (jF hx), ha, hp]
      have hmu : mu x = if muI x.v < 0 then 0 else muI x.v := by unfold mu; rw [if_pos hx0]
      rw [hmu]
      unfold muI qR
      by_cases k1 : c.v.code < x.v.code
      · rw [if_pos k1, fX]
        constructor
        · intro _; split <;> split at * <;> omega
        · intro _; omega
      · rw [if_neg k1]
        by_cases k2 : x.v.code < c.v.code
        · rw [if_pos k2, nL]
          constructor
          · intro h; omega
          · intro h; exfalso; split at h <;> split at * <;> omega
        · rw [if_neg k2]
          by_cases k3 : x.v.pre = []
          · rw [k3, if_pos rfl, lex_0]
            have : Lib.compareInt (b01 false) (b01 x.aft) ≤ 0 := by rw [ci_le]; cases x.aft <;> decide
            constructor
            · intro _; rw [if_pos rfl, if_neg (by omega)]; omega
            · intro _; exact this
          · rw [if_neg (fun e => k3 e.symm), if_pos rfl, nL]
            constructor
            · intro h; omega
            · intro h; exfalso; rw [if_neg k3] at h; split at h <;> omega
    · rw [h0, hx1, show Lib.compareInt 0 (-1) = 1 from rfl, nL]
      have hmu : mu x = 0 := by unfold mu; rw [if_neg (by omega)]
      rw [hmu]
      constructor <;> intro h <;> omega
  · rcases h1 with h1 | h1
    · have hval : valC c = 0 := by unfold valC; rw [if_pos h1]
      rw [hval]
      refine ⟨fun _ => hmx.1, fun _ => ?_⟩
      rcases hxe with hx0 | hx1
      · rw [h1, hx0, show Lib.compareInt (-1) 0 = -1 from rfl, fX]; omega
      · rcases may_e hx with ⟨h, _⟩ | ⟨_, hv2, ha2⟩
        · omega
        · rw [h1, hx1, hv, hv2, ha, ha2, show Lib.compareInt (-1) (-1) = 0 from rfl, lex_0, show kN Ver.zero Ver.zero = 0 from cmpR_core rfl, lex_0]; decide
    · have hval : valC c = 1000000000000 := by unfold valC; rw [if_neg (by omega), if_pos h1]
      rw [hval]
      refine ⟨fun h => ?_, fun h => by omega⟩
      exfalso
      rcases hxe with hx0 | hx1
      · rw [h1, hx0, show Lib.compareInt 1 0 = 1 from rfl, nL] at h; omega
      · rw [h1, hx1, show Lib.compareInt 1 (-1) = 1 from rfl, nL] at h; omega
def denN (l : List Sp) (n : Int) : Bool := l.any fun s => decide (valC s.lo ≤ n) && decide (n < valC s.hi)
theorem mu_pos {v : Ver} (hv : v.may = true) (hp : v.pre = []) : mu (dF v) = v.code := by
  have := mT hv
  unfold mu muI dF y7
  dsimp only
  rw [if_pos rfl, if_pos hp]
  have e : ({ v with build := [] } : Ver).code = v.code := rfl
  rw [e, if_neg (by omega)]
theorem tO (p : Cu → Cu → Bool) (Q : Cu → Prop) : ∀ (cs : List Cu) (out : List Sp), (∀ c ∈ cs, Q c) → (∀ s ∈ out, Q s.lo ∧ Q s.hi) → ∀ s ∈ g9 p out cs, Q s.lo ∧ Q s.hi
  | [], out, _, ho => by unfold g9; exact ho
  | [c], out, _, ho => by unfold g9; exact ho
  | c :: d :: r, out, hc, ho => by
    unfold g9
    refine tO p Q (d :: r) _ (fun x hx => hc x (List.mem_cons_of_mem _ hx)) ?_
    split
    · intro s hs
      unfold qI at hs
      split at hs
      · rename_i t ht
        split at hs
        · rcases List.mem_append.1 hs with h | h
          · exact ho s (List.dropLast_subset _ h)
          · obtain rfl : s = _ := by simpa using h
            exact ⟨(ho t (List.mem_of_getLast? ht)).1, hc d (by simp)⟩
        · rcases List.mem_append.1 hs with h | h
          · exact ho s h
          · obtain rfl : s = _ := by simpa using h
            exact ⟨hc c (by simp), hc d (by simp)⟩
      · obtain rfl : s = _ := by simpa using hs
        exact ⟨hc c (by simp), hc d (by simp)⟩
    · exact ho
theorem cutsL_all (Q : Cu → Prop) (h1 : Q (zX (-1))) (h2 : Q (zX 1)) (l : List Sp) (hl : ∀ s ∈ l, Q s.lo ∧ Q s.hi) : ∀ c ∈ g7 l, Q c := by
  have go : ∀ (l : List Sp) (out : List Cu), (∀ c ∈ out, Q c) → (∀ s ∈ l, Q s.lo ∧ Q s.hi) → ∀ c ∈ l.foldl (fun out s => gC s.hi (gC s.lo out)) out, Q c := by
    intro l
    induction l with
    | nil => intro out ho _; exact ho
    | cons s r ih =>
      intro out ho hl
      refine ih _ (fun c hc => ?_) (fun t ht => hl t (List.mem_cons_of_mem _ ht))
      rcases putL_mem _ _ _ hc with rfl | hc
      · exact (hl s (List.mem_cons_self ..)).2
      · rcases putL_mem _ _ _ hc with rfl | hc
        · exact (hl s (List.mem_cons_self ..)).1
        · exact ho c hc
  exact go l _ (fun c hc => by
    rcases List.mem_cons.1 hc with rfl | hc
    · exact h1
    · obtain rfl : c = _ := by simpa using hc
      exact h2) hl
theorem nT (k : Int) (h : ¬ k = 0) : xG (zX k) = true := by unfold xG zX; rw [decide_eq_true h]; rfl
theorem AllRight.make {l : List Sp} (h : AllRight l) : AllRight (jG l) := tO _ (xG · = true) _ [] (cutsL_all _ (nT _ (by decide)) (nT _ (by decide)) l h) (fun s hs => by simp at hs)
theorem AllRight.app {a b : List Sp} (ha : AllRight a) (hb : AllRight b) : AllRight (a ++ b) := fun s hs => (List.mem_append.1 hs).elim (ha s) (hb s)
theorem AllRight.or {a b : List Sp} (ha : AllRight a) (hb : AllRight b) : AllRight (orL a b) := (ha.app hb).make
end
section
def gU (v : Ver) : Ver := Ver.rel v.maj v.min v.pat
def bV (v : Ver) : Cu := if qU v then zX (-1) else ⟨0, gU v, false⟩
def pB (v : Ver) : Cu := if kC (gU v) then ⟨0, yO (gU v), false⟩ else zX 1
def kJ (c : Cu) : Cu := if ¬ c.e = 0 then c else if c.aft = true ∧ c.v.pre = [] then pB c.v else bV c.v
def uC (s : Sp) : Sp := ⟨kJ s.lo, kJ s.hi⟩
def kB (l : List Sp) : List Sp := jG ((l.map uC).filter (·.may))
theorem relV_may {v : Ver} (h : v.may = true) : (gU v).may = true := by
  obtain ⟨h1, h2, h3⟩ := wC h
  exact rel_in h1 h2 h3
theorem relV_code (v : Ver) : (gU v).code = v.code := rfl
theorem relA_ok {v : Ver} (h : v.may = true) : (bV v).may = true ∧ xG (bV v) = true ∧ valC (bV v) = v.code := by
  unfold bV
  have hl := tH h
  split
  · rename_i h1
    rw [hl, decide_eq_true_eq] at h1
    exact ⟨nP, nT _ (by decide), by rw [h1]; rfl⟩
  · rename_i h1
    have h2 : qU (gU v) = false := by
      have : qU (gU v) = qU v := rfl
      rw [this]; simpa using h1
    exact ⟨by unfold Cu.may; dsimp only; rw [if_pos rfl, relV_may h]; rfl, by unfold xG; dsimp only; rw [h2]; rfl, rfl⟩
theorem relB_ok {v : Ver} (h : v.may = true) : (pB v).may = true ∧ xG (pB v) = true ∧ valC (pB v) = v.code + 1 := by
  unfold pB
  rcases next_is (relV_may h) with ⟨h1, h2, h3⟩ | ⟨h1, a, b, c, h2, h3, h4⟩
  · rw [h1, if_neg (by decide)]
    rw [relV_code] at h3
    exact ⟨bL, nT _ (by decide), by rw [h3]; rfl⟩
  · rw [h1, if_pos rfl, h2]
    have hc : (Ver.rel a b c).code = v.code + 1 := by
      rcases h4 with ⟨_, h5⟩ | ⟨h5, _⟩
      · rw [h5, relV_code]
      · exact absurd rfl h5
    have h0 := (mT h).1
    have hl : qU (Ver.rel a b c) = false := by rw [tH h3, decide_eq_false_iff_not]; omega
    refine ⟨by unfold Cu.may; dsimp only; rw [if_pos rfl, h3]; rfl, by unfold xG; dsimp only; rw [hl]; rfl, ?_⟩
    unfold valC; dsimp only
    rw [if_neg (by decide), if_neg (by decide), hc]
theorem n3 {c : Cu} (h : c.may = true) : (kJ c).may = true ∧ xG (kJ c) = true := by
  unfold kJ
  split
  · rename_i h0
    exact ⟨h, by unfold xG; rw [decide_eq_true h0]; rfl⟩
  · split
    · have := relB_ok (jF h); exact ⟨this.1, this.2.1⟩
    · have := relA_ok (jF h); exact ⟨this.1, this.2.1⟩
theorem turn_le {c : Cu} {r : Ver} (hc : c.may = true) (hr : r.may = true) (hp : r.pre = []) : zV c (dF r) ≤ 0 ↔ zV (kJ c) (dF r) ≤ 0 := by
  by_cases h0 : c.e = 0
  · have ht := n3 hc
    have hv := jF hc
    rw [right_le ht.1 ht.2 (vG hr) (uU hr), mu_pos hr hp]
    have ha := fH hc hr
    have h1 : (zV c (dF r) ≤ 0) ↔ (xW c r = true) := by rw [ha, decide_eq_true_eq]
    rw [h1]
    unfold xW
    rw [hc, hr, if_pos h0]
    simp only [Bool.true_and, decide_eq_true_eq]
    have hcr := (cmp_rel hv hr hp).1
    have hrng := bQ (v := c.v) (w := r)
    have hz : kN c.v r = 0 ↔ (c.v.code = r.code ∧ c.v.pre = []) := by
      rw [fF hv hr, hp]
      by_cases k1 : c.v.code < r.code
      · rw [if_pos k1]; constructor <;> intro h <;> omega
      · rw [if_neg k1]
        by_cases k2 : r.code < c.v.code
        · rw [if_pos k2]; constructor <;> intro h <;> omega
        · rw [if_neg k2]
          unfold qR
          by_cases k3 : c.v.pre = []
          · rw [if_pos k3]; exact ⟨fun _ => ⟨by omega, k3⟩, fun _ => rfl⟩
          · rw [if_neg k3, if_neg k3, if_pos rfl]
            exact ⟨fun h => by omega, fun h => absurd h.2 k3⟩
    have hlt : kN c.v r < 0 ↔ kN c.v r = -1 := by omega
    rw [hlt, hcr, hz]
    unfold kJ
    rw [if_neg (by simpa using h0)]
    by_cases k : c.aft = true ∧ c.v.pre = []
    · rw [if_pos k, (relB_ok hv).2.2]
      constructor
      · rintro (h | ⟨_, h⟩)
        · rcases h with h | ⟨_, h⟩
          · omega
          · exact absurd k.2 h
        · rw [k.1] at h; cases h
      · intro h; exact .inl (.inl (by omega))
    · rw [if_neg k, (relA_ok hv).2.2]
      constructor
      · rintro (h | ⟨⟨h, _⟩, _⟩)
        · rcases h with h | ⟨h, _⟩ <;> omega
        · omega
      · intro h
        rcases Int.lt_or_eq_of_le h with h | h
        · exact .inl (.inl h)
        · by_cases k3 : c.v.pre = []
          · refine .inr ⟨⟨h, k3⟩, ?_⟩
            cases k4 : c.aft with
            | false => rfl
            | true => exact absurd ⟨k4, k3⟩ k
          · exact .inl (.inr ⟨h, k3⟩)
  · have : kJ c = c := by unfold kJ; rw [if_pos h0]
    rw [this]
theorem turn_in {s : Sp} {r : Ver} (hs : s.may = true) (hr : r.may = true) (hp : r.pre = []) : gE (uC s) (dF r) = gE s (dF r) := by
  obtain ⟨h1, h2⟩ := yD hs
  unfold gE uC
  dsimp only
  rw [decide_eq_decide.2 (turn_le h1 hr hp).symm]
  congr 1
  refine decide_eq_decide.2 ?_
  have := turn_le h2 hr hp
  have a1 := xV (a := s.hi) (b := dF r)
  have a2 := xV (a := kJ s.hi) (b := dF r)
  constructor
  · intro h; have : ¬ zV s.hi (dF r) ≤ 0 := fun h3 => by have := this.1 h3; omega
    omega
  · intro h; have : ¬ zV (kJ s.hi) (dF r) ≤ 0 := fun h3 => by have := this.2 h3; omega
    omega
theorem fW (l : List Sp) : ∀ s ∈ (l.map uC).filter (·.may), s.may = true := fun s hs => (List.mem_filter.1 hs).2
theorem makeRel_may (l : List Sp) : zR (kB l) = true := (wY (fW l)).1
theorem makeRel_right {l : List Sp} (h : ∀ s ∈ l, s.may = true) : AllRight (kB l) := by
  refine AllRight.make (fun s hs => ?_)
  obtain ⟨t, ht, rfl⟩ := List.mem_map.1 (List.mem_filter.1 hs).1
  have := yD (h t ht)
  exact ⟨(n3 this.1).2, (n3 this.2).2⟩
theorem makeRel_has {l : List Sp} {r : Ver} (hl : zR l = true) (hr : r.may = true) (hp : r.pre = []) : xY (kB l) r = xY l r := by
  rw [jJ (makeRel_may l) hr, jJ hl hr]
  show den (jG _) _ = _
  rw [(wY (fW l)).2 _ (vG hr) (uU hr)]
  unfold den
  rw [Bool.eq_iff_iff, List.any_eq_true, List.any_eq_true]
  constructor
  · rintro ⟨s, hs, h⟩
    obtain ⟨t, ht, rfl⟩ := List.mem_map.1 (List.mem_filter.1 hs).1
    exact ⟨t, ht, by rw [← turn_in (xJ hl t ht) hr hp]; exact h⟩
  · rintro ⟨s, hs, h⟩
    have hm := xJ hl s hs
    rw [← turn_in hm hr hp] at h
    refine ⟨uC s, List.mem_filter.2 ⟨List.mem_map.2 ⟨s, hs, rfl⟩, ?_⟩, h⟩
    have h1 := yD hm
    cases hc : (uC s).may with
    | true => rfl
    | false =>
      have := in_none (n3 h1.1).1 (n3 h1.2).1 (vG hr) (sp_not_of hc)
      rw [show (Sp.mk (kJ s.lo) (kJ s.hi)) = uC s from rfl, h] at this
      cases this
def oneRel (v : Ver) : List Sp := [⟨bV v, pB v⟩]
def onePre (v : Ver) : List Sp := [⟨⟨0, y7 v, false⟩, ⟨0, y7 v, true⟩⟩]
end
end Go.Proofs.YtkljdpiaghepfaaGreatDoor
