/-
  What the statement's proof leans on: the ways of walking, tO mathematics, and what the program's functions return; each theorem says on what conditions.
-/
import Derived.Tactics
import Derived.Lib.AppendZerosOnto
import Derived.Lib.SliceRun
import Derived.Outline
import Derived.Test.YtkljdpiaghepfaaGreatDoorMG2
set_option maxRecDepth 1000000
set_option maxHeartbeats 8000000
set_option linter.unusedVariables false
set_option linter.unusedSimpArgs false
set_option linter.unnecessarySimpa false
namespace Go.Proofs.YtkljdpiaghepfaaGreatDoor
open Go.RowKit

section
deriving instance DecidableEq for Sp
theorem all2 (a b : Bool) : ([a, b].all id) = (a && b) := by simp
theorem sp_dec (u v : Sp) : decide (u = v) = (decide (u.lo = v.lo) && decide (u.hi = v.hi)) := by
  obtain ⟨a, b⟩ := u
  obtain ⟨a', b'⟩ := v
  simp only [Sp.mk.injEq, Bool.decide_and]
theorem eq_span (u v : Sp) (d : Nat) (w : World) : (Op.equalIn (d + 1 + 1 + 1 + 1) 80 (yT u) (yT v)).run Tryz.prog w = .ok (decide (u = v)) w := by
  have h := eq_agg (P := Tryz.prog) (d := d + 1 + 1 + 1) (t := 80) (xs := (yT u).cells) (ys := (yT v).cells) (bs := [decide (u.lo = v.lo), decide (u.hi = v.hi)]) Tryz.underlying80 (by kernel_rfl)
    ⟨by decide, ⟨zI u.lo, zI v.lo, fun w => ⟨by kernel_rfl, by kernel_rfl, eq_cut u.lo v.lo d w⟩⟩,
     by decide, ⟨zI u.hi, zI v.hi, fun w => ⟨by kernel_rfl, by kernel_rfl, eq_cut u.hi v.hi d w⟩⟩, trivial⟩ w
  rw [all2, ← sp_dec] at h
  exact h
theorem guard_span : Tryz.prog.eqGuardType Tryz.prog.depth 80 = false := by kernel_rfl
theorem binOp_agg_neq {P : Program} {t : TypeId} {xs ys : Array Value} {b : Bool} (w : World) (h : (Op.equalIn 10000 t (.agg xs) (.agg ys)).run P w = .ok b w) : (binOp .neq t (.agg xs) (.agg ys)).run P w = .ok (.bool (!b)) w := by
  have e : binOp .neq t (.agg xs) (.agg ys) = (do let r ← Op.equalIn 10000 t (.agg xs) (.agg ys); pure (.bool (!r))) := by first | rfl | simp [binOp]
  rw [e]
  simp only [Sem.run_bind, h, Result.andThen_ok, Sem.run_pure]
theorem run_ne_op {P : Program} {ρ : Operand → Value} {o : Oper} {t t' : TypeId} {x y : Operand} {xs ys : Array Value} {b : Bool} (ho : o.op = .binOp .neq t x y t') (hx : ρ x = .agg xs) (hy : ρ y = .agg ys) (hm : P.eqGuardType P.depth t = false)
    (h : ∀ w, (Op.equalIn 10000 t (.agg xs) (.agg ys)).run P w = .ok b w) (w : World) : (execOp ρ o).run P w = .ok (.value (.bool (!b))) w := by
  have h1 := run_eqGuard_agg (P := P) w .neq t x y xs ys hm
  have h2 := binOp_agg_neq w (h w)
  unfold execOp
  simp only [ho, hx, hy, Sem.run_bind, h1, Result.andThen_ok, h2, Sem.run_pure]
theorem op_ne_span {ρ : Operand → Value} {o : Oper} {t' : TypeId} {x y : Operand} {u v : Sp} {b : Bool} (ho : o.op = .binOp .neq 80 x y t') (hx : ρ x = yT u) (hy : ρ y = yT v) (hb : decide (u = v) = b) (w : World) : (execOp ρ o).run Tryz.prog w = .ok (.value (.bool (!b))) w :=
  run_ne_op ho hx hy guard_span (fun w => by rw [← hb]; exact eq_span u v 9996 w) w
theorem same_step {a b : List Sp} {k : Nat} (ha : k < a.length) (hb : k < b.length) (h : a.take k = b.take k) (e : a[k] = b[k]) : a.take (k + 1) = b.take (k + 1) := by
  rw [List.take_succ_eq_append_getElem ha, List.take_succ_eq_append_getElem hb, h, e]
theorem rsame_any (A B : Option Addr) (cap capb : Nat) (a b : List Sp) (W : World) (hv : Reads x6 W W.heap.size A a) (hu : Reads x6 W W.heap.size B b) (hn : a.length ≤ 1000000) (hm : b.length ≤ 1000000) :
    Calls Tryz.prog 46 #[.slice A a.length cap, .slice B b.length capb] W fun e w' => e = .returned (.bool (decide (a = b))) ∧ Below W.heap.size W w' := by
  refine Z2 (n := 26) Tryz.func46 rfl (ZO (Zv Z5 (ZN (zB (ZO (Zv (.slice A a.length cap) (Zv (.int .i64 (a.length : Int)) (Zv (.slice B b.length capb) ?_))))))))
  refine Zv (.int .i64 (b.length : Int)) ?_
  by_cases h1 : (a.length : Int) = (b.length : Int)
  · refine Zn (p := (a.length : Int) = (b.length : Int)) true (decide_eq_true (h1)) (ZX (ZB (zB (ZO (Zv (.int .i64 0) (zU (zF ?_)))))))
    refine zP (x7 (fun L f m => ∃ (k : Nat) (j : Nat → Value), (k ≤ a.length ∧ a.take k = b.take k) ∧ L = [] ∧ f = kL j [(0, .slice A a.length cap), (1, .slice B b.length capb), (5, .int .i64 (k : Int))] ∧ m = a.length - k) (a.length - 0) ⟨0, _, ⟨Nat.zero_le _, by rw [List.take_zero, List.take_zero]⟩, rfl, ZU, rfl⟩ ?_)
    rintro L f m ⟨k, j, hrel, rfl, rfl, rfl⟩
    have hkl := hrel.1
    refine zB (ZO (Zv (.int .i64 (k : Int)) (Zv (.slice A a.length cap) (Zv (.int .i64 (a.length : Int)) ?_))))
    by_cases h2 : (k : Int) < (a.length : Int)
    · have hk : k < a.length := by omega
      have hkb : k < b.length := by omega
      obtain ⟨g, off, hA, hlt, hcell⟩ := hv (by omega)
      obtain ⟨gb, ofh, hB, hlu, hcelu⟩ := hu (by omega)
      obtain ⟨s, hs⟩ : ∃ s, a[k] = s := ⟨_, rfl⟩
      obtain ⟨t, ht⟩ : ∃ t, b[k] = t := ⟨_, rfl⟩
      refine Zg h2 (ZY (ZB (zB (zP (zB (vP (by kernel_rfl) (by kernel_rfl) (Zw (.slice A a.length cap) (Zw (.int .i64 (k : Int)) ?_))))))))
      refine gG (Zp g (off + k * 14)) (by kernel_rfl) (ZA (b := g) (off := off) (c := cap) (n := a.length) (k := .i64) (j := (k : Int)) (e := 80) (sz := 14) hA) (nO (yT s) (a := ⟨g, off + k * 14, none⟩) (by kernel_rfl) rfl (by kernel_rfl) (fun w hO => yF yA (fun j u h => (hO.below.cell (p := ⟨g, off + j, none⟩) hlt).trans (hcell j u h)) k 0 hk (by omega) _ (by rw [hs]; kernel_rfl)) (Zw (.slice B b.length capb) (Zw (.int .i64 (k : Int)) (gG (Zp gb (ofh + k * 14)) (by kernel_rfl) (ZA (b := gb) (off := ofh) (c := capb) (n := b.length) (k := .i64) (j := (k : Int)) (e := 80) (sz := 14) hB) (nO (yT t) (a := ⟨gb, ofh + k * 14, none⟩) (by kernel_rfl) rfl (by kernel_rfl) (fun w hO => yF yA (fun j u h => (hO.below.cell (p := ⟨gb, ofh + j, none⟩) hlu).trans (hcelu j u h)) k 0 hkb (by omega) _ (by rw [ht]; kernel_rfl)) ?_)))))
      by_cases h3 : s = t
      · refine gG Z5 (by kernel_rfl) (op_ne_span rfl (by kernel_rfl) (by kernel_rfl) (decide_eq_true (h3))) (gH (zF (Zf (xD (zV (zF (zC (Zv (.int .i64 (k : Int)) (Zu (k := .i64) (((k + 1 : Nat) : Int)) (IntWalk.i64_in _ (by omega)) (Zv (.int .i64 ((k + 1 : Nat) : Int)) (zU ?_)))))))))))
        have hnext : a.take (k + 1) = b.take (k + 1) := same_step hk hkb hrel.2 (by rw [hs, ht]; assumption)
        exact zY (m' := a.length - (k + 1)) (by omega) ⟨k + 1, _, ⟨by omega, hnext⟩, rfl, ZU, rfl⟩
      refine gG Z4 (by kernel_rfl) (op_ne_span rfl (by kernel_rfl) (by kernel_rfl) (decide_eq_false (h3))) (gH (zF (Zt (ZO (Zv Z5 (ZN (zG (zJ (zD ?_)))))))))
      exact yK (zJ (zD (ZF Z5 Tryz.results46 (fun w hO => ⟨by rw [decide_eq_false (show ¬ a = b from fun e => by subst e; first | omega | exact absurd (hs.symm.trans ht) (by assumption))], hO.below⟩))))
    refine Zh h2 (ZX (yE (zH (zS (zM (zF (ZO (Zv Z4 ?_))))))))
    exact ZN (zG (ZF Z4 Tryz.results46 (fun w hO => ⟨by rw [decide_eq_true (show a = b from by have h := hrel.2; rwa [List.take_of_length_le (by omega), List.take_of_length_le (by omega)] at h)], hO.below⟩)))
  refine Zn (p := (a.length : Int) = (b.length : Int)) false (decide_eq_false (h1)) (ZY (ZO (Zv Z5 (ZN (zG (zD (ZF Z5 Tryz.results46 ?_)))))))
  exact fun w hO => ⟨by rw [decide_eq_false (show ¬ a = b from fun e => by subst e; first | omega | exact absurd (hs.symm.trans ht) (by assumption))], hO.below⟩
end
section
theorem nN {l : List Sp} {k : Nat} (hk : k < l.length) (h : zN (l.take k) = true) (hs : l[k].may = true) (hc : ∀ h0 : 0 < k, zQ (l[k - 1]'(by omega)).hi l[k].lo < 0) : zN (l.take (k + 1)) = true := by
  rw [List.take_succ_eq_append_getElem hk]
  refine uL h hs fun t ht => ?_
  cases k with
  | zero => simp at ht
  | succ k =>
    have e := List.take_succ_eq_append_getElem (l := l) (i := k) (by omega)
    rw [e, List.getLast?_concat] at ht
    obtain rfl : l[k] = t := Option.some.inj ht
    exact hc (by omega)
theorem row_pair : ∀ {l : List Sp}, zN l = true → ∀ k (hk : k < l.length) (h0 : 0 < k), zQ (l[k - 1]'(by omega)).hi l[k].lo < 0
  | [], _, k, hk, _ => by simp at hk
  | s :: l, h, k, hk, h0 => by
    cases k with
    | zero => omega
    | succ k =>
      cases k with
      | zero => exact gE h _ (List.getElem_mem _)
      | succ k => exact row_pair (kX h) (k + 1) (by simpa using hk) (by omega)
theorem any_drop (l : List Sp) (v : Ver) (k : Nat) (hk : k < l.length) : (l.drop k).any (qF · v) = (qF l[k] v || (l.drop (k + 1)).any (qF · v)) := by
  rw [List.drop_eq_getElem_cons hk, List.any_cons]
theorem vJ (A : Option Addr) (cap : Nat) (l : List Sp) (W : World) (hv : Reads x6 W W.heap.size A l) (hn : l.length ≤ 1000000) (hl : x5 l) :
    Calls Tryz.prog 54 #[.slice A l.length cap] W fun e w' => e = .returned (.bool (zN l)) ∧ Below W.heap.size W w' := by
  refine Z2 (n := 35) Tryz.func54 rfl (ZO (Zv Z5 (ZN (zB (ZO (Zv (.int .i64 0) (zU (zF ?_))))))))
  refine zP (x7 (fun L f m => ∃ (k : Nat) (j : Nat → Value), (k ≤ l.length ∧ zN (l.take k) = true) ∧ L = [] ∧ f = kL j [(0, .slice A l.length cap), (3, .int .i64 (k : Int))] ∧ m = l.length - k) (l.length - 0) ⟨0, _, ⟨Nat.zero_le _, by rw [List.take_zero]; rfl⟩, rfl, ZU, rfl⟩ ?_)
  rintro L f m ⟨k, j, hrel, rfl, rfl, rfl⟩
  have hkl := hrel.1
  refine zB (ZO (Zv (.int .i64 (k : Int)) (Zv (.slice A l.length cap) (Zv (.int .i64 (l.length : Int)) ?_))))
  by_cases h1 : (k : Int) < (l.length : Int)
  · have hk : k < l.length := by omega
    obtain ⟨b, off, hA, hlt, hcell⟩ := hv (by omega)
    obtain ⟨s, hs⟩ : ∃ s, l[k] = s := ⟨_, rfl⟩
    have hsk : s.short := hs ▸ hl l[k] (List.getElem_mem hk)
    refine Zg h1 (ZY (ZB (zB (zP (zB (vP (by kernel_rfl) (by kernel_rfl) (Zw (.slice A l.length cap) (Zw (.int .i64 (k : Int)) ?_))))))))
    refine gG (Zp b (off + k * 14)) (by kernel_rfl) (ZA (b := b) (off := off) (c := cap) (n := l.length) (k := .i64) (j := (k : Int)) (e := 80) (sz := 14) hA) (nO (yT s) (a := ⟨b, off + k * 14, none⟩) (by kernel_rfl) rfl (by kernel_rfl) (fun w hO => yF yA (fun j u h => (hO.below.cell (p := ⟨b, off + j, none⟩) hlt).trans (hcell j u h)) k 0 hk (by omega) _ (by rw [hs]; kernel_rfl)) (Zq (k := 96) (args := #[yT s]) (.bool s.may) (fun w _ => tH s w hsk) ?_))
    cases h2 : s.may with
    | true =>
      refine Zw Z5 (Zw Z5 (Zw (.int .i64 (k : Int)) ?_))
      by_cases h3 : (0 : Int) < (k : Int)
      · have hk1 : k - 1 < l.length := by omega
        obtain ⟨r, hr⟩ : ∃ r, l[k - 1] = r := ⟨_, rfl⟩
        have hrk : r.short := hr ▸ hl l[k - 1] (List.getElem_mem hk1)
        refine Zi h3 (Zw Z4 (Zw (.slice A l.length cap) (Zw (.int .i64 (k : Int)) (q_sum (k := .i64) (((k : Int) : Int) - 1) (by kernel_rfl) (fun _ => by kernel_rfl) (IntWalk.i64_in _ (by omega)) (gG (Zp b (off + (k - 1) * 14)) (by kernel_rfl) (jS (b := b) (off := off) (c := cap) (n := l.length) (k := .i64) (j := ((k : Int) : Int) - 1) (e := 80) (sz := 14) rfl (by kernel_rfl) hA (by kernel_rfl) (by kernel_rfl) (by kernel_rfl) (by omega) (by omega) (by omega)) (Zw (Zp b (off + (k - 1) * 14 + 7)) (nO (zI r.hi) (a := ⟨b, off + (k - 1) * 14 + 7, none⟩) (by kernel_rfl) rfl (by kernel_rfl) (fun w hO => yF yA (fun j u h => (hO.below.cell (p := ⟨b, off + j, none⟩) hlt).trans (hcell j u h)) (k - 1) 7 hk1 (by omega) _ (by rw [hr]; kernel_rfl)) (Zw (.slice A l.length cap) (Zw (.int .i64 (k : Int)) (gG (Zp b (off + k * 14)) (by kernel_rfl) (ZA (b := b) (off := off) (c := cap) (n := l.length) (k := .i64) (j := (k : Int)) (e := 80) (sz := 14) hA) (Zw (Zp b (off + k * 14 + 0)) ?_)))))))))))
        refine nO (zI s.lo) (a := ⟨b, off + k * 14 + 0, none⟩) (by kernel_rfl) rfl (by kernel_rfl) (fun w hO => yF yA (fun j u h => (hO.below.cell (p := ⟨b, off + j, none⟩) hlt).trans (hcell j u h)) k 0 hk (by omega) _ (by rw [hs]; kernel_rfl)) (Zq (k := 94) (args := #[zI r.hi, zI s.lo]) (.int .i64 (zQ r.hi s.lo)) (fun w _ => uB r.hi s.lo w hrk.2 hsk.1) ?_)
        by_cases h4 : (0 : Int) ≤ zQ r.hi s.lo
        · refine Zi h4 (Zw Z4 (Zw Z4 (gH (zF (Zt (ZO (Zv Z5 (ZN (zG ?_)))))))))
          exact zJ (zD (yK (zJ (zD (ZF Z5 Tryz.results54 (fun w hO => ⟨by rw [show zN l = false from by cases hm : zN l with | false => rfl | true => first | (have h := xG hm l[k] (List.getElem_mem hk); rw [hs] at h; simp_all; done) | (have h := row_pair hm k hk (by omega); rw [hs, hr] at h; omega)], hO.below⟩))))))
        refine ZI h4 (Zw Z5 (Zw Z5 (gH (zF (Zf (xD (zV (zF (zC (Zv (.int .i64 (k : Int)) (Zu (k := .i64) (((k + 1 : Nat) : Int)) (IntWalk.i64_in _ (by omega)) ?_)))))))))))
        refine Zv (.int .i64 ((k + 1 : Nat) : Int)) (zU ?_)
        have hnext : zN (l.take (k + 1)) = true := nN hk hrel.2 (by rw [hs]; assumption) (fun _ => by rw [hr, hs]; omega)
        exact zY (m' := l.length - (k + 1)) (by omega) ⟨k + 1, _, ⟨by omega, hnext⟩, rfl, ZU, rfl⟩
      refine ZI h3 (Zw Z5 (Zj (Zj (Zj (Zj (Zj (Zj (Zj (Zj (Zj (Zj ?_)))))))))))
      refine Zj (Zj (Zj (Zw Z5 (Zw Z5 (gH (zF (Zf (xD (zV (zF (zC ?_)))))))))))
      refine Zv (.int .i64 (k : Int)) (Zu (k := .i64) (((k + 1 : Nat) : Int)) (IntWalk.i64_in _ (by omega)) (Zv (.int .i64 ((k + 1 : Nat) : Int)) (zU ?_)))
      have hnext : zN (l.take (k + 1)) = true := nN hk hrel.2 (by rw [hs]; assumption) (fun h0 => absurd h0 (by omega))
      exact zY (m' := l.length - (k + 1)) (by omega) ⟨k + 1, _, ⟨by omega, hnext⟩, rfl, ZU, rfl⟩
    | false =>
      refine Zw Z4 (Zw Z4 (Zj (Zj (Zj (Zj (Zj (Zj (Zj (Zj (Zj (Zj ?_)))))))))))
      refine Zj (Zj (Zj (Zj (Zj (Zj (Zj (Zw Z4 (gH (zF (Zt (zB ?_)))))))))))
      exact zC (Zv Z5 (ZN (zG (zJ (zD (yK (zJ (zD (ZF Z5 Tryz.results54 (fun w hO => ⟨by rw [show zN l = false from by cases hm : zN l with | false => rfl | true => first | (have h := xG hm l[k] (List.getElem_mem hk); rw [hs] at h; simp_all; done) | (have h := row_pair hm k hk (by omega); rw [hs, hr] at h; omega)], hO.below⟩))))))))))
  refine Zh h1 (ZX (yE (zH (zS (zM (zF (ZO (Zv Z4 ?_))))))))
  exact ZN (zG (ZF Z4 Tryz.results54 (fun w hO => ⟨by rw [show zN l = true from by have h := hrel.2; rwa [List.take_of_length_le (by omega)] at h], hO.below⟩)))
theorem rrowHas_any (A : Option Addr) (cap : Nat) (l : List Sp) (v : Ver) (W : World) (hv : Reads x6 W W.heap.size A l) (hn : l.length ≤ 1000000) (hl : x5 l) (hv2 : v.short) :
    Calls Tryz.prog 52 #[.slice A l.length cap, yR v] W fun e w' => e = .returned (.bool (xJ l v)) ∧ Below W.heap.size W w' := by
  refine Z2 (n := 22) Tryz.func52 rfl (ZO (Zb (yR v) (fun b1 => Zv Z5 (ZN (zB (ZO (Zv (.int .i64 0) (zU ?_))))))))
  refine zF (zP (x7 (fun L f m => ∃ (k : Nat) (j : Nat → Value), (k ≤ l.length ∧ xJ l v = (zN l && (l.drop k).any (qF · v))) ∧ L = [⟨b1, (yR v).cells, 44⟩] ∧ f = kL j [(0, .slice A l.length cap), (3, Zp b1 0), (5, .int .i64 (k : Int))] ∧ m = l.length - k) (l.length - 0) ⟨0, _, ⟨Nat.zero_le _, by rw [List.drop_zero]; rfl⟩, rfl, ZU, rfl⟩ ?_))
  rintro L f m ⟨k, j, hrel, rfl, rfl, rfl⟩
  have hkl := hrel.1
  refine zB (ZO (Zv (.int .i64 (k : Int)) (Zv (.slice A l.length cap) (Zv (.int .i64 (l.length : Int)) ?_))))
  by_cases h1 : (k : Int) < (l.length : Int)
  · have hk : k < l.length := by omega
    obtain ⟨b, off, hA, hlt, hcell⟩ := hv (by omega)
    obtain ⟨s, hs⟩ : ∃ s, l[k] = s := ⟨_, rfl⟩
    have hsk : s.short := hs ▸ hl l[k] (List.getElem_mem hk)
    refine Zg h1 (Zv Z4 (Zv (.slice A l.length cap) (Zc (k := 54) (args := #[.slice A l.length cap]) (.bool (zN l)) (fun w hO => vJ A cap l w (hv.on hO.below hO.below.size) hn hl) (Zv (.bool (zN l)) (zU (zF ?_))))))
    cases h2 : zN l with
    | true =>
      refine Zt (ZB (zB (zP (zB (vP (by kernel_rfl) (by kernel_rfl) (Zw (.slice A l.length cap) (Zw (.int .i64 (k : Int)) (gG (Zp b (off + k * 14)) (by kernel_rfl) (ZA (b := b) (off := off) (c := cap) (n := l.length) (k := .i64) (j := (k : Int)) (e := 80) (sz := 14) hA) (nO (yT s) (a := ⟨b, off + k * 14, none⟩) (by kernel_rfl) rfl (by kernel_rfl) (fun w hO => yF yA (fun j u h => (hO.below.cell (p := ⟨b, off + j, none⟩) hlt).trans (hcell j u h)) k 0 hk (by omega) _ (by rw [hs]; kernel_rfl)) (Zm 0 ⟨b1, (yR v).cells, 44⟩ (off := 0) (yR v) ?_))))))))))
      refine Zq (k := 92) (args := #[yT s, yR v]) (.bool (qF s v)) (fun w _ => rholdsC_any s v w hsk hv2) (gH (zF ?_))
      cases h3 : qF s v with
      | true =>
        refine Zt (ZO (Zv Z4 (ZN (zG (zJ (zD (yK (zJ (zD ?_)))))))))
        exact ZF Z4 Tryz.results52 (fun w hO => ⟨by rw [show xJ l v = true from by rw [hrel.2, any_drop l v k hk, hs]; simp [h1, h2, h3]], hO.below⟩)
      | false =>
        refine Zf (xD (zV (zF (zC (Zv (.int .i64 (k : Int)) (Zu (k := .i64) (((k + 1 : Nat) : Int)) (IntWalk.i64_in _ (by omega)) (Zv (.int .i64 ((k + 1 : Nat) : Int)) (zU ?_))))))))
        have hnext : xJ l v = (zN l && (l.drop (k + 1)).any (qF · v)) := by rw [hrel.2, any_drop l v k hk, hs]; simp [h1, h2, h3]
        exact zY (m' := l.length - (k + 1)) (by omega) ⟨k + 1, _, ⟨by omega, by simpa [h1, h2, h3] using hnext⟩, rfl, ZU, rfl⟩
    | false =>
      refine Zf (yE (zH (zS (zM (zF (ZO (Zv Z5 (ZN (zG ?_)))))))))
      exact ZF Z5 Tryz.results52 (fun w hO => ⟨by rw [show xJ l v = false from by rw [hrel.2]; first | (rw [List.drop_of_length_le (by omega)]; simp; done) | simp [h1, h2]], hO.below⟩)
  refine Zh h1 (Zv Z5 (Zk (Zk (Zv Z5 (ZX (yE (zH (zS (zM ?_)))))))))
  exact zF (ZO (Zv Z5 (ZN (zG (ZF Z5 Tryz.results52 (fun w hO => ⟨by rw [show xJ l v = false from by rw [hrel.2]; first | (rw [List.drop_of_length_le (by omega)]; simp; done) | simp [h1]], hO.below⟩))))))
end
section
def SlS (v : Value) (l : List Sp) (ob : List Blk) : Prop := Sl 80 14 v l.length (l.flatMap x6) ob
theorem spanInfo : (Tryz.prog.info? 80).map (fun i => (i.zero.map (·.cells.size), i.size, i.bytes)) = some (some 14, 14, 144) := by kernel_rfl
theorem qH : ∃ i z, Tryz.prog.info? 80 = some i ∧ i.zero = some z ∧ i.size = 14 ∧ z.cells.size = 14 ∧ i.bytes = 144 := by
  have h := spanInfo
  cases hi : Tryz.prog.info? 80 with
  | none => rw [hi] at h; cases h
  | some i =>
    rw [hi] at h
    simp only [Option.map_some, Option.some.injEq, Prod.mk.injEq] at h
    cases hz : i.zero with
    | none => rw [hz] at h; simp at h
    | some z => rw [hz] at h; simp at h; exact ⟨i, z, rfl, hz, h.2.1, h.1, h.2.2⟩
theorem gI (s : Sp) : ∀ u ∈ x6 s, u.oneCell' = true := by
  intro u hu
  unfold x6 yT at hu
  simp only [Value.cells, List.mem_cons, List.not_mem_nil, or_false] at hu
  rcases hu with rfl | rfl | rfl | rfl | rfl | rfl | rfl | rfl | rfl | rfl | rfl | rfl | rfl | rfl <;> rfl
theorem grow_app {l : List Sp} {c d : Cu} (h : ∀ s ∈ l.getLast?, ¬ zQ s.hi c = 0) : vI l c d = l ++ [⟨c, d⟩] := by
  unfold vI
  cases hg : l.getLast? with
  | none => have : l = [] := by simpa using hg
            subst this; rfl
  | some s => dsimp only; rw [if_neg (h s hg)]
theorem grow_set {l : List Sp} {c d : Cu} {s : Sp} (h0 : 0 < l.length) (hs : l[l.length - 1]'(by omega) = s) (h : zQ s.hi c = 0) : vI l c d = l.set (l.length - 1) ⟨s.lo, d⟩ := by
  have hg : l.getLast? = some s := by rw [List.getLast?_eq_getElem?, List.getElem?_eq_getElem (by omega), hs]
  unfold vI
  rw [hg]
  dsimp only
  rw [if_pos h, List.dropLast_eq_take, List.set_eq_take_append_cons_drop, if_pos (by omega), List.drop_of_length_le (by omega)]
theorem last_at {l : List Sp} (h0 : 0 < l.length) {s t : Sp} (hs : l[l.length - 1]'(by omega) = s) (ht : t ∈ l.getLast?) : t = s := by
  rw [List.getLast?_eq_getElem?, List.getElem?_eq_getElem (by omega), hs] at ht
  exact (Option.some.inj ht).symm
theorem grow_any (A : Option Addr) (cap : Nat) (l : List Sp) (ob : List Blk) (c d : Cu) (W : World) (hv : SlS (.slice A l.length cap) l ob) (hO : Own (ob.map Blk.b) W W ob) (hn : l.length ≤ 1000000) (hl : x5 l) (hc : c.short) (hd : d.short) :
    Calls Tryz.prog 102 #[.slice A l.length cap, zI c, zI d] W fun e w' => ∃ v' ob', e = .returned v' ∧ SlS v' (vI l c d) ob' ∧ Own (ob.map Blk.b) W w' ob' := by
  unfold SlS at hv ⊢
  refine nC (n := 35) hO Tryz.func102 rfl (by kernel_rfl) (by kernel_rfl) (ZO (Zb (zI c) (fun b1 => Zb (zI d) (fun b2 => Zv (.slice none 0 0) (ZN (zB (ZO (Zv (.slice A l.length cap) ?_))))))))
  refine Zv (.int .i64 (l.length : Int)) (Zu (k := .i64) (((l.length : Int) : Int) - 1) (IntWalk.i64_in _ (by omega)) (Zv (.int .i64 (((l.length : Int) : Int) - 1)) (ZN (zB (vP (by kernel_rfl) (by kernel_rfl) (Zw (.int .i64 (((l.length : Int) : Int) - 1)) ?_))))))
  by_cases h1 : (0 : Int) ≤ ((l.length : Int) : Int) - 1
  · obtain ⟨g, cur, rfl, rfl, hcap, hmax, hsz, hcur⟩ := hv.block (by omega)
    obtain ⟨s, hs⟩ : ∃ s, l[l.length - 1]'(by omega) = s := ⟨_, rfl⟩
    have hsk : s.short := hs ▸ hl _ (List.getElem_mem _)
    refine Zi h1 (Zw Z4 (Zw (.slice (some ⟨g, 0, none⟩) l.length cap) (Zw (.int .i64 (((l.length : Int) : Int) - 1)) (gG (Zp g ((l.length - 1) * 14)) (by kernel_rfl) (ZV (b := g) (off := 0) (n := l.length) (c := cap) (k := .i64) (j := (l.length : Int) - 1) (e := 80) (sz := 14)) (Zw (Zp g ((l.length - 1) * 14 + 7)) (jB 2 ⟨g, cur, 80⟩ (off := (l.length - 1) * 14 + 7) (zI s.hi) (by kernel_rfl) rfl (by kernel_rfl) (by kernel_rfl) (xX yA hcur (l.length - 1) 7 (by omega) (by omega) _ (by rw [hs]; kernel_rfl)) (Zm 1 ⟨b1, (zI c).cells, 78⟩ (off := 0) (zI c) (Zq (k := 94) (args := #[zI s.hi, zI c]) (.int .i64 (zQ s.hi c)) (fun w _ => uB s.hi c w hsk.2 hc) ?_))))))))
    by_cases h2 : (zQ s.hi c : Int) = 0
    · refine Zi h2 (Zw Z4 (gH (zF (Zt (ZO (Zv (.slice (some ⟨g, 0, none⟩) l.length cap) (Zv (.int .i64 (((l.length : Int) : Int) - 1)) (Zl 0 ⟨b2, (zI d).cells, 78⟩ (off := 0) (zI d) (zX (Zp g ((l.length - 1) * 14)) (by kernel_rfl) (ZV (b := g) (off := 0) (n := l.length) (c := cap) (k := .i64) (j := (l.length : Int) - 1) (e := 80) (sz := 14)) (Zv (Zp g ((l.length - 1) * 14 + 7)) ?_))))))))))
      refine tF 2 ⟨g, cur, 80⟩ (off := (l.length - 1) * 14 + 7) (zI d) 7 (by kernel_rfl) rfl rfl (by kernel_rfl) (by kernel_rfl) (by kernel_rfl) (by kernel_rfl) (by kernel_rfl) (by show (l.length - 1) * 14 + 7 + 7 ≤ cur.size; omega) (by kernel_rfl) (ZR (Zv (.slice (some ⟨g, 0, none⟩) l.length cap) (Zv (.slice (some ⟨g, 0, none⟩) l.length cap) (ZN (zG (zD (ZF (.slice (some ⟨g, 0, none⟩) l.length cap) Tryz.results102 ?_)))))))
      have hse := fA yA hcur (l.length - 1) 7 (by omega) (zI d).cells ⟨s.lo, d⟩ (show 7 + 7 ≤ 14 by decide) (by rw [hs]; rfl)
      refine fun w hO => ⟨_, [⟨g, kJ cur ((l.length - 1) * 14 + 7) (zI d).cells, 80⟩], rfl, ?_, Own.take hO (fun x hx => by simp only [List.mem_singleton] at hx; subst hx; simp) (by simp)⟩
      rw [grow_set (by omega) hs (by assumption), List.length_set]
      exact ⟨by rw [xE yA, List.length_set], .inr ⟨g, cap, _, rfl, rfl, hcap, hmax, by rw [hse.2]; exact hsz, hse.1⟩⟩
    refine ZI h2 (Zw Z5 (gH (zF (Zf (ZB (ZO (Zv (.slice (some ⟨g, 0, none⟩) l.length cap) (Zl 1 ⟨b1, (zI c).cells, 78⟩ (off := 0) (zI c) (Zl 0 ⟨b2, (zI d).cells, 78⟩ (off := 0) (zI d) ?_)))))))))
    refine Zv (.agg (ZJ2 c d)) (vG 80 (ZJ2 c d) (by kernel_rfl) rfl (fun _ => by kernel_rfl) (fun b3 => kM (L' := [⟨b3, (ZJ2 c d), 80⟩, ⟨b2, (zI d).cells, 78⟩, ⟨b1, (zI c).cells, 78⟩] ++ [⟨g, cur, 80⟩] ++ []) (by simp) ?_))
    obtain ⟨i, z, e1, e2, e3, e4, e5⟩ := qH
    refine gQ (sz := 14) (by kernel_rfl) rfl Tryz.underlying29 e1 e2 e3 e4 (by kernel_rfl) hv (a := ⟨b3, 0, none⟩) (m := 1) (c := 1) (news := x6 ⟨c, d⟩) (by kernel_rfl) rfl (fun w hO j u hj => ?_) (gI _) (by unfold maxLen; omega) (by rw [e5]; omega) (fun v' ob' hv' => ?_)
    · rw [y7, cell_of_row w b3 (0 + j) (x6 ⟨c, d⟩).toArray 80 _ (hO.held ⟨b3, (x6 ⟨c, d⟩).toArray, 80⟩ (List.mem_append_left _ (List.mem_append_left _ (List.mem_cons_self ..))))]; simpa using hj
    refine Zv (v') (ZN (zG (ZF (v') Tryz.results102 (fun w hO => ⟨v', ob', rfl, by rw [grow_app (fun t ht => by rw [last_at (by omega) hs ht]; assumption)]; simpa using hv', Own.take hO (fun x hx => List.mem_append_left _ (List.mem_append_right _ hx)) ?_⟩))))
    have := hO.apart; rw [List.append_nil, List.map_append, List.nodup_append] at this; exact this.2.1
  refine ZI h1 (Zw Z5 (Zj (Zj (Zj (Zj (Zj (Zj (Zj (Zj (Zw Z5 (gH ?_)))))))))))
  refine zF (Zf (ZB (ZO (Zv (.slice A l.length cap) (Zl 1 ⟨b1, (zI c).cells, 78⟩ (off := 0) (zI c) (Zl 0 ⟨b2, (zI d).cells, 78⟩ (off := 0) (zI d) (Zv (.agg (ZJ2 c d)) (vG 80 (ZJ2 c d) (by kernel_rfl) rfl (fun _ => by kernel_rfl) (fun b3 => kM (L' := [⟨b3, (ZJ2 c d), 80⟩, ⟨b2, (zI d).cells, 78⟩, ⟨b1, (zI c).cells, 78⟩] ++ ob ++ []) (by simp) ?_)))))))))
  obtain ⟨i, z, e1, e2, e3, e4, e5⟩ := qH
  refine gQ (sz := 14) (by kernel_rfl) rfl Tryz.underlying29 e1 e2 e3 e4 (by kernel_rfl) hv (a := ⟨b3, 0, none⟩) (m := 1) (c := 1) (news := x6 ⟨c, d⟩) (by kernel_rfl) rfl (fun w hO j u hj => ?_) (gI _) (by unfold maxLen; omega) (by rw [e5]; omega) (fun v' ob' hv' => ?_)
  · rw [y7, cell_of_row w b3 (0 + j) (x6 ⟨c, d⟩).toArray 80 _ (hO.held ⟨b3, (x6 ⟨c, d⟩).toArray, 80⟩ (List.mem_append_left _ (List.mem_append_left _ (List.mem_cons_self ..))))]; simpa using hj
  refine Zv (v') (ZN (zG (ZF (v') Tryz.results102 (fun w hO => ⟨v', ob', rfl, by rw [grow_app (fun t ht => by have : l = [] := List.eq_nil_of_length_eq_zero (by omega); subst this; simp at ht)]; simpa using hv', Own.take hO (fun x hx => List.mem_append_left _ (List.mem_append_right _ hx)) ?_⟩))))
  have := hO.apart; rw [List.append_nil, List.map_append, List.nodup_append] at this; exact this.2.1
end
section
theorem putL_at {c : Cu} : ∀ {l : List Cu} (k : Nat) (hk : k < l.length), (∀ x ∈ l.take k, zQ x c < 0) → zQ l[k] c = 0 → gA c l = l
  | [], k, hk, _, _ => by simp at hk
  | d :: r, 0, hk, _, h => by
    have h' : zQ d c = 0 := h
    unfold gA
    rw [if_neg (by omega), if_pos h']
  | d :: r, k + 1, hk, ht, h => by
    have hd : zQ d c < 0 := ht d (by simp)
    unfold gA
    rw [if_pos hd, putL_at (l := r) k (by simpa using hk) (fun x hx => ht x (by simp [hx])) h]
theorem hJ {c : Cu} : ∀ {l : List Cu} (k : Nat) (hk : k ≤ l.length), (∀ x ∈ l.take k, zQ x c < 0) → (∀ h : k < l.length, ¬ zQ l[k] c < 0 ∧ ¬ zQ l[k] c = 0) → gA c l = l.take k ++ c :: l.drop k
  | [], k, hk, _, _ => by
    obtain rfl : k = 0 := by simpa using hk
    rfl
  | d :: r, 0, hk, _, h => by
    have h' : ¬ zQ d c < 0 ∧ ¬ zQ d c = 0 := h (by simp)
    unfold gA
    rw [if_neg h'.1, if_neg h'.2]; rfl
  | d :: r, k + 1, hk, ht, h => by
    have hd : zQ d c < 0 := ht d (by simp)
    unfold gA
    rw [if_pos hd, hJ (l := r) k (by simpa using hk) (fun x hx => ht x (by simp [hx])) (fun h0 => h (by simpa using h0))]; rfl
def uV (s : Cu) : List Value := (zI s).cells.toList
theorem xT (s : Cu) : (uV s).length = 7 := rfl
def ShortC (l : List Cu) : Prop := ∀ s ∈ l, s.short
def SlC (v : Value) (l : List Cu) (ob : List Blk) : Prop := Sl 78 7 v l.length (l.flatMap uV) ob
theorem cutInfo : (Tryz.prog.info? 78).map (fun i => (i.zero.map (·.cells.size), i.size, i.bytes)) = some (some 7, 7, 72) := by kernel_rfl
theorem cut_info : ∃ i z, Tryz.prog.info? 78 = some i ∧ i.zero = some z ∧ i.size = 7 ∧ z.cells.size = 7 ∧ i.bytes = 72 := by
  have h := cutInfo
  cases hi : Tryz.prog.info? 78 with
  | none => rw [hi] at h; cases h
  | some i =>
    rw [hi] at h
    simp only [Option.map_some, Option.some.injEq, Prod.mk.injEq] at h
    cases hz : i.zero with
    | none => rw [hz] at h; simp at h
    | some z => rw [hz] at h; simp at h; exact ⟨i, z, rfl, hz, h.2.1, h.1, h.2.2⟩
theorem dU (s : Cu) : ∀ u ∈ uV s, u.oneCell' = true := by
  intro u hu
  unfold uV zI at hu
  simp only [Value.cells, List.mem_cons, List.not_mem_nil, or_false] at hu
  rcases hu with rfl | rfl | rfl | rfl | rfl | rfl | rfl <;> rfl
theorem vM (l : List Cu) : ∀ u ∈ l.flatMap uV, u.oneCell' = true := fun u hu => by
  obtain ⟨x, _, hx⟩ := List.mem_flatMap.1 hu
  exact dU x u hx
theorem flat_drop {α : Type} {g : α → List Value} {sz : Nat} (hg : ∀ x, (g x).length = sz) (l : List α) (k : Nat) (hk : k ≤ l.length) : (l.drop k).flatMap g = (l.flatMap g).drop (k * sz) := by
  have e : l.flatMap g = (l.take k).flatMap g ++ (l.drop k).flatMap g := by rw [← List.flatMap_append, List.take_append_drop]
  have e2 : ((l.take k).flatMap g).length = k * sz := by rw [xE hg, List.length_take, Nat.min_eq_left hk]
  rw [e, ← e2, List.drop_left]
theorem flat_take {α : Type} {g : α → List Value} {sz : Nat} (hg : ∀ x, (g x).length = sz) (l : List α) (k : Nat) (hk : k ≤ l.length) : (l.take k).flatMap g = (l.flatMap g).take (k * sz) := by
  have e : l.flatMap g = (l.take k).flatMap g ++ (l.drop k).flatMap g := by rw [← List.flatMap_append, List.take_append_drop]
  have e2 : ((l.take k).flatMap g).length = k * sz := by rw [xE hg, List.length_take, Nat.min_eq_left hk]
  rw [e, ← e2, List.take_left]
theorem fK {α : Type} {g : α → List Value} {sz : Nat} (hg : ∀ x, (g x).length = sz) {cur : Array Value} {l : List α} (ht : cur.toList.take (l.length * sz) = l.flatMap g) (k : Nat) (hk : k ≤ l.length) {j : Nat} {u : Value} (hj : ((l.take k).flatMap g)[j]? = some u) : cur[0 + j]? = some u := by
  rw [flat_take hg l k hk, ← ht, List.take_take, Nat.min_eq_left (Nat.mul_le_mul_right _ hk), List.getElem?_take] at hj
  split at hj
  · rw [Nat.zero_add]; simpa using hj
  · cases hj
theorem f9 {α : Type} {g : α → List Value} {sz : Nat} (hg : ∀ x, (g x).length = sz) {cur : Array Value} {l : List α} (ht : cur.toList.take (l.length * sz) = l.flatMap g) (k cap : Nat) (hk : k ≤ l.length) (hc : l.length ≤ cap) {j : Nat} {u : Value} (hj : ((l.drop k).flatMap g)[j]? = some u) : cur[(0 + if cap = k then 0 else k * sz) + j]? = some u := by
  by_cases h : cap = k
  · have : l.drop k = [] := List.drop_of_length_le (by omega)
    rw [this] at hj; simp at hj
  · rw [if_neg h, Nat.zero_add]
    rw [flat_drop hg l k hk, ← ht, List.getElem?_drop, List.getElem?_take] at hj
    split at hj
    · simpa using hj
    · cases hj
theorem Sl.to {T : TypeId} {sz : Nat} {v : Value} {n n' : Nat} {xs xs' : List Value} {ob : List Blk} (h : Sl T sz v n xs ob) (e : n = n') (e' : xs = xs') : Sl T sz v n' xs' ob := by subst e; subst e'; exact h
theorem put_any (A : Option Addr) (cap : Nat) (l : List Cu) (ob : List Blk) (c : Cu) (W : World) (hv : SlC (.slice A l.length cap) l ob) (hO : Own (ob.map Blk.b) W W ob) (h0 : 0 < l.length) (hn : l.length ≤ 3000000) (hl : ShortC l) (hc : c.short) :
    Calls Tryz.prog 155 #[.slice A l.length cap, zI c] W fun e w' => ∃ v' ob', e = .returned v' ∧ SlC v' (gA c l) ob' ∧ Own (ob.map Blk.b) W w' ob' := by
  unfold SlC at hv ⊢
  obtain ⟨g, cur, rfl, rfl, hcap, hmax, hsz, hcur⟩ := hv.block h0
  refine nC (n := 46) hO Tryz.func155 rfl (by kernel_rfl) (by kernel_rfl) (ZO (Zb (zI c) (fun b1 => Zv (.slice none 0 0) (ZR (Zv (.int .i64 0) (zU (zF ?_)))))))
  refine zB (zP (x7 (fun L f m => ∃ (k : Nat) (j : Nat → Value), (k ≤ l.length ∧ ∀ x ∈ l.take k, zQ x c < 0) ∧ L = [⟨b1, (zI c).cells, 78⟩, ⟨g, cur, 78⟩] ∧ f = kL j [(0, .slice (some ⟨g, 0, none⟩) l.length cap), (3, Zp b1 0), (5, .int .i64 (k : Int))] ∧ m = l.length - k) (l.length - 0) ⟨0, _, ⟨Nat.zero_le _, by simp⟩, rfl, ZU, rfl⟩ ?_))
  rintro L f m ⟨k, j, hrel, rfl, rfl, rfl⟩
  have hkl := hrel.1
  refine zB (zB (vP (by kernel_rfl) (by kernel_rfl) (Zw (.int .i64 (k : Int)) (Zw (.slice (some ⟨g, 0, none⟩) l.length cap) (Zw (.int .i64 (l.length : Int)) ?_)))))
  by_cases h1 : (k : Int) < (l.length : Int)
  · have hk : k < l.length := by omega
    obtain ⟨s, hs⟩ : ∃ s, l[k] = s := ⟨_, rfl⟩
    have hsk : s.short := hs ▸ hl _ (List.getElem_mem _)
    refine Zi h1 (Zw Z4 (Zw (.slice (some ⟨g, 0, none⟩) l.length cap) (Zw (.int .i64 (k : Int)) (gG (Zp g (k * 7)) (by kernel_rfl) (gL (b := g) (off := 0) (n := l.length) (c := cap) (k := .i64) (j := (k : Int)) (e := 78) (sz := 7) rfl (by kernel_rfl) (by kernel_rfl) (by kernel_rfl) (by kernel_rfl) (by omega) (by omega) (by show 0 + k * 7 = k * 7; omega)) (jB 1 ⟨g, cur, 78⟩ (off := k * 7) (zI s) (by kernel_rfl) rfl (by kernel_rfl) (by kernel_rfl) (xX xT hcur k 0 (by omega) (by omega) _ (by rw [hs]; kernel_rfl)) (Zm 0 ⟨b1, (zI c).cells, 78⟩ (off := 0) (zI c) (Zq (k := 94) (args := #[zI s, zI c]) (.int .i64 (zQ s c)) (fun w _ => uB s c w hsk hc) ?_)))))))
    by_cases h2 : (zQ s c : Int) < 0
    · refine Zi h2 (Zw Z4 (gH (zF (Zt (ZB (zP (zC (Zv (.int .i64 (k : Int)) (Zu (k := .i64) (((k + 1 : Nat) : Int)) (IntWalk.i64_in _ (by omega)) (Zv (.int .i64 ((k + 1 : Nat) : Int)) ?_))))))))))
      refine zU (zV ?_)
      have hnext : ∀ x ∈ l.take (k + 1), zQ x c < 0 := by
        rw [List.take_succ_eq_append_getElem hk, hs]; intro x hx; rcases List.mem_append.1 hx with h | h; exact hrel.2 x h; obtain rfl : x = s := by simpa using h
        assumption
      exact zY (m' := l.length - (k + 1)) (by omega) ⟨k + 1, _, ⟨by omega, hnext⟩, rfl, ZU, rfl⟩
    refine ZI h2 (Zw Z5 (gH (zF (Zf (yE (zH (zS (zM (zF (zB (zB ?_)))))))))))
    refine vP (by kernel_rfl) (by kernel_rfl) (Zw (.int .i64 (k : Int)) (Zw (.slice (some ⟨g, 0, none⟩) l.length cap) (Zw (.int .i64 (l.length : Int)) (Zi h1 (Zw Z4 (Zw (.slice (some ⟨g, 0, none⟩) l.length cap) (Zw (.int .i64 (k : Int)) (gG (Zp g (k * 7)) (by kernel_rfl) (gL (b := g) (off := 0) (n := l.length) (c := cap) (k := .i64) (j := (k : Int)) (e := 78) (sz := 7) rfl (by kernel_rfl) (by kernel_rfl) (by kernel_rfl) (by kernel_rfl) (by omega) (by omega) (by show 0 + k * 7 = k * 7; omega)) (jB 1 ⟨g, cur, 78⟩ (off := k * 7) (zI s) (by kernel_rfl) rfl (by kernel_rfl) (by kernel_rfl) (xX xT hcur k 0 (by omega) (by omega) _ (by rw [hs]; kernel_rfl)) (Zm 0 ⟨b1, (zI c).cells, 78⟩ (off := 0) (zI c) (Zq (k := 94) (args := #[zI s, zI c]) (.int .i64 (zQ s c)) (fun w _ => uB s c w hsk hc) ?_)))))))))))
    by_cases h3 : (zQ s c : Int) = 0
    · refine Zi h3 (Zw Z4 (gH (zF (Zt (ZO (Zv (.slice (some ⟨g, 0, none⟩) l.length cap) (Zv (.slice (some ⟨g, 0, none⟩) l.length cap) (ZN (zG ?_)))))))))
      refine zD (ZF (.slice (some ⟨g, 0, none⟩) l.length cap) Tryz.results155 (fun w hO => ⟨_, [⟨g, cur, 78⟩], rfl, ?_, Own.take hO (fun x hx => by simp only [List.mem_singleton] at hx; subst hx; simp) (by simp)⟩))
      rw [putL_at k hk hrel.2 (by rw [hs]; assumption)]; exact hv
    refine ZI h3 (Zw Z5 (gH (zF (Zf (ZB (zB ?_))))))
    obtain ⟨i, z, e1, e2, e3, e4, e5⟩ := cut_info
    refine gM [⟨b1, (zI c).cells, 78⟩, ⟨g, cur, 78⟩] (by kernel_rfl) (fun w hO => hO) (Z3 0 _ (.slice (some ⟨g, 0, none⟩) l.length cap) rfl (zL zO) (fun w hO => hO) (Z3 1 _ (.int .i64 (k : Int)) rfl (zL zO) (fun w hO => hO) (j8 2 _ (.slice (some ⟨g, 0, none⟩) k cap) rfl (by kernel_rfl) (by kernel_rfl) (by kernel_rfl) (zL zO) (fun w hO => hO) (by kernel_rfl) (fun w _ => dA (b := g) (off := 0) (n := l.length) (c := cap) (k := .i64) (j := (k : Int)) (e := 78) (sz := 7) rfl (by kernel_rfl) (by kernel_rfl) (by kernel_rfl) (by kernel_rfl) (by omega) (by omega) w) (hl_load 4 _ 0 ⟨b1, (zI c).cells, 78⟩ (off := 0) (zI c) rfl (by kernel_rfl) (by kernel_rfl) (by kernel_rfl) (zL zO) (fun w hO => hO) (by kernel_rfl) rfl rfl (by kernel_rfl) (by kernel_rfl) (Z3 7 _ (.slice (some ⟨g, 0, none⟩) l.length cap) rfl (zL zO) (fun w hO => hO) (Z3 8 _ (.int .i64 (k : Int)) rfl (zL zO) (fun w hO => hO) (j8 9 _ (.slice (some ⟨g, 0 + (if cap = k then 0 else k * 7), none⟩) (l.length - k) (cap - k)) rfl (by kernel_rfl) (by kernel_rfl) (by kernel_rfl) (zL zO) (fun w hO => hO) (by kernel_rfl) (fun w _ => fX (b := g) (off := 0) (n := l.length) (c := cap) (k := .i64) (j := (k : Int)) (e := 78) (sz := 7) rfl (by kernel_rfl) (by kernel_rfl) (by kernel_rfl) (by kernel_rfl) (by omega) (by omega) w) (yH (L' := [] ++ [] ++ [⟨b1, (zI c).cells, 78⟩, ⟨g, cur, 78⟩]) rfl (kZ 3 5 (by kernel_rfl) ?_ ?_)))))))))
    · refine yJ (E := []) (ob := []) (R := [⟨b1, (zI c).cells, 78⟩, ⟨g, cur, 78⟩]) (sz := 7) _ rfl (by kernel_rfl) rfl Tryz.underlying118 e1 e2 e3 e4 (by kernel_rfl) (Sl.nil 78 7) (a := ⟨g, 0, none⟩) (m := k) (c := cap) (news := (l.take k).flatMap uV) (by kernel_rfl) (by rw [xE xT, List.length_take, Nat.min_eq_left (by omega)]) (fun w hO j u hj => ?_) (vM _) (by unfold maxLen; omega) (by rw [e5]; omega) (fun ob' w hO => Own.sub ([] ++ ob') hO) (fun va oa hva => ?_)
      · rw [y7, cell_of_row w g (0 + j) cur 78 _ (hO.held ⟨g, cur, 78⟩ (by simp))]; exact fK xT hcur k (by omega) hj
      refine Zz 5 (gT _ 78 (ZJ c) rfl (by kernel_rfl) rfl (fun w hO => Own.sub ([] ++ oa) hO) (fun _ => by kernel_rfl) (fun b2 => yH (L' := [⟨b2, (ZJ c), 78⟩] ++ oa ++ [⟨b1, (zI c).cells, 78⟩, ⟨g, cur, 78⟩]) (by simp) (Zz 6 (yJ (E := [⟨b2, (ZJ c), 78⟩]) (ob := oa) (R := [⟨b1, (zI c).cells, 78⟩, ⟨g, cur, 78⟩]) (sz := 7) _ rfl (by kernel_rfl) rfl Tryz.underlying118 e1 e2 e3 e4 (by kernel_rfl) hva (a := ⟨b2, 0, none⟩) (m := 1) (c := 1) (news := uV c) (by kernel_rfl) (rfl) (fun w hO j u hj => ?_) (dU _) (by unfold maxLen; omega) (by rw [e5]; omega) (fun ob' w hO => Own.sub ([⟨b2, (ZJ c), 78⟩] ++ ob') hO) (fun vb oq hvb => ?_)))))
      · rw [y7, cell_of_row w b2 (0 + j) (uV c).toArray 78 _ (hO.held ⟨b2, (uV c).toArray, 78⟩ (List.mem_append_left _ (List.mem_append_left _ (List.mem_cons_self ..))))]; simpa using hj
      refine Zz 10 (yJ (E := [⟨b2, (ZJ c), 78⟩]) (ob := oq) (R := [⟨b1, (zI c).cells, 78⟩, ⟨g, cur, 78⟩]) (sz := 7) _ rfl (by kernel_rfl) rfl Tryz.underlying118 e1 e2 e3 e4 (by kernel_rfl) hvb (a := ⟨g, 0 + (if cap = k then 0 else k * 7), none⟩) (m := l.length - k) (c := cap - k) (news := (l.drop k).flatMap uV) (by kernel_rfl) (by rw [xE xT, List.length_drop]) (fun w hO j u hj => ?_) (vM _) (by unfold maxLen; omega) (by rw [e5]; omega) (fun ob' w hO => Own.sub ([⟨b2, (ZJ c), 78⟩] ++ ob') hO) (fun vc oc hvc => ?_))
      · rw [y7, cell_of_row w g _ cur 78 _ (hO.held ⟨g, cur, 78⟩ (by simp))]; exact f9 xT hcur k cap (by omega) hcap hj
      refine Z3 11 _ vc rfl (zL zO) (fun w hO => Own.sub ([⟨b2, (ZJ c), 78⟩] ++ oc) hO) (ZZ (zF (zG (ZF (vc) Tryz.results155 (fun w hO => ⟨vc, oc, rfl, ?_, Own.take hO (fun x hx => List.mem_append_left _ (List.mem_append_right _ hx)) ?_⟩)))))
      · rw [hJ k (by omega) hrel.2 (fun h => by first | omega | (rw [hs]; exact ⟨by assumption, by assumption⟩))]
        exact hvc.to (by simp; omega) (by simp)
      · have := hO.apart; rw [List.map_append, List.map_append, List.nodup_append] at this; exact (List.nodup_append.1 this.1).2.1
    refine gT _ 78 (ZJ c) rfl (by kernel_rfl) rfl (fun w hO => hO) (fun _ => by kernel_rfl) (fun b2 => yH (L' := [⟨b2, (ZJ c), 78⟩] ++ [] ++ [⟨b1, (zI c).cells, 78⟩, ⟨g, cur, 78⟩]) rfl (Zz 3 (yJ (E := [⟨b2, (ZJ c), 78⟩]) (ob := []) (R := [⟨b1, (zI c).cells, 78⟩, ⟨g, cur, 78⟩]) (sz := 7) _ rfl (by kernel_rfl) rfl Tryz.underlying118 e1 e2 e3 e4 (by kernel_rfl) (Sl.nil 78 7) (a := ⟨g, 0, none⟩) (m := k) (c := cap) (news := (l.take k).flatMap uV) (by kernel_rfl) (by rw [xE xT, List.length_take, Nat.min_eq_left (by omega)]) (fun w hO j u hj => ?_) (vM _) (by unfold maxLen; omega) (by rw [e5]; omega) (fun ob' w hO => Own.sub ([⟨b2, (ZJ c), 78⟩] ++ ob') hO) (fun va oa hva => ?_))))
    · rw [y7, cell_of_row w g (0 + j) cur 78 _ (hO.held ⟨g, cur, 78⟩ (by simp))]; exact fK xT hcur k (by omega) hj
    refine Zz 6 (yJ (E := [⟨b2, (ZJ c), 78⟩]) (ob := oa) (R := [⟨b1, (zI c).cells, 78⟩, ⟨g, cur, 78⟩]) (sz := 7) _ rfl (by kernel_rfl) rfl Tryz.underlying118 e1 e2 e3 e4 (by kernel_rfl) hva (a := ⟨b2, 0, none⟩) (m := 1) (c := 1) (news := uV c) (by kernel_rfl) (rfl) (fun w hO j u hj => ?_) (dU _) (by unfold maxLen; omega) (by rw [e5]; omega) (fun ob' w hO => Own.sub ([⟨b2, (ZJ c), 78⟩] ++ ob') hO) (fun vb oq hvb => ?_))
    · rw [y7, cell_of_row w b2 (0 + j) (uV c).toArray 78 _ (hO.held ⟨b2, (uV c).toArray, 78⟩ (List.mem_append_left _ (List.mem_append_left _ (List.mem_cons_self ..))))]; simpa using hj
    refine Zz 10 (yJ (E := [⟨b2, (ZJ c), 78⟩]) (ob := oq) (R := [⟨b1, (zI c).cells, 78⟩, ⟨g, cur, 78⟩]) (sz := 7) _ rfl (by kernel_rfl) rfl Tryz.underlying118 e1 e2 e3 e4 (by kernel_rfl) hvb (a := ⟨g, 0 + (if cap = k then 0 else k * 7), none⟩) (m := l.length - k) (c := cap - k) (news := (l.drop k).flatMap uV) (by kernel_rfl) (by rw [xE xT, List.length_drop]) (fun w hO j u hj => ?_) (vM _) (by unfold maxLen; omega) (by rw [e5]; omega) (fun ob' w hO => Own.sub ([⟨b2, (ZJ c), 78⟩] ++ ob') hO) (fun vc oc hvc => ?_))
    · rw [y7, cell_of_row w g _ cur 78 _ (hO.held ⟨g, cur, 78⟩ (by simp))]; exact f9 xT hcur k cap (by omega) hcap hj
    refine Z3 11 _ vc rfl (zL zO) (fun w hO => Own.sub ([⟨b2, (ZJ c), 78⟩] ++ oc) hO) (ZZ (zF (zG (ZF (vc) Tryz.results155 (fun w hO => ⟨vc, oc, rfl, ?_, Own.take hO (fun x hx => List.mem_append_left _ (List.mem_append_right _ hx)) ?_⟩)))))
    · rw [hJ k (by omega) hrel.2 (fun h => by first | omega | (rw [hs]; exact ⟨by assumption, by assumption⟩))]
      exact hvc.to (by simp; omega) (by simp)
    · have := hO.apart; rw [List.map_append, List.map_append, List.nodup_append] at this; exact (List.nodup_append.1 this.1).2.1
  refine ZI h1 (Zw Z5 (Zj (Zj (Zj (Zj (Zj (Zj (Zj (Zw Z5 (gH (zF ?_)))))))))))
  refine Zf (yE (zH (zS (zM (zF (zB (zB (vP (by kernel_rfl) (by kernel_rfl) (Zw (.int .i64 (k : Int)) (Zw (.slice (some ⟨g, 0, none⟩) l.length cap) (Zw (.int .i64 (l.length : Int)) ?_)))))))))))
  refine ZI h1 (Zw Z5 (Zj (Zj (Zj (Zj (Zj (Zj (Zj (Zw Z5 (gH (zF ?_)))))))))))
  refine Zf (ZB (zB ?_))
  obtain ⟨i, z, e1, e2, e3, e4, e5⟩ := cut_info
  refine gM [⟨b1, (zI c).cells, 78⟩, ⟨g, cur, 78⟩] (by kernel_rfl) (fun w hO => hO) (Z3 0 _ (.slice (some ⟨g, 0, none⟩) l.length cap) rfl (zL zO) (fun w hO => hO) (Z3 1 _ (.int .i64 (k : Int)) rfl (zL zO) (fun w hO => hO) (j8 2 _ (.slice (some ⟨g, 0, none⟩) k cap) rfl (by kernel_rfl) (by kernel_rfl) (by kernel_rfl) (zL zO) (fun w hO => hO) (by kernel_rfl) (fun w _ => dA (b := g) (off := 0) (n := l.length) (c := cap) (k := .i64) (j := (k : Int)) (e := 78) (sz := 7) rfl (by kernel_rfl) (by kernel_rfl) (by kernel_rfl) (by kernel_rfl) (by omega) (by omega) w) (hl_load 4 _ 0 ⟨b1, (zI c).cells, 78⟩ (off := 0) (zI c) rfl (by kernel_rfl) (by kernel_rfl) (by kernel_rfl) (zL zO) (fun w hO => hO) (by kernel_rfl) rfl rfl (by kernel_rfl) (by kernel_rfl) (Z3 7 _ (.slice (some ⟨g, 0, none⟩) l.length cap) rfl (zL zO) (fun w hO => hO) (Z3 8 _ (.int .i64 (k : Int)) rfl (zL zO) (fun w hO => hO) (j8 9 _ (.slice (some ⟨g, 0 + (if cap = k then 0 else k * 7), none⟩) (l.length - k) (cap - k)) rfl (by kernel_rfl) (by kernel_rfl) (by kernel_rfl) (zL zO) (fun w hO => hO) (by kernel_rfl) (fun w _ => fX (b := g) (off := 0) (n := l.length) (c := cap) (k := .i64) (j := (k : Int)) (e := 78) (sz := 7) rfl (by kernel_rfl) (by kernel_rfl) (by kernel_rfl) (by kernel_rfl) (by omega) (by omega) w) (yH (L' := [] ++ [] ++ [⟨b1, (zI c).cells, 78⟩, ⟨g, cur, 78⟩]) rfl (kZ 3 5 (by kernel_rfl) ?_ ?_)))))))))
  · refine yJ (E := []) (ob := []) (R := [⟨b1, (zI c).cells, 78⟩, ⟨g, cur, 78⟩]) (sz := 7) _ rfl (by kernel_rfl) rfl Tryz.underlying118 e1 e2 e3 e4 (by kernel_rfl) (Sl.nil 78 7) (a := ⟨g, 0, none⟩) (m := k) (c := cap) (news := (l.take k).flatMap uV) (by kernel_rfl) (by rw [xE xT, List.length_take, Nat.min_eq_left (by omega)]) (fun w hO j u hj => ?_) (vM _) (by unfold maxLen; omega) (by rw [e5]; omega) (fun ob' w hO => Own.sub ([] ++ ob') hO) (fun va oa hva => ?_)
    · rw [y7, cell_of_row w g (0 + j) cur 78 _ (hO.held ⟨g, cur, 78⟩ (by simp))]; exact fK xT hcur k (by omega) hj
    refine Zz 5 (gT _ 78 (ZJ c) rfl (by kernel_rfl) rfl (fun w hO => Own.sub ([] ++ oa) hO) (fun _ => by kernel_rfl) (fun b2 => yH (L' := [⟨b2, (ZJ c), 78⟩] ++ oa ++ [⟨b1, (zI c).cells, 78⟩, ⟨g, cur, 78⟩]) (by simp) (Zz 6 (yJ (E := [⟨b2, (ZJ c), 78⟩]) (ob := oa) (R := [⟨b1, (zI c).cells, 78⟩, ⟨g, cur, 78⟩]) (sz := 7) _ rfl (by kernel_rfl) rfl Tryz.underlying118 e1 e2 e3 e4 (by kernel_rfl) hva (a := ⟨b2, 0, none⟩) (m := 1) (c := 1) (news := uV c) (by kernel_rfl) (rfl) (fun w hO j u hj => ?_) (dU _) (by unfold maxLen; omega) (by rw [e5]; omega) (fun ob' w hO => Own.sub ([⟨b2, (ZJ c), 78⟩] ++ ob') hO) (fun vb oq hvb => ?_)))))
    · rw [y7, cell_of_row w b2 (0 + j) (uV c).toArray 78 _ (hO.held ⟨b2, (uV c).toArray, 78⟩ (List.mem_append_left _ (List.mem_append_left _ (List.mem_cons_self ..))))]; simpa using hj
    refine Zz 10 (yJ (E := [⟨b2, (ZJ c), 78⟩]) (ob := oq) (R := [⟨b1, (zI c).cells, 78⟩, ⟨g, cur, 78⟩]) (sz := 7) _ rfl (by kernel_rfl) rfl Tryz.underlying118 e1 e2 e3 e4 (by kernel_rfl) hvb (a := ⟨g, 0 + (if cap = k then 0 else k * 7), none⟩) (m := l.length - k) (c := cap - k) (news := (l.drop k).flatMap uV) (by kernel_rfl) (by rw [xE xT, List.length_drop]) (fun w hO j u hj => ?_) (vM _) (by unfold maxLen; omega) (by rw [e5]; omega) (fun ob' w hO => Own.sub ([⟨b2, (ZJ c), 78⟩] ++ ob') hO) (fun vc oc hvc => ?_))
    · rw [y7, cell_of_row w g _ cur 78 _ (hO.held ⟨g, cur, 78⟩ (by simp))]; exact f9 xT hcur k cap (by omega) hcap hj
    refine Z3 11 _ vc rfl (zL zO) (fun w hO => Own.sub ([⟨b2, (ZJ c), 78⟩] ++ oc) hO) (ZZ (zF (zG (ZF (vc) Tryz.results155 (fun w hO => ⟨vc, oc, rfl, ?_, Own.take hO (fun x hx => List.mem_append_left _ (List.mem_append_right _ hx)) ?_⟩)))))
    · rw [hJ k (by omega) hrel.2 (fun h => by first | omega | (rw [hs]; exact ⟨by assumption, by assumption⟩))]
      exact hvc.to (by simp; omega) (by simp)
    · have := hO.apart; rw [List.map_append, List.map_append, List.nodup_append] at this; exact (List.nodup_append.1 this.1).2.1
  refine gT _ 78 (ZJ c) rfl (by kernel_rfl) rfl (fun w hO => hO) (fun _ => by kernel_rfl) (fun b2 => yH (L' := [⟨b2, (ZJ c), 78⟩] ++ [] ++ [⟨b1, (zI c).cells, 78⟩, ⟨g, cur, 78⟩]) rfl (Zz 3 (yJ (E := [⟨b2, (ZJ c), 78⟩]) (ob := []) (R := [⟨b1, (zI c).cells, 78⟩, ⟨g, cur, 78⟩]) (sz := 7) _ rfl (by kernel_rfl) rfl Tryz.underlying118 e1 e2 e3 e4 (by kernel_rfl) (Sl.nil 78 7) (a := ⟨g, 0, none⟩) (m := k) (c := cap) (news := (l.take k).flatMap uV) (by kernel_rfl) (by rw [xE xT, List.length_take, Nat.min_eq_left (by omega)]) (fun w hO j u hj => ?_) (vM _) (by unfold maxLen; omega) (by rw [e5]; omega) (fun ob' w hO => Own.sub ([⟨b2, (ZJ c), 78⟩] ++ ob') hO) (fun va oa hva => ?_))))
  · rw [y7, cell_of_row w g (0 + j) cur 78 _ (hO.held ⟨g, cur, 78⟩ (by simp))]; exact fK xT hcur k (by omega) hj
  refine Zz 6 (yJ (E := [⟨b2, (ZJ c), 78⟩]) (ob := oa) (R := [⟨b1, (zI c).cells, 78⟩, ⟨g, cur, 78⟩]) (sz := 7) _ rfl (by kernel_rfl) rfl Tryz.underlying118 e1 e2 e3 e4 (by kernel_rfl) hva (a := ⟨b2, 0, none⟩) (m := 1) (c := 1) (news := uV c) (by kernel_rfl) (rfl) (fun w hO j u hj => ?_) (dU _) (by unfold maxLen; omega) (by rw [e5]; omega) (fun ob' w hO => Own.sub ([⟨b2, (ZJ c), 78⟩] ++ ob') hO) (fun vb oq hvb => ?_))
  · rw [y7, cell_of_row w b2 (0 + j) (uV c).toArray 78 _ (hO.held ⟨b2, (uV c).toArray, 78⟩ (List.mem_append_left _ (List.mem_append_left _ (List.mem_cons_self ..))))]; simpa using hj
  refine Zz 10 (yJ (E := [⟨b2, (ZJ c), 78⟩]) (ob := oq) (R := [⟨b1, (zI c).cells, 78⟩, ⟨g, cur, 78⟩]) (sz := 7) _ rfl (by kernel_rfl) rfl Tryz.underlying118 e1 e2 e3 e4 (by kernel_rfl) hvb (a := ⟨g, 0 + (if cap = k then 0 else k * 7), none⟩) (m := l.length - k) (c := cap - k) (news := (l.drop k).flatMap uV) (by kernel_rfl) (by rw [xE xT, List.length_drop]) (fun w hO j u hj => ?_) (vM _) (by unfold maxLen; omega) (by rw [e5]; omega) (fun ob' w hO => Own.sub ([⟨b2, (ZJ c), 78⟩] ++ ob') hO) (fun vc oc hvc => ?_))
  · rw [y7, cell_of_row w g _ cur 78 _ (hO.held ⟨g, cur, 78⟩ (by simp))]; exact f9 xT hcur k cap (by omega) hcap hj
  refine Z3 11 _ vc rfl (zL zO) (fun w hO => Own.sub ([⟨b2, (ZJ c), 78⟩] ++ oc) hO) (ZZ (zF (zG (ZF (vc) Tryz.results155 (fun w hO => ⟨vc, oc, rfl, ?_, Own.take hO (fun x hx => List.mem_append_left _ (List.mem_append_right _ hx)) ?_⟩)))))
  · rw [hJ k (by omega) hrel.2 (fun h => by first | omega | (rw [hs]; exact ⟨by assumption, by assumption⟩))]
    exact hvc.to (by simp; omega) (by simp)
  · have := hO.apart; rw [List.map_append, List.map_append, List.nodup_append] at this; exact (List.nodup_append.1 this.1).2.1
end
section
theorem Own.lend {M : List Nat} {W w : World} {L : List Blk} (h : Own M W w L) : Own (L.map Blk.b) w w L :=
  ⟨rfl, rfl, rfl, Nat.le_refl _, Nat.le_refl _, fun _ _ _ => rfl, h.held, fun x hx => .inr (List.mem_map.2 ⟨x, hx, rfl⟩), h.apart⟩
theorem SlC.form {v : Value} {l : List Cu} {ob : List Blk} (h : SlC v l ob) : ∃ A cap, v = .slice A l.length cap := by
  rcases h.2 with ⟨h1, h2, _⟩ | ⟨g, cap, cur, h1, _⟩
  · exact ⟨none, 0, by rw [h1, h2]⟩
  · exact ⟨_, cap, h1⟩
theorem put_call {M : List Nat} {W w : World} {v : Value} {l : List Cu} {ob : List Blk} (c : Cu) (hO : Own M W w ob) (hv : SlC v l ob) (h0 : 0 < l.length) (hn : l.length ≤ 3000000) (hl : ShortC l) (hc : c.short) :
    Calls Tryz.prog 155 #[v, zI c] w fun e w' => ∃ v' ob', e = .returned v' ∧ SlC v' (gA c l) ob' ∧ Own M W w' ob' := by
  obtain ⟨A, cap, rfl⟩ := hv.form
  refine (put_any A cap l ob c w hv hO.lend h0 hn hl hc).mono fun e w' ⟨v', ob', h1, h2, h3⟩ => ⟨v', ob', h1, h2, ?_⟩
  have := Own.join (R := []) (by simpa using hO) h3
  simpa using this
theorem tL (c : Cu) : ∀ (l : List Cu), (gA c l).length ≤ l.length + 1 ∧ 0 < (gA c l).length
  | [] => ⟨by simp [gA], by simp [gA]⟩
  | d :: r => by
    have ih := tL c r
    unfold gA
    split
    · simp; omega
    · split <;> simp
theorem pD {c : Cu} (hc : c.short) {l : List Cu} (hl : ShortC l) : ShortC (gA c l) := fun x hx => by
  rcases putL_mem c l x hx with rfl | h
  · exact hc
  · exact hl x h
theorem cuts_step (l : List Sp) (k : Nat) (hk : k < l.length) : gB (l.take (k + 1)) = gA l[k].hi (gA l[k].lo (gB (l.take k))) := by
  unfold gB
  rw [List.take_succ_eq_append_getElem hk, List.foldl_append]; rfl
theorem dT (l : List Sp) (hl : x5 l) : ∀ (k : Nat), k ≤ l.length → (gB (l.take k)).length ≤ 2 + 2 * k ∧ 0 < (gB (l.take k)).length ∧ ShortC (gB (l.take k))
  | 0, _ => ⟨by simp [gB], by simp [gB], fun x hx => by
      simp only [gB, List.take_zero, List.foldl_nil, List.mem_cons, List.not_mem_nil, or_false] at hx
      rcases hx with rfl | rfl <;> exact ⟨by simp [y8, Ver.zero], by simp [y8, Ver.zero]⟩⟩
  | k + 1, h => by
    have ih := dT l hl k (by omega)
    have hs := hl l[k] (List.getElem_mem _)
    rw [cuts_step l k h]
    have e1 := tL l[k].lo (gB (l.take k))
    have e2 := tL l[k].hi (gA l[k].lo (gB (l.take k)))
    exact ⟨by omega, e2.2, pD hs.2 (pD hs.1 ih.2.2)⟩
theorem rfirst_any (W : World) : Calls Tryz.prog 147 #[] W fun e w' => e = .returned (zI (y8 (-1))) ∧ Below W.heap.size W w' := by
  refine Z2 (n := 2) Tryz.func147 rfl (ZO (Za (.agg ZE) (fun b1 => ZR (Zv (.agg Z0) (Zs 0 ⟨b1, ZE, 78⟩ (off := 0) (.agg Z0) (zU (zF ?_)))))))
  exact zG (ZC 0 ⟨b1, Z0, 78⟩ (off := 0) (.agg Z0) Tryz.results147 (fun w hO => ⟨rfl, hO.below⟩))
theorem rlast_any (W : World) : Calls Tryz.prog 148 #[] W fun e w' => e = .returned (zI (y8 (1))) ∧ Below W.heap.size W w' := by
  refine Z2 (n := 2) Tryz.func148 rfl (ZO (Za (.agg ZE) (fun b1 => ZR (Zv (.agg Z6) (Zs 0 ⟨b1, ZE, 78⟩ (off := 0) (.agg Z6) (zU (zF ?_)))))))
  exact zG (ZC 0 ⟨b1, Z6, 78⟩ (off := 0) (.agg Z6) Tryz.results148 (fun w hO => ⟨rfl, hO.below⟩))
theorem cuts_any (A : Option Addr) (cap : Nat) (l : List Sp) (W : World) (hv : Reads x6 W W.heap.size A l) (hn : l.length ≤ 1000000) (hl : x5 l) :
    Calls Tryz.prog 100 #[.slice A l.length cap] W fun e w' => ∃ v' ob', e = .returned v' ∧ SlC v' (gB l) ob' ∧ Own [] W w' ob' := by
  refine Z2 (n := 28) Tryz.func100 rfl (ZO (Zv (.slice none 0 0) (ZR (Zc (k := 147) (args := #[]) (zI (y8 (-1))) (fun w _ => rfirst_any w) (Zc (k := 148) (args := #[]) (zI (y8 1)) (fun w _ => rlast_any w) (vG 78 #[.int .i64 ((y8 (-1)).e), .int .i64 ((y8 (-1)).v.maj), .int .i64 ((y8 (-1)).v.min), .int .i64 ((y8 (-1)).v.pat), .string (mkS (y8 (-1)).v.pre), .string (mkS (y8 (-1)).v.build), .bool ((y8 (-1)).aft), .int .i64 ((y8 1).e), .int .i64 ((y8 1).v.maj), .int .i64 ((y8 1).v.min), .int .i64 ((y8 1).v.pat), .string (mkS (y8 1).v.pre), .string (mkS (y8 1).v.build), .bool ((y8 1).aft)] (by kernel_rfl) rfl (fun _ => by kernel_rfl) (fun b1 => Zv (.slice (some ⟨b1, 0, none⟩) 2 2) ?_)))))))
  refine ZN (zB (ZO (Zv (.int .i64 0) (ZN (zP ?_)))))
  have hstart : SlC (.slice (some ⟨b1, 0, none⟩) 2 2) (gB (l.take 0)) [⟨b1, #[.int .i64 ((y8 (-1)).e), .int .i64 ((y8 (-1)).v.maj), .int .i64 ((y8 (-1)).v.min), .int .i64 ((y8 (-1)).v.pat), .string (mkS (y8 (-1)).v.pre), .string (mkS (y8 (-1)).v.build), .bool ((y8 (-1)).aft), .int .i64 ((y8 1).e), .int .i64 ((y8 1).v.maj), .int .i64 ((y8 1).v.min), .int .i64 ((y8 1).v.pat), .string (mkS (y8 1).v.pre), .string (mkS (y8 1).v.build), .bool ((y8 1).aft)], 78⟩] := ⟨rfl, .inr ⟨b1, 2, _, rfl, rfl, Nat.le_refl _, by unfold maxLen; omega, rfl, rfl⟩⟩
  refine gV (L' := [⟨b1, #[.int .i64 ((y8 (-1)).e), .int .i64 ((y8 (-1)).v.maj), .int .i64 ((y8 (-1)).v.min), .int .i64 ((y8 (-1)).v.pat), .string (mkS (y8 (-1)).v.pre), .string (mkS (y8 (-1)).v.build), .bool ((y8 (-1)).aft), .int .i64 ((y8 1).e), .int .i64 ((y8 1).v.maj), .int .i64 ((y8 1).v.min), .int .i64 ((y8 1).v.pat), .string (mkS (y8 1).v.pre), .string (mkS (y8 1).v.build), .bool ((y8 1).aft)], 78⟩] ++ []) rfl (x7 (fun L f m => ∃ (k : Nat) (v : Value) (ob : List Blk) (j : Nat → Value), (k ≤ l.length ∧ SlC v (gB (l.take k)) ob) ∧ L = ob ++ [] ∧ f = kL j [(0, .slice A l.length cap), (3, v), (4, .int .i64 (k : Int))] ∧ m = l.length - k) (l.length - 0) ⟨0, _, [⟨b1, #[.int .i64 ((y8 (-1)).e), .int .i64 ((y8 (-1)).v.maj), .int .i64 ((y8 (-1)).v.min), .int .i64 ((y8 (-1)).v.pat), .string (mkS (y8 (-1)).v.pre), .string (mkS (y8 (-1)).v.build), .bool ((y8 (-1)).aft), .int .i64 ((y8 1).e), .int .i64 ((y8 1).v.maj), .int .i64 ((y8 1).v.min), .int .i64 ((y8 1).v.pat), .string (mkS (y8 1).v.pre), .string (mkS (y8 1).v.build), .bool ((y8 1).aft)], 78⟩], _, ⟨Nat.zero_le _, hstart⟩, rfl, ZU, rfl⟩ ?_)
  rintro L f m ⟨k, v, ob, j, hrel, rfl, rfl, rfl⟩
  have hkl := hrel.1
  refine zB (ZO (Zv (.int .i64 (k : Int)) (Zv (.slice A l.length cap) (Zv (.int .i64 (l.length : Int)) ?_))))
  by_cases h1 : (k : Int) < (l.length : Int)
  · have hk : k < l.length := by omega
    obtain ⟨b, off, hA, hlt, hcell⟩ := hv (by omega)
    obtain ⟨s, hs⟩ : ∃ s, l[k] = s := ⟨_, rfl⟩
    have hsk : s.short := hs ▸ hl _ (List.getElem_mem _)
    have hcz := dT l hl k hkl
    refine Zg h1 (ZY (ZB (zB (zP (gV (L' := ob) (by simp) (gM [] (by kernel_rfl) (fun w hO => Own.take hO (by simp) (by simp)) (Z3 0 _ (v) rfl (y5 (zL (k8 (y5 (zL zO))))) (fun w hO => Own.take hO (by simp) (by simp)) (Z3 1 _ (.slice A l.length cap) rfl (y5 (zL (k8 (y5 (zL zO))))) (fun w hO => Own.take hO (by simp) (by simp)) ?_))))))))
    refine Z3 2 _ (.int .i64 (k : Int)) rfl (y5 (zL (k8 (y5 (zL zO))))) (fun w hO => Own.take hO (by simp) (by simp)) (j8 3 _ (Zp b (off + k * 14)) rfl (by kernel_rfl) (by kernel_rfl) (by kernel_rfl) (y5 (zL (k8 (y5 (zL zO))))) (fun w hO => Own.take hO (by simp) (by simp)) (by kernel_rfl) (fun w _ => jS (b := b) (off := off) (c := cap) (n := l.length) (k := .i64) (j := (k : Int)) (e := 80) (sz := 14) rfl (by kernel_rfl) hA (by kernel_rfl) (by kernel_rfl) (by kernel_rfl) (by omega) (by omega) (by show off + k * 14 = off + k * 14; rfl) w) (Z3 4 _ (Zp b (off + k * 14 + 0)) rfl (y5 (zL (k8 (y5 (zL zO))))) (fun w hO => Own.take hO (by simp) (by simp)) (pR 5 _ (a := ⟨b, off + k * 14 + 0, none⟩) (zI s.lo) rfl (by kernel_rfl) (by kernel_rfl) (by kernel_rfl) (y5 (zL (k8 (y5 (zL zO))))) (fun w hO => Own.take hO (by simp) (by simp)) (by kernel_rfl) rfl (by kernel_rfl) (fun w hO => yF yA (fun j u h => (hO.below.cell (p := ⟨b, off + j, none⟩) hlt).trans (hcell j u h)) k 0 hk (by omega) _ (by rw [hs]; kernel_rfl)) (Z3 7 _ (.slice A l.length cap) rfl (y5 (zL (k8 (y5 (zL zO))))) (fun w hO => Own.take hO (by simp) (by simp)) (Z3 8 _ (.int .i64 (k : Int)) rfl (y5 (zL (k8 (y5 (zL zO))))) (fun w hO => Own.take hO (by simp) (by simp)) (j8 9 _ (Zp b (off + k * 14)) rfl (by kernel_rfl) (by kernel_rfl) (by kernel_rfl) (y5 (zL (k8 (y5 (zL zO))))) (fun w hO => Own.take hO (by simp) (by simp)) (by kernel_rfl) (fun w _ => jS (b := b) (off := off) (c := cap) (n := l.length) (k := .i64) (j := (k : Int)) (e := 80) (sz := 14) rfl (by kernel_rfl) hA (by kernel_rfl) (by kernel_rfl) (by kernel_rfl) (by omega) (by omega) (by show off + k * 14 = off + k * 14; rfl) w) (Z3 10 _ (Zp b (off + k * 14 + 7)) rfl (y5 (zL (k8 (y5 (zL zO))))) (fun w hO => Own.take hO (by simp) (by simp)) (pR 11 _ (a := ⟨b, off + k * 14 + 7, none⟩) (zI s.hi) rfl (by kernel_rfl) (by kernel_rfl) (by kernel_rfl) (y5 (zL (k8 (y5 (zL zO))))) (fun w hO => Own.take hO (by simp) (by simp)) (by kernel_rfl) rfl (by kernel_rfl) (fun w hO => yF yA (fun j u h => (hO.below.cell (p := ⟨b, off + j, none⟩) hlt).trans (hcell j u h)) k 7 hk (by omega) _ (by rw [hs]; kernel_rfl)) ?_))))))))
    have hp1 := tL s.lo (gB (l.take k))
    refine Zz 6 (yN _ (k := 155) (args := #[v, zI s.lo]) (fun v' L' => SlC v' (gA s.lo (gB (l.take k))) L') rfl (by kernel_rfl) (fun _ => by kernel_rfl) (fun w hO => put_call s.lo hO hrel.2 hcz.2.1 (by omega) hcz.2.2 hsk.1) (fun _ _ _ => (fun w hO => Own.take hO (by simp) (by simp))) (fun v1 ob1 hv1 => Zz 12 (yN _ (k := 155) (args := #[v1, zI s.hi]) (fun v' L' => SlC v' (gA s.hi (gA s.lo (gB (l.take k)))) L') rfl (by kernel_rfl) (fun _ => by kernel_rfl) (fun w hO => put_call s.hi hO hv1 hp1.2 (by omega) (pD hsk.1 hcz.2.2) hsk.2) (fun _ _ _ => (fun w hO => Own.take hO (by simp) (by simp))) (fun v2 ob2 hv2 => Z3 13 _ (v2) rfl (y5 (zL (k8 (y5 (zL zO))))) (fun w hO => Own.take hO (by simp) (by simp)) (ZZ (yO (L' := ob2 ++ []) (by simp) (zV (zF (zC (Zv (.int .i64 (k : Int)) (Zu (k := .i64) (((k + 1 : Nat) : Int)) (IntWalk.i64_in _ (by omega)) ?_)))))))))))
    refine Zv (.int .i64 ((k + 1 : Nat) : Int)) (zU ?_)
    have hnext : SlC v2 (gB (l.take (k + 1))) ob2 := by rw [cuts_step l k hk, hs]; exact hv2
    exact zY (m' := l.length - (k + 1)) (by omega) ⟨k + 1, v2, ob2, _, ⟨by omega, hnext⟩, rfl, ZU, rfl⟩
  refine Zh h1 (ZX (yE (zH (zS (zM (zF (ZO (Zv (v) ?_))))))))
  exact Zv (v) (ZN (zG (ZF (v) Tryz.results100 (fun w hO => ⟨v, ob, rfl, by have h := hrel.2; rwa [List.take_of_length_le (by omega)] at h, by simpa using hO⟩))))
end
section
section
variable {M : List Nat} {P : Program} {n : Nat} {ops : Array Oper} {W : World} {Q : Exit → Act → World → Prop} {L0 L : List Blk} {f : Nat → Value} {fuel : Nat} {listed : Array Bool} {rest : List Oper} {o : Oper}
theorem s_callo {k : FuncId} {args : Array Value} (R : Value → List Blk → Prop) (hw : xR ops n f o = true) (he : ∀ w, (execOp (ev n f) o).run P w = .ok (.enter k args) w)
    (hc : ∀ w, Own M W w L → Calls P k args w fun e w' => ∃ v L', e = .returned v ∧ R v L' ∧ Own M W w' L') (h : ∀ v L', R v L' → Seg M P n ops W Q rest L' (upd f o.dst v)) : Seg M P n ops W Q (o :: rest) L f :=
  jA hw fun w hO => t8 (he w) ((hc w hO).mono fun e w' ⟨v, L', e1, e2, e3⟩ => ⟨v, e1, (h v L' e2).go w' e3⟩)
theorem Zr {k : FuncId} {args : Array Value} (R : Value → List Blk → Prop) (hc : ∀ w, Own M W w L → Calls P k args w fun e w' => ∃ v L', e = .returned v ∧ R v L' ∧ Own M W w' L') (h : ∀ v L', R v L' → Seg M P n ops W Q rest L' (upd f o.dst v)) (hw : xR ops n f o = true := by kernel_rfl) (he : ∀ w, (execOp (ev n f) o).run P w = .ok (.enter k args) w := by intro _; kernel_rfl) : Seg M P n ops W Q (o :: rest) L f := s_callo R hw he hc h
theorem hl_sum {k : IntKind} (i : Nat) (oi : Oper) (z : Int) (hi : ops[i]? = some oi) (hs : Region.noSelect ops = true) (hf : Region.free .any ops listed i = true) (hr : (Region.ready .any ops listed).contains i = true)
    (hQ : PQ Q) (hsub : ∀ w, Own M W w L → Own M W w L0) (hw : xR ops n f oi = true) (hrun : ∀ w, (execOp (ev n f) oi).run P w = .ok (.value (.int k (k.wrap z))) w) (hz : k.wrap z = z)
    (h : qU M P n ops W L0 Q fuel (listed.setIfInBounds i true) L (upd f oi.dst (.int k z))) : qU M P n ops W L0 Q (fuel + 1) listed L f :=
  j8 i oi (.int k z) hi hs hf hr hQ hsub hw (fun w _ => by rw [hrun w, hz]) h
theorem Own.perm {w : World} {L' : List Blk} (h : Own M W w L) (hp : L.Perm L') : Own M W w L' :=
  h.take (fun x hx => hp.mem_iff.2 hx) ((hp.map Blk.b).nodup_iff.1 h.apart)
end
theorem SlS.form {v : Value} {l : List Sp} {ob : List Blk} (h : SlS v l ob) : ∃ A cap, v = .slice A l.length cap := by
  rcases h.2 with ⟨h1, h2, _⟩ | ⟨g, cap, cur, h1, _⟩
  · exact ⟨none, 0, by rw [h1, h2]⟩
  · exact ⟨_, cap, h1⟩
theorem grow_call {M : List Nat} {W w : World} {v : Value} {l : List Sp} {x : Blk} {ob : List Blk} (c d : Cu) (hO : Own M W w (x :: ob)) (hv : SlS v l ob) (hn : l.length ≤ 1000000) (hl : x5 l) (hc : c.short) (hd : d.short) :
    Calls Tryz.prog 102 #[v, zI c, zI d] w fun e w' => ∃ v' L', e = .returned v' ∧ (∃ ob', L' = x :: ob' ∧ SlS v' (vI l c d) ob') ∧ Own M W w' L' := by
  obtain ⟨A, cap, rfl⟩ := hv.form
  refine (grow_any A cap l ob c d w hv (Own.lend (hO.sub [x])) hn hl hc hd).mono fun e w' ⟨v', ob', h1, h2, h3⟩ => ⟨v', x :: ob', h1, ⟨ob', rfl, h2⟩, ?_⟩
  have hp : Own M W w (ob ++ [x]) := hO.perm (List.perm_append_comm (l₁ := [x]) (l₂ := ob))
  exact (Own.join hp h3).perm (List.perm_append_comm (l₁ := ob') (l₂ := [x]))
theorem grow_len (l : List Sp) (c d : Cu) : (vI l c d).length ≤ l.length + 1 := by
  unfold vI
  split
  · split
    · first | (simp; done) | (simp; omega)
    · simp
  · simp
theorem grow_short {l : List Sp} {c d : Cu} (hl : x5 l) (hc : c.short) (hd : d.short) : x5 (vI l c d) := by
  unfold vI
  split
  · rename_i s hs
    split
    · intro x hx
      rcases List.mem_append.1 hx with h | h
      · exact hl x (List.dropLast_subset _ h)
      · obtain rfl : x = _ := by simpa using h
        exact ⟨(hl s (List.mem_of_getLast? hs)).1, hd⟩
    · intro x hx
      rcases List.mem_append.1 hx with h | h
      · exact hl x h
      · obtain rfl : x = _ := by simpa using h
        exact ⟨hc, hd⟩
  · intro x hx
    obtain rfl : x = _ := by simpa using hx
    exact ⟨hc, hd⟩
theorem build_step (p : Cu → Cu → Bool) (out : List Sp) (cs : List Cu) (k : Nat) (hk : k + 1 < cs.length) {c d : Cu} (hc : cs[k] = c) (hd : cs[k + 1] = d) : g6 p out (cs.drop k) = g6 p (if p c d then vI out c d else out) (cs.drop (k + 1)) := by
  rw [List.drop_eq_getElem_cons (show k < cs.length by omega), List.drop_eq_getElem_cons hk, hc, hd]
  conv => lhs; unfold g6
theorem build_end (p : Cu → Cu → Bool) (out : List Sp) (cs : List Cu) (k : Nat) (hk : ¬ k + 1 < cs.length) : g6 p out (cs.drop k) = out := by
  have : (cs.drop k).length ≤ 1 := by rw [List.length_drop]; omega
  match h : cs.drop k with
  | [] => rfl
  | [x] => rfl
  | x :: y :: r => rw [h] at this; simp at this
structure Built (p : Cu → Cu → Bool) (cs : List Cu) (k : Nat) (v : Value) (out : List Sp) (ob : List Blk) : Prop where
  le : k ≤ cs.length
  sl : SlS v out ob
  len : out.length ≤ k
  short : x5 out
  eq : g6 p [] cs = g6 p out (cs.drop k)
theorem Built.start (p : Cu → Cu → Bool) (cs : List Cu) : Built p cs 0 (.slice none 0 0) [] [] := ⟨Nat.zero_le _, Sl.nil _ _, Nat.le_refl _, fun s hs => by simp at hs, rfl⟩
theorem Built.keep {p : Cu → Cu → Bool} {cs : List Cu} {k : Nat} {v : Value} {out : List Sp} {ob : List Blk} (h : Built p cs k v out ob) (hk : k + 1 < cs.length) {c d : Cu} (hc : cs[k] = c) (hd : cs[k + 1] = d) (hp : p c d = false) : Built p cs (k + 1) v out ob :=
  ⟨by omega, h.sl, by have := h.len; omega, h.short, by rw [h.eq, build_step p out cs k hk hc hd, hp]; rfl⟩
theorem Built.grow {p : Cu → Cu → Bool} {cs : List Cu} {k : Nat} {v v2 : Value} {out : List Sp} {ob ob2 : List Blk} (h : Built p cs k v out ob) (hk : k + 1 < cs.length) {c d : Cu} (hc : cs[k] = c) (hd : cs[k + 1] = d) (hp : p c d = true) (hcs : c.short) (hds : d.short) (h2 : SlS v2 (vI out c d) ob2) : Built p cs (k + 1) v2 (vI out c d) ob2 :=
  ⟨by omega, h2, by have := h.len; have := grow_len out c d; omega, grow_short h.short hcs hds, by rw [h.eq, build_step p out cs k hk hc hd, hp]; rfl⟩
end
section
def gK (l : List Sp) : Bool := l.all (·.may)
theorem allMay_mem {l : List Sp} : gK l = true ↔ ∀ s ∈ l, s.may = true := by unfold gK; rw [List.all_eq_true]
theorem allMay_take (l : List Sp) (k : Nat) (hk : k < l.length) (h : gK (l.take k) = true) (hs : l[k].may = true) : gK (l.take (k + 1)) = true := by
  rw [allMay_mem] at h ⊢
  rw [List.take_succ_eq_append_getElem hk]
  intro x hx
  rcases List.mem_append.1 hx with hx | hx
  · exact h x hx
  · obtain rfl : x = l[k] := by simpa using hx
    exact hs
theorem allMay_not (l : List Sp) (k : Nat) (hk : k < l.length) (hs : l[k].may = false) : gK l = false := by
  cases h : gK l with
  | false => rfl
  | true => rw [allMay_mem.1 h _ (List.getElem_mem hk)] at hs; cases hs
end
section
theorem pY {a b : List Sp} (ha : x5 a) (hb : x5 b) : x5 (a ++ b) := fun s hs => by
  rcases List.mem_append.1 hs with h | h
  · exact ha s h
  · exact hb s h
theorem rand_any (A B : Option Addr) (cap capb : Nat) (a b : List Sp) (W : World) (hv : Reads x6 W W.heap.size A a) (hu : Reads x6 W W.heap.size B b) (hn : a.length ≤ 100000) (hm : b.length ≤ 100000) (ha : x5 a) (hb : x5 b) :
    Calls Tryz.prog 57 #[.slice A a.length cap, .slice B b.length capb] W fun e w' => ∃ v' ob', e = .returned v' ∧ SlS v' (if zN a && zN b then g9 a b else []) ob' ∧ Own [] W w' ob' := by
  refine Z2 (n := 64) Tryz.func57 rfl (ZO (Zv (.slice none 0 0) (ZN (zB (ZO (Zv (.slice A a.length cap) (Zc (k := 54) (args := #[.slice A a.length cap]) (.bool (zN a)) (fun w hO => vJ A cap a w (hv.on hO.below hO.size) (by omega) ha) ?_)))))))
  cases h1 : zN a with
  | true =>
    refine Zv Z5 (Zv Z5 (Zv (.slice B b.length capb) (Zc (k := 54) (args := #[.slice B b.length capb]) (.bool (zN b)) (fun w hO => vJ B capb b w (hu.on hO.below hO.size) (by omega) hb) ?_)))
    cases h2 : zN b with
    | true =>
      refine Zv Z5 (Zv Z5 (ZX (ZB (ZO (Zv (.slice none 0 0) (zU (zF ?_)))))))
      refine ZO (Zv (.slice A a.length cap) ?_)
      obtain ⟨i, z, e1, e2, e3, e4, e5⟩ := qH
      refine kM (L' := [] ++ [] ++ []) rfl (d9 (E := []) (ob := []) (L0 := []) (sz := 14) (l := a) (A := A) (c := cap) yA (by kernel_rfl) rfl Tryz.underlying29 e1 e2 e3 e4 (by kernel_rfl) (Sl.nil 80 14) (by kernel_rfl) (fun w hO => hv.on hO.below hO.size) gI (by unfold maxLen; omega) (by rw [e5]; omega) (fun va oa hva => Zv (.slice B b.length capb) (d9 (E := []) (ob := oa) (L0 := []) (sz := 14) (l := b) (A := B) (c := capb) yA (by kernel_rfl) rfl Tryz.underlying29 e1 e2 e3 e4 (by kernel_rfl) hva (by kernel_rfl) (fun w hO => hu.on hO.below hO.size) gI (by unfold maxLen; omega) (by rw [e5]; omega) (fun vb oq hvb => ?_))))
      have hvl : SlS vb (a ++ b) oq := hvb.to (by simp) (by simp)
      have hlen : (a ++ b).length ≤ 200000 := by rw [List.length_append]; omega
      have hlab := pY ha hb
      refine kM (L' := oq) (by simp) ?_
      clear hvb
      obtain ⟨C, capc, rfl⟩ := hvl.form
      refine Zr (k := 100) (args := #[.slice C (a ++ b).length capc]) (fun v' L' => SlC v' (gB (a ++ b)) L') (fun w hO => (cuts_any C capc (a ++ b) w (Sl.reads hvl rfl hO (fun x hx => hx)) (by omega) hlab).mono fun e w' ⟨v', ob', h1, h2, h3⟩ => ⟨v', ob', h1, h2, Own.take (Own.joinN hO h3) (fun x hx => List.mem_append_left _ hx) h3.apart⟩) (fun cv oc hcv => ?_)
      have hcz := dT (a ++ b) hlab (a ++ b).length (Nat.le_refl _)
      rw [List.take_length] at hcz
      obtain ⟨cs, hcs⟩ : ∃ cs, cs = gB (a ++ b) := ⟨_, rfl⟩
      rw [← hcs] at hcv hcz
      have hcsn := hcz.1
      have hcs0 := hcz.2.1
      have hcsS := hcz.2.2
      obtain ⟨D, ccap, rfl⟩ := hcv.form
      obtain ⟨g, cur, rfl, rfl, hccap, hcmax, hcsz, hcur⟩ := hcv.block hcs0
      refine Zv (.slice (some ⟨g, 0, none⟩) cs.length ccap) (ZN (zB (ZO (Zv (.int .i64 0) (ZN (zP (x7 (fun L f m => ∃ (k : Nat) (v : Value) (out : List Sp) (ob : List Blk) (j : Nat → Value), (Built (fun c d => inL a c d && inL b c d) cs k v out ob) ∧ L = ⟨g, cur, 78⟩ :: ob ∧ f = kL j [(0, .slice A a.length cap), (1, .slice B b.length capb), (5, v), (6, .slice (some ⟨g, 0, none⟩) cs.length ccap), (7, .int .i64 (k : Int))] ∧ m = cs.length - k) (cs.length - 0) ⟨0, _, [], [], _, Built.start _ cs, rfl, ZU, rfl⟩ ?_)))))))
      rintro L f m ⟨k, v, out, ob, j, hrel, rfl, rfl, rfl⟩
      have hkl := hrel.le
      refine zB (ZO (Zv (.int .i64 (k : Int)) (Zu (k := .i64) (((k + 1 : Nat) : Int)) (IntWalk.i64_in _ (by omega)) (Zv (.slice (some ⟨g, 0, none⟩) cs.length ccap) (Zv (.int .i64 (cs.length : Int)) ?_)))))
      by_cases h3 : ((k + 1 : Nat) : Int) < (cs.length : Int)
      · have hk : k + 1 < cs.length := by omega
        obtain ⟨c, hc⟩ : ∃ c, cs[k] = c := ⟨_, rfl⟩
        obtain ⟨d, hd⟩ : ∃ d, cs[k + 1] = d := ⟨_, rfl⟩
        have hcS : c.short := hc ▸ hcsS _ (List.getElem_mem _)
        have hdS : d.short := hd ▸ hcsS _ (List.getElem_mem _)
        have hlen := hrel.len
        refine Zg h3 (ZY (ZB (zB (zP (zB (vP (by kernel_rfl) (by kernel_rfl) (Zw (.slice A a.length cap) (Zw (.slice (some ⟨g, 0, none⟩) cs.length ccap) ?_))))))))
        refine Zw (.int .i64 (k : Int)) (gG (Zp g (k * 7)) (by kernel_rfl) (gL (b := g) (off := 0) (n := cs.length) (c := ccap) (k := .i64) (j := (k : Int)) (e := 78) (sz := 7) rfl (by kernel_rfl) (by kernel_rfl) (by kernel_rfl) (by kernel_rfl) (by omega) (by omega) (by show 0 + k * 7 = k * 7; omega)) (jB 0 ⟨g, cur, 78⟩ (off := k * 7) (zI c) (by kernel_rfl) rfl (by kernel_rfl) (by kernel_rfl) (xX xT hcur k 0 (by omega) (by omega) _ (by rw [hc]; kernel_rfl)) (Zw (.slice (some ⟨g, 0, none⟩) cs.length ccap) (Zw (.int .i64 (k : Int)) (q_sum (k := .i64) (((k + 1 : Nat) : Int)) (by kernel_rfl) (fun _ => by kernel_rfl) (IntWalk.i64_in _ (by omega)) (gG (Zp g ((k + 1) * 7)) (by kernel_rfl) (gL (b := g) (off := 0) (n := cs.length) (c := ccap) (k := .i64) (j := ((k + 1 : Nat) : Int)) (e := 78) (sz := 7) rfl (by kernel_rfl) (by kernel_rfl) (by kernel_rfl) (by kernel_rfl) (by omega) (by omega) (by show 0 + (k + 1) * 7 = (k + 1) * 7; omega)) (jB 0 ⟨g, cur, 78⟩ (off := (k + 1) * 7) (zI d) (by kernel_rfl) rfl (by kernel_rfl) (by kernel_rfl) (xX xT hcur (k + 1) 0 (by omega) (by omega) _ (by rw [hd]; kernel_rfl)) (Zq (k := 101) (args := #[.slice A a.length cap, zI c, zI d]) (.bool (inL a c d)) (fun w hO => in_any A cap a c d w (hv.on hO.below hO.size) (by omega) ha hcS hdS) (Zw (.bool (inL a c d)) ?_)))))))))
        cases h4 : inL a c d with
        | true =>
          refine Zw (.slice B b.length capb) (Zw (.slice (some ⟨g, 0, none⟩) cs.length ccap) (Zw (.int .i64 (k : Int)) (gG (Zp g (k * 7)) (by kernel_rfl) (gL (b := g) (off := 0) (n := cs.length) (c := ccap) (k := .i64) (j := (k : Int)) (e := 78) (sz := 7) rfl (by kernel_rfl) (by kernel_rfl) (by kernel_rfl) (by kernel_rfl) (by omega) (by omega) (by show 0 + k * 7 = k * 7; omega)) (jB 0 ⟨g, cur, 78⟩ (off := k * 7) (zI c) (by kernel_rfl) rfl (by kernel_rfl) (by kernel_rfl) (xX xT hcur k 0 (by omega) (by omega) _ (by rw [hc]; kernel_rfl)) (Zw (.slice (some ⟨g, 0, none⟩) cs.length ccap) (Zw (.int .i64 (k : Int)) (q_sum (k := .i64) (((k + 1 : Nat) : Int)) (by kernel_rfl) (fun _ => by kernel_rfl) (IntWalk.i64_in _ (by omega)) (gG (Zp g ((k + 1) * 7)) (by kernel_rfl) (gL (b := g) (off := 0) (n := cs.length) (c := ccap) (k := .i64) (j := ((k + 1 : Nat) : Int)) (e := 78) (sz := 7) rfl (by kernel_rfl) (by kernel_rfl) (by kernel_rfl) (by kernel_rfl) (by omega) (by omega) (by show 0 + (k + 1) * 7 = (k + 1) * 7; omega)) (jB 0 ⟨g, cur, 78⟩ (off := (k + 1) * 7) (zI d) (by kernel_rfl) rfl (by kernel_rfl) (by kernel_rfl) (xX xT hcur (k + 1) 0 (by omega) (by omega) _ (by rw [hd]; kernel_rfl)) (Zq (k := 101) (args := #[.slice B b.length capb, zI c, zI d]) (.bool (inL b c d)) (fun w hO => in_any B capb b c d w (hu.on hO.below hO.size) (by omega) hb hcS hdS) (Zw (.bool (inL b c d)) ?_)))))))))))
          refine gH (zF ?_)
          cases h5 : inL b c d with
          | true =>
            refine Zt (gM [⟨g, cur, 78⟩] (by kernel_rfl) (fun w hO => Own.take hO (by simp) (by simp)) (Z3 0 _ (v) rfl (y5 (zL (k8 (y5 (zL zO))))) (fun w hO => Own.take hO (by simp) (by simp)) (Z3 1 _ (.slice (some ⟨g, 0, none⟩) cs.length ccap) rfl (y5 (zL (k8 (y5 (zL zO))))) (fun w hO => Own.take hO (by simp) (by simp)) (Z3 2 _ (.int .i64 (k : Int)) rfl (y5 (zL (k8 (y5 (zL zO))))) (fun w hO => Own.take hO (by simp) (by simp)) (j8 3 _ (Zp g (k * 7)) rfl (by kernel_rfl) (by kernel_rfl) (by kernel_rfl) (y5 (zL (k8 (y5 (zL zO))))) (fun w hO => Own.take hO (by simp) (by simp)) (by kernel_rfl) (fun w _ => gL (b := g) (off := 0) (n := cs.length) (c := ccap) (k := .i64) (j := (k : Int)) (e := 78) (sz := 7) rfl (by kernel_rfl) (by kernel_rfl) (by kernel_rfl) (by kernel_rfl) (by omega) (by omega) (by show 0 + k * 7 = k * 7; omega) w) (hl_load 4 _ 0 ⟨g, cur, 78⟩ (off := k * 7) (zI c) rfl (by kernel_rfl) (by kernel_rfl) (by kernel_rfl) (y5 (zL (k8 (y5 (zL zO))))) (fun w hO => Own.take hO (by simp) (by simp)) (by kernel_rfl) rfl rfl (by kernel_rfl) (xX xT hcur k 0 (by omega) (by omega) _ (by rw [hc]; kernel_rfl)) (Z3 5 _ (.slice (some ⟨g, 0, none⟩) cs.length ccap) rfl (y5 (zL (k8 (y5 (zL zO))))) (fun w hO => Own.take hO (by simp) (by simp)) (Z3 6 _ (.int .i64 (k : Int)) rfl (y5 (zL (k8 (y5 (zL zO))))) (fun w hO => Own.take hO (by simp) (by simp)) (hl_sum (k := .i64) 7 _ ((k + 1 : Nat) : Int) rfl (by kernel_rfl) (by kernel_rfl) (by kernel_rfl) (y5 (zL (k8 (y5 (zL zO))))) (fun w hO => Own.take hO (by simp) (by simp)) (by kernel_rfl) (fun _ => by kernel_rfl) (IntWalk.i64_in _ (by omega)) (j8 8 _ (Zp g ((k + 1) * 7)) rfl (by kernel_rfl) (by kernel_rfl) (by kernel_rfl) (y5 (zL (k8 (y5 (zL zO))))) (fun w hO => Own.take hO (by simp) (by simp)) (by kernel_rfl) (fun w _ => gL (b := g) (off := 0) (n := cs.length) (c := ccap) (k := .i64) (j := ((k + 1 : Nat) : Int)) (e := 78) (sz := 7) rfl (by kernel_rfl) (by kernel_rfl) (by kernel_rfl) (by kernel_rfl) (by omega) (by omega) (by show 0 + (k + 1) * 7 = (k + 1) * 7; omega) w) (hl_load 9 _ 0 ⟨g, cur, 78⟩ (off := (k + 1) * 7) (zI d) rfl (by kernel_rfl) (by kernel_rfl) (by kernel_rfl) (y5 (zL (k8 (y5 (zL zO))))) (fun w hO => Own.take hO (by simp) (by simp)) (by kernel_rfl) rfl rfl (by kernel_rfl) (xX xT hcur (k + 1) 0 (by omega) (by omega) _ (by rw [hd]; kernel_rfl)) ?_)))))))))))
            refine Zz 10 (yN _ (k := 102) (args := #[v, zI c, zI d]) (fun v' L' => ∃ ob', L' = ⟨g, cur, 78⟩ :: ob' ∧ SlS v' (vI out c d) ob') rfl (by kernel_rfl) (fun _ => by kernel_rfl) (fun w hO => grow_call c d hO hrel.sl (by omega) hrel.short hcS hdS) (fun v' L' ⟨ob', e, _⟩ => by subst e; exact (fun w hO => Own.take hO (by simp) (by simp))) (fun v2 L2 hv2 => ?_))
            obtain ⟨ob2, rfl, hs2⟩ := hv2
            exact Z3 11 _ (v2) rfl (y5 (zL (k8 (y5 (zL zO))))) (fun w hO => Own.take hO (by simp) (by simp)) (ZZ (zV (zF (zC (Zv (.int .i64 (k : Int)) (Zu (k := .i64) (((k + 1 : Nat) : Int)) (IntWalk.i64_in _ (by omega)) (Zv (.int .i64 ((k + 1 : Nat) : Int)) (zU (zY (m' := cs.length - (k + 1)) (by omega) ⟨k + 1, v2, vI out c d, ob2, _, hrel.grow hk hc hd (by simp [h1, h2, h3, h4, h5]) hcS hdS hs2, rfl, ZU, rfl⟩)))))))))
          | false =>
            exact Zf (xD (zV (zF (zC (Zv (.int .i64 (k : Int)) (Zu (k := .i64) (((k + 1 : Nat) : Int)) (IntWalk.i64_in _ (by omega)) (Zv (.int .i64 ((k + 1 : Nat) : Int)) (zU (zY (m' := cs.length - (k + 1)) (by omega) ⟨k + 1, v, out, ob, _, hrel.keep hk hc hd (by simp [h1, h2, h3, h4, h5]), rfl, ZU, rfl⟩)))))))))
        | false =>
          refine Zj (Zj (Zj (Zj (Zj (Zj (Zj (Zj (Zj (Zj (Zj (Zw Z5 ?_)))))))))))
          exact gH (zF (Zf (xD (zV (zF (zC (Zv (.int .i64 (k : Int)) (Zu (k := .i64) (((k + 1 : Nat) : Int)) (IntWalk.i64_in _ (by omega)) (Zv (.int .i64 ((k + 1 : Nat) : Int)) (zU (zY (m' := cs.length - (k + 1)) (by omega) ⟨k + 1, v, out, ob, _, hrel.keep hk hc hd (by simp [h1, h2, h3, h4]), rfl, ZU, rfl⟩)))))))))))
      refine Zh h3 (ZX (yE (zH (zS (zM (zF (ZO (Zv (v) ?_))))))))
      exact Zv (v) (ZN (zG (ZF (v) Tryz.results57 (fun w hO => ⟨v, ob, rfl, by rw [if_pos (by simp), show g9 a b = out from by unfold g9; rw [← hcs, hrel.eq, build_end _ _ _ _ (by omega)]]; exact hrel.sl, hO.sub [_]⟩))))
    | false =>
      refine Zv Z4 (Zv Z4 (ZY (ZO (Zv (.slice none 0 0) (ZN (zG (zD ?_)))))))
      exact ZF (.slice none 0 0) Tryz.results57 (fun w hO => ⟨_, [], rfl, by rw [if_neg (by simp)]; exact Sl.nil _ _, by simpa using hO⟩)
  | false =>
    refine Zv Z4 (Zv Z4 (Zk (Zk (Zk (Zv Z4 (ZY (ZO (Zv (.slice none 0 0) ?_))))))))
    exact ZN (zG (zD (ZF (.slice none 0 0) Tryz.results57 (fun w hO => ⟨_, [], rfl, by rw [if_neg (by simp)]; exact Sl.nil _ _, by simpa using hO⟩))))
end
section
theorem build_len (p : Cu → Cu → Bool) : ∀ (cs : List Cu) (out : List Sp), (g6 p out cs).length ≤ out.length + cs.length
  | [], out => by unfold g6; simp
  | [c], out => by unfold g6; simp
  | c :: d :: r, out => by
    have ih := build_len p (d :: r) (if p c d then vI out c d else out)
    unfold g6
    have : (if p c d = true then vI out c d else out).length ≤ out.length + 1 := by
      split
      · exact grow_len out c d
      · omega
    simp only [List.length_cons] at ih ⊢
    omega
theorem and_len (a b : List Sp) (hn : a.length ≤ 100000) (hm : b.length ≤ 100000) (ha : x5 a) (hb : x5 b) : (g9 a b).length ≤ 1000000 := by
  have h1 := build_len (fun c d => inL a c d && inL b c d) (gB (a ++ b)) []
  have h2 := dT (a ++ b) (pY ha hb) (a ++ b).length (Nat.le_refl _)
  rw [List.take_length, List.length_append] at h2
  have h3 : (g9 a b).length ≤ (gB (a ++ b)).length := by unfold g9; simpa using h1
  omega
theorem bI (A B : Option Addr) (cap capb : Nat) (a b : List Sp) (W : World) (hv : Reads x6 W W.heap.size A a) (hu : Reads x6 W W.heap.size B b) (hn : a.length ≤ 100000) (hm : b.length ≤ 100000) (ha : x5 a) (hb : x5 b) :
    Calls Tryz.prog 33 #[.slice A a.length cap, .slice B b.length capb] W fun e w' => e = .returned (.bool (zN a && zN b && decide (g9 a b = a))) ∧ Below W.heap.size W w' := by
  refine Z2 (n := 18) Tryz.func33 rfl (ZO (Zv Z5 (ZR (Zv (.slice A a.length cap) (Zc (k := 54) (args := #[.slice A a.length cap]) (.bool (zN a)) (fun w hO => vJ A cap a w (hv.on hO.below hO.size) (by omega) ha) (Zv (.bool (zN a)) ?_))))))
  cases h1 : zN a with
  | true =>
    refine Zv (.slice B b.length capb) (Zc (k := 54) (args := #[.slice B b.length capb]) (.bool (zN b)) (fun w hO => vJ B capb b w (hu.on hO.below hO.size) (by omega) hb) (Zv (.bool (zN b)) (Zv (.bool (zN b)) ?_)))
    cases h2 : zN b with
    | true =>
      refine Zv (.slice A a.length cap) (Zv (.slice B b.length capb) (Zr (k := 57) (args := #[.slice A a.length cap, .slice B b.length capb]) (fun v' L' => SlS v' (g9 a b) L') (fun w hO => (rand_any A B cap capb a b w (hv.on hO.below hO.size) (hu.on hO.below hO.size) hn hm ha hb).mono fun e w' ⟨v', ob', q1, q2, q3⟩ => ⟨v', ob', q1, by rw [if_pos (by simp [h1, h2])] at q2; exact q2, by simpa using Own.joinN hO q3⟩) (fun mv om hmv => ?_)))
      obtain ⟨C, capc, rfl⟩ := hmv.form
      exact Zv (.slice A a.length cap) (Zc (k := 46) (args := #[.slice C ((g9 a b).length) capc, .slice A a.length cap]) (.bool (decide (g9 a b = a))) (fun w hO => rsame_any C A capc cap (g9 a b) a w (Sl.reads hmv rfl hO (fun x hx => hx)) (hv.on hO.below hO.size) (and_len a b hn hm ha hb) (by omega)) (Zv (.bool (decide (g9 a b = a))) (Zv (.bool (decide (g9 a b = a))) (ZN (zG (ZF (.bool (decide (g9 a b = a))) Tryz.results33 (fun w hO => ⟨by simp [h1, h2], hO.below⟩)))))))
    | false =>
      exact Zk (Zk (Zk (Zk (Zk (Zv Z5 (Zv Z5 (ZN (zG (ZF Z5 Tryz.results33 (fun w hO => ⟨by simp [h1, h2], hO.below⟩))))))))))
  | false =>
    refine Zk (Zk (Zv Z5 (Zv Z5 (Zk (Zk (Zk (Zk (Zk (Zv Z5 (Zv Z5 (zU ?_)))))))))))
    exact zF (zG (ZF Z5 Tryz.results33 (fun w hO => ⟨by simp [h1], hO.below⟩)))
end
section
def yW (a b : Cu) : Cu := if 0 < zQ a b then b else a
def x3 (a b : Cu) : Cu := if 0 < zQ a b then a else b
theorem minC_may {a b : Cu} (ha : a.may = true) (hb : b.may = true) : (yW a b).may = true := by unfold yW; split <;> assumption
theorem mA {a b : Cu} (ha : a.may = true) (hb : b.may = true) : (x3 a b).may = true := by unfold x3; split <;> assumption
theorem minC_lt {a b x : Cu} (ha : a.may = true) (hb : b.may = true) (hx : x.may = true) : decide (zQ x (yW a b) < 0) = (decide (zQ x a < 0) && decide (zQ x b < 0)) := by
  rw [← Bool.decide_and]
  refine decide_eq_decide.2 ?_
  unfold yW
  split
  · rename_i h
    exact ⟨fun h2 => ⟨xY hx hb ha h2 (by have := xM (a := a) (b := b); omega), h2⟩, fun h2 => h2.2⟩
  · rename_i h
    exact ⟨fun h2 => ⟨h2, wZ hx ha hb h2 (by omega)⟩, fun h2 => h2.1⟩
theorem maxC_le {a b x : Cu} (ha : a.may = true) (hb : b.may = true) (hx : x.may = true) : decide (zQ (x3 a b) x ≤ 0) = (decide (zQ a x ≤ 0) && decide (zQ b x ≤ 0)) := by
  rw [← Bool.decide_and]
  refine decide_eq_decide.2 ?_
  unfold x3
  split
  · rename_i h
    exact ⟨fun h2 => ⟨h2, vE hb ha hx (by have := xM (a := a) (b := b); omega) h2⟩, fun h2 => h2.1⟩
  · rename_i h
    exact ⟨fun h2 => ⟨vE ha hb hx (by omega) h2, h2⟩, fun h2 => h2.2⟩
theorem d7 {c d : Cu} (h : zQ c d < 0) : (Sp.mk c d).may = true := by
  unfold Sp.may
  have := wY c d
  rw [decide_eq_true_eq]; show zQ c d = -1; omega
theorem sp_not_of {c d : Cu} (h : (Sp.mk c d).may = false) : ¬ zQ c d < 0 := fun h2 => by rw [d7 h2] at h; cases h
theorem in_none {c d x : Cu} (hc : c.may = true) (hd : d.may = true) (hx : x.may = true) (h : ¬ zQ c d < 0) : g7 ⟨c, d⟩ x = false := by
  unfold g7
  rw [Bool.and_eq_false_iff, decide_eq_false_iff_not, decide_eq_false_iff_not]
  by_cases h1 : zQ c x ≤ 0
  · exact .inr fun h2 => h (pV hc hx hd h1 h2)
  · exact .inl h1
def qD (l : List Sp) (c d : Cu) : List Sp := if (Sp.mk c d).may then l ++ [⟨c, d⟩] else l
theorem add_ok {out : List Sp} {c d : Cu} (ho : zN out = true) (hl : ∀ t ∈ out.getLast?, zQ t.hi c < 0) : zN (qD out c d) = true := by
  unfold qD
  split
  · exact uL ho (by assumption) hl
  · exact ho
theorem add_den {out : List Sp} {c d x : Cu} (hc : c.may = true) (hd : d.may = true) (hx : x.may = true) : den (qD out c d) x = (den out x || g7 ⟨c, d⟩ x) := by
  unfold qD
  split
  · rw [bO]; unfold den; simp
  · rename_i h
    rw [in_none hc hd hx (sp_not_of (by simpa using h)), Bool.or_false]
theorem add_last {out : List Sp} {c d : Cu} : ∀ t ∈ (qD out c d).getLast?, t = ⟨c, d⟩ ∨ (t ∈ out.getLast? ∧ ¬ zQ c d < 0) := by
  unfold qD
  split
  · intro t ht
    rw [List.getLast?_concat] at ht
    exact .inl (Option.some.inj ht).symm
  · rename_i h
    exact fun t ht => .inr ⟨ht, sp_not_of (by simpa using h)⟩
theorem nG (l : List Sp) (c d : Cu) : (qD l c d).length ≤ l.length + 1 := by unfold qD; split <;> simp
def tQ (p : List Sp × Cu) (s : Sp) : List Sp × Cu := (qD p.1 p.2 s.lo, s.hi)
def notG (l : List Sp) : List Sp := qD (l.foldl tQ ([], y8 (-1))).1 (l.foldl tQ ([], y8 (-1))).2 (y8 1)
theorem dQ (s : Sp) (l : List Sp) (x : Cu) : den (s :: l) x = (g7 s x || den l x) := by unfold den; rw [List.any_cons]
theorem dR {s : Sp} {l : List Sp} {x : Cu} (h : zN (s :: l) = true) (hx : x.may = true) (hlt : zQ x s.hi ≤ 0) : den l x = false :=
  wV fun t ht => pV hx (y9 (xZ h)).2 (y9 (xG h t (List.mem_cons_of_mem _ ht))).1 hlt (gE h t ht)
theorem not_go : ∀ (l out : List Sp) (f : Cu), zN l = true → zN out = true → f.may = true → (∀ t ∈ out.getLast?, zQ t.hi f < 0) → (∀ s ∈ l.head?, zQ f s.lo ≤ 0) →
    zN (qD (l.foldl tQ (out, f)).1 (l.foldl tQ (out, f)).2 (y8 1)) = true ∧ ∀ x : Cu, x.may = true → zQ x (y8 1) < 0 → den (qD (l.foldl tQ (out, f)).1 (l.foldl tQ (out, f)).2 (y8 1)) x = (den out x || (decide (zQ f x ≤ 0) && !den l x))
  | [], out, f, hl, ho, hf, h1, h2 => ⟨add_ok ho h1, fun x hx he => by
      show den (qD out f (y8 1)) x = _
      rw [add_den hf wS hx]
      unfold g7
      rw [decide_eq_true he]
      simp [den]⟩
  | s :: r, out, f, hl, ho, hf, h1, h2 => by
    have hs := xZ hl
    obtain ⟨m1, m2⟩ := y9 hs
    have hlt := uW hs
    have hfs : zQ f s.lo ≤ 0 := h2 s rfl
    have ih := not_go r (qD out f s.lo) s.hi (kX hl) (add_ok ho h1) m2 (fun t ht => by
      rcases add_last t ht with rfl | ⟨h3, h4⟩
      · exact hlt
      · exact xY (y9 (xG ho t (List.mem_of_getLast? h3))).2 hf m2 (h1 t h3) (pV hf m1 m2 hfs hlt)) (fun t ht => by
        have := gE hl t (List.mem_of_mem_head? ht); omega)
    refine ⟨ih.1, fun x hx he => ?_⟩
    show den (qD (r.foldl tQ (qD out f s.lo, s.hi)).1 (r.foldl tQ (qD out f s.lo, s.hi)).2 (y8 1)) x = _
    rw [ih.2 x hx he, add_den hf m1 hx, dQ]
    unfold g7
    show (den out x || (decide (zQ f x ≤ 0) && decide (zQ x s.lo < 0)) || _) = _
    by_cases c1 : zQ x s.lo < 0
    · have c2 : zQ x s.hi < 0 := xY hx m1 m2 c1 hlt
      rw [decide_eq_true c1, dR hl hx (by omega), decide_eq_false (show ¬ zQ s.hi x ≤ 0 from by have := xM (a := x) (b := s.hi); omega), decide_eq_false (show ¬ zQ s.lo x ≤ 0 from by have := xM (a := x) (b := s.lo); omega)]
      simp
    · rw [decide_eq_false c1]
      have c3 : zQ s.lo x ≤ 0 := u6 c1
      rw [decide_eq_true c3, decide_eq_true (vE hf m1 hx hfs c3)]
      by_cases c4 : zQ x s.hi < 0
      · rw [decide_eq_true c4, decide_eq_false (show ¬ zQ s.hi x ≤ 0 from by have := xM (a := x) (b := s.hi); omega)]
        simp
      · rw [decide_eq_false c4, decide_eq_true (u6 c4)]
        simp
theorem notG_eq {l : List Sp} (h : zN l = true) : notG l = jM l := by
  have h1 := not_go l [] (y8 (-1)) h rfl n5 (fun t ht => by simp at ht) (fun s hs => mD (y9 (xG h s (List.mem_of_mem_head? hs))).1)
  have h2 := bR h
  refine j5 _ _ h1.1 h2.1 fun c hc he => ?_
  rw [h2.2 c hc he]
  show den (qD _ _ _) c = _
  rw [h1.2 c hc he, decide_eq_true (mD hc)]
  simp [den]
def andG : Nat → List Sp → List Sp → List Sp → List Sp
  | n + 1, out, s :: a, u :: b => if s.hi = yW s.hi u.hi then andG n (qD out (x3 s.lo u.lo) (yW s.hi u.hi)) a (u :: b) else andG n (qD out (x3 s.lo u.lo) (yW s.hi u.hi)) (s :: a) b
  | _, out, _, _ => out
theorem min_is {a b : Cu} : a = yW a b ↔ zQ a b ≤ 0 := by
  unfold yW
  split
  · rename_i h
    exact ⟨fun e => by have := gC a; rw [← e] at h; omega, fun h2 => by omega⟩
  · rename_i h
    exact ⟨fun _ => by omega, fun _ => rfl⟩
theorem maxC_ge {a b : Cu} (ha : a.may = true) (hb : b.may = true) : zQ a (x3 a b) ≤ 0 ∧ zQ b (x3 a b) ≤ 0 := by
  unfold x3
  split
  · rename_i h
    exact ⟨by rw [gC]; decide, by have := xM (a := a) (b := b); omega⟩
  · rename_i h
    exact ⟨by omega, by rw [gC]; decide⟩
theorem maxC_up {a b c d x : Cu} (ha : a.may = true) (hb : b.may = true) (hc : c.may = true) (hd : d.may = true) (hx : x.may = true) (h1 : zQ a c ≤ 0) (h2 : zQ b d ≤ 0) (h : zQ x (x3 a b) < 0) : zQ x (x3 c d) < 0 := by
  have g := maxC_ge hc hd
  have m := mA hc hd
  unfold x3 at h
  split at h
  · exact wZ hx ha m h (vE ha hc m h1 g.1)
  · exact wZ hx hb m h (vE hb hd m h2 g.2)
theorem maxC_one {a b x : Cu} (ha : a.may = true) (hb : b.may = true) (hx : x.may = true) (h : zQ x a < 0) : zQ x (x3 a b) < 0 := wZ hx ha (mA ha hb) h (maxC_ge ha hb).1
theorem maxC_two {a b x : Cu} (ha : a.may = true) (hb : b.may = true) (hx : x.may = true) (h : zQ x b < 0) : zQ x (x3 a b) < 0 := wZ hx hb (mA ha hb) h (maxC_ge ha hb).2
theorem in_both {s u : Sp} {x : Cu} (hs : s.may = true) (hu : u.may = true) (hx : x.may = true) : g7 ⟨x3 s.lo u.lo, yW s.hi u.hi⟩ x = (g7 s x && g7 u x) := by
  unfold g7
  rw [maxC_le (y9 hs).1 (y9 hu).1 hx, minC_lt (y9 hs).2 (y9 hu).2 hx]
  cases decide (zQ s.lo x ≤ 0) <;> cases decide (zQ u.lo x ≤ 0) <;> cases decide (zQ x s.hi < 0) <;> cases decide (zQ x u.hi < 0) <;> rfl
theorem and_go : ∀ (n : Nat) (out a b : List Sp), a.length + b.length ≤ n → zN out = true → zN a = true → zN b = true → (∀ t ∈ out.getLast?, ∀ s ∈ a.head?, ∀ u ∈ b.head?, zQ t.hi (x3 s.lo u.lo) < 0) →
    zN (andG n out a b) = true ∧ ∀ x : Cu, x.may = true → den (andG n out a b) x = (den out x || (den a x && den b x))
  | 0, out, a, b, hn, ho, ha, hb, hl => by
    obtain rfl : a = [] := List.eq_nil_of_length_eq_zero (by omega)
    exact ⟨ho, fun x _ => by simp [andG, den]⟩
  | n + 1, out, [], b, hn, ho, ha, hb, hl => ⟨ho, fun x _ => by simp [andG, den]⟩
  | n + 1, out, s :: a, [], hn, ho, ha, hb, hl => ⟨ho, fun x _ => by simp [andG, den]⟩
  | n + 1, out, s :: a, u :: b, hn, ho, ha, hb, hl => by
    have hs := xZ ha
    have hu := xZ hb
    obtain ⟨s1, s2⟩ := y9 hs
    obtain ⟨u1, u2⟩ := y9 hu
    have ho2 := add_ok (d := yW s.hi u.hi) ho (fun t ht => hl t ht s rfl u rfl)
    have mx := mA s1 u1
    have mn := minC_may s2 u2
    have hout : ∀ t ∈ out.getLast?, t.hi.may = true := fun t ht => (y9 (xG ho t (List.mem_of_getLast? ht))).2
    unfold andG
    split
    · rename_i h
      have hle := min_is.1 h
      have ih := and_go n (qD out (x3 s.lo u.lo) (yW s.hi u.hi)) a (u :: b) (by simp at hn ⊢; omega) ho2 (kX ha) hb (fun t ht s' hs' u' hu' => by
        obtain rfl : u = u' := Option.some.inj hu'
        have hsa := gE ha s' (List.mem_of_mem_head? hs')
        have ms' := (y9 (xG ha s' (List.mem_cons_of_mem _ (List.mem_of_mem_head? hs')))).1
        rcases add_last t ht with rfl | ⟨h3, h4⟩
        · show zQ (yW s.hi u.hi) _ < 0
          rw [← h]
          exact maxC_one ms' u1 s2 hsa
        · exact maxC_up s1 u1 ms' u1 (hout t h3) (by have := xY s1 s2 ms' (uW hs) hsa; omega) (by rw [gC]; decide) (hl t h3 s rfl u rfl))
      refine ⟨ih.1, fun x hx => ?_⟩
      rw [ih.2 x hx, add_den mx mn hx, in_both hs hu hx, dQ s, dQ u]
      cases hi : g7 s x with
      | false => simp
      | true =>
        have hxs : zQ x s.hi < 0 := by unfold g7 at hi; simp at hi; exact hi.2
        rw [dR hb hx (by have := wZ hx s2 u2 hxs hle; omega), dR ha hx (by omega)]
        simp
    · rename_i h
      have hgt : ¬ zQ s.hi u.hi ≤ 0 := fun h2 => h (min_is.2 h2)
      have hlt : zQ u.hi s.hi < 0 := clt_flip hgt
      have hmin : yW s.hi u.hi = u.hi := by unfold yW; rw [if_pos (by omega)]
      have ih := and_go n (qD out (x3 s.lo u.lo) (yW s.hi u.hi)) (s :: a) b (by simp at hn ⊢; omega) ho2 ha (kX hb) (fun t ht s' hs' u' hu' => by
        obtain rfl : s = s' := Option.some.inj hs'
        have hub := gE hb u' (List.mem_of_mem_head? hu')
        have mu' := (y9 (xG hb u' (List.mem_cons_of_mem _ (List.mem_of_mem_head? hu')))).1
        rcases add_last t ht with rfl | ⟨h3, h4⟩
        · show zQ (yW s.hi u.hi) _ < 0
          rw [hmin]
          exact maxC_two s1 mu' u2 hub
        · exact maxC_up s1 u1 s1 mu' (hout t h3) (by rw [gC]; decide) (by have := xY u1 u2 mu' (uW hu) hub; omega) (hl t h3 s rfl u rfl))
      refine ⟨ih.1, fun x hx => ?_⟩
      rw [ih.2 x hx, add_den mx mn hx, in_both hs hu hx, dQ s, dQ u]
      cases hi : g7 u x with
      | false => simp
      | true =>
        have hxu : zQ x u.hi < 0 := by unfold g7 at hi; simp at hi; exact hi.2
        rw [dR ha hx (by have := xY hx u2 s2 hxu hlt; omega), dR hb hx (by omega)]
        cases g7 s x <;> simp
theorem andG_eq {a b : List Sp} (ha : zN a = true) (hb : zN b = true) : andG (a.length + b.length) [] a b = g9 a b := by
  have h1 := and_go (a.length + b.length) [] a b (Nat.le_refl _) rfl ha hb (fun t ht => by simp at ht)
  have h2 := mJ ha hb
  refine j5 _ _ h1.1 h2.1 fun c hc he => ?_
  rw [h2.2 c hc he, h1.2 c hc]
  simp [den]
def jK (out : List Sp) (s : Sp) : List Sp :=
  match out.getLast? with
  | none => [s]
  | some t => if zQ t.hi s.lo < 0 then out ++ [s] else out.dropLast ++ [⟨t.lo, x3 t.hi s.hi⟩]
theorem in_merge {s t : Sp} {x : Cu} (hs : s.may = true) (ht : t.may = true) (hx : x.may = true) (h1 : zQ t.lo s.lo ≤ 0) (h2 : zQ s.lo t.hi ≤ 0) : g7 ⟨t.lo, x3 t.hi s.hi⟩ x = (g7 t x || g7 s x) := by
  obtain ⟨s1, s2⟩ := y9 hs
  obtain ⟨t1, t2⟩ := y9 ht
  unfold g7
  show (decide (zQ t.lo x ≤ 0) && decide (zQ x (x3 t.hi s.hi) < 0)) = _
  by_cases c1 : zQ t.lo x ≤ 0
  · rw [decide_eq_true c1]
    unfold x3
    split
    · rename_i h
      by_cases c2 : zQ x s.hi < 0
      · rw [decide_eq_true (show zQ x t.hi < 0 from xY hx s2 t2 c2 (by have := xM (a := t.hi) (b := s.hi); omega))]; simp
      · rw [decide_eq_false c2]; simp
    · rename_i h
      by_cases c2 : zQ x t.hi < 0
      · rw [decide_eq_true c2, decide_eq_true (show zQ x s.hi < 0 from wZ hx t2 s2 c2 (by omega))]; simp
      · rw [decide_eq_false c2, decide_eq_true (show zQ s.lo x ≤ 0 from vE s1 t2 hx h2 (u6 c2))]; simp
  · rw [decide_eq_false c1, decide_eq_false (show ¬ zQ s.lo x ≤ 0 from fun h => c1 (vE t1 s1 hx h1 h))]; simp
theorem mstep_ok {out : List Sp} {s : Sp} (ho : zN out = true) (hs : s.may = true) (hl : ∀ t ∈ out.getLast?, zQ t.lo s.lo ≤ 0) :
    zN (jK out s) = true ∧ (∀ t ∈ (jK out s).getLast?, t.lo = s.lo ∨ ∃ t' ∈ out.getLast?, t.lo = t'.lo) ∧ ∀ x : Cu, x.may = true → den (jK out s) x = (den out x || g7 s x) := by
  unfold jK
  cases hg : out.getLast? with
  | none =>
    have : out = [] := by simpa using hg
    subst this
    refine ⟨uL (l := []) rfl hs (fun t ht => by simp at ht), fun t ht => ?_, fun x _ => by simp [den]⟩
    obtain rfl : s = t := by simpa using ht
    exact .inl rfl
  | some t =>
    have hlo := hl t hg
    have hsp := last_split hg
    have htm := xG ho t (List.mem_of_getLast? hg)
    obtain ⟨s1, s2⟩ := y9 hs
    obtain ⟨t1, t2⟩ := y9 htm
    dsimp only
    split
    · rename_i h
      refine ⟨uL ho hs (fun t' ht' => by rw [hg] at ht'; obtain rfl := Option.some.inj ht'; exact h), fun t' ht' => ?_, fun x _ => by rw [bO]; simp [den]⟩
      rw [List.getLast?_concat] at ht'
      obtain rfl := Option.some.inj ht'
      exact .inl rfl
    · rename_i h
      have hi := row_init (hsp ▸ ho)
      have hmay : (Sp.mk t.lo (x3 t.hi s.hi)).may = true := d7 (wZ t1 t2 (mA t2 s2) (uW htm) (maxC_ge t2 s2).1)
      refine ⟨uL hi.1 hmay (fun x hx => hi.2 x hx), fun t' ht' => ?_, fun x hx => ?_⟩
      · rw [List.getLast?_concat] at ht'
        obtain rfl := Option.some.inj ht'
        exact .inr ⟨t, rfl, rfl⟩
      · rw [bO]
        conv => rhs; rw [hsp, bO]
        have e := in_merge hs htm hx hlo (u6 h)
        simp only [den, List.any_cons, List.any_nil, Bool.or_false] at e ⊢
        rw [e, Bool.or_assoc]
def fR : List Sp → Prop
  | [] => True
  | s :: r => (∀ t ∈ r, zQ s.lo t.lo ≤ 0) ∧ fR r
theorem merge_go : ∀ (l out : List Sp), (∀ s ∈ l, s.may = true) → fR l → zN out = true → (∀ t ∈ out.getLast?, ∀ s ∈ l, zQ t.lo s.lo ≤ 0) →
    zN (l.foldl jK out) = true ∧ ∀ x : Cu, x.may = true → den (l.foldl jK out) x = (den out x || den l x)
  | [], out, _, _, ho, _ => ⟨ho, fun x _ => by simp [den]⟩
  | s :: r, out, hm, hso, ho, hl => by
    have h1 := mstep_ok ho (hm s (List.mem_cons_self ..)) (fun t ht => hl t ht s (List.mem_cons_self ..))
    have ih := merge_go r (jK out s) (fun t ht => hm t (List.mem_cons_of_mem _ ht)) hso.2 h1.1 (fun t ht u hu => by
      rcases h1.2.1 t ht with e | ⟨t', ht', e⟩
      · rw [e]; exact hso.1 u hu
      · rw [e]; exact hl t' ht' u (List.mem_cons_of_mem _ hu))
    refine ⟨ih.1, fun x hx => ?_⟩
    show den (r.foldl jK (jK out s)) x = _
    rw [ih.2 x hx, h1.2.2 x hx, dQ, Bool.or_assoc]
theorem merge_eq {l d : List Sp} (hm : ∀ s ∈ l, s.may = true) (hp : d.Perm l) (hs : fR d) : d.foldl jK [] = uO l := by
  have hmd : ∀ s ∈ d, s.may = true := fun s h => hm s (hp.mem_iff.1 h)
  have h1 := merge_go d [] hmd hs rfl (fun t ht => by simp at ht)
  have h2 := wA hm
  refine j5 _ _ h1.1 h2.1 fun c hc he => ?_
  rw [h2.2 c hc he, h1.2 c hc]
  show (false || den d c) = den l c
  rw [Bool.false_or]
  unfold den
  exact hp.any_eq
theorem mstep_len (out : List Sp) (s : Sp) : (jK out s).length ≤ out.length + 1 := by
  unfold jK
  split
  · simp
  · split
    · simp
    · first | (simp; done) | (simp; omega)
end
section
theorem cutAt_len (c : UInt8) : ∀ s : List UInt8, s.length = (yL c s).1.length + (if (yL c s).2.2 then 1 + (yL c s).2.1.length else 0)
  | [] => rfl
  | b :: r => by
    unfold yL
    have ih := cutAt_len c r
    by_cases h : b = c
    · first | (simp [h]; done) | (subst h; simp; omega) | (simp [h]; omega)
    · first | (simp [h] at ih ⊢; omega) | (simp [h, Ne.symm h] at ih ⊢; omega)
theorem cutGo_short : ∀ (n : Nat) (s : List UInt8), (gU n s).2 = true → s.length ≤ 9 * n
  | 0, s, h => by simp [gU] at h
  | n + 1, s, h => by
    have hl := cutAt_len 46 s
    cases ht : gP (yL 46 s).1 with
    | false => rw [cutGo_bad n s ht] at h; cases h
    | true =>
      have h8 : (yL 46 s).1.length ≤ 8 := Nat.le_of_not_lt fun h2 => by rw [nZ h2] at ht; cases ht
      cases hm : (yL 46 s).2.2 with
      | false => rw [hm] at hl; simp at hl; omega
      | true =>
        rw [cutGo_on n s ht hm] at h
        have ih := cutGo_short n _ h
        rw [hm] at hl; simp at hl; omega
theorem preOk_short {s : List UInt8} (h : vV s = true) : s.length ≤ 36 := by
  rw [preOk_lst, Bool.and_eq_true] at h
  have h1 := h.1
  unfold lst at h1
  split at h1
  · rename_i h0
    have : s = [] := by simpa using h0
    subst this; exact Nat.zero_le _
  · have := cutGo_short _ _ h1; omega
theorem may_short {v : Ver} (h : v.may = true) (hb : v.build = []) : v.short := ⟨by have := preOk_short (mW h); omega, by rw [hb]; exact Nat.zero_le _⟩
theorem cu_short {c : Cu} (h : c.may = true) : c.short := may_short (j0 h) (vQ h)
theorem sp_short {s : Sp} (h : s.may = true) : s.short := ⟨cu_short (y9 h).1, cu_short (y9 h).2⟩
structure RF (l : List Sp) (n : Nat) : Prop where
  may : zN l = true
  len : l.length ≤ n
theorem RF.short {l : List Sp} {n : Nat} (h : RF l n) : x5 l := fun s hs => sp_short (xG h.may s hs)
theorem cuts_len {l : List Sp} (hl : ∀ s ∈ l, s.may = true) : (gB l).length ≤ 2 + 2 * l.length := by
  have h := (dT l (fun s hs => sp_short (hl s hs)) l.length (Nat.le_refl _)).1
  rwa [List.take_length] at h
theorem RF.make {l : List Sp} {n : Nat} (hl : ∀ s ∈ l, s.may = true) (hn : l.length ≤ n) : RF (uO l) (2 + 2 * n) := ⟨(wA hl).1, by
  have h1 := build_len (inL l) (gB l) []
  have h2 := cuts_len hl
  unfold uO
  rw [List.length_nil] at h1
  omega⟩
theorem RF.or {a b : List Sp} {n m : Nat} (ha : RF a n) (hb : RF b m) : RF (orL a b) (2 + 2 * (n + m)) := RF.make (dY ha.may hb.may) (by rw [List.length_append]; have := ha.len; have := hb.len; omega)
section
variable {a b c : List Sp} (ha : zN a = true) (hb : zN b = true) (hc : zN c = true)
include ha in
theorem not_not4 : jM (jM a) = a := j5 _ _ (bR (bR ha).1).1 ha fun x hx he => by
  rw [(bR (bR ha).1).2 x hx he, (bR ha).2 x hx he, Bool.not_not]
include ha hb in
end
theorem jC {v : Ver} (hv : v.may = true) : zQ (bQ v) (y8 1) < 0 := by
  have h1 := le_last (qK hv)
  have h2 : zQ (bQ v) (y8 1) ≠ 0 := fun e => by
    have := (cut_eq (qK hv) wS).1 e
    have h3 := congrArg Cu.e this
    simp [bQ, y8] at h3
  omega
theorem has_or4 {a b : List Sp} {v : Ver} (ha : zN a = true) (hb : zN b = true) (hv : v.may = true) : xJ (orL a b) v = (xJ a v || xJ b v) := by
  rw [vR (m7 ha hb).1 hv, vR ha hv, vR hb hv, (m7 ha hb).2 _ (qK hv) (jC hv)]
theorem has_and4 {a b : List Sp} {v : Ver} (ha : zN a = true) (hb : zN b = true) (hv : v.may = true) : xJ (g9 a b) v = (xJ a v && xJ b v) := by
  rw [vR (mJ ha hb).1 hv, vR ha hv, vR hb hv, (mJ ha hb).2 _ (qK hv) (jC hv)]
end
section
section
variable {M : List Nat} {P : Program} {n : Nat} {W : World} {Q : Exit → Act → World → Prop} {L : List Blk} {f : Nat → Value}
theorem fin_cc {fn : Func} {R : Ending → World → Prop} {p q : Tmp} {ty tz : TypeId} (i j : Nat) (x y : Blk) {off oft : Nat} (v v' : Value) (hres : fn.results = #[.cell p ty, .cell q tz]) (hL : L[i]? = some x) (hL' : L[j]? = some y)
    (hp : ev n f (.tmp p) = .pointer (some ⟨x.b, off, none⟩)) (hq : ev n f (.tmp q) = .pointer (some ⟨y.b, oft, none⟩)) (hv : kF P ty x.cs off = some v) (hv' : kF P tz y.cs oft = some v') (hR : ∀ w, Own M W w L → R (.returned (.tuple #[v, v'])) w) : Fin M n W (bodyPost P fn R) .ret L f := ⟨fun w hO => by
  refine bodyPost_ret (v := .tuple #[v, v']) ?_ rfl (hR w hO)
  have e : (Fr n f).tmps.getD p undef = .pointer (some ⟨x.b, off, none⟩) := (vS n f p).trans hp
  have e' : (Fr n f).tmps[p]?.getD undef = .pointer (some ⟨x.b, off, none⟩) := by simpa using e
  have e2 : (Fr n f).tmps.getD q undef = .pointer (some ⟨y.b, oft, none⟩) := (vS n f q).trans hq
  have e2' : (Fr n f).tmps[q]?.getD undef = .pointer (some ⟨y.b, oft, none⟩) := by simpa using e2
  have h1 := qE hv (hO.get hL)
  have h2 := qE hv' (hO.get hL')
  simp [results, hres, e', e2', asAddr, h1, h2]⟩
theorem ZH {fn : Func} {R : Ending → World → Prop} {p q : Tmp} {ty tz : TypeId} (i j : Nat) (x y : Blk) {off oft : Nat} (v v' : Value) (hres : fn.results = #[.cell p ty, .cell q tz]) (hR : ∀ w, Own M W w L → R (.returned (.tuple #[v, v'])) w) (hL : L[i]? = some x := by kernel_rfl) (hL' : L[j]? = some y := by kernel_rfl) (hp : ev n f (.tmp p) = .pointer (some ⟨x.b, off, none⟩) := by kernel_rfl) (hq : ev n f (.tmp q) = .pointer (some ⟨y.b, oft, none⟩) := by kernel_rfl) (hv : kF P ty x.cs off = some v := by kernel_rfl) (hv' : kF P tz y.cs oft = some v' := by kernel_rfl) : Fin M n W (bodyPost P fn R) .ret L f := fin_cc i j x y v v' hres hL hL' hp hq hv hv' hR
def JoinQ (M : List Nat) (n : Nat) (W : World) (R : List Blk → (Nat → Value) → Prop) : Exit → Act → World → Prop
  | .normal, a, w => ∃ L f, R L f ∧ Own M W w L ∧ a = Fr n f
  | _, _, _ => False
theorem zZ {R : List Blk → (Nat → Value) → Prop} : PQ (JoinQ M n W R) := fun c a d v w h => h
theorem j6 {c : Code} (R : List Blk → (Nat → Value) → Prop) (h1 : Ok M P n W (JoinQ M n W R) c L f) (h2 : ∀ L f, R L f → Fin M n W Q .normal L f) : Ok M P n W Q c L f := ⟨fun w hO =>
  Code.wp_mono (fun e a w h => by
    cases e with
    | normal =>
      obtain ⟨L', f', hR, hO', rfl⟩ := h
      exact (h2 L' f' hR).go w hO'
    | _ => exact absurd h id) (h1.go w hO)⟩
theorem zW {R : List Blk → (Nat → Value) → Prop} (h : R L f) : Fin M n W (JoinQ M n W R) .normal L f := ⟨fun w hO => ⟨L, f, h, hO, rfl⟩⟩
end
theorem Reads.tail {α : Type} {g : α → List Value} {sz : Nat} (hg : ∀ x, (g x).length = sz) {w : World} {B b off c : Nat} {x : α} {l : List α} (h : Reads g w B (some ⟨b, off, none⟩) (x :: l)) (hc : l.length < c) : Reads g w B (some ⟨b, off + (if c = (1 : Int).toNat then 0 else (1 : Int).toNat * sz), none⟩) l := fun h0 => by
  obtain ⟨b', off', e, hlt, hcell⟩ := h (by simp)
  obtain ⟨rfl, rfl⟩ : b = b' ∧ off = off' := by simp at e; exact e
  refine ⟨b, _, rfl, hlt, fun k u hk => ?_⟩
  rw [if_neg (by show ¬ c = 1; omega)]
  have := hcell (sz + k) u (by rw [List.flatMap_cons, List.getElem?_append_right (by rw [hg]; omega), hg]; rw [show sz + k - sz = k from by omega]; exact hk)
  rw [show off + (1 : Int).toNat * sz + k = off + (sz + k) from by show off + 1 * sz + k = _; omega]
  exact this
end
section
theorem pM {a b : Cu} (ha : a.short) (hb : b.short) : (yW a b).short := by unfold yW; split <;> assumption
theorem fH {a b : Cu} (ha : a.short) (hb : b.short) : (x3 a b).short := by unfold x3; split <;> assumption
theorem qM (a b : Cu) (W : World) (ha : a.short) (hb : b.short) :
    Calls Tryz.prog 130 #[zI a, zI b] W fun e w' => e = .returned (.tuple #[zI (yW a b), zI (x3 a b)]) ∧ Below W.heap.size W w' := by
  refine Z2 (n := 14) Tryz.func130 rfl (ZO (Zb (zI a) (fun b1 => Zb (zI b) (fun b2 => Za (.agg ZE) (fun b3 => Za (.agg ZE) (fun b4 => ZN (zB (zB (zC ?_)))))))))
  refine Zl 3 ⟨b1, (zI a).cells, 78⟩ (off := 0) (zI a) (Zl 2 ⟨b2, (zI b).cells, 78⟩ (off := 0) (zI b) (Zc (k := 173) (args := #[zI a, zI b]) (.int .i64 (zQ a b)) (fun w _ => mI a b w ha hb) ?_))
  by_cases h1 : (0 : Int) < zQ a b
  · refine Zg h1 (ZY (zB (gM [⟨b2, (zI b).cells, 78⟩, ⟨b1, (zI a).cells, 78⟩] (by kernel_rfl) (fun w hO => Own.sub [⟨b4, ZE, 78⟩, ⟨b3, ZE, 78⟩] hO) (ZL 0 [⟨b4, ZE, 78⟩, ⟨b3, ZE, 78⟩] _ 0 ⟨b2, (zI b).cells, 78⟩ (off := 0) (zI b) (zL (zL zO)) rfl rfl (ZL 1 [⟨b4, ZE, 78⟩, ⟨b3, ZE, 78⟩] _ 1 ⟨b1, (zI a).cells, 78⟩ (off := 0) (zI a) (zL (zL zO)) rfl rfl (Zz 2 (ZS [⟨b4, ZE, 78⟩, ⟨b3, ZE, 78⟩] _ 1 ⟨b3, ZE, 78⟩ (off := 0) (zI b) rfl rfl (Zz 3 (ZS [⟨b4, ZE, 78⟩, ⟨b3, (zI b).cells, 78⟩] _ 0 ⟨b4, ZE, 78⟩ (off := 0) (zI a) rfl rfl ?_)))))))))
    exact ZZ (zF (zG (zD (ZH 1 0 ⟨b3, (zI b).cells, 78⟩ ⟨b4, (zI a).cells, 78⟩ (off := 0) (oft := 0) (zI b) (zI a) Tryz.results130 (fun w hO => ⟨by unfold yW x3; simp only [h1, if_true, if_false], hO.below⟩)))))
  refine Zh h1 (ZX (ZB (zB (gM [⟨b2, (zI b).cells, 78⟩, ⟨b1, (zI a).cells, 78⟩] (by kernel_rfl) (fun w hO => Own.sub [⟨b4, ZE, 78⟩, ⟨b3, ZE, 78⟩] hO) (ZL 0 [⟨b4, ZE, 78⟩, ⟨b3, ZE, 78⟩] _ 1 ⟨b1, (zI a).cells, 78⟩ (off := 0) (zI a) (zL zO) rfl rfl (ZL 1 [⟨b4, ZE, 78⟩, ⟨b3, ZE, 78⟩] _ 0 ⟨b2, (zI b).cells, 78⟩ (off := 0) (zI b) (zL zO) rfl rfl (Zz 2 (ZS [⟨b4, ZE, 78⟩, ⟨b3, ZE, 78⟩] _ 1 ⟨b3, ZE, 78⟩ (off := 0) (zI a) rfl rfl ?_))))))))
  exact Zz 3 (ZS [⟨b4, ZE, 78⟩, ⟨b3, (zI a).cells, 78⟩] _ 0 ⟨b4, ZE, 78⟩ (off := 0) (zI b) rfl rfl (ZZ (zF (zG (ZH 1 0 ⟨b3, (zI a).cells, 78⟩ ⟨b4, (zI b).cells, 78⟩ (off := 0) (oft := 0) (zI a) (zI b) Tryz.results130 (fun w hO => ⟨by unfold yW x3; simp only [h1, if_true, if_false], hO.below⟩))))))
def idxP (v : Ver) : List Sp → Int → Int
  | [], _ => -1
  | s :: r, k => if qF s v then k else idxP v r (k + 1)
end
section
theorem may_drop : ∀ (a b : List Sp), zN (a ++ b) = true → zN b = true
  | [], _, h => h
  | _ :: a, b, h => may_drop a b (kX h)
theorem may_take_bad {l : List Sp} {k : Nat} (hk : k < l.length) (h : l[k].may = false) : zN l = false := by
  cases h2 : zN l with
  | false => rfl
  | true => rw [xG h2 _ (List.getElem_mem hk)] at h; cases h
theorem may_step {l : List Sp} {k : Nat} (hk : k < l.length) (h : zN (l.take k) = true) (hs : l[k].may = true) (hp : 0 < k → zQ (l[k - 1]'(by omega)).hi l[k].lo < 0) : zN (l.take (k + 1)) = true := by
  rw [List.take_succ_eq_append_getElem hk]
  refine uL h hs (fun s hs2 => ?_)
  by_cases h0 : k = 0
  · subst h0; simp at hs2
  · have e : s = l[k - 1]'(by omega) := by
      rw [List.getLast?_eq_getElem?, List.length_take, Nat.min_eq_left (by omega), List.getElem?_take, if_pos (by omega), List.getElem?_eq_getElem (by omega)] at hs2
      exact (Option.some.inj hs2).symm
    rw [e]; exact hp (by omega)
theorem may_not {l : List Sp} {k : Nat} (hk : k < l.length) (h0 : 0 < k) (h : ¬ zQ (l[k - 1]'(by omega)).hi l[k].lo < 0) : zN l = false := by
  cases h2 : zN l with
  | false => rfl
  | true =>
    refine absurd ?_ h
    have e : l = l.take (k - 1) ++ (l[k - 1]'(by omega)) :: l[k] :: l.drop (k + 1) := by
      have e1 := (List.take_append_drop (k - 1) l).symm
      rw [List.drop_eq_getElem_cons (show k - 1 < l.length by omega)] at e1
      have e2 : l.drop (k - 1 + 1) = l[k] :: l.drop (k + 1) := by
        rw [show k - 1 + 1 = k from by omega, List.drop_eq_getElem_cons hk]
      rw [e2] at e1; exact e1
    have h3 : zN ((l[k - 1]'(by omega)) :: l[k] :: l.drop (k + 1)) = true := may_drop (l.take (k - 1)) _ (e ▸ h2)
    exact gE h3 _ (List.mem_cons_self ..)
theorem jY (A : Option Addr) (cap : Nat) (l : List Sp) (W : World) (hv : Reads x6 W W.heap.size A l) (hn : l.length ≤ 1000000) (hl : x5 l) :
    Calls Tryz.prog 129 #[.slice A l.length cap] W fun e w' => e = .returned (.bool (zN l)) ∧ Below W.heap.size W w' := by
  refine Z2 (n := 30) Tryz.func129 rfl (ZO (Zv Z5 (ZN (zB (ZO (Zv (.slice A l.length cap) (Zv (.int .i64 (l.length : Int)) (Zv (.int .i64 0) ?_))))))))
  refine ZN (zP (x7 (fun L f m => ∃ (k : Nat) (j : Nat → Value), (k ≤ l.length ∧ zN (l.take k) = true) ∧ L = [] ∧ f = kL j [(0, .slice A l.length cap), (5, .slice A l.length cap), (6, .int .i64 (l.length : Int)), (7, .int .i64 (k : Int))] ∧ m = l.length - k) (l.length - 0) ⟨0, _, ⟨Nat.zero_le _, by rw [List.take_zero]; rfl⟩, rfl, ZU, rfl⟩ ?_))
  rintro L f m ⟨k, j, hrel, rfl, rfl, rfl⟩
  have hkl := hrel.1
  refine zB (zC ?_)
  by_cases h1 : (k : Int) < (l.length : Int)
  · have hk : k < l.length := by omega
    obtain ⟨b, off, hA, hlt, hcell⟩ := hv (by omega)
    obtain ⟨s, hs⟩ : ∃ s, l[k] = s := ⟨_, rfl⟩
    have hsk : s.short := hs ▸ hl l[k] (List.getElem_mem hk)
    refine Zg h1 (ZN (zB (Zt (ZB (zB (zP (ZO (Zv (.int .i64 (k : Int)) ?_))))))))
    refine zX (Zp b (off + k * 14)) (by kernel_rfl) (ZA (b := b) (off := off) (c := cap) (n := l.length) (k := .i64) (j := (k : Int)) (e := 80) (sz := 14) hA) (Zo (yT s) (a := ⟨b, off + k * 14, none⟩) (fun w hO => yF yA (fun j u h => (hO.below.cell (p := ⟨b, off + j, none⟩) hlt).trans (hcell j u h)) k 0 hk (by omega) _ (by rw [hs]; kernel_rfl)) (Za (.agg Z8) (fun b1 => Zv (.int .i64 (k : Int)) (Zs 0 ⟨b1, Z8, 80⟩ (off := 0) (yT s) (ZN (zB (ZO (Zl 0 ⟨b1, (yT s).cells, 80⟩ (off := 0) (yT s) (Zc (k := 139) (args := #[yT s]) (.bool s.may) (fun w _ => bG s w hsk) ?_)))))))))
    cases h2 : s.may with
    | true =>
      refine Zv Z5 (ZX (ZB (zB (vP (by kernel_rfl) (by kernel_rfl) (Zw (.int .i64 (k : Int)) ?_)))))
      by_cases h3 : (0 : Int) < (k : Int)
      · have hk1 : k - 1 < l.length := by omega
        obtain ⟨p, hp⟩ : ∃ p, l[k - 1] = p := ⟨_, rfl⟩
        have hpk : p.short := hp ▸ hl l[k - 1] (List.getElem_mem hk1)
        refine Zi h3 (Zw Z4 (Zw (.slice A l.length cap) (Zw (.int .i64 (k : Int)) (q_sum (k := .i64) (((k : Int) : Int) - 1) (by kernel_rfl) (fun _ => by kernel_rfl) (IntWalk.i64_in _ (by omega)) (gG (Zp b (off + (k - 1) * 14)) (by kernel_rfl) (ZA (b := b) (off := off) (c := cap) (n := l.length) (k := .i64) (j := (k : Int) - 1) (e := 80) (sz := 14) hA) (Zw (Zp b (off + (k - 1) * 14 + 7)) (nO (zI p.hi) (a := ⟨b, off + (k - 1) * 14 + 7, none⟩) (by kernel_rfl) rfl (by kernel_rfl) (fun w hO => yF yA (fun j u h => (hO.below.cell (p := ⟨b, off + j, none⟩) hlt).trans (hcell j u h)) (k - 1) 7 (by omega) (by omega) _ (by rw [hp]; kernel_rfl)) (Zw (Zp b1 0) (Zm 0 ⟨b1, (yT s).cells, 80⟩ (off := 0) (.agg (ZJ s.lo)) (Zq (k := 173) (args := #[zI p.hi, .agg (ZJ s.lo)]) (.int .i64 (zQ p.hi s.lo)) (fun w _ => mI p.hi s.lo w hpk.2 hsk.1) ?_))))))))))
        by_cases h4 : (0 : Int) ≤ zQ p.hi s.lo
        · refine Zi h4 (Zw Z4 (gH (zF (Zt (ZO (Zv Z5 (ZN (zG (zJ ?_)))))))))
          exact zD (yK (zJ (zD (ZF Z5 Tryz.results129 (fun w hO => ⟨by rw [may_not hk (by omega) (by simp only [hp, hs]; omega)], hO.below⟩)))))
        refine ZI h4 (Zw Z5 (gH (zF (Zf (xD (zV (zF (zC (Zu (k := .i64) (((k + 1 : Nat) : Int)) (IntWalk.i64_in _ (by omega)) (Zv (.int .i64 ((k + 1 : Nat) : Int)) (zU ?_)))))))))))
        have hnext : zN (l.take (k + 1)) = true := may_step hk hrel.2 (by rw [hs]; assumption) (fun h0 => by simp only [hp, hs]; omega)
        exact y6 (fun w hO => Own.sub [_] hO) (zY (m' := l.length - (k + 1)) (by omega) ⟨k + 1, _, ⟨by omega, hnext⟩, rfl, ZU, rfl⟩)
      refine ZI h3 (Zw Z5 (Zj (Zj (Zj (Zj (Zj (Zj (Zj (Zj (Zj (Zj ?_)))))))))))
      refine Zw Z5 (gH (zF (Zf (xD (zV (zF (zC (Zu (k := .i64) (((k + 1 : Nat) : Int)) (IntWalk.i64_in _ (by omega)) (Zv (.int .i64 ((k + 1 : Nat) : Int)) (zU ?_))))))))))
      have hnext : zN (l.take (k + 1)) = true := may_step hk hrel.2 (by rw [hs]; assumption) (fun h0 => absurd h0 (by omega))
      exact y6 (fun w hO => Own.sub [_] hO) (zY (m' := l.length - (k + 1)) (by omega) ⟨k + 1, _, ⟨by omega, hnext⟩, rfl, ZU, rfl⟩)
    | false =>
      refine Zv Z4 (ZY (ZO (Zv Z5 (ZN (zG (zD (zJ ?_)))))))
      exact zD (yK (zJ (zD (ZF Z5 Tryz.results129 (fun w hO => ⟨by rw [may_take_bad hk (by rw [hs]; assumption)], hO.below⟩)))))
  refine Zh h1 (ZN (zB (Zf (yE (zH (zS (zM (zF (zB (zC ?_))))))))))
  exact Zv Z4 (ZN (zG (ZF Z4 Tryz.results129 (fun w hO => ⟨by have h := hrel.2; rw [List.take_of_length_le (by omega)] at h; rw [h], hO.below⟩))))
end
section
section
variable {M : List Nat} {P : Program} {n0 : Nat} {ops : Array Oper} {W : World} {Q : Exit → Act → World → Prop} {rest : List Oper} {o : Oper} {L : List Blk} {f : Nat → Value}
theorem s_append0 {t tn e : TypeId} {x y : Operand} {i : TypeInfo} {z : Value} {kn : IntKind} {k sz : Nat} (hw : xR ops n0 f o = true) (ho : o.op = .call { callee := .builtin .append, args := #[x, y], argTypes := #[t, tn] })
    (hx : ev n0 f x = .slice none 0 0) (hy : ev n0 f y = .int .i64 k) (ht : P.underlying t = some (.slice e)) (htn : P.underlying tn = some (.int kn)) (hi : P.info? e = some i) (hz : i.zero = some z) (hsz : i.size = sz) (hzs : z.cells.size = sz) (h0 : 0 < k) (hs : 0 < sz)
    (h63 : k ≤ maxLen) (h48 : k * i.bytes ≤ 140737488355328)
    (h : ∀ b cs cap, cs.size = cap * sz → k ≤ cap → cap ≤ maxLen → Seg M P n0 ops W Q rest (⟨b, cs, e⟩ :: L) (upd f o.dst (.slice (some ⟨b, 0, none⟩) k cap))) : Seg M P n0 ops W Q (o :: rest) L f :=
  jA hw fun w hO => by
    subst hsz
    have hsmall : k ≤ 9223372036854775807 := by simp only [maxLen] at h63; omega
    have hr := Lib.run_append_grow_zeros (P := P) w t tn o.type e i z .i64 kn ht htn hi hz none 0 0 [] (run_firstCells_none w.drew i.size 0 0 0) k h0 hs (by omega) (by omega) (by omega) (by rw [Nat.zero_add, nextslicecap_zero h0]; omega)
    have hge := grownCap_ge w (0 + k) 0 e
    have hcm := grownCap_le_maxLen w (0 + k) 0 e (by omega)
    obtain ⟨cs, hcs⟩ : ∃ cs : Array Value, cs = #[] ++ Builtin.zeroCells z.cells k ++ Builtin.zeroCells z.cells (grownCap w (0 + k) 0 e - (0 + k)) := ⟨_, rfl⟩
    have hr2 : (Builtin.append_ #[t, tn] o.type #[.slice none 0 0, .int .i64 k]).run P w = .ok (.slice (some ⟨w.heap.size, 0, none⟩) k (grownCap w (0 + k) 0 e)) (w.drew.alloc (.cells cs e)) := by rw [hr, hcs, Nat.zero_add]
    have hcz : cs.size = grownCap w (0 + k) 0 e * i.size := by
      rw [hcs]
      simp only [Array.size_append, size_zeroCells, hzs, List.size_toArray, List.length_nil, Array.size_empty]
      rw [Nat.zero_add, ← Nat.add_mul]
      congr 1
      omega
    refine vW (.slice (some ⟨w.heap.size, 0, none⟩) k (grownCap w (0 + k) 0 e)) (w' := w.drew.alloc (.cells cs e)) ?_ ((h w.heap.size cs (grownCap w (0 + k) 0 e) hcz (by omega) hcm).go _ (Own.alloc (L := L) (tY hO) cs e))
    unfold execOp
    simp only [ho, resolve, invoke, builtin, Sem.run_bind, Sem.run_pure, Result.andThen_ok, List.map_toArray, List.map_cons, List.map_nil, hx, hy, hr2]
end
theorem run_sllA {P : Program} {ρ : Operand → Value} {o : Oper} {t e : TypeId} {x y : Operand} {A : Option Addr} {b off n c sz : Nat} {k : IntKind} {j : Int} (ho : o.op = .slice t x (some y) none none) (hx : ρ x = .slice A n c) (hA : A = some ⟨b, off, none⟩) (hy : ρ y = .int k j)
    (hu : P.underlying t = some (.slice e)) (hs : (P.info? e).map (·.size) = some sz) (h0 : 0 ≤ j) (h1 : j ≤ n) (w : World) : (execOp ρ o).run P w = .ok (.value (.slice (some ⟨b, off + (if c = j.toNat then 0 else j.toNat * sz), none⟩) (n - j.toNat) (c - j.toNat))) w := by
  subst hA
  exact fX ho hx hy hu hs h0 h1 w
theorem Reads.drop1 {α : Type} {g : α → List Value} {sz : Nat} (hg : ∀ x, (g x).length = sz) {w : World} {B b off c : Nat} {A : Option Addr} {l : List α} (h : Reads g w B A l) (hA : A = some ⟨b, off, none⟩) (hc : l.length ≤ c) : Reads g w B (some ⟨b, off + (if c = (1 : Int).toNat then 0 else (1 : Int).toNat * sz), none⟩) (l.drop 1) := by
  subst hA
  cases l with
  | nil => exact fun h0 => by simp at h0
  | cons x r => exact h.tail hg (by rw [List.length_cons] at hc; omega)
end
section
section
variable {M : List Nat} {P : Program} {n : Nat} {ops : Array Oper} {W : World} {Q : Exit → Act → World → Prop} {rest : List Oper} {o : Oper} {L : List Blk} {f : Nat → Value} {Qe : List Blk → (Nat → Value) → Prop}
theorem jQ (x : Blk) {ty : TypeId} {p : Operand} {off : Nat} (v : Value) (hw : xR ops n f o = true) (ho : o.op = .load ty p) (hL : x ∈ L) (hp : ev n f p = .pointer (some ⟨x.b, off, none⟩)) (hv : kF P ty x.cs off = some v)
    (h : Seg M P n ops W Q rest L (upd f o.dst v)) : Seg M P n ops W Q (o :: rest) L f :=
  s_read v hw (fun _ hO => q8 ho hp (qE hv (hO.held x hL))) h
end
end
section
end
section
theorem Own.sublist {M : List Nat} {W w : World} {L L' : List Blk} (h : Own M W w L) (hs : List.Sublist L' L) : Own M W w L' := h.take (fun x hx => hs.subset hx) (h.apart.sublist (hs.map _))
end
section
def bumpN (v : Ver) (k : Nat) : Ver := if k = 0 then Ver.rel (v.maj + 1) 0 0 else if k = 1 then Ver.rel v.maj (v.min + 1) 0 else Ver.rel v.maj v.min (v.pat + 1)
def yQ (v : Ver) (part : Int) : Bool := v.may && decide (0 ≤ part ∧ part < 3) && !(kA v.maj v.min v.pat part.toNat == 9999)
def x9 (v : Ver) (part : Int) : Ver := if yQ v part then bumpN v part.toNat else Ver.zero
def BEnd (v : Ver) (part : Int) (w : World) (e : Ending) (w' : World) : Prop := e = .returned (.tuple #[yR (x9 v part), .bool (yQ v part)]) ∧ Below w.heap.size w w'
theorem empty_mk2 (b : List UInt8) : (mkS b).toList.isEmpty = b.isEmpty := by rw [Lib.toList_data, mk_data]
theorem vT {v u : Ver} {part : Int} {b : Bool} {w wr : World} {tmps : Array Value} {old : Array Value} (h2 : tmps.getD 4 undef = .pointer (some ⟨w.heap.size + 1, 0, none⟩)) (h3 : tmps.getD 5 undef = .bool b)
    (hg : wr.heap[w.heap.size + 1]? = some (.cells old 44)) (hbel : Below w.heap.size w wr) (hb : yQ v part = b) (hv : x9 v part = u) :
    bodyPost Tryz.prog Tryz.f203 (BEnd v part w) .ret ⟨tmps, []⟩ (wr.setRow (w.heap.size + 1) (ZP u)) := by
  have hrow := setRow_heap wr (w.heap.size + 1) _ (ZP u) _ _ hg
  have hr := run_loadVar_row (P := Tryz.prog) _ (w.heap.size + 1) 44 44 _ _ _ hrow Tryz.underlying44 rfl (by kernel_rfl)
  have h2' : tmps[4]?.getD undef = .pointer (some ⟨w.heap.size + 1, 0, none⟩) := by simpa using h2
  have h3' : tmps[5]?.getD undef = .bool b := by simpa using h3
  refine bodyPost_ret (v := .tuple #[yR u, .bool b]) (by simp [results, Tryz.results203, asAddr, h2', h3', hr, yR]) rfl ⟨by rw [hv, hb], qC hbel (by omega) _⟩
theorem zeroInt (w : World) : (zeroValue 3).run Tryz.prog w = .ok (.int .i64 0) w := by kernel_rfl
theorem d8 {w : World} {N k : Nat} {a b c : Value} (x : Value) (hg : w.heap[N]? = some (.cells #[a, b, c] 88)) : w.setCell ⟨N, k, none⟩ x = w.setRow N ((#[a, b, c] : Array Value).setIfInBounds k x) := setCell_eq_setRow _ _ _ _ _ _ _ hg
theorem wM (w : World) (g : Nat) (a b : Array Value) : (w.setRow g a).setRow g b = w.setRow g b := setRow_setRow _ _ _ _
theorem clear_two {w : World} {N : Nat} {a b c : Int} {old : Array Value} (hg : w.heap[N]? = some (.cells old 88)) (_ho : old.size = 3) :
    (Builtin.clear_ #[40] 0 #[.slice (some ⟨N, 1, none⟩) 2 2]).run Tryz.prog (w.setRow N #[.int .i64 a, .int .i64 b, .int .i64 c]) = .ok (.tuple #[]) (w.setRow N #[.int .i64 a, .int .i64 0, .int .i64 0]) := by
  have h1 := setRow_heap w N old #[.int .i64 a, .int .i64 b, .int .i64 c] _ _ hg
  obtain ⟨n1, m1⟩ := xN (j := 1) h1 (by simp)
  obtain ⟨n2, m2⟩ := xN (j := 2) h1 (by simp)
  have := Lib.run_clear_slice (P := Tryz.prog) (w.setRow N #[.int .i64 a, .int .i64 b, .int .i64 c]) 40 3 0 (.int .i64 0) Tryz.underlying40 zeroInt rfl rfl N 1 2 2 (by omega)
    (fun j hj => by match j, hj with | 0, _ => rw [n1]; rfl | 1, _ => rw [n2]; rfl) (fun j hj => by match j, hj with | 0, _ => exact m1 | 1, _ => exact m2)
  rw [this]
  congr 1
  show ((w.setRow N #[.int .i64 a, .int .i64 b, .int .i64 c]).setCell ⟨N, 1, none⟩ (.int .i64 0)).setCell ⟨N, 2, none⟩ (.int .i64 0) = _
  rw [d8 _ h1, wM]
  have h2 := setRow_heap w N old ((#[.int .i64 a, .int .i64 b, .int .i64 c] : Array Value).setIfInBounds 1 (.int .i64 0)) _ _ hg
  rw [d8 (a := .int .i64 a) (b := .int .i64 0) (c := .int .i64 c) _ h2, wM]
  rfl
theorem clear_one {w : World} {N : Nat} {a b c : Int} {old : Array Value} (hg : w.heap[N]? = some (.cells old 88)) (_ho : old.size = 3) :
    (Builtin.clear_ #[40] 0 #[.slice (some ⟨N, 2, none⟩) 1 1]).run Tryz.prog (w.setRow N #[.int .i64 a, .int .i64 b, .int .i64 c]) = .ok (.tuple #[]) (w.setRow N #[.int .i64 a, .int .i64 b, .int .i64 0]) := by
  have h1 := setRow_heap w N old #[.int .i64 a, .int .i64 b, .int .i64 c] _ _ hg
  obtain ⟨n2, m2⟩ := xN (j := 2) h1 (by simp)
  have := Lib.run_clear_slice (P := Tryz.prog) (w.setRow N #[.int .i64 a, .int .i64 b, .int .i64 c]) 40 3 0 (.int .i64 0) Tryz.underlying40 zeroInt rfl rfl N 2 1 1 (by omega)
    (fun j hj => by match j, hj with | 0, _ => rw [n2]; rfl) (fun j hj => by match j, hj with | 0, _ => exact m2)
  rw [this]
  congr 1
  show (w.setRow N #[.int .i64 a, .int .i64 b, .int .i64 c]).setCell ⟨N, 2, none⟩ (.int .i64 0) = _
  rw [d8 _ h1, wM]
  rfl
theorem clear_none {w : World} (x : Option Addr) (c : Nat) : (Builtin.clear_ #[40] 0 #[.slice x 0 c]).run Tryz.prog w = .ok (.tuple #[]) w := by
  cases x <;> simp [Builtin.clear_, run_underlying Tryz.underlying40]
theorem bump_go (v : Ver) (part : Int) (w : World) (hp : v.pre.length ≤ 1000000) (hq : v.build.length ≤ 1000000) :
    Calls Tryz.prog 203 #[yR v, .int .i64 part] w (BEnd v part w) := by
  have cM := fun w' => jW v w' (by omega) (by omega)
  have cN := fun w' => m9 v w'
  have hN : v.may = true → (0 ≤ v.maj ∧ v.maj ≤ 9999) ∧ (0 ≤ v.min ∧ v.min ≤ 9999) ∧ (0 ≤ v.pat ∧ v.pat ≤ 9999) := fun h => by
    obtain ⟨h1, h2, h3⟩ := qY h
    unfold yP at h1 h2 h3; simp at h1 h2 h3
    exact ⟨h1, h2, h3⟩
  obtain ⟨u, hu⟩ : ∃ u, u = v := ⟨_, rfl⟩
  have HU := Lib.hid hu
  rw [← hu] at hN
  have hgo : BEnd v part w = BEnd u part w := by rw [hu]
  rw [hgo]
  obtain ⟨m, hm⟩ : ∃ m, u.may = m := ⟨_, rfl⟩
  rw [← hu, hm] at cM
  rw [← hu] at cN ⊢
  clear hgo hu
  obtain ⟨a, b, c, p, q⟩ := u
  unfold yR at cM cN ⊢
  dsimp only at cM cN hN ⊢
  go_enter Tryz.func203, Tryz.ntmps203
  go_wp2_with fail
  refine (cN _).mono ?_
  rintro e w1 ⟨rfl, hb1⟩
  have hz1 := hb1.size
  simp only [yG] at hz1
  have hgB := Lib.hid ((hb1.block w.heap.size (by simp only [yG]; omega)).trans ((kO _ _ (by simp only [yG]; omega)).trans (q9 w _)))
  have hgR := Lib.hid ((hb1.block (w.heap.size + 1) (by simp only [yG]; omega)).trans (bM _ _ _ (by simp only [yG])))
  have hbw : Below w.heap.size w w1 := (((Below.refl _ _).alloc (Nat.le_refl _) _).alloc (by simp only [yG]; omega) _).trans (hb1.mono (by simp only [yG]; omega))
  have hlB : w.heap.size < w1.heap.size := by omega
  go_wp2_with (first | (refine wpList_load_row rfl 44 _ rfl w.heap.size rfl _ _ _ _ ((kO _ _ hlB).trans hgB.out) Tryz.underlying44 rfl (by kernel_rfl) ?_) | fail)
  refine (cM _).mono ?_
  rintro e w2 ⟨rfl, hb2⟩
  have hz2 := hb2.size
  rw [yG] at hz2
  have hgR2 := Lib.hid ((hb2.block (w.heap.size + 1) (by rw [yG]; omega)).trans ((kO _ _ (by omega)).trans hgR.out))
  have hgN := Lib.hid ((hb2.block w1.heap.size (by rw [yG]; omega)).trans (q9 w1 _))
  have hbw2 : Below w.heap.size w w2 := (hbw.alloc (by omega) _).trans (hb2.mono (by rw [yG]; omega))
  clear hbw hb1 hb2 hgB hgR cM cN
  cases m with
  | false =>
    have HB : Hid (yQ ⟨a, b, c, p, q⟩ part = false) := by show _ = _; unfold yQ; rw [hm]; rfl
    clear hm hN
    go_wp2_with (refine wpList_store_row rfl 44 _ _ rfl (w.heap.size + 1) Z7 rfl rfl _ _ hgR2.out (by kernel_rfl) rfl (qR _ _ _ _ _) ?_)
    exact vT (u := Ver.zero) rfl rfl hgR2.out hbw2 HB.out (by unfold x9; rw [HB.out]; rfl)
  | true =>
    obtain ⟨⟨a0, a9⟩, ⟨b0, b9⟩, ⟨c0, c9⟩⟩ := hN hm
    have HM := Lib.hid hm
    clear hN hm
    by_cases p0 : part < 0
    · have HB : Hid (yQ ⟨a, b, c, p, q⟩ part = false) := by show _ = _; unfold yQ; rw [decide_eq_false (by omega)]; simp
      go_wp2_with (refine wpList_store_row rfl 44 _ _ rfl (w.heap.size + 1) Z7 rfl rfl _ _ hgR2.out (by kernel_rfl) rfl (qR _ _ _ _ _) ?_)
      exact vT (u := Ver.zero) rfl rfl hgR2.out hbw2 HB.out (by unfold x9; rw [HB.out]; rfl)
    · by_cases p3 : 3 ≤ part
      · have HB : Hid (yQ ⟨a, b, c, p, q⟩ part = false) := by show _ = _; unfold yQ; rw [decide_eq_false (by omega)]; simp
        go_wp2_with (refine wpList_store_row rfl 44 _ _ rfl (w.heap.size + 1) Z7 rfl rfl _ _ hgR2.out (by kernel_rfl) rfl (qR _ _ _ _ _) ?_)
        exact vT (u := Ver.zero) rfl rfl hgR2.out hbw2 HB.out (by unfold x9; rw [HB.out]; rfl)
      · obtain ⟨n0, m0⟩ := xN (j := 0) hgN.out (by simp)
        obtain ⟨n1, m1⟩ := xN (j := 1) hgN.out (by simp)
        obtain ⟨n2, m2⟩ := xN (j := 2) hgN.out (by simp)
        simp only [List.getElem_toArray, List.getElem_cons_succ, List.getElem_cons_zero] at n0 n1 n2
        have hpart : part = 0 ∨ part = 1 ∨ part = 2 := by omega
        clear p0 p3
        rcases hpart with rfl | rfl | rfl
        · by_cases h9 : a = 9999
          · have h9b : (a == 9999) = true := by simpa using h9
            have HB : Hid (yQ ⟨a, b, c, p, q⟩ 0 = false) := by show _ = _; unfold yQ; rw [show kA a b c (0 : Int).toNat = a from rfl, h9b]; simp
            clear h9
            go_wp2_with (refine wpList_store_row rfl 44 _ _ rfl (w.heap.size + 1) Z7 rfl rfl _ _ hgR2.out (by kernel_rfl) rfl (qR _ _ _ _ _) ?_)
            exact vT (u := Ver.zero) rfl rfl hgR2.out hbw2 HB.out (by unfold x9; rw [HB.out]; rfl)
          · have h9b : (a == 9999) = false := by simpa using h9
            have HB : Hid (yQ ⟨a, b, c, p, q⟩ 0 = true) := by show _ = _; unfold yQ; rw [HM.out, show kA a b c (0 : Int).toNat = a from rfl, h9b]; rfl
            have hW : (w2.setCell ⟨w1.heap.size, 0, none⟩ (.int .i64 (a + 1))) = w2.setRow w1.heap.size #[.int .i64 (a + 1), .int .i64 (b), .int .i64 (c)] := d8 _ hgN.out
            have hcl : (Builtin.clear_ #[40] 0 #[.slice (some ⟨w1.heap.size, 1, none⟩) 2 2]).run Tryz.prog (w2.setRow w1.heap.size #[.int .i64 (a + 1), .int .i64 (b), .int .i64 (c)]) = .ok (.tuple #[]) (w2.setRow w1.heap.size #[.int .i64 (a + 1), .int .i64 (0), .int .i64 (0)]) := clear_two hgN.out rfl
            have hN2 := Lib.hid (setRow_heap w2 w1.heap.size _ #[.int .i64 (a + 1), .int .i64 (0), .int .i64 (0)] _ _ hgN.out)
            have hR2 := Lib.hid ((vO w2 w1.heap.size (w.heap.size + 1) #[.int .i64 (a + 1), .int .i64 (0), .int .i64 (0)] (by omega)).trans hgR2.out)
            have hbR : Below w.heap.size w (w2.setRow w1.heap.size #[.int .i64 (a + 1), .int .i64 (0), .int .i64 (0)]) := qC hbw2 (by omega) _
            have hsR : (w2.setRow w1.heap.size #[.int .i64 (a + 1), .int .i64 (0), .int .i64 (0)]).heap.size = w2.heap.size := by unfold World.setRow; simp
            have HSR := Lib.hid hsR
            clear hsR h9
            go_wp2_with (first
              | (refine wpList_load_row rfl 88 _ rfl w1.heap.size rfl _ _ _ _ hN2.out Tryz.underlying88 rfl (by kernel_rfl) ?_)
              | (go_at_call 206; refine (bK _ _ _ _).mono ?_; unfold yR Ver.rel; rintro e w3 ⟨rfl, hb3⟩; have hR3 := Lib.hid ((hb3.block (w.heap.size + 1) (by rw [HSR.out]; omega)).trans hR2.out); have hbw3 := hbR.trans (hb3.mono hbR.size))
              | (refine wpList_store_row rfl 44 _ _ rfl (w.heap.size + 1) #[.int .i64 (a + 1), .int .i64 (0), .int .i64 (0), .string (mkS []), .string (mkS [])] rfl rfl _ _ hR3.out (by kernel_rfl) rfl (qR _ _ _ _ _) ?_))
            exact vT (u := Ver.rel (a + 1) (0) (0)) rfl rfl hR3.out hbw3 HB.out (by unfold x9; rw [HB.out]; rfl)
        · by_cases h9 : b = 9999
          · have h9b : (b == 9999) = true := by simpa using h9
            have HB : Hid (yQ ⟨a, b, c, p, q⟩ 1 = false) := by show _ = _; unfold yQ; rw [show kA a b c (1 : Int).toNat = b from rfl, h9b]; simp
            clear h9
            go_wp2_with (refine wpList_store_row rfl 44 _ _ rfl (w.heap.size + 1) Z7 rfl rfl _ _ hgR2.out (by kernel_rfl) rfl (qR _ _ _ _ _) ?_)
            exact vT (u := Ver.zero) rfl rfl hgR2.out hbw2 HB.out (by unfold x9; rw [HB.out]; rfl)
          · have h9b : (b == 9999) = false := by simpa using h9
            have HB : Hid (yQ ⟨a, b, c, p, q⟩ 1 = true) := by show _ = _; unfold yQ; rw [HM.out, show kA a b c (1 : Int).toNat = b from rfl, h9b]; rfl
            have hW : (w2.setCell ⟨w1.heap.size, 1, none⟩ (.int .i64 (b + 1))) = w2.setRow w1.heap.size #[.int .i64 (a), .int .i64 (b + 1), .int .i64 (c)] := d8 _ hgN.out
            have hcl : (Builtin.clear_ #[40] 0 #[.slice (some ⟨w1.heap.size, 2, none⟩) 1 1]).run Tryz.prog (w2.setRow w1.heap.size #[.int .i64 (a), .int .i64 (b + 1), .int .i64 (c)]) = .ok (.tuple #[]) (w2.setRow w1.heap.size #[.int .i64 (a), .int .i64 (b + 1), .int .i64 (0)]) := clear_one hgN.out rfl
            have hN2 := Lib.hid (setRow_heap w2 w1.heap.size _ #[.int .i64 (a), .int .i64 (b + 1), .int .i64 (0)] _ _ hgN.out)
            have hR2 := Lib.hid ((vO w2 w1.heap.size (w.heap.size + 1) #[.int .i64 (a), .int .i64 (b + 1), .int .i64 (0)] (by omega)).trans hgR2.out)
            have hbR : Below w.heap.size w (w2.setRow w1.heap.size #[.int .i64 (a), .int .i64 (b + 1), .int .i64 (0)]) := qC hbw2 (by omega) _
            have hsR : (w2.setRow w1.heap.size #[.int .i64 (a), .int .i64 (b + 1), .int .i64 (0)]).heap.size = w2.heap.size := by unfold World.setRow; simp
            have HSR := Lib.hid hsR
            clear hsR h9
            go_wp2_with (first
              | (refine wpList_load_row rfl 88 _ rfl w1.heap.size rfl _ _ _ _ hN2.out Tryz.underlying88 rfl (by kernel_rfl) ?_)
              | (go_at_call 206; refine (bK _ _ _ _).mono ?_; unfold yR Ver.rel; rintro e w3 ⟨rfl, hb3⟩; have hR3 := Lib.hid ((hb3.block (w.heap.size + 1) (by rw [HSR.out]; omega)).trans hR2.out); have hbw3 := hbR.trans (hb3.mono hbR.size))
              | (refine wpList_store_row rfl 44 _ _ rfl (w.heap.size + 1) #[.int .i64 (a), .int .i64 (b + 1), .int .i64 (0), .string (mkS []), .string (mkS [])] rfl rfl _ _ hR3.out (by kernel_rfl) rfl (qR _ _ _ _ _) ?_))
            exact vT (u := Ver.rel (a) (b + 1) (0)) rfl rfl hR3.out hbw3 HB.out (by unfold x9; rw [HB.out]; rfl)
        · by_cases h9 : c = 9999
          · have h9b : (c == 9999) = true := by simpa using h9
            have HB : Hid (yQ ⟨a, b, c, p, q⟩ 2 = false) := by show _ = _; unfold yQ; rw [show kA a b c (2 : Int).toNat = c from rfl, h9b]; simp
            clear h9
            go_wp2_with (refine wpList_store_row rfl 44 _ _ rfl (w.heap.size + 1) Z7 rfl rfl _ _ hgR2.out (by kernel_rfl) rfl (qR _ _ _ _ _) ?_)
            exact vT (u := Ver.zero) rfl rfl hgR2.out hbw2 HB.out (by unfold x9; rw [HB.out]; rfl)
          · have h9b : (c == 9999) = false := by simpa using h9
            have HB : Hid (yQ ⟨a, b, c, p, q⟩ 2 = true) := by show _ = _; unfold yQ; rw [HM.out, show kA a b c (2 : Int).toNat = c from rfl, h9b]; rfl
            have hW : (w2.setCell ⟨w1.heap.size, 2, none⟩ (.int .i64 (c + 1))) = w2.setRow w1.heap.size #[.int .i64 (a), .int .i64 (b), .int .i64 (c + 1)] := d8 _ hgN.out
            have hcl : (Builtin.clear_ #[40] 0 #[.slice (some ⟨w1.heap.size, 0, none⟩) 0 0]).run Tryz.prog (w2.setRow w1.heap.size #[.int .i64 (a), .int .i64 (b), .int .i64 (c + 1)]) = .ok (.tuple #[]) (w2.setRow w1.heap.size #[.int .i64 (a), .int .i64 (b), .int .i64 (c + 1)]) := clear_none _ _
            have hN2 := Lib.hid (setRow_heap w2 w1.heap.size _ #[.int .i64 (a), .int .i64 (b), .int .i64 (c + 1)] _ _ hgN.out)
            have hR2 := Lib.hid ((vO w2 w1.heap.size (w.heap.size + 1) #[.int .i64 (a), .int .i64 (b), .int .i64 (c + 1)] (by omega)).trans hgR2.out)
            have hbR : Below w.heap.size w (w2.setRow w1.heap.size #[.int .i64 (a), .int .i64 (b), .int .i64 (c + 1)]) := qC hbw2 (by omega) _
            have hsR : (w2.setRow w1.heap.size #[.int .i64 (a), .int .i64 (b), .int .i64 (c + 1)]).heap.size = w2.heap.size := by unfold World.setRow; simp
            have HSR := Lib.hid hsR
            clear hsR h9
            go_wp2_with (first
              | (refine wpList_load_row rfl 88 _ rfl w1.heap.size rfl _ _ _ _ hN2.out Tryz.underlying88 rfl (by kernel_rfl) ?_)
              | (go_at_call 206; refine (bK _ _ _ _).mono ?_; unfold yR Ver.rel; rintro e w3 ⟨rfl, hb3⟩; have hR3 := Lib.hid ((hb3.block (w.heap.size + 1) (by rw [HSR.out]; omega)).trans hR2.out); have hbw3 := hbR.trans (hb3.mono hbR.size))
              | (refine wpList_store_row rfl 44 _ _ rfl (w.heap.size + 1) #[.int .i64 (a), .int .i64 (b), .int .i64 (c + 1), .string (mkS []), .string (mkS [])] rfl rfl _ _ hR3.out (by kernel_rfl) rfl (qR _ _ _ _ _) ?_))
            exact vT (u := Ver.rel (a) (b) (c + 1)) rfl rfl hR3.out hbw3 HB.out (by unfold x9; rw [HB.out]; rfl)
theorem bump_any (v : Ver) (part : Int) (w : World) (hp : v.pre.length ≤ 1000000) (hq : v.build.length ≤ 1000000) :
    Calls Tryz.prog 203 #[yR v, .int .i64 part] w fun e w' => e = .returned (.tuple #[yR (x9 v part), .bool (yQ v part)]) ∧ Below w.heap.size w w' := bump_go v part w hp hq
def gN (v : Ver) : Bool := v.may && (!v.pre.isEmpty || yQ v 2 || yQ v 1 || yQ v 0)
def xA (v : Ver) : Ver :=
  if v.may then (if v.pre.isEmpty then (if yQ v 2 then x9 v 2 else if yQ v 1 then x9 v 1 else if yQ v 0 then x9 v 0 else Ver.zero) else Ver.rel v.maj v.min v.pat) else Ver.zero
def NEnd (v : Ver) (w : World) (e : Ending) (w' : World) : Prop := e = .returned (.tuple #[yR (xA v), .bool (gN v)]) ∧ Below w.heap.size w w'
theorem dI {v u : Ver} {b : Bool} {w wr : World} {tmps : Array Value} {old : Array Value} (h2 : tmps.getD 2 undef = .pointer (some ⟨w.heap.size + 1, 0, none⟩)) (h3 : tmps.getD 3 undef = .bool b)
    (hg : wr.heap[w.heap.size + 1]? = some (.cells old 44)) (hbel : Below w.heap.size w wr) (hb : gN v = b) (hv : xA v = u) :
    bodyPost Tryz.prog Tryz.f181 (NEnd v w) .ret ⟨tmps, []⟩ (wr.setRow (w.heap.size + 1) (ZP u)) := by
  have hrow := setRow_heap wr (w.heap.size + 1) _ (ZP u) _ _ hg
  have hr := run_loadVar_row (P := Tryz.prog) _ (w.heap.size + 1) 44 44 _ _ _ hrow Tryz.underlying44 rfl (by kernel_rfl)
  have h2' : tmps[2]?.getD undef = .pointer (some ⟨w.heap.size + 1, 0, none⟩) := by simpa using h2
  have h3' : tmps[3]?.getD undef = .bool b := by simpa using h3
  refine bodyPost_ret (v := .tuple #[yR u, .bool b]) (by simp [results, Tryz.results181, asAddr, h2', h3', hr, yR]) rfl ⟨by rw [hv, hb], qC hbel (by omega) _⟩
def jZ (v : Ver) : Nat → Ver × Bool
  | 0 => (Ver.zero, false)
  | k + 1 => if yQ v k then (x9 v k, true) else jZ v k
theorem n7 (v : Ver) (h : (!v.pre.isEmpty && v.may) = false) : xA v = (jZ v 3).1 ∧ gN v = (jZ v 3).2 := by
  unfold xA gN
  show _ = (if yQ v 2 then (x9 v 2, true) else if yQ v 1 then (x9 v 1, true) else if yQ v 0 then (x9 v 0, true) else (Ver.zero, false)).1 ∧ _ = (if yQ v 2 then (x9 v 2, true) else if yQ v 1 then (x9 v 1, true) else if yQ v 0 then (x9 v 0, true) else (Ver.zero, false)).2
  cases hm : v.may with
  | true =>
    rw [hm, Bool.and_true] at h
    rw [h]
    have hp : v.pre.isEmpty = true := by simpa using h
    rw [hp]
    cases yQ v 2 <;> cases yQ v 1 <;> cases yQ v 0 <;> simp
  | false =>
    have hk : ∀ k, yQ v k = false := fun k => by unfold yQ; rw [hm]; rfl
    rw [hk, hk, hk]; simp
theorem next_go (v : Ver) (w : World) (hp : v.pre.length ≤ 1000000) (hq : v.build.length ≤ 1000000) :
    Calls Tryz.prog 181 #[yR v] w (NEnd v w) := by
  have cM := fun w' => jW v w' (by omega) (by omega)
  have cN := fun w' => m9 v w'
  have ep := empty_mk2 v.pre
  obtain ⟨a, b, c, p, q⟩ := v
  unfold yR at cM cN ⊢
  dsimp only at cM cN ep hp hq ⊢
  cases he : p.isEmpty with
  | true =>
    have HG : Hid ((!p.isEmpty && (Ver.mk a b c p q).may) = false) := by show _ = _; rw [he]; rfl
    rw [he] at ep
    clear he cM cN
    go_enter Tryz.func181, Tryz.ntmps181
    go_wp2
    go_loopw [4] (fun x wr => ∃ k : Nat, k ≤ 3 ∧ x = .int .i64 ((k : Int) - 1) ∧ wr.heap[w.heap.size]? = some (.cells #[.int .i64 a, .int .i64 b, .int .i64 c, .string (mkS p), .string (mkS q)] 44) ∧ wr.heap[w.heap.size + 1]? = some (.cells Z7 44) ∧ Below w.heap.size w wr ∧ Hid (jZ ⟨a, b, c, p, q⟩ k = jZ ⟨a, b, c, p, q⟩ 3)) (fun x _ => ((intOf x) + 1).toNat)
    case atStart => exact ⟨3, by omega, rfl, (kO _ _ (by rw [yG]; omega)).trans (q9 w _), bM _ _ _ (by rw [yG]), ((Below.refl _ _).alloc (Nat.le_refl _) _).alloc (by rw [yG]; omega) _, rfl⟩
    case round =>
      obtain ⟨k, hk, rfl, hB, hR, hbel, HR⟩ := hrel
      have hlR := (Array.getElem?_eq_some_iff.1 hR).1
      have HB := Lib.hid hB
      have HR0 := Lib.hid hR
      clear hB hR
      cases k with
      | zero =>
        have HF : Hid (jZ ⟨a, b, c, p, q⟩ 3 = (Ver.zero, false)) := HR.out.symm
        go_wp2_with (refine wpList_store_row rfl 44 _ _ rfl (w.heap.size + 1) Z7 rfl rfl _ _ HR0.out (by kernel_rfl) rfl (qR _ _ _ _ _) ?_)
        have hf := n7 ⟨a, b, c, p, q⟩ HG.out
        rw [HF.out] at hf
        exact dI (u := Ver.zero) rfl rfl HR0.out hbel hf.2 hf.1
      | succ k =>
        have hk0 : (0 : Int) ≤ k := by omega
        have hke : (((k + 1 : Nat) : Int) - 1) = (k : Int) := by omega
        rw [hke]
        have cB := fun w' => bump_any ⟨a, b, c, p, q⟩ (k : Int) w' hp hq
        unfold yR at cB
        dsimp only at cB
        cases hb : yQ ⟨a, b, c, p, q⟩ (k : Int) with
        | true =>
          rw [hb] at cB
          obtain ⟨u, hu⟩ : ∃ u, x9 ⟨a, b, c, p, q⟩ (k : Int) = u := ⟨_, rfl⟩
          rw [hu] at cB
          have hfq : jZ ⟨a, b, c, p, q⟩ 3 = (u, true) := by rw [← HR.out, jZ, hb, hu]; rfl
          have HF := Lib.hid hfq
          clear hfq hb hu hke
          go_wp2_with (first
            | (refine wpList_load_row rfl 44 _ rfl w.heap.size rfl _ _ _ _ HB.out Tryz.underlying44 rfl (by kernel_rfl) ?_)
            | (go_at_call 203; refine (cB _).mono ?_; rintro e w3 ⟨rfl, hb3⟩; have hR3 := Lib.hid ((hb3.block (w.heap.size + 1) hlR).trans HR0.out); have hbw3 := hbel.trans (hb3.mono hbel.size); have hl3 := Nat.lt_of_lt_of_le hlR hb3.size)
            | (refine wpList_store_row rfl 44 _ _ rfl (w.heap.size + 1) (ZP u) rfl rfl _ _ ((kO _ _ hl3).trans hR3.out) (by kernel_rfl) rfl (qR _ _ _ _ _) ?_))
          have hf := n7 ⟨a, b, c, p, q⟩ HG.out
          rw [HF.out] at hf
          exact dI (u := u) rfl rfl ((kO _ _ hl3).trans hR3.out) (hbw3.alloc (by omega) _) hf.2 hf.1
        | false =>
          rw [hb] at cB
          obtain ⟨u, hu⟩ : ∃ u, x9 ⟨a, b, c, p, q⟩ (k : Int) = u := ⟨_, rfl⟩
          rw [hu] at cB
          have hfq : jZ ⟨a, b, c, p, q⟩ k = jZ ⟨a, b, c, p, q⟩ 3 := by rw [← HR.out, jZ, hb]; rfl
          have HF := Lib.hid hfq
          clear hfq hb hu hke
          go_wp2_with (first
            | (refine wpList_load_row rfl 44 _ rfl w.heap.size rfl _ _ _ _ HB.out Tryz.underlying44 rfl (by kernel_rfl) ?_)
            | (go_at_call 203; refine (cB _).mono ?_; rintro e w3 ⟨rfl, hb3⟩; have hl3 := Nat.lt_of_lt_of_le hlR hb3.size))
          have hR3 := (hb3.block (w.heap.size + 1) hlR).trans HR0.out
          have hB3 := (hb3.block w.heap.size (by omega)).trans HB.out
          have hbw3 := hbel.trans (hb3.mono hbel.size)
          go_roundw
          case rel => exact ⟨k, by omega, rfl, (kO _ _ (by omega)).trans hB3, (kO _ _ hl3).trans hR3, hbw3.alloc (by omega) _, HF.out⟩
          case measure => simp [intOf]; try omega
  | false =>
    rw [he] at ep
    obtain ⟨m, hm⟩ : ∃ m, (Ver.mk a b c p q).may = m := ⟨_, rfl⟩
    rw [hm] at cM
    cases m with
    | false =>
      have HG : Hid ((!p.isEmpty && (Ver.mk a b c p q).may) = false) := by show _ = _; rw [hm, Bool.and_false]
      clear he hm cN
      go_enter Tryz.func181, Tryz.ntmps181
      go_wp2_with fail
      refine (cM _).mono ?_
      rintro e w1 ⟨rfl, hb1⟩
      have hgB := (hb1.block w.heap.size (by simp only [yG]; omega)).trans ((kO _ _ (by simp only [yG]; omega)).trans (q9 w _))
      have hgR := (hb1.block (w.heap.size + 1) (by simp only [yG]; omega)).trans (bM _ _ _ (by simp only [yG]))
      have hbw : Below w.heap.size w w1 := (((Below.refl _ _).alloc (Nat.le_refl _) _).alloc (by simp only [yG]; omega) _).trans (hb1.mono (by simp only [yG]; omega))
      have HGB := Lib.hid hgB
      have HGR := Lib.hid hgR
      clear hgB hgR
      go_wp2
      go_loopw [4] (fun x wr => ∃ k : Nat, k ≤ 3 ∧ x = .int .i64 ((k : Int) - 1) ∧ wr.heap[w.heap.size]? = some (.cells #[.int .i64 a, .int .i64 b, .int .i64 c, .string (mkS p), .string (mkS q)] 44) ∧ wr.heap[w.heap.size + 1]? = some (.cells Z7 44) ∧ Below w.heap.size w wr ∧ Hid (jZ ⟨a, b, c, p, q⟩ k = jZ ⟨a, b, c, p, q⟩ 3)) (fun x _ => ((intOf x) + 1).toNat)
      case atStart => exact ⟨3, by omega, rfl, HGB.out, HGR.out, hbw, rfl⟩
      case round =>
        obtain ⟨k, hk, rfl, hB, hR, hbel, HR⟩ := hrel
        have hlR := (Array.getElem?_eq_some_iff.1 hR).1
        have HB := Lib.hid hB
        have HR0 := Lib.hid hR
        clear hB hR
        cases k with
        | zero =>
          have HF : Hid (jZ ⟨a, b, c, p, q⟩ 3 = (Ver.zero, false)) := HR.out.symm
          go_wp2_with (refine wpList_store_row rfl 44 _ _ rfl (w.heap.size + 1) Z7 rfl rfl _ _ HR0.out (by kernel_rfl) rfl (qR _ _ _ _ _) ?_)
          have hf := n7 ⟨a, b, c, p, q⟩ HG.out
          rw [HF.out] at hf
          exact dI (u := Ver.zero) rfl rfl HR0.out hbel hf.2 hf.1
        | succ k =>
          have hk0 : (0 : Int) ≤ k := by omega
          have hke : (((k + 1 : Nat) : Int) - 1) = (k : Int) := by omega
          rw [hke]
          have cB := fun w' => bump_any ⟨a, b, c, p, q⟩ (k : Int) w' hp hq
          unfold yR at cB
          dsimp only at cB
          cases hb : yQ ⟨a, b, c, p, q⟩ (k : Int) with
          | true =>
            rw [hb] at cB
            obtain ⟨u, hu⟩ : ∃ u, x9 ⟨a, b, c, p, q⟩ (k : Int) = u := ⟨_, rfl⟩
            rw [hu] at cB
            have hfq : jZ ⟨a, b, c, p, q⟩ 3 = (u, true) := by rw [← HR.out, jZ, hb, hu]; rfl
            have HF := Lib.hid hfq
            clear hfq hb hu hke
            go_wp2_with (first
              | (refine wpList_load_row rfl 44 _ rfl w.heap.size rfl _ _ _ _ HB.out Tryz.underlying44 rfl (by kernel_rfl) ?_)
              | (go_at_call 203; refine (cB _).mono ?_; rintro e w3 ⟨rfl, hb3⟩; have hR3 := Lib.hid ((hb3.block (w.heap.size + 1) hlR).trans HR0.out); have hbw3 := hbel.trans (hb3.mono hbel.size); have hl3 := Nat.lt_of_lt_of_le hlR hb3.size)
              | (refine wpList_store_row rfl 44 _ _ rfl (w.heap.size + 1) (ZP u) rfl rfl _ _ ((kO _ _ hl3).trans hR3.out) (by kernel_rfl) rfl (qR _ _ _ _ _) ?_))
            have hf := n7 ⟨a, b, c, p, q⟩ HG.out
            rw [HF.out] at hf
            exact dI (u := u) rfl rfl ((kO _ _ hl3).trans hR3.out) (hbw3.alloc (by omega) _) hf.2 hf.1
          | false =>
            rw [hb] at cB
            obtain ⟨u, hu⟩ : ∃ u, x9 ⟨a, b, c, p, q⟩ (k : Int) = u := ⟨_, rfl⟩
            rw [hu] at cB
            have hfq : jZ ⟨a, b, c, p, q⟩ k = jZ ⟨a, b, c, p, q⟩ 3 := by rw [← HR.out, jZ, hb]; rfl
            have HF := Lib.hid hfq
            clear hfq hb hu hke
            go_wp2_with (first
              | (refine wpList_load_row rfl 44 _ rfl w.heap.size rfl _ _ _ _ HB.out Tryz.underlying44 rfl (by kernel_rfl) ?_)
              | (go_at_call 203; refine (cB _).mono ?_; rintro e w3 ⟨rfl, hb3⟩; have hl3 := Nat.lt_of_lt_of_le hlR hb3.size))
            have hR3 := (hb3.block (w.heap.size + 1) hlR).trans HR0.out
            have hB3 := (hb3.block w.heap.size (by omega)).trans HB.out
            have hbw3 := hbel.trans (hb3.mono hbel.size)
            go_roundw
            case rel => exact ⟨k, by omega, rfl, (kO _ _ (by omega)).trans hB3, (kO _ _ hl3).trans hR3, hbw3.alloc (by omega) _, HF.out⟩
            case measure => simp [intOf]; try omega
    | true =>
      have HV : Hid (xA ⟨a, b, c, p, q⟩ = Ver.rel a b c) := by show _ = _; unfold xA; rw [if_pos hm, if_neg (by simp [he])]
      have HO : Hid (gN ⟨a, b, c, p, q⟩ = true) := by show _ = _; unfold gN; rw [hm]; simp [he]
      clear he hm
      go_enter Tryz.func181, Tryz.ntmps181
      go_wp2_with fail
      refine (cM _).mono ?_
      rintro e w1 ⟨rfl, hb1⟩
      have hz1 := hb1.size
      simp only [yG] at hz1
      have hgB := (hb1.block w.heap.size (by simp only [yG]; omega)).trans ((kO _ _ (by simp only [yG]; omega)).trans (q9 w _))
      have hgR := (hb1.block (w.heap.size + 1) (by simp only [yG]; omega)).trans (bM _ _ _ (by simp only [yG]))
      have hbw : Below w.heap.size w w1 := (((Below.refl _ _).alloc (Nat.le_refl _) _).alloc (by simp only [yG]; omega) _).trans (hb1.mono (by simp only [yG]; omega))
      have HGB := Lib.hid hgB
      have HGR := Lib.hid hgR
      clear hgB hgR hb1 cM
      go_wp2_with (first
        | (refine wpList_load_row rfl 44 _ rfl w.heap.size rfl _ _ _ _ HGB.out Tryz.underlying44 rfl (by kernel_rfl) ?_)
        | (go_at_call 165; refine (cN _).mono ?_; rintro e w2 ⟨rfl, hb2⟩; have hR2 := Lib.hid ((hb2.block (w.heap.size + 1) (by omega)).trans HGR.out); have hbw2 := hbw.trans (hb2.mono hbw.size); have hl2 := hb2.size)
        | (go_at_call 206; refine (bK _ _ _ _).mono ?_; unfold yR Ver.rel; rintro e w3 ⟨rfl, hb3⟩; have hR3 := Lib.hid ((hb3.block (w.heap.size + 1) (by omega)).trans hR2.out); have hbw3 := hbw2.trans (hb3.mono hbw2.size))
        | (refine wpList_store_row rfl 44 _ _ rfl (w.heap.size + 1) #[.int .i64 a, .int .i64 b, .int .i64 c, .string (mkS []), .string (mkS [])] rfl rfl _ _ hR3.out (by kernel_rfl) rfl (qR _ _ _ _ _) ?_))
      exact dI (u := Ver.rel a b c) rfl rfl hR3.out hbw3 HO.out HV.out
theorem vnext_any (v : Ver) (w : World) (hp : v.pre.length ≤ 1000000) (hq : v.build.length ≤ 1000000) :
    Calls Tryz.prog 181 #[yR v] w fun e w' => e = .returned (.tuple #[yR (xA v), .bool (gN v)]) ∧ Below w.heap.size w w' := next_go v w hp hq
end
section
theorem bump2 {v : Ver} (h : v.may = true) : yQ v 2 = true ↔ v.pat ≠ 9999 := by
  unfold yQ; rw [h, show kA v.maj v.min v.pat (2 : Int).toNat = v.pat from rfl]; simp
theorem bump1 {v : Ver} (h : v.may = true) : yQ v 1 = true ↔ v.min ≠ 9999 := by
  unfold yQ; rw [h, show kA v.maj v.min v.pat (1 : Int).toNat = v.min from rfl]; simp
theorem bump0 {v : Ver} (h : v.may = true) : yQ v 0 = true ↔ v.maj ≠ 9999 := by
  unfold yQ; rw [h, show kA v.maj v.min v.pat (0 : Int).toNat = v.maj from rfl]; simp
theorem rel_in {a b c : Int} (ha : 0 ≤ a ∧ a ≤ 9999) (hb : 0 ≤ b ∧ b ≤ 9999) (hc : 0 ≤ c ∧ c ≤ 9999) : (Ver.rel a b c).may = true := by
  rw [rel_may4, num_in ha, num_in hb, num_in hc]; rfl
theorem next_is {v : Ver} (h : v.may = true) : (gN v = false ∧ v.pre = [] ∧ v.code = 999999999999) ∨
    (gN v = true ∧ ∃ a b c, xA v = Ver.rel a b c ∧ (Ver.rel a b c).may = true ∧ ((v.pre = [] ∧ (Ver.rel a b c).code = v.code + 1) ∨ (v.pre ≠ [] ∧ (Ver.rel a b c).code = v.code))) := by
  obtain ⟨h1, h2, h3⟩ := uI h
  unfold gN xA
  rw [h]
  by_cases hp : v.pre = []
  · have e : v.pre.isEmpty = true := by rw [hp]; rfl
    rw [e]
    by_cases k2 : v.pat = 9999
    · have b2 : yQ v 2 = false := Bool.eq_false_iff.2 (fun e => (bump2 h).1 e k2)
      rw [b2]
      by_cases k1 : v.min = 9999
      · have b1 : yQ v 1 = false := Bool.eq_false_iff.2 (fun e => (bump1 h).1 e k1)
        rw [b1]
        by_cases k0 : v.maj = 9999
        · have b0 : yQ v 0 = false := Bool.eq_false_iff.2 (fun e => (bump0 h).1 e k0)
          rw [b0]
          exact .inl ⟨rfl, hp, by unfold Ver.code; omega⟩
        · have b0 := (bump0 h).2 k0
          have bv : x9 v 0 = Ver.rel (v.maj + 1) 0 0 := by unfold x9; rw [b0]; rfl
          rw [b0, bv]
          exact .inr ⟨rfl, v.maj + 1, 0, 0, rfl, rel_in (by omega) (by omega) (by omega), .inl ⟨hp, by unfold Ver.code Ver.rel; dsimp only; omega⟩⟩
      · have b1 := (bump1 h).2 k1
        have bv : x9 v 1 = Ver.rel v.maj (v.min + 1) 0 := by unfold x9; rw [b1]; rfl
        rw [b1, bv]
        exact .inr ⟨rfl, v.maj, v.min + 1, 0, rfl, rel_in (by omega) (by omega) (by omega), .inl ⟨hp, by unfold Ver.code Ver.rel; dsimp only; omega⟩⟩
    · have b2 := (bump2 h).2 k2
      have bv : x9 v 2 = Ver.rel v.maj v.min (v.pat + 1) := by unfold x9; rw [b2]; rfl
      rw [b2, bv]
      exact .inr ⟨rfl, v.maj, v.min, v.pat + 1, rfl, rel_in (by omega) (by omega) (by omega), .inl ⟨hp, by unfold Ver.code Ver.rel; dsimp only; omega⟩⟩
  · have e : v.pre.isEmpty = false := List.isEmpty_eq_false_iff.2 hp
    rw [e]
    exact .inr ⟨rfl, v.maj, v.min, v.pat, rfl, rel_in h1 h2 h3, .inr ⟨hp, rfl⟩⟩
theorem mG {v : Ver} (h : v.may = true) : 0 ≤ v.code ∧ v.code ≤ 999999999999 := by
  obtain ⟨h1, h2, h3⟩ := uI h
  unfold Ver.code; omega
end
section
def vF (v : Ver) : Bool := decide (v.maj = 0) && decide (v.min = 0) && decide (v.pat = 0)
theorem pQ {v : Ver} (h : v.may = true) : vF v = decide (v.code = 0) := by
  obtain ⟨h1, h2, h3⟩ := uI h
  unfold vF Ver.code
  rw [← Bool.decide_and, ← Bool.decide_and]
  exact decide_eq_decide.2 ⟨fun ⟨⟨a, b⟩, c⟩ => by omega, fun e => ⟨⟨by omega, by omega⟩, by omega⟩⟩
def xC (c : Cu) : Bool := decide (¬ c.e = 0) || (!c.aft && decide (c.v.pre = []) && !vF c.v)
def AllRight (l : List Sp) : Prop := ∀ s ∈ l, xC s.lo = true ∧ xC s.hi = true
def nW (c : Cu) : Int := if c.e = -1 then 0 else if c.e = 1 then 1000000000000 else c.v.code
def muI (v : Ver) : Int := if v.pre = [] then v.code else v.code - 1
def mu (x : Cu) : Int := if x.e = 0 then (if muI x.v < 0 then 0 else muI x.v) else 0
theorem mu_range {x : Cu} (hx : x.may = true) : 0 ≤ mu x ∧ mu x ≤ 999999999999 := by
  have h := mG (j0 hx)
  unfold mu muI
  split
  · split
    · omega
    · split at * <;> omega
  · omega
theorem ci_le {a b : Int} : Lib.compareInt a b ≤ 0 ↔ a ≤ b := by
  unfold Lib.compareInt
  split
  · omega
  · split <;> omega
theorem right_le {c x : Cu} (hc : c.may = true) (hr : xC c = true) (hx : x.may = true) (he : zQ x (y8 1) < 0) : zQ c x ≤ 0 ↔ nW c ≤ mu x := by
  have hmx := mu_range hx
  have hxe : x.e = 0 ∨ x.e = -1 := by
    rcases tR hx with ⟨h, _⟩ | ⟨h, h2, h3⟩
    · exact .inl h
    · rcases h with h | h
      · exact .inr h
      · exfalso
        have : x = y8 1 := by
          obtain ⟨e, v, a⟩ := x
          simp only at h h2 h3
          subst h h2 h3; rfl
        rw [this, gC] at he; omega
  rw [vD hc hx]
  rcases tR hc with ⟨h0, hb⟩ | ⟨h1, hv, ha⟩
  · have hr2 := hr
    unfold xC at hr2
    rw [decide_eq_false (by simpa using h0), Bool.false_or] at hr2
    simp only [Bool.and_eq_true, Bool.not_eq_true', decide_eq_true_eq] at hr2
    obtain ⟨⟨ha, hp⟩, hl⟩ := hr2
    rw [pQ (j0 hc), decide_eq_false_iff_not] at hl
    have hcc := mG (j0 hc)
    have hval : nW c = c.v.code := by unfold nW; rw [if_neg (by omega), if_neg (by omega)]
    rw [hval]
    rcases hxe with hx0 | hx1
    · have hcx := mG (j0 hx)
      rw [h0, hx0, show Lib.compareInt 0 0 = 0 from rfl, lex_0, dW (j0 hc) (j0 hx), ha, hp]
      have hmu : mu x = if muI x.v < 0 then 0 else muI x.v := by unfold mu; rw [if_pos hx0]
      rw [hmu]
      unfold muI qJ
      by_cases k1 : c.v.code < x.v.code
      · rw [if_pos k1, fJ]
        constructor
        · intro _; split <;> split at * <;> omega
        · intro _; omega
      · rw [if_neg k1]
        by_cases k2 : x.v.code < c.v.code
        · rw [if_pos k2, mY]
          constructor
          · intro h; omega
          · intro h; exfalso; split at h <;> split at * <;> omega
        · rw [if_neg k2]
          by_cases k3 : x.v.pre = []
          · rw [k3, if_pos rfl, lex_0]
            have : Lib.compareInt (b01 false) (b01 x.aft) ≤ 0 := by rw [ci_le]; cases x.aft <;> decide
            constructor
            · intro _; rw [if_pos rfl, if_neg (by omega)]; omega
            · intro _; exact this
          · rw [if_neg (fun e => k3 e.symm), if_pos rfl, mY]
            constructor
            · intro h; omega
            · intro h; exfalso; rw [if_neg k3] at h; split at h <;> omega
    · rw [h0, hx1, show Lib.compareInt 0 (-1) = 1 from rfl, mY]
      have hmu : mu x = 0 := by unfold mu; rw [if_neg (by omega)]
      rw [hmu]
      constructor <;> intro h <;> omega
  · rcases h1 with h1 | h1
    · have hval : nW c = 0 := by unfold nW; rw [if_pos h1]
      rw [hval]
      refine ⟨fun _ => hmx.1, fun _ => ?_⟩
      rcases hxe with hx0 | hx1
      · rw [h1, hx0, show Lib.compareInt (-1) 0 = -1 from rfl, fJ]; omega
      · rcases tR hx with ⟨h, _⟩ | ⟨_, hv2, ha2⟩
        · omega
        · rw [h1, hx1, hv, hv2, ha, ha2, show Lib.compareInt (-1) (-1) = 0 from rfl, lex_0, show kH Ver.zero Ver.zero = 0 from cmpR_core rfl, lex_0]; decide
    · have hval : nW c = 1000000000000 := by unfold nW; rw [if_neg (by omega), if_pos h1]
      rw [hval]
      refine ⟨fun h => ?_, fun h => by omega⟩
      exfalso
      rcases hxe with hx0 | hx1
      · rw [h1, hx0, show Lib.compareInt 1 0 = 1 from rfl, mY] at h; omega
      · rw [h1, hx1, show Lib.compareInt 1 (-1) = 1 from rfl, mY] at h; omega
theorem right_lt {c x : Cu} (hc : c.may = true) (hr : xC c = true) (hx : x.may = true) (he : zQ x (y8 1) < 0) : zQ x c < 0 ↔ mu x < nW c := by
  have h := right_le hc hr hx he
  have ha := xM (a := c) (b := x)
  constructor
  · intro h2
    have : ¬ zQ c x ≤ 0 := by omega
    have := fun h3 => this (h.2 h3)
    omega
  · intro h2
    have : ¬ zQ c x ≤ 0 := fun h3 => by have := h.1 h3; omega
    omega
def denN (l : List Sp) (n : Int) : Bool := l.any fun s => decide (nW s.lo ≤ n) && decide (n < nW s.hi)
theorem den_mu {l : List Sp} (hl : zN l = true) (hr : AllRight l) {x : Cu} (hx : x.may = true) (he : zQ x (y8 1) < 0) : den l x = denN l (mu x) := by
  unfold den denN
  rw [Bool.eq_iff_iff, List.any_eq_true, List.any_eq_true]
  have key : ∀ s ∈ l, g7 s x = (decide (nW s.lo ≤ mu x) && decide (mu x < nW s.hi)) := fun s hs => by
    have hm := y9 (xG hl s hs)
    unfold g7
    rw [decide_eq_decide.2 (right_le hm.1 (hr s hs).1 hx he), decide_eq_decide.2 (right_lt hm.2 (hr s hs).2 hx he)]
  constructor
  · rintro ⟨s, hs, h⟩; exact ⟨s, hs, by rw [← key s hs]; exact h⟩
  · rintro ⟨s, hs, h⟩; exact ⟨s, hs, by rw [key s hs]; exact h⟩
theorem rel_of {n : Int} (h0 : 0 ≤ n) (h1 : n ≤ 999999999999) : ∃ v : Ver, v.may = true ∧ v.pre = [] ∧ v.build = [] ∧ v.code = n :=
  ⟨Ver.rel (n / 100000000) (n / 10000 % 10000) (n % 10000), rel_in (by omega) (by omega) (by omega), rfl, rfl, by unfold Ver.code Ver.rel; dsimp only; omega⟩
theorem mu_pos {v : Ver} (hv : v.may = true) (hp : v.pre = []) : mu (bQ v) = v.code := by
  have := mG hv
  unfold mu muI bQ kS
  dsimp only
  rw [if_pos rfl, if_pos hp]
  have e : ({ v with build := [] } : Ver).code = v.code := rfl
  rw [e, if_neg (by omega)]
theorem has_code {l : List Sp} (hl : zN l = true) (hr : AllRight l) {v : Ver} (hv : v.may = true) (hp : v.pre = []) : xJ l v = denN l v.code := by
  rw [vR hl hv, den_mu hl hr (qK hv) (jC hv), mu_pos hv hp]
theorem rel_ext {l m : List Sp} (hl : zN l = true) (hm : zN m = true) (rl : AllRight l) (rm : AllRight m) (h : ∀ v : Ver, v.may = true → v.pre = [] → xJ l v = xJ m v) : l = m :=
  j5 l m hl hm fun x hx he => by
    have hr := mu_range hx
    obtain ⟨v, hv, hp, _, hc⟩ := rel_of hr.1 hr.2
    have h2 := h v hv hp
    rw [has_code hl rl hv hp, has_code hm rm hv hp, hc] at h2
    rw [den_mu hl rl hx he, den_mu hm rm hx he, h2]
theorem fM (p : Cu → Cu → Bool) (Q : Cu → Prop) : ∀ (cs : List Cu) (out : List Sp), (∀ c ∈ cs, Q c) → (∀ s ∈ out, Q s.lo ∧ Q s.hi) → ∀ s ∈ g6 p out cs, Q s.lo ∧ Q s.hi
  | [], out, _, ho => by unfold g6; exact ho
  | [c], out, _, ho => by unfold g6; exact ho
  | c :: d :: r, out, hc, ho => by
    unfold g6
    refine fM p Q (d :: r) _ (fun x hx => hc x (List.mem_cons_of_mem _ hx)) ?_
    split
    · intro s hs
      unfold vI at hs
      split at hs
      · rename_i t ht
        split at hs
        · rcases List.mem_append.1 hs with h | h
          · exact ho s (List.dropLast_subset _ h)
          · obtain rfl : s = _ := by simpa using h
            exact ⟨(ho t (List.mem_of_getLast? ht)).1, hc d (by simp)⟩
        · rcases List.mem_append.1 hs with h | h
          · exact ho s h
          · obtain rfl : s = _ := by simpa using h
            exact ⟨hc c (by simp), hc d (by simp)⟩
      · obtain rfl : s = _ := by simpa using hs
        exact ⟨hc c (by simp), hc d (by simp)⟩
    · exact ho
theorem cutsL_all (Q : Cu → Prop) (h1 : Q (y8 (-1))) (h2 : Q (y8 1)) (l : List Sp) (hl : ∀ s ∈ l, Q s.lo ∧ Q s.hi) : ∀ c ∈ gB l, Q c := by
  have go : ∀ (l : List Sp) (out : List Cu), (∀ c ∈ out, Q c) → (∀ s ∈ l, Q s.lo ∧ Q s.hi) → ∀ c ∈ l.foldl (fun out s => gA s.hi (gA s.lo out)) out, Q c := by
    intro l
    induction l with
    | nil => intro out ho _; exact ho
    | cons s r ih =>
      intro out ho hl
      refine ih _ (fun c hc => ?_) (fun t ht => hl t (List.mem_cons_of_mem _ ht))
      rcases putL_mem _ _ _ hc with rfl | hc
      · exact (hl s (List.mem_cons_self ..)).2
      · rcases putL_mem _ _ _ hc with rfl | hc
        · exact (hl s (List.mem_cons_self ..)).1
        · exact ho c hc
  exact go l _ (fun c hc => by
    rcases List.mem_cons.1 hc with rfl | hc
    · exact h1
    · obtain rfl : c = _ := by simpa using hc
      exact h2) hl
theorem wL (k : Int) (h : ¬ k = 0) : xC (y8 k) = true := by unfold xC y8; rw [decide_eq_true h]; rfl
theorem AllRight.make {l : List Sp} (h : AllRight l) : AllRight (uO l) := fM _ (xC · = true) _ [] (cutsL_all _ (wL _ (by decide)) (wL _ (by decide)) l h) (fun s hs => by simp at hs)
theorem AllRight.app {a b : List Sp} (ha : AllRight a) (hb : AllRight b) : AllRight (a ++ b) := fun s hs => (List.mem_append.1 hs).elim (ha s) (hb s)
theorem AllRight.or {a b : List Sp} (ha : AllRight a) (hb : AllRight b) : AllRight (orL a b) := (ha.app hb).make
theorem AllRight.and {a b : List Sp} (ha : AllRight a) (hb : AllRight b) : AllRight (g9 a b) := fM _ (xC · = true) _ [] (cutsL_all _ (wL _ (by decide)) (wL _ (by decide)) _ (ha.app hb)) (fun s hs => by simp at hs)
end
section
def nH (v : Ver) : Ver := Ver.rel v.maj v.min v.pat
def relA (v : Ver) : Cu := if vF v then y8 (-1) else ⟨0, nH v, false⟩
def relB (v : Ver) : Cu := if gN (nH v) then ⟨0, xA (nH v), false⟩ else y8 1
def kQ (c : Cu) : Cu := if ¬ c.e = 0 then c else if c.aft = true ∧ c.v.pre = [] then relB c.v else relA c.v
def u7 (s : Sp) : Sp := ⟨kQ s.lo, kQ s.hi⟩
def gW (l : List Sp) : List Sp := uO ((l.map u7).filter (·.may))
theorem relV_may {v : Ver} (h : v.may = true) : (nH v).may = true := by
  obtain ⟨h1, h2, h3⟩ := uI h
  exact rel_in h1 h2 h3
theorem relV_code (v : Ver) : (nH v).code = v.code := rfl
theorem relA_ok {v : Ver} (h : v.may = true) : (relA v).may = true ∧ xC (relA v) = true ∧ nW (relA v) = v.code := by
  unfold relA
  have hl := pQ h
  split
  · rename_i h1
    rw [hl, decide_eq_true_eq] at h1
    exact ⟨n5, wL _ (by decide), by rw [h1]; rfl⟩
  · rename_i h1
    have h2 : vF (nH v) = false := by
      have : vF (nH v) = vF v := rfl
      rw [this]; simpa using h1
    exact ⟨by unfold Cu.may; dsimp only; rw [if_pos rfl, relV_may h]; rfl, by unfold xC; dsimp only; rw [h2]; rfl, rfl⟩
theorem relB_ok {v : Ver} (h : v.may = true) : (relB v).may = true ∧ xC (relB v) = true ∧ nW (relB v) = v.code + 1 := by
  unfold relB
  rcases next_is (relV_may h) with ⟨h1, h2, h3⟩ | ⟨h1, a, b, c, h2, h3, h4⟩
  · rw [h1, if_neg (by decide)]
    rw [relV_code] at h3
    exact ⟨wS, wL _ (by decide), by rw [h3]; rfl⟩
  · rw [h1, if_pos rfl, h2]
    have hc : (Ver.rel a b c).code = v.code + 1 := by
      rcases h4 with ⟨_, h5⟩ | ⟨h5, _⟩
      · rw [h5, relV_code]
      · exact absurd rfl h5
    have h0 := (mG h).1
    have hl : vF (Ver.rel a b c) = false := by rw [pQ h3, decide_eq_false_iff_not]; omega
    refine ⟨by unfold Cu.may; dsimp only; rw [if_pos rfl, h3]; rfl, by unfold xC; dsimp only; rw [hl]; rfl, ?_⟩
    unfold nW; dsimp only
    rw [if_neg (by decide), if_neg (by decide), hc]
theorem mO {c : Cu} (h : c.may = true) : (kQ c).may = true ∧ xC (kQ c) = true := by
  unfold kQ
  split
  · rename_i h0
    exact ⟨h, by unfold xC; rw [decide_eq_true h0]; rfl⟩
  · split
    · have := relB_ok (j0 h); exact ⟨this.1, this.2.1⟩
    · have := relA_ok (j0 h); exact ⟨this.1, this.2.1⟩
theorem turn_le {c : Cu} {r : Ver} (hc : c.may = true) (hr : r.may = true) (hp : r.pre = []) : zQ c (bQ r) ≤ 0 ↔ zQ (kQ c) (bQ r) ≤ 0 := by
  by_cases h0 : c.e = 0
  · have ht := mO hc
    have hv := j0 hc
    rw [right_le ht.1 ht.2 (qK hr) (jC hr), mu_pos hr hp]
    have ha := f8 hc hr
    have h1 : (zQ c (bQ r) ≤ 0) ↔ (xP c r = true) := by rw [ha, decide_eq_true_eq]
    rw [h1]
    unfold xP
    rw [hc, hr, if_pos h0]
    simp only [Bool.true_and, decide_eq_true_eq]
    have hcr := (cmp_rel hv hr hp).1
    have hrng := wX (v := c.v) (w := r)
    have hz : kH c.v r = 0 ↔ (c.v.code = r.code ∧ c.v.pre = []) := by
      rw [dW hv hr, hp]
      by_cases k1 : c.v.code < r.code
      · rw [if_pos k1]; constructor <;> intro h <;> omega
      · rw [if_neg k1]
        by_cases k2 : r.code < c.v.code
        · rw [if_pos k2]; constructor <;> intro h <;> omega
        · rw [if_neg k2]
          unfold qJ
          by_cases k3 : c.v.pre = []
          · rw [if_pos k3]; exact ⟨fun _ => ⟨by omega, k3⟩, fun _ => rfl⟩
          · rw [if_neg k3, if_neg k3, if_pos rfl]
            exact ⟨fun h => by omega, fun h => absurd h.2 k3⟩
    have hlt : kH c.v r < 0 ↔ kH c.v r = -1 := by omega
    rw [hlt, hcr, hz]
    unfold kQ
    rw [if_neg (by simpa using h0)]
    by_cases k : c.aft = true ∧ c.v.pre = []
    · rw [if_pos k, (relB_ok hv).2.2]
      constructor
      · rintro (h | ⟨_, h⟩)
        · rcases h with h | ⟨_, h⟩
          · omega
          · exact absurd k.2 h
        · rw [k.1] at h; cases h
      · intro h; exact .inl (.inl (by omega))
    · rw [if_neg k, (relA_ok hv).2.2]
      constructor
      · rintro (h | ⟨⟨h, _⟩, _⟩)
        · rcases h with h | ⟨h, _⟩ <;> omega
        · omega
      · intro h
        rcases Int.lt_or_eq_of_le h with h | h
        · exact .inl (.inl h)
        · by_cases k3 : c.v.pre = []
          · refine .inr ⟨⟨h, k3⟩, ?_⟩
            cases k4 : c.aft with
            | false => rfl
            | true => exact absurd ⟨k4, k3⟩ k
          · exact .inl (.inr ⟨h, k3⟩)
  · have : kQ c = c := by unfold kQ; rw [if_pos h0]
    rw [this]
theorem turn_in {s : Sp} {r : Ver} (hs : s.may = true) (hr : r.may = true) (hp : r.pre = []) : g7 (u7 s) (bQ r) = g7 s (bQ r) := by
  obtain ⟨h1, h2⟩ := y9 hs
  unfold g7 u7
  dsimp only
  rw [decide_eq_decide.2 (turn_le h1 hr hp).symm]
  congr 1
  refine decide_eq_decide.2 ?_
  have := turn_le h2 hr hp
  have a1 := xM (a := s.hi) (b := bQ r)
  have a2 := xM (a := kQ s.hi) (b := bQ r)
  constructor
  · intro h; have : ¬ zQ s.hi (bQ r) ≤ 0 := fun h3 => by have := this.1 h3; omega
    omega
  · intro h; have : ¬ zQ (kQ s.hi) (bQ r) ≤ 0 := fun h3 => by have := this.2 h3; omega
    omega
theorem fI (l : List Sp) : ∀ s ∈ (l.map u7).filter (·.may), s.may = true := fun s hs => (List.mem_filter.1 hs).2
theorem makeRel_may (l : List Sp) : zN (gW l) = true := (wA (fI l)).1
theorem makeRel_right {l : List Sp} (h : ∀ s ∈ l, s.may = true) : AllRight (gW l) := by
  refine AllRight.make (fun s hs => ?_)
  obtain ⟨t, ht, rfl⟩ := List.mem_map.1 (List.mem_filter.1 hs).1
  have := y9 (h t ht)
  exact ⟨(mO this.1).2, (mO this.2).2⟩
theorem makeRel_has {l : List Sp} {r : Ver} (hl : zN l = true) (hr : r.may = true) (hp : r.pre = []) : xJ (gW l) r = xJ l r := by
  rw [vR (makeRel_may l) hr, vR hl hr]
  show den (uO _) _ = _
  rw [(wA (fI l)).2 _ (qK hr) (jC hr)]
  unfold den
  rw [Bool.eq_iff_iff, List.any_eq_true, List.any_eq_true]
  constructor
  · rintro ⟨s, hs, h⟩
    obtain ⟨t, ht, rfl⟩ := List.mem_map.1 (List.mem_filter.1 hs).1
    exact ⟨t, ht, by rw [← turn_in (xG hl t ht) hr hp]; exact h⟩
  · rintro ⟨s, hs, h⟩
    have hm := xG hl s hs
    rw [← turn_in hm hr hp] at h
    refine ⟨u7 s, List.mem_filter.2 ⟨List.mem_map.2 ⟨s, hs, rfl⟩, ?_⟩, h⟩
    have h1 := y9 hm
    cases hc : (u7 s).may with
    | true => rfl
    | false =>
      have := in_none (mO h1.1).1 (mO h1.2).1 (qK hr) (sp_not_of hc)
      rw [show (Sp.mk (kQ s.lo) (kQ s.hi)) = u7 s from rfl, h] at this
      cases this
def oneRel (v : Ver) : List Sp := [⟨relA v, relB v⟩]
def onePre (v : Ver) : List Sp := [⟨⟨0, kS v, false⟩, ⟨0, kS v, true⟩⟩]
end
section
structure St where
  rel : List Sp
  pre : List Sp
def St.may (s : St) : Bool := zN s.rel && zN s.pre && s.rel.all fun x => xC x.lo && xC x.hi
structure SF (s : St) (n : Nat) : Prop where
  rel : RF s.rel n
  pre : RF s.pre n
  right : AllRight s.rel
theorem right_all {l : List Sp} : (l.all fun x => xC x.lo && xC x.hi) = true ↔ AllRight l := by
  rw [List.all_eq_true]
  exact ⟨fun h s hs => by simpa using h s hs, fun h s hs => by simpa using h s hs⟩
theorem SF.may {s : St} {n : Nat} (h : SF s n) : s.may = true := by
  unfold St.may
  rw [h.rel.may, h.pre.may, right_all.2 h.right]; rfl
theorem St.facts {s : St} (h : s.may = true) : zN s.rel = true ∧ zN s.pre = true ∧ AllRight s.rel := by
  unfold St.may at h
  rw [Bool.and_eq_true, Bool.and_eq_true, right_all] at h
  exact ⟨h.1.1, h.1.2, h.2⟩
theorem SF.of {s : St} {n : Nat} (h : s.may = true) (h1 : s.rel.length ≤ n) (h2 : s.pre.length ≤ n) : SF s n :=
  ⟨⟨(St.facts h).1, h1⟩, ⟨(St.facts h).2.1, h2⟩, (St.facts h).2.2⟩
def qI (s : St) (v : Ver) : Bool := s.may && v.may && (if v.pre = [] then xJ s.rel v else xJ s.pre v)
def gS : St := ⟨[], []⟩
def nV : List Sp := [⟨y8 (-1), y8 1⟩]
def allT : St := ⟨nV, nV⟩
def orT (a b : St) : St := ⟨orL a.rel b.rel, orL a.pre b.pre⟩
def andT (a b : St) : St := ⟨g9 a.rel b.rel, g9 a.pre b.pre⟩
def notT (a : St) : St := ⟨jM a.rel, jM a.pre⟩
def minusT (a b : St) : St := andT a (notT b)
def exactT (v : Ver) : St := if v.may then (if v.pre = [] then ⟨oneRel v, []⟩ else ⟨[], onePre v⟩) else gS
theorem St.eq {a b : St} (h1 : a.rel = b.rel) (h2 : a.pre = b.pre) : a = b := by cases a; cases b; simp only at h1 h2; rw [h1, h2]
theorem nil_rf : RF [] 0 := ⟨rfl, Nat.le_refl _⟩
theorem RF.le {l : List Sp} {n m : Nat} (h : RF l n) (hm : n ≤ m) : RF l m := ⟨h.may, Nat.le_trans h.len hm⟩
theorem SF.le {s : St} {n m : Nat} (h : SF s n) (hm : n ≤ m) : SF s m := ⟨h.rel.le hm, h.pre.le hm, h.right⟩
theorem nil_right : AllRight [] := fun s hs => by simp at hs
theorem none_sf : SF gS 0 := ⟨nil_rf, nil_rf, nil_right⟩
theorem whole_rf : RF nV 1 := ⟨by decide, Nat.le_refl _⟩
theorem SF.or {a b : St} {n m : Nat} (ha : SF a n) (hb : SF b m) : SF (orT a b) (2 + 2 * (n + m)) := ⟨ha.rel.or hb.rel, ha.pre.or hb.pre, ha.right.or hb.right⟩
theorem has_may {s : St} {v : Ver} {n : Nat} (hs : SF s n) (hv : v.may = true) : qI s v = if v.pre = [] then xJ s.rel v else xJ s.pre v := by
  unfold qI; rw [hs.may, hv, Bool.true_and, Bool.true_and]
section
variable {a b : St} {n m : Nat} {v : Ver} (ha : SF a n) (hb : SF b m) (hv : v.may = true)
include ha hb hv
theorem setHas_or : qI (orT a b) v = (qI a v || qI b v) := by
  rw [has_may (ha.or hb) hv, has_may ha hv, has_may hb hv]
  split
  · exact has_or4 ha.rel.may hb.rel.may hv
  · exact has_or4 ha.pre.may hb.pre.may hv
end
theorem whole_den {x : Cu} (hx : x.may = true) (he : zQ x (y8 1) < 0) : den nV x = true := by
  show (g7 ⟨y8 (-1), y8 1⟩ x || false) = true
  rw [Bool.or_false]
  unfold g7
  rw [decide_eq_true (mD hx), decide_eq_true he]; rfl
theorem setHas_none {v : Ver} : qI gS v = false := by
  unfold qI
  have h : xJ [] v = false := rfl
  show (_ && (if v.pre = [] then xJ [] v else xJ [] v)) = false
  rw [h, ite_self, Bool.and_false]
def edgeN (l : List Sp) : List Int := l.flatMap fun s => [s.lo, s.hi].filterMap fun c => if c.e = 0 then some c.v.code else none
theorem not_whole : jM nV = [] := j5 _ _ (bR whole_rf.may).1 rfl fun x hx he => by
  rw [(bR whole_rf.may).2 x hx he, whole_den hx he]; rfl
theorem not_nil : jM [] = nV := by rw [← not_whole, not_not4 whole_rf.may]
theorem nU {a b : List Sp} (ha : zN a = true) (hb : zN b = true) : g9 a b = a ↔ ∀ x : Cu, x.may = true → zQ x (y8 1) < 0 → den a x = true → den b x = true := by
  have h1 := mJ ha hb
  constructor
  · intro e x hx he p
    have h := h1.2 x hx he
    rw [e, p] at h
    simpa using h.symm
  · intro h
    refine j5 _ _ h1.1 ha fun x hx he => ?_
    rw [h1.2 x hx he]
    cases p : den a x with
    | false => rfl
    | true => rw [h x hx he p]; rfl
theorem within_or_l {a b c : List Sp} (ha : zN a = true) (hb : zN b = true) (hc : zN c = true) (h : g9 a b = a) : g9 a (orL b c) = a :=
  (nU ha (m7 hb hc).1).2 fun x hx he p => by rw [(m7 hb hc).2 x hx he, (nU ha hb).1 h x hx he p]; rfl
theorem within_self {a : List Sp} (ha : zN a = true) : g9 a a = a := (nU ha ha).2 fun x _ _ p => p
end
section
structure Co where
  op : Int
  parts : Int
  v : Ver
deriving DecidableEq
def yD (op : Int) : List UInt8 := if op = 1 then [61] else if op = 2 then [33, 61] else if op = 3 then [60] else if op = 4 then [60, 61] else if op = 5 then [62] else if op = 6 then [62, 61] else if op = 7 then [94] else if op = 8 then [126] else []
def Co.may (c : Co) : Bool := decide (1 ≤ c.op ∧ c.op ≤ 9) && c.v.may && decide (c.v.build = []) && (if c.op = 9 then decide (0 ≤ c.parts ∧ c.parts ≤ 2) else decide (1 ≤ c.parts ∧ c.parts ≤ 3)) && decide (3 ≤ c.parts ∨ c.v.pre = []) && decide (0 < c.parts ∨ c.v.maj = 0) && decide (1 < c.parts ∨ c.v.min = 0) && decide (2 < c.parts ∨ c.v.pat = 0)
theorem Co.facts {c : Co} (h : c.may = true) : (1 ≤ c.op ∧ c.op ≤ 9) ∧ c.v.may = true ∧ c.v.build = [] ∧ (c.op = 9 → 0 ≤ c.parts ∧ c.parts ≤ 2) ∧ (¬ c.op = 9 → 1 ≤ c.parts ∧ c.parts ≤ 3) ∧ (3 ≤ c.parts ∨ c.v.pre = []) ∧ (0 < c.parts ∨ c.v.maj = 0) ∧ (1 < c.parts ∨ c.v.min = 0) ∧ (2 < c.parts ∨ c.v.pat = 0) := by
  unfold Co.may at h
  simp only [Bool.and_eq_true, decide_eq_true_eq] at h
  obtain ⟨⟨⟨⟨⟨⟨⟨h1, h2⟩, h3⟩, h4⟩, h5⟩, h6⟩, h7⟩, h8⟩ := h
  refine ⟨h1, h2, h3, fun e => ?_, fun e => ?_, h5, h6, h7, h8⟩
  · rw [if_pos e] at h4; exact of_decide_eq_true h4
  · rw [if_neg e] at h4; exact of_decide_eq_true h4
theorem Co.may_iff {c : Co} : c.may = true ↔ (1 ≤ c.op ∧ c.op ≤ 9) ∧ c.v.may = true ∧ c.v.build = [] ∧ (c.op = 9 → 0 ≤ c.parts ∧ c.parts ≤ 2) ∧ (¬ c.op = 9 → 1 ≤ c.parts ∧ c.parts ≤ 3) ∧ (3 ≤ c.parts ∨ c.v.pre = []) ∧ (0 < c.parts ∨ c.v.maj = 0) ∧ (1 < c.parts ∨ c.v.min = 0) ∧ (2 < c.parts ∨ c.v.pat = 0) := by
  refine ⟨Co.facts, fun ⟨h1, h2, h3, k9, kn, h5, h6, h7, h8⟩ => ?_⟩
  unfold Co.may
  rw [decide_eq_true h1, h2, decide_eq_true h3, decide_eq_true h5, decide_eq_true h6, decide_eq_true h7, decide_eq_true h8]
  by_cases e : c.op = 9
  · rw [if_pos e, decide_eq_true (k9 e)]; rfl
  · rw [if_neg e, decide_eq_true (kn e)]; rfl
def yI (v : Ver) (n : Nat) : List (List UInt8) := [Lib.itoa v.maj, Lib.itoa v.min, Lib.itoa v.pat].take n
def Co.rest (c : Co) : List UInt8 := if c.op = 9 then yC 46 (yI c.v c.parts.toNat ++ [[42]]) else yC 46 (yI c.v c.parts.toNat) ++ bZ 45 c.v.pre
def Co.text (c : Co) : List UInt8 := yD c.op ++ c.rest
def Co.print (c : Co) : List UInt8 := if c.may then c.text else []
def xQ (s t : List UInt8) : Bool := decide (s.take t.length = t)
def fV (s : List UInt8) : Int × List UInt8 :=
  if xQ s [33, 61] then (2, s.drop 2) else if xQ s [60, 61] then (4, s.drop 2) else if xQ s [62, 61] then (6, s.drop 2) else if xQ s [61] then (1, s.drop 1)
  else if xQ s [60] then (3, s.drop 1) else if xQ s [62] then (5, s.drop 1) else if xQ s [94] then (7, s.drop 1) else if xQ s [126] then (8, s.drop 1)
  else if s.getLast? = some 42 then (9, s) else (7, s)
def mC (op : Int) (rest : List UInt8) : List (List UInt8) := if op = 9 then (pcs (yL 45 rest).1).dropLast else pcs (yL 45 rest).1
def guessC (op : Int) (rest : List UInt8) : Option Co :=
  if (mC op rest).length ≤ 3 ∧ (mC op rest).all gR = true then
    some ⟨op, (mC op rest).length, ⟨zT (tg (mC op rest) 0), zT (tg (mC op rest) 1), zT (tg (mC op rest) 2), (yL 45 rest).2.1, []⟩⟩
  else none
def fits (s : List UInt8) (c : Co) : Bool := !decide (c.print = []) && (decide (c.print = s) || decide (c.print = 94 :: s))
def qL (s : List UInt8) : Option Co := (guessC (fV s).1 (fV s).2).filter (fits s)
theorem print_may {c : Co} (h : ¬ c.print = []) : c.may = true := by
  cases hm : c.may with
  | true => rfl
  | false => exact absurd (show c.print = [] by unfold Co.print; rw [hm]; rfl) h
theorem qB {c : Co} (h : c.may = true) : c.print = c.text := by unfold Co.print; rw [h]; rfl
theorem parseC_back {s : List UInt8} {c : Co} (h : qL s = some c) : c.may = true ∧ (c.text = s ∨ c.text = 94 :: s) := by
  unfold qL at h
  obtain ⟨_, h⟩ := Option.filter_eq_some_iff.1 h
  unfold fits at h
  simp only [Bool.and_eq_true, Bool.not_eq_true', decide_eq_false_iff_not, Bool.or_eq_true, decide_eq_true_eq] at h
  have hm := print_may h.1
  rw [qB hm] at h
  exact ⟨hm, h.2⟩
theorem pcs_cons {x y : List UInt8} (h : (46 : UInt8) ∉ x) : pcs (x ++ 46 :: y) = x :: pcs y := by
  unfold pcs
  rw [uQ, cutAt_hit 46 _ _ h]
  simp
theorem pcs_one {x : List UInt8} (h : (46 : UInt8) ∉ x) : pcs x = [x] := by
  unfold pcs
  rw [uQ, wW 46 _ h]
  simp
theorem pcs_join : ∀ (l : List (List UInt8)), l ≠ [] → (∀ x ∈ l, (46 : UInt8) ∉ x) → pcs (yC 46 l) = l
  | [], h, _ => absurd rfl h
  | [x], _, h => pcs_one (h x (List.mem_singleton.2 rfl))
  | x :: y :: r, _, h => by
    rw [yC, pcs_cons (h x (List.mem_cons_self ..)), pcs_join (y :: r) (by simp) fun z hz => h z (List.mem_cons_of_mem _ hz)]
theorem nums_mem {v : Ver} (hv : v.may = true) {n : Nat} {x : List UInt8} (h : x ∈ yI v n) : ∃ k : Int, yP k = true ∧ x = Lib.itoa k := by
  obtain ⟨h1, h2, h3⟩ := qY hv
  unfold yI at h
  have h := List.mem_of_mem_take h
  simp only [List.mem_cons, List.not_mem_nil, or_false] at h
  rcases h with rfl | rfl | rfl
  · exact ⟨_, h1, rfl⟩
  · exact ⟨_, h2, rfl⟩
  · exact ⟨_, h3, rfl⟩
theorem jI {v : Ver} (hv : v.may = true) {n : Nat} (b : UInt8) (hb : kR b.toNat = false) : ∀ x ∈ yI v n, b ∉ x := fun x hx => by
  obtain ⟨k, hk, rfl⟩ := nums_mem hv hx
  exact dig_free hk b hb
theorem wK (b : UInt8) (hb : b ≠ 46) : ∀ (l : List (List UInt8)), (∀ x ∈ l, b ∉ x) → b ∉ yC 46 l
  | [], _ => by simp [yC]
  | [x], h => h x (List.mem_singleton.2 rfl)
  | x :: y :: r, h => by
    rw [yC]
    simp only [List.mem_append, List.mem_cons, not_or]
    exact ⟨h x (List.mem_cons_self ..), hb, wK b hb (y :: r) fun z hz => h z (List.mem_cons_of_mem _ hz)⟩
theorem v8 (v : Ver) {n : Nat} (h : n ≤ 3) : (yI v n).length = n := by
  unfold yI
  rw [List.length_take]
  simp; omega
theorem nums_num {v : Ver} (hv : v.may = true) (n : Nat) : (yI v n).all gR = true := List.all_eq_true.2 fun x hx => by
  obtain ⟨k, hk, rfl⟩ := nums_mem hv hx
  exact numI_itoa hk
theorem nums_back {v : Ver} (hv : v.may = true) {n : Nat} (h : n ≤ 3) (h0 : 0 < n ∨ v.maj = 0) (h1 : 1 < n ∨ v.min = 0) (h2 : 2 < n ∨ v.pat = 0) : zT (tg (yI v n) 0) = v.maj ∧ zT (tg (yI v n) 1) = v.min ∧ zT (tg (yI v n) 2) = v.pat := by
  obtain ⟨m1, m2, m3⟩ := qY hv
  have e1 := dH m1
  have e2 := dH m2
  have e3 := dH m3
  match n, h with
  | 0, _ => exact ⟨(h0.resolve_left (by decide)).symm, (h1.resolve_left (by decide)).symm, (h2.resolve_left (by decide)).symm⟩
  | 1, _ => exact ⟨e1, (h1.resolve_left (by decide)).symm, (h2.resolve_left (by decide)).symm⟩
  | 2, _ => exact ⟨e1, e2, (h2.resolve_left (by decide)).symm⟩
  | 3, _ => exact ⟨e1, e2, e3⟩
theorem guess_rest {c : Co} (h : c.may = true) : guessC c.op c.rest = some c := by
  obtain ⟨_, hv, hb, h9, hn, hp, k0, k1, k2⟩ := Co.facts h
  obtain ⟨op, parts, v⟩ := c
  simp only at hv hb h9 hn hp k0 k1 k2 ⊢
  have hparts : (parts.toNat : Int) = parts ∧ parts.toNat ≤ 3 := by
    by_cases e : op = 9
    · have := h9 e; omega
    · have := hn e; omega
  have key : mC op (Co.rest ⟨op, parts, v⟩) = yI v parts.toNat ∧ (yL 45 (Co.rest ⟨op, parts, v⟩)).2.1 = v.pre := by
    unfold mC Co.rest
    by_cases e : op = 9
    · rw [if_pos e]
      dsimp only
      rw [if_pos e]
      have f : ∀ b : UInt8, kR b.toNat = false → b ≠ 42 → ∀ x ∈ yI v parts.toNat ++ [[42]], b ∉ x := fun b hb hb2 x hx => by
        rcases List.mem_append.1 hx with hx | hx
        · exact jI hv b hb x hx
        · rw [List.mem_singleton.1 hx]
          intro hm
          exact hb2 (List.mem_singleton.1 hm)
      rw [wW 45 _ (wK 45 (by decide) _ (f 45 (by decide) (by decide)))]
      have hpre : v.pre = [] := hp.resolve_left (by have := h9 e; omega)
      exact ⟨by
        show (pcs (yC 46 (yI v parts.toNat ++ [[42]]))).dropLast = _
        rw [pcs_join _ (by simp) (f 46 (by decide) (by decide)), List.dropLast_concat], hpre.symm⟩
    · rw [if_neg e]
      dsimp only
      rw [if_neg e]
      have hne : yI v parts.toNat ≠ [] := fun h0 => by
        have := v8 v hparts.2
        rw [h0] at this
        have := hn e
        simp at *; omega
      rw [cut_tail 45 _ _ (wK 45 (by decide) _ (jI hv 45 (by decide)))]
      exact ⟨pcs_join _ hne (jI hv 46 (by decide)), rfl⟩
  unfold guessC
  rw [key.1, key.2, if_pos ⟨by rw [v8 v hparts.2]; exact hparts.2, nums_num hv _⟩]
  obtain ⟨e1, e2, e3⟩ := nums_back hv hparts.2 (by omega) (by omega) (by omega)
  rw [e1, e2, e3, v8 v hparts.2, hparts.1]
  obtain ⟨a, b, p, q, r⟩ := v
  simp only at hb
  rw [hb]
theorem itoa_head {k : Int} (h : yP k = true) : ∃ d r, Lib.itoa k = d :: r ∧ kR d.toNat = true := by
  have hm := num_itoa h
  cases e : Lib.itoa k with
  | nil => rw [e] at hm; cases hm
  | cons d r => exact ⟨d, r, rfl, by
      have := dig_mem k.toNat d (by rw [← tT h, e]; exact List.mem_cons_self)
      exact this⟩
theorem join_head {x : List UInt8} {l : List (List UInt8)} {d : UInt8} {r : List UInt8} (h : x = d :: r) : ∃ r', yC 46 (x :: l) = d :: r' := by
  subst h
  cases l with
  | nil => exact ⟨r, rfl⟩
  | cons y t => exact ⟨_, rfl⟩
theorem dG {c : Co} (h : c.may = true) (hn : ¬ c.op = 9) : ∃ d r, c.rest = d :: r ∧ kR d.toNat = true := by
  obtain ⟨_, hv, _, _, h9, _⟩ := Co.facts h
  obtain ⟨d, r, e, hd⟩ := itoa_head (qY hv).1
  obtain ⟨n, en⟩ : ∃ n, c.parts.toNat = n + 1 := ⟨c.parts.toNat - 1, by have := h9 hn; omega⟩
  obtain ⟨r', e'⟩ := join_head (l := [Lib.itoa c.v.min, Lib.itoa c.v.pat].take n) e
  refine ⟨d, r' ++ bZ 45 c.v.pre, ?_, hd⟩
  unfold Co.rest yI
  rw [if_neg hn, en, List.take_succ_cons, e']; rfl
theorem mS {c : Co} (h : c.may = true) (hn : c.op = 9) : ∃ d r, c.rest = d :: r ∧ (kR d.toNat = true ∨ d = 42) := by
  obtain ⟨_, hv, _, h9, _⟩ := Co.facts h
  obtain ⟨d, r, e, hd⟩ := itoa_head (qY hv).1
  unfold Co.rest yI
  rw [if_pos hn]
  cases hp : c.parts.toNat with
  | zero => exact ⟨42, [], rfl, .inr rfl⟩
  | succ n =>
    obtain ⟨r', e'⟩ := join_head (l := [Lib.itoa c.v.min, Lib.itoa c.v.pat].take n ++ [[42]]) e
    exact ⟨d, r', by rw [List.take_succ_cons, List.cons_append, e'], .inl hd⟩
theorem qT {d : UInt8} {r : List UInt8} {a : UInt8} {t : List UInt8} (h : d ≠ a) : xQ (d :: r) (a :: t) = false := decide_eq_false fun e => by
  rw [List.length_cons, List.take_succ_cons] at e
  injection e with e1 _
  exact h e1
theorem split_plain {d : UInt8} {r : List UInt8} (h : kR d.toNat = true ∨ d = 42) : fV (d :: r) = if (d :: r).getLast? = some 42 then (9, d :: r) else (7, d :: r) := by
  have hd : ∀ a : UInt8, kR a.toNat = false → a ≠ 42 → d ≠ a := fun a ha h42 e => by
    subst e
    rcases h with h | h
    · rw [ha] at h; cases h
    · exact h42 h
  unfold fV
  rw [qT (hd 33 (by decide) (by decide)), qT (hd 60 (by decide) (by decide)), qT (hd 62 (by decide) (by decide)), qT (hd 61 (by decide) (by decide)), qT (hd 60 (by decide) (by decide)), qT (hd 62 (by decide) (by decide)), qT (hd 94 (by decide) (by decide)), qT (hd 126 (by decide) (by decide))]
  rfl
theorem split_sign {op : Int} (h1 : 1 ≤ op) (h8 : op ≤ 8) {d : UInt8} {r : List UInt8} (hd : kR d.toNat = true) : fV (yD op ++ d :: r) = (op, d :: r) := by
  have h61 : d ≠ 61 := fun e => by subst e; revert hd; decide
  have hop : op = 1 ∨ op = 2 ∨ op = 3 ∨ op = 4 ∨ op = 5 ∨ op = 6 ∨ op = 7 ∨ op = 8 := by omega
  rcases hop with rfl | rfl | rfl | rfl | rfl | rfl | rfl | rfl <;> simp [yD, fV, xQ, h61]
theorem last_join (x : List UInt8) : ∀ (l : List (List UInt8)), (yC 46 (l ++ [x ++ [42]])).getLast? = some 42
  | [] => by simp [yC]
  | [y] => by
    show (y ++ 46 :: (x ++ [42])).getLast? = some 42
    rw [show y ++ 46 :: (x ++ [42]) = (y ++ 46 :: x) ++ [42] from by simp, List.getLast?_concat]
  | y :: z :: r => by
    have := last_join x (z :: r)
    show (y ++ 46 :: yC 46 (z :: r ++ [x ++ [42]])).getLast? = some 42
    rw [List.getLast?_append]
    cases hj : yC 46 (z :: r ++ [x ++ [42]]) with
    | nil => rw [hj] at this; cases this
    | cons a b => rw [hj] at this; rw [List.getLast?_cons_cons, this]; rfl
theorem star_free (s : List UInt8) (h : qN s = true) : (42 : UInt8) ∉ s := by
  intro hm
  unfold qN at h
  rcases splitL_mem 46 s [] 42 hm with e | ⟨x, hx, hc⟩
  · revert e; decide
  · have hne : s.isEmpty = false := by cases s with
      | nil => cases hm
      | cons _ _ => rfl
    rw [hne, Bool.false_or, Bool.and_eq_true] at h
    have := List.all_eq_true.1 h.2 x hx
    unfold gP at this
    rw [Bool.and_eq_true] at this
    have := List.all_eq_true.1 this.2 _ hc
    revert this; decide
theorem rest_star {c : Co} (h : c.may = true) (hn : ¬ c.op = 9) : (42 : UInt8) ∉ c.rest := by
  obtain ⟨_, hv, _⟩ := Co.facts h
  have hl : qN c.v.pre = true := by
    have := mW hv
    unfold vV at this
    exact (Bool.and_eq_true_iff.1 this).1
  unfold Co.rest
  rw [if_neg hn]
  intro hm
  rcases List.mem_append.1 hm with hm | hm
  · exact wK 42 (by decide) _ (jI hv 42 (by decide)) hm
  · unfold bZ at hm
    split at hm
    · cases hm
    · rcases List.mem_cons.1 hm with e | hm
      · revert e; decide
      · exact star_free _ hl hm
theorem split_text {c : Co} (h : c.may = true) : fV c.text = (c.op, c.rest) := by
  obtain ⟨ho, _⟩ := Co.facts h
  unfold Co.text
  by_cases hn : c.op = 9
  · obtain ⟨d, r, e, hd⟩ := mS h hn
    have hl : c.rest.getLast? = some 42 := by unfold Co.rest; rw [if_pos hn]; exact last_join [] _
    rw [hn, show yD 9 = [] from rfl, List.nil_append]
    rw [e] at hl ⊢
    rw [split_plain hd, if_pos hl]
  · obtain ⟨d, r, e, hd⟩ := dG h hn
    rw [e]
    exact split_sign ho.1 (by omega) hd
theorem parseC_text {c : Co} (h : c.may = true) : qL c.text = some c := by
  unfold qL
  rw [split_text h, guess_rest h]
  refine Option.filter_eq_some_iff.2 ⟨rfl, ?_⟩
  have hne : ¬ c.text = [] := fun e => by
    unfold Co.text at e
    have e2 := (List.append_eq_nil_iff.1 e).2
    by_cases hn : c.op = 9
    · obtain ⟨d, r, e3, _⟩ := mS h hn; rw [e3] at e2; cases e2
    · obtain ⟨d, r, e3, _⟩ := dG h hn; rw [e3] at e2; cases e2
  unfold fits
  rw [qB h, decide_eq_false hne, decide_eq_true rfl]; rfl
theorem parseC_caret {c : Co} {s : List UInt8} (h : c.may = true) (hs : c.text = 94 :: s) : qL s = some c := by
  obtain ⟨ho, _⟩ := Co.facts h
  have hop : c.op = 7 ∧ c.rest = s := by
    unfold Co.text at hs
    by_cases hn : c.op = 9
    · obtain ⟨d, r, e, hd⟩ := mS h hn
      rw [hn, show yD 9 = [] from rfl, List.nil_append, e] at hs
      injection hs with e1 _
      rw [e1] at hd
      exact absurd hd (by decide)
    · have hop : c.op = 1 ∨ c.op = 2 ∨ c.op = 3 ∨ c.op = 4 ∨ c.op = 5 ∨ c.op = 6 ∨ c.op = 7 ∨ c.op = 8 := by omega
      rcases hop with e | e | e | e | e | e | e | e <;> rw [e] at hs <;> simp [yD] at hs
      exact ⟨e, hs⟩
  obtain ⟨d, r, e, hd⟩ := dG h (by omega)
  have h42 : ¬ s.getLast? = some 42 := fun hl => by
    have := List.mem_of_getLast? hl
    rw [← hop.2] at this
    exact rest_star h (by omega) this
  unfold qL
  have hsp : fV s = (7, s) := by
    rw [← hop.2, e, split_plain (.inl hd), if_neg (by rw [← e, hop.2]; exact h42)]
  rw [hsp]
  have hg := guess_rest h
  rw [hop.1, hop.2] at hg
  rw [hg]
  refine Option.filter_eq_some_iff.2 ⟨rfl, ?_⟩
  unfold fits
  rw [qB h, hs, decide_eq_false (by simp), decide_eq_true rfl, Bool.or_true]; rfl
theorem fE (s : List UInt8) (c : Co) : qL s = some c ↔ c.may = true ∧ (c.text = s ∨ c.text = 94 :: s) :=
  ⟨parseC_back, fun ⟨hm, h⟩ => h.elim (fun e => e ▸ parseC_text hm) (fun e => parseC_caret hm e)⟩
end
section
end
section
def qO (v : Ver) : Nat → Cu
  | 0 => if yQ v 0 then ⟨0, x9 v 0, false⟩ else y8 1
  | k + 1 => if yQ v ((k + 1 : Nat) : Int) then ⟨0, x9 v ((k + 1 : Nat) : Int), false⟩ else qO v k
def turnsK (c : Co) : Nat := if 0 < c.v.maj ∨ c.parts = 1 then 0 else if 0 < c.v.min ∨ c.parts = 2 then 1 else 2
def Co.low (c : Co) : Cu := ⟨0, kS c.v, false⟩
def Co.aft (c : Co) : Cu := if c.parts < 3 ∧ 0 < c.parts then qO c.v (c.parts - 1).toNat else ⟨0, kS c.v, true⟩
def Co.span (c : Co) : Cu × Cu :=
  if c.op = 1 ∨ c.op = 2 then (c.low, c.aft) else if c.op = 3 then (y8 (-1), c.low) else if c.op = 4 then (y8 (-1), c.aft) else if c.op = 5 then (c.aft, y8 1) else if c.op = 6 then (c.low, y8 1)
  else if c.op = 7 then (c.low, qO c.v (turnsK c)) else if c.op = 8 then (c.low, qO c.v (min (c.parts - 1) 1).toNat) else if c.parts = 0 then (y8 (-1), y8 1) else (c.low, qO c.v (c.parts - 1).toNat)
def kN (lo hi : Cu) : List Sp := qD [] lo hi
def Co.region (c : Co) : List Sp := if c.may then (if c.op = 2 then jM (kN c.span.1 c.span.2) else kN c.span.1 c.span.2) else []
def Co.zone (c : Co) : List Sp := if c.may && !decide (c.v.pre = []) then [⟨⟨0, { c.v with pre := [48], build := [] }, false⟩, ⟨0, { c.v with pre := [], build := [] }, false⟩⟩] else []
theorem oneRow_may (lo hi : Cu) : zN (kN lo hi) = true := add_ok rfl (fun t h => by cases h)
theorem before_may {v : Ver} (h : v.may = true) (a : Bool) : (⟨0, kS v, a⟩ : Cu).may = true := by
  have h2 := mF h
  unfold Cu.may
  rw [if_pos rfl]
  show ((kS v).may && ([] : List UInt8).isEmpty) = true
  rw [h2]; rfl
theorem bump_rel {v : Ver} {k : Int} (h : yQ v k = true) : ∃ a b c, x9 v k = Ver.rel a b c := by
  unfold x9
  rw [if_pos h]
  unfold bumpN
  split
  · exact ⟨_, _, _, rfl⟩
  · split
    · exact ⟨_, _, _, rfl⟩
    · exact ⟨_, _, _, rfl⟩
def upN (v : Ver) (k : Nat) : Int := if k = 0 then (v.maj + 1) * 100000000 else if k = 1 then v.maj * 100000000 + (v.min + 1) * 10000 else v.code + 1
def ordB (op n : Int) : Bool := if op = 1 then decide (n = 0) else if op = 2 then decide (¬ n = 0) else if op = 3 then decide (n < 0) else if op = 4 then decide (n ≤ 0) else if op = 5 then decide (0 < n) else decide (0 ≤ n)
end
section
def wE (c : Co) (v : Ver) (p : Int) : Bool := (decide (p < 1) || decide (v.maj = c.v.maj)) && (decide (p < 2) || decide (v.min = c.v.min)) && (decide (p < 3) || decide (v.pat = c.v.pat))
def overB (c : Co) (v : Ver) : Bool := if ¬ v.maj = c.v.maj ∨ c.parts = 1 then decide (c.v.maj < v.maj) else if ¬ v.min = c.v.min ∨ c.parts = 2 then decide (c.v.min < v.min) else decide (c.v.pat < v.pat)
def saysN (c : Co) : Int := if 0 < c.v.maj ∨ c.parts = 1 then 1 else if 0 < c.v.min ∨ c.parts = 2 then 2 else 3
def saysB (c : Co) (v : Ver) : Bool :=
  if c.op = 1 ∨ c.op = 9 then wE c v c.parts else if c.op = 2 then !wE c v c.parts else if c.op = 3 then !wE c v c.parts && !overB c v else if c.op = 4 then wE c v c.parts || !overB c v
  else if c.op = 5 then overB c v else if c.op = 6 then wE c v c.parts || overB c v else if c.op = 8 then wE c v (min c.parts 2) && (wE c v c.parts || overB c v)
  else wE c v (saysN c) && (wE c v c.parts || overB c v)
def truncN (v : Ver) (q : Nat) : Int := if q = 1 then v.maj * 100000000 else if q = 2 then v.maj * 100000000 + v.min * 10000 else v.code
end
section
def mB (v : Ver) : Ver := { v with pre := [48], build := [] }
def bareV (v : Ver) : Ver := { v with pre := [], build := [] }
theorem least_may {v : Ver} (h : v.may = true) : (mB v).may = true ∧ (bareV v).may = true := by
  obtain ⟨h1, h2, h3⟩ := qY h
  have k : vV [48] = true := by decide
  unfold Ver.may mB bareV
  dsimp only
  rw [h1, h2, h3, k]
  exact ⟨rfl, rfl⟩
theorem zone_row {c : Co} (h : c.may = true) (hp : ¬ c.v.pre = []) : c.zone = [⟨⟨0, mB c.v, false⟩, ⟨0, bareV c.v, false⟩⟩] := by
  unfold Co.zone
  rw [h, decide_eq_false hp]; rfl
theorem zone_sp {v : Ver} (h : v.may = true) : (Sp.mk ⟨0, mB v, false⟩ ⟨0, bareV v, false⟩).may = true := by
  obtain ⟨m1, m2⟩ := least_may h
  refine d7 ?_
  have c1 : (⟨0, mB v, false⟩ : Cu).may = true := before_may m1 false
  have c2 : (⟨0, bareV v, false⟩ : Cu).may = true := before_may m2 false
  rw [vD c1 c2]
  have e : kH (mB v) (bareV v) = -1 := by
    rw [dW m1 m2]
    have e1 : (mB v).code = (bareV v).code := rfl
    rw [e1, if_neg (by omega), if_neg (by omega)]; rfl
  show lex (Lib.compareInt 0 0) (lex (kH (mB v) (bareV v)) (Lib.compareInt (b01 false) (b01 false))) < 0
  rw [e]
  decide
theorem zone_may {c : Co} : zN c.zone = true := by
  by_cases h : c.may = true
  · by_cases hp : c.v.pre = []
    · unfold Co.zone; rw [h, decide_eq_true hp]; rfl
    · rw [zone_row h hp]; exact zone_sp (Co.facts h).2.1
  · unfold Co.zone
    rw [Bool.eq_false_iff.2 h]; rfl
def withO (c : Co) (o : Int) : Co := { c with op := o }
end
end Go.Proofs.YtkljdpiaghepfaaGreatDoor
