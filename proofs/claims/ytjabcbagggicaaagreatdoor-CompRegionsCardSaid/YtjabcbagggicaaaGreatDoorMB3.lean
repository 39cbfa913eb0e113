/-
  What the statements' proofs lean on, part 3: each part begins with a remark that says what it proves and on what conditions.
-/
import Derived.Tactics
import Derived.Lib.AppendZerosOnto
import Derived.Test.YtjabcbagggicaaaGreatDoorMB2

section
/-
  linchpinref4.Same: two rows, span by span; nothing that was there is changed.
-/
namespace Go.Proofs.YtjabcbagggicaaaGreatDoor
open Go.RowKit
set_option maxRecDepth 100000
set_option linter.unusedVariables false
set_option linter.unusedSimpArgs false
set_option maxHeartbeats 2000000

deriving instance DecidableEq for Sp
theorem all2 (a b : Bool) : ([a, b].all id) = (a && b) := by simp
theorem sp_dec (u v : Sp) : decide (u = v) = (decide (u.lo = v.lo) && decide (u.hi = v.hi)) := by
  obtain ⟨a, b⟩ := u
  obtain ⟨a', b'⟩ := v
  simp only [Sp.mk.injEq, Bool.decide_and]
theorem eq_span (u v : Sp) (d : Nat) (w : World) : (Op.equalIn (d + 1 + 1 + 1 + 1) 50 (spanV u) (spanV v)).run Tryz.prog w = .ok (decide (u = v)) w := by
  have h := eq_agg (P := Tryz.prog) (d := d + 1 + 1 + 1) (t := 50) (xs := (spanV u).cells) (ys := (spanV v).cells) (bs := [decide (u.lo = v.lo), decide (u.hi = v.hi)]) Tryz.underlying50 (by kernel_rfl)
    ⟨by decide, ⟨cutV u.lo, cutV v.lo, fun w => ⟨by kernel_rfl, by kernel_rfl, eq_cut u.lo v.lo d w⟩⟩,
     by decide, ⟨cutV u.hi, cutV v.hi, fun w => ⟨by kernel_rfl, by kernel_rfl, eq_cut u.hi v.hi d w⟩⟩, trivial⟩ w
  rw [all2, ← sp_dec] at h
  exact h
theorem guard_span : Tryz.prog.eqGuardType Tryz.prog.depth 50 = false := by kernel_rfl
theorem binOp_agg_neq {P : Program} {t : TypeId} {xs ys : Array Value} {b : Bool} (w : World) (h : (Op.equalIn 10000 t (.agg xs) (.agg ys)).run P w = .ok b w) : (binOp .neq t (.agg xs) (.agg ys)).run P w = .ok (.bool (!b)) w := by
  have e : binOp .neq t (.agg xs) (.agg ys) = (do let r ← Op.equalIn 10000 t (.agg xs) (.agg ys); pure (.bool (!r))) := by first | rfl | simp [binOp]
  rw [e]
  simp only [Sem.run_bind, h, Result.andThen_ok, Sem.run_pure]
theorem run_ne_op {P : Program} {ρ : Operand → Value} {o : Oper} {t t' : TypeId} {x y : Operand} {xs ys : Array Value} {b : Bool} (ho : o.op = .binOp .neq t x y t') (hx : ρ x = .agg xs) (hy : ρ y = .agg ys) (hm : P.eqGuardType P.depth t = false)
    (h : ∀ w, (Op.equalIn 10000 t (.agg xs) (.agg ys)).run P w = .ok b w) (w : World) : (execOp ρ o).run P w = .ok (.value (.bool (!b))) w := by
  have h1 := run_eqGuard_agg (P := P) w .neq t x y xs ys hm
  have h2 := binOp_agg_neq w (h w)
  unfold execOp
  simp only [ho, hx, hy, Sem.run_bind, h1, Result.andThen_ok, h2, Sem.run_pure]
theorem op_ne_span {ρ : Operand → Value} {o : Oper} {t' : TypeId} {x y : Operand} {u v : Sp} {b : Bool} (ho : o.op = .binOp .neq 50 x y t') (hx : ρ x = spanV u) (hy : ρ y = spanV v) (hb : decide (u = v) = b) (w : World) : (execOp ρ o).run Tryz.prog w = .ok (.value (.bool (!b))) w :=
  run_ne_op ho hx hy guard_span (fun w => by rw [← hb]; exact eq_span u v 9996 w) w
theorem same_step {a b : List Sp} {k : Nat} (ha : k < a.length) (hb : k < b.length) (h : a.take k = b.take k) (e : a[k] = b[k]) : a.take (k + 1) = b.take (k + 1) := by
  rw [List.take_succ_eq_append_getElem ha, List.take_succ_eq_append_getElem hb, h, e]

theorem rsame_any (A B : Option Addr) (cap capb : Nat) (a b : List Sp) (W : World) (hv : Reads spanC W W.heap.size A a) (hu : Reads spanC W W.heap.size B b) (hn : a.length ≤ 1000000) (hm : b.length ≤ 1000000) :
    Calls Tryz.prog 18 #[.slice A a.length cap, .slice B b.length capb] W fun e w' => e = .returned (.bool (decide (a = b))) ∧ Below W.heap.size W w' := by
  refine calls_ok (n := 26) Tryz.func18 rfl (by kernel_rfl) (by kernel_rfl) ?_
  refine ok_seq ?_
  refine ok_region ?_
  refine s_val (.bool false) (by kernel_rfl) (fun _ => by kernel_rfl) ?_
  refine s_nil ?_
  refine fin_seq ?_
  refine ok_seq ?_
  refine ok_seq ?_
  refine ok_region ?_
  refine s_val (.slice A a.length cap) (by kernel_rfl) (fun _ => by kernel_rfl) ?_
  refine s_val (.int .i64 (a.length : Int)) (by kernel_rfl) (fun _ => by kernel_rfl) ?_
  refine s_val (.slice B b.length capb) (by kernel_rfl) (fun _ => by kernel_rfl) ?_
  refine s_val (.int .i64 (b.length : Int)) (by kernel_rfl) (fun _ => by kernel_rfl) ?_
  by_cases h1 : (a.length : Int) = (b.length : Int)
  · skip
    refine s_ndec (p := (a.length : Int) = (b.length : Int)) true (by kernel_rfl) (fun _ => by kernel_rfl) (decide_eq_true (h1)) ?_
    refine s_nil ?_
    refine fin_seq ?_
    refine ok_false (by kernel_rfl) ?_
    refine ok_skip ?_
    refine fin_seq ?_
    refine ok_seq ?_
    refine ok_seq ?_
    refine ok_region ?_
    refine s_val (.int .i64 0) (by kernel_rfl) (fun _ => by kernel_rfl) ?_
    refine s_nil ?_
    refine fin_seq ?_
    refine ok_block ?_
    refine ok_loop (fun L f m => ∃ (k : Nat) (j : Nat → Value), (k ≤ a.length ∧ a.take k = b.take k) ∧ L = [] ∧ f = upds j [(0, .slice A a.length cap), (1, .slice B b.length capb), (5, .int .i64 (k : Int))] ∧ m = a.length - k) (a.length - 0) ⟨0, _, ⟨Nat.zero_le _, by rw [List.take_zero, List.take_zero]⟩, rfl, upds_self _ ⟨by kernel_rfl, by kernel_rfl, by kernel_rfl, trivial⟩, rfl⟩ ?_
    rintro L f m ⟨k, j, hrel, rfl, rfl, rfl⟩
    have hkl := hrel.1
    refine ok_seq ?_
    refine ok_seq ?_
    refine ok_region ?_
    refine s_val (.int .i64 (k : Int)) (by kernel_rfl) (fun _ => by kernel_rfl) ?_
    refine s_val (.slice A a.length cap) (by kernel_rfl) (fun _ => by kernel_rfl) ?_
    refine s_val (.int .i64 (a.length : Int)) (by kernel_rfl) (fun _ => by kernel_rfl) ?_
    by_cases h2 : (k : Int) < (a.length : Int)
    · skip
      have hk : k < a.length := by omega
      have hkb : k < b.length := by omega
      obtain ⟨g, off, hA, hlt, hcell⟩ := hv (by omega)
      obtain ⟨gb, ofh, hB, hlu, hcelu⟩ := hu (by omega)
      obtain ⟨s, hs⟩ : ∃ s, a[k] = s := ⟨_, rfl⟩
      obtain ⟨t, ht⟩ : ∃ t, b[k] = t := ⟨_, rfl⟩
      refine s_dec (p := (k : Int) < (a.length : Int)) true (by kernel_rfl) (fun _ => by kernel_rfl) (decide_eq_true (h2)) ?_
      refine s_nil ?_
      refine fin_seq ?_
      refine ok_true (by kernel_rfl) ?_
      refine ok_skip ?_
      refine fin_seq ?_
      refine ok_seq ?_
      refine ok_block ?_
      refine ok_seq ?_
      refine ok_draw (by kernel_rfl) (by kernel_rfl) ?_
      refine q_val (.slice A a.length cap) (by kernel_rfl) (fun _ => by kernel_rfl) ?_
      refine q_val (.int .i64 (k : Int)) (by kernel_rfl) (fun _ => by kernel_rfl) ?_
      refine q_val (.pointer (some ⟨g, off + k * 14, none⟩)) (by kernel_rfl) (run_ixA (b := g) (off := off) (c := cap) (n := a.length) (k := .i64) (j := (k : Int)) (e := 50) (sz := 14) rfl (by kernel_rfl) hA (by kernel_rfl) (by kernel_rfl) (by kernel_rfl) (by omega) (by omega) (by omega)) ?_
      refine q_old (spanV s) (a := ⟨g, off + k * 14, none⟩) (by kernel_rfl) rfl (by kernel_rfl) (fun w hO => elem_load spanC_len (fun j u h => (hO.below.cell (p := ⟨g, off + j, none⟩) hlt).trans (hcell j u h)) k 0 hk (by omega) _ (by rw [hs]; kernel_rfl)) ?_
      refine q_val (.slice B b.length capb) (by kernel_rfl) (fun _ => by kernel_rfl) ?_
      refine q_val (.int .i64 (k : Int)) (by kernel_rfl) (fun _ => by kernel_rfl) ?_
      refine q_val (.pointer (some ⟨gb, ofh + k * 14, none⟩)) (by kernel_rfl) (run_ixA (b := gb) (off := ofh) (c := capb) (n := b.length) (k := .i64) (j := (k : Int)) (e := 50) (sz := 14) rfl (by kernel_rfl) hB (by kernel_rfl) (by kernel_rfl) (by kernel_rfl) (by omega) (by omega) (by omega)) ?_
      refine q_old (spanV t) (a := ⟨gb, ofh + k * 14, none⟩) (by kernel_rfl) rfl (by kernel_rfl) (fun w hO => elem_load spanC_len (fun j u h => (hO.below.cell (p := ⟨gb, ofh + j, none⟩) hlu).trans (hcelu j u h)) k 0 hkb (by omega) _ (by rw [ht]; kernel_rfl)) ?_
      by_cases h3 : s = t
      · skip
        refine q_val (.bool false) (by kernel_rfl) (op_ne_span rfl (by kernel_rfl) (by kernel_rfl) (decide_eq_true (h3))) ?_
        refine q_nil ?_
        refine fin_seq ?_
        refine ok_false (by kernel_rfl) ?_
        refine ok_skip ?_
        refine fin_block ?_
        refine fin_seq ?_
        refine ok_region ?_
        refine s_val (.int .i64 (k : Int)) (by kernel_rfl) (fun _ => by kernel_rfl) ?_
        refine s_sum (k := .i64) (((k + 1 : Nat) : Int)) (by kernel_rfl) (fun _ => by kernel_rfl) (IntWalk.i64_in _ (by omega)) ?_
        refine s_val (.int .i64 ((k + 1 : Nat) : Int)) (by kernel_rfl) (fun _ => by kernel_rfl) ?_
        refine s_nil ?_
        have hnext : a.take (k + 1) = b.take (k + 1) := same_step hk hkb hrel.2 (by rw [hs, ht]; assumption)
        exact fin_round (m' := a.length - (k + 1)) (by omega) ⟨k + 1, _, ⟨by omega, hnext⟩, rfl, upds_self _ ⟨by kernel_rfl, by kernel_rfl, by kernel_rfl, trivial⟩, rfl⟩
      · skip
        refine q_val (.bool true) (by kernel_rfl) (op_ne_span rfl (by kernel_rfl) (by kernel_rfl) (decide_eq_false (h3))) ?_
        refine q_nil ?_
        refine fin_seq ?_
        refine ok_true (by kernel_rfl) ?_
        refine ok_seq ?_
        refine ok_region ?_
        refine s_val (.bool false) (by kernel_rfl) (fun _ => by kernel_rfl) ?_
        refine s_nil ?_
        refine fin_seq ?_
        refine ok_ret ?_
        refine fin_block_ret ?_
        refine fin_seq_ret ?_
        refine fin_round_ret ?_
        refine fin_block_ret ?_
        refine fin_seq_ret ?_
        refine fin_ret (.bool false) Tryz.results18 (by kernel_rfl) ?_
        exact fun w hO => ⟨by rw [decide_eq_false (show ¬ a = b from fun e => by subst e; first | omega | exact absurd (hs.symm.trans ht) (by assumption))], hO.below⟩
    · skip
      refine s_dec (p := (k : Int) < (a.length : Int)) false (by kernel_rfl) (fun _ => by kernel_rfl) (decide_eq_false (h2)) ?_
      refine s_nil ?_
      refine fin_seq ?_
      refine ok_false (by kernel_rfl) ?_
      refine ok_exit ?_
      refine fin_seq_exit ?_
      refine fin_round_exit ?_
      refine fin_block_exit ?_
      refine fin_seq ?_
      refine ok_seq ?_
      refine ok_region ?_
      refine s_val (.bool true) (by kernel_rfl) (fun _ => by kernel_rfl) ?_
      refine s_nil ?_
      refine fin_seq ?_
      refine ok_ret ?_
      refine fin_ret (.bool true) Tryz.results18 (by kernel_rfl) ?_
      exact fun w hO => ⟨by rw [decide_eq_true (show a = b from by have h := hrel.2; rwa [List.take_of_length_le (by omega), List.take_of_length_le (by omega)] at h)], hO.below⟩
  · skip
    refine s_ndec (p := (a.length : Int) = (b.length : Int)) false (by kernel_rfl) (fun _ => by kernel_rfl) (decide_eq_false (h1)) ?_
    refine s_nil ?_
    refine fin_seq ?_
    refine ok_true (by kernel_rfl) ?_
    refine ok_seq ?_
    refine ok_region ?_
    refine s_val (.bool false) (by kernel_rfl) (fun _ => by kernel_rfl) ?_
    refine s_nil ?_
    refine fin_seq ?_
    refine ok_ret ?_
    refine fin_seq_ret ?_
    refine fin_ret (.bool false) Tryz.results18 (by kernel_rfl) ?_
    exact fun w hO => ⟨by rw [decide_eq_false (show ¬ a = b from fun e => by subst e; first | omega | exact absurd (hs.symm.trans ht) (by assumption))], hO.below⟩
end Go.Proofs.YtjabcbagggicaaaGreatDoor
end

section
/-
  linchpinref4: May, Has, Same: what they return for slices of spans whose strings have at most a million bytes; nothing that was there is changed.
-/
namespace Go.Proofs.YtjabcbagggicaaaGreatDoor
open Go.RowKit
set_option maxRecDepth 100000
set_option linter.unusedVariables false
set_option linter.unusedSimpArgs false
set_option maxHeartbeats 2000000

theorem row_take_step {l : List Sp} {k : Nat} (hk : k < l.length) (h : rowMay (l.take k) = true) (hs : l[k].may = true) (hc : ∀ h0 : 0 < k, cmpC (l[k - 1]'(by omega)).hi l[k].lo < 0) : rowMay (l.take (k + 1)) = true := by
  rw [List.take_succ_eq_append_getElem hk]
  refine row_snoc h hs fun t ht => ?_
  cases k with
  | zero => simp at ht
  | succ k =>
    have e := List.take_succ_eq_append_getElem (l := l) (i := k) (by omega)
    rw [e, List.getLast?_concat] at ht
    obtain rfl : l[k] = t := Option.some.inj ht
    exact hc (by omega)
theorem row_pair : ∀ {l : List Sp}, rowMay l = true → ∀ k (hk : k < l.length) (h0 : 0 < k), cmpC (l[k - 1]'(by omega)).hi l[k].lo < 0
  | [], _, k, hk, _ => by simp at hk
  | s :: l, h, k, hk, h0 => by
    cases k with
    | zero => omega
    | succ k =>
      cases k with
      | zero => exact row_after h _ (List.getElem_mem _)
      | succ k => exact row_pair (row_tail h) (k + 1) (by simpa using hk) (by omega)
theorem rrowMay_any (A : Option Addr) (cap : Nat) (l : List Sp) (W : World) (hv : Reads spanC W W.heap.size A l) (hn : l.length ≤ 1000000) (hl : ShortL l) :
    Calls Tryz.prog 59 #[.slice A l.length cap] W fun e w' => e = .returned (.bool (rowMay l)) ∧ Below W.heap.size W w' := by
  refine calls_ok (n := 35) Tryz.func59 rfl (by kernel_rfl) (by kernel_rfl) ?_
  refine ok_seq ?_
  refine ok_region ?_
  refine s_val (.bool false) (by kernel_rfl) (fun _ => by kernel_rfl) ?_
  refine s_nil ?_
  refine fin_seq ?_
  refine ok_seq ?_
  refine ok_seq ?_
  refine ok_region ?_
  refine s_val (.int .i64 0) (by kernel_rfl) (fun _ => by kernel_rfl) ?_
  refine s_nil ?_
  refine fin_seq ?_
  refine ok_block ?_
  refine ok_loop (fun L f m => ∃ (k : Nat) (j : Nat → Value), (k ≤ l.length ∧ rowMay (l.take k) = true) ∧ L = [] ∧ f = upds j [(0, .slice A l.length cap), (3, .int .i64 (k : Int))] ∧ m = l.length - k) (l.length - 0) ⟨0, _, ⟨Nat.zero_le _, by rw [List.take_zero]; rfl⟩, rfl, upds_self _ ⟨by kernel_rfl, by kernel_rfl, trivial⟩, rfl⟩ ?_
  rintro L f m ⟨k, j, hrel, rfl, rfl, rfl⟩
  have hkl := hrel.1
  refine ok_seq ?_
  refine ok_seq ?_
  refine ok_region ?_
  refine s_val (.int .i64 (k : Int)) (by kernel_rfl) (fun _ => by kernel_rfl) ?_
  refine s_val (.slice A l.length cap) (by kernel_rfl) (fun _ => by kernel_rfl) ?_
  refine s_val (.int .i64 (l.length : Int)) (by kernel_rfl) (fun _ => by kernel_rfl) ?_
  by_cases h1 : (k : Int) < (l.length : Int)
  · skip
    have hk : k < l.length := by omega
    obtain ⟨b, off, hA, hlt, hcell⟩ := hv (by omega)
    obtain ⟨s, hs⟩ : ∃ s, l[k] = s := ⟨_, rfl⟩
    have hsk : s.short := hs ▸ hl l[k] (List.getElem_mem hk)
    refine s_dec (p := (k : Int) < (l.length : Int)) true (by kernel_rfl) (fun _ => by kernel_rfl) (decide_eq_true (h1)) ?_
    refine s_nil ?_
    refine fin_seq ?_
    refine ok_true (by kernel_rfl) ?_
    refine ok_skip ?_
    refine fin_seq ?_
    refine ok_seq ?_
    refine ok_block ?_
    refine ok_seq ?_
    refine ok_draw (by kernel_rfl) (by kernel_rfl) ?_
    refine q_val (.slice A l.length cap) (by kernel_rfl) (fun _ => by kernel_rfl) ?_
    refine q_val (.int .i64 (k : Int)) (by kernel_rfl) (fun _ => by kernel_rfl) ?_
    refine q_val (.pointer (some ⟨b, off + k * 14, none⟩)) (by kernel_rfl) (run_ixA (b := b) (off := off) (c := cap) (n := l.length) (k := .i64) (j := (k : Int)) (e := 50) (sz := 14) rfl (by kernel_rfl) hA (by kernel_rfl) (by kernel_rfl) (by kernel_rfl) (by omega) (by omega) (by omega)) ?_
    refine q_old (spanV s) (a := ⟨b, off + k * 14, none⟩) (by kernel_rfl) rfl (by kernel_rfl) (fun w hO => elem_load spanC_len (fun j u h => (hO.below.cell (p := ⟨b, off + j, none⟩) hlt).trans (hcell j u h)) k 0 hk (by omega) _ (by rw [hs]; kernel_rfl)) ?_
    refine q_call (k := 104) (args := #[spanV s]) (.bool s.may) (by kernel_rfl) (fun _ => by kernel_rfl) (fun w _ => rspanMay_any s w hsk) ?_
    cases h2 : s.may with
    | true =>
      refine q_val (.bool false) (by kernel_rfl) (fun _ => by kernel_rfl) ?_
      refine q_val (.bool false) (by kernel_rfl) (fun _ => by kernel_rfl) ?_
      refine q_val (.int .i64 (k : Int)) (by kernel_rfl) (fun _ => by kernel_rfl) ?_
      by_cases h3 : (0 : Int) < (k : Int)
      · skip
        have hk1 : k - 1 < l.length := by omega
        obtain ⟨r, hr⟩ : ∃ r, l[k - 1] = r := ⟨_, rfl⟩
        have hrk : r.short := hr ▸ hl l[k - 1] (List.getElem_mem hk1)
        refine q_dec (p := (0 : Int) < (k : Int)) true (by kernel_rfl) (fun _ => by kernel_rfl) (decide_eq_true (h3)) ?_
        refine q_val (.bool true) (by kernel_rfl) (fun _ => by kernel_rfl) ?_
        refine q_val (.slice A l.length cap) (by kernel_rfl) (fun _ => by kernel_rfl) ?_
        refine q_val (.int .i64 (k : Int)) (by kernel_rfl) (fun _ => by kernel_rfl) ?_
        refine q_sum (k := .i64) (((k : Int) : Int) - 1) (by kernel_rfl) (fun _ => by kernel_rfl) (IntWalk.i64_in _ (by omega)) ?_
        refine q_val (.pointer (some ⟨b, off + (k - 1) * 14, none⟩)) (by kernel_rfl) (run_ixA (b := b) (off := off) (c := cap) (n := l.length) (k := .i64) (j := ((k : Int) : Int) - 1) (e := 50) (sz := 14) rfl (by kernel_rfl) hA (by kernel_rfl) (by kernel_rfl) (by kernel_rfl) (by omega) (by omega) (by omega)) ?_
        refine q_val (.pointer (some ⟨b, off + (k - 1) * 14 + 7, none⟩)) (by kernel_rfl) (fun _ => by kernel_rfl) ?_
        refine q_old (cutV r.hi) (a := ⟨b, off + (k - 1) * 14 + 7, none⟩) (by kernel_rfl) rfl (by kernel_rfl) (fun w hO => elem_load spanC_len (fun j u h => (hO.below.cell (p := ⟨b, off + j, none⟩) hlt).trans (hcell j u h)) (k - 1) 7 hk1 (by omega) _ (by rw [hr]; kernel_rfl)) ?_
        refine q_val (.slice A l.length cap) (by kernel_rfl) (fun _ => by kernel_rfl) ?_
        refine q_val (.int .i64 (k : Int)) (by kernel_rfl) (fun _ => by kernel_rfl) ?_
        refine q_val (.pointer (some ⟨b, off + k * 14, none⟩)) (by kernel_rfl) (run_ixA (b := b) (off := off) (c := cap) (n := l.length) (k := .i64) (j := (k : Int)) (e := 50) (sz := 14) rfl (by kernel_rfl) hA (by kernel_rfl) (by kernel_rfl) (by kernel_rfl) (by omega) (by omega) (by omega)) ?_
        refine q_val (.pointer (some ⟨b, off + k * 14 + 0, none⟩)) (by kernel_rfl) (fun _ => by kernel_rfl) ?_
        refine q_old (cutV s.lo) (a := ⟨b, off + k * 14 + 0, none⟩) (by kernel_rfl) rfl (by kernel_rfl) (fun w hO => elem_load spanC_len (fun j u h => (hO.below.cell (p := ⟨b, off + j, none⟩) hlt).trans (hcell j u h)) k 0 hk (by omega) _ (by rw [hs]; kernel_rfl)) ?_
        refine q_call (k := 56) (args := #[cutV r.hi, cutV s.lo]) (.int .i64 (cmpC r.hi s.lo)) (by kernel_rfl) (fun _ => by kernel_rfl) (fun w _ => rcmpC_any r.hi s.lo w hrk.2 hsk.1) ?_
        by_cases h4 : (0 : Int) ≤ cmpC r.hi s.lo
        · skip
          refine q_dec (p := (0 : Int) ≤ cmpC r.hi s.lo) true (by kernel_rfl) (fun _ => by kernel_rfl) (decide_eq_true (h4)) ?_
          refine q_val (.bool true) (by kernel_rfl) (fun _ => by kernel_rfl) ?_
          refine q_val (.bool true) (by kernel_rfl) (fun _ => by kernel_rfl) ?_
          refine q_nil ?_
          refine fin_seq ?_
          refine ok_true (by kernel_rfl) ?_
          refine ok_seq ?_
          refine ok_region ?_
          refine s_val (.bool false) (by kernel_rfl) (fun _ => by kernel_rfl) ?_
          refine s_nil ?_
          refine fin_seq ?_
          refine ok_ret ?_
          refine fin_block_ret ?_
          refine fin_seq_ret ?_
          refine fin_round_ret ?_
          refine fin_block_ret ?_
          refine fin_seq_ret ?_
          refine fin_ret (.bool false) Tryz.results59 (by kernel_rfl) ?_
          exact fun w hO => ⟨by rw [show rowMay l = false from by cases hm : rowMay l with | false => rfl | true => first | (have h := row_mem hm l[k] (List.getElem_mem hk); rw [hs] at h; simp_all; done) | (have h := row_pair hm k hk (by omega); rw [hs, hr] at h; omega)], hO.below⟩
        · skip
          refine q_dec (p := (0 : Int) ≤ cmpC r.hi s.lo) false (by kernel_rfl) (fun _ => by kernel_rfl) (decide_eq_false (h4)) ?_
          refine q_val (.bool false) (by kernel_rfl) (fun _ => by kernel_rfl) ?_
          refine q_val (.bool false) (by kernel_rfl) (fun _ => by kernel_rfl) ?_
          refine q_nil ?_
          refine fin_seq ?_
          refine ok_false (by kernel_rfl) ?_
          refine ok_skip ?_
          refine fin_block ?_
          refine fin_seq ?_
          refine ok_region ?_
          refine s_val (.int .i64 (k : Int)) (by kernel_rfl) (fun _ => by kernel_rfl) ?_
          refine s_sum (k := .i64) (((k + 1 : Nat) : Int)) (by kernel_rfl) (fun _ => by kernel_rfl) (IntWalk.i64_in _ (by omega)) ?_
          refine s_val (.int .i64 ((k + 1 : Nat) : Int)) (by kernel_rfl) (fun _ => by kernel_rfl) ?_
          refine s_nil ?_
          have hnext : rowMay (l.take (k + 1)) = true := row_take_step hk hrel.2 (by rw [hs]; assumption) (fun _ => by rw [hr, hs]; omega)
          exact fin_round (m' := l.length - (k + 1)) (by omega) ⟨k + 1, _, ⟨by omega, hnext⟩, rfl, upds_self _ ⟨by kernel_rfl, by kernel_rfl, trivial⟩, rfl⟩
      · skip
        refine q_dec (p := (0 : Int) < (k : Int)) false (by kernel_rfl) (fun _ => by kernel_rfl) (decide_eq_false (h3)) ?_
        refine q_val (.bool false) (by kernel_rfl) (fun _ => by kernel_rfl) ?_
        refine q_skip (by kernel_rfl) ?_
        refine q_skip (by kernel_rfl) ?_
        refine q_skip (by kernel_rfl) ?_
        refine q_skip (by kernel_rfl) ?_
        refine q_skip (by kernel_rfl) ?_
        refine q_skip (by kernel_rfl) ?_
        refine q_skip (by kernel_rfl) ?_
        refine q_skip (by kernel_rfl) ?_
        refine q_skip (by kernel_rfl) ?_
        refine q_skip (by kernel_rfl) ?_
        refine q_skip (by kernel_rfl) ?_
        refine q_skip (by kernel_rfl) ?_
        refine q_skip (by kernel_rfl) ?_
        refine q_val (.bool false) (by kernel_rfl) (fun _ => by kernel_rfl) ?_
        refine q_val (.bool false) (by kernel_rfl) (fun _ => by kernel_rfl) ?_
        refine q_nil ?_
        refine fin_seq ?_
        refine ok_false (by kernel_rfl) ?_
        refine ok_skip ?_
        refine fin_block ?_
        refine fin_seq ?_
        refine ok_region ?_
        refine s_val (.int .i64 (k : Int)) (by kernel_rfl) (fun _ => by kernel_rfl) ?_
        refine s_sum (k := .i64) (((k + 1 : Nat) : Int)) (by kernel_rfl) (fun _ => by kernel_rfl) (IntWalk.i64_in _ (by omega)) ?_
        refine s_val (.int .i64 ((k + 1 : Nat) : Int)) (by kernel_rfl) (fun _ => by kernel_rfl) ?_
        refine s_nil ?_
        have hnext : rowMay (l.take (k + 1)) = true := row_take_step hk hrel.2 (by rw [hs]; assumption) (fun h0 => absurd h0 (by omega))
        exact fin_round (m' := l.length - (k + 1)) (by omega) ⟨k + 1, _, ⟨by omega, hnext⟩, rfl, upds_self _ ⟨by kernel_rfl, by kernel_rfl, trivial⟩, rfl⟩
    | false =>
      refine q_val (.bool true) (by kernel_rfl) (fun _ => by kernel_rfl) ?_
      refine q_val (.bool true) (by kernel_rfl) (fun _ => by kernel_rfl) ?_
      refine q_skip (by kernel_rfl) ?_
      refine q_skip (by kernel_rfl) ?_
      refine q_skip (by kernel_rfl) ?_
      refine q_skip (by kernel_rfl) ?_
      refine q_skip (by kernel_rfl) ?_
      refine q_skip (by kernel_rfl) ?_
      refine q_skip (by kernel_rfl) ?_
      refine q_skip (by kernel_rfl) ?_
      refine q_skip (by kernel_rfl) ?_
      refine q_skip (by kernel_rfl) ?_
      refine q_skip (by kernel_rfl) ?_
      refine q_skip (by kernel_rfl) ?_
      refine q_skip (by kernel_rfl) ?_
      refine q_skip (by kernel_rfl) ?_
      refine q_skip (by kernel_rfl) ?_
      refine q_skip (by kernel_rfl) ?_
      refine q_skip (by kernel_rfl) ?_
      refine q_val (.bool true) (by kernel_rfl) (fun _ => by kernel_rfl) ?_
      refine q_nil ?_
      refine fin_seq ?_
      refine ok_true (by kernel_rfl) ?_
      refine ok_seq ?_
      refine ok_region ?_
      refine s_val (.bool false) (by kernel_rfl) (fun _ => by kernel_rfl) ?_
      refine s_nil ?_
      refine fin_seq ?_
      refine ok_ret ?_
      refine fin_block_ret ?_
      refine fin_seq_ret ?_
      refine fin_round_ret ?_
      refine fin_block_ret ?_
      refine fin_seq_ret ?_
      refine fin_ret (.bool false) Tryz.results59 (by kernel_rfl) ?_
      exact fun w hO => ⟨by rw [show rowMay l = false from by cases hm : rowMay l with | false => rfl | true => first | (have h := row_mem hm l[k] (List.getElem_mem hk); rw [hs] at h; simp_all; done) | (have h := row_pair hm k hk (by omega); rw [hs, hr] at h; omega)], hO.below⟩
  · skip
    refine s_dec (p := (k : Int) < (l.length : Int)) false (by kernel_rfl) (fun _ => by kernel_rfl) (decide_eq_false (h1)) ?_
    refine s_nil ?_
    refine fin_seq ?_
    refine ok_false (by kernel_rfl) ?_
    refine ok_exit ?_
    refine fin_seq_exit ?_
    refine fin_round_exit ?_
    refine fin_block_exit ?_
    refine fin_seq ?_
    refine ok_seq ?_
    refine ok_region ?_
    refine s_val (.bool true) (by kernel_rfl) (fun _ => by kernel_rfl) ?_
    refine s_nil ?_
    refine fin_seq ?_
    refine ok_ret ?_
    refine fin_ret (.bool true) Tryz.results59 (by kernel_rfl) ?_
    exact fun w hO => ⟨by rw [show rowMay l = true from by have h := hrel.2; rwa [List.take_of_length_le (by omega)] at h], hO.below⟩
end Go.Proofs.YtjabcbagggicaaaGreatDoor
end

section
/-
  linchpinref4.grow: a row with a stretch behind it; it may write into the slice that it is lent; of all other memory nothing is changed.
-/
namespace Go.Proofs.YtjabcbagggicaaaGreatDoor
open Go.RowKit
set_option maxRecDepth 100000
set_option linter.unusedVariables false
set_option linter.unusedSimpArgs false
set_option maxHeartbeats 2000000

/-- The value v is a slice of the spans l that lies in ob, a caller's own. -/
def SlS (v : Value) (l : List Sp) (ob : List Blk) : Prop := Sl 50 14 v l.length (l.flatMap spanC) ob
theorem spanInfo : (Tryz.prog.info? 50).map (fun i => (i.zero.map (·.cells.size), i.size, i.bytes)) = some (some 14, 14, 144) := by kernel_rfl
theorem span_info : ∃ i z, Tryz.prog.info? 50 = some i ∧ i.zero = some z ∧ i.size = 14 ∧ z.cells.size = 14 ∧ i.bytes = 144 := by
  have h := spanInfo
  cases hi : Tryz.prog.info? 50 with
  | none => rw [hi] at h; cases h
  | some i =>
    rw [hi] at h
    simp only [Option.map_some, Option.some.injEq, Prod.mk.injEq] at h
    cases hz : i.zero with
    | none => rw [hz] at h; simp at h
    | some z => rw [hz] at h; simp at h; exact ⟨i, z, rfl, hz, h.2.1, h.1, h.2.2⟩
theorem span_cells (s : Sp) : ∀ u ∈ spanC s, u.oneCell' = true := by
  intro u hu
  unfold spanC spanV at hu
  simp only [Value.cells, List.mem_cons, List.not_mem_nil, or_false] at hu
  rcases hu with rfl | rfl | rfl | rfl | rfl | rfl | rfl | rfl | rfl | rfl | rfl | rfl | rfl | rfl <;> rfl
theorem grow_app {l : List Sp} {c d : Cu} (h : ∀ s ∈ l.getLast?, ¬ cmpC s.hi c = 0) : growL l c d = l ++ [⟨c, d⟩] := by
  unfold growL
  cases hg : l.getLast? with
  | none => have : l = [] := by simpa using hg
            subst this; rfl
  | some s => dsimp only; rw [if_neg (h s hg)]
theorem grow_set {l : List Sp} {c d : Cu} {s : Sp} (h0 : 0 < l.length) (hs : l[l.length - 1]'(by omega) = s) (h : cmpC s.hi c = 0) : growL l c d = l.set (l.length - 1) ⟨s.lo, d⟩ := by
  have hg : l.getLast? = some s := by rw [List.getLast?_eq_getElem?, List.getElem?_eq_getElem (by omega), hs]
  unfold growL
  rw [hg]
  dsimp only
  rw [if_pos h, List.dropLast_eq_take, List.set_eq_take_append_cons_drop, if_pos (by omega), List.drop_of_length_le (by omega)]
theorem last_at {l : List Sp} (h0 : 0 < l.length) {s t : Sp} (hs : l[l.length - 1]'(by omega) = s) (ht : t ∈ l.getLast?) : t = s := by
  rw [List.getLast?_eq_getElem?, List.getElem?_eq_getElem (by omega), hs] at ht
  exact (Option.some.inj ht).symm

theorem grow_any (A : Option Addr) (cap : Nat) (l : List Sp) (ob : List Blk) (c d : Cu) (W : World) (hv : SlS (.slice A l.length cap) l ob) (hO : Own (ob.map Blk.b) W W ob) (hn : l.length ≤ 1000000) (hl : ShortL l) (hc : c.short) (hd : d.short) :
    Calls Tryz.prog 68 #[.slice A l.length cap, cutV c, cutV d] W fun e w' => ∃ v' ob', e = .returned v' ∧ SlS v' (growL l c d) ob' ∧ Own (ob.map Blk.b) W w' ob' := by
  unfold SlS at hv ⊢
  refine calls_okL (n := 35) hO Tryz.func68 rfl (by kernel_rfl) (by kernel_rfl) ?_
  refine ok_seq ?_
  refine ok_region ?_
  refine s_box (cutV c) (by kernel_rfl) rfl (by kernel_rfl) (fun b1 => ?_)
  refine s_box (cutV d) (by kernel_rfl) rfl (by kernel_rfl) (fun b2 => ?_)
  refine s_val (.slice none 0 0) (by kernel_rfl) (fun _ => by kernel_rfl) ?_
  refine s_nil ?_
  refine fin_seq ?_
  refine ok_seq ?_
  refine ok_seq ?_
  refine ok_region ?_
  refine s_val (.slice A l.length cap) (by kernel_rfl) (fun _ => by kernel_rfl) ?_
  refine s_val (.int .i64 (l.length : Int)) (by kernel_rfl) (fun _ => by kernel_rfl) ?_
  refine s_sum (k := .i64) (((l.length : Int) : Int) - 1) (by kernel_rfl) (fun _ => by kernel_rfl) (IntWalk.i64_in _ (by omega)) ?_
  refine s_val (.int .i64 (((l.length : Int) : Int) - 1)) (by kernel_rfl) (fun _ => by kernel_rfl) ?_
  refine s_nil ?_
  refine fin_seq ?_
  refine ok_seq ?_
  refine ok_draw (by kernel_rfl) (by kernel_rfl) ?_
  refine q_val (.int .i64 (((l.length : Int) : Int) - 1)) (by kernel_rfl) (fun _ => by kernel_rfl) ?_
  by_cases h1 : (0 : Int) ≤ ((l.length : Int) : Int) - 1
  · skip
    obtain ⟨g, cur, rfl, rfl, hcap, hmax, hsz, hcur⟩ := hv.block (by omega)
    obtain ⟨s, hs⟩ : ∃ s, l[l.length - 1]'(by omega) = s := ⟨_, rfl⟩
    have hsk : s.short := hs ▸ hl _ (List.getElem_mem _)
    refine q_dec (p := (0 : Int) ≤ ((l.length : Int) : Int) - 1) true (by kernel_rfl) (fun _ => by kernel_rfl) (decide_eq_true (h1)) ?_
    refine q_val (.bool true) (by kernel_rfl) (fun _ => by kernel_rfl) ?_
    refine q_val (.slice (some ⟨g, 0, none⟩) l.length cap) (by kernel_rfl) (fun _ => by kernel_rfl) ?_
    refine q_val (.int .i64 (((l.length : Int) : Int) - 1)) (by kernel_rfl) (fun _ => by kernel_rfl) ?_
    refine q_val (.pointer (some ⟨g, (l.length - 1) * 14, none⟩)) (by kernel_rfl) (run_ixsl (b := g) (off := 0) (n := l.length) (c := cap) (k := .i64) (j := (l.length : Int) - 1) (e := 50) (sz := 14) rfl (by kernel_rfl) (by kernel_rfl) (by kernel_rfl) (by kernel_rfl) (by omega) (by omega) (by omega)) ?_
    refine q_val (.pointer (some ⟨g, (l.length - 1) * 14 + 7, none⟩)) (by kernel_rfl) (fun _ => by kernel_rfl) ?_
    refine q_load 2 ⟨g, cur, 50⟩ (off := (l.length - 1) * 14 + 7) (cutV s.hi) (by kernel_rfl) rfl (by kernel_rfl) (by kernel_rfl) (read_part spanC_len hcur (l.length - 1) 7 (by omega) (by omega) _ (by rw [hs]; kernel_rfl)) ?_
    refine q_load 1 ⟨b1, (cutV c).cells, 48⟩ (off := 0) (cutV c) (by kernel_rfl) rfl (by kernel_rfl) (by kernel_rfl) (by kernel_rfl) ?_
    refine q_call (k := 56) (args := #[cutV s.hi, cutV c]) (.int .i64 (cmpC s.hi c)) (by kernel_rfl) (fun _ => by kernel_rfl) (fun w _ => rcmpC_any s.hi c w hsk.2 hc) ?_
    by_cases h2 : (cmpC s.hi c : Int) = 0
    · skip
      refine q_dec (p := (cmpC s.hi c : Int) = 0) true (by kernel_rfl) (fun _ => by kernel_rfl) (decide_eq_true (h2)) ?_
      refine q_val (.bool true) (by kernel_rfl) (fun _ => by kernel_rfl) ?_
      refine q_nil ?_
      refine fin_seq ?_
      refine ok_true (by kernel_rfl) ?_
      refine ok_seq ?_
      refine ok_region ?_
      refine s_val (.slice (some ⟨g, 0, none⟩) l.length cap) (by kernel_rfl) (fun _ => by kernel_rfl) ?_
      refine s_val (.int .i64 (((l.length : Int) : Int) - 1)) (by kernel_rfl) (fun _ => by kernel_rfl) ?_
      refine s_load 0 ⟨b2, (cutV d).cells, 48⟩ (off := 0) (cutV d) (by kernel_rfl) rfl (by kernel_rfl) (by kernel_rfl) (by kernel_rfl) ?_
      refine s_val (.pointer (some ⟨g, (l.length - 1) * 14, none⟩)) (by kernel_rfl) (run_ixsl (b := g) (off := 0) (n := l.length) (c := cap) (k := .i64) (j := (l.length : Int) - 1) (e := 50) (sz := 14) rfl (by kernel_rfl) (by kernel_rfl) (by kernel_rfl) (by kernel_rfl) (by omega) (by omega) (by omega)) ?_
      refine s_val (.pointer (some ⟨g, (l.length - 1) * 14 + 7, none⟩)) (by kernel_rfl) (fun _ => by kernel_rfl) ?_
      refine s_storeS 2 ⟨g, cur, 50⟩ (off := (l.length - 1) * 14 + 7) (cutV d) 7 (by kernel_rfl) rfl rfl (by kernel_rfl) (by kernel_rfl) (by kernel_rfl) (by kernel_rfl) (by kernel_rfl) (by show (l.length - 1) * 14 + 7 + 7 ≤ cur.size; omega) (by kernel_rfl) ?_
      refine s_nil ?_
      refine fin_seq ?_
      refine ok_seq ?_
      refine ok_region ?_
      refine s_val (.slice (some ⟨g, 0, none⟩) l.length cap) (by kernel_rfl) (fun _ => by kernel_rfl) ?_
      refine s_val (.slice (some ⟨g, 0, none⟩) l.length cap) (by kernel_rfl) (fun _ => by kernel_rfl) ?_
      refine s_nil ?_
      refine fin_seq ?_
      refine ok_ret ?_
      refine fin_seq_ret ?_
      refine fin_ret (.slice (some ⟨g, 0, none⟩) l.length cap) Tryz.results68 (by kernel_rfl) ?_
      have hse := store_elem spanC_len hcur (l.length - 1) 7 (by omega) (cutV d).cells ⟨s.lo, d⟩ (show 7 + 7 ≤ 14 by decide) (by rw [hs]; rfl)
      refine fun w hO => ⟨_, [⟨g, storeIn cur ((l.length - 1) * 14 + 7) (cutV d).cells, 50⟩], rfl, ?_, Own.take hO (fun x hx => by simp only [List.mem_singleton] at hx; subst hx; simp) (by simp)⟩
      rw [grow_set (by omega) hs (by assumption), List.length_set]
      exact ⟨by rw [flat_len spanC_len, List.length_set], .inr ⟨g, cap, _, rfl, rfl, hcap, hmax, by rw [hse.2]; exact hsz, hse.1⟩⟩
    · skip
      refine q_dec (p := (cmpC s.hi c : Int) = 0) false (by kernel_rfl) (fun _ => by kernel_rfl) (decide_eq_false (h2)) ?_
      refine q_val (.bool false) (by kernel_rfl) (fun _ => by kernel_rfl) ?_
      refine q_nil ?_
      refine fin_seq ?_
      refine ok_false (by kernel_rfl) ?_
      refine ok_skip ?_
      refine fin_seq ?_
      refine ok_seq ?_
      refine ok_region ?_
      refine s_val (.slice (some ⟨g, 0, none⟩) l.length cap) (by kernel_rfl) (fun _ => by kernel_rfl) ?_
      refine s_load 1 ⟨b1, (cutV c).cells, 48⟩ (off := 0) (cutV c) (by kernel_rfl) rfl (by kernel_rfl) (by kernel_rfl) (by kernel_rfl) ?_
      refine s_load 0 ⟨b2, (cutV d).cells, 48⟩ (off := 0) (cutV d) (by kernel_rfl) rfl (by kernel_rfl) (by kernel_rfl) (by kernel_rfl) ?_
      refine s_val (.agg #[.int .i64 c.e, .int .i64 c.v.maj, .int .i64 c.v.min, .int .i64 c.v.pat, .string (mkS c.v.pre), .string (mkS c.v.build), .bool c.aft, .int .i64 d.e, .int .i64 d.v.maj, .int .i64 d.v.min, .int .i64 d.v.pat, .string (mkS d.v.pre), .string (mkS d.v.build), .bool d.aft]) (by kernel_rfl) (fun _ => by kernel_rfl) ?_
      refine s_lit 50 #[.int .i64 c.e, .int .i64 c.v.maj, .int .i64 c.v.min, .int .i64 c.v.pat, .string (mkS c.v.pre), .string (mkS c.v.build), .bool c.aft, .int .i64 d.e, .int .i64 d.v.maj, .int .i64 d.v.min, .int .i64 d.v.pat, .string (mkS d.v.pre), .string (mkS d.v.build), .bool d.aft] (by kernel_rfl) rfl (fun _ => by kernel_rfl) (fun b3 => ?_)
      refine s_cast (L' := [⟨b3, #[.int .i64 c.e, .int .i64 c.v.maj, .int .i64 c.v.min, .int .i64 c.v.pat, .string (mkS c.v.pre), .string (mkS c.v.build), .bool c.aft, .int .i64 d.e, .int .i64 d.v.maj, .int .i64 d.v.min, .int .i64 d.v.pat, .string (mkS d.v.pre), .string (mkS d.v.build), .bool d.aft], 50⟩, ⟨b2, (cutV d).cells, 48⟩, ⟨b1, (cutV c).cells, 48⟩] ++ [⟨g, cur, 50⟩] ++ []) (by simp) ?_
      obtain ⟨i, z, e1, e2, e3, e4, e5⟩ := span_info
      refine s_append (sz := 14) (by kernel_rfl) rfl Tryz.underlying34 e1 e2 e3 e4 (by kernel_rfl) hv (a := ⟨b3, 0, none⟩) (m := 1) (c := 1) (news := spanC ⟨c, d⟩) (by kernel_rfl) rfl (fun w hO j u hj => ?_) (span_cells _) (by unfold maxLen; omega) (by rw [e5]; omega) (fun v' ob' hv' => ?_)
      · rw [add_off, cell_of_row w b3 (0 + j) (spanC ⟨c, d⟩).toArray 50 _ (hO.held ⟨b3, (spanC ⟨c, d⟩).toArray, 50⟩ (List.mem_append_left _ (List.mem_append_left _ (List.mem_cons_self ..))))]; simpa using hj
      refine s_val (v') (by kernel_rfl) (fun _ => by kernel_rfl) ?_
      refine s_nil ?_
      refine fin_seq ?_
      refine ok_ret ?_
      refine fin_ret (v') Tryz.results68 (by kernel_rfl) ?_
      refine fun w hO => ⟨v', ob', rfl, by rw [grow_app (fun t ht => by rw [last_at (by omega) hs ht]; assumption)]; simpa using hv', Own.take hO (fun x hx => List.mem_append_left _ (List.mem_append_right _ hx)) ?_⟩
      have := hO.apart; rw [List.append_nil, List.map_append, List.nodup_append] at this; exact this.2.1
  · skip
    refine q_dec (p := (0 : Int) ≤ ((l.length : Int) : Int) - 1) false (by kernel_rfl) (fun _ => by kernel_rfl) (decide_eq_false (h1)) ?_
    refine q_val (.bool false) (by kernel_rfl) (fun _ => by kernel_rfl) ?_
    refine q_skip (by kernel_rfl) ?_
    refine q_skip (by kernel_rfl) ?_
    refine q_skip (by kernel_rfl) ?_
    refine q_skip (by kernel_rfl) ?_
    refine q_skip (by kernel_rfl) ?_
    refine q_skip (by kernel_rfl) ?_
    refine q_skip (by kernel_rfl) ?_
    refine q_skip (by kernel_rfl) ?_
    refine q_val (.bool false) (by kernel_rfl) (fun _ => by kernel_rfl) ?_
    refine q_nil ?_
    refine fin_seq ?_
    refine ok_false (by kernel_rfl) ?_
    refine ok_skip ?_
    refine fin_seq ?_
    refine ok_seq ?_
    refine ok_region ?_
    refine s_val (.slice A l.length cap) (by kernel_rfl) (fun _ => by kernel_rfl) ?_
    refine s_load 1 ⟨b1, (cutV c).cells, 48⟩ (off := 0) (cutV c) (by kernel_rfl) rfl (by kernel_rfl) (by kernel_rfl) (by kernel_rfl) ?_
    refine s_load 0 ⟨b2, (cutV d).cells, 48⟩ (off := 0) (cutV d) (by kernel_rfl) rfl (by kernel_rfl) (by kernel_rfl) (by kernel_rfl) ?_
    refine s_val (.agg #[.int .i64 c.e, .int .i64 c.v.maj, .int .i64 c.v.min, .int .i64 c.v.pat, .string (mkS c.v.pre), .string (mkS c.v.build), .bool c.aft, .int .i64 d.e, .int .i64 d.v.maj, .int .i64 d.v.min, .int .i64 d.v.pat, .string (mkS d.v.pre), .string (mkS d.v.build), .bool d.aft]) (by kernel_rfl) (fun _ => by kernel_rfl) ?_
    refine s_lit 50 #[.int .i64 c.e, .int .i64 c.v.maj, .int .i64 c.v.min, .int .i64 c.v.pat, .string (mkS c.v.pre), .string (mkS c.v.build), .bool c.aft, .int .i64 d.e, .int .i64 d.v.maj, .int .i64 d.v.min, .int .i64 d.v.pat, .string (mkS d.v.pre), .string (mkS d.v.build), .bool d.aft] (by kernel_rfl) rfl (fun _ => by kernel_rfl) (fun b3 => ?_)
    refine s_cast (L' := [⟨b3, #[.int .i64 c.e, .int .i64 c.v.maj, .int .i64 c.v.min, .int .i64 c.v.pat, .string (mkS c.v.pre), .string (mkS c.v.build), .bool c.aft, .int .i64 d.e, .int .i64 d.v.maj, .int .i64 d.v.min, .int .i64 d.v.pat, .string (mkS d.v.pre), .string (mkS d.v.build), .bool d.aft], 50⟩, ⟨b2, (cutV d).cells, 48⟩, ⟨b1, (cutV c).cells, 48⟩] ++ ob ++ []) (by simp) ?_
    obtain ⟨i, z, e1, e2, e3, e4, e5⟩ := span_info
    refine s_append (sz := 14) (by kernel_rfl) rfl Tryz.underlying34 e1 e2 e3 e4 (by kernel_rfl) hv (a := ⟨b3, 0, none⟩) (m := 1) (c := 1) (news := spanC ⟨c, d⟩) (by kernel_rfl) rfl (fun w hO j u hj => ?_) (span_cells _) (by unfold maxLen; omega) (by rw [e5]; omega) (fun v' ob' hv' => ?_)
    · rw [add_off, cell_of_row w b3 (0 + j) (spanC ⟨c, d⟩).toArray 50 _ (hO.held ⟨b3, (spanC ⟨c, d⟩).toArray, 50⟩ (List.mem_append_left _ (List.mem_append_left _ (List.mem_cons_self ..))))]; simpa using hj
    refine s_val (v') (by kernel_rfl) (fun _ => by kernel_rfl) ?_
    refine s_nil ?_
    refine fin_seq ?_
    refine ok_ret ?_
    refine fin_ret (v') Tryz.results68 (by kernel_rfl) ?_
    refine fun w hO => ⟨v', ob', rfl, by rw [grow_app (fun t ht => by have : l = [] := List.eq_nil_of_length_eq_zero (by omega); subst this; simp at ht)]; simpa using hv', Own.take hO (fun x hx => List.mem_append_left _ (List.mem_append_right _ hx)) ?_⟩
    have := hO.apart; rw [List.append_nil, List.map_append, List.nodup_append] at this; exact this.2.1
end Go.Proofs.YtjabcbagggicaaaGreatDoor
end

section
/-
  linchpinref4.put: a cut into its place among rising ones; what it hands back is the slice that came in, or a new one; of all other memory nothing is changed.
-/
namespace Go.Proofs.YtjabcbagggicaaaGreatDoor
open Go.RowKit
set_option maxRecDepth 100000
set_option linter.unusedVariables false
set_option linter.unusedSimpArgs false
set_option maxHeartbeats 2000000

theorem putL_at {c : Cu} : ∀ {l : List Cu} (k : Nat) (hk : k < l.length), (∀ x ∈ l.take k, cmpC x c < 0) → cmpC l[k] c = 0 → putL c l = l
  | [], k, hk, _, _ => by simp at hk
  | d :: r, 0, hk, _, h => by
    have h' : cmpC d c = 0 := h
    unfold putL
    rw [if_neg (by omega), if_pos h']
  | d :: r, k + 1, hk, ht, h => by
    have hd : cmpC d c < 0 := ht d (by simp)
    unfold putL
    rw [if_pos hd, putL_at (l := r) k (by simpa using hk) (fun x hx => ht x (by simp [hx])) h]
theorem putL_ins {c : Cu} : ∀ {l : List Cu} (k : Nat) (hk : k ≤ l.length), (∀ x ∈ l.take k, cmpC x c < 0) → (∀ h : k < l.length, ¬ cmpC l[k] c < 0 ∧ ¬ cmpC l[k] c = 0) → putL c l = l.take k ++ c :: l.drop k
  | [], k, hk, _, _ => by obtain rfl : k = 0 := by simpa using hk
                          rfl
  | d :: r, 0, hk, _, h => by
    have h' : ¬ cmpC d c < 0 ∧ ¬ cmpC d c = 0 := h (by simp)
    unfold putL
    rw [if_neg h'.1, if_neg h'.2]; rfl
  | d :: r, k + 1, hk, ht, h => by
    have hd : cmpC d c < 0 := ht d (by simp)
    unfold putL
    rw [if_pos hd, putL_ins (l := r) k (by simpa using hk) (fun x hx => ht x (by simp [hx])) (fun h0 => h (by simpa using h0))]; rfl
def cutC (s : Cu) : List Value := (cutV s).cells.toList
theorem cutC_len (s : Cu) : (cutC s).length = 7 := rfl
def ShortC (l : List Cu) : Prop := ∀ s ∈ l, s.short
/-- The value v is a slice of the cuts l that lies in ob. -/
def SlC (v : Value) (l : List Cu) (ob : List Blk) : Prop := Sl 48 7 v l.length (l.flatMap cutC) ob
theorem cutInfo : (Tryz.prog.info? 48).map (fun i => (i.zero.map (·.cells.size), i.size, i.bytes)) = some (some 7, 7, 72) := by kernel_rfl
theorem cut_info : ∃ i z, Tryz.prog.info? 48 = some i ∧ i.zero = some z ∧ i.size = 7 ∧ z.cells.size = 7 ∧ i.bytes = 72 := by
  have h := cutInfo
  cases hi : Tryz.prog.info? 48 with
  | none => rw [hi] at h; cases h
  | some i =>
    rw [hi] at h
    simp only [Option.map_some, Option.some.injEq, Prod.mk.injEq] at h
    cases hz : i.zero with
    | none => rw [hz] at h; simp at h
    | some z => rw [hz] at h; simp at h; exact ⟨i, z, rfl, hz, h.2.1, h.1, h.2.2⟩
theorem cut_cells (s : Cu) : ∀ u ∈ cutC s, u.oneCell' = true := by
  intro u hu
  unfold cutC cutV at hu
  simp only [Value.cells, List.mem_cons, List.not_mem_nil, or_false] at hu
  rcases hu with rfl | rfl | rfl | rfl | rfl | rfl | rfl <;> rfl
theorem cuts_cells (l : List Cu) : ∀ u ∈ l.flatMap cutC, u.oneCell' = true := fun u hu => by
  obtain ⟨x, _, hx⟩ := List.mem_flatMap.1 hu
  exact cut_cells x u hx
theorem flat_drop {α : Type} {g : α → List Value} {sz : Nat} (hg : ∀ x, (g x).length = sz) (l : List α) (k : Nat) (hk : k ≤ l.length) : (l.drop k).flatMap g = (l.flatMap g).drop (k * sz) := by
  have e : l.flatMap g = (l.take k).flatMap g ++ (l.drop k).flatMap g := by rw [← List.flatMap_append, List.take_append_drop]
  have e2 : ((l.take k).flatMap g).length = k * sz := by rw [flat_len hg, List.length_take, Nat.min_eq_left hk]
  rw [e, ← e2, List.drop_left]
theorem flat_take {α : Type} {g : α → List Value} {sz : Nat} (hg : ∀ x, (g x).length = sz) (l : List α) (k : Nat) (hk : k ≤ l.length) : (l.take k).flatMap g = (l.flatMap g).take (k * sz) := by
  have e : l.flatMap g = (l.take k).flatMap g ++ (l.drop k).flatMap g := by rw [← List.flatMap_append, List.take_append_drop]
  have e2 : ((l.take k).flatMap g).length = k * sz := by rw [flat_len hg, List.length_take, Nat.min_eq_left hk]
  rw [e, ← e2, List.take_left]
theorem head_cells {α : Type} {g : α → List Value} {sz : Nat} (hg : ∀ x, (g x).length = sz) {cur : Array Value} {l : List α} (ht : cur.toList.take (l.length * sz) = l.flatMap g) (k : Nat) (hk : k ≤ l.length) {j : Nat} {u : Value} (hj : ((l.take k).flatMap g)[j]? = some u) : cur[0 + j]? = some u := by
  rw [flat_take hg l k hk, ← ht, List.take_take, Nat.min_eq_left (Nat.mul_le_mul_right _ hk), List.getElem?_take] at hj
  split at hj
  · rw [Nat.zero_add]; simpa using hj
  · cases hj
theorem tail_cells {α : Type} {g : α → List Value} {sz : Nat} (hg : ∀ x, (g x).length = sz) {cur : Array Value} {l : List α} (ht : cur.toList.take (l.length * sz) = l.flatMap g) (k cap : Nat) (hk : k ≤ l.length) (hc : l.length ≤ cap) {j : Nat} {u : Value} (hj : ((l.drop k).flatMap g)[j]? = some u) : cur[(0 + if cap = k then 0 else k * sz) + j]? = some u := by
  by_cases h : cap = k
  · have : l.drop k = [] := List.drop_of_length_le (by omega)
    rw [this] at hj; simp at hj
  · rw [if_neg h, Nat.zero_add]
    rw [flat_drop hg l k hk, ← ht, List.getElem?_drop, List.getElem?_take] at hj
    split at hj
    · simpa using hj
    · cases hj
theorem Sl.to {T : TypeId} {sz : Nat} {v : Value} {n n' : Nat} {xs xs' : List Value} {ob : List Blk} (h : Sl T sz v n xs ob) (e : n = n') (e' : xs = xs') : Sl T sz v n' xs' ob := by subst e; subst e'; exact h

theorem put_any (A : Option Addr) (cap : Nat) (l : List Cu) (ob : List Blk) (c : Cu) (W : World) (hv : SlC (.slice A l.length cap) l ob) (hO : Own (ob.map Blk.b) W W ob) (h0 : 0 < l.length) (hn : l.length ≤ 3000000) (hl : ShortC l) (hc : c.short) :
    Calls Tryz.prog 109 #[.slice A l.length cap, cutV c] W fun e w' => ∃ v' ob', e = .returned v' ∧ SlC v' (putL c l) ob' ∧ Own (ob.map Blk.b) W w' ob' := by
  unfold SlC at hv ⊢
  obtain ⟨g, cur, rfl, rfl, hcap, hmax, hsz, hcur⟩ := hv.block h0
  refine calls_okL (n := 46) hO Tryz.func109 rfl (by kernel_rfl) (by kernel_rfl) ?_
  refine ok_seq ?_
  refine ok_region ?_
  refine s_box (cutV c) (by kernel_rfl) rfl (by kernel_rfl) (fun b1 => ?_)
  refine s_val (.slice none 0 0) (by kernel_rfl) (fun _ => by kernel_rfl) ?_
  refine s_nil ?_
  refine fin_seq ?_
  refine ok_seq ?_
  refine ok_region ?_
  refine s_val (.int .i64 0) (by kernel_rfl) (fun _ => by kernel_rfl) ?_
  refine s_nil ?_
  refine fin_seq ?_
  refine ok_seq ?_
  refine ok_block ?_
  refine ok_loop (fun L f m => ∃ (k : Nat) (j : Nat → Value), (k ≤ l.length ∧ ∀ x ∈ l.take k, cmpC x c < 0) ∧ L = [⟨b1, (cutV c).cells, 48⟩, ⟨g, cur, 48⟩] ∧ f = upds j [(0, .slice (some ⟨g, 0, none⟩) l.length cap), (3, .pointer (some ⟨b1, 0, none⟩)), (5, .int .i64 (k : Int))] ∧ m = l.length - k) (l.length - 0) ⟨0, _, ⟨Nat.zero_le _, by simp⟩, rfl, upds_self _ ⟨by kernel_rfl, by kernel_rfl, by kernel_rfl, trivial⟩, rfl⟩ ?_
  rintro L f m ⟨k, j, hrel, rfl, rfl, rfl⟩
  have hkl := hrel.1
  refine ok_seq ?_
  refine ok_seq ?_
  refine ok_draw (by kernel_rfl) (by kernel_rfl) ?_
  refine q_val (.int .i64 (k : Int)) (by kernel_rfl) (fun _ => by kernel_rfl) ?_
  refine q_val (.slice (some ⟨g, 0, none⟩) l.length cap) (by kernel_rfl) (fun _ => by kernel_rfl) ?_
  refine q_val (.int .i64 (l.length : Int)) (by kernel_rfl) (fun _ => by kernel_rfl) ?_
  by_cases h1 : (k : Int) < (l.length : Int)
  · skip
    have hk : k < l.length := by omega
    obtain ⟨s, hs⟩ : ∃ s, l[k] = s := ⟨_, rfl⟩
    have hsk : s.short := hs ▸ hl _ (List.getElem_mem _)
    refine q_dec (p := (k : Int) < (l.length : Int)) true (by kernel_rfl) (fun _ => by kernel_rfl) (decide_eq_true (h1)) ?_
    refine q_val (.bool true) (by kernel_rfl) (fun _ => by kernel_rfl) ?_
    refine q_val (.slice (some ⟨g, 0, none⟩) l.length cap) (by kernel_rfl) (fun _ => by kernel_rfl) ?_
    refine q_val (.int .i64 (k : Int)) (by kernel_rfl) (fun _ => by kernel_rfl) ?_
    refine q_val (.pointer (some ⟨g, k * 7, none⟩)) (by kernel_rfl) (run_ixsl (b := g) (off := 0) (n := l.length) (c := cap) (k := .i64) (j := (k : Int)) (e := 48) (sz := 7) rfl (by kernel_rfl) (by kernel_rfl) (by kernel_rfl) (by kernel_rfl) (by omega) (by omega) (by show 0 + k * 7 = k * 7; omega)) ?_
    refine q_load 1 ⟨g, cur, 48⟩ (off := k * 7) (cutV s) (by kernel_rfl) rfl (by kernel_rfl) (by kernel_rfl) (read_part cutC_len hcur k 0 (by omega) (by omega) _ (by rw [hs]; kernel_rfl)) ?_
    refine q_load 0 ⟨b1, (cutV c).cells, 48⟩ (off := 0) (cutV c) (by kernel_rfl) rfl (by kernel_rfl) (by kernel_rfl) (by kernel_rfl) ?_
    refine q_call (k := 56) (args := #[cutV s, cutV c]) (.int .i64 (cmpC s c)) (by kernel_rfl) (fun _ => by kernel_rfl) (fun w _ => rcmpC_any s c w hsk hc) ?_
    by_cases h2 : (cmpC s c : Int) < 0
    · skip
      refine q_dec (p := (cmpC s c : Int) < 0) true (by kernel_rfl) (fun _ => by kernel_rfl) (decide_eq_true (h2)) ?_
      refine q_val (.bool true) (by kernel_rfl) (fun _ => by kernel_rfl) ?_
      refine q_nil ?_
      refine fin_seq ?_
      refine ok_true (by kernel_rfl) ?_
      refine ok_skip ?_
      refine fin_seq ?_
      refine ok_block ?_
      refine ok_region ?_
      refine s_val (.int .i64 (k : Int)) (by kernel_rfl) (fun _ => by kernel_rfl) ?_
      refine s_sum (k := .i64) (((k + 1 : Nat) : Int)) (by kernel_rfl) (fun _ => by kernel_rfl) (IntWalk.i64_in _ (by omega)) ?_
      refine s_val (.int .i64 ((k + 1 : Nat) : Int)) (by kernel_rfl) (fun _ => by kernel_rfl) ?_
      refine s_nil ?_
      refine fin_block ?_
      have hnext : ∀ x ∈ l.take (k + 1), cmpC x c < 0 := by rw [List.take_succ_eq_append_getElem hk, hs]; intro x hx; rcases List.mem_append.1 hx with h | h; exact hrel.2 x h; obtain rfl : x = s := by simpa using h
                                                            assumption
      exact fin_round (m' := l.length - (k + 1)) (by omega) ⟨k + 1, _, ⟨by omega, hnext⟩, rfl, upds_self _ ⟨by kernel_rfl, by kernel_rfl, by kernel_rfl, trivial⟩, rfl⟩
    · skip
      refine q_dec (p := (cmpC s c : Int) < 0) false (by kernel_rfl) (fun _ => by kernel_rfl) (decide_eq_false (h2)) ?_
      refine q_val (.bool false) (by kernel_rfl) (fun _ => by kernel_rfl) ?_
      refine q_nil ?_
      refine fin_seq ?_
      refine ok_false (by kernel_rfl) ?_
      refine ok_exit ?_
      refine fin_seq_exit ?_
      refine fin_round_exit ?_
      refine fin_block_exit ?_
      refine fin_seq ?_
      refine ok_seq ?_
      refine ok_seq ?_
      refine ok_draw (by kernel_rfl) (by kernel_rfl) ?_
      refine q_val (.int .i64 (k : Int)) (by kernel_rfl) (fun _ => by kernel_rfl) ?_
      refine q_val (.slice (some ⟨g, 0, none⟩) l.length cap) (by kernel_rfl) (fun _ => by kernel_rfl) ?_
      refine q_val (.int .i64 (l.length : Int)) (by kernel_rfl) (fun _ => by kernel_rfl) ?_
      refine q_dec (p := (k : Int) < (l.length : Int)) true (by kernel_rfl) (fun _ => by kernel_rfl) (decide_eq_true (h1)) ?_
      refine q_val (.bool true) (by kernel_rfl) (fun _ => by kernel_rfl) ?_
      refine q_val (.slice (some ⟨g, 0, none⟩) l.length cap) (by kernel_rfl) (fun _ => by kernel_rfl) ?_
      refine q_val (.int .i64 (k : Int)) (by kernel_rfl) (fun _ => by kernel_rfl) ?_
      refine q_val (.pointer (some ⟨g, k * 7, none⟩)) (by kernel_rfl) (run_ixsl (b := g) (off := 0) (n := l.length) (c := cap) (k := .i64) (j := (k : Int)) (e := 48) (sz := 7) rfl (by kernel_rfl) (by kernel_rfl) (by kernel_rfl) (by kernel_rfl) (by omega) (by omega) (by show 0 + k * 7 = k * 7; omega)) ?_
      refine q_load 1 ⟨g, cur, 48⟩ (off := k * 7) (cutV s) (by kernel_rfl) rfl (by kernel_rfl) (by kernel_rfl) (read_part cutC_len hcur k 0 (by omega) (by omega) _ (by rw [hs]; kernel_rfl)) ?_
      refine q_load 0 ⟨b1, (cutV c).cells, 48⟩ (off := 0) (cutV c) (by kernel_rfl) rfl (by kernel_rfl) (by kernel_rfl) (by kernel_rfl) ?_
      refine q_call (k := 56) (args := #[cutV s, cutV c]) (.int .i64 (cmpC s c)) (by kernel_rfl) (fun _ => by kernel_rfl) (fun w _ => rcmpC_any s c w hsk hc) ?_
      by_cases h3 : (cmpC s c : Int) = 0
      · skip
        refine q_dec (p := (cmpC s c : Int) = 0) true (by kernel_rfl) (fun _ => by kernel_rfl) (decide_eq_true (h3)) ?_
        refine q_val (.bool true) (by kernel_rfl) (fun _ => by kernel_rfl) ?_
        refine q_nil ?_
        refine fin_seq ?_
        refine ok_true (by kernel_rfl) ?_
        refine ok_seq ?_
        refine ok_region ?_
        refine s_val (.slice (some ⟨g, 0, none⟩) l.length cap) (by kernel_rfl) (fun _ => by kernel_rfl) ?_
        refine s_val (.slice (some ⟨g, 0, none⟩) l.length cap) (by kernel_rfl) (fun _ => by kernel_rfl) ?_
        refine s_nil ?_
        refine fin_seq ?_
        refine ok_ret ?_
        refine fin_seq_ret ?_
        refine fin_ret (.slice (some ⟨g, 0, none⟩) l.length cap) Tryz.results109 (by kernel_rfl) ?_
        refine fun w hO => ⟨_, [⟨g, cur, 48⟩], rfl, ?_, Own.take hO (fun x hx => by simp only [List.mem_singleton] at hx; subst hx; simp) (by simp)⟩
        rw [putL_at k hk hrel.2 (by rw [hs]; assumption)]; exact hv
      · skip
        refine q_dec (p := (cmpC s c : Int) = 0) false (by kernel_rfl) (fun _ => by kernel_rfl) (decide_eq_false (h3)) ?_
        refine q_val (.bool false) (by kernel_rfl) (fun _ => by kernel_rfl) ?_
        refine q_nil ?_
        refine fin_seq ?_
        refine ok_false (by kernel_rfl) ?_
        refine ok_skip ?_
        refine fin_seq ?_
        refine ok_seq ?_
        obtain ⟨i, z, e1, e2, e3, e4, e5⟩ := cut_info
        refine ok_anyhL [⟨b1, (cutV c).cells, 48⟩, ⟨g, cur, 48⟩] (by kernel_rfl) (fun w hO => hO) ?_
        refine hl_take 0 _ (.slice (some ⟨g, 0, none⟩) l.length cap) rfl (by kernel_rfl) (by kernel_rfl) (by kernel_rfl) (pq_seq pq_body) (fun w hO => hO) (by kernel_rfl) (fun _ _ => by kernel_rfl) ?_
        refine hl_take 1 _ (.int .i64 (k : Int)) rfl (by kernel_rfl) (by kernel_rfl) (by kernel_rfl) (pq_seq pq_body) (fun w hO => hO) (by kernel_rfl) (fun _ _ => by kernel_rfl) ?_
        refine hl_take 2 _ (.slice (some ⟨g, 0, none⟩) k cap) rfl (by kernel_rfl) (by kernel_rfl) (by kernel_rfl) (pq_seq pq_body) (fun w hO => hO) (by kernel_rfl) (fun w _ => run_slhi (b := g) (off := 0) (n := l.length) (c := cap) (k := .i64) (j := (k : Int)) (e := 48) (sz := 7) rfl (by kernel_rfl) (by kernel_rfl) (by kernel_rfl) (by kernel_rfl) (by omega) (by omega) w) ?_
        refine hl_load 4 _ 0 ⟨b1, (cutV c).cells, 48⟩ (off := 0) (cutV c) rfl (by kernel_rfl) (by kernel_rfl) (by kernel_rfl) (pq_seq pq_body) (fun w hO => hO) (by kernel_rfl) rfl rfl (by kernel_rfl) (by kernel_rfl) ?_
        refine hl_take 7 _ (.slice (some ⟨g, 0, none⟩) l.length cap) rfl (by kernel_rfl) (by kernel_rfl) (by kernel_rfl) (pq_seq pq_body) (fun w hO => hO) (by kernel_rfl) (fun _ _ => by kernel_rfl) ?_
        refine hl_take 8 _ (.int .i64 (k : Int)) rfl (by kernel_rfl) (by kernel_rfl) (by kernel_rfl) (pq_seq pq_body) (fun w hO => hO) (by kernel_rfl) (fun _ _ => by kernel_rfl) ?_
        refine hl_take 9 _ (.slice (some ⟨g, 0 + (if cap = k then 0 else k * 7), none⟩) (l.length - k) (cap - k)) rfl (by kernel_rfl) (by kernel_rfl) (by kernel_rfl) (pq_seq pq_body) (fun w hO => hO) (by kernel_rfl) (fun w _ => run_sllo (b := g) (off := 0) (n := l.length) (c := cap) (k := .i64) (j := (k : Int)) (e := 48) (sz := 7) rfl (by kernel_rfl) (by kernel_rfl) (by kernel_rfl) (by kernel_rfl) (by omega) (by omega) w) ?_
        refine h_cast (L' := [] ++ [] ++ [⟨b1, (cutV c).cells, 48⟩, ⟨g, cur, 48⟩]) rfl ?_
        refine h_two 3 5 (by kernel_rfl) ?_ ?_
        · skip
          refine hl_append (E := []) (ob := []) (R := [⟨b1, (cutV c).cells, 48⟩, ⟨g, cur, 48⟩]) (sz := 7) _ rfl (by kernel_rfl) rfl Tryz.underlying86 e1 e2 e3 e4 (by kernel_rfl) (Sl.nil 48 7) (a := ⟨g, 0, none⟩) (m := k) (c := cap) (news := (l.take k).flatMap cutC) (by kernel_rfl) (by rw [flat_len cutC_len, List.length_take, Nat.min_eq_left (by omega)]) (fun w hO j u hj => ?_) (cuts_cells _) (by unfold maxLen; omega) (by rw [e5]; omega) (fun ob' w hO => Own.sub ([] ++ ob') hO) (fun va oa hva => ?_)
          · rw [add_off, cell_of_row w g (0 + j) cur 48 _ (hO.held ⟨g, cur, 48⟩ (by simp))]; exact head_cells cutC_len hcur k (by omega) hj
          refine h_one 5 (by kernel_rfl) ?_
          refine hl_lit _ 48 #[.int .i64 c.e, .int .i64 c.v.maj, .int .i64 c.v.min, .int .i64 c.v.pat, .string (mkS c.v.pre), .string (mkS c.v.build), .bool c.aft] rfl (by kernel_rfl) rfl (fun w hO => Own.sub ([] ++ oa) hO) (fun _ => by kernel_rfl) (fun b2 => ?_)
          refine h_cast (L' := [⟨b2, #[.int .i64 c.e, .int .i64 c.v.maj, .int .i64 c.v.min, .int .i64 c.v.pat, .string (mkS c.v.pre), .string (mkS c.v.build), .bool c.aft], 48⟩] ++ oa ++ [⟨b1, (cutV c).cells, 48⟩, ⟨g, cur, 48⟩]) (by simp) ?_
          refine h_one 6 (by kernel_rfl) ?_
          refine hl_append (E := [⟨b2, #[.int .i64 c.e, .int .i64 c.v.maj, .int .i64 c.v.min, .int .i64 c.v.pat, .string (mkS c.v.pre), .string (mkS c.v.build), .bool c.aft], 48⟩]) (ob := oa) (R := [⟨b1, (cutV c).cells, 48⟩, ⟨g, cur, 48⟩]) (sz := 7) _ rfl (by kernel_rfl) rfl Tryz.underlying86 e1 e2 e3 e4 (by kernel_rfl) hva (a := ⟨b2, 0, none⟩) (m := 1) (c := 1) (news := cutC c) (by kernel_rfl) (rfl) (fun w hO j u hj => ?_) (cut_cells _) (by unfold maxLen; omega) (by rw [e5]; omega) (fun ob' w hO => Own.sub ([⟨b2, #[.int .i64 c.e, .int .i64 c.v.maj, .int .i64 c.v.min, .int .i64 c.v.pat, .string (mkS c.v.pre), .string (mkS c.v.build), .bool c.aft], 48⟩] ++ ob') hO) (fun vb oq hvb => ?_)
          · rw [add_off, cell_of_row w b2 (0 + j) (cutC c).toArray 48 _ (hO.held ⟨b2, (cutC c).toArray, 48⟩ (List.mem_append_left _ (List.mem_append_left _ (List.mem_cons_self ..))))]; simpa using hj
          refine h_one 10 (by kernel_rfl) ?_
          refine hl_append (E := [⟨b2, #[.int .i64 c.e, .int .i64 c.v.maj, .int .i64 c.v.min, .int .i64 c.v.pat, .string (mkS c.v.pre), .string (mkS c.v.build), .bool c.aft], 48⟩]) (ob := oq) (R := [⟨b1, (cutV c).cells, 48⟩, ⟨g, cur, 48⟩]) (sz := 7) _ rfl (by kernel_rfl) rfl Tryz.underlying86 e1 e2 e3 e4 (by kernel_rfl) hvb (a := ⟨g, 0 + (if cap = k then 0 else k * 7), none⟩) (m := l.length - k) (c := cap - k) (news := (l.drop k).flatMap cutC) (by kernel_rfl) (by rw [flat_len cutC_len, List.length_drop]) (fun w hO j u hj => ?_) (cuts_cells _) (by unfold maxLen; omega) (by rw [e5]; omega) (fun ob' w hO => Own.sub ([⟨b2, #[.int .i64 c.e, .int .i64 c.v.maj, .int .i64 c.v.min, .int .i64 c.v.pat, .string (mkS c.v.pre), .string (mkS c.v.build), .bool c.aft], 48⟩] ++ ob') hO) (fun vc oc hvc => ?_)
          · rw [add_off, cell_of_row w g _ cur 48 _ (hO.held ⟨g, cur, 48⟩ (by simp))]; exact tail_cells cutC_len hcur k cap (by omega) hcap hj
          refine hl_take 11 _ vc rfl (by kernel_rfl) (by kernel_rfl) (by kernel_rfl) (pq_seq pq_body) (fun w hO => Own.sub ([⟨b2, #[.int .i64 c.e, .int .i64 c.v.maj, .int .i64 c.v.min, .int .i64 c.v.pat, .string (mkS c.v.pre), .string (mkS c.v.build), .bool c.aft], 48⟩] ++ oc) hO) (by kernel_rfl) (fun _ _ => by kernel_rfl) ?_
          refine h_done (by kernel_rfl) ?_
          refine fin_seq ?_
          refine ok_ret ?_
          refine fin_ret (vc) Tryz.results109 (by kernel_rfl) ?_
          refine fun w hO => ⟨vc, oc, rfl, ?_, Own.take hO (fun x hx => List.mem_append_left _ (List.mem_append_right _ hx)) ?_⟩
          · rw [putL_ins k (by omega) hrel.2 (fun h => by first | omega | (rw [hs]; exact ⟨by assumption, by assumption⟩))]
            exact hvc.to (by simp; omega) (by simp)
          · have := hO.apart; rw [List.map_append, List.map_append, List.nodup_append] at this; exact (List.nodup_append.1 this.1).2.1
        · skip
          refine hl_lit _ 48 #[.int .i64 c.e, .int .i64 c.v.maj, .int .i64 c.v.min, .int .i64 c.v.pat, .string (mkS c.v.pre), .string (mkS c.v.build), .bool c.aft] rfl (by kernel_rfl) rfl (fun w hO => hO) (fun _ => by kernel_rfl) (fun b2 => ?_)
          refine h_cast (L' := [⟨b2, #[.int .i64 c.e, .int .i64 c.v.maj, .int .i64 c.v.min, .int .i64 c.v.pat, .string (mkS c.v.pre), .string (mkS c.v.build), .bool c.aft], 48⟩] ++ [] ++ [⟨b1, (cutV c).cells, 48⟩, ⟨g, cur, 48⟩]) rfl ?_
          refine h_one 3 (by kernel_rfl) ?_
          refine hl_append (E := [⟨b2, #[.int .i64 c.e, .int .i64 c.v.maj, .int .i64 c.v.min, .int .i64 c.v.pat, .string (mkS c.v.pre), .string (mkS c.v.build), .bool c.aft], 48⟩]) (ob := []) (R := [⟨b1, (cutV c).cells, 48⟩, ⟨g, cur, 48⟩]) (sz := 7) _ rfl (by kernel_rfl) rfl Tryz.underlying86 e1 e2 e3 e4 (by kernel_rfl) (Sl.nil 48 7) (a := ⟨g, 0, none⟩) (m := k) (c := cap) (news := (l.take k).flatMap cutC) (by kernel_rfl) (by rw [flat_len cutC_len, List.length_take, Nat.min_eq_left (by omega)]) (fun w hO j u hj => ?_) (cuts_cells _) (by unfold maxLen; omega) (by rw [e5]; omega) (fun ob' w hO => Own.sub ([⟨b2, #[.int .i64 c.e, .int .i64 c.v.maj, .int .i64 c.v.min, .int .i64 c.v.pat, .string (mkS c.v.pre), .string (mkS c.v.build), .bool c.aft], 48⟩] ++ ob') hO) (fun va oa hva => ?_)
          · rw [add_off, cell_of_row w g (0 + j) cur 48 _ (hO.held ⟨g, cur, 48⟩ (by simp))]; exact head_cells cutC_len hcur k (by omega) hj
          refine h_one 6 (by kernel_rfl) ?_
          refine hl_append (E := [⟨b2, #[.int .i64 c.e, .int .i64 c.v.maj, .int .i64 c.v.min, .int .i64 c.v.pat, .string (mkS c.v.pre), .string (mkS c.v.build), .bool c.aft], 48⟩]) (ob := oa) (R := [⟨b1, (cutV c).cells, 48⟩, ⟨g, cur, 48⟩]) (sz := 7) _ rfl (by kernel_rfl) rfl Tryz.underlying86 e1 e2 e3 e4 (by kernel_rfl) hva (a := ⟨b2, 0, none⟩) (m := 1) (c := 1) (news := cutC c) (by kernel_rfl) (rfl) (fun w hO j u hj => ?_) (cut_cells _) (by unfold maxLen; omega) (by rw [e5]; omega) (fun ob' w hO => Own.sub ([⟨b2, #[.int .i64 c.e, .int .i64 c.v.maj, .int .i64 c.v.min, .int .i64 c.v.pat, .string (mkS c.v.pre), .string (mkS c.v.build), .bool c.aft], 48⟩] ++ ob') hO) (fun vb oq hvb => ?_)
          · rw [add_off, cell_of_row w b2 (0 + j) (cutC c).toArray 48 _ (hO.held ⟨b2, (cutC c).toArray, 48⟩ (List.mem_append_left _ (List.mem_append_left _ (List.mem_cons_self ..))))]; simpa using hj
          refine h_one 10 (by kernel_rfl) ?_
          refine hl_append (E := [⟨b2, #[.int .i64 c.e, .int .i64 c.v.maj, .int .i64 c.v.min, .int .i64 c.v.pat, .string (mkS c.v.pre), .string (mkS c.v.build), .bool c.aft], 48⟩]) (ob := oq) (R := [⟨b1, (cutV c).cells, 48⟩, ⟨g, cur, 48⟩]) (sz := 7) _ rfl (by kernel_rfl) rfl Tryz.underlying86 e1 e2 e3 e4 (by kernel_rfl) hvb (a := ⟨g, 0 + (if cap = k then 0 else k * 7), none⟩) (m := l.length - k) (c := cap - k) (news := (l.drop k).flatMap cutC) (by kernel_rfl) (by rw [flat_len cutC_len, List.length_drop]) (fun w hO j u hj => ?_) (cuts_cells _) (by unfold maxLen; omega) (by rw [e5]; omega) (fun ob' w hO => Own.sub ([⟨b2, #[.int .i64 c.e, .int .i64 c.v.maj, .int .i64 c.v.min, .int .i64 c.v.pat, .string (mkS c.v.pre), .string (mkS c.v.build), .bool c.aft], 48⟩] ++ ob') hO) (fun vc oc hvc => ?_)
          · rw [add_off, cell_of_row w g _ cur 48 _ (hO.held ⟨g, cur, 48⟩ (by simp))]; exact tail_cells cutC_len hcur k cap (by omega) hcap hj
          refine hl_take 11 _ vc rfl (by kernel_rfl) (by kernel_rfl) (by kernel_rfl) (pq_seq pq_body) (fun w hO => Own.sub ([⟨b2, #[.int .i64 c.e, .int .i64 c.v.maj, .int .i64 c.v.min, .int .i64 c.v.pat, .string (mkS c.v.pre), .string (mkS c.v.build), .bool c.aft], 48⟩] ++ oc) hO) (by kernel_rfl) (fun _ _ => by kernel_rfl) ?_
          refine h_done (by kernel_rfl) ?_
          refine fin_seq ?_
          refine ok_ret ?_
          refine fin_ret (vc) Tryz.results109 (by kernel_rfl) ?_
          refine fun w hO => ⟨vc, oc, rfl, ?_, Own.take hO (fun x hx => List.mem_append_left _ (List.mem_append_right _ hx)) ?_⟩
          · rw [putL_ins k (by omega) hrel.2 (fun h => by first | omega | (rw [hs]; exact ⟨by assumption, by assumption⟩))]
            exact hvc.to (by simp; omega) (by simp)
          · have := hO.apart; rw [List.map_append, List.map_append, List.nodup_append] at this; exact (List.nodup_append.1 this.1).2.1
  · skip
    refine q_dec (p := (k : Int) < (l.length : Int)) false (by kernel_rfl) (fun _ => by kernel_rfl) (decide_eq_false (h1)) ?_
    refine q_val (.bool false) (by kernel_rfl) (fun _ => by kernel_rfl) ?_
    refine q_skip (by kernel_rfl) ?_
    refine q_skip (by kernel_rfl) ?_
    refine q_skip (by kernel_rfl) ?_
    refine q_skip (by kernel_rfl) ?_
    refine q_skip (by kernel_rfl) ?_
    refine q_skip (by kernel_rfl) ?_
    refine q_skip (by kernel_rfl) ?_
    refine q_val (.bool false) (by kernel_rfl) (fun _ => by kernel_rfl) ?_
    refine q_nil ?_
    refine fin_seq ?_
    refine ok_false (by kernel_rfl) ?_
    refine ok_exit ?_
    refine fin_seq_exit ?_
    refine fin_round_exit ?_
    refine fin_block_exit ?_
    refine fin_seq ?_
    refine ok_seq ?_
    refine ok_seq ?_
    refine ok_draw (by kernel_rfl) (by kernel_rfl) ?_
    refine q_val (.int .i64 (k : Int)) (by kernel_rfl) (fun _ => by kernel_rfl) ?_
    refine q_val (.slice (some ⟨g, 0, none⟩) l.length cap) (by kernel_rfl) (fun _ => by kernel_rfl) ?_
    refine q_val (.int .i64 (l.length : Int)) (by kernel_rfl) (fun _ => by kernel_rfl) ?_
    refine q_dec (p := (k : Int) < (l.length : Int)) false (by kernel_rfl) (fun _ => by kernel_rfl) (decide_eq_false (h1)) ?_
    refine q_val (.bool false) (by kernel_rfl) (fun _ => by kernel_rfl) ?_
    refine q_skip (by kernel_rfl) ?_
    refine q_skip (by kernel_rfl) ?_
    refine q_skip (by kernel_rfl) ?_
    refine q_skip (by kernel_rfl) ?_
    refine q_skip (by kernel_rfl) ?_
    refine q_skip (by kernel_rfl) ?_
    refine q_skip (by kernel_rfl) ?_
    refine q_val (.bool false) (by kernel_rfl) (fun _ => by kernel_rfl) ?_
    refine q_nil ?_
    refine fin_seq ?_
    refine ok_false (by kernel_rfl) ?_
    refine ok_skip ?_
    refine fin_seq ?_
    refine ok_seq ?_
    obtain ⟨i, z, e1, e2, e3, e4, e5⟩ := cut_info
    refine ok_anyhL [⟨b1, (cutV c).cells, 48⟩, ⟨g, cur, 48⟩] (by kernel_rfl) (fun w hO => hO) ?_
    refine hl_take 0 _ (.slice (some ⟨g, 0, none⟩) l.length cap) rfl (by kernel_rfl) (by kernel_rfl) (by kernel_rfl) (pq_seq pq_body) (fun w hO => hO) (by kernel_rfl) (fun _ _ => by kernel_rfl) ?_
    refine hl_take 1 _ (.int .i64 (k : Int)) rfl (by kernel_rfl) (by kernel_rfl) (by kernel_rfl) (pq_seq pq_body) (fun w hO => hO) (by kernel_rfl) (fun _ _ => by kernel_rfl) ?_
    refine hl_take 2 _ (.slice (some ⟨g, 0, none⟩) k cap) rfl (by kernel_rfl) (by kernel_rfl) (by kernel_rfl) (pq_seq pq_body) (fun w hO => hO) (by kernel_rfl) (fun w _ => run_slhi (b := g) (off := 0) (n := l.length) (c := cap) (k := .i64) (j := (k : Int)) (e := 48) (sz := 7) rfl (by kernel_rfl) (by kernel_rfl) (by kernel_rfl) (by kernel_rfl) (by omega) (by omega) w) ?_
    refine hl_load 4 _ 0 ⟨b1, (cutV c).cells, 48⟩ (off := 0) (cutV c) rfl (by kernel_rfl) (by kernel_rfl) (by kernel_rfl) (pq_seq pq_body) (fun w hO => hO) (by kernel_rfl) rfl rfl (by kernel_rfl) (by kernel_rfl) ?_
    refine hl_take 7 _ (.slice (some ⟨g, 0, none⟩) l.length cap) rfl (by kernel_rfl) (by kernel_rfl) (by kernel_rfl) (pq_seq pq_body) (fun w hO => hO) (by kernel_rfl) (fun _ _ => by kernel_rfl) ?_
    refine hl_take 8 _ (.int .i64 (k : Int)) rfl (by kernel_rfl) (by kernel_rfl) (by kernel_rfl) (pq_seq pq_body) (fun w hO => hO) (by kernel_rfl) (fun _ _ => by kernel_rfl) ?_
    refine hl_take 9 _ (.slice (some ⟨g, 0 + (if cap = k then 0 else k * 7), none⟩) (l.length - k) (cap - k)) rfl (by kernel_rfl) (by kernel_rfl) (by kernel_rfl) (pq_seq pq_body) (fun w hO => hO) (by kernel_rfl) (fun w _ => run_sllo (b := g) (off := 0) (n := l.length) (c := cap) (k := .i64) (j := (k : Int)) (e := 48) (sz := 7) rfl (by kernel_rfl) (by kernel_rfl) (by kernel_rfl) (by kernel_rfl) (by omega) (by omega) w) ?_
    refine h_cast (L' := [] ++ [] ++ [⟨b1, (cutV c).cells, 48⟩, ⟨g, cur, 48⟩]) rfl ?_
    refine h_two 3 5 (by kernel_rfl) ?_ ?_
    · skip
      refine hl_append (E := []) (ob := []) (R := [⟨b1, (cutV c).cells, 48⟩, ⟨g, cur, 48⟩]) (sz := 7) _ rfl (by kernel_rfl) rfl Tryz.underlying86 e1 e2 e3 e4 (by kernel_rfl) (Sl.nil 48 7) (a := ⟨g, 0, none⟩) (m := k) (c := cap) (news := (l.take k).flatMap cutC) (by kernel_rfl) (by rw [flat_len cutC_len, List.length_take, Nat.min_eq_left (by omega)]) (fun w hO j u hj => ?_) (cuts_cells _) (by unfold maxLen; omega) (by rw [e5]; omega) (fun ob' w hO => Own.sub ([] ++ ob') hO) (fun va oa hva => ?_)
      · rw [add_off, cell_of_row w g (0 + j) cur 48 _ (hO.held ⟨g, cur, 48⟩ (by simp))]; exact head_cells cutC_len hcur k (by omega) hj
      refine h_one 5 (by kernel_rfl) ?_
      refine hl_lit _ 48 #[.int .i64 c.e, .int .i64 c.v.maj, .int .i64 c.v.min, .int .i64 c.v.pat, .string (mkS c.v.pre), .string (mkS c.v.build), .bool c.aft] rfl (by kernel_rfl) rfl (fun w hO => Own.sub ([] ++ oa) hO) (fun _ => by kernel_rfl) (fun b2 => ?_)
      refine h_cast (L' := [⟨b2, #[.int .i64 c.e, .int .i64 c.v.maj, .int .i64 c.v.min, .int .i64 c.v.pat, .string (mkS c.v.pre), .string (mkS c.v.build), .bool c.aft], 48⟩] ++ oa ++ [⟨b1, (cutV c).cells, 48⟩, ⟨g, cur, 48⟩]) (by simp) ?_
      refine h_one 6 (by kernel_rfl) ?_
      refine hl_append (E := [⟨b2, #[.int .i64 c.e, .int .i64 c.v.maj, .int .i64 c.v.min, .int .i64 c.v.pat, .string (mkS c.v.pre), .string (mkS c.v.build), .bool c.aft], 48⟩]) (ob := oa) (R := [⟨b1, (cutV c).cells, 48⟩, ⟨g, cur, 48⟩]) (sz := 7) _ rfl (by kernel_rfl) rfl Tryz.underlying86 e1 e2 e3 e4 (by kernel_rfl) hva (a := ⟨b2, 0, none⟩) (m := 1) (c := 1) (news := cutC c) (by kernel_rfl) (rfl) (fun w hO j u hj => ?_) (cut_cells _) (by unfold maxLen; omega) (by rw [e5]; omega) (fun ob' w hO => Own.sub ([⟨b2, #[.int .i64 c.e, .int .i64 c.v.maj, .int .i64 c.v.min, .int .i64 c.v.pat, .string (mkS c.v.pre), .string (mkS c.v.build), .bool c.aft], 48⟩] ++ ob') hO) (fun vb oq hvb => ?_)
      · rw [add_off, cell_of_row w b2 (0 + j) (cutC c).toArray 48 _ (hO.held ⟨b2, (cutC c).toArray, 48⟩ (List.mem_append_left _ (List.mem_append_left _ (List.mem_cons_self ..))))]; simpa using hj
      refine h_one 10 (by kernel_rfl) ?_
      refine hl_append (E := [⟨b2, #[.int .i64 c.e, .int .i64 c.v.maj, .int .i64 c.v.min, .int .i64 c.v.pat, .string (mkS c.v.pre), .string (mkS c.v.build), .bool c.aft], 48⟩]) (ob := oq) (R := [⟨b1, (cutV c).cells, 48⟩, ⟨g, cur, 48⟩]) (sz := 7) _ rfl (by kernel_rfl) rfl Tryz.underlying86 e1 e2 e3 e4 (by kernel_rfl) hvb (a := ⟨g, 0 + (if cap = k then 0 else k * 7), none⟩) (m := l.length - k) (c := cap - k) (news := (l.drop k).flatMap cutC) (by kernel_rfl) (by rw [flat_len cutC_len, List.length_drop]) (fun w hO j u hj => ?_) (cuts_cells _) (by unfold maxLen; omega) (by rw [e5]; omega) (fun ob' w hO => Own.sub ([⟨b2, #[.int .i64 c.e, .int .i64 c.v.maj, .int .i64 c.v.min, .int .i64 c.v.pat, .string (mkS c.v.pre), .string (mkS c.v.build), .bool c.aft], 48⟩] ++ ob') hO) (fun vc oc hvc => ?_)
      · rw [add_off, cell_of_row w g _ cur 48 _ (hO.held ⟨g, cur, 48⟩ (by simp))]; exact tail_cells cutC_len hcur k cap (by omega) hcap hj
      refine hl_take 11 _ vc rfl (by kernel_rfl) (by kernel_rfl) (by kernel_rfl) (pq_seq pq_body) (fun w hO => Own.sub ([⟨b2, #[.int .i64 c.e, .int .i64 c.v.maj, .int .i64 c.v.min, .int .i64 c.v.pat, .string (mkS c.v.pre), .string (mkS c.v.build), .bool c.aft], 48⟩] ++ oc) hO) (by kernel_rfl) (fun _ _ => by kernel_rfl) ?_
      refine h_done (by kernel_rfl) ?_
      refine fin_seq ?_
      refine ok_ret ?_
      refine fin_ret (vc) Tryz.results109 (by kernel_rfl) ?_
      refine fun w hO => ⟨vc, oc, rfl, ?_, Own.take hO (fun x hx => List.mem_append_left _ (List.mem_append_right _ hx)) ?_⟩
      · rw [putL_ins k (by omega) hrel.2 (fun h => by first | omega | (rw [hs]; exact ⟨by assumption, by assumption⟩))]
        exact hvc.to (by simp; omega) (by simp)
      · have := hO.apart; rw [List.map_append, List.map_append, List.nodup_append] at this; exact (List.nodup_append.1 this.1).2.1
    · skip
      refine hl_lit _ 48 #[.int .i64 c.e, .int .i64 c.v.maj, .int .i64 c.v.min, .int .i64 c.v.pat, .string (mkS c.v.pre), .string (mkS c.v.build), .bool c.aft] rfl (by kernel_rfl) rfl (fun w hO => hO) (fun _ => by kernel_rfl) (fun b2 => ?_)
      refine h_cast (L' := [⟨b2, #[.int .i64 c.e, .int .i64 c.v.maj, .int .i64 c.v.min, .int .i64 c.v.pat, .string (mkS c.v.pre), .string (mkS c.v.build), .bool c.aft], 48⟩] ++ [] ++ [⟨b1, (cutV c).cells, 48⟩, ⟨g, cur, 48⟩]) rfl ?_
      refine h_one 3 (by kernel_rfl) ?_
      refine hl_append (E := [⟨b2, #[.int .i64 c.e, .int .i64 c.v.maj, .int .i64 c.v.min, .int .i64 c.v.pat, .string (mkS c.v.pre), .string (mkS c.v.build), .bool c.aft], 48⟩]) (ob := []) (R := [⟨b1, (cutV c).cells, 48⟩, ⟨g, cur, 48⟩]) (sz := 7) _ rfl (by kernel_rfl) rfl Tryz.underlying86 e1 e2 e3 e4 (by kernel_rfl) (Sl.nil 48 7) (a := ⟨g, 0, none⟩) (m := k) (c := cap) (news := (l.take k).flatMap cutC) (by kernel_rfl) (by rw [flat_len cutC_len, List.length_take, Nat.min_eq_left (by omega)]) (fun w hO j u hj => ?_) (cuts_cells _) (by unfold maxLen; omega) (by rw [e5]; omega) (fun ob' w hO => Own.sub ([⟨b2, #[.int .i64 c.e, .int .i64 c.v.maj, .int .i64 c.v.min, .int .i64 c.v.pat, .string (mkS c.v.pre), .string (mkS c.v.build), .bool c.aft], 48⟩] ++ ob') hO) (fun va oa hva => ?_)
      · rw [add_off, cell_of_row w g (0 + j) cur 48 _ (hO.held ⟨g, cur, 48⟩ (by simp))]; exact head_cells cutC_len hcur k (by omega) hj
      refine h_one 6 (by kernel_rfl) ?_
      refine hl_append (E := [⟨b2, #[.int .i64 c.e, .int .i64 c.v.maj, .int .i64 c.v.min, .int .i64 c.v.pat, .string (mkS c.v.pre), .string (mkS c.v.build), .bool c.aft], 48⟩]) (ob := oa) (R := [⟨b1, (cutV c).cells, 48⟩, ⟨g, cur, 48⟩]) (sz := 7) _ rfl (by kernel_rfl) rfl Tryz.underlying86 e1 e2 e3 e4 (by kernel_rfl) hva (a := ⟨b2, 0, none⟩) (m := 1) (c := 1) (news := cutC c) (by kernel_rfl) (rfl) (fun w hO j u hj => ?_) (cut_cells _) (by unfold maxLen; omega) (by rw [e5]; omega) (fun ob' w hO => Own.sub ([⟨b2, #[.int .i64 c.e, .int .i64 c.v.maj, .int .i64 c.v.min, .int .i64 c.v.pat, .string (mkS c.v.pre), .string (mkS c.v.build), .bool c.aft], 48⟩] ++ ob') hO) (fun vb oq hvb => ?_)
      · rw [add_off, cell_of_row w b2 (0 + j) (cutC c).toArray 48 _ (hO.held ⟨b2, (cutC c).toArray, 48⟩ (List.mem_append_left _ (List.mem_append_left _ (List.mem_cons_self ..))))]; simpa using hj
      refine h_one 10 (by kernel_rfl) ?_
      refine hl_append (E := [⟨b2, #[.int .i64 c.e, .int .i64 c.v.maj, .int .i64 c.v.min, .int .i64 c.v.pat, .string (mkS c.v.pre), .string (mkS c.v.build), .bool c.aft], 48⟩]) (ob := oq) (R := [⟨b1, (cutV c).cells, 48⟩, ⟨g, cur, 48⟩]) (sz := 7) _ rfl (by kernel_rfl) rfl Tryz.underlying86 e1 e2 e3 e4 (by kernel_rfl) hvb (a := ⟨g, 0 + (if cap = k then 0 else k * 7), none⟩) (m := l.length - k) (c := cap - k) (news := (l.drop k).flatMap cutC) (by kernel_rfl) (by rw [flat_len cutC_len, List.length_drop]) (fun w hO j u hj => ?_) (cuts_cells _) (by unfold maxLen; omega) (by rw [e5]; omega) (fun ob' w hO => Own.sub ([⟨b2, #[.int .i64 c.e, .int .i64 c.v.maj, .int .i64 c.v.min, .int .i64 c.v.pat, .string (mkS c.v.pre), .string (mkS c.v.build), .bool c.aft], 48⟩] ++ ob') hO) (fun vc oc hvc => ?_)
      · rw [add_off, cell_of_row w g _ cur 48 _ (hO.held ⟨g, cur, 48⟩ (by simp))]; exact tail_cells cutC_len hcur k cap (by omega) hcap hj
      refine hl_take 11 _ vc rfl (by kernel_rfl) (by kernel_rfl) (by kernel_rfl) (pq_seq pq_body) (fun w hO => Own.sub ([⟨b2, #[.int .i64 c.e, .int .i64 c.v.maj, .int .i64 c.v.min, .int .i64 c.v.pat, .string (mkS c.v.pre), .string (mkS c.v.build), .bool c.aft], 48⟩] ++ oc) hO) (by kernel_rfl) (fun _ _ => by kernel_rfl) ?_
      refine h_done (by kernel_rfl) ?_
      refine fin_seq ?_
      refine ok_ret ?_
      refine fin_ret (vc) Tryz.results109 (by kernel_rfl) ?_
      refine fun w hO => ⟨vc, oc, rfl, ?_, Own.take hO (fun x hx => List.mem_append_left _ (List.mem_append_right _ hx)) ?_⟩
      · rw [putL_ins k (by omega) hrel.2 (fun h => by first | omega | (rw [hs]; exact ⟨by assumption, by assumption⟩))]
        exact hvc.to (by simp; omega) (by simp)
      · have := hO.apart; rw [List.map_append, List.map_append, List.nodup_append] at this; exact (List.nodup_append.1 this.1).2.1
end Go.Proofs.YtjabcbagggicaaaGreatDoor
end

section
/-
  linchpinref4.cuts: the rising cuts of spans that came in, in a new slice; of all other memory nothing is changed.
-/
namespace Go.Proofs.YtjabcbagggicaaaGreatDoor
open Go.RowKit
set_option maxRecDepth 100000
set_option linter.unusedVariables false
set_option linter.unusedSimpArgs false
set_option maxHeartbeats 2000000

theorem Own.lend {M : List Nat} {W w : World} {L : List Blk} (h : Own M W w L) : Own (L.map Blk.b) w w L :=
  ⟨rfl, rfl, rfl, Nat.le_refl _, Nat.le_refl _, fun _ _ _ => rfl, h.held, fun x hx => .inr (List.mem_map.2 ⟨x, hx, rfl⟩), h.apart⟩
theorem SlC.form {v : Value} {l : List Cu} {ob : List Blk} (h : SlC v l ob) : ∃ A cap, v = .slice A l.length cap := by
  rcases h.2 with ⟨h1, h2, _⟩ | ⟨g, cap, cur, h1, _⟩
  · exact ⟨none, 0, by rw [h1, h2]⟩
  · exact ⟨_, cap, h1⟩
theorem put_call {M : List Nat} {W w : World} {v : Value} {l : List Cu} {ob : List Blk} (c : Cu) (hO : Own M W w ob) (hv : SlC v l ob) (h0 : 0 < l.length) (hn : l.length ≤ 3000000) (hl : ShortC l) (hc : c.short) :
    Calls Tryz.prog 109 #[v, cutV c] w fun e w' => ∃ v' ob', e = .returned v' ∧ SlC v' (putL c l) ob' ∧ Own M W w' ob' := by
  obtain ⟨A, cap, rfl⟩ := hv.form
  refine (put_any A cap l ob c w hv hO.lend h0 hn hl hc).mono fun e w' ⟨v', ob', h1, h2, h3⟩ => ⟨v', ob', h1, h2, ?_⟩
  have := Own.join (R := []) (by simpa using hO) h3
  simpa using this
theorem putL_len (c : Cu) : ∀ (l : List Cu), (putL c l).length ≤ l.length + 1 ∧ 0 < (putL c l).length
  | [] => ⟨by simp [putL], by simp [putL]⟩
  | d :: r => by
    have ih := putL_len c r
    unfold putL
    split
    · simp; omega
    · split <;> simp
theorem putL_short {c : Cu} (hc : c.short) {l : List Cu} (hl : ShortC l) : ShortC (putL c l) := fun x hx => by
  rcases putL_mem c l x hx with rfl | h
  · exact hc
  · exact hl x h
theorem cuts_step (l : List Sp) (k : Nat) (hk : k < l.length) : cutsL (l.take (k + 1)) = putL l[k].hi (putL l[k].lo (cutsL (l.take k))) := by
  unfold cutsL
  rw [List.take_succ_eq_append_getElem hk, List.foldl_append]; rfl
theorem cuts_size (l : List Sp) (hl : ShortL l) : ∀ (k : Nat), k ≤ l.length → (cutsL (l.take k)).length ≤ 2 + 2 * k ∧ 0 < (cutsL (l.take k)).length ∧ ShortC (cutsL (l.take k))
  | 0, _ => ⟨by simp [cutsL], by simp [cutsL], fun x hx => by
      simp only [cutsL, List.take_zero, List.foldl_nil, List.mem_cons, List.not_mem_nil, or_false] at hx
      rcases hx with rfl | rfl <;> exact ⟨by simp [endC, Ver.zero], by simp [endC, Ver.zero]⟩⟩
  | k + 1, h => by
    have ih := cuts_size l hl k (by omega)
    have hs := hl l[k] (List.getElem_mem _)
    rw [cuts_step l k h]
    have e1 := putL_len l[k].lo (cutsL (l.take k))
    have e2 := putL_len l[k].hi (putL l[k].lo (cutsL (l.take k)))
    exact ⟨by omega, e2.2, putL_short hs.2 (putL_short hs.1 ih.2.2)⟩

theorem rfirst_any (W : World) : Calls Tryz.prog 95 #[] W fun e w' => e = .returned (cutV (endC (-1))) ∧ Below W.heap.size W w' := by
  refine calls_ok (n := 2) Tryz.func95 rfl (by kernel_rfl) (by kernel_rfl) ?_
  refine ok_seq ?_
  refine ok_region ?_
  refine s_alloc_at (.agg #[.int .i64 0, .int .i64 0, .int .i64 0, .int .i64 0, .string ⟨#[]⟩, .string ⟨#[]⟩, .bool false]) (by kernel_rfl) rfl (by kernel_rfl) (fun b1 => ?_)
  refine s_nil ?_
  refine fin_seq ?_
  refine ok_seq ?_
  refine ok_region ?_
  refine s_val (.agg #[.int .i64 (-1), .int .i64 0, .int .i64 0, .int .i64 0, .string ⟨#[]⟩, .string ⟨#[]⟩, .bool false]) (by kernel_rfl) (fun _ => by kernel_rfl) ?_
  refine s_store_at 0 ⟨b1, #[.int .i64 0, .int .i64 0, .int .i64 0, .int .i64 0, .string ⟨#[]⟩, .string ⟨#[]⟩, .bool false], 48⟩ (off := 0) (.agg #[.int .i64 (-1), .int .i64 0, .int .i64 0, .int .i64 0, .string ⟨#[]⟩, .string ⟨#[]⟩, .bool false]) (by kernel_rfl) rfl rfl (by kernel_rfl) (by kernel_rfl) (by kernel_rfl) (by kernel_rfl) (by kernel_rfl) ?_
  refine s_nil ?_
  refine fin_seq ?_
  refine ok_ret ?_
  refine fin_cell 0 ⟨b1, #[.int .i64 (-1), .int .i64 0, .int .i64 0, .int .i64 0, .string ⟨#[]⟩, .string ⟨#[]⟩, .bool false], 48⟩ (off := 0) (.agg #[.int .i64 (-1), .int .i64 0, .int .i64 0, .int .i64 0, .string ⟨#[]⟩, .string ⟨#[]⟩, .bool false]) Tryz.results95 (by kernel_rfl) (by kernel_rfl) (by kernel_rfl) ?_
  exact fun w hO => ⟨rfl, hO.below⟩
theorem rlast_any (W : World) : Calls Tryz.prog 96 #[] W fun e w' => e = .returned (cutV (endC (1))) ∧ Below W.heap.size W w' := by
  refine calls_ok (n := 2) Tryz.func96 rfl (by kernel_rfl) (by kernel_rfl) ?_
  refine ok_seq ?_
  refine ok_region ?_
  refine s_alloc_at (.agg #[.int .i64 0, .int .i64 0, .int .i64 0, .int .i64 0, .string ⟨#[]⟩, .string ⟨#[]⟩, .bool false]) (by kernel_rfl) rfl (by kernel_rfl) (fun b1 => ?_)
  refine s_nil ?_
  refine fin_seq ?_
  refine ok_seq ?_
  refine ok_region ?_
  refine s_val (.agg #[.int .i64 1, .int .i64 0, .int .i64 0, .int .i64 0, .string ⟨#[]⟩, .string ⟨#[]⟩, .bool false]) (by kernel_rfl) (fun _ => by kernel_rfl) ?_
  refine s_store_at 0 ⟨b1, #[.int .i64 0, .int .i64 0, .int .i64 0, .int .i64 0, .string ⟨#[]⟩, .string ⟨#[]⟩, .bool false], 48⟩ (off := 0) (.agg #[.int .i64 1, .int .i64 0, .int .i64 0, .int .i64 0, .string ⟨#[]⟩, .string ⟨#[]⟩, .bool false]) (by kernel_rfl) rfl rfl (by kernel_rfl) (by kernel_rfl) (by kernel_rfl) (by kernel_rfl) (by kernel_rfl) ?_
  refine s_nil ?_
  refine fin_seq ?_
  refine ok_ret ?_
  refine fin_cell 0 ⟨b1, #[.int .i64 1, .int .i64 0, .int .i64 0, .int .i64 0, .string ⟨#[]⟩, .string ⟨#[]⟩, .bool false], 48⟩ (off := 0) (.agg #[.int .i64 1, .int .i64 0, .int .i64 0, .int .i64 0, .string ⟨#[]⟩, .string ⟨#[]⟩, .bool false]) Tryz.results96 (by kernel_rfl) (by kernel_rfl) (by kernel_rfl) ?_
  exact fun w hO => ⟨rfl, hO.below⟩
theorem cuts_any (A : Option Addr) (cap : Nat) (l : List Sp) (W : World) (hv : Reads spanC W W.heap.size A l) (hn : l.length ≤ 1000000) (hl : ShortL l) :
    Calls Tryz.prog 66 #[.slice A l.length cap] W fun e w' => ∃ v' ob', e = .returned v' ∧ SlC v' (cutsL l) ob' ∧ Own [] W w' ob' := by
  refine calls_ok (n := 28) Tryz.func66 rfl (by kernel_rfl) (by kernel_rfl) ?_
  refine ok_seq ?_
  refine ok_region ?_
  refine s_val (.slice none 0 0) (by kernel_rfl) (fun _ => by kernel_rfl) ?_
  refine s_nil ?_
  refine fin_seq ?_
  refine ok_seq ?_
  refine ok_region ?_
  refine s_call (k := 95) (args := #[]) (cutV (endC (-1))) (by kernel_rfl) (fun _ => by kernel_rfl) (fun w _ => rfirst_any w) ?_
  refine s_call (k := 96) (args := #[]) (cutV (endC 1)) (by kernel_rfl) (fun _ => by kernel_rfl) (fun w _ => rlast_any w) ?_
  refine s_lit 48 #[.int .i64 ((endC (-1)).e), .int .i64 ((endC (-1)).v.maj), .int .i64 ((endC (-1)).v.min), .int .i64 ((endC (-1)).v.pat), .string (mkS (endC (-1)).v.pre), .string (mkS (endC (-1)).v.build), .bool ((endC (-1)).aft), .int .i64 ((endC 1).e), .int .i64 ((endC 1).v.maj), .int .i64 ((endC 1).v.min), .int .i64 ((endC 1).v.pat), .string (mkS (endC 1).v.pre), .string (mkS (endC 1).v.build), .bool ((endC 1).aft)] (by kernel_rfl) rfl (fun _ => by kernel_rfl) (fun b1 => ?_)
  refine s_val (.slice (some ⟨b1, 0, none⟩) 2 2) (by kernel_rfl) (fun _ => by kernel_rfl) ?_
  refine s_nil ?_
  refine fin_seq ?_
  refine ok_seq ?_
  refine ok_seq ?_
  refine ok_region ?_
  refine s_val (.int .i64 0) (by kernel_rfl) (fun _ => by kernel_rfl) ?_
  refine s_nil ?_
  refine fin_seq ?_
  refine ok_block ?_
  have hstart : SlC (.slice (some ⟨b1, 0, none⟩) 2 2) (cutsL (l.take 0)) [⟨b1, #[.int .i64 ((endC (-1)).e), .int .i64 ((endC (-1)).v.maj), .int .i64 ((endC (-1)).v.min), .int .i64 ((endC (-1)).v.pat), .string (mkS (endC (-1)).v.pre), .string (mkS (endC (-1)).v.build), .bool ((endC (-1)).aft), .int .i64 ((endC 1).e), .int .i64 ((endC 1).v.maj), .int .i64 ((endC 1).v.min), .int .i64 ((endC 1).v.pat), .string (mkS (endC 1).v.pre), .string (mkS (endC 1).v.build), .bool ((endC 1).aft)], 48⟩] := ⟨rfl, .inr ⟨b1, 2, _, rfl, rfl, Nat.le_refl _, by unfold maxLen; omega, rfl, rfl⟩⟩
  refine ok_cast (L' := [⟨b1, #[.int .i64 ((endC (-1)).e), .int .i64 ((endC (-1)).v.maj), .int .i64 ((endC (-1)).v.min), .int .i64 ((endC (-1)).v.pat), .string (mkS (endC (-1)).v.pre), .string (mkS (endC (-1)).v.build), .bool ((endC (-1)).aft), .int .i64 ((endC 1).e), .int .i64 ((endC 1).v.maj), .int .i64 ((endC 1).v.min), .int .i64 ((endC 1).v.pat), .string (mkS (endC 1).v.pre), .string (mkS (endC 1).v.build), .bool ((endC 1).aft)], 48⟩] ++ []) rfl ?_
  refine ok_loop (fun L f m => ∃ (k : Nat) (v : Value) (ob : List Blk) (j : Nat → Value), (k ≤ l.length ∧ SlC v (cutsL (l.take k)) ob) ∧ L = ob ++ [] ∧ f = upds j [(0, .slice A l.length cap), (3, v), (4, .int .i64 (k : Int))] ∧ m = l.length - k) (l.length - 0) ⟨0, _, [⟨b1, #[.int .i64 ((endC (-1)).e), .int .i64 ((endC (-1)).v.maj), .int .i64 ((endC (-1)).v.min), .int .i64 ((endC (-1)).v.pat), .string (mkS (endC (-1)).v.pre), .string (mkS (endC (-1)).v.build), .bool ((endC (-1)).aft), .int .i64 ((endC 1).e), .int .i64 ((endC 1).v.maj), .int .i64 ((endC 1).v.min), .int .i64 ((endC 1).v.pat), .string (mkS (endC 1).v.pre), .string (mkS (endC 1).v.build), .bool ((endC 1).aft)], 48⟩], _, ⟨Nat.zero_le _, hstart⟩, rfl, upds_self _ ⟨by kernel_rfl, by kernel_rfl, by kernel_rfl, trivial⟩, rfl⟩ ?_
  rintro L f m ⟨k, v, ob, j, hrel, rfl, rfl, rfl⟩
  have hkl := hrel.1
  refine ok_seq ?_
  refine ok_seq ?_
  refine ok_region ?_
  refine s_val (.int .i64 (k : Int)) (by kernel_rfl) (fun _ => by kernel_rfl) ?_
  refine s_val (.slice A l.length cap) (by kernel_rfl) (fun _ => by kernel_rfl) ?_
  refine s_val (.int .i64 (l.length : Int)) (by kernel_rfl) (fun _ => by kernel_rfl) ?_
  by_cases h1 : (k : Int) < (l.length : Int)
  · skip
    have hk : k < l.length := by omega
    obtain ⟨b, off, hA, hlt, hcell⟩ := hv (by omega)
    obtain ⟨s, hs⟩ : ∃ s, l[k] = s := ⟨_, rfl⟩
    have hsk : s.short := hs ▸ hl _ (List.getElem_mem _)
    have hcz := cuts_size l hl k hkl
    refine s_dec (p := (k : Int) < (l.length : Int)) true (by kernel_rfl) (fun _ => by kernel_rfl) (decide_eq_true (h1)) ?_
    refine s_nil ?_
    refine fin_seq ?_
    refine ok_true (by kernel_rfl) ?_
    refine ok_skip ?_
    refine fin_seq ?_
    refine ok_seq ?_
    refine ok_block ?_
    refine ok_cast (L' := ob) (by simp) ?_
    refine ok_anyhL [] (by kernel_rfl) (fun w hO => Own.take hO (by simp) (by simp)) ?_
    refine hl_take 0 _ (v) rfl (by kernel_rfl) (by kernel_rfl) (by kernel_rfl) (pq_block (pq_seq (pq_round (pq_block (pq_seq pq_body))))) (fun w hO => Own.take hO (by simp) (by simp)) (by kernel_rfl) (fun _ _ => by kernel_rfl) ?_
    refine hl_take 1 _ (.slice A l.length cap) rfl (by kernel_rfl) (by kernel_rfl) (by kernel_rfl) (pq_block (pq_seq (pq_round (pq_block (pq_seq pq_body))))) (fun w hO => Own.take hO (by simp) (by simp)) (by kernel_rfl) (fun _ _ => by kernel_rfl) ?_
    refine hl_take 2 _ (.int .i64 (k : Int)) rfl (by kernel_rfl) (by kernel_rfl) (by kernel_rfl) (pq_block (pq_seq (pq_round (pq_block (pq_seq pq_body))))) (fun w hO => Own.take hO (by simp) (by simp)) (by kernel_rfl) (fun _ _ => by kernel_rfl) ?_
    refine hl_take 3 _ (.pointer (some ⟨b, off + k * 14, none⟩)) rfl (by kernel_rfl) (by kernel_rfl) (by kernel_rfl) (pq_block (pq_seq (pq_round (pq_block (pq_seq pq_body))))) (fun w hO => Own.take hO (by simp) (by simp)) (by kernel_rfl) (fun w _ => run_ixA (b := b) (off := off) (c := cap) (n := l.length) (k := .i64) (j := (k : Int)) (e := 50) (sz := 14) rfl (by kernel_rfl) hA (by kernel_rfl) (by kernel_rfl) (by kernel_rfl) (by omega) (by omega) (by show off + k * 14 = off + k * 14; rfl) w) ?_
    refine hl_take 4 _ (.pointer (some ⟨b, off + k * 14 + 0, none⟩)) rfl (by kernel_rfl) (by kernel_rfl) (by kernel_rfl) (pq_block (pq_seq (pq_round (pq_block (pq_seq pq_body))))) (fun w hO => Own.take hO (by simp) (by simp)) (by kernel_rfl) (fun _ _ => by kernel_rfl) ?_
    refine hl_old 5 _ (a := ⟨b, off + k * 14 + 0, none⟩) (cutV s.lo) rfl (by kernel_rfl) (by kernel_rfl) (by kernel_rfl) (pq_block (pq_seq (pq_round (pq_block (pq_seq pq_body))))) (fun w hO => Own.take hO (by simp) (by simp)) (by kernel_rfl) rfl (by kernel_rfl) (fun w hO => elem_load spanC_len (fun j u h => (hO.below.cell (p := ⟨b, off + j, none⟩) hlt).trans (hcell j u h)) k 0 hk (by omega) _ (by rw [hs]; kernel_rfl)) ?_
    refine hl_take 7 _ (.slice A l.length cap) rfl (by kernel_rfl) (by kernel_rfl) (by kernel_rfl) (pq_block (pq_seq (pq_round (pq_block (pq_seq pq_body))))) (fun w hO => Own.take hO (by simp) (by simp)) (by kernel_rfl) (fun _ _ => by kernel_rfl) ?_
    refine hl_take 8 _ (.int .i64 (k : Int)) rfl (by kernel_rfl) (by kernel_rfl) (by kernel_rfl) (pq_block (pq_seq (pq_round (pq_block (pq_seq pq_body))))) (fun w hO => Own.take hO (by simp) (by simp)) (by kernel_rfl) (fun _ _ => by kernel_rfl) ?_
    refine hl_take 9 _ (.pointer (some ⟨b, off + k * 14, none⟩)) rfl (by kernel_rfl) (by kernel_rfl) (by kernel_rfl) (pq_block (pq_seq (pq_round (pq_block (pq_seq pq_body))))) (fun w hO => Own.take hO (by simp) (by simp)) (by kernel_rfl) (fun w _ => run_ixA (b := b) (off := off) (c := cap) (n := l.length) (k := .i64) (j := (k : Int)) (e := 50) (sz := 14) rfl (by kernel_rfl) hA (by kernel_rfl) (by kernel_rfl) (by kernel_rfl) (by omega) (by omega) (by show off + k * 14 = off + k * 14; rfl) w) ?_
    refine hl_take 10 _ (.pointer (some ⟨b, off + k * 14 + 7, none⟩)) rfl (by kernel_rfl) (by kernel_rfl) (by kernel_rfl) (pq_block (pq_seq (pq_round (pq_block (pq_seq pq_body))))) (fun w hO => Own.take hO (by simp) (by simp)) (by kernel_rfl) (fun _ _ => by kernel_rfl) ?_
    refine hl_old 11 _ (a := ⟨b, off + k * 14 + 7, none⟩) (cutV s.hi) rfl (by kernel_rfl) (by kernel_rfl) (by kernel_rfl) (pq_block (pq_seq (pq_round (pq_block (pq_seq pq_body))))) (fun w hO => Own.take hO (by simp) (by simp)) (by kernel_rfl) rfl (by kernel_rfl) (fun w hO => elem_load spanC_len (fun j u h => (hO.below.cell (p := ⟨b, off + j, none⟩) hlt).trans (hcell j u h)) k 7 hk (by omega) _ (by rw [hs]; kernel_rfl)) ?_
    have hp1 := putL_len s.lo (cutsL (l.take k))
    refine h_one 6 (by kernel_rfl) ?_
    refine hl_callx _ (k := 109) (args := #[v, cutV s.lo]) (fun v' L' => SlC v' (putL s.lo (cutsL (l.take k))) L') rfl (by kernel_rfl) (fun _ => by kernel_rfl) (fun w hO => put_call s.lo hO hrel.2 hcz.2.1 (by omega) hcz.2.2 hsk.1) (fun _ _ _ => (fun w hO => Own.take hO (by simp) (by simp))) (fun v1 ob1 hv1 => ?_)
    refine h_one 12 (by kernel_rfl) ?_
    refine hl_callx _ (k := 109) (args := #[v1, cutV s.hi]) (fun v' L' => SlC v' (putL s.hi (putL s.lo (cutsL (l.take k)))) L') rfl (by kernel_rfl) (fun _ => by kernel_rfl) (fun w hO => put_call s.hi hO hv1 hp1.2 (by omega) (putL_short hsk.1 hcz.2.2) hsk.2) (fun _ _ _ => (fun w hO => Own.take hO (by simp) (by simp))) (fun v2 ob2 hv2 => ?_)
    refine hl_take 13 _ (v2) rfl (by kernel_rfl) (by kernel_rfl) (by kernel_rfl) (pq_block (pq_seq (pq_round (pq_block (pq_seq pq_body))))) (fun w hO => Own.take hO (by simp) (by simp)) (by kernel_rfl) (fun _ _ => by kernel_rfl) ?_
    refine h_done (by kernel_rfl) ?_
    refine fin_cast (L' := ob2 ++ []) (by simp) ?_
    refine fin_block ?_
    refine fin_seq ?_
    refine ok_region ?_
    refine s_val (.int .i64 (k : Int)) (by kernel_rfl) (fun _ => by kernel_rfl) ?_
    refine s_sum (k := .i64) (((k + 1 : Nat) : Int)) (by kernel_rfl) (fun _ => by kernel_rfl) (IntWalk.i64_in _ (by omega)) ?_
    refine s_val (.int .i64 ((k + 1 : Nat) : Int)) (by kernel_rfl) (fun _ => by kernel_rfl) ?_
    refine s_nil ?_
    have hnext : SlC v2 (cutsL (l.take (k + 1))) ob2 := by rw [cuts_step l k hk, hs]; exact hv2
    exact fin_round (m' := l.length - (k + 1)) (by omega) ⟨k + 1, v2, ob2, _, ⟨by omega, hnext⟩, rfl, upds_self _ ⟨by kernel_rfl, by kernel_rfl, by kernel_rfl, trivial⟩, rfl⟩
  · skip
    refine s_dec (p := (k : Int) < (l.length : Int)) false (by kernel_rfl) (fun _ => by kernel_rfl) (decide_eq_false (h1)) ?_
    refine s_nil ?_
    refine fin_seq ?_
    refine ok_false (by kernel_rfl) ?_
    refine ok_exit ?_
    refine fin_seq_exit ?_
    refine fin_round_exit ?_
    refine fin_block_exit ?_
    refine fin_seq ?_
    refine ok_seq ?_
    refine ok_region ?_
    refine s_val (v) (by kernel_rfl) (fun _ => by kernel_rfl) ?_
    refine s_val (v) (by kernel_rfl) (fun _ => by kernel_rfl) ?_
    refine s_nil ?_
    refine fin_seq ?_
    refine ok_ret ?_
    refine fin_ret (v) Tryz.results66 (by kernel_rfl) ?_
    exact fun w hO => ⟨v, ob, rfl, by have h := hrel.2; rwa [List.take_of_length_le (by omega)] at h, by simpa using hO⟩
end Go.Proofs.YtjabcbagggicaaaGreatDoor
end

section
/-
  linchpinref4.Not: the stretches between cuts, a loop that grows a row of its own.
-/
namespace Go.Proofs.YtjabcbagggicaaaGreatDoor
open Go.RowKit
set_option maxRecDepth 100000
set_option linter.unusedVariables false
set_option linter.unusedSimpArgs false
set_option maxHeartbeats 2000000

section
variable {M : List Nat} {P : Program} {n : Nat} {ops : Array Oper} {W : World} {Q : Exit → Act → World → Prop} {L0 L : List Blk} {f : Nat → Value} {fuel : Nat} {listed : Array Bool} {rest : List Oper} {o : Oper}
theorem s_callo {k : FuncId} {args : Array Value} (R : Value → List Blk → Prop) (hw : want ops n f o = true) (he : ∀ w, (execOp (ev n f) o).run P w = .ok (.enter k args) w)
    (hc : ∀ w, Own M W w L → Calls P k args w fun e w' => ∃ v L', e = .returned v ∧ R v L' ∧ Own M W w' L') (h : ∀ v L', R v L' → Seg M P n ops W Q rest L' (upd f o.dst v)) : Seg M P n ops W Q (o :: rest) L f :=
  s_step hw fun w hO => wp_enter (he w) ((hc w hO).mono fun e w' ⟨v, L', e1, e2, e3⟩ => ⟨v, e1, (h v L' e2).go w' e3⟩)
theorem hl_sum {k : IntKind} (i : Nat) (oi : Oper) (z : Int) (hi : ops[i]? = some oi) (hs : Region.noSelect ops = true) (hf : Region.free .any ops listed i = true) (hr : (Region.ready .any ops listed).contains i = true)
    (hQ : PQ Q) (hsub : ∀ w, Own M W w L → Own M W w L0) (hw : want ops n f oi = true) (hrun : ∀ w, (execOp (ev n f) oi).run P w = .ok (.value (.int k (k.wrap z))) w) (hz : k.wrap z = z)
    (h : HSeg M P n ops W L0 Q fuel (listed.setIfInBounds i true) L (upd f oi.dst (.int k z))) : HSeg M P n ops W L0 Q (fuel + 1) listed L f :=
  hl_take i oi (.int k z) hi hs hf hr hQ hsub hw (fun w _ => by rw [hrun w, hz]) h
theorem Own.perm {w : World} {L' : List Blk} (h : Own M W w L) (hp : L.Perm L') : Own M W w L' :=
  h.take (fun x hx => hp.mem_iff.2 hx) ((hp.map Blk.b).nodup_iff.1 h.apart)
end
theorem SlS.form {v : Value} {l : List Sp} {ob : List Blk} (h : SlS v l ob) : ∃ A cap, v = .slice A l.length cap := by
  rcases h.2 with ⟨h1, h2, _⟩ | ⟨g, cap, cur, h1, _⟩
  · exact ⟨none, 0, by rw [h1, h2]⟩
  · exact ⟨_, cap, h1⟩
theorem grow_call {M : List Nat} {W w : World} {v : Value} {l : List Sp} {x : Blk} {ob : List Blk} (c d : Cu) (hO : Own M W w (x :: ob)) (hv : SlS v l ob) (hn : l.length ≤ 1000000) (hl : ShortL l) (hc : c.short) (hd : d.short) :
    Calls Tryz.prog 68 #[v, cutV c, cutV d] w fun e w' => ∃ v' L', e = .returned v' ∧ (∃ ob', L' = x :: ob' ∧ SlS v' (growL l c d) ob') ∧ Own M W w' L' := by
  obtain ⟨A, cap, rfl⟩ := hv.form
  refine (grow_any A cap l ob c d w hv (Own.lend (hO.sub [x])) hn hl hc hd).mono fun e w' ⟨v', ob', h1, h2, h3⟩ => ⟨v', x :: ob', h1, ⟨ob', rfl, h2⟩, ?_⟩
  have hp : Own M W w (ob ++ [x]) := hO.perm (List.perm_append_comm (l₁ := [x]) (l₂ := ob))
  exact (Own.join hp h3).perm (List.perm_append_comm (l₁ := ob') (l₂ := [x]))
theorem grow_len (l : List Sp) (c d : Cu) : (growL l c d).length ≤ l.length + 1 := by
  unfold growL
  split
  · split
    · first | (simp; done) | (simp; omega)
    · simp
  · simp
theorem grow_short {l : List Sp} {c d : Cu} (hl : ShortL l) (hc : c.short) (hd : d.short) : ShortL (growL l c d) := by
  unfold growL
  split
  · rename_i s hs
    split
    · intro x hx
      rcases List.mem_append.1 hx with h | h
      · exact hl x (List.dropLast_subset _ h)
      · obtain rfl : x = _ := by simpa using h
        exact ⟨(hl s (List.mem_of_getLast? hs)).1, hd⟩
    · intro x hx
      rcases List.mem_append.1 hx with h | h
      · exact hl x h
      · obtain rfl : x = _ := by simpa using h
        exact ⟨hc, hd⟩
  · intro x hx
    obtain rfl : x = _ := by simpa using hx
    exact ⟨hc, hd⟩
theorem build_step (p : Cu → Cu → Bool) (out : List Sp) (cs : List Cu) (k : Nat) (hk : k + 1 < cs.length) {c d : Cu} (hc : cs[k] = c) (hd : cs[k + 1] = d) : buildL p out (cs.drop k) = buildL p (if p c d then growL out c d else out) (cs.drop (k + 1)) := by
  rw [List.drop_eq_getElem_cons (show k < cs.length by omega), List.drop_eq_getElem_cons hk, hc, hd]
  conv => lhs; unfold buildL
theorem build_end (p : Cu → Cu → Bool) (out : List Sp) (cs : List Cu) (k : Nat) (hk : ¬ k + 1 < cs.length) : buildL p out (cs.drop k) = out := by
  have : (cs.drop k).length ≤ 1 := by rw [List.length_drop]; omega
  match h : cs.drop k with
  | [] => rfl
  | [x] => rfl
  | x :: y :: r => rw [h] at this; simp at this
structure Built (p : Cu → Cu → Bool) (cs : List Cu) (k : Nat) (v : Value) (out : List Sp) (ob : List Blk) : Prop where
  le : k ≤ cs.length
  sl : SlS v out ob
  len : out.length ≤ k
  short : ShortL out
  eq : buildL p [] cs = buildL p out (cs.drop k)
theorem Built.start (p : Cu → Cu → Bool) (cs : List Cu) : Built p cs 0 (.slice none 0 0) [] [] := ⟨Nat.zero_le _, Sl.nil _ _, Nat.le_refl _, fun s hs => by simp at hs, rfl⟩
theorem Built.keep {p : Cu → Cu → Bool} {cs : List Cu} {k : Nat} {v : Value} {out : List Sp} {ob : List Blk} (h : Built p cs k v out ob) (hk : k + 1 < cs.length) {c d : Cu} (hc : cs[k] = c) (hd : cs[k + 1] = d) (hp : p c d = false) : Built p cs (k + 1) v out ob :=
  ⟨by omega, h.sl, by have := h.len; omega, h.short, by rw [h.eq, build_step p out cs k hk hc hd, hp]; rfl⟩
theorem Built.grow {p : Cu → Cu → Bool} {cs : List Cu} {k : Nat} {v v2 : Value} {out : List Sp} {ob ob2 : List Blk} (h : Built p cs k v out ob) (hk : k + 1 < cs.length) {c d : Cu} (hc : cs[k] = c) (hd : cs[k + 1] = d) (hp : p c d = true) (hcs : c.short) (hds : d.short) (h2 : SlS v2 (growL out c d) ob2) : Built p cs (k + 1) v2 (growL out c d) ob2 :=
  ⟨by omega, h2, by have := h.len; have := grow_len out c d; omega, grow_short h.short hcs hds, by rw [h.eq, build_step p out cs k hk hc hd, hp]; rfl⟩

theorem rnot_any (A : Option Addr) (cap : Nat) (l : List Sp) (W : World) (hv : Reads spanC W W.heap.size A l) (hn : l.length ≤ 300000) (hl : ShortL l) :
    Calls Tryz.prog 31 #[.slice A l.length cap] W fun e w' => ∃ v' ob', e = .returned v' ∧ SlS v' (if rowMay l then notL l else []) ob' ∧ Own [] W w' ob' := by
  refine calls_ok (n := 42) Tryz.func31 rfl (by kernel_rfl) (by kernel_rfl) ?_
  refine ok_seq ?_
  refine ok_region ?_
  refine s_val (.slice none 0 0) (by kernel_rfl) (fun _ => by kernel_rfl) ?_
  refine s_nil ?_
  refine fin_seq ?_
  refine ok_seq ?_
  refine ok_seq ?_
  refine ok_region ?_
  refine s_val (.slice A l.length cap) (by kernel_rfl) (fun _ => by kernel_rfl) ?_
  refine s_call (k := 59) (args := #[.slice A l.length cap]) (.bool (rowMay l)) (by kernel_rfl) (fun _ => by kernel_rfl) (fun w hO => rrowMay_any A cap l w (hv.on hO.below hO.size) (by omega) hl) ?_
  cases h1 : rowMay l with
  | true =>
    refine s_val (.bool false) (by kernel_rfl) (fun _ => by kernel_rfl) ?_
    refine s_nil ?_
    refine fin_seq ?_
    refine ok_false (by kernel_rfl) ?_
    refine ok_skip ?_
    refine fin_seq ?_
    refine ok_seq ?_
    refine ok_region ?_
    refine s_val (.slice none 0 0) (by kernel_rfl) (fun _ => by kernel_rfl) ?_
    refine s_nil ?_
    refine fin_seq ?_
    refine ok_seq ?_
    refine ok_region ?_
    refine s_val (.slice A l.length cap) (by kernel_rfl) (fun _ => by kernel_rfl) ?_
    refine s_callo (k := 66) (args := #[.slice A l.length cap]) (fun v' L' => SlC v' (cutsL l) L') (by kernel_rfl) (fun _ => by kernel_rfl) (fun w hO => (cuts_any A cap l w (hv.on hO.below hO.size) (by omega) hl).mono fun e w' ⟨v', ob', h1, h2, h3⟩ => ⟨v', ob', h1, h2, by simpa using Own.joinN hO h3⟩) (fun cv oc hcv => ?_)
    have hcz := cuts_size l hl l.length (Nat.le_refl _)
    rw [List.take_length] at hcz
    obtain ⟨cs, hcs⟩ : ∃ cs, cs = cutsL l := ⟨_, rfl⟩
    rw [← hcs] at hcv hcz
    have hcsn := hcz.1
    have hcs0 := hcz.2.1
    have hcsS := hcz.2.2
    obtain ⟨B, ccap, rfl⟩ := hcv.form
    obtain ⟨g, cur, rfl, rfl, hccap, hcmax, hcsz, hcur⟩ := hcv.block hcs0
    refine s_val (.slice (some ⟨g, 0, none⟩) cs.length ccap) (by kernel_rfl) (fun _ => by kernel_rfl) ?_
    refine s_nil ?_
    refine fin_seq ?_
    refine ok_seq ?_
    refine ok_seq ?_
    refine ok_region ?_
    refine s_val (.int .i64 0) (by kernel_rfl) (fun _ => by kernel_rfl) ?_
    refine s_nil ?_
    refine fin_seq ?_
    refine ok_block ?_
    refine ok_loop (fun L f m => ∃ (k : Nat) (v : Value) (out : List Sp) (ob : List Blk) (j : Nat → Value), (Built (fun c d => !inL l c d) cs k v out ob) ∧ L = ⟨g, cur, 48⟩ :: ob ∧ f = upds j [(0, .slice A l.length cap), (3, v), (4, .slice (some ⟨g, 0, none⟩) cs.length ccap), (5, .int .i64 (k : Int))] ∧ m = cs.length - k) (cs.length - 0) ⟨0, _, [], [], _, Built.start _ cs, rfl, upds_self _ ⟨by kernel_rfl, by kernel_rfl, by kernel_rfl, by kernel_rfl, trivial⟩, rfl⟩ ?_
    rintro L f m ⟨k, v, out, ob, j, hrel, rfl, rfl, rfl⟩
    have hkl := hrel.le
    refine ok_seq ?_
    refine ok_seq ?_
    refine ok_region ?_
    refine s_val (.int .i64 (k : Int)) (by kernel_rfl) (fun _ => by kernel_rfl) ?_
    refine s_sum (k := .i64) (((k + 1 : Nat) : Int)) (by kernel_rfl) (fun _ => by kernel_rfl) (IntWalk.i64_in _ (by omega)) ?_
    refine s_val (.slice (some ⟨g, 0, none⟩) cs.length ccap) (by kernel_rfl) (fun _ => by kernel_rfl) ?_
    refine s_val (.int .i64 (cs.length : Int)) (by kernel_rfl) (fun _ => by kernel_rfl) ?_
    by_cases h2 : ((k + 1 : Nat) : Int) < (cs.length : Int)
    · skip
      have hk : k + 1 < cs.length := by omega
      obtain ⟨c, hc⟩ : ∃ c, cs[k] = c := ⟨_, rfl⟩
      obtain ⟨d, hd⟩ : ∃ d, cs[k + 1] = d := ⟨_, rfl⟩
      have hcS : c.short := hc ▸ hcsS _ (List.getElem_mem _)
      have hdS : d.short := hd ▸ hcsS _ (List.getElem_mem _)
      have hlen := hrel.len
      refine s_dec (p := ((k + 1 : Nat) : Int) < (cs.length : Int)) true (by kernel_rfl) (fun _ => by kernel_rfl) (decide_eq_true (h2)) ?_
      refine s_nil ?_
      refine fin_seq ?_
      refine ok_true (by kernel_rfl) ?_
      refine ok_skip ?_
      refine fin_seq ?_
      refine ok_seq ?_
      refine ok_block ?_
      refine ok_seq ?_
      refine ok_draw (by kernel_rfl) (by kernel_rfl) ?_
      refine q_val (.slice A l.length cap) (by kernel_rfl) (fun _ => by kernel_rfl) ?_
      refine q_val (.slice (some ⟨g, 0, none⟩) cs.length ccap) (by kernel_rfl) (fun _ => by kernel_rfl) ?_
      refine q_val (.int .i64 (k : Int)) (by kernel_rfl) (fun _ => by kernel_rfl) ?_
      refine q_val (.pointer (some ⟨g, k * 7, none⟩)) (by kernel_rfl) (run_ixsl (b := g) (off := 0) (n := cs.length) (c := ccap) (k := .i64) (j := (k : Int)) (e := 48) (sz := 7) rfl (by kernel_rfl) (by kernel_rfl) (by kernel_rfl) (by kernel_rfl) (by omega) (by omega) (by show 0 + k * 7 = k * 7; omega)) ?_
      refine q_load 0 ⟨g, cur, 48⟩ (off := k * 7) (cutV c) (by kernel_rfl) rfl (by kernel_rfl) (by kernel_rfl) (read_part cutC_len hcur k 0 (by omega) (by omega) _ (by rw [hc]; kernel_rfl)) ?_
      refine q_val (.slice (some ⟨g, 0, none⟩) cs.length ccap) (by kernel_rfl) (fun _ => by kernel_rfl) ?_
      refine q_val (.int .i64 (k : Int)) (by kernel_rfl) (fun _ => by kernel_rfl) ?_
      refine q_sum (k := .i64) (((k + 1 : Nat) : Int)) (by kernel_rfl) (fun _ => by kernel_rfl) (IntWalk.i64_in _ (by omega)) ?_
      refine q_val (.pointer (some ⟨g, (k + 1) * 7, none⟩)) (by kernel_rfl) (run_ixsl (b := g) (off := 0) (n := cs.length) (c := ccap) (k := .i64) (j := ((k + 1 : Nat) : Int)) (e := 48) (sz := 7) rfl (by kernel_rfl) (by kernel_rfl) (by kernel_rfl) (by kernel_rfl) (by omega) (by omega) (by show 0 + (k + 1) * 7 = (k + 1) * 7; omega)) ?_
      refine q_load 0 ⟨g, cur, 48⟩ (off := (k + 1) * 7) (cutV d) (by kernel_rfl) rfl (by kernel_rfl) (by kernel_rfl) (read_part cutC_len hcur (k + 1) 0 (by omega) (by omega) _ (by rw [hd]; kernel_rfl)) ?_
      refine q_call (k := 67) (args := #[.slice A l.length cap, cutV c, cutV d]) (.bool (inL l c d)) (by kernel_rfl) (fun _ => by kernel_rfl) (fun w hO => in_any A cap l c d w (hv.on hO.below hO.size) (by omega) hl hcS hdS) ?_
      cases h3 : inL l c d with
      | true =>
        refine q_val (.bool false) (by kernel_rfl) (fun _ => by kernel_rfl) ?_
        refine q_nil ?_
        refine fin_seq ?_
        refine ok_false (by kernel_rfl) ?_
        refine ok_skip ?_
        refine fin_block ?_
        refine fin_seq ?_
        refine ok_region ?_
        refine s_val (.int .i64 (k : Int)) (by kernel_rfl) (fun _ => by kernel_rfl) ?_
        refine s_sum (k := .i64) (((k + 1 : Nat) : Int)) (by kernel_rfl) (fun _ => by kernel_rfl) (IntWalk.i64_in _ (by omega)) ?_
        refine s_val (.int .i64 ((k + 1 : Nat) : Int)) (by kernel_rfl) (fun _ => by kernel_rfl) ?_
        refine s_nil ?_
        exact fin_round (m' := cs.length - (k + 1)) (by omega) ⟨k + 1, v, out, ob, _, hrel.keep hk hc hd (by simp [h1, h2, h3]), rfl, upds_self _ ⟨by kernel_rfl, by kernel_rfl, by kernel_rfl, by kernel_rfl, trivial⟩, rfl⟩
      | false =>
        refine q_val (.bool true) (by kernel_rfl) (fun _ => by kernel_rfl) ?_
        refine q_nil ?_
        refine fin_seq ?_
        refine ok_true (by kernel_rfl) ?_
        refine ok_anyhL [⟨g, cur, 48⟩] (by kernel_rfl) (fun w hO => Own.take hO (by simp) (by simp)) ?_
        refine hl_take 0 _ (v) rfl (by kernel_rfl) (by kernel_rfl) (by kernel_rfl) (pq_block (pq_seq (pq_round (pq_block (pq_seq pq_body))))) (fun w hO => Own.take hO (by simp) (by simp)) (by kernel_rfl) (fun _ _ => by kernel_rfl) ?_
        refine hl_take 1 _ (.slice (some ⟨g, 0, none⟩) cs.length ccap) rfl (by kernel_rfl) (by kernel_rfl) (by kernel_rfl) (pq_block (pq_seq (pq_round (pq_block (pq_seq pq_body))))) (fun w hO => Own.take hO (by simp) (by simp)) (by kernel_rfl) (fun _ _ => by kernel_rfl) ?_
        refine hl_take 2 _ (.int .i64 (k : Int)) rfl (by kernel_rfl) (by kernel_rfl) (by kernel_rfl) (pq_block (pq_seq (pq_round (pq_block (pq_seq pq_body))))) (fun w hO => Own.take hO (by simp) (by simp)) (by kernel_rfl) (fun _ _ => by kernel_rfl) ?_
        refine hl_take 3 _ (.pointer (some ⟨g, k * 7, none⟩)) rfl (by kernel_rfl) (by kernel_rfl) (by kernel_rfl) (pq_block (pq_seq (pq_round (pq_block (pq_seq pq_body))))) (fun w hO => Own.take hO (by simp) (by simp)) (by kernel_rfl) (fun w _ => run_ixsl (b := g) (off := 0) (n := cs.length) (c := ccap) (k := .i64) (j := (k : Int)) (e := 48) (sz := 7) rfl (by kernel_rfl) (by kernel_rfl) (by kernel_rfl) (by kernel_rfl) (by omega) (by omega) (by show 0 + k * 7 = k * 7; omega) w) ?_
        refine hl_load 4 _ 0 ⟨g, cur, 48⟩ (off := k * 7) (cutV c) rfl (by kernel_rfl) (by kernel_rfl) (by kernel_rfl) (pq_block (pq_seq (pq_round (pq_block (pq_seq pq_body))))) (fun w hO => Own.take hO (by simp) (by simp)) (by kernel_rfl) rfl rfl (by kernel_rfl) (read_part cutC_len hcur k 0 (by omega) (by omega) _ (by rw [hc]; kernel_rfl)) ?_
        refine hl_take 5 _ (.slice (some ⟨g, 0, none⟩) cs.length ccap) rfl (by kernel_rfl) (by kernel_rfl) (by kernel_rfl) (pq_block (pq_seq (pq_round (pq_block (pq_seq pq_body))))) (fun w hO => Own.take hO (by simp) (by simp)) (by kernel_rfl) (fun _ _ => by kernel_rfl) ?_
        refine hl_take 6 _ (.int .i64 (k : Int)) rfl (by kernel_rfl) (by kernel_rfl) (by kernel_rfl) (pq_block (pq_seq (pq_round (pq_block (pq_seq pq_body))))) (fun w hO => Own.take hO (by simp) (by simp)) (by kernel_rfl) (fun _ _ => by kernel_rfl) ?_
        refine hl_sum (k := .i64) 7 _ ((k + 1 : Nat) : Int) rfl (by kernel_rfl) (by kernel_rfl) (by kernel_rfl) (pq_block (pq_seq (pq_round (pq_block (pq_seq pq_body))))) (fun w hO => Own.take hO (by simp) (by simp)) (by kernel_rfl) (fun _ => by kernel_rfl) (IntWalk.i64_in _ (by omega)) ?_
        refine hl_take 8 _ (.pointer (some ⟨g, (k + 1) * 7, none⟩)) rfl (by kernel_rfl) (by kernel_rfl) (by kernel_rfl) (pq_block (pq_seq (pq_round (pq_block (pq_seq pq_body))))) (fun w hO => Own.take hO (by simp) (by simp)) (by kernel_rfl) (fun w _ => run_ixsl (b := g) (off := 0) (n := cs.length) (c := ccap) (k := .i64) (j := ((k + 1 : Nat) : Int)) (e := 48) (sz := 7) rfl (by kernel_rfl) (by kernel_rfl) (by kernel_rfl) (by kernel_rfl) (by omega) (by omega) (by show 0 + (k + 1) * 7 = (k + 1) * 7; omega) w) ?_
        refine hl_load 9 _ 0 ⟨g, cur, 48⟩ (off := (k + 1) * 7) (cutV d) rfl (by kernel_rfl) (by kernel_rfl) (by kernel_rfl) (pq_block (pq_seq (pq_round (pq_block (pq_seq pq_body))))) (fun w hO => Own.take hO (by simp) (by simp)) (by kernel_rfl) rfl rfl (by kernel_rfl) (read_part cutC_len hcur (k + 1) 0 (by omega) (by omega) _ (by rw [hd]; kernel_rfl)) ?_
        refine h_one 10 (by kernel_rfl) ?_
        refine hl_callx _ (k := 68) (args := #[v, cutV c, cutV d]) (fun v' L' => ∃ ob', L' = ⟨g, cur, 48⟩ :: ob' ∧ SlS v' (growL out c d) ob') rfl (by kernel_rfl) (fun _ => by kernel_rfl) (fun w hO => grow_call c d hO hrel.sl (by omega) hrel.short hcS hdS) (fun v' L' ⟨ob', e, _⟩ => by subst e; exact (fun w hO => Own.take hO (by simp) (by simp))) (fun v2 L2 hv2 => ?_)
        obtain ⟨ob2, rfl, hs2⟩ := hv2
        refine hl_take 11 _ (v2) rfl (by kernel_rfl) (by kernel_rfl) (by kernel_rfl) (pq_block (pq_seq (pq_round (pq_block (pq_seq pq_body))))) (fun w hO => Own.take hO (by simp) (by simp)) (by kernel_rfl) (fun _ _ => by kernel_rfl) ?_
        refine h_done (by kernel_rfl) ?_
        refine fin_block ?_
        refine fin_seq ?_
        refine ok_region ?_
        refine s_val (.int .i64 (k : Int)) (by kernel_rfl) (fun _ => by kernel_rfl) ?_
        refine s_sum (k := .i64) (((k + 1 : Nat) : Int)) (by kernel_rfl) (fun _ => by kernel_rfl) (IntWalk.i64_in _ (by omega)) ?_
        refine s_val (.int .i64 ((k + 1 : Nat) : Int)) (by kernel_rfl) (fun _ => by kernel_rfl) ?_
        refine s_nil ?_
        exact fin_round (m' := cs.length - (k + 1)) (by omega) ⟨k + 1, v2, growL out c d, ob2, _, hrel.grow hk hc hd (by simp [h1, h2, h3]) hcS hdS hs2, rfl, upds_self _ ⟨by kernel_rfl, by kernel_rfl, by kernel_rfl, by kernel_rfl, trivial⟩, rfl⟩
    · skip
      refine s_dec (p := ((k + 1 : Nat) : Int) < (cs.length : Int)) false (by kernel_rfl) (fun _ => by kernel_rfl) (decide_eq_false (h2)) ?_
      refine s_nil ?_
      refine fin_seq ?_
      refine ok_false (by kernel_rfl) ?_
      refine ok_exit ?_
      refine fin_seq_exit ?_
      refine fin_round_exit ?_
      refine fin_block_exit ?_
      refine fin_seq ?_
      refine ok_seq ?_
      refine ok_region ?_
      refine s_val (v) (by kernel_rfl) (fun _ => by kernel_rfl) ?_
      refine s_val (v) (by kernel_rfl) (fun _ => by kernel_rfl) ?_
      refine s_nil ?_
      refine fin_seq ?_
      refine ok_ret ?_
      refine fin_ret (v) Tryz.results31 (by kernel_rfl) ?_
      exact fun w hO => ⟨v, ob, rfl, by rw [if_pos rfl, show notL l = out from by unfold notL; rw [← hcs, hrel.eq, build_end _ _ _ _ (by omega)]]; exact hrel.sl, hO.sub [_]⟩
  | false =>
    refine s_val (.bool true) (by kernel_rfl) (fun _ => by kernel_rfl) ?_
    refine s_nil ?_
    refine fin_seq ?_
    refine ok_true (by kernel_rfl) ?_
    refine ok_seq ?_
    refine ok_region ?_
    refine s_val (.slice none 0 0) (by kernel_rfl) (fun _ => by kernel_rfl) ?_
    refine s_nil ?_
    refine fin_seq ?_
    refine ok_ret ?_
    refine fin_seq_ret ?_
    refine fin_ret (.slice none 0 0) Tryz.results31 (by kernel_rfl) ?_
    exact fun w hO => ⟨_, [], rfl, by rw [if_neg (by decide)]; exact Sl.nil _ _, by simpa using hO⟩
end Go.Proofs.YtjabcbagggicaaaGreatDoor
end

section
/-
  linchpinref4.Make: a row out of any spans.
-/
namespace Go.Proofs.YtjabcbagggicaaaGreatDoor
open Go.RowKit
set_option maxRecDepth 100000
set_option linter.unusedVariables false
set_option linter.unusedSimpArgs false
set_option maxHeartbeats 2000000

def allMay (l : List Sp) : Bool := l.all (·.may)
theorem allMay_mem {l : List Sp} : allMay l = true ↔ ∀ s ∈ l, s.may = true := by unfold allMay; rw [List.all_eq_true]
theorem allMay_take (l : List Sp) (k : Nat) (hk : k < l.length) (h : allMay (l.take k) = true) (hs : l[k].may = true) : allMay (l.take (k + 1)) = true := by
  rw [allMay_mem] at h ⊢
  rw [List.take_succ_eq_append_getElem hk]
  intro x hx
  rcases List.mem_append.1 hx with hx | hx
  · exact h x hx
  · obtain rfl : x = l[k] := by simpa using hx
    exact hs
theorem allMay_not (l : List Sp) (k : Nat) (hk : k < l.length) (hs : l[k].may = false) : allMay l = false := by
  cases h : allMay l with
  | false => rfl
  | true => rw [allMay_mem.1 h _ (List.getElem_mem hk)] at hs; cases hs

end Go.Proofs.YtjabcbagggicaaaGreatDoor
end

section
/-
  linchpinref4.And, Or.
-/
namespace Go.Proofs.YtjabcbagggicaaaGreatDoor
open Go.RowKit
set_option maxRecDepth 100000
set_option linter.unusedVariables false
set_option linter.unusedSimpArgs false
set_option maxHeartbeats 2000000

end Go.Proofs.YtjabcbagggicaaaGreatDoor
end

section
/-
  linchpinref4.Within.
-/
namespace Go.Proofs.YtjabcbagggicaaaGreatDoor
open Go.RowKit
set_option maxRecDepth 100000
set_option linter.unusedVariables false
set_option linter.unusedSimpArgs false
set_option maxHeartbeats 2000000

theorem build_len (p : Cu → Cu → Bool) : ∀ (cs : List Cu) (out : List Sp), (buildL p out cs).length ≤ out.length + cs.length
  | [], out => by unfold buildL; simp
  | [c], out => by unfold buildL; simp
  | c :: d :: r, out => by
    have ih := build_len p (d :: r) (if p c d then growL out c d else out)
    unfold buildL
    have : (if p c d = true then growL out c d else out).length ≤ out.length + 1 := by
      split
      · exact grow_len out c d
      · omega
    simp only [List.length_cons] at ih ⊢
    omega
end Go.Proofs.YtjabcbagggicaaaGreatDoor
end

section
/-
  Plain mathematics of rows as package row computes them: a span behind a row, the contrary, both, the merging of sorted spans. No condition of their own.
-/
namespace Go.Proofs.YtjabcbagggicaaaGreatDoor
set_option linter.unusedVariables false
set_option linter.unusedSimpArgs false

def minC (a b : Cu) : Cu := if 0 < cmpC a b then b else a
def maxC (a b : Cu) : Cu := if 0 < cmpC a b then a else b
theorem maxC_may {a b : Cu} (ha : a.may = true) (hb : b.may = true) : (maxC a b).may = true := by unfold maxC; split <;> assumption
theorem sp_may_of {c d : Cu} (h : cmpC c d < 0) : (Sp.mk c d).may = true := by
  unfold Sp.may
  have := cmpC_range c d
  rw [decide_eq_true_eq]; show cmpC c d = -1; omega
theorem sp_not_of {c d : Cu} (h : (Sp.mk c d).may = false) : ¬ cmpC c d < 0 := fun h2 => by rw [sp_may_of h2] at h; cases h
theorem in_none {c d x : Cu} (hc : c.may = true) (hd : d.may = true) (hx : x.may = true) (h : ¬ cmpC c d < 0) : inSp ⟨c, d⟩ x = false := by
  unfold inSp
  rw [Bool.and_eq_false_iff, decide_eq_false_iff_not, decide_eq_false_iff_not]
  by_cases h1 : cmpC c x ≤ 0
  · exact .inr fun h2 => h (cle_lt hc hx hd h1 h2)
  · exact .inl h1
/-- A row with a stretch behind it, if it is one. -/
def addL (l : List Sp) (c d : Cu) : List Sp := if (Sp.mk c d).may then l ++ [⟨c, d⟩] else l
theorem add_ok {out : List Sp} {c d : Cu} (ho : rowMay out = true) (hl : ∀ t ∈ out.getLast?, cmpC t.hi c < 0) : rowMay (addL out c d) = true := by
  unfold addL
  split
  · exact row_snoc ho (by assumption) hl
  · exact ho
theorem add_den {out : List Sp} {c d x : Cu} (hc : c.may = true) (hd : d.may = true) (hx : x.may = true) : den (addL out c d) x = (den out x || inSp ⟨c, d⟩ x) := by
  unfold addL
  split
  · rw [den_app]; unfold den; simp
  · rename_i h
    rw [in_none hc hd hx (sp_not_of (by simpa using h)), Bool.or_false]
theorem add_last {out : List Sp} {c d : Cu} : ∀ t ∈ (addL out c d).getLast?, t = ⟨c, d⟩ ∨ (t ∈ out.getLast? ∧ ¬ cmpC c d < 0) := by
  unfold addL
  split
  · intro t ht
    rw [List.getLast?_concat] at ht
    exact .inl (Option.some.inj ht).symm
  · rename_i h
    exact fun t ht => .inr ⟨ht, sp_not_of (by simpa using h)⟩
theorem add_len (l : List Sp) (c d : Cu) : (addL l c d).length ≤ l.length + 1 := by unfold addL; split <;> simp
/-! ### The contrary -/
def nstep (p : List Sp × Cu) (s : Sp) : List Sp × Cu := (addL p.1 p.2 s.lo, s.hi)
def notG (l : List Sp) : List Sp := addL (l.foldl nstep ([], endC (-1))).1 (l.foldl nstep ([], endC (-1))).2 (endC 1)
theorem den_cons (s : Sp) (l : List Sp) (x : Cu) : den (s :: l) x = (inSp s x || den l x) := by unfold den; rw [List.any_cons]
theorem den_after {s : Sp} {l : List Sp} {x : Cu} (h : rowMay (s :: l) = true) (hx : x.may = true) (hlt : cmpC x s.hi ≤ 0) : den l x = false :=
  den_before fun t ht => cle_lt hx (span_mays (row_head h)).2 (span_mays (row_mem h t (List.mem_cons_of_mem _ ht))).1 hlt (row_after h t ht)
theorem not_go : ∀ (l out : List Sp) (f : Cu), rowMay l = true → rowMay out = true → f.may = true → (∀ t ∈ out.getLast?, cmpC t.hi f < 0) → (∀ s ∈ l.head?, cmpC f s.lo ≤ 0) →
    rowMay (addL (l.foldl nstep (out, f)).1 (l.foldl nstep (out, f)).2 (endC 1)) = true ∧ ∀ x : Cu, x.may = true → cmpC x (endC 1) < 0 → den (addL (l.foldl nstep (out, f)).1 (l.foldl nstep (out, f)).2 (endC 1)) x = (den out x || (decide (cmpC f x ≤ 0) && !den l x))
  | [], out, f, hl, ho, hf, h1, h2 => ⟨add_ok ho h1, fun x hx he => by
      show den (addL out f (endC 1)) x = _
      rw [add_den hf last_may hx]
      unfold inSp
      rw [decide_eq_true he]
      simp [den]⟩
  | s :: r, out, f, hl, ho, hf, h1, h2 => by
    have hs := row_head hl
    obtain ⟨m1, m2⟩ := span_mays hs
    have hlt := sp_lt hs
    have hfs : cmpC f s.lo ≤ 0 := h2 s rfl
    have ih := not_go r (addL out f s.lo) s.hi (row_tail hl) (add_ok ho h1) m2 (fun t ht => by
      rcases add_last t ht with rfl | ⟨h3, h4⟩
      · exact hlt
      · exact clt_trans (span_mays (row_mem ho t (List.mem_of_getLast? h3))).2 hf m2 (h1 t h3) (cle_lt hf m1 m2 hfs hlt)) (fun t ht => by
        have := row_after hl t (List.mem_of_mem_head? ht); omega)
    refine ⟨ih.1, fun x hx he => ?_⟩
    show den (addL (r.foldl nstep (addL out f s.lo, s.hi)).1 (r.foldl nstep (addL out f s.lo, s.hi)).2 (endC 1)) x = _
    rw [ih.2 x hx he, add_den hf m1 hx, den_cons]
    unfold inSp
    show (den out x || (decide (cmpC f x ≤ 0) && decide (cmpC x s.lo < 0)) || _) = _
    by_cases c1 : cmpC x s.lo < 0
    · have c2 : cmpC x s.hi < 0 := clt_trans hx m1 m2 c1 hlt
      rw [decide_eq_true c1, den_after hl hx (by omega), decide_eq_false (show ¬ cmpC s.hi x ≤ 0 from by have := cut_anti (a := x) (b := s.hi); omega), decide_eq_false (show ¬ cmpC s.lo x ≤ 0 from by have := cut_anti (a := x) (b := s.lo); omega)]
      simp
    · rw [decide_eq_false c1]
      have c3 : cmpC s.lo x ≤ 0 := cle_flip c1
      rw [decide_eq_true c3, decide_eq_true (cle_trans hf m1 hx hfs c3)]
      by_cases c4 : cmpC x s.hi < 0
      · rw [decide_eq_true c4, decide_eq_false (show ¬ cmpC s.hi x ≤ 0 from by have := cut_anti (a := x) (b := s.hi); omega)]
        simp
      · rw [decide_eq_false c4, decide_eq_true (cle_flip c4)]
        simp
theorem notG_eq {l : List Sp} (h : rowMay l = true) : notG l = notL l := by
  have h1 := not_go l [] (endC (-1)) h rfl first_may (fun t ht => by simp at ht) (fun s hs => first_le (span_mays (row_mem h s (List.mem_of_mem_head? hs))).1)
  have h2 := not_ok h
  refine row_ext _ _ h1.1 h2.1 fun c hc he => ?_
  rw [h2.2 c hc he]
  show den (addL _ _ _) c = _
  rw [h1.2 c hc he, decide_eq_true (first_le hc)]
  simp [den]
/-! ### Both -/
def andG : Nat → List Sp → List Sp → List Sp → List Sp
  | n + 1, out, s :: a, u :: b => if s.hi = minC s.hi u.hi then andG n (addL out (maxC s.lo u.lo) (minC s.hi u.hi)) a (u :: b) else andG n (addL out (maxC s.lo u.lo) (minC s.hi u.hi)) (s :: a) b
  | _, out, _, _ => out
theorem maxC_ge {a b : Cu} (ha : a.may = true) (hb : b.may = true) : cmpC a (maxC a b) ≤ 0 ∧ cmpC b (maxC a b) ≤ 0 := by
  unfold maxC
  split
  · rename_i h
    exact ⟨by rw [cut_self]; decide, by have := cut_anti (a := a) (b := b); omega⟩
  · rename_i h
    exact ⟨by omega, by rw [cut_self]; decide⟩
/-! ### Sorted spans merged -/
def mstep (out : List Sp) (s : Sp) : List Sp :=
  match out.getLast? with
  | none => [s]
  | some t => if cmpC t.hi s.lo < 0 then out ++ [s] else out.dropLast ++ [⟨t.lo, maxC t.hi s.hi⟩]
theorem in_merge {s t : Sp} {x : Cu} (hs : s.may = true) (ht : t.may = true) (hx : x.may = true) (h1 : cmpC t.lo s.lo ≤ 0) (h2 : cmpC s.lo t.hi ≤ 0) : inSp ⟨t.lo, maxC t.hi s.hi⟩ x = (inSp t x || inSp s x) := by
  obtain ⟨s1, s2⟩ := span_mays hs
  obtain ⟨t1, t2⟩ := span_mays ht
  unfold inSp
  show (decide (cmpC t.lo x ≤ 0) && decide (cmpC x (maxC t.hi s.hi) < 0)) = _
  by_cases c1 : cmpC t.lo x ≤ 0
  · rw [decide_eq_true c1]
    unfold maxC
    split
    · rename_i h
      by_cases c2 : cmpC x s.hi < 0
      · rw [decide_eq_true (show cmpC x t.hi < 0 from clt_trans hx s2 t2 c2 (by have := cut_anti (a := t.hi) (b := s.hi); omega))]; simp
      · rw [decide_eq_false c2]; simp
    · rename_i h
      by_cases c2 : cmpC x t.hi < 0
      · rw [decide_eq_true c2, decide_eq_true (show cmpC x s.hi < 0 from clt_le hx t2 s2 c2 (by omega))]; simp
      · rw [decide_eq_false c2, decide_eq_true (show cmpC s.lo x ≤ 0 from cle_trans s1 t2 hx h2 (cle_flip c2))]; simp
  · rw [decide_eq_false c1, decide_eq_false (show ¬ cmpC s.lo x ≤ 0 from fun h => c1 (cle_trans t1 s1 hx h1 h))]; simp
theorem mstep_ok {out : List Sp} {s : Sp} (ho : rowMay out = true) (hs : s.may = true) (hl : ∀ t ∈ out.getLast?, cmpC t.lo s.lo ≤ 0) :
    rowMay (mstep out s) = true ∧ (∀ t ∈ (mstep out s).getLast?, t.lo = s.lo ∨ ∃ t' ∈ out.getLast?, t.lo = t'.lo) ∧ ∀ x : Cu, x.may = true → den (mstep out s) x = (den out x || inSp s x) := by
  unfold mstep
  cases hg : out.getLast? with
  | none =>
    have : out = [] := by simpa using hg
    subst this
    refine ⟨row_snoc (l := []) rfl hs (fun t ht => by simp at ht), fun t ht => ?_, fun x _ => by simp [den]⟩
    obtain rfl : s = t := by simpa using ht
    exact .inl rfl
  | some t =>
    have hlo := hl t hg
    have hsp := last_split hg
    have htm := row_mem ho t (List.mem_of_getLast? hg)
    obtain ⟨s1, s2⟩ := span_mays hs
    obtain ⟨t1, t2⟩ := span_mays htm
    dsimp only
    split
    · rename_i h
      refine ⟨row_snoc ho hs (fun t' ht' => by rw [hg] at ht'; obtain rfl := Option.some.inj ht'; exact h), fun t' ht' => ?_, fun x _ => by rw [den_app]; simp [den]⟩
      rw [List.getLast?_concat] at ht'
      obtain rfl := Option.some.inj ht'
      exact .inl rfl
    · rename_i h
      have hi := row_init (hsp ▸ ho)
      have hmay : (Sp.mk t.lo (maxC t.hi s.hi)).may = true := sp_may_of (clt_le t1 t2 (maxC_may t2 s2) (sp_lt htm) (maxC_ge t2 s2).1)
      refine ⟨row_snoc hi.1 hmay (fun x hx => hi.2 x hx), fun t' ht' => ?_, fun x hx => ?_⟩
      · rw [List.getLast?_concat] at ht'
        obtain rfl := Option.some.inj ht'
        exact .inr ⟨t, rfl, rfl⟩
      · rw [den_app]
        conv => rhs; rw [hsp, den_app]
        have e := in_merge hs htm hx hlo (cle_flip h)
        simp only [den, List.any_cons, List.any_nil, Bool.or_false] at e ⊢
        rw [e, Bool.or_assoc]
def SortedC : List Sp → Prop
  | [] => True
  | s :: r => (∀ t ∈ r, cmpC s.lo t.lo ≤ 0) ∧ SortedC r
theorem merge_go : ∀ (l out : List Sp), (∀ s ∈ l, s.may = true) → SortedC l → rowMay out = true → (∀ t ∈ out.getLast?, ∀ s ∈ l, cmpC t.lo s.lo ≤ 0) →
    rowMay (l.foldl mstep out) = true ∧ ∀ x : Cu, x.may = true → den (l.foldl mstep out) x = (den out x || den l x)
  | [], out, _, _, ho, _ => ⟨ho, fun x _ => by simp [den]⟩
  | s :: r, out, hm, hso, ho, hl => by
    have h1 := mstep_ok ho (hm s (List.mem_cons_self ..)) (fun t ht => hl t ht s (List.mem_cons_self ..))
    have ih := merge_go r (mstep out s) (fun t ht => hm t (List.mem_cons_of_mem _ ht)) hso.2 h1.1 (fun t ht u hu => by
      rcases h1.2.1 t ht with e | ⟨t', ht', e⟩
      · rw [e]; exact hso.1 u hu
      · rw [e]; exact hl t' ht' u (List.mem_cons_of_mem _ hu))
    refine ⟨ih.1, fun x hx => ?_⟩
    show den (r.foldl mstep (mstep out s)) x = _
    rw [ih.2 x hx, h1.2.2 x hx, den_cons, Bool.or_assoc]
theorem merge_eq {l d : List Sp} (hm : ∀ s ∈ l, s.may = true) (hp : d.Perm l) (hs : SortedC d) : d.foldl mstep [] = makeL l := by
  have hmd : ∀ s ∈ d, s.may = true := fun s h => hm s (hp.mem_iff.1 h)
  have h1 := merge_go d [] hmd hs rfl (fun t ht => by simp at ht)
  have h2 := make_ok hm
  refine row_ext _ _ h1.1 h2.1 fun c hc he => ?_
  rw [h2.2 c hc he, h1.2 c hc]
  show (false || den d c) = den l c
  rw [Bool.false_or]
  unfold den
  exact hp.any_eq
theorem mstep_len (out : List Sp) (s : Sp) : (mstep out s).length ≤ out.length + 1 := by
  unfold mstep
  split
  · simp
  · split
    · simp
    · first | (simp; done) | (simp; omega)
end Go.Proofs.YtjabcbagggicaaaGreatDoor
end

section
/-
  Plain mathematics: the laws of rows; a valid version's Pre is short. No condition of their own.
-/
namespace Go.Proofs.YtjabcbagggicaaaGreatDoor
set_option linter.unusedVariables false
set_option linter.unusedSimpArgs false

theorem cutAt_len (c : UInt8) : ∀ s : List UInt8, s.length = (cutAt c s).1.length + (if (cutAt c s).2.2 then 1 + (cutAt c s).2.1.length else 0)
  | [] => rfl
  | b :: r => by
    unfold cutAt
    have ih := cutAt_len c r
    by_cases h : b = c
    · first | (simp [h]; done) | (subst h; simp; omega) | (simp [h]; omega)
    · first | (simp [h] at ih ⊢; omega) | (simp [h, Ne.symm h] at ih ⊢; omega)
theorem cutGo_short : ∀ (n : Nat) (s : List UInt8), (cutGo n s).2 = true → s.length ≤ 9 * n
  | 0, s, h => by simp [cutGo] at h
  | n + 1, s, h => by
    have hl := cutAt_len 46 s
    cases ht : tagOk (cutAt 46 s).1 with
    | false => rw [cutGo_bad n s ht] at h; cases h
    | true =>
      have h8 : (cutAt 46 s).1.length ≤ 8 := Nat.le_of_not_lt fun h2 => by rw [tagOk_long h2] at ht; cases ht
      cases hm : (cutAt 46 s).2.2 with
      | false => rw [hm] at hl; simp at hl; omega
      | true =>
        rw [cutGo_on n s ht hm] at h
        have ih := cutGo_short n _ h
        rw [hm] at hl; simp at hl; omega
theorem preOk_short {s : List UInt8} (h : preOk s = true) : s.length ≤ 36 := by
  rw [preOk_lst, Bool.and_eq_true] at h
  have h1 := h.1
  unfold lst at h1
  split at h1
  · rename_i h0
    have : s = [] := by simpa using h0
    subst this; exact Nat.zero_le _
  · have := cutGo_short _ _ h1; omega
theorem may_short {v : Ver} (h : v.may = true) (hb : v.build = []) : v.short := ⟨by have := preOk_short (may_pre h); omega, by rw [hb]; exact Nat.zero_le _⟩
theorem cu_short {c : Cu} (h : c.may = true) : c.short := may_short (may_v h) (may_build h)
theorem sp_short {s : Sp} (h : s.may = true) : s.short := ⟨cu_short (span_mays h).1, cu_short (span_mays h).2⟩
/-- A valid row of at most n spans. -/
structure RF (l : List Sp) (n : Nat) : Prop where
  may : rowMay l = true
  len : l.length ≤ n
theorem RF.short {l : List Sp} {n : Nat} (h : RF l n) : ShortL l := fun s hs => sp_short (row_mem h.may s hs)
theorem cuts_len {l : List Sp} (hl : ∀ s ∈ l, s.may = true) : (cutsL l).length ≤ 2 + 2 * l.length := by
  have h := (cuts_size l (fun s hs => sp_short (hl s hs)) l.length (Nat.le_refl _)).1
  rwa [List.take_length] at h
theorem RF.make {l : List Sp} {n : Nat} (hl : ∀ s ∈ l, s.may = true) (hn : l.length ≤ n) : RF (makeL l) (2 + 2 * n) := ⟨(make_ok hl).1, by
  have h1 := build_len (inL l) (cutsL l) []
  have h2 := cuts_len hl
  unfold makeL
  rw [List.length_nil] at h1
  omega⟩
theorem RF.or {a b : List Sp} {n m : Nat} (ha : RF a n) (hb : RF b m) : RF (orL a b) (2 + 2 * (n + m)) := RF.make (both_may ha.may hb.may) (by rw [List.length_append]; have := ha.len; have := hb.len; omega)
theorem RF.and {a b : List Sp} {n m : Nat} (ha : RF a n) (hb : RF b m) : RF (andL a b) (2 + 2 * (n + m)) := ⟨(and_ok ha.may hb.may).1, by
  have h1 := build_len (fun c d => inL a c d && inL b c d) (cutsL (a ++ b)) []
  have h2 := cuts_len (both_may ha.may hb.may)
  have := ha.len; have := hb.len
  unfold andL
  rw [List.length_append] at h2
  rw [List.length_nil] at h1
  omega⟩
theorem RF.not {a : List Sp} {n : Nat} (ha : RF a n) : RF (notL a) (2 + 2 * n) := ⟨(not_ok ha.may).1, by
  have h1 := build_len (fun c d => !inL a c d) (cutsL a) []
  have h2 := cuts_len (row_mem ha.may)
  have := ha.len
  unfold notL
  rw [List.length_nil] at h1
  omega⟩
section
variable {a b c : List Sp} (ha : rowMay a = true) (hb : rowMay b = true) (hc : rowMay c = true)
include ha in
end
end Go.Proofs.YtjabcbagggicaaaGreatDoor
end

section
/-
  Steps: two results in two variables; a region whose ends are brought together; the rest of a slice that came in. No condition of their own.
-/
namespace Go.Proofs.YtjabcbagggicaaaGreatDoor
open Go.RowKit
set_option linter.unusedVariables false
set_option linter.unusedSimpArgs false
section
variable {M : List Nat} {P : Program} {n : Nat} {W : World} {Q : Exit → Act → World → Prop} {L : List Blk} {f : Nat → Value}
theorem fin_cc {fn : Func} {R : Ending → World → Prop} {p q : Tmp} {ty tz : TypeId} (i j : Nat) (x y : Blk) {off oft : Nat} (v v' : Value) (hres : fn.results = #[.cell p ty, .cell q tz]) (hL : L[i]? = some x) (hL' : L[j]? = some y)
    (hp : ev n f (.tmp p) = .pointer (some ⟨x.b, off, none⟩)) (hq : ev n f (.tmp q) = .pointer (some ⟨y.b, oft, none⟩)) (hv : readAt P ty x.cs off = some v) (hv' : readAt P tz y.cs oft = some v') (hR : ∀ w, Own M W w L → R (.returned (.tuple #[v, v'])) w) : Fin M n W (bodyPost P fn R) .ret L f := ⟨fun w hO => by
  refine bodyPost_ret (v := .tuple #[v, v']) ?_ rfl (hR w hO)
  have e : (Fr n f).tmps.getD p undef = .pointer (some ⟨x.b, off, none⟩) := (getD_ofFn n f p).trans hp
  have e' : (Fr n f).tmps[p]?.getD undef = .pointer (some ⟨x.b, off, none⟩) := by simpa using e
  have e2 : (Fr n f).tmps.getD q undef = .pointer (some ⟨y.b, oft, none⟩) := (getD_ofFn n f q).trans hq
  have e2' : (Fr n f).tmps[q]?.getD undef = .pointer (some ⟨y.b, oft, none⟩) := by simpa using e2
  have h1 := run_readAt hv (hO.get hL)
  have h2 := run_readAt hv' (hO.get hL')
  simp [results, hres, e', e2', asAddr, h1, h2]⟩
def JoinQ (M : List Nat) (n : Nat) (W : World) (R : List Blk → (Nat → Value) → Prop) : Exit → Act → World → Prop
  | .normal, a, w => ∃ L f, R L f ∧ Own M W w L ∧ a = Fr n f
  | _, _, _ => False
theorem pq_join {R : List Blk → (Nat → Value) → Prop} : PQ (JoinQ M n W R) := fun c a d v w h => h
theorem ok_join {c : Code} (R : List Blk → (Nat → Value) → Prop) (h1 : Ok M P n W (JoinQ M n W R) c L f) (h2 : ∀ L f, R L f → Fin M n W Q .normal L f) : Ok M P n W Q c L f := ⟨fun w hO =>
  Code.wp_mono (fun e a w h => by
    cases e with
    | normal =>
      obtain ⟨L', f', hR, hO', rfl⟩ := h
      exact (h2 L' f' hR).go w hO'
    | _ => exact absurd h id) (h1.go w hO)⟩
theorem fin_join {R : List Blk → (Nat → Value) → Prop} (h : R L f) : Fin M n W (JoinQ M n W R) .normal L f := ⟨fun w hO => ⟨L, f, h, hO, rfl⟩⟩
end
/-- s[1:] of a slice that came in. -/
theorem Reads.tail {α : Type} {g : α → List Value} {sz : Nat} (hg : ∀ x, (g x).length = sz) {w : World} {B b off c : Nat} {x : α} {l : List α} (h : Reads g w B (some ⟨b, off, none⟩) (x :: l)) (hc : l.length < c) : Reads g w B (some ⟨b, off + (if c = (1 : Int).toNat then 0 else (1 : Int).toNat * sz), none⟩) l := fun h0 => by
  obtain ⟨b', off', e, hlt, hcell⟩ := h (by simp)
  obtain ⟨rfl, rfl⟩ : b = b' ∧ off = off' := by simp at e; exact e
  refine ⟨b, _, rfl, hlt, fun k u hk => ?_⟩
  rw [if_neg (by show ¬ c = 1; omega)]
  have := hcell (sz + k) u (by rw [List.flatMap_cons, List.getElem?_append_right (by rw [hg]; omega), hg]; rw [show sz + k - sz = k from by omega]; exact hk)
  rw [show off + (1 : Int).toNat * sz + k = off + (sz + k) from by show off + 1 * sz + k = _; omega]
  exact this
end Go.Proofs.YtjabcbagggicaaaGreatDoor
end

section
/-
  Package row's small functions: order, the test of Has; slices.IndexFunc, ContainsFunc with it.
-/
namespace Go.Proofs.YtjabcbagggicaaaGreatDoor
open Go.RowKit
set_option maxRecDepth 100000
set_option linter.unusedVariables false
set_option linter.unusedSimpArgs false
set_option maxHeartbeats 2000000


theorem maxC_short {a b : Cu} (ha : a.short) (hb : b.short) : (maxC a b).short := by unfold maxC; split <;> assumption

theorem order_any (a b : Cu) (W : World) (ha : a.short) (hb : b.short) :
    Calls Tryz.prog 128 #[cutV a, cutV b] W fun e w' => e = .returned (.tuple #[cutV (minC a b), cutV (maxC a b)]) ∧ Below W.heap.size W w' := by
  refine calls_ok (n := 14) Tryz.func128 rfl (by kernel_rfl) (by kernel_rfl) ?_
  refine ok_seq ?_
  refine ok_region ?_
  refine s_box (cutV a) (by kernel_rfl) rfl (by kernel_rfl) (fun b1 => ?_)
  refine s_box (cutV b) (by kernel_rfl) rfl (by kernel_rfl) (fun b2 => ?_)
  refine s_alloc_at (.agg #[.int .i64 0, .int .i64 0, .int .i64 0, .int .i64 0, .string ⟨#[]⟩, .string ⟨#[]⟩, .bool false]) (by kernel_rfl) rfl (by kernel_rfl) (fun b3 => ?_)
  refine s_alloc_at (.agg #[.int .i64 0, .int .i64 0, .int .i64 0, .int .i64 0, .string ⟨#[]⟩, .string ⟨#[]⟩, .bool false]) (by kernel_rfl) rfl (by kernel_rfl) (fun b4 => ?_)
  refine s_nil ?_
  refine fin_seq ?_
  refine ok_seq ?_
  refine ok_seq ?_
  refine ok_region ?_
  refine s_load 3 ⟨b1, (cutV a).cells, 48⟩ (off := 0) (cutV a) (by kernel_rfl) rfl (by kernel_rfl) (by kernel_rfl) (by kernel_rfl) ?_
  refine s_load 2 ⟨b2, (cutV b).cells, 48⟩ (off := 0) (cutV b) (by kernel_rfl) rfl (by kernel_rfl) (by kernel_rfl) (by kernel_rfl) ?_
  refine s_call (k := 127) (args := #[cutV a, cutV b]) (.int .i64 (cmpC a b)) (by kernel_rfl) (fun _ => by kernel_rfl) (fun w _ => cmpC_any a b w ha hb) ?_
  by_cases h1 : (0 : Int) < cmpC a b
  · skip
    refine s_dec (p := (0 : Int) < cmpC a b) true (by kernel_rfl) (fun _ => by kernel_rfl) (decide_eq_true (h1)) ?_
    refine s_nil ?_
    refine fin_seq ?_
    refine ok_true (by kernel_rfl) ?_
    refine ok_seq ?_
    refine ok_anyhL [⟨b2, (cutV b).cells, 48⟩, ⟨b1, (cutV a).cells, 48⟩] (by kernel_rfl) (fun w hO => Own.sub [⟨b4, #[.int .i64 0, .int .i64 0, .int .i64 0, .int .i64 0, .string ⟨#[]⟩, .string ⟨#[]⟩, .bool false], 48⟩, ⟨b3, #[.int .i64 0, .int .i64 0, .int .i64 0, .int .i64 0, .string ⟨#[]⟩, .string ⟨#[]⟩, .bool false], 48⟩] hO) ?_
    refine h_load 0 [⟨b4, #[.int .i64 0, .int .i64 0, .int .i64 0, .int .i64 0, .string ⟨#[]⟩, .string ⟨#[]⟩, .bool false], 48⟩, ⟨b3, #[.int .i64 0, .int .i64 0, .int .i64 0, .int .i64 0, .string ⟨#[]⟩, .string ⟨#[]⟩, .bool false], 48⟩] _ 0 ⟨b2, (cutV b).cells, 48⟩ (off := 0) (cutV b) rfl (by kernel_rfl) (by kernel_rfl) (by kernel_rfl) (pq_seq (pq_seq pq_body)) (by kernel_rfl) rfl (by kernel_rfl) (by kernel_rfl) (by kernel_rfl) ?_
    refine h_load 1 [⟨b4, #[.int .i64 0, .int .i64 0, .int .i64 0, .int .i64 0, .string ⟨#[]⟩, .string ⟨#[]⟩, .bool false], 48⟩, ⟨b3, #[.int .i64 0, .int .i64 0, .int .i64 0, .int .i64 0, .string ⟨#[]⟩, .string ⟨#[]⟩, .bool false], 48⟩] _ 1 ⟨b1, (cutV a).cells, 48⟩ (off := 0) (cutV a) rfl (by kernel_rfl) (by kernel_rfl) (by kernel_rfl) (pq_seq (pq_seq pq_body)) (by kernel_rfl) rfl (by kernel_rfl) (by kernel_rfl) (by kernel_rfl) ?_
    refine h_one 2 (by kernel_rfl) ?_
    refine hs_store [⟨b4, #[.int .i64 0, .int .i64 0, .int .i64 0, .int .i64 0, .string ⟨#[]⟩, .string ⟨#[]⟩, .bool false], 48⟩, ⟨b3, #[.int .i64 0, .int .i64 0, .int .i64 0, .int .i64 0, .string ⟨#[]⟩, .string ⟨#[]⟩, .bool false], 48⟩] _ 1 ⟨b3, #[.int .i64 0, .int .i64 0, .int .i64 0, .int .i64 0, .string ⟨#[]⟩, .string ⟨#[]⟩, .bool false], 48⟩ (off := 0) (cutV b) rfl (by kernel_rfl) rfl rfl (by kernel_rfl) (by kernel_rfl) (by kernel_rfl) (by kernel_rfl) (by kernel_rfl) ?_
    refine h_one 3 (by kernel_rfl) ?_
    refine hs_store [⟨b4, #[.int .i64 0, .int .i64 0, .int .i64 0, .int .i64 0, .string ⟨#[]⟩, .string ⟨#[]⟩, .bool false], 48⟩, ⟨b3, (cutV b).cells, 48⟩] _ 0 ⟨b4, #[.int .i64 0, .int .i64 0, .int .i64 0, .int .i64 0, .string ⟨#[]⟩, .string ⟨#[]⟩, .bool false], 48⟩ (off := 0) (cutV a) rfl (by kernel_rfl) rfl rfl (by kernel_rfl) (by kernel_rfl) (by kernel_rfl) (by kernel_rfl) (by kernel_rfl) ?_
    refine h_done (by kernel_rfl) ?_
    refine fin_seq ?_
    refine ok_ret ?_
    refine fin_seq_ret ?_
    refine fin_cc 1 0 ⟨b3, (cutV b).cells, 48⟩ ⟨b4, (cutV a).cells, 48⟩ (off := 0) (oft := 0) (cutV b) (cutV a) Tryz.results128 (by kernel_rfl) (by kernel_rfl) (by kernel_rfl) (by kernel_rfl) (by kernel_rfl) (by kernel_rfl) ?_
    exact fun w hO => ⟨by unfold minC maxC; simp only [h1, if_true, if_false], hO.below⟩
  · skip
    refine s_dec (p := (0 : Int) < cmpC a b) false (by kernel_rfl) (fun _ => by kernel_rfl) (decide_eq_false (h1)) ?_
    refine s_nil ?_
    refine fin_seq ?_
    refine ok_false (by kernel_rfl) ?_
    refine ok_skip ?_
    refine fin_seq ?_
    refine ok_seq ?_
    refine ok_anyhL [⟨b2, (cutV b).cells, 48⟩, ⟨b1, (cutV a).cells, 48⟩] (by kernel_rfl) (fun w hO => Own.sub [⟨b4, #[.int .i64 0, .int .i64 0, .int .i64 0, .int .i64 0, .string ⟨#[]⟩, .string ⟨#[]⟩, .bool false], 48⟩, ⟨b3, #[.int .i64 0, .int .i64 0, .int .i64 0, .int .i64 0, .string ⟨#[]⟩, .string ⟨#[]⟩, .bool false], 48⟩] hO) ?_
    refine h_load 0 [⟨b4, #[.int .i64 0, .int .i64 0, .int .i64 0, .int .i64 0, .string ⟨#[]⟩, .string ⟨#[]⟩, .bool false], 48⟩, ⟨b3, #[.int .i64 0, .int .i64 0, .int .i64 0, .int .i64 0, .string ⟨#[]⟩, .string ⟨#[]⟩, .bool false], 48⟩] _ 1 ⟨b1, (cutV a).cells, 48⟩ (off := 0) (cutV a) rfl (by kernel_rfl) (by kernel_rfl) (by kernel_rfl) (pq_seq pq_body) (by kernel_rfl) rfl (by kernel_rfl) (by kernel_rfl) (by kernel_rfl) ?_
    refine h_load 1 [⟨b4, #[.int .i64 0, .int .i64 0, .int .i64 0, .int .i64 0, .string ⟨#[]⟩, .string ⟨#[]⟩, .bool false], 48⟩, ⟨b3, #[.int .i64 0, .int .i64 0, .int .i64 0, .int .i64 0, .string ⟨#[]⟩, .string ⟨#[]⟩, .bool false], 48⟩] _ 0 ⟨b2, (cutV b).cells, 48⟩ (off := 0) (cutV b) rfl (by kernel_rfl) (by kernel_rfl) (by kernel_rfl) (pq_seq pq_body) (by kernel_rfl) rfl (by kernel_rfl) (by kernel_rfl) (by kernel_rfl) ?_
    refine h_one 2 (by kernel_rfl) ?_
    refine hs_store [⟨b4, #[.int .i64 0, .int .i64 0, .int .i64 0, .int .i64 0, .string ⟨#[]⟩, .string ⟨#[]⟩, .bool false], 48⟩, ⟨b3, #[.int .i64 0, .int .i64 0, .int .i64 0, .int .i64 0, .string ⟨#[]⟩, .string ⟨#[]⟩, .bool false], 48⟩] _ 1 ⟨b3, #[.int .i64 0, .int .i64 0, .int .i64 0, .int .i64 0, .string ⟨#[]⟩, .string ⟨#[]⟩, .bool false], 48⟩ (off := 0) (cutV a) rfl (by kernel_rfl) rfl rfl (by kernel_rfl) (by kernel_rfl) (by kernel_rfl) (by kernel_rfl) (by kernel_rfl) ?_
    refine h_one 3 (by kernel_rfl) ?_
    refine hs_store [⟨b4, #[.int .i64 0, .int .i64 0, .int .i64 0, .int .i64 0, .string ⟨#[]⟩, .string ⟨#[]⟩, .bool false], 48⟩, ⟨b3, (cutV a).cells, 48⟩] _ 0 ⟨b4, #[.int .i64 0, .int .i64 0, .int .i64 0, .int .i64 0, .string ⟨#[]⟩, .string ⟨#[]⟩, .bool false], 48⟩ (off := 0) (cutV b) rfl (by kernel_rfl) rfl rfl (by kernel_rfl) (by kernel_rfl) (by kernel_rfl) (by kernel_rfl) (by kernel_rfl) ?_
    refine h_done (by kernel_rfl) ?_
    refine fin_seq ?_
    refine ok_ret ?_
    refine fin_cc 1 0 ⟨b3, (cutV a).cells, 48⟩ ⟨b4, (cutV b).cells, 48⟩ (off := 0) (oft := 0) (cutV a) (cutV b) Tryz.results128 (by kernel_rfl) (by kernel_rfl) (by kernel_rfl) (by kernel_rfl) (by kernel_rfl) (by kernel_rfl) ?_
    exact fun w hO => ⟨by unfold minC maxC; simp only [h1, if_true, if_false], hO.below⟩
/-- The place of the first span that holds v, or -1. -/
def idxP (v : Ver) : List Sp → Int → Int
  | [], _ => -1
  | s :: r, k => if holdsC s v then k else idxP v r (k + 1)
end Go.Proofs.YtjabcbagggicaaaGreatDoor
end

section
/-
  Package row's May, Has.
-/
namespace Go.Proofs.YtjabcbagggicaaaGreatDoor
open Go.RowKit
set_option maxRecDepth 100000
set_option linter.unusedVariables false
set_option linter.unusedSimpArgs false
set_option maxHeartbeats 2000000


theorem may_drop : ∀ (a b : List Sp), rowMay (a ++ b) = true → rowMay b = true
  | [], _, h => h
  | _ :: a, b, h => may_drop a b (row_tail h)
theorem may_take_bad {l : List Sp} {k : Nat} (hk : k < l.length) (h : l[k].may = false) : rowMay l = false := by
  cases h2 : rowMay l with
  | false => rfl
  | true => rw [row_mem h2 _ (List.getElem_mem hk)] at h; cases h
theorem may_step {l : List Sp} {k : Nat} (hk : k < l.length) (h : rowMay (l.take k) = true) (hs : l[k].may = true) (hp : 0 < k → cmpC (l[k - 1]'(by omega)).hi l[k].lo < 0) : rowMay (l.take (k + 1)) = true := by
  rw [List.take_succ_eq_append_getElem hk]
  refine row_snoc h hs (fun s hs2 => ?_)
  by_cases h0 : k = 0
  · subst h0; simp at hs2
  · have e : s = l[k - 1]'(by omega) := by
      rw [List.getLast?_eq_getElem?, List.length_take, Nat.min_eq_left (by omega), List.getElem?_take, if_pos (by omega), List.getElem?_eq_getElem (by omega)] at hs2
      exact (Option.some.inj hs2).symm
    rw [e]; exact hp (by omega)
theorem may_not {l : List Sp} {k : Nat} (hk : k < l.length) (h0 : 0 < k) (h : ¬ cmpC (l[k - 1]'(by omega)).hi l[k].lo < 0) : rowMay l = false := by
  cases h2 : rowMay l with
  | false => rfl
  | true =>
    refine absurd ?_ h
    have e : l = l.take (k - 1) ++ (l[k - 1]'(by omega)) :: l[k] :: l.drop (k + 1) := by
      have e1 := (List.take_append_drop (k - 1) l).symm
      rw [List.drop_eq_getElem_cons (show k - 1 < l.length by omega)] at e1
      have e2 : l.drop (k - 1 + 1) = l[k] :: l.drop (k + 1) := by
        rw [show k - 1 + 1 = k from by omega, List.drop_eq_getElem_cons hk]
      rw [e2] at e1; exact e1
    have h3 : rowMay ((l[k - 1]'(by omega)) :: l[k] :: l.drop (k + 1)) = true := may_drop (l.take (k - 1)) _ (e ▸ h2)
    exact row_after h3 _ (List.mem_cons_self ..)
theorem may4_any (A : Option Addr) (cap : Nat) (l : List Sp) (W : World) (hv : Reads spanC W W.heap.size A l) (hn : l.length ≤ 1000000) (hl : ShortL l) :
    Calls Tryz.prog 90 #[.slice A l.length cap] W fun e w' => e = .returned (.bool (rowMay l)) ∧ Below W.heap.size W w' := by
  refine calls_ok (n := 30) Tryz.func90 rfl (by kernel_rfl) (by kernel_rfl) ?_
  refine ok_seq ?_
  refine ok_region ?_
  refine s_val (.bool false) (by kernel_rfl) (fun _ => by kernel_rfl) ?_
  refine s_nil ?_
  refine fin_seq ?_
  refine ok_seq ?_
  refine ok_seq ?_
  refine ok_region ?_
  refine s_val (.slice A l.length cap) (by kernel_rfl) (fun _ => by kernel_rfl) ?_
  refine s_val (.int .i64 (l.length : Int)) (by kernel_rfl) (fun _ => by kernel_rfl) ?_
  refine s_val (.int .i64 0) (by kernel_rfl) (fun _ => by kernel_rfl) ?_
  refine s_nil ?_
  refine fin_seq ?_
  refine ok_block ?_
  refine ok_loop (fun L f m => ∃ (k : Nat) (j : Nat → Value), (k ≤ l.length ∧ rowMay (l.take k) = true) ∧ L = [] ∧ f = upds j [(0, .slice A l.length cap), (5, .slice A l.length cap), (6, .int .i64 (l.length : Int)), (7, .int .i64 (k : Int))] ∧ m = l.length - k) (l.length - 0) ⟨0, _, ⟨Nat.zero_le _, by rw [List.take_zero]; rfl⟩, rfl, upds_self _ ⟨by kernel_rfl, by kernel_rfl, by kernel_rfl, by kernel_rfl, trivial⟩, rfl⟩ ?_
  rintro L f m ⟨k, j, hrel, rfl, rfl, rfl⟩
  have hkl := hrel.1
  refine ok_seq ?_
  refine ok_region ?_
  by_cases h1 : (k : Int) < (l.length : Int)
  · skip
    have hk : k < l.length := by omega
    obtain ⟨b, off, hA, hlt, hcell⟩ := hv (by omega)
    obtain ⟨s, hs⟩ : ∃ s, l[k] = s := ⟨_, rfl⟩
    have hsk : s.short := hs ▸ hl l[k] (List.getElem_mem hk)
    refine s_dec (p := (k : Int) < (l.length : Int)) true (by kernel_rfl) (fun _ => by kernel_rfl) (decide_eq_true (h1)) ?_
    refine s_nil ?_
    refine fin_seq ?_
    refine ok_seq ?_
    refine ok_true (by kernel_rfl) ?_
    refine ok_skip ?_
    refine fin_seq ?_
    refine ok_seq ?_
    refine ok_block ?_
    refine ok_seq ?_
    refine ok_region ?_
    refine s_val (.int .i64 (k : Int)) (by kernel_rfl) (fun _ => by kernel_rfl) ?_
    refine s_val (.pointer (some ⟨b, off + k * 14, none⟩)) (by kernel_rfl) (run_ixA (b := b) (off := off) (c := cap) (n := l.length) (k := .i64) (j := (k : Int)) (e := 50) (sz := 14) rfl (by kernel_rfl) hA (by kernel_rfl) (by kernel_rfl) (by kernel_rfl) (by omega) (by omega) (by omega)) ?_
    refine s_old (spanV s) (a := ⟨b, off + k * 14, none⟩) (by kernel_rfl) rfl (by kernel_rfl) (fun w hO => elem_load spanC_len (fun j u h => (hO.below.cell (p := ⟨b, off + j, none⟩) hlt).trans (hcell j u h)) k 0 hk (by omega) _ (by rw [hs]; kernel_rfl)) ?_
    refine s_alloc_at (.agg #[.int .i64 0, .int .i64 0, .int .i64 0, .int .i64 0, .string ⟨#[]⟩, .string ⟨#[]⟩, .bool false, .int .i64 0, .int .i64 0, .int .i64 0, .int .i64 0, .string ⟨#[]⟩, .string ⟨#[]⟩, .bool false]) (by kernel_rfl) rfl (by kernel_rfl) (fun b1 => ?_)
    refine s_val (.int .i64 (k : Int)) (by kernel_rfl) (fun _ => by kernel_rfl) ?_
    refine s_store_at 0 ⟨b1, #[.int .i64 0, .int .i64 0, .int .i64 0, .int .i64 0, .string ⟨#[]⟩, .string ⟨#[]⟩, .bool false, .int .i64 0, .int .i64 0, .int .i64 0, .int .i64 0, .string ⟨#[]⟩, .string ⟨#[]⟩, .bool false], 50⟩ (off := 0) (spanV s) (by kernel_rfl) rfl rfl (by kernel_rfl) (by kernel_rfl) (by kernel_rfl) (by kernel_rfl) (by kernel_rfl) ?_
    refine s_nil ?_
    refine fin_seq ?_
    refine ok_seq ?_
    refine ok_seq ?_
    refine ok_region ?_
    refine s_load 0 ⟨b1, (spanV s).cells, 50⟩ (off := 0) (spanV s) (by kernel_rfl) rfl (by kernel_rfl) (by kernel_rfl) (by kernel_rfl) ?_
    refine s_call (k := 123) (args := #[spanV s]) (.bool s.may) (by kernel_rfl) (fun _ => by kernel_rfl) (fun w _ => spanMay_any s w hsk) ?_
    cases h2 : s.may with
    | true =>
      refine s_val (.bool false) (by kernel_rfl) (fun _ => by kernel_rfl) ?_
      refine s_nil ?_
      refine fin_seq ?_
      refine ok_false (by kernel_rfl) ?_
      refine ok_skip ?_
      refine fin_seq ?_
      refine ok_seq ?_
      refine ok_draw (by kernel_rfl) (by kernel_rfl) ?_
      refine q_val (.int .i64 (k : Int)) (by kernel_rfl) (fun _ => by kernel_rfl) ?_
      by_cases h3 : (0 : Int) < (k : Int)
      · skip
        have hk1 : k - 1 < l.length := by omega
        obtain ⟨p, hp⟩ : ∃ p, l[k - 1] = p := ⟨_, rfl⟩
        have hpk : p.short := hp ▸ hl l[k - 1] (List.getElem_mem hk1)
        refine q_dec (p := (0 : Int) < (k : Int)) true (by kernel_rfl) (fun _ => by kernel_rfl) (decide_eq_true (h3)) ?_
        refine q_val (.bool true) (by kernel_rfl) (fun _ => by kernel_rfl) ?_
        refine q_val (.slice A l.length cap) (by kernel_rfl) (fun _ => by kernel_rfl) ?_
        refine q_val (.int .i64 (k : Int)) (by kernel_rfl) (fun _ => by kernel_rfl) ?_
        refine q_sum (k := .i64) (((k : Int) : Int) - 1) (by kernel_rfl) (fun _ => by kernel_rfl) (IntWalk.i64_in _ (by omega)) ?_
        refine q_val (.pointer (some ⟨b, off + (k - 1) * 14, none⟩)) (by kernel_rfl) (run_ixA (b := b) (off := off) (c := cap) (n := l.length) (k := .i64) (j := (k : Int) - 1) (e := 50) (sz := 14) rfl (by kernel_rfl) hA (by kernel_rfl) (by kernel_rfl) (by kernel_rfl) (by omega) (by omega) (by omega)) ?_
        refine q_val (.pointer (some ⟨b, off + (k - 1) * 14 + 7, none⟩)) (by kernel_rfl) (fun _ => by kernel_rfl) ?_
        refine q_old (cutV p.hi) (a := ⟨b, off + (k - 1) * 14 + 7, none⟩) (by kernel_rfl) rfl (by kernel_rfl) (fun w hO => elem_load spanC_len (fun j u h => (hO.below.cell (p := ⟨b, off + j, none⟩) hlt).trans (hcell j u h)) (k - 1) 7 (by omega) (by omega) _ (by rw [hp]; kernel_rfl)) ?_
        refine q_val (.pointer (some ⟨b1, 0, none⟩)) (by kernel_rfl) (fun _ => by kernel_rfl) ?_
        refine q_load 0 ⟨b1, (spanV s).cells, 50⟩ (off := 0) (.agg #[.int .i64 s.lo.e, .int .i64 s.lo.v.maj, .int .i64 s.lo.v.min, .int .i64 s.lo.v.pat, .string (mkS s.lo.v.pre), .string (mkS s.lo.v.build), .bool s.lo.aft]) (by kernel_rfl) rfl (by kernel_rfl) (by kernel_rfl) (by kernel_rfl) ?_
        refine q_call (k := 127) (args := #[cutV p.hi, .agg #[.int .i64 s.lo.e, .int .i64 s.lo.v.maj, .int .i64 s.lo.v.min, .int .i64 s.lo.v.pat, .string (mkS s.lo.v.pre), .string (mkS s.lo.v.build), .bool s.lo.aft]]) (.int .i64 (cmpC p.hi s.lo)) (by kernel_rfl) (fun _ => by kernel_rfl) (fun w _ => cmpC_any p.hi s.lo w hpk.2 hsk.1) ?_
        by_cases h4 : (0 : Int) ≤ cmpC p.hi s.lo
        · skip
          refine q_dec (p := (0 : Int) ≤ cmpC p.hi s.lo) true (by kernel_rfl) (fun _ => by kernel_rfl) (decide_eq_true (h4)) ?_
          refine q_val (.bool true) (by kernel_rfl) (fun _ => by kernel_rfl) ?_
          refine q_nil ?_
          refine fin_seq ?_
          refine ok_true (by kernel_rfl) ?_
          refine ok_seq ?_
          refine ok_region ?_
          refine s_val (.bool false) (by kernel_rfl) (fun _ => by kernel_rfl) ?_
          refine s_nil ?_
          refine fin_seq ?_
          refine ok_ret ?_
          refine fin_block_ret ?_
          refine fin_seq_ret ?_
          refine fin_round_ret ?_
          refine fin_block_ret ?_
          refine fin_seq_ret ?_
          refine fin_ret (.bool false) Tryz.results90 (by kernel_rfl) ?_
          exact fun w hO => ⟨by rw [may_not hk (by omega) (by simp only [hp, hs]; omega)], hO.below⟩
        · skip
          refine q_dec (p := (0 : Int) ≤ cmpC p.hi s.lo) false (by kernel_rfl) (fun _ => by kernel_rfl) (decide_eq_false (h4)) ?_
          refine q_val (.bool false) (by kernel_rfl) (fun _ => by kernel_rfl) ?_
          refine q_nil ?_
          refine fin_seq ?_
          refine ok_false (by kernel_rfl) ?_
          refine ok_skip ?_
          refine fin_block ?_
          refine fin_seq ?_
          refine ok_region ?_
          refine s_sum (k := .i64) (((k + 1 : Nat) : Int)) (by kernel_rfl) (fun _ => by kernel_rfl) (IntWalk.i64_in _ (by omega)) ?_
          refine s_val (.int .i64 ((k + 1 : Nat) : Int)) (by kernel_rfl) (fun _ => by kernel_rfl) ?_
          refine s_nil ?_
          have hnext : rowMay (l.take (k + 1)) = true := may_step hk hrel.2 (by rw [hs]; assumption) (fun h0 => by simp only [hp, hs]; omega)
          refine fin_take (fun w hO => Own.sub [_] hO) ?_
          exact fin_round (m' := l.length - (k + 1)) (by omega) ⟨k + 1, _, ⟨by omega, hnext⟩, rfl, upds_self _ ⟨by kernel_rfl, by kernel_rfl, by kernel_rfl, by kernel_rfl, trivial⟩, rfl⟩
      · skip
        refine q_dec (p := (0 : Int) < (k : Int)) false (by kernel_rfl) (fun _ => by kernel_rfl) (decide_eq_false (h3)) ?_
        refine q_val (.bool false) (by kernel_rfl) (fun _ => by kernel_rfl) ?_
        refine q_skip (by kernel_rfl) ?_
        refine q_skip (by kernel_rfl) ?_
        refine q_skip (by kernel_rfl) ?_
        refine q_skip (by kernel_rfl) ?_
        refine q_skip (by kernel_rfl) ?_
        refine q_skip (by kernel_rfl) ?_
        refine q_skip (by kernel_rfl) ?_
        refine q_skip (by kernel_rfl) ?_
        refine q_skip (by kernel_rfl) ?_
        refine q_skip (by kernel_rfl) ?_
        refine q_val (.bool false) (by kernel_rfl) (fun _ => by kernel_rfl) ?_
        refine q_nil ?_
        refine fin_seq ?_
        refine ok_false (by kernel_rfl) ?_
        refine ok_skip ?_
        refine fin_block ?_
        refine fin_seq ?_
        refine ok_region ?_
        refine s_sum (k := .i64) (((k + 1 : Nat) : Int)) (by kernel_rfl) (fun _ => by kernel_rfl) (IntWalk.i64_in _ (by omega)) ?_
        refine s_val (.int .i64 ((k + 1 : Nat) : Int)) (by kernel_rfl) (fun _ => by kernel_rfl) ?_
        refine s_nil ?_
        have hnext : rowMay (l.take (k + 1)) = true := may_step hk hrel.2 (by rw [hs]; assumption) (fun h0 => absurd h0 (by omega))
        refine fin_take (fun w hO => Own.sub [_] hO) ?_
        exact fin_round (m' := l.length - (k + 1)) (by omega) ⟨k + 1, _, ⟨by omega, hnext⟩, rfl, upds_self _ ⟨by kernel_rfl, by kernel_rfl, by kernel_rfl, by kernel_rfl, trivial⟩, rfl⟩
    | false =>
      refine s_val (.bool true) (by kernel_rfl) (fun _ => by kernel_rfl) ?_
      refine s_nil ?_
      refine fin_seq ?_
      refine ok_true (by kernel_rfl) ?_
      refine ok_seq ?_
      refine ok_region ?_
      refine s_val (.bool false) (by kernel_rfl) (fun _ => by kernel_rfl) ?_
      refine s_nil ?_
      refine fin_seq ?_
      refine ok_ret ?_
      refine fin_seq_ret ?_
      refine fin_block_ret ?_
      refine fin_seq_ret ?_
      refine fin_round_ret ?_
      refine fin_block_ret ?_
      refine fin_seq_ret ?_
      refine fin_ret (.bool false) Tryz.results90 (by kernel_rfl) ?_
      exact fun w hO => ⟨by rw [may_take_bad hk (by rw [hs]; assumption)], hO.below⟩
  · skip
    refine s_dec (p := (k : Int) < (l.length : Int)) false (by kernel_rfl) (fun _ => by kernel_rfl) (decide_eq_false (h1)) ?_
    refine s_nil ?_
    refine fin_seq ?_
    refine ok_seq ?_
    refine ok_false (by kernel_rfl) ?_
    refine ok_exit ?_
    refine fin_seq_exit ?_
    refine fin_round_exit ?_
    refine fin_block_exit ?_
    refine fin_seq ?_
    refine ok_seq ?_
    refine ok_region ?_
    refine s_val (.bool true) (by kernel_rfl) (fun _ => by kernel_rfl) ?_
    refine s_nil ?_
    refine fin_seq ?_
    refine ok_ret ?_
    refine fin_ret (.bool true) Tryz.results90 (by kernel_rfl) ?_
    exact fun w hO => ⟨by have h := hrel.2; rw [List.take_of_length_le (by omega)] at h; rw [h], hO.below⟩
end Go.Proofs.YtjabcbagggicaaaGreatDoor
end

section
/-
  Steps: append(nil, make([]T, n)...); s[1:] of a slice that came in. No condition of their own but the bounds that each theorem names.
-/
namespace Go.Proofs.YtjabcbagggicaaaGreatDoor
open Go.RowKit
set_option linter.unusedVariables false
set_option linter.unusedSimpArgs false
section
variable {M : List Nat} {P : Program} {n0 : Nat} {ops : Array Oper} {W : World} {Q : Exit → Act → World → Prop} {rest : List Oper} {o : Oper} {L : List Blk} {f : Nat → Value}
end
end Go.Proofs.YtjabcbagggicaaaGreatDoor
end

section
/-
  Steps: a load out of a block that is somewhere in the list. No condition of their own.
-/
namespace Go.Proofs.YtjabcbagggicaaaGreatDoor
open Go.RowKit
set_option linter.unusedVariables false
section
variable {M : List Nat} {P : Program} {n : Nat} {ops : Array Oper} {W : World} {Q : Exit → Act → World → Prop} {rest : List Oper} {o : Oper} {L : List Blk} {f : Nat → Value} {Qe : List Blk → (Nat → Value) → Prop}
theorem s_loadm (x : Blk) {ty : TypeId} {p : Operand} {off : Nat} (v : Value) (hw : want ops n f o = true) (ho : o.op = .load ty p) (hL : x ∈ L) (hp : ev n f p = .pointer (some ⟨x.b, off, none⟩)) (hv : readAt P ty x.cs off = some v)
    (h : Seg M P n ops W Q rest L (upd f o.dst v)) : Seg M P n ops W Q (o :: rest) L f :=
  s_read v hw (fun _ hO => run_load_op ho hp (run_readAt hv (hO.held x hL))) h
end
end Go.Proofs.YtjabcbagggicaaaGreatDoor
end

section
/-
  s[i:j] of a slice; its elements as a slice that came in. No condition of their own.
-/
namespace Go.Proofs.YtjabcbagggicaaaGreatDoor
open Go.RowKit
set_option maxRecDepth 100000
set_option linter.unusedVariables false
set_option linter.unusedSimpArgs false
theorem Reads.one {α : Type} {g : α → List Value} {sz : Nat} (hg : ∀ x, (g x).length = sz) {w : World} {B b off c k : Nat} {A : Option Addr} {l : List α} (h : Reads g w B A l) (hA : A = some ⟨b, off, none⟩) (hk : k < l.length) (hc : l.length ≤ c) {i : Int} (hi : i.toNat = k) : Reads g w B (some ⟨b, off + (if c = i.toNat then 0 else i.toNat * sz), none⟩) [l[k]] := fun h0 => by
  subst hA hi
  obtain ⟨b', off', e, hlt, hcell⟩ := h (by omega)
  obtain ⟨rfl, rfl⟩ : b = b' ∧ off = off' := by simp at e; exact e
  refine ⟨b, _, rfl, hlt, fun j u hj => ?_⟩
  rw [if_neg (by omega)]
  have hj2 : (g l[i.toNat])[j]? = some u := by simpa using hj
  have hjs : j < sz := by have := (List.getElem?_eq_some_iff.1 hj2).1; rwa [hg] at this
  have h3 := flat_at hg l i.toNat hk
  rw [← h3, List.getElem?_take, if_pos hjs, List.getElem?_drop] at hj2
  have := hcell _ u hj2
  rw [show off + i.toNat * sz + j = off + (i.toNat * sz + j) from by omega]
  exact this
end Go.Proofs.YtjabcbagggicaaaGreatDoor
end

section
/-
  Plain mathematics: a row and its spans one by one. No condition of its own.
-/
namespace Go.Proofs.YtjabcbagggicaaaGreatDoor
set_option linter.unusedVariables false
set_option linter.unusedSimpArgs false

theorem Own.sublist {M : List Nat} {W w : World} {L L' : List Blk} (h : Own M W w L) (hs : List.Sublist L' L) : Own M W w L' := h.take (fun x hx => hs.subset hx) (h.apart.sublist (hs.map _))
end Go.Proofs.YtjabcbagggicaaaGreatDoor
end

section
/-
  Plain mathematics of sets: the cuts that Rel may have, one Rel for one set of releases, Or, And, Not, Make, Exact. No condition of their own.
-/
namespace Go.Proofs.YtjabcbagggicaaaGreatDoor
set_option linter.unusedVariables false
set_option linter.unusedSimpArgs false

def leastV (v : Ver) : Bool := decide (v.maj = 0) && decide (v.min = 0) && decide (v.pat = 0)
/-- May a cut be one of Rel? -/
def rightC (c : Cu) : Bool := decide (¬ c.e = 0) || (!c.aft && decide (c.v.pre = []) && !leastV c.v)
def AllRight (l : List Sp) : Prop := ∀ s ∈ l, rightC s.lo = true ∧ rightC s.hi = true
/-- A cut of Rel as a number; a cut as the number of the release at or below it. -/
def valC (c : Cu) : Int := if c.e = -1 then 0 else if c.e = 1 then 1000000000000 else c.v.code
def muI (v : Ver) : Int := if v.pre = [] then v.code else v.code - 1
def mu (x : Cu) : Int := if x.e = 0 then (if muI x.v < 0 then 0 else muI x.v) else 0
def denN (l : List Sp) (n : Int) : Bool := l.any fun s => decide (valC s.lo ≤ n) && decide (n < valC s.hi)
/-! ### Where the cuts of a row come from -/
theorem build_cuts (p : Cu → Cu → Bool) (Q : Cu → Prop) : ∀ (cs : List Cu) (out : List Sp), (∀ c ∈ cs, Q c) → (∀ s ∈ out, Q s.lo ∧ Q s.hi) → ∀ s ∈ buildL p out cs, Q s.lo ∧ Q s.hi
  | [], out, _, ho => by unfold buildL; exact ho
  | [c], out, _, ho => by unfold buildL; exact ho
  | c :: d :: r, out, hc, ho => by
    unfold buildL
    refine build_cuts p Q (d :: r) _ (fun x hx => hc x (List.mem_cons_of_mem _ hx)) ?_
    split
    · intro s hs
      unfold growL at hs
      split at hs
      · rename_i t ht
        split at hs
        · rcases List.mem_append.1 hs with h | h
          · exact ho s (List.dropLast_subset _ h)
          · obtain rfl : s = _ := by simpa using h
            exact ⟨(ho t (List.mem_of_getLast? ht)).1, hc d (by simp)⟩
        · rcases List.mem_append.1 hs with h | h
          · exact ho s h
          · obtain rfl : s = _ := by simpa using h
            exact ⟨hc c (by simp), hc d (by simp)⟩
      · obtain rfl : s = _ := by simpa using hs
        exact ⟨hc c (by simp), hc d (by simp)⟩
    · exact ho
theorem cutsL_all (Q : Cu → Prop) (h1 : Q (endC (-1))) (h2 : Q (endC 1)) (l : List Sp) (hl : ∀ s ∈ l, Q s.lo ∧ Q s.hi) : ∀ c ∈ cutsL l, Q c := by
  have go : ∀ (l : List Sp) (out : List Cu), (∀ c ∈ out, Q c) → (∀ s ∈ l, Q s.lo ∧ Q s.hi) → ∀ c ∈ l.foldl (fun out s => putL s.hi (putL s.lo out)) out, Q c := by
    intro l
    induction l with
    | nil => intro out ho _; exact ho
    | cons s r ih =>
      intro out ho hl
      refine ih _ (fun c hc => ?_) (fun t ht => hl t (List.mem_cons_of_mem _ ht))
      rcases putL_mem _ _ _ hc with rfl | hc
      · exact (hl s (List.mem_cons_self ..)).2
      · rcases putL_mem _ _ _ hc with rfl | hc
        · exact (hl s (List.mem_cons_self ..)).1
        · exact ho c hc
  exact go l _ (fun c hc => by
    rcases List.mem_cons.1 hc with rfl | hc
    · exact h1
    · obtain rfl : c = _ := by simpa using hc
      exact h2) hl
theorem end_right (k : Int) (h : ¬ k = 0) : rightC (endC k) = true := by unfold rightC endC; rw [decide_eq_true h]; rfl
theorem AllRight.make {l : List Sp} (h : AllRight l) : AllRight (makeL l) := build_cuts _ (rightC · = true) _ [] (cutsL_all _ (end_right _ (by decide)) (end_right _ (by decide)) l h) (fun s hs => by simp at hs)
theorem AllRight.app {a b : List Sp} (ha : AllRight a) (hb : AllRight b) : AllRight (a ++ b) := fun s hs => (List.mem_append.1 hs).elim (ha s) (hb s)
theorem AllRight.or {a b : List Sp} (ha : AllRight a) (hb : AllRight b) : AllRight (orL a b) := (ha.app hb).make
theorem AllRight.and {a b : List Sp} (ha : AllRight a) (hb : AllRight b) : AllRight (andL a b) := build_cuts _ (rightC · = true) _ [] (cutsL_all _ (end_right _ (by decide)) (end_right _ (by decide)) _ (ha.app hb)) (fun s hs => by simp at hs)
theorem AllRight.not {a : List Sp} (ha : AllRight a) : AllRight (notL a) := build_cuts _ (rightC · = true) _ [] (cutsL_all _ (end_right _ (by decide)) (end_right _ (by decide)) _ ha) (fun s hs => by simp at hs)
end Go.Proofs.YtjabcbagggicaaaGreatDoor
end

section
/-
  Plain mathematics of sets: Make of two rows, the set of one version. No condition of their own.
-/
namespace Go.Proofs.YtjabcbagggicaaaGreatDoor
set_option linter.unusedVariables false
set_option linter.unusedSimpArgs false

def relV (v : Ver) : Ver := Ver.rel v.maj v.min v.pat
/-- The cut before, and the cut behind, the release with the numbers of v, as Rel has them. -/
def relA (v : Ver) : Cu := if leastV v then endC (-1) else ⟨0, relV v, false⟩
def relB (v : Ver) : Cu := if nextOk (relV v) then ⟨0, nextV (relV v), false⟩ else endC 1
def turnC (c : Cu) : Cu := if ¬ c.e = 0 then c else if c.aft = true ∧ c.v.pre = [] then relB c.v else relA c.v
def turnS (s : Sp) : Sp := ⟨turnC s.lo, turnC s.hi⟩
def makeRel (l : List Sp) : List Sp := makeL ((l.map turnS).filter (·.may))
/-- The Rel of one release. -/
def oneRel (v : Ver) : List Sp := [⟨relA v, relB v⟩]
/-- The Pre of one version with a Pre. -/
def onePre (v : Ver) : List Sp := [⟨⟨0, coreV v, false⟩, ⟨0, coreV v, true⟩⟩]
end Go.Proofs.YtjabcbagggicaaaGreatDoor
end

section
/-
  Plain mathematics of sets: a set as two rows; the set of one version; equal at the edges, equal everywhere; the laws. No condition of their own.
-/
namespace Go.Proofs.YtjabcbagggicaaaGreatDoor
set_option linter.unusedVariables false
set_option linter.unusedSimpArgs false

/-- A set: its releases, its other versions. -/
structure St where
  rel : List Sp
  pre : List Sp
def St.may (s : St) : Bool := rowMay s.rel && rowMay s.pre && s.rel.all fun x => rightC x.lo && rightC x.hi
/-- A valid set of at most n spans a row. -/
structure SF (s : St) (n : Nat) : Prop where
  rel : RF s.rel n
  pre : RF s.pre n
  right : AllRight s.rel
theorem right_all {l : List Sp} : (l.all fun x => rightC x.lo && rightC x.hi) = true ↔ AllRight l := by
  rw [List.all_eq_true]
  exact ⟨fun h s hs => by simpa using h s hs, fun h s hs => by simpa using h s hs⟩
theorem SF.may {s : St} {n : Nat} (h : SF s n) : s.may = true := by
  unfold St.may
  rw [h.rel.may, h.pre.may, right_all.2 h.right]; rfl
theorem St.facts {s : St} (h : s.may = true) : rowMay s.rel = true ∧ rowMay s.pre = true ∧ AllRight s.rel := by
  unfold St.may at h
  rw [Bool.and_eq_true, Bool.and_eq_true, right_all] at h
  exact ⟨h.1.1, h.1.2, h.2⟩
theorem SF.of {s : St} {n : Nat} (h : s.may = true) (h1 : s.rel.length ≤ n) (h2 : s.pre.length ≤ n) : SF s n :=
  ⟨⟨(St.facts h).1, h1⟩, ⟨(St.facts h).2.1, h2⟩, (St.facts h).2.2⟩
def setHas (s : St) (v : Ver) : Bool := s.may && v.may && (if v.pre = [] then rowHas s.rel v else rowHas s.pre v)
def noneT : St := ⟨[], []⟩
def wholeL : List Sp := [⟨endC (-1), endC 1⟩]
def allT : St := ⟨wholeL, wholeL⟩
def orT (a b : St) : St := ⟨orL a.rel b.rel, orL a.pre b.pre⟩
def andT (a b : St) : St := ⟨andL a.rel b.rel, andL a.pre b.pre⟩
def notT (a : St) : St := ⟨notL a.rel, notL a.pre⟩
def minusT (a b : St) : St := andT a (notT b)
def exactT (v : Ver) : St := if v.may then (if v.pre = [] then ⟨oneRel v, []⟩ else ⟨[], onePre v⟩) else noneT
theorem St.eq {a b : St} (h1 : a.rel = b.rel) (h2 : a.pre = b.pre) : a = b := by cases a; cases b; simp only at h1 h2; rw [h1, h2]
/-! ### Valid -/
theorem RF.le {l : List Sp} {n m : Nat} (h : RF l n) (hm : n ≤ m) : RF l m := ⟨h.may, Nat.le_trans h.len hm⟩
theorem SF.le {s : St} {n m : Nat} (h : SF s n) (hm : n ≤ m) : SF s m := ⟨h.rel.le hm, h.pre.le hm, h.right⟩
theorem SF.or {a b : St} {n m : Nat} (ha : SF a n) (hb : SF b m) : SF (orT a b) (2 + 2 * (n + m)) := ⟨ha.rel.or hb.rel, ha.pre.or hb.pre, ha.right.or hb.right⟩
theorem SF.and {a b : St} {n m : Nat} (ha : SF a n) (hb : SF b m) : SF (andT a b) (2 + 2 * (n + m)) := ⟨ha.rel.and hb.rel, ha.pre.and hb.pre, ha.right.and hb.right⟩
theorem SF.not {a : St} {n : Nat} (ha : SF a n) : SF (notT a) (2 + 2 * n) := ⟨ha.rel.not, ha.pre.not, ha.right.not⟩
theorem SF.minus {a b : St} {n m : Nat} (ha : SF a n) (hb : SF b m) : SF (minusT a b) (2 + 2 * (n + (2 + 2 * m))) := ha.and hb.not
/-! ### What they have -/
section
variable {a b : St} {n m : Nat} {v : Ver} (ha : SF a n) (hb : SF b m) (hv : v.may = true)
include ha hb hv
end
/-! ### Just one version -/
/-! ### Equal at the edges -/
/-- The releases at which a Rel may turn, as numbers. -/
def edgeN (l : List Sp) : List Int := l.flatMap fun s => [s.lo, s.hi].filterMap fun c => if c.e = 0 then some c.v.code else none
/-! ### Laws of rows, once more -/
end Go.Proofs.YtjabcbagggicaaaGreatDoor
end

section
/-
  Plain mathematics for chapter 2: what is bumped lies above the version and its next release.
-/
namespace Go.Proofs.YtjabcbagggicaaaGreatDoor
open Go.RowKit

end Go.Proofs.YtjabcbagggicaaaGreatDoor
end

section
/-
  Plain mathematics of chapter 6: the region and the zone of a comparator: which versions they have. No condition of its own.
-/
namespace Go.Proofs.YtjabcbagggicaaaGreatDoor
set_option linter.unusedVariables false
set_option linter.unusedSimpArgs false

/-- The cut at which the number k turns. -/
def highC (v : Ver) : Nat → Cu
  | 0 => if bumpOk v 0 then ⟨0, bumpV v 0, false⟩ else endC 1
  | k + 1 => if bumpOk v ((k + 1 : Nat) : Int) then ⟨0, bumpV v ((k + 1 : Nat) : Int), false⟩ else highC v k
def turnsK (c : Co) : Nat := if 0 < c.v.maj ∨ c.parts = 1 then 0 else if 0 < c.v.min ∨ c.parts = 2 then 1 else 2
def Co.low (c : Co) : Cu := ⟨0, coreV c.v, false⟩
def Co.aft (c : Co) : Cu := if c.parts < 3 ∧ 0 < c.parts then highC c.v (c.parts - 1).toNat else ⟨0, coreV c.v, true⟩
def Co.span (c : Co) : Cu × Cu :=
  if c.op = 1 ∨ c.op = 2 then (c.low, c.aft) else if c.op = 3 then (endC (-1), c.low) else if c.op = 4 then (endC (-1), c.aft) else if c.op = 5 then (c.aft, endC 1) else if c.op = 6 then (c.low, endC 1)
  else if c.op = 7 then (c.low, highC c.v (turnsK c)) else if c.op = 8 then (c.low, highC c.v (min (c.parts - 1) 1).toNat) else if c.parts = 0 then (endC (-1), endC 1) else (c.low, highC c.v (c.parts - 1).toNat)
def oneRow (lo hi : Cu) : List Sp := addL [] lo hi
def Co.region (c : Co) : List Sp := if c.may then (if c.op = 2 then notL (oneRow c.span.1 c.span.2) else oneRow c.span.1 c.span.2) else []
def Co.zone (c : Co) : List Sp := if c.may && !decide (c.v.pre = []) then [⟨⟨0, { c.v with pre := [48], build := [] }, false⟩, ⟨0, { c.v with pre := [], build := [] }, false⟩⟩] else []

/-! ### Rows of one span -/
theorem oneRow_may (lo hi : Cu) : rowMay (oneRow lo hi) = true := add_ok rfl (fun t h => by cases h)
/-! ### The cuts -/
theorem before_may {v : Ver} (h : v.may = true) (a : Bool) : (⟨0, coreV v, a⟩ : Cu).may = true := by
  have h2 := core_may h
  unfold Cu.may
  rw [if_pos rfl]
  show ((coreV v).may && ([] : List UInt8).isEmpty) = true
  rw [h2]; rfl
theorem bump_rel {v : Ver} {k : Int} (h : bumpOk v k = true) : ∃ a b c, bumpV v k = Ver.rel a b c := by
  unfold bumpV
  rw [if_pos h]
  unfold bumpN
  split
  · exact ⟨_, _, _, rfl⟩
  · split
    · exact ⟨_, _, _, rfl⟩
    · exact ⟨_, _, _, rfl⟩
/-- The number of the release at which the number k turns. -/
def upN (v : Ver) (k : Nat) : Int := if k = 0 then (v.maj + 1) * 100000000 else if k = 1 then v.maj * 100000000 + (v.min + 1) * 10000 else v.code + 1
theorem turns_lt (c : Co) : turnsK c < 3 := by
  unfold turnsK
  split
  · omega
  · split <;> omega
theorem region_may (c : Co) : rowMay c.region = true := by
  unfold Co.region
  split
  · split
    · exact (not_ok (oneRow_may _ _)).1
    · exact oneRow_may _ _
  · rfl
/-! ### By numbers: a release and a comparator without a Pre -/
/-! ### Three numbers: the order alone tells -/
/-- What the order of versions says of the six first operators. -/
def ordB (op n : Int) : Bool := if op = 1 then decide (n = 0) else if op = 2 then decide (¬ n = 0) else if op = 3 then decide (n < 0) else if op = 4 then decide (n ≤ 0) else if op = 5 then decide (0 < n) else decide (0 ≤ n)
end Go.Proofs.YtjabcbagggicaaaGreatDoor
end

section
/-
  Plain mathematics of chapter 6: what numbers alone tell of a region; the zone; regions that are each other's contrary; regions within regions. No condition of its own.
-/
namespace Go.Proofs.YtjabcbagggicaaaGreatDoor
set_option linter.unusedVariables false
set_option linter.unusedSimpArgs false

def beginsB (c : Co) (v : Ver) (p : Int) : Bool := (decide (p < 1) || decide (v.maj = c.v.maj)) && (decide (p < 2) || decide (v.min = c.v.min)) && (decide (p < 3) || decide (v.pat = c.v.pat))
def overB (c : Co) (v : Ver) : Bool := if ¬ v.maj = c.v.maj ∨ c.parts = 1 then decide (c.v.maj < v.maj) else if ¬ v.min = c.v.min ∨ c.parts = 2 then decide (c.v.min < v.min) else decide (c.v.pat < v.pat)
def saysN (c : Co) : Int := if 0 < c.v.maj ∨ c.parts = 1 then 1 else if 0 < c.v.min ∨ c.parts = 2 then 2 else 3
def saysB (c : Co) (v : Ver) : Bool :=
  if c.op = 1 ∨ c.op = 9 then beginsB c v c.parts else if c.op = 2 then !beginsB c v c.parts else if c.op = 3 then !beginsB c v c.parts && !overB c v else if c.op = 4 then beginsB c v c.parts || !overB c v
  else if c.op = 5 then overB c v else if c.op = 6 then beginsB c v c.parts || overB c v else if c.op = 8 then beginsB c v (min c.parts 2) && (beginsB c v c.parts || overB c v)
  else beginsB c v (saysN c) && (beginsB c v c.parts || overB c v)
def truncN (v : Ver) (q : Nat) : Int := if q = 1 then v.maj * 100000000 else if q = 2 then v.maj * 100000000 + v.min * 10000 else v.code
end Go.Proofs.YtjabcbagggicaaaGreatDoor
end

section
/-
  Plain mathematics of chapter 6: the zone; regions that are each other's contrary; regions within regions. No condition of its own.
-/
namespace Go.Proofs.YtjabcbagggicaaaGreatDoor
set_option linter.unusedVariables false
set_option linter.unusedSimpArgs false

/-! ### The zone -/
def leastP (v : Ver) : Ver := { v with pre := [48], build := [] }
def bareV (v : Ver) : Ver := { v with pre := [], build := [] }
theorem least_may {v : Ver} (h : v.may = true) : (leastP v).may = true ∧ (bareV v).may = true := by
  obtain ⟨h1, h2, h3⟩ := may_nums h
  have k : preOk [48] = true := by decide
  unfold Ver.may leastP bareV
  dsimp only
  rw [h1, h2, h3, k]
  exact ⟨rfl, rfl⟩
theorem zone_row {c : Co} (h : c.may = true) (hp : ¬ c.v.pre = []) : c.zone = [⟨⟨0, leastP c.v, false⟩, ⟨0, bareV c.v, false⟩⟩] := by
  unfold Co.zone
  rw [h, decide_eq_false hp]; rfl
theorem zone_sp {v : Ver} (h : v.may = true) : (Sp.mk ⟨0, leastP v, false⟩ ⟨0, bareV v, false⟩).may = true := by
  obtain ⟨m1, m2⟩ := least_may h
  refine sp_may_of ?_
  have c1 : (⟨0, leastP v, false⟩ : Cu).may = true := before_may m1 false
  have c2 : (⟨0, bareV v, false⟩ : Cu).may = true := before_may m2 false
  rw [cmpC_good c1 c2]
  have e : cmpR (leastP v) (bareV v) = -1 := by
    rw [cmpR_code m1 m2]
    have e1 : (leastP v).code = (bareV v).code := rfl
    rw [e1, if_neg (by omega), if_neg (by omega)]; rfl
  show lex (Lib.compareInt 0 0) (lex (cmpR (leastP v) (bareV v)) (Lib.compareInt (b01 false) (b01 false))) < 0
  rw [e]
  decide
theorem zone_may {c : Co} : rowMay c.zone = true := by
  by_cases h : c.may = true
  · by_cases hp : c.v.pre = []
    · unfold Co.zone; rw [h, decide_eq_true hp]; rfl
    · rw [zone_row h hp]; exact zone_sp (Co.facts h).2.1
  · unfold Co.zone
    rw [Bool.eq_false_iff.2 h]; rfl
/-! ### Other operators -/
def withO (c : Co) (o : Int) : Co := { c with op := o }
/-! ### Within -/
end Go.Proofs.YtjabcbagggicaaaGreatDoor
end

section
/-
  linchpinlaw0's Version and Cut at any place: the version, the cut that the list's numbers name.
-/
namespace Go.Proofs.YtjabcbagggicaaaGreatDoor
open Go.RowKit
set_option linter.unusedSimpArgs false
set_option maxRecDepth 100000
set_option linter.unusedVariables false
set_option maxHeartbeats 2000000

end Go.Proofs.YtjabcbagggicaaaGreatDoor
end

section
/-
  Plain: the comparator that linchpinlaw0.Comp makes of a list of numbers; a comparator as a value. No condition of its own.
-/
namespace Go.Proofs.YtjabcbagggicaaaGreatDoor
set_option linter.unusedVariables false
set_option linter.unusedSimpArgs false

def coV (c : Co) : Value := .agg #[.int .i64 c.op, .int .i64 c.parts, .int .i64 c.v.maj, .int .i64 c.v.min, .int .i64 c.v.pat, .string (mkS c.v.pre), .string (mkS c.v.build)]
def Co.short (c : Co) : Prop := c.v.short
/-- A version of which only the first p numbers are told. -/
def toldV (p : Int) (v : Ver) : Ver := ⟨if p < 1 then 0 else v.maj, if p < 2 then 0 else v.min, if p < 3 then 0 else v.pat, if p < 3 then [] else v.pre, []⟩
def genCo (l : List Int) (i : Nat) : Co :=
  ⟨1 + plc (atL l (i + 5)) 9, if 1 + plc (atL l (i + 5)) 9 = 9 then plc (atL l (i + 6)) 3 else 1 + plc (atL l (i + 6)) 3, toldV (if 1 + plc (atL l (i + 5)) 9 = 9 then plc (atL l (i + 6)) 3 else 1 + plc (atL l (i + 6)) 3) (genV l i)⟩
end Go.Proofs.YtjabcbagggicaaaGreatDoor
end

section
/-
  Equality of comparators, whole. No condition.
-/
namespace Go.Proofs.YtjabcbagggicaaaGreatDoor
open Go.RowKit
set_option linter.unusedVariables false
set_option linter.unusedSimpArgs false

theorem co_dec (u v : Co) : decide (u = v) = (decide (u.op = v.op) && (decide (u.parts = v.parts) && decide (u.v = v.v))) := by
  obtain ⟨a, b, c⟩ := u
  obtain ⟨a', b', c'⟩ := v
  simp only [Co.mk.injEq, Bool.decide_and]
theorem eq_co (u v : Co) (d : Nat) (w : World) : (Op.equalIn (d + 1 + 1 + 1) 26 (coV u) (coV v)).run Tryz.prog w = .ok (decide (u = v)) w := by
  have h := eq_agg (P := Tryz.prog) (d := d + 1 + 1) (t := 26) (xs := (coV u).cells) (ys := (coV v).cells) (bs := [u.op == v.op, u.parts == v.parts, decide (u.v = v.v)]) Tryz.underlying26 (by kernel_rfl)
    ⟨by decide, ⟨.int .i64 u.op, .int .i64 v.op, fun w => ⟨by kernel_rfl, by kernel_rfl, run_equalIn_int w (d + 1) _ _ _ _ _ Tryz.underlying3⟩⟩,
     by decide, ⟨.int .i64 u.parts, .int .i64 v.parts, fun w => ⟨by kernel_rfl, by kernel_rfl, run_equalIn_int w (d + 1) _ _ _ _ _ Tryz.underlying3⟩⟩,
     by decide, ⟨verV u.v, verV v.v, fun w => ⟨by kernel_rfl, by kernel_rfl, eq_ver u.v v.v d w⟩⟩, trivial⟩ w
  rw [all3, int_beq, int_beq, ← co_dec] at h
  exact h
theorem guard_co : Tryz.prog.eqGuardType Tryz.prog.depth 26 = false := by kernel_rfl
theorem op_eq_co {ρ : Operand → Value} {o : Oper} {t' : TypeId} {x y : Operand} {u v : Co} {b : Bool} (ho : o.op = .binOp .eql 26 x y t') (hx : ρ x = coV u) (hy : ρ y = coV v) (hb : decide (u = v) = b) (w : World) : (execOp ρ o).run Tryz.prog w = .ok (.value (.bool b)) w :=
  run_eq_op ho hx hy guard_co (fun w => hb ▸ eq_co u v 9997 w) w
end Go.Proofs.YtjabcbagggicaaaGreatDoor
end

section
/-
  linchpinlaw0.Spans, Row: the spans, the row that the list's numbers name.
-/
namespace Go.Proofs.YtjabcbagggicaaaGreatDoor
open Go.RowKit
set_option maxRecDepth 100000
set_option linter.unusedVariables false
set_option linter.unusedSimpArgs false
set_option maxHeartbeats 2000000

def ordSp (c d : Cu) : Sp := if 0 < cmpC c d then ⟨d, c⟩ else ⟨c, d⟩
def spG (l : List Int) (i n : Nat) : Sp := ordSp (genC l (i + 12 * n - 11)) (genC l (i + 12 * n - 5))
def spansG (l : List Int) (i : Nat) : Nat → List Sp
  | 0 => []
  | n + 1 => (if (spG l i (n + 1)).may then [spG l i (n + 1)] else []) ++ spansG l i n
structure SpI (l : List Int) (i N n : Nat) (z : Int) (u : Value) (acc : List Sp) (ob : List Blk) : Prop where
  z : z = (n : Int)
  sl : SlS u acc ob
  len : acc.length + n ≤ N
  eq : acc ++ spansG l i n = spansG l i N
theorem SpI.keep {l : List Int} {i N n : Nat} {z : Int} {u : Value} {acc : List Sp} {ob : List Blk} (h : SpI l i N n z u acc ob) (h0 : 0 < n) {s : Sp} (hs : spG l i n = s) (hm : s.may = false) : SpI l i N (n - 1) (z - 1) u acc ob :=
  ⟨by have := h.z; omega, h.sl, by have := h.len; omega, by
    obtain ⟨m, rfl⟩ : ∃ m, n = m + 1 := ⟨n - 1, by omega⟩
    have e := h.eq
    rw [show spansG l i (m + 1) = (if (spG l i (m + 1)).may then [spG l i (m + 1)] else []) ++ spansG l i m from rfl, hs, hm] at e
    simpa using e⟩
theorem SpI.grow {l : List Int} {i N n : Nat} {z : Int} {u u2 : Value} {acc : List Sp} {ob ob2 : List Blk} (h : SpI l i N n z u acc ob) (h0 : 0 < n) {s : Sp} (hs : spG l i n = s) (hm : s.may = true) (h2 : Sl 50 14 u2 (acc.length + 1) (acc.flatMap spanC ++ spanC s) ob2) : SpI l i N (n - 1) (z - 1) u2 (acc ++ [s]) ob2 :=
  ⟨by have := h.z; omega, h2.to (by simp) (by simp), by have := h.len; simp; omega, by
    obtain ⟨m, rfl⟩ : ∃ m, n = m + 1 := ⟨n - 1, by omega⟩
    have e := h.eq
    rw [show spansG l i (m + 1) = (if (spG l i (m + 1)).may then [spG l i (m + 1)] else []) ++ spansG l i m from rfl, hs, hm] at e
    simpa using e⟩

end Go.Proofs.YtjabcbagggicaaaGreatDoor
end

section
/-
  linchpinlaw0.Row: the row that the list's numbers name.
-/
namespace Go.Proofs.YtjabcbagggicaaaGreatDoor
open Go.RowKit
set_option maxRecDepth 100000
set_option linter.unusedVariables false
set_option linter.unusedSimpArgs false
set_option maxHeartbeats 2000000

def rowG (l : List Int) (i : Nat) : List Sp := makeL (spansG l i (plc (atL l i) (4 + 1 : Nat)).toNat)
end Go.Proofs.YtjabcbagggicaaaGreatDoor
end

section
/-
  The document's own answer for chapter 2 (linchpinref2): Bump and Next: the same values as package version's. Conditions: strings of at most a million bytes.
-/
namespace Go.Proofs.YtjabcbagggicaaaGreatDoor
open Go.RowKit

theorem rel_may (a b c : Int) : (Ver.rel a b c).may = (numOkI a && numOkI b && numOkI c) := by
  unfold Ver.may Ver.rel
  have h1 : preOk [] = true := by decide
  have h2 : listOk [] = true := by decide
  dsimp only
  rw [h1, h2, Bool.and_true, Bool.and_true]
theorem may_nat3 {v : Ver} (h : v.may = true) : (0 ≤ v.maj ∧ v.maj ≤ 9999) ∧ (0 ≤ v.min ∧ v.min ≤ 9999) ∧ (0 ≤ v.pat ∧ v.pat ≤ 9999) := by
  obtain ⟨h1, h2, h3⟩ := may_nums h
  unfold numOkI at h1 h2 h3; simp at h1 h2 h3
  exact ⟨h1, h2, h3⟩
theorem up_ok {a : Int} (h : 0 ≤ a ∧ a ≤ 9999) : numOkI (a + 1) = !(a == 9999) := by
  unfold numOkI
  by_cases e : a = 9999
  · subst e; decide
  · have : (a == 9999) = false := by simpa using e
    rw [this]; simp; omega
theorem in_ok {a : Int} (h : 0 ≤ a ∧ a ≤ 9999) : numOkI a = true := by unfold numOkI; simp; omega
theorem bump_may {v : Ver} (h : v.may = true) (k : Nat) (hk : k < 3) : (bumpN v k).may = bumpOk v k := by
  obtain ⟨h1, h2, h3⟩ := may_nat3 h
  have hz : numOkI 0 = true := by decide
  match k, hk with
  | 0, _ =>
    show (Ver.rel (v.maj + 1) 0 0).may = _
    rw [rel_may, up_ok h1, hz]
    unfold bumpOk; rw [h, show nth3 v.maj v.min v.pat ((0 : Nat) : Int).toNat = v.maj from rfl]; simp
  | 1, _ =>
    show (Ver.rel v.maj (v.min + 1) 0).may = _
    rw [rel_may, up_ok h2, hz, in_ok h1]
    unfold bumpOk; rw [h, show nth3 v.maj v.min v.pat ((1 : Nat) : Int).toNat = v.min from rfl]; simp
  | 2, _ =>
    show (Ver.rel v.maj v.min (v.pat + 1)).may = _
    rw [rel_may, up_ok h3, in_ok h1, in_ok h2]
    unfold bumpOk; rw [h, show nth3 v.maj v.min v.pat ((2 : Nat) : Int).toNat = v.pat from rfl]; simp
theorem rbump_done {v u : Ver} {part : Int} {b : Bool} {w wr : World} {tmps : Array Value} {old : Array Value} (h2 : tmps.getD 4 undef = .pointer (some ⟨w.heap.size + 1, 0, none⟩)) (h3 : tmps.getD 5 undef = .bool b)
    (hg : wr.heap[w.heap.size + 1]? = some (.cells old 24)) (hbel : Below w.heap.size w wr) (hb : bumpOk v part = b) (hv : bumpV v part = u) :
    bodyPost Tryz.prog Tryz.f130 (BEnd v part w) .ret ⟨tmps, []⟩ (wr.setRow (w.heap.size + 1) #[.int .i64 u.maj, .int .i64 u.min, .int .i64 u.pat, .string (mkS u.pre), .string (mkS u.build)]) := by
  have hrow := setRow_heap wr (w.heap.size + 1) _ #[.int .i64 u.maj, .int .i64 u.min, .int .i64 u.pat, .string (mkS u.pre), .string (mkS u.build)] _ _ hg
  have hr := run_loadVar_row (P := Tryz.prog) _ (w.heap.size + 1) 24 24 _ _ _ hrow Tryz.underlying24 rfl (by kernel_rfl)
  have h2' : tmps[4]?.getD undef = .pointer (some ⟨w.heap.size + 1, 0, none⟩) := by simpa using h2
  have h3' : tmps[5]?.getD undef = .bool b := by simpa using h3
  refine bodyPost_ret (v := .tuple #[verV u, .bool b]) (by simp [results, Tryz.results130, asAddr, h2', h3', hr, verV]) rfl ⟨by rw [hv, hb], below_setRow hbel (by omega) _⟩

set_option maxHeartbeats 8000000 in
set_option maxRecDepth 100000 in
theorem rbump_go (v : Ver) (part : Int) (w : World) (hp : v.pre.length ≤ 1000000) (hq : v.build.length ≤ 1000000) :
    Calls Tryz.prog 130 #[verV v, .int .i64 part] w (BEnd v part w) := by
  have cM := fun w' => rmay_any v w' hp hq
  obtain ⟨m, hm⟩ : ∃ m, v.may = m := ⟨_, rfl⟩
  rw [hm] at cM
  obtain ⟨a, b, c, p, q⟩ := v
  unfold verV at cM ⊢
  dsimp only at cM ⊢
  cases m with
  | false =>
    have HB : Hid (bumpOk ⟨a, b, c, p, q⟩ part = false) := by show _ = _; unfold bumpOk; rw [hm]; rfl
    clear hm
    go_enter Tryz.func130, Tryz.ntmps130
    go_wp2_with fail
    refine (cM _).mono ?_
    rintro e w1 ⟨rfl, hb1⟩
    have hgR := Lib.hid ((hb1.block (w.heap.size + 1) (by simp only [size_box]; omega)).trans (heap_at _ _ _ (by simp only [size_box])))
    have hbw : Below w.heap.size w w1 := (((Below.refl _ _).alloc (Nat.le_refl _) _).alloc (by simp only [size_box]; omega) _).trans (hb1.mono (by simp only [size_box]; omega))
    go_wp2_with (refine wpList_store_row rfl 24 _ _ rfl (w.heap.size + 1) #[.int .i64 0, .int .i64 0, .int .i64 0, .string ⟨#[]⟩, .string ⟨#[]⟩] rfl rfl _ _ hgR.out (by kernel_rfl) rfl (ver_one _ _ _ _ _) ?_)
    exact rbump_done (u := Ver.zero) rfl rfl hgR.out hbw HB.out (by unfold bumpV; rw [HB.out]; rfl)
  | true =>
    have HM := Lib.hid hm
    obtain ⟨⟨a0, a9⟩, ⟨b0, b9⟩, ⟨c0, c9⟩⟩ := may_nat3 hm
    dsimp only at a0 a9 b0 b9 c0 c9
    clear hm
    go_enter Tryz.func130, Tryz.ntmps130
    go_wp2_with fail
    refine (cM _).mono ?_
    rintro e w1 ⟨rfl, hb1⟩
    have hz1 := hb1.size
    simp only [size_box] at hz1
    have hgB := (hb1.block w.heap.size (by simp only [size_box]; omega)).trans ((heap_old _ _ (by simp only [size_box]; omega)).trans (heap_new w _))
    have hgR := Lib.hid ((hb1.block (w.heap.size + 1) (by simp only [size_box]; omega)).trans (heap_at _ _ _ (by simp only [size_box])))
    have hbw : Below w.heap.size w w1 := (((Below.refl _ _).alloc (Nat.le_refl _) _).alloc (by simp only [size_box]; omega) _).trans (hb1.mono (by simp only [size_box]; omega))
    obtain ⟨k0, _⟩ := cell_row (j := 0) hgB (by simp)
    obtain ⟨k1, _⟩ := cell_row (j := 1) hgB (by simp)
    obtain ⟨k2, _⟩ := cell_row (j := 2) hgB (by simp)
    simp only [List.getElem_toArray, List.getElem_cons_succ, List.getElem_cons_zero] at k0 k1 k2
    have hsB : w.heap.size < w1.heap.size := by omega
    clear hgB hb1 cM
    by_cases p0 : part < 0
    · have HB : Hid (bumpOk ⟨a, b, c, p, q⟩ part = false) := by show _ = _; unfold bumpOk; rw [decide_eq_false (by omega)]; simp
      go_wp2_with (refine wpList_store_row rfl 24 _ _ rfl (w.heap.size + 1) #[.int .i64 0, .int .i64 0, .int .i64 0, .string ⟨#[]⟩, .string ⟨#[]⟩] rfl rfl _ _ hgR.out (by kernel_rfl) rfl (ver_one _ _ _ _ _) ?_)
      exact rbump_done (u := Ver.zero) rfl rfl hgR.out hbw HB.out (by unfold bumpV; rw [HB.out]; rfl)
    · by_cases p3 : 2 < part
      · have HB : Hid (bumpOk ⟨a, b, c, p, q⟩ part = false) := by show _ = _; unfold bumpOk; rw [decide_eq_false (by omega)]; simp
        go_wp2_with (refine wpList_store_row rfl 24 _ _ rfl (w.heap.size + 1) #[.int .i64 0, .int .i64 0, .int .i64 0, .string ⟨#[]⟩, .string ⟨#[]⟩] rfl rfl _ _ hgR.out (by kernel_rfl) rfl (ver_one _ _ _ _ _) ?_)
        exact rbump_done (u := Ver.zero) rfl rfl hgR.out hbw HB.out (by unfold bumpV; rw [HB.out]; rfl)
      · have hpart : part = ((0 : Nat) : Int) ∨ part = ((1 : Nat) : Int) ∨ part = ((2 : Nat) : Int) := by omega
        clear p0 p3
        rcases hpart with rfl | rfl | rfl
        · have hmb := bump_may (v := ⟨a, b, c, p, q⟩) HM.out 0 (by omega)
          have cO := fun w' => rmay_any (bumpN ⟨a, b, c, p, q⟩ 0) w' (by show (0 : Nat) ≤ _; omega) (by show (0 : Nat) ≤ _; omega)
          rw [hmb] at cO
          obtain ⟨o, ho⟩ : ∃ o, bumpOk ⟨a, b, c, p, q⟩ ((0 : Nat) : Int) = o := ⟨_, rfl⟩
          have hval : o = true → bumpV ⟨a, b, c, p, q⟩ ((0 : Nat) : Int) = Ver.rel (a + 1) (0) (0) := fun h => by unfold bumpV; rw [ho, h]; rfl
          have hval2 : o = false → bumpV ⟨a, b, c, p, q⟩ ((0 : Nat) : Int) = Ver.zero := fun h => by unfold bumpV; rw [ho, h]; rfl
          rw [ho] at cO
          have HO := Lib.hid ho
          have HV := Lib.hid hval
          have HV2 := Lib.hid hval2
          clear ho hval hval2 hmb
          rw [show bumpN ⟨a, b, c, p, q⟩ 0 = Ver.rel (a + 1) (0) (0) from rfl] at cO
          unfold verV Ver.rel at cO
          dsimp only at cO
          go_wp2_with fail
          refine (cO _).mono ?_
          rintro e w2 ⟨rfl, hb2⟩
          have hg2 := Lib.hid ((hb2.block (w.heap.size + 1) (by rw [size_box]; omega)).trans ((heap_old w1 _ (by omega)).trans hgR.out))
          have hgV := Lib.hid ((hb2.block w1.heap.size (by rw [size_box]; omega)).trans (heap_new w1 _))
          have hbw2 : Below w.heap.size w w2 := (hbw.alloc (by omega) _).trans (hb2.mono (by rw [size_box]; omega))
          cases o with
          | false =>
            go_wp2_with (refine wpList_store_row rfl 24 _ _ rfl (w.heap.size + 1) #[.int .i64 0, .int .i64 0, .int .i64 0, .string ⟨#[]⟩, .string ⟨#[]⟩] rfl rfl _ _ hg2.out (by kernel_rfl) rfl (ver_one _ _ _ _ _) ?_)
            exact rbump_done (u := Ver.zero) rfl rfl hg2.out hbw2 HO.out (HV2.out trivial)
          | true =>
            go_wp2_with (first
              | (refine wpList_load_row rfl 24 _ rfl w1.heap.size rfl _ _ _ _ hgV.out Tryz.underlying24 rfl (by kernel_rfl) ?_)
              | (refine wpList_store_row rfl 24 _ _ rfl (w.heap.size + 1) _ rfl rfl _ _ hg2.out (by kernel_rfl) rfl (ver_one _ _ _ _ _) ?_))
            exact rbump_done (u := Ver.rel (a + 1) (0) (0)) rfl rfl hg2.out hbw2 HO.out (HV.out trivial)
        · have hmb := bump_may (v := ⟨a, b, c, p, q⟩) HM.out 1 (by omega)
          have cO := fun w' => rmay_any (bumpN ⟨a, b, c, p, q⟩ 1) w' (by show (0 : Nat) ≤ _; omega) (by show (0 : Nat) ≤ _; omega)
          rw [hmb] at cO
          obtain ⟨o, ho⟩ : ∃ o, bumpOk ⟨a, b, c, p, q⟩ ((1 : Nat) : Int) = o := ⟨_, rfl⟩
          have hval : o = true → bumpV ⟨a, b, c, p, q⟩ ((1 : Nat) : Int) = Ver.rel (a) (b + 1) (0) := fun h => by unfold bumpV; rw [ho, h]; rfl
          have hval2 : o = false → bumpV ⟨a, b, c, p, q⟩ ((1 : Nat) : Int) = Ver.zero := fun h => by unfold bumpV; rw [ho, h]; rfl
          rw [ho] at cO
          have HO := Lib.hid ho
          have HV := Lib.hid hval
          have HV2 := Lib.hid hval2
          clear ho hval hval2 hmb
          rw [show bumpN ⟨a, b, c, p, q⟩ 1 = Ver.rel (a) (b + 1) (0) from rfl] at cO
          unfold verV Ver.rel at cO
          dsimp only at cO
          go_wp2_with fail
          refine (cO _).mono ?_
          rintro e w2 ⟨rfl, hb2⟩
          have hg2 := Lib.hid ((hb2.block (w.heap.size + 1) (by rw [size_box]; omega)).trans ((heap_old w1 _ (by omega)).trans hgR.out))
          have hgV := Lib.hid ((hb2.block w1.heap.size (by rw [size_box]; omega)).trans (heap_new w1 _))
          have hbw2 : Below w.heap.size w w2 := (hbw.alloc (by omega) _).trans (hb2.mono (by rw [size_box]; omega))
          cases o with
          | false =>
            go_wp2_with (refine wpList_store_row rfl 24 _ _ rfl (w.heap.size + 1) #[.int .i64 0, .int .i64 0, .int .i64 0, .string ⟨#[]⟩, .string ⟨#[]⟩] rfl rfl _ _ hg2.out (by kernel_rfl) rfl (ver_one _ _ _ _ _) ?_)
            exact rbump_done (u := Ver.zero) rfl rfl hg2.out hbw2 HO.out (HV2.out trivial)
          | true =>
            go_wp2_with (first
              | (refine wpList_load_row rfl 24 _ rfl w1.heap.size rfl _ _ _ _ hgV.out Tryz.underlying24 rfl (by kernel_rfl) ?_)
              | (refine wpList_store_row rfl 24 _ _ rfl (w.heap.size + 1) _ rfl rfl _ _ hg2.out (by kernel_rfl) rfl (ver_one _ _ _ _ _) ?_))
            exact rbump_done (u := Ver.rel (a) (b + 1) (0)) rfl rfl hg2.out hbw2 HO.out (HV.out trivial)
        · have hmb := bump_may (v := ⟨a, b, c, p, q⟩) HM.out 2 (by omega)
          have cO := fun w' => rmay_any (bumpN ⟨a, b, c, p, q⟩ 2) w' (by show (0 : Nat) ≤ _; omega) (by show (0 : Nat) ≤ _; omega)
          rw [hmb] at cO
          obtain ⟨o, ho⟩ : ∃ o, bumpOk ⟨a, b, c, p, q⟩ ((2 : Nat) : Int) = o := ⟨_, rfl⟩
          have hval : o = true → bumpV ⟨a, b, c, p, q⟩ ((2 : Nat) : Int) = Ver.rel (a) (b) (c + 1) := fun h => by unfold bumpV; rw [ho, h]; rfl
          have hval2 : o = false → bumpV ⟨a, b, c, p, q⟩ ((2 : Nat) : Int) = Ver.zero := fun h => by unfold bumpV; rw [ho, h]; rfl
          rw [ho] at cO
          have HO := Lib.hid ho
          have HV := Lib.hid hval
          have HV2 := Lib.hid hval2
          clear ho hval hval2 hmb
          rw [show bumpN ⟨a, b, c, p, q⟩ 2 = Ver.rel (a) (b) (c + 1) from rfl] at cO
          unfold verV Ver.rel at cO
          dsimp only at cO
          go_wp2_with fail
          refine (cO _).mono ?_
          rintro e w2 ⟨rfl, hb2⟩
          have hg2 := Lib.hid ((hb2.block (w.heap.size + 1) (by rw [size_box]; omega)).trans ((heap_old w1 _ (by omega)).trans hgR.out))
          have hgV := Lib.hid ((hb2.block w1.heap.size (by rw [size_box]; omega)).trans (heap_new w1 _))
          have hbw2 : Below w.heap.size w w2 := (hbw.alloc (by omega) _).trans (hb2.mono (by rw [size_box]; omega))
          cases o with
          | false =>
            go_wp2_with (refine wpList_store_row rfl 24 _ _ rfl (w.heap.size + 1) #[.int .i64 0, .int .i64 0, .int .i64 0, .string ⟨#[]⟩, .string ⟨#[]⟩] rfl rfl _ _ hg2.out (by kernel_rfl) rfl (ver_one _ _ _ _ _) ?_)
            exact rbump_done (u := Ver.zero) rfl rfl hg2.out hbw2 HO.out (HV2.out trivial)
          | true =>
            go_wp2_with (first
              | (refine wpList_load_row rfl 24 _ rfl w1.heap.size rfl _ _ _ _ hgV.out Tryz.underlying24 rfl (by kernel_rfl) ?_)
              | (refine wpList_store_row rfl 24 _ _ rfl (w.heap.size + 1) _ rfl rfl _ _ hg2.out (by kernel_rfl) rfl (ver_one _ _ _ _ _) ?_))
            exact rbump_done (u := Ver.rel (a) (b) (c + 1)) rfl rfl hg2.out hbw2 HO.out (HV.out trivial)

theorem rbump_any (v : Ver) (part : Int) (w : World) (hp : v.pre.length ≤ 1000000) (hq : v.build.length ≤ 1000000) :
    Calls Tryz.prog 130 #[verV v, .int .i64 part] w fun e w' => e = .returned (.tuple #[verV (bumpV v part), .bool (bumpOk v part)]) ∧ Below w.heap.size w w' := rbump_go v part w hp hq
end Go.Proofs.YtjabcbagggicaaaGreatDoor
end

section
/-
  linchpinref5: least, right, ahead, behind, turned, None: what they return; nothing that was there is changed.
-/
namespace Go.Proofs.YtjabcbagggicaaaGreatDoor
open Go.RowKit
set_option maxRecDepth 100000
set_option linter.unusedVariables false
set_option linter.unusedSimpArgs false
set_option maxHeartbeats 2000000

theorem core_short {v : Ver} (h : v.short) : (coreV v).short := ⟨h.1, by show ([] : List UInt8).length ≤ _; exact Nat.zero_le _⟩
theorem rbefore_any (v : Ver) (W : World) (hv : v.short) : Calls Tryz.prog 57 #[verV v] W fun e w' => e = .returned (cutV ⟨0, coreV v, false⟩) ∧ Below W.heap.size W w' := by
  refine calls_ok (n := 6) Tryz.func57 rfl (by kernel_rfl) (by kernel_rfl) ?_
  refine ok_seq ?_
  refine ok_region ?_
  refine s_box (verV v) (by kernel_rfl) rfl (by kernel_rfl) (fun b1 => ?_)
  refine s_alloc_at (.agg #[.int .i64 0, .int .i64 0, .int .i64 0, .int .i64 0, .string ⟨#[]⟩, .string ⟨#[]⟩, .bool false]) (by kernel_rfl) rfl (by kernel_rfl) (fun b2 => ?_)
  refine s_nil ?_
  refine fin_seq ?_
  refine ok_seq ?_
  refine ok_region ?_
  refine s_load 1 ⟨b1, (verV v).cells, 24⟩ (off := 0) (verV v) (by kernel_rfl) rfl (by kernel_rfl) (by kernel_rfl) (by kernel_rfl) ?_
  refine s_call (k := 101) (args := #[verV v]) (verV (coreV v)) (by kernel_rfl) (fun _ => by kernel_rfl) (fun w _ => rcore_any v w) ?_
  refine s_val (.agg #[.int .i64 0, .int .i64 ((coreV v).maj), .int .i64 ((coreV v).min), .int .i64 ((coreV v).pat), .string (mkS (coreV v).pre), .string (mkS (coreV v).build), .bool false]) (by kernel_rfl) (fun _ => by kernel_rfl) ?_
  refine s_store_at 0 ⟨b2, #[.int .i64 0, .int .i64 0, .int .i64 0, .int .i64 0, .string ⟨#[]⟩, .string ⟨#[]⟩, .bool false], 48⟩ (off := 0) (.agg #[.int .i64 0, .int .i64 ((coreV v).maj), .int .i64 ((coreV v).min), .int .i64 ((coreV v).pat), .string (mkS (coreV v).pre), .string (mkS (coreV v).build), .bool false]) (by kernel_rfl) rfl rfl (by kernel_rfl) (by kernel_rfl) (by kernel_rfl) (by kernel_rfl) (by kernel_rfl) ?_
  refine s_nil ?_
  refine fin_seq ?_
  refine ok_ret ?_
  refine fin_cell 0 ⟨b2, #[.int .i64 0, .int .i64 ((coreV v).maj), .int .i64 ((coreV v).min), .int .i64 ((coreV v).pat), .string (mkS (coreV v).pre), .string (mkS (coreV v).build), .bool false], 48⟩ (off := 0) (.agg #[.int .i64 0, .int .i64 ((coreV v).maj), .int .i64 ((coreV v).min), .int .i64 ((coreV v).pat), .string (mkS (coreV v).pre), .string (mkS (coreV v).build), .bool false]) Tryz.results57 (by kernel_rfl) (by kernel_rfl) (by kernel_rfl) ?_
  exact fun w hO => ⟨rfl, hO.below⟩
theorem rbehindC_any (v : Ver) (W : World) (hv : v.short) : Calls Tryz.prog 93 #[verV v] W fun e w' => e = .returned (cutV ⟨0, coreV v, true⟩) ∧ Below W.heap.size W w' := by
  refine calls_ok (n := 6) Tryz.func93 rfl (by kernel_rfl) (by kernel_rfl) ?_
  refine ok_seq ?_
  refine ok_region ?_
  refine s_box (verV v) (by kernel_rfl) rfl (by kernel_rfl) (fun b1 => ?_)
  refine s_alloc_at (.agg #[.int .i64 0, .int .i64 0, .int .i64 0, .int .i64 0, .string ⟨#[]⟩, .string ⟨#[]⟩, .bool false]) (by kernel_rfl) rfl (by kernel_rfl) (fun b2 => ?_)
  refine s_nil ?_
  refine fin_seq ?_
  refine ok_seq ?_
  refine ok_region ?_
  refine s_load 1 ⟨b1, (verV v).cells, 24⟩ (off := 0) (verV v) (by kernel_rfl) rfl (by kernel_rfl) (by kernel_rfl) (by kernel_rfl) ?_
  refine s_call (k := 101) (args := #[verV v]) (verV (coreV v)) (by kernel_rfl) (fun _ => by kernel_rfl) (fun w _ => rcore_any v w) ?_
  refine s_val (.agg #[.int .i64 0, .int .i64 ((coreV v).maj), .int .i64 ((coreV v).min), .int .i64 ((coreV v).pat), .string (mkS (coreV v).pre), .string (mkS (coreV v).build), .bool true]) (by kernel_rfl) (fun _ => by kernel_rfl) ?_
  refine s_store_at 0 ⟨b2, #[.int .i64 0, .int .i64 0, .int .i64 0, .int .i64 0, .string ⟨#[]⟩, .string ⟨#[]⟩, .bool false], 48⟩ (off := 0) (.agg #[.int .i64 0, .int .i64 ((coreV v).maj), .int .i64 ((coreV v).min), .int .i64 ((coreV v).pat), .string (mkS (coreV v).pre), .string (mkS (coreV v).build), .bool true]) (by kernel_rfl) rfl rfl (by kernel_rfl) (by kernel_rfl) (by kernel_rfl) (by kernel_rfl) (by kernel_rfl) ?_
  refine s_nil ?_
  refine fin_seq ?_
  refine ok_ret ?_
  refine fin_cell 0 ⟨b2, #[.int .i64 0, .int .i64 ((coreV v).maj), .int .i64 ((coreV v).min), .int .i64 ((coreV v).pat), .string (mkS (coreV v).pre), .string (mkS (coreV v).build), .bool true], 48⟩ (off := 0) (.agg #[.int .i64 0, .int .i64 ((coreV v).maj), .int .i64 ((coreV v).min), .int .i64 ((coreV v).pat), .string (mkS (coreV v).pre), .string (mkS (coreV v).build), .bool true]) Tryz.results93 (by kernel_rfl) (by kernel_rfl) (by kernel_rfl) ?_
  exact fun w hO => ⟨rfl, hO.below⟩
end Go.Proofs.YtjabcbagggicaaaGreatDoor
end

section
/-
  The document's own Join (linchpinref1): joinL, for lists whose whole length is at most 10^9.
-/
namespace Go.Proofs.YtjabcbagggicaaaGreatDoor
open Go.RowKit

set_option maxHeartbeats 2000000 in
theorem rjoin_any (v : Value) (l : List (List UInt8)) (b : UInt8) (w : World) (hv : ReadsT w w.heap.size v l) (hl : (joinL b l).length ≤ 1000000000) (hn : l.length ≤ 1000000000) :
    Calls Tryz.prog 50 #[v, .int .u8 b.toNat] w fun e w' => e = .returned (.string (mkS (joinL b l))) ∧ Below w.heap.size w w' := by
  have hcv := fun (w : World) (x : Int) => conv1 w x
  obtain ⟨A, cap, rfl, hcell⟩ := hv
  go_enter Tryz.func50, Tryz.ntmps50
  go_wp2
  go_loopw [5, 6] (fun sv iv wr => ∃ (k : Nat), iv = .int .i64 k ∧ k ≤ l.length ∧ sv = .string (mkS (joinL b (l.take k))) ∧ Below w.heap.size w wr) (fun _ iv _ => l.length - (intOf iv).toNat)
  case atStart => exact ⟨0, rfl, Nat.zero_le _, rfl, Below.refl _ _⟩
  case round =>
    obtain ⟨k, rfl, hk, rfl, hb⟩ := hrel
    have hsz := hb.size
    by_cases hp : k < l.length
    · obtain ⟨ad, rfl, hlt, hc⟩ := hcell (by omega)
      have hck : wr.cell? (ad.add k) = some (.string (mkS l[k])) := (hb.cell (by rw [addr_block]; exact hlt)).trans (hc k hp)
      have hln : (joinL b (l.take (k + 1))).length ≤ 1000000000 := Nat.le_trans (joinL_take_le b l (k + 1)) hl
      have HJ := Lib.hid (joinL_snoc b (l.take k) l[k])
      rw [← take_snocL l k hp] at HJ
      clear hc hcell
      by_cases h0 : k = 0
      · subst h0
        have hx1 : (mkS (joinL b [])).size ≤ 0 := by rw [mkS_size]; simp [joinL]
        have hx2 : (mkS l[0]).size ≤ 1000000000 := by
          rw [mkS_size]; rw [HJ.out, if_pos List.take_zero] at hln; exact hln
        have hck0 : wr.cell? ad = some (.string (mkS l[0])) := hck
        clear hck
        go_wp2
        go_roundw
        case rel => exact ⟨0 + 1, by go_num, by omega, by rw [HJ.out, if_pos List.take_zero, mkS_append]; rfl, hb⟩
        case measure => simp [intOf]; omega
      · have h0p : 0 < k := by omega
        have hlen : (joinL b (l.take k)).length + (l[k].length + 1) ≤ 1000000000 := by
          rw [HJ.out, if_neg (take_nil_iff l k hp h0p), List.length_append, List.length_cons] at hln; exact hln
        have hx1 : (mkS (joinL b (l.take k))).size + ((mkS l[k]).size + 1) ≤ 1000000000 := by rw [mkS_size, mkS_size]; exact hlen
        have hx2 : (one (b.toNat : Int)).size ≤ 1 := Nat.le_refl _
        have hx3 : (mkS (joinL b (l.take k)) ++ one (b.toNat : Int)).size ≤ (mkS (joinL b (l.take k))).size + 1 := by rw [ByteArray.size_append]; omega
        clear hlen
        have hck2 := fun o => (World.cell?_alloc_lt wr o (ad.add k) (by rw [addr_block]; omega)).trans hck
        clear hck
        go_wp2
        go_roundw
        case rel => exact ⟨k + 1, by go_num, by omega, by rw [HJ.out, if_neg (take_nil_iff l k hp h0p), one_mk, mkS_append, mkS_append, List.append_assoc]; rfl, hb.alloc hsz _⟩
        case measure => simp [intOf]; omega
    · obtain rfl : k = l.length := by omega
      go_wp2
      go_ret
      exact ⟨ret_str (by rw [List.take_length]), hb⟩

end Go.Proofs.YtjabcbagggicaaaGreatDoor
end

section
/-
  A load out of a slice that reads as a list. No condition of its own.
-/
namespace Go.Proofs.YtjabcbagggicaaaGreatDoor
open Go.RowKit
set_option linter.unusedVariables false
theorem Reads.load {P : Program} {α : Type} {g : α → List Value} {sz : Nat} (hg : ∀ x, (g x).length = sz) {ty : TypeId} {w : World} {B b off o : Nat} {A : Option Addr} {l : List α} (h : Reads g w B A l) (hA : A = some ⟨b, off, none⟩) (k fo : Nat) (hk : k < l.length) (ho : o = off + k * sz + fo) (v : Value)
    (hr : readAt P ty ((g l[k]).drop fo).toArray 0 = some v) : (loadVar ty ⟨b, o, none⟩).run P w = .ok v w := by
  subst hA
  obtain ⟨b', off', e, hlt, hcell⟩ := h (by omega)
  obtain ⟨rfl, rfl⟩ : b = b' ∧ off = off' := by simp at e; exact e
  exact elem_load hg hcell k fo hk ho v hr
end Go.Proofs.YtjabcbagggicaaaGreatDoor
end

section
/-
  A drawn region's list of blocks in another order. No condition of its own.
-/
namespace Go.Proofs.YtjabcbagggicaaaGreatDoor
open Go.RowKit
set_option linter.unusedVariables false
section
variable {M : List Nat} {P : Program} {n : Nat} {ops : Array Oper} {W : World} {L0 : List Blk} {Q : Exit → Act → World → Prop} {fuel : Nat} {listed : Array Bool} {L : List Blk} {f : Nat → Value}
theorem h_drop (E : List Blk) (h : HSeg M P n ops W L0 Q fuel listed L0 f) : HSeg M P n ops W L0 Q fuel listed (E ++ L0) f := ⟨fun w hO => h.go w (Own.sub E hO)⟩
end
theorem own_nil {M : List Nat} {W w : World} {L : List Blk} (h : Own M W w L) : Own M W w [] := h.sublist (List.nil_sublist _)
end Go.Proofs.YtjabcbagggicaaaGreatDoor
end

section
/-
  Slices of strings in the way of Rx: what linchpinref1's Split returns as an own block; literals; reading. No condition of its own.
-/
namespace Go.Proofs.YtjabcbagggicaaaGreatDoor
open Go.RowKit
set_option linter.unusedVariables false
set_option linter.unusedSimpArgs false

/-- The value v is a slice of the strings l that lies in ob. -/
def SlT (v : Value) (l : List (List UInt8)) (ob : List Blk) : Prop := Sl 9 1 v l.length (strV l) ob
theorem SlT.form {v : Value} {l : List (List UInt8)} {ob : List Blk} (h : SlT v l ob) : ∃ A cap, v = .slice A l.length cap := by
  rcases h.2 with ⟨h1, h2, _⟩ | ⟨g, cap, cur, h1, _⟩
  · exact ⟨none, 0, by rw [h1, h2]⟩
  · exact ⟨_, _, h1⟩
theorem Own.row {w w' : World} {T sz n : Nat} {v : Value} {xs : List Value} (h : w'.ownsRow w.heap.size T sz v n xs) (hb : Below w.heap.size w w') : ∃ ob, Sl T sz v n xs ob ∧ Own [] w w' ob := by
  rcases h.2 with ⟨h1, h2⟩ | ⟨g, cap, cur, h1, h2, h3, h4, h5, h6, h7⟩
  · exact ⟨[], ⟨h.1, .inl ⟨h1, h2, rfl⟩⟩, ⟨hb.os, hb.tape, hb.output, hb.size, hb.drawn, fun k hk _ => hb.block k hk, by simp, by simp, by simp⟩⟩
  · refine ⟨[⟨g, cur, T⟩], ⟨h.1, .inr ⟨g, cap, cur, h1, rfl, h4, h5, h6, h7⟩⟩, ⟨hb.os, hb.tape, hb.output, hb.size, hb.drawn, fun k hk _ => hb.block k hk, ?_, ?_, by simp⟩⟩
    · intro x hx
      rw [List.mem_singleton.1 hx]; exact h3
    · intro x hx
      rw [List.mem_singleton.1 hx]; exact .inl h2
def strC (x : List UInt8) : List Value := [.string (mkS x)]
theorem strC_len (x : List UInt8) : (strC x).length = 1 := rfl
theorem strV_flat : ∀ (l : List (List UInt8)), strV l = l.flatMap strC
  | [] => rfl
  | x :: l => by
    show Value.string (mkS x) :: strV l = [Value.string (mkS x)] ++ l.flatMap strC
    rw [strV_flat l]; rfl
theorem SlT.reads {A : Option Addr} {n cap : Nat} {l : List (List UInt8)} {ob L : List Blk} {M : List Nat} {W w : World} (h : SlT (.slice A n cap) l ob) (hn : l.length = n) (hO : Own M W w L) (hs : ∀ x ∈ ob, x ∈ L) : Reads strC w w.heap.size A l := by
  subst hn
  unfold SlT at h
  rw [strV_flat] at h
  exact Sl.reads h rfl hO hs
/-- Read as strings in the elder way. -/
theorem SlT.readsT {v : Value} {l : List (List UInt8)} {ob L : List Blk} {M : List Nat} {W w : World} (h : SlT v l ob) (hO : Own M W w L) (hs : ∀ x ∈ ob, x ∈ L) : ReadsT w w.heap.size v l := by
  obtain ⟨A, cap, rfl⟩ := h.form
  refine ⟨A, cap, rfl, fun h0 => ?_⟩
  obtain ⟨b, off, e, hlt, hc⟩ := SlT.reads h rfl hO hs h0
  refine ⟨⟨b, off, none⟩, e, hlt, fun j hj => ?_⟩
  rw [add_off]
  refine hc j _ ?_
  rw [← strV_flat]
  unfold strV
  rw [List.getElem?_map, List.getElem?_eq_getElem hj]; rfl
theorem str_cells (l : List (List UInt8)) : ∀ u ∈ strV l, u.oneCell' = true := fun u hu => by
  unfold strV at hu
  obtain ⟨x, _, rfl⟩ := List.mem_map.1 hu; rfl
end Go.Proofs.YtjabcbagggicaaaGreatDoor
end

section
/-
  s[:j], s[i:], s[i] of a string; s[:j], s[:j:m] of a slice that was made. No condition of their own.
-/
namespace Go.Proofs.YtjabcbagggicaaaGreatDoor
open Go.RowKit
set_option maxRecDepth 100000
set_option linter.unusedVariables false
set_option linter.unusedSimpArgs false
theorem run_slhm {P : Program} {ρ : Operand → Value} {o : Oper} {t e : TypeId} {x z y : Operand} {b n c sz : Nat} {k q : IntKind} {j m : Int} (ho : o.op = .slice t x none (some z) (some y)) (hx : ρ x = .slice (some ⟨b, 0, none⟩) n c) (hz : ρ z = .int k j) (hy : ρ y = .int q m)
    (hu : P.underlying t = some (.slice e)) (hs : (P.info? e).map (·.size) = some sz) (h0 : 0 ≤ j) (h1 : j ≤ m) (h2 : m ≤ c) (w : World) : (execOp ρ o).run P w = .ok (.value (.slice (some ⟨b, 0, none⟩) j.toNat m.toNat)) w := by
  cases he : P.info? e with
  | none => rw [he] at hs; cases hs
  | some i =>
    rw [he] at hs
    obtain rfl := Option.some.inj hs
    have h3 : 0 ≤ m := Int.le_trans h0 h1
    unfold execOp
    simp [ho, hx, hz, hy, Instr.sliceAt, Instr.slice, Instr.sliceBounds, Instr.sliceBound, Sem.run_bind, asIntOf, run_underlying hu, h0, h1, h2, h3, sizeOf, typeInfo, he, add_off]
    try (first | omega | (rw [if_pos (by omega)]; simp [add_off]))
theorem run_stradd {P : Program} {ρ : Operand → Value} {o : Oper} {t t' : TypeId} {x y : Operand} {a b : List UInt8} (ho : o.op = .binOp .add t x y t') (hx : ρ x = .string (mkS a)) (hy : ρ y = .string (mkS b)) (hb : a.length + b.length ≤ 4000000000) (w : World) : (execOp ρ o).run P w = .ok (.value (.string (mkS (a ++ b)))) w := by
  unfold execOp
  have h1 : ¬ (9223372036854775807 : Int) < ((mkS a).size : Int) + ((mkS b).size : Int) := by rw [mkS_sz, mkS_sz]; omega
  simp [ho, hx, hy, Sem.run_bind, eqGuard, binOp, Op.stringOp, mkS_append, h1]
theorem run_min2 {P : Program} {ρ : Operand → Value} {o : Oper} {t t' : TypeId} {x y : Operand} {k q : IntKind} {i j : Int} (ho : o.op = .call { callee := .builtin .min, args := #[x, y], argTypes := #[t, t'] }) (hx : ρ x = .int k i) (hy : ρ y = .int q j) (w : World) : (execOp ρ o).run P w = .ok (.value (.int k (min i j))) w := by
  unfold execOp
  have e : min i j = if j < i then j else i := by split <;> omega
  simp [ho, resolve, invoke, builtin, Builtin.min_, Builtin.min2, hx, hy, e]
section
variable {M : List Nat} {P : Program} {n0 : Nat} {ops : Array Oper} {W : World} {Q : Exit → Act → World → Prop} {rest : List Oper} {o : Oper} {L : List Blk} {f : Nat → Value}
/-- append to a slice that has no room: a new block. -/
theorem s_appendF {t T : TypeId} {s x : Operand} {i : TypeInfo} {z : Value} {sz : Nat} (hw : want ops n0 f o = true) (ho : o.op = .call { callee := .builtin .append, args := #[s, x], argTypes := #[t, t] })
    (ht : P.underlying t = some (.slice T)) (hi : P.info? T = some i) (hz : i.zero = some z) (hsz : i.size = sz) (hzs : z.cells.size = sz)
    {b : Addr} {n cap : Nat} {xs : List Value} (hs : ev n0 f s = .slice (some b) n cap) (hxl : xs.length = n * sz) (hxs : ∀ w, Own M W w L → ∀ j u, xs[j]? = some u → w.cell? (b.add j) = some u)
    {a : Addr} {m c : Nat} {news : List Value} (hx : ev n0 f x = .slice (some a) m c) (hl : news.length = m * sz) (hnews : ∀ w, Own M W w L → ∀ j u, news[j]? = some u → w.cell? (a.add j) = some u)
    (hroom : cap < n + m) (h63 : n + m ≤ maxLen) (hbytes : (n + m) * i.bytes ≤ 140737488355328)
    (h : ∀ v' ob', Sl T sz v' (n + m) (xs ++ news) ob' → Seg M P n0 ops W Q rest (ob' ++ L) (upd f o.dst v')) : Seg M P n0 ops W Q (o :: rest) L f :=
  s_step hw fun w hO => by
    subst hsz
    have hsmall : n + m ≤ 9223372036854775807 := by simp only [maxLen] at h63; omega
    have hlen : (xs ++ news).length = (n + m) * i.size := by rw [List.length_append, hxl, hl, Nat.add_mul]
    have hr := run_append_grow (P := P) w t o.type T i z ht hi hz b n cap xs hxl (hxs w hO) a m c news hl (hnews w hO) (by omega) (by omega) (growslice_fits (by omega) hbytes)
    have hge := grownCap_ge w (n + m) cap T
    have hcm := grownCap_le_maxLen w (n + m) cap T h63
    refine wp_val _ (w' := _) ?_ ((h _ [⟨w.heap.size, xs.toArray ++ news.toArray ++ Builtin.zeroCells z.cells (grownCap w (n + m) cap T - (n + m)), T⟩] ⟨hlen, .inr ⟨w.heap.size, grownCap w (n + m) cap T, _, rfl, rfl, hge, hcm, ?_, ?_⟩⟩).go _ ((drew_own hO).alloc (xs.toArray ++ news.toArray ++ Builtin.zeroCells z.cells (grownCap w (n + m) cap T - (n + m))) T))
    · unfold execOp
      simp only [ho, resolve, invoke, builtin, Sem.run_bind, Sem.run_pure, Result.andThen_ok, List.map_toArray, List.map_cons, List.map_nil, hs, hx, hr]
    · simp only [Array.size_append, List.size_toArray, size_zeroCells, hzs, hxl, hl, ← Nat.add_mul]
      congr 1
      omega
    · simp only [Array.toList_append, List.append_assoc]
      rw [← List.append_assoc, ← hlen]
      exact List.take_left
end
section
variable {M : List Nat} {P : Program} {n : Nat} {ops : Array Oper} {W : World} {L0 : List Blk} {Q : Exit → Act → World → Prop} {fuel : Nat} {listed : Array Bool} {f : Nat → Value}
end
end Go.Proofs.YtjabcbagggicaaaGreatDoor
end
