/-
  What the statement's proof leans on: the ways of walking, n8 mathematics, and what the program's functions return; each theorem says on what conditions.
-/
import Derived.Tactics
import Derived.Lib.AppendZerosOnto
import Derived.Lib.SliceRun
import Derived.Outline
import Derived.Test.YtkljdpiaghepfaaGreatDoorMB2
set_option maxRecDepth 1000000
set_option maxHeartbeats 8000000
set_option linter.unusedVariables false
set_option linter.unusedSimpArgs false
namespace Go.Proofs.YtkljdpiaghepfaaGreatDoor
open Go.RowKit

section
theorem n5 {l : List Sp} {k : Nat} (hk : k < l.length) (h : zJ (l.take k) = true) (hs : l[k].may = true) (hc : ∀ h0 : 0 < k, zP (l[k - 1]'(by omega)).hi l[k].lo < 0) : zJ (l.take (k + 1)) = true := by
  rw [List.take_succ_eq_append_getElem hk]
  refine u0 h hs fun t ht => ?_
  cases k with
  | zero => simp at ht
  | succ k =>
    have e := List.take_succ_eq_append_getElem (l := l) (i := k) (by omega)
    rw [e, List.getLast?_concat] at ht
    obtain rfl : l[k] = t := Option.some.inj ht
    exact hc (by omega)
theorem row_pair : ∀ {l : List Sp}, zJ l = true → ∀ k (hk : k < l.length) (h0 : 0 < k), zP (l[k - 1]'(by omega)).hi l[k].lo < 0
  | [], _, k, hk, _ => by simp at hk
  | s :: l, h, k, hk, h0 => by
    cases k with
    | zero => omega
    | succ k =>
      cases k with
      | zero => exact kU h _ (List.getElem_mem _)
      | succ k => exact row_pair (kN h) (k + 1) (by simpa using hk) (by omega)
theorem any_drop (l : List Sp) (v : Ver) (k : Nat) (hk : k < l.length) : (l.drop k).any (gP · v) = (gP l[k] v || (l.drop (k + 1)).any (gP · v)) := by
  rw [List.drop_eq_getElem_cons hk, List.any_cons]
theorem fN (A : Option Addr) (cap : Nat) (l : List Sp) (W : World) (hv : Reads x9 W W.heap.size A l) (hn : l.length ≤ 1000000) (hl : xI l) :
    Calls Tryz.prog 54 #[.slice A l.length cap] W fun e w' => e = .returned (.bool (zJ l)) ∧ Below W.heap.size W w' := by
  refine zQ (n := 35) Tryz.func54 rfl (by kernel_rfl) (by kernel_rfl) (ZO (Zv (.bool false) (ZN (z6 (ZO (Zv (.int .i64 0) (zN (zC ?_))))))))
  refine zI (yT (fun L f m => ∃ (k : Nat) (j : Nat → Value), (k ≤ l.length ∧ zJ (l.take k) = true) ∧ L = [] ∧ f = kE j [(0, .slice A l.length cap), (3, .int .i64 (k : Int))] ∧ m = l.length - k) (l.length - 0) ⟨0, _, ⟨Nat.zero_le _, by rw [List.take_zero]; rfl⟩, rfl, ZU, rfl⟩ ?_)
  rintro L f m ⟨k, j, hrel, rfl, rfl, rfl⟩
  have hkl := hrel.1
  refine z6 (ZO (Zv (.int .i64 (k : Int)) (Zv (.slice A l.length cap) (Zv (.int .i64 (l.length : Int)) ?_))))
  by_cases h1 : (k : Int) < (l.length : Int)
  · have hk : k < l.length := by omega
    obtain ⟨b, off, hA, hlt, hcell⟩ := hv (by omega)
    obtain ⟨s, hs⟩ : ∃ s, l[k] = s := ⟨_, rfl⟩
    have hsk : s.short := hs ▸ hl l[k] (List.getElem_mem hk)
    refine Zd (p := (k : Int) < (l.length : Int)) true (decide_eq_true (h1)) (ZY (ZB (z6 (zI (z6 (uL (by kernel_rfl) (by kernel_rfl) (Zw (.slice A l.length cap) (Zw (.int .i64 (k : Int)) ?_))))))))
    refine kW (.pointer (some ⟨b, off + k * 14, none⟩)) (by kernel_rfl) (ZA (b := b) (off := off) (c := cap) (n := l.length) (k := .i64) (j := (k : Int)) (e := 80) (sz := 14) hA) (b8 (yI s) (a := ⟨b, off + k * 14, none⟩) (by kernel_rfl) rfl (by kernel_rfl) (fun w hO => zZ yA (fun j u h => (hO.below.cell (p := ⟨b, off + j, none⟩) hlt).trans (hcell j u h)) k 0 hk (by omega) _ (by rw [hs]; kernel_rfl)) (Zq (k := 96) (args := #[yI s]) (.bool s.may) (fun w _ => t8 s w hsk) ?_))
    cases h2 : s.may with
    | true =>
      refine Zw (.bool false) (Zw (.bool false) (Zw (.int .i64 (k : Int)) ?_))
      by_cases h3 : (0 : Int) < (k : Int)
      · have hk1 : k - 1 < l.length := by omega
        obtain ⟨r, hr⟩ : ∃ r, l[k - 1] = r := ⟨_, rfl⟩
        have hrk : r.short := hr ▸ hl l[k - 1] (List.getElem_mem hk1)
        refine Ze (p := (0 : Int) < (k : Int)) true (decide_eq_true (h3)) (Zw (.bool true) (Zw (.slice A l.length cap) (Zw (.int .i64 (k : Int)) (q_sum (k := .i64) (((k : Int) : Int) - 1) (by kernel_rfl) (fun _ => by kernel_rfl) (IntWalk.i64_in _ (by omega)) (kW (.pointer (some ⟨b, off + (k - 1) * 14, none⟩)) (by kernel_rfl) (wW (b := b) (off := off) (c := cap) (n := l.length) (k := .i64) (j := ((k : Int) : Int) - 1) (e := 80) (sz := 14) rfl (by kernel_rfl) hA (by kernel_rfl) (by kernel_rfl) (by kernel_rfl) (by omega) (by omega) (by omega)) (Zw (.pointer (some ⟨b, off + (k - 1) * 14 + 7, none⟩)) (b8 (zF r.hi) (a := ⟨b, off + (k - 1) * 14 + 7, none⟩) (by kernel_rfl) rfl (by kernel_rfl) (fun w hO => zZ yA (fun j u h => (hO.below.cell (p := ⟨b, off + j, none⟩) hlt).trans (hcell j u h)) (k - 1) 7 hk1 (by omega) _ (by rw [hr]; kernel_rfl)) (Zw (.slice A l.length cap) (Zw (.int .i64 (k : Int)) (kW (.pointer (some ⟨b, off + k * 14, none⟩)) (by kernel_rfl) (ZA (b := b) (off := off) (c := cap) (n := l.length) (k := .i64) (j := (k : Int)) (e := 80) (sz := 14) hA) (Zw (.pointer (some ⟨b, off + k * 14 + 0, none⟩)) ?_)))))))))))
        refine b8 (zF s.lo) (a := ⟨b, off + k * 14 + 0, none⟩) (by kernel_rfl) rfl (by kernel_rfl) (fun w hO => zZ yA (fun j u h => (hO.below.cell (p := ⟨b, off + j, none⟩) hlt).trans (hcell j u h)) k 0 hk (by omega) _ (by rw [hs]; kernel_rfl)) (Zq (k := 94) (args := #[zF r.hi, zF s.lo]) (.int .i64 (zP r.hi s.lo)) (fun w _ => rcmpC_any r.hi s.lo w hrk.2 hsk.1) ?_)
        by_cases h4 : (0 : Int) ≤ zP r.hi s.lo
        · refine q_dec (p := (0 : Int) ≤ zP r.hi s.lo) true (by kernel_rfl) (fun _ => by kernel_rfl) (decide_eq_true (h4)) ?_
          refine Zw (.bool true) (Zw (.bool true) (qO (zC (Zt (ZO (Zv (.bool false) (ZN (zA (zD ?_)))))))))
          exact z8 (y7 (zD (z8 (ZF (.bool false) Tryz.results54 (fun w hO => ⟨by rw [show zJ l = false from by cases hm : zJ l with | false => rfl | true => first | (have h := x3 hm l[k] (List.getElem_mem hk); rw [hs] at h; simp_all; done) | (have h := row_pair hm k hk (by omega); rw [hs, hr] at h; omega)], hO.below⟩)))))
        refine Ze (p := (0 : Int) ≤ zP r.hi s.lo) false (decide_eq_false (h4)) (Zw (.bool false) (Zw (.bool false) (qO (zC (Zf (x4 (zR (zC (z7 (Zv (.int .i64 (k : Int)) (Zu (k := .i64) (((k + 1 : Nat) : Int)) (IntWalk.i64_in _ (by omega)) ?_)))))))))))
        refine Zv (.int .i64 ((k + 1 : Nat) : Int)) (zN ?_)
        have hnext : zJ (l.take (k + 1)) = true := n5 hk hrel.2 (by rw [hs]; assumption) (fun _ => by rw [hr, hs]; omega)
        exact zU (m' := l.length - (k + 1)) (by omega) ⟨k + 1, _, ⟨by omega, hnext⟩, rfl, ZU, rfl⟩
      refine Ze (p := (0 : Int) < (k : Int)) false (decide_eq_false (h3)) (Zw (.bool false) (Zj (Zj (Zj (Zj (Zj (Zj (Zj (Zj (Zj (Zj ?_)))))))))))
      refine Zj (Zj (Zj (Zw (.bool false) (Zw (.bool false) (qO (zC (Zf (x4 (zR (zC (z7 ?_)))))))))))
      refine Zv (.int .i64 (k : Int)) (Zu (k := .i64) (((k + 1 : Nat) : Int)) (IntWalk.i64_in _ (by omega)) (Zv (.int .i64 ((k + 1 : Nat) : Int)) (zN ?_)))
      have hnext : zJ (l.take (k + 1)) = true := n5 hk hrel.2 (by rw [hs]; assumption) (fun h0 => absurd h0 (by omega))
      exact zU (m' := l.length - (k + 1)) (by omega) ⟨k + 1, _, ⟨by omega, hnext⟩, rfl, ZU, rfl⟩
    | false =>
      refine Zw (.bool true) (Zw (.bool true) (Zj (Zj (Zj (Zj (Zj (Zj (Zj (Zj (Zj (Zj ?_)))))))))))
      refine Zj (Zj (Zj (Zj (Zj (Zj (Zj (Zw (.bool true) (qO (zC (Zt (z6 ?_)))))))))))
      exact z7 (Zv (.bool false) (ZN (zA (zD (z8 (y7 (zD (z8 (ZF (.bool false) Tryz.results54 (fun w hO => ⟨by rw [show zJ l = false from by cases hm : zJ l with | false => rfl | true => first | (have h := x3 hm l[k] (List.getElem_mem hk); rw [hs] at h; simp_all; done) | (have h := row_pair hm k hk (by omega); rw [hs, hr] at h; omega)], hO.below⟩))))))))))
  refine Zd (p := (k : Int) < (l.length : Int)) false (decide_eq_false (h1)) (ZX (y5 (zB (zM (zH (zC (ZO (Zv (.bool true) ?_))))))))
  exact ZN (zA (ZF (.bool true) Tryz.results54 (fun w hO => ⟨by rw [show zJ l = true from by have h := hrel.2; rwa [List.take_of_length_le (by omega)] at h], hO.below⟩)))
theorem rrowHas_any (A : Option Addr) (cap : Nat) (l : List Sp) (v : Ver) (W : World) (hv : Reads x9 W W.heap.size A l) (hn : l.length ≤ 1000000) (hl : xI l) (hv2 : v.short) :
    Calls Tryz.prog 52 #[.slice A l.length cap, yF v] W fun e w' => e = .returned (.bool (xL l v)) ∧ Below W.heap.size W w' := by
  refine zQ (n := 22) Tryz.func52 rfl (by kernel_rfl) (by kernel_rfl) (ZO (Zb (yF v) (fun b1 => Zv (.bool false) (ZN (z6 (ZO (Zv (.int .i64 0) (zN ?_))))))))
  refine zC (zI (yT (fun L f m => ∃ (k : Nat) (j : Nat → Value), (k ≤ l.length ∧ xL l v = (zJ l && (l.drop k).any (gP · v))) ∧ L = [⟨b1, (yF v).cells, 44⟩] ∧ f = kE j [(0, .slice A l.length cap), (3, .pointer (some ⟨b1, 0, none⟩)), (5, .int .i64 (k : Int))] ∧ m = l.length - k) (l.length - 0) ⟨0, _, ⟨Nat.zero_le _, by rw [List.drop_zero]; rfl⟩, rfl, ZU, rfl⟩ ?_))
  rintro L f m ⟨k, j, hrel, rfl, rfl, rfl⟩
  have hkl := hrel.1
  refine z6 (ZO (Zv (.int .i64 (k : Int)) (Zv (.slice A l.length cap) (Zv (.int .i64 (l.length : Int)) ?_))))
  by_cases h1 : (k : Int) < (l.length : Int)
  · have hk : k < l.length := by omega
    obtain ⟨b, off, hA, hlt, hcell⟩ := hv (by omega)
    obtain ⟨s, hs⟩ : ∃ s, l[k] = s := ⟨_, rfl⟩
    have hsk : s.short := hs ▸ hl l[k] (List.getElem_mem hk)
    refine Zd (p := (k : Int) < (l.length : Int)) true (decide_eq_true (h1)) (Zv (.bool true) (Zv (.slice A l.length cap) (Zc (k := 54) (args := #[.slice A l.length cap]) (.bool (zJ l)) (fun w hO => fN A cap l w (hv.on hO.below hO.below.size) hn hl) (Zv (.bool (zJ l)) (zN (zC ?_))))))
    cases h2 : zJ l with
    | true =>
      refine Zt (ZB (z6 (zI (z6 (uL (by kernel_rfl) (by kernel_rfl) (Zw (.slice A l.length cap) (Zw (.int .i64 (k : Int)) (kW (.pointer (some ⟨b, off + k * 14, none⟩)) (by kernel_rfl) (ZA (b := b) (off := off) (c := cap) (n := l.length) (k := .i64) (j := (k : Int)) (e := 80) (sz := 14) hA) (b8 (yI s) (a := ⟨b, off + k * 14, none⟩) (by kernel_rfl) rfl (by kernel_rfl) (fun w hO => zZ yA (fun j u h => (hO.below.cell (p := ⟨b, off + j, none⟩) hlt).trans (hcell j u h)) k 0 hk (by omega) _ (by rw [hs]; kernel_rfl)) (Zm 0 ⟨b1, (yF v).cells, 44⟩ (off := 0) (yF v) ?_))))))))))
      refine Zq (k := 92) (args := #[yI s, yF v]) (.bool (gP s v)) (fun w _ => rholdsC_any s v w hsk hv2) (qO (zC ?_))
      cases h3 : gP s v with
      | true =>
        refine Zt (ZO (Zv (.bool true) (ZN (zA (zD (z8 (y7 (zD (z8 ?_)))))))))
        exact ZF (.bool true) Tryz.results52 (fun w hO => ⟨by rw [show xL l v = true from by rw [hrel.2, any_drop l v k hk, hs]; simp [h1, h2, h3]], hO.below⟩)
      | false =>
        refine Zf (x4 (zR (zC (z7 (Zv (.int .i64 (k : Int)) (Zu (k := .i64) (((k + 1 : Nat) : Int)) (IntWalk.i64_in _ (by omega)) (Zv (.int .i64 ((k + 1 : Nat) : Int)) (zN ?_))))))))
        have hnext : xL l v = (zJ l && (l.drop (k + 1)).any (gP · v)) := by rw [hrel.2, any_drop l v k hk, hs]; simp [h1, h2, h3]
        exact zU (m' := l.length - (k + 1)) (by omega) ⟨k + 1, _, ⟨by omega, by simpa [h1, h2, h3] using hnext⟩, rfl, ZU, rfl⟩
    | false =>
      refine Zf (y5 (zB (zM (zH (zC (ZO (Zv (.bool false) (ZN (zA ?_)))))))))
      exact ZF (.bool false) Tryz.results52 (fun w hO => ⟨by rw [show xL l v = false from by rw [hrel.2]; first | (rw [List.drop_of_length_le (by omega)]; simp; done) | simp [h1, h2]], hO.below⟩)
  refine Zd (p := (k : Int) < (l.length : Int)) false (decide_eq_false (h1)) (Zv (.bool false) (Zk (Zk (Zv (.bool false) (ZX (y5 (zB (zM (zH ?_)))))))))
  exact zC (ZO (Zv (.bool false) (ZN (zA (ZF (.bool false) Tryz.results52 (fun w hO => ⟨by rw [show xL l v = false from by rw [hrel.2]; first | (rw [List.drop_of_length_le (by omega)]; simp; done) | simp [h1]], hO.below⟩))))))
end
section
def SlS (v : Value) (l : List Sp) (ob : List Blk) : Prop := Sl 80 14 v l.length (l.flatMap x9) ob
theorem spanInfo : (Tryz.prog.info? 80).map (fun i => (i.zero.map (·.cells.size), i.size, i.bytes)) = some (some 14, 14, 144) := by kernel_rfl
theorem vR : ∃ i z, Tryz.prog.info? 80 = some i ∧ i.zero = some z ∧ i.size = 14 ∧ z.cells.size = 14 ∧ i.bytes = 144 := by
  have h := spanInfo
  cases hi : Tryz.prog.info? 80 with
  | none => rw [hi] at h; cases h
  | some i =>
    rw [hi] at h
    simp only [Option.map_some, Option.some.injEq, Prod.mk.injEq] at h
    cases hz : i.zero with
    | none => rw [hz] at h; simp at h
    | some z => rw [hz] at h; simp at h; exact ⟨i, z, rfl, hz, h.2.1, h.1, h.2.2⟩
theorem qR (s : Sp) : ∀ u ∈ x9 s, u.oneCell' = true := by
  intro u hu
  unfold x9 yI at hu
  simp only [Value.cells, List.mem_cons, List.not_mem_nil, or_false] at hu
  rcases hu with rfl | rfl | rfl | rfl | rfl | rfl | rfl | rfl | rfl | rfl | rfl | rfl | rfl | rfl <;> rfl
theorem grow_set {l : List Sp} {c d : Cu} {s : Sp} (h0 : 0 < l.length) (hs : l[l.length - 1]'(by omega) = s) (h : zP s.hi c = 0) : dA l c d = l.set (l.length - 1) ⟨s.lo, d⟩ := by
  have hg : l.getLast? = some s := by rw [List.getLast?_eq_getElem?, List.getElem?_eq_getElem (by omega), hs]
  unfold dA
  rw [hg]
  dsimp only
  rw [if_pos h, List.dropLast_eq_take, List.set_eq_take_append_cons_drop, if_pos (by omega), List.drop_of_length_le (by omega)]
theorem last_at {l : List Sp} (h0 : 0 < l.length) {s t : Sp} (hs : l[l.length - 1]'(by omega) = s) (ht : t ∈ l.getLast?) : t = s := by
  rw [List.getLast?_eq_getElem?, List.getElem?_eq_getElem (by omega), hs] at ht
  exact (Option.some.inj ht).symm
end
section
def cutC (s : Cu) : List Value := (zF s).cells.toList
def ShortC (l : List Cu) : Prop := ∀ s ∈ l, s.short
def SlC (v : Value) (l : List Cu) (ob : List Blk) : Prop := Sl 78 7 v l.length (l.flatMap cutC) ob
theorem Sl.to {T : TypeId} {sz : Nat} {v : Value} {n n' : Nat} {xs xs' : List Value} {ob : List Blk} (h : Sl T sz v n xs ob) (e : n = n') (e' : xs = xs') : Sl T sz v n' xs' ob := by subst e; subst e'; exact h
end
section
theorem Own.lend {M : List Nat} {W w : World} {L : List Blk} (h : Own M W w L) : Own (L.map Blk.b) w w L :=
  ⟨rfl, rfl, rfl, Nat.le_refl _, Nat.le_refl _, fun _ _ _ => rfl, h.held, fun x hx => .inr (List.mem_map.2 ⟨x, hx, rfl⟩), h.apart⟩
theorem putL_len (c : Cu) : ∀ (l : List Cu), (gQ c l).length ≤ l.length + 1 ∧ 0 < (gQ c l).length
  | [] => ⟨by simp [gQ], by simp [gQ]⟩
  | d :: r => by
    have ih := putL_len c r
    unfold gQ
    split
    · simp; omega
    · split <;> simp
theorem putL_short {c : Cu} (hc : c.short) {l : List Cu} (hl : ShortC l) : ShortC (gQ c l) := fun x hx => by
  rcases putL_mem c l x hx with rfl | h
  · exact hc
  · exact hl x h
theorem cuts_step (l : List Sp) (k : Nat) (hk : k < l.length) : qQ (l.take (k + 1)) = gQ l[k].hi (gQ l[k].lo (qQ (l.take k))) := by
  unfold qQ
  rw [List.take_succ_eq_append_getElem hk, List.foldl_append]; rfl
theorem cuts_size (l : List Sp) (hl : xI l) : ∀ (k : Nat), k ≤ l.length → (qQ (l.take k)).length ≤ 2 + 2 * k ∧ 0 < (qQ (l.take k)).length ∧ ShortC (qQ (l.take k))
  | 0, _ => ⟨by simp [qQ], by simp [qQ], fun x hx => by
      simp only [qQ, List.take_zero, List.foldl_nil, List.mem_cons, List.not_mem_nil, or_false] at hx
      rcases hx with rfl | rfl <;> exact ⟨by simp [yJ, Ver.zero], by simp [yJ, Ver.zero]⟩⟩
  | k + 1, h => by
    have ih := cuts_size l hl k (by omega)
    have hs := hl l[k] (List.getElem_mem _)
    rw [cuts_step l k h]
    have e1 := putL_len l[k].lo (qQ (l.take k))
    have e2 := putL_len l[k].hi (gQ l[k].lo (qQ (l.take k)))
    exact ⟨by omega, e2.2, putL_short hs.2 (putL_short hs.1 ih.2.2)⟩
end
section
section
variable {M : List Nat} {P : Program} {n : Nat} {ops : Array Oper} {W : World} {Q : Exit → Act → World → Prop} {L0 L : List Blk} {f : Nat → Value} {fuel : Nat} {listed : Array Bool} {rest : List Oper} {o : Oper}
theorem yH {k : FuncId} {args : Array Value} (R : Value → List Blk → Prop) (hw : xY ops n f o = true) (he : ∀ w, (execOp (ev n f) o).run P w = .ok (.enter k args) w)
    (hc : ∀ w, Own M W w L → Calls P k args w fun e w' => ∃ v L', e = .returned v ∧ R v L' ∧ Own M W w' L') (h : ∀ v L', R v L' → Seg M P n ops W Q rest L' (upd f o.dst v)) : Seg M P n ops W Q (o :: rest) L f :=
  vK hw fun w hO => pQ (he w) ((hc w hO).mono fun e w' ⟨v, L', e1, e2, e3⟩ => ⟨v, e1, (h v L' e2).go w' e3⟩)
theorem hl_sum {k : IntKind} (i : Nat) (oi : Oper) (z : Int) (hi : ops[i]? = some oi) (hs : Region.noSelect ops = true) (hf : Region.free .any ops listed i = true) (hr : (Region.ready .any ops listed).contains i = true)
    (hQ : PQ Q) (hsub : ∀ w, Own M W w L → Own M W w L0) (hw : xY ops n f oi = true) (hrun : ∀ w, (execOp (ev n f) oi).run P w = .ok (.value (.int k (k.wrap z))) w) (hz : k.wrap z = z)
    (h : j3 M P n ops W L0 Q fuel (listed.setIfInBounds i true) L (upd f oi.dst (.int k z))) : j3 M P n ops W L0 Q (fuel + 1) listed L f :=
  hl_take i oi (.int k z) hi hs hf hr hQ hsub hw (fun w _ => by rw [hrun w, hz]) h
theorem Own.perm {w : World} {L' : List Blk} (h : Own M W w L) (hp : L.Perm L') : Own M W w L' :=
  h.take (fun x hx => hp.mem_iff.2 hx) ((hp.map Blk.b).nodup_iff.1 h.apart)
end
theorem SlS.form {v : Value} {l : List Sp} {ob : List Blk} (h : SlS v l ob) : ∃ A cap, v = .slice A l.length cap := by
  rcases h.2 with ⟨h1, h2, _⟩ | ⟨g, cap, cur, h1, _⟩
  · exact ⟨none, 0, by rw [h1, h2]⟩
  · exact ⟨_, cap, h1⟩
theorem grow_len (l : List Sp) (c d : Cu) : (dA l c d).length ≤ l.length + 1 := by
  unfold dA
  split
  · split
    · first | (simp; done) | (simp; omega)
    · simp
  · simp
structure Built (p : Cu → Cu → Bool) (cs : List Cu) (k : Nat) (v : Value) (out : List Sp) (ob : List Blk) : Prop where
  le : k ≤ cs.length
  sl : SlS v out ob
  len : out.length ≤ k
  short : xI out
  eq : gB p [] cs = gB p out (cs.drop k)
end
section
def kY (l : List Sp) : Bool := l.all (·.may)
theorem allMay_mem {l : List Sp} : kY l = true ↔ ∀ s ∈ l, s.may = true := by unfold kY; rw [List.all_eq_true]
theorem allMay_take (l : List Sp) (k : Nat) (hk : k < l.length) (h : kY (l.take k) = true) (hs : l[k].may = true) : kY (l.take (k + 1)) = true := by
  rw [allMay_mem] at h ⊢
  rw [List.take_succ_eq_append_getElem hk]
  intro x hx
  rcases List.mem_append.1 hx with hx | hx
  · exact h x hx
  · obtain rfl : x = l[k] := by simpa using hx
    exact hs
theorem allMay_not (l : List Sp) (k : Nat) (hk : k < l.length) (hs : l[k].may = false) : kY l = false := by
  cases h : kY l with
  | false => rfl
  | true => rw [allMay_mem.1 h _ (List.getElem_mem hk)] at hs; cases hs
end
section
theorem both_short {a b : List Sp} (ha : xI a) (hb : xI b) : xI (a ++ b) := fun s hs => by
  rcases List.mem_append.1 hs with h | h
  · exact ha s h
  · exact hb s h
end
section
theorem build_len (p : Cu → Cu → Bool) : ∀ (cs : List Cu) (out : List Sp), (gB p out cs).length ≤ out.length + cs.length
  | [], out => by unfold gB; simp
  | [c], out => by unfold gB; simp
  | c :: d :: r, out => by
    have ih := build_len p (d :: r) (if p c d then dA out c d else out)
    unfold gB
    have : (if p c d = true then dA out c d else out).length ≤ out.length + 1 := by
      split
      · exact grow_len out c d
      · omega
    simp only [List.length_cons] at ih ⊢
    omega
end
section
def yO (a b : Cu) : Cu := if 0 < zP a b then b else a
def yS (a b : Cu) : Cu := if 0 < zP a b then a else b
theorem minC_may {a b : Cu} (ha : a.may = true) (hb : b.may = true) : (yO a b).may = true := by unfold yO; split <;> assumption
theorem fU {a b : Cu} (ha : a.may = true) (hb : b.may = true) : (yS a b).may = true := by unfold yS; split <;> assumption
theorem minC_lt {a b x : Cu} (ha : a.may = true) (hb : b.may = true) (hx : x.may = true) : decide (zP x (yO a b) < 0) = (decide (zP x a < 0) && decide (zP x b < 0)) := by
  rw [← Bool.decide_and]
  refine decide_eq_decide.2 ?_
  unfold yO
  split
  · rename_i h
    exact ⟨fun h2 => ⟨xP hx hb ha h2 (by have := xF (a := a) (b := b); omega), h2⟩, fun h2 => h2.2⟩
  · rename_i h
    exact ⟨fun h2 => ⟨h2, wL hx ha hb h2 (by omega)⟩, fun h2 => h2.1⟩
theorem maxC_le {a b x : Cu} (ha : a.may = true) (hb : b.may = true) (hx : x.may = true) : decide (zP (yS a b) x ≤ 0) = (decide (zP a x ≤ 0) && decide (zP b x ≤ 0)) := by
  rw [← Bool.decide_and]
  refine decide_eq_decide.2 ?_
  unfold yS
  split
  · rename_i h
    exact ⟨fun h2 => ⟨h2, qL hb ha hx (by have := xF (a := a) (b := b); omega) h2⟩, fun h2 => h2.1⟩
  · rename_i h
    exact ⟨fun h2 => ⟨qL ha hb hx (by omega) h2, h2⟩, fun h2 => h2.2⟩
theorem bS {c d : Cu} (h : zP c d < 0) : (Sp.mk c d).may = true := by
  unfold Sp.may
  have := wK c d
  rw [decide_eq_true_eq]; show zP c d = -1; omega
theorem sp_not_of {c d : Cu} (h : (Sp.mk c d).may = false) : ¬ zP c d < 0 := fun h2 => by rw [bS h2] at h; cases h
theorem in_none {c d x : Cu} (hc : c.may = true) (hd : d.may = true) (hx : x.may = true) (h : ¬ zP c d < 0) : kS ⟨c, d⟩ x = false := by
  unfold kS
  rw [Bool.and_eq_false_iff, decide_eq_false_iff_not, decide_eq_false_iff_not]
  by_cases h1 : zP c x ≤ 0
  · exact .inr fun h2 => h (pI hc hx hd h1 h2)
  · exact .inl h1
def gO (l : List Sp) (c d : Cu) : List Sp := if (Sp.mk c d).may then l ++ [⟨c, d⟩] else l
theorem add_ok {out : List Sp} {c d : Cu} (ho : zJ out = true) (hl : ∀ t ∈ out.getLast?, zP t.hi c < 0) : zJ (gO out c d) = true := by
  unfold gO
  split
  · exact u0 ho (by assumption) hl
  · exact ho
theorem add_den {out : List Sp} {c d x : Cu} (hc : c.may = true) (hd : d.may = true) (hx : x.may = true) : den (gO out c d) x = (den out x || kS ⟨c, d⟩ x) := by
  unfold gO
  split
  · rw [bD]; unfold den; simp
  · rename_i h
    rw [in_none hc hd hx (sp_not_of (by simpa using h)), Bool.or_false]
theorem add_last {out : List Sp} {c d : Cu} : ∀ t ∈ (gO out c d).getLast?, t = ⟨c, d⟩ ∨ (t ∈ out.getLast? ∧ ¬ zP c d < 0) := by
  unfold gO
  split
  · intro t ht
    rw [List.getLast?_concat] at ht
    exact .inl (Option.some.inj ht).symm
  · rename_i h
    exact fun t ht => .inr ⟨ht, sp_not_of (by simpa using h)⟩
theorem mU (l : List Sp) (c d : Cu) : (gO l c d).length ≤ l.length + 1 := by unfold gO; split <;> simp
def tG (p : List Sp × Cu) (s : Sp) : List Sp × Cu := (gO p.1 p.2 s.lo, s.hi)
def notG (l : List Sp) : List Sp := gO (l.foldl tG ([], yJ (-1))).1 (l.foldl tG ([], yJ (-1))).2 (yJ 1)
theorem dD (s : Sp) (l : List Sp) (x : Cu) : den (s :: l) x = (kS s x || den l x) := by unfold den; rw [List.any_cons]
theorem dF {s : Sp} {l : List Sp} {x : Cu} (h : zJ (s :: l) = true) (hx : x.may = true) (hlt : zP x s.hi ≤ 0) : den l x = false :=
  wI fun t ht => pI hx (zX (xQ h)).2 (zX (x3 h t (List.mem_cons_of_mem _ ht))).1 hlt (kU h t ht)
theorem not_go : ∀ (l out : List Sp) (f : Cu), zJ l = true → zJ out = true → f.may = true → (∀ t ∈ out.getLast?, zP t.hi f < 0) → (∀ s ∈ l.head?, zP f s.lo ≤ 0) →
    zJ (gO (l.foldl tG (out, f)).1 (l.foldl tG (out, f)).2 (yJ 1)) = true ∧ ∀ x : Cu, x.may = true → zP x (yJ 1) < 0 → den (gO (l.foldl tG (out, f)).1 (l.foldl tG (out, f)).2 (yJ 1)) x = (den out x || (decide (zP f x ≤ 0) && !den l x))
  | [], out, f, hl, ho, hf, h1, h2 => ⟨add_ok ho h1, fun x hx he => by
      show den (gO out f (yJ 1)) x = _
      rw [add_den hf wD hx]
      unfold kS
      rw [decide_eq_true he]
      simp [den]⟩
  | s :: r, out, f, hl, ho, hf, h1, h2 => by
    have hs := xQ hl
    obtain ⟨m1, m2⟩ := zX hs
    have hlt := uG hs
    have hfs : zP f s.lo ≤ 0 := h2 s rfl
    have ih := not_go r (gO out f s.lo) s.hi (kN hl) (add_ok ho h1) m2 (fun t ht => by
      rcases add_last t ht with rfl | ⟨h3, h4⟩
      · exact hlt
      · exact xP (zX (x3 ho t (List.mem_of_getLast? h3))).2 hf m2 (h1 t h3) (pI hf m1 m2 hfs hlt)) (fun t ht => by
        have := kU hl t (List.mem_of_mem_head? ht); omega)
    refine ⟨ih.1, fun x hx he => ?_⟩
    show den (gO (r.foldl tG (gO out f s.lo, s.hi)).1 (r.foldl tG (gO out f s.lo, s.hi)).2 (yJ 1)) x = _
    rw [ih.2 x hx he, add_den hf m1 hx, dD]
    unfold kS
    show (den out x || (decide (zP f x ≤ 0) && decide (zP x s.lo < 0)) || _) = _
    by_cases c1 : zP x s.lo < 0
    · have c2 : zP x s.hi < 0 := xP hx m1 m2 c1 hlt
      rw [decide_eq_true c1, dF hl hx (by omega), decide_eq_false (show ¬ zP s.hi x ≤ 0 from by have := xF (a := x) (b := s.hi); omega), decide_eq_false (show ¬ zP s.lo x ≤ 0 from by have := xF (a := x) (b := s.lo); omega)]
      simp
    · rw [decide_eq_false c1]
      have c3 : zP s.lo x ≤ 0 := jH c1
      rw [decide_eq_true c3, decide_eq_true (qL hf m1 hx hfs c3)]
      by_cases c4 : zP x s.hi < 0
      · rw [decide_eq_true c4, decide_eq_false (show ¬ zP s.hi x ≤ 0 from by have := xF (a := x) (b := s.hi); omega)]
        simp
      · rw [decide_eq_false c4, decide_eq_true (jH c4)]
        simp
theorem notG_eq {l : List Sp} (h : zJ l = true) : notG l = j0 l := by
  have h1 := not_go l [] (yJ (-1)) h rfl mN (fun t ht => by simp at ht) (fun s hs => fX (zX (x3 h s (List.mem_of_mem_head? hs))).1)
  have h2 := bF h
  refine jS _ _ h1.1 h2.1 fun c hc he => ?_
  rw [h2.2 c hc he]
  show den (gO _ _ _) c = _
  rw [h1.2 c hc he, decide_eq_true (fX hc)]
  simp [den]
def tY : Nat → List Sp → List Sp → List Sp → List Sp
  | n + 1, out, s :: a, u :: b => if s.hi = yO s.hi u.hi then tY n (gO out (yS s.lo u.lo) (yO s.hi u.hi)) a (u :: b) else tY n (gO out (yS s.lo u.lo) (yO s.hi u.hi)) (s :: a) b
  | _, out, _, _ => out
theorem min_is {a b : Cu} : a = yO a b ↔ zP a b ≤ 0 := by
  unfold yO
  split
  · rename_i h
    exact ⟨fun e => by have := kR a; rw [← e] at h; omega, fun h2 => by omega⟩
  · rename_i h
    exact ⟨fun _ => by omega, fun _ => rfl⟩
theorem maxC_ge {a b : Cu} (ha : a.may = true) (hb : b.may = true) : zP a (yS a b) ≤ 0 ∧ zP b (yS a b) ≤ 0 := by
  unfold yS
  split
  · rename_i h
    exact ⟨by rw [kR]; decide, by have := xF (a := a) (b := b); omega⟩
  · rename_i h
    exact ⟨by omega, by rw [kR]; decide⟩
theorem maxC_up {a b c d x : Cu} (ha : a.may = true) (hb : b.may = true) (hc : c.may = true) (hd : d.may = true) (hx : x.may = true) (h1 : zP a c ≤ 0) (h2 : zP b d ≤ 0) (h : zP x (yS a b) < 0) : zP x (yS c d) < 0 := by
  have g := maxC_ge hc hd
  have m := fU hc hd
  unfold yS at h
  split at h
  · exact wL hx ha m h (qL ha hc m h1 g.1)
  · exact wL hx hb m h (qL hb hd m h2 g.2)
theorem maxC_one {a b x : Cu} (ha : a.may = true) (hb : b.may = true) (hx : x.may = true) (h : zP x a < 0) : zP x (yS a b) < 0 := wL hx ha (fU ha hb) h (maxC_ge ha hb).1
theorem maxC_two {a b x : Cu} (ha : a.may = true) (hb : b.may = true) (hx : x.may = true) (h : zP x b < 0) : zP x (yS a b) < 0 := wL hx hb (fU ha hb) h (maxC_ge ha hb).2
theorem in_both {s u : Sp} {x : Cu} (hs : s.may = true) (hu : u.may = true) (hx : x.may = true) : kS ⟨yS s.lo u.lo, yO s.hi u.hi⟩ x = (kS s x && kS u x) := by
  unfold kS
  rw [maxC_le (zX hs).1 (zX hu).1 hx, minC_lt (zX hs).2 (zX hu).2 hx]
  cases decide (zP s.lo x ≤ 0) <;> cases decide (zP u.lo x ≤ 0) <;> cases decide (zP x s.hi < 0) <;> cases decide (zP x u.hi < 0) <;> rfl
theorem and_go : ∀ (n : Nat) (out a b : List Sp), a.length + b.length ≤ n → zJ out = true → zJ a = true → zJ b = true → (∀ t ∈ out.getLast?, ∀ s ∈ a.head?, ∀ u ∈ b.head?, zP t.hi (yS s.lo u.lo) < 0) →
    zJ (tY n out a b) = true ∧ ∀ x : Cu, x.may = true → den (tY n out a b) x = (den out x || (den a x && den b x))
  | 0, out, a, b, hn, ho, ha, hb, hl => by
    obtain rfl : a = [] := List.eq_nil_of_length_eq_zero (by omega)
    exact ⟨ho, fun x _ => by simp [tY, den]⟩
  | n + 1, out, [], b, hn, ho, ha, hb, hl => ⟨ho, fun x _ => by simp [tY, den]⟩
  | n + 1, out, s :: a, [], hn, ho, ha, hb, hl => ⟨ho, fun x _ => by simp [tY, den]⟩
  | n + 1, out, s :: a, u :: b, hn, ho, ha, hb, hl => by
    have hs := xQ ha
    have hu := xQ hb
    obtain ⟨s1, s2⟩ := zX hs
    obtain ⟨u1, u2⟩ := zX hu
    have ho2 := add_ok (d := yO s.hi u.hi) ho (fun t ht => hl t ht s rfl u rfl)
    have mx := fU s1 u1
    have mn := minC_may s2 u2
    have hout : ∀ t ∈ out.getLast?, t.hi.may = true := fun t ht => (zX (x3 ho t (List.mem_of_getLast? ht))).2
    unfold tY
    split
    · rename_i h
      have hle := min_is.1 h
      have ih := and_go n (gO out (yS s.lo u.lo) (yO s.hi u.hi)) a (u :: b) (by simp at hn ⊢; omega) ho2 (kN ha) hb (fun t ht s' hs' u' hu' => by
        obtain rfl : u = u' := Option.some.inj hu'
        have hsa := kU ha s' (List.mem_of_mem_head? hs')
        have ms' := (zX (x3 ha s' (List.mem_cons_of_mem _ (List.mem_of_mem_head? hs')))).1
        rcases add_last t ht with rfl | ⟨h3, h4⟩
        · show zP (yO s.hi u.hi) _ < 0
          rw [← h]
          exact maxC_one ms' u1 s2 hsa
        · exact maxC_up s1 u1 ms' u1 (hout t h3) (by have := xP s1 s2 ms' (uG hs) hsa; omega) (by rw [kR]; decide) (hl t h3 s rfl u rfl))
      refine ⟨ih.1, fun x hx => ?_⟩
      rw [ih.2 x hx, add_den mx mn hx, in_both hs hu hx, dD s, dD u]
      cases hi : kS s x with
      | false => simp
      | true =>
        have hxs : zP x s.hi < 0 := by unfold kS at hi; simp at hi; exact hi.2
        rw [dF hb hx (by have := wL hx s2 u2 hxs hle; omega), dF ha hx (by omega)]
        simp
    · rename_i h
      have hgt : ¬ zP s.hi u.hi ≤ 0 := fun h2 => h (min_is.2 h2)
      have hlt : zP u.hi s.hi < 0 := clt_flip hgt
      have hmin : yO s.hi u.hi = u.hi := by unfold yO; rw [if_pos (by omega)]
      have ih := and_go n (gO out (yS s.lo u.lo) (yO s.hi u.hi)) (s :: a) b (by simp at hn ⊢; omega) ho2 ha (kN hb) (fun t ht s' hs' u' hu' => by
        obtain rfl : s = s' := Option.some.inj hs'
        have hub := kU hb u' (List.mem_of_mem_head? hu')
        have mu' := (zX (x3 hb u' (List.mem_cons_of_mem _ (List.mem_of_mem_head? hu')))).1
        rcases add_last t ht with rfl | ⟨h3, h4⟩
        · show zP (yO s.hi u.hi) _ < 0
          rw [hmin]
          exact maxC_two s1 mu' u2 hub
        · exact maxC_up s1 u1 s1 mu' (hout t h3) (by rw [kR]; decide) (by have := xP u1 u2 mu' (uG hu) hub; omega) (hl t h3 s rfl u rfl))
      refine ⟨ih.1, fun x hx => ?_⟩
      rw [ih.2 x hx, add_den mx mn hx, in_both hs hu hx, dD s, dD u]
      cases hi : kS u x with
      | false => simp
      | true =>
        have hxu : zP x u.hi < 0 := by unfold kS at hi; simp at hi; exact hi.2
        rw [dF ha hx (by have := xP hx u2 s2 hxu hlt; omega), dF hb hx (by omega)]
        cases kS s x <;> simp
theorem andG_eq {a b : List Sp} (ha : zJ a = true) (hb : zJ b = true) : tY (a.length + b.length) [] a b = f7 a b := by
  have h1 := and_go (a.length + b.length) [] a b (Nat.le_refl _) rfl ha hb (fun t ht => by simp at ht)
  have h2 := and_ok ha hb
  refine jS _ _ h1.1 h2.1 fun c hc he => ?_
  rw [h2.2 c hc he, h1.2 c hc]
  simp [den]
def vW (out : List Sp) (s : Sp) : List Sp :=
  match out.getLast? with
  | none => [s]
  | some t => if zP t.hi s.lo < 0 then out ++ [s] else out.dropLast ++ [⟨t.lo, yS t.hi s.hi⟩]
theorem in_merge {s t : Sp} {x : Cu} (hs : s.may = true) (ht : t.may = true) (hx : x.may = true) (h1 : zP t.lo s.lo ≤ 0) (h2 : zP s.lo t.hi ≤ 0) : kS ⟨t.lo, yS t.hi s.hi⟩ x = (kS t x || kS s x) := by
  obtain ⟨s1, s2⟩ := zX hs
  obtain ⟨t1, t2⟩ := zX ht
  unfold kS
  show (decide (zP t.lo x ≤ 0) && decide (zP x (yS t.hi s.hi) < 0)) = _
  by_cases c1 : zP t.lo x ≤ 0
  · rw [decide_eq_true c1]
    unfold yS
    split
    · rename_i h
      by_cases c2 : zP x s.hi < 0
      · rw [decide_eq_true (show zP x t.hi < 0 from xP hx s2 t2 c2 (by have := xF (a := t.hi) (b := s.hi); omega))]; simp
      · rw [decide_eq_false c2]; simp
    · rename_i h
      by_cases c2 : zP x t.hi < 0
      · rw [decide_eq_true c2, decide_eq_true (show zP x s.hi < 0 from wL hx t2 s2 c2 (by omega))]; simp
      · rw [decide_eq_false c2, decide_eq_true (show zP s.lo x ≤ 0 from qL s1 t2 hx h2 (jH c2))]; simp
  · rw [decide_eq_false c1, decide_eq_false (show ¬ zP s.lo x ≤ 0 from fun h => c1 (qL t1 s1 hx h1 h))]; simp
theorem mstep_ok {out : List Sp} {s : Sp} (ho : zJ out = true) (hs : s.may = true) (hl : ∀ t ∈ out.getLast?, zP t.lo s.lo ≤ 0) :
    zJ (vW out s) = true ∧ (∀ t ∈ (vW out s).getLast?, t.lo = s.lo ∨ ∃ t' ∈ out.getLast?, t.lo = t'.lo) ∧ ∀ x : Cu, x.may = true → den (vW out s) x = (den out x || kS s x) := by
  unfold vW
  cases hg : out.getLast? with
  | none =>
    have : out = [] := by simpa using hg
    subst this
    refine ⟨u0 (l := []) rfl hs (fun t ht => by simp at ht), fun t ht => ?_, fun x _ => by simp [den]⟩
    obtain rfl : s = t := by simpa using ht
    exact .inl rfl
  | some t =>
    have hlo := hl t hg
    have hsp := last_split hg
    have htm := x3 ho t (List.mem_of_getLast? hg)
    obtain ⟨s1, s2⟩ := zX hs
    obtain ⟨t1, t2⟩ := zX htm
    dsimp only
    split
    · rename_i h
      refine ⟨u0 ho hs (fun t' ht' => by rw [hg] at ht'; obtain rfl := Option.some.inj ht'; exact h), fun t' ht' => ?_, fun x _ => by rw [bD]; simp [den]⟩
      rw [List.getLast?_concat] at ht'
      obtain rfl := Option.some.inj ht'
      exact .inl rfl
    · rename_i h
      have hi := row_init (hsp ▸ ho)
      have hmay : (Sp.mk t.lo (yS t.hi s.hi)).may = true := bS (wL t1 t2 (fU t2 s2) (uG htm) (maxC_ge t2 s2).1)
      refine ⟨u0 hi.1 hmay (fun x hx => hi.2 x hx), fun t' ht' => ?_, fun x hx => ?_⟩
      · rw [List.getLast?_concat] at ht'
        obtain rfl := Option.some.inj ht'
        exact .inr ⟨t, rfl, rfl⟩
      · rw [bD]
        conv => rhs; rw [hsp, bD]
        have e := in_merge hs htm hx hlo (jH h)
        simp only [den, List.any_cons, List.any_nil, Bool.or_false] at e ⊢
        rw [e, Bool.or_assoc]
def fD : List Sp → Prop
  | [] => True
  | s :: r => (∀ t ∈ r, zP s.lo t.lo ≤ 0) ∧ fD r
theorem merge_go : ∀ (l out : List Sp), (∀ s ∈ l, s.may = true) → fD l → zJ out = true → (∀ t ∈ out.getLast?, ∀ s ∈ l, zP t.lo s.lo ≤ 0) →
    zJ (l.foldl vW out) = true ∧ ∀ x : Cu, x.may = true → den (l.foldl vW out) x = (den out x || den l x)
  | [], out, _, _, ho, _ => ⟨ho, fun x _ => by simp [den]⟩
  | s :: r, out, hm, hso, ho, hl => by
    have h1 := mstep_ok ho (hm s (List.mem_cons_self ..)) (fun t ht => hl t ht s (List.mem_cons_self ..))
    have ih := merge_go r (vW out s) (fun t ht => hm t (List.mem_cons_of_mem _ ht)) hso.2 h1.1 (fun t ht u hu => by
      rcases h1.2.1 t ht with e | ⟨t', ht', e⟩
      · rw [e]; exact hso.1 u hu
      · rw [e]; exact hl t' ht' u (List.mem_cons_of_mem _ hu))
    refine ⟨ih.1, fun x hx => ?_⟩
    show den (r.foldl vW (vW out s)) x = _
    rw [ih.2 x hx, h1.2.2 x hx, dD, Bool.or_assoc]
theorem merge_eq {l d : List Sp} (hm : ∀ s ∈ l, s.may = true) (hp : d.Perm l) (hs : fD d) : d.foldl vW [] = u9 l := by
  have hmd : ∀ s ∈ d, s.may = true := fun s h => hm s (hp.mem_iff.1 h)
  have h1 := merge_go d [] hmd hs rfl (fun t ht => by simp at ht)
  have h2 := uN hm
  refine jS _ _ h1.1 h2.1 fun c hc he => ?_
  rw [h2.2 c hc he, h1.2 c hc]
  show (false || den d c) = den l c
  rw [Bool.false_or]
  unfold den
  exact hp.any_eq
theorem mstep_len (out : List Sp) (s : Sp) : (vW out s).length ≤ out.length + 1 := by
  unfold vW
  split
  · simp
  · split
    · simp
    · first | (simp; done) | (simp; omega)
end
section
theorem cutAt_len (c : UInt8) : ∀ s : List UInt8, s.length = (yB c s).1.length + (if (yB c s).2.2 then 1 + (yB c s).2.1.length else 0)
  | [] => rfl
  | b :: r => by
    unfold yB
    have ih := cutAt_len c r
    by_cases h : b = c
    · first | (simp [h]; done) | (subst h; simp; omega) | (simp [h]; omega)
    · first | (simp [h] at ih ⊢; omega) | (simp [h, Ne.symm h] at ih ⊢; omega)
theorem cutGo_short : ∀ (n : Nat) (s : List UInt8), (gA n s).2 = true → s.length ≤ 9 * n
  | 0, s, h => by simp [gA] at h
  | n + 1, s, h => by
    have hl := cutAt_len 46 s
    cases ht : g6 (yB 46 s).1 with
    | false => rw [cutGo_bad n s ht] at h; cases h
    | true =>
      have h8 : (yB 46 s).1.length ≤ 8 := Nat.le_of_not_lt fun h2 => by rw [nL h2] at ht; cases ht
      cases hm : (yB 46 s).2.2 with
      | false => rw [hm] at hl; simp at hl; omega
      | true =>
        rw [cutGo_on n s ht hm] at h
        have ih := cutGo_short n _ h
        rw [hm] at hl; simp at hl; omega
theorem preOk_short {s : List UInt8} (h : qU s = true) : s.length ≤ 36 := by
  rw [preOk_lst, Bool.and_eq_true] at h
  have h1 := h.1
  unfold lst at h1
  split at h1
  · rename_i h0
    have : s = [] := by simpa using h0
    subst this; exact Nat.zero_le _
  · have := cutGo_short _ _ h1; omega
theorem may_short {v : Ver} (h : v.may = true) (hb : v.build = []) : v.short := ⟨by have := preOk_short (dR h); omega, by rw [hb]; exact Nat.zero_le _⟩
theorem cu_short {c : Cu} (h : c.may = true) : c.short := may_short (vF h) (v6 h)
theorem sp_short {s : Sp} (h : s.may = true) : s.short := ⟨cu_short (zX h).1, cu_short (zX h).2⟩
structure RF (l : List Sp) (n : Nat) : Prop where
  may : zJ l = true
  len : l.length ≤ n
theorem RF.short {l : List Sp} {n : Nat} (h : RF l n) : xI l := fun s hs => sp_short (x3 h.may s hs)
theorem cuts_len {l : List Sp} (hl : ∀ s ∈ l, s.may = true) : (qQ l).length ≤ 2 + 2 * l.length := by
  have h := (cuts_size l (fun s hs => sp_short (hl s hs)) l.length (Nat.le_refl _)).1
  rwa [List.take_length] at h
theorem RF.make {l : List Sp} {n : Nat} (hl : ∀ s ∈ l, s.may = true) (hn : l.length ≤ n) : RF (u9 l) (2 + 2 * n) := ⟨(uN hl).1, by
  have h1 := build_len (inL l) (qQ l) []
  have h2 := cuts_len hl
  unfold u9
  rw [List.length_nil] at h1
  omega⟩
theorem RF.or {a b : List Sp} {n m : Nat} (ha : RF a n) (hb : RF b m) : RF (orL a b) (2 + 2 * (n + m)) := RF.make (dI ha.may hb.may) (by rw [List.length_append]; have := ha.len; have := hb.len; omega)
section
variable {a b c : List Sp} (ha : zJ a = true) (hb : zJ b = true) (hc : zJ c = true)
include ha in
theorem not_not4 : j0 (j0 a) = a := jS _ _ (bF (bF ha).1).1 ha fun x hx he => by
  rw [(bF (bF ha).1).2 x hx he, (bF ha).2 x hx he, Bool.not_not]
include ha hb in
end
theorem jL {v : Ver} (hv : v.may = true) : zP (bE v) (yJ 1) < 0 := by
  have h1 := le_last (qC hv)
  have h2 : zP (bE v) (yJ 1) ≠ 0 := fun e => by
    have := (cut_eq (qC hv) wD).1 e
    have h3 := congrArg Cu.e this
    simp [bE, yJ] at h3
  omega
theorem has_or4 {a b : List Sp} {v : Ver} (ha : zJ a = true) (hb : zJ b = true) (hv : v.may = true) : xL (orL a b) v = (xL a v || xL b v) := by
  rw [vH (or_ok ha hb).1 hv, vH ha hv, vH hb hv, (or_ok ha hb).2 _ (qC hv) (jL hv)]
theorem has_and4 {a b : List Sp} {v : Ver} (ha : zJ a = true) (hb : zJ b = true) (hv : v.may = true) : xL (f7 a b) v = (xL a v && xL b v) := by
  rw [vH (and_ok ha hb).1 hv, vH ha hv, vH hb hv, (and_ok ha hb).2 _ (qC hv) (jL hv)]
end
section
section
variable {M : List Nat} {P : Program} {n : Nat} {W : World} {Q : Exit → Act → World → Prop} {L : List Blk} {f : Nat → Value}
theorem bJ {fn : Func} {R : Ending → World → Prop} {p q : Tmp} {ty tz : TypeId} (i j : Nat) (x y : Blk) {off oft : Nat} (v v' : Value) (hres : fn.results = #[.cell p ty, .cell q tz]) (hL : L[i]? = some x) (hL' : L[j]? = some y)
    (hp : ev n f (.tmp p) = .pointer (some ⟨x.b, off, none⟩)) (hq : ev n f (.tmp q) = .pointer (some ⟨y.b, oft, none⟩)) (hv : kL P ty x.cs off = some v) (hv' : kL P tz y.cs oft = some v') (hR : ∀ w, Own M W w L → R (.returned (.tuple #[v, v'])) w) : Fin M n W (bodyPost P fn R) .ret L f := ⟨fun w hO => by
  refine bodyPost_ret (v := .tuple #[v, v']) ?_ rfl (hR w hO)
  have e : (Fr n f).tmps.getD p undef = .pointer (some ⟨x.b, off, none⟩) := (v7 n f p).trans hp
  have e' : (Fr n f).tmps[p]?.getD undef = .pointer (some ⟨x.b, off, none⟩) := by simpa using e
  have e2 : (Fr n f).tmps.getD q undef = .pointer (some ⟨y.b, oft, none⟩) := (v7 n f q).trans hq
  have e2' : (Fr n f).tmps[q]?.getD undef = .pointer (some ⟨y.b, oft, none⟩) := by simpa using e2
  have h1 := qS hv (hO.get hL)
  have h2 := qS hv' (hO.get hL')
  simp [results, hres, e', e2', asAddr, h1, h2]⟩
def JoinQ (M : List Nat) (n : Nat) (W : World) (R : List Blk → (Nat → Value) → Prop) : Exit → Act → World → Prop
  | .normal, a, w => ∃ L f, R L f ∧ Own M W w L ∧ a = Fr n f
  | _, _, _ => False
theorem yE {R : List Blk → (Nat → Value) → Prop} : PQ (JoinQ M n W R) := fun c a d v w h => h
theorem bA {c : Code} (R : List Blk → (Nat → Value) → Prop) (h1 : Ok M P n W (JoinQ M n W R) c L f) (h2 : ∀ L f, R L f → Fin M n W Q .normal L f) : Ok M P n W Q c L f := ⟨fun w hO =>
  Code.wp_mono (fun e a w h => by
    cases e with
    | normal =>
      obtain ⟨L', f', hR, hO', rfl⟩ := h
      exact (h2 L' f' hR).go w hO'
    | _ => exact absurd h id) (h1.go w hO)⟩
theorem yU {R : List Blk → (Nat → Value) → Prop} (h : R L f) : Fin M n W (JoinQ M n W R) .normal L f := ⟨fun w hO => ⟨L, f, h, hO, rfl⟩⟩
end
theorem Reads.tail {α : Type} {g : α → List Value} {sz : Nat} (hg : ∀ x, (g x).length = sz) {w : World} {B b off c : Nat} {x : α} {l : List α} (h : Reads g w B (some ⟨b, off, none⟩) (x :: l)) (hc : l.length < c) : Reads g w B (some ⟨b, off + (if c = (1 : Int).toNat then 0 else (1 : Int).toNat * sz), none⟩) l := fun h0 => by
  obtain ⟨b', off', e, hlt, hcell⟩ := h (by simp)
  obtain ⟨rfl, rfl⟩ : b = b' ∧ off = off' := by simp at e; exact e
  refine ⟨b, _, rfl, hlt, fun k u hk => ?_⟩
  rw [if_neg (by show ¬ c = 1; omega)]
  have := hcell (sz + k) u (by rw [List.flatMap_cons, List.getElem?_append_right (by rw [hg]; omega), hg]; rw [show sz + k - sz = k from by omega]; exact hk)
  rw [show off + (1 : Int).toNat * sz + k = off + (sz + k) from by show off + 1 * sz + k = _; omega]
  exact this
end
section
theorem p5 {a b : Cu} (ha : a.short) (hb : b.short) : (yO a b).short := by unfold yO; split <;> assumption
theorem dT {a b : Cu} (ha : a.short) (hb : b.short) : (yS a b).short := by unfold yS; split <;> assumption
theorem gW (a b : Cu) (W : World) (ha : a.short) (hb : b.short) :
    Calls Tryz.prog 130 #[zF a, zF b] W fun e w' => e = .returned (.tuple #[zF (yO a b), zF (yS a b)]) ∧ Below W.heap.size W w' := by
  refine zQ (n := 14) Tryz.func130 rfl (by kernel_rfl) (by kernel_rfl) (ZO (Zb (zF a) (fun b1 => Zb (zF b) (fun b2 => Za (.agg #[.int .i64 0, .int .i64 0, .int .i64 0, .int .i64 0, .string ⟨#[]⟩, .string ⟨#[]⟩, .bool false]) (fun b3 => Za (.agg #[.int .i64 0, .int .i64 0, .int .i64 0, .int .i64 0, .string ⟨#[]⟩, .string ⟨#[]⟩, .bool false]) (fun b4 => ZN (z6 (z6 (z7 ?_)))))))))
  refine Zl 3 ⟨b1, (zF a).cells, 78⟩ (off := 0) (zF a) (Zl 2 ⟨b2, (zF b).cells, 78⟩ (off := 0) (zF b) (Zc (k := 173) (args := #[zF a, zF b]) (.int .i64 (zP a b)) (fun w _ => hY a b w ha hb) ?_))
  by_cases h1 : (0 : Int) < zP a b
  · refine zV (p := (0 : Int) < zP a b) true (by kernel_rfl) (fun _ => by kernel_rfl) (decide_eq_true (h1)) ?_
    refine ZY (z6 (qD [⟨b2, (zF b).cells, 78⟩, ⟨b1, (zF a).cells, 78⟩] (by kernel_rfl) (fun w hO => Own.sub [⟨b4, #[.int .i64 0, .int .i64 0, .int .i64 0, .int .i64 0, .string ⟨#[]⟩, .string ⟨#[]⟩, .bool false], 78⟩, ⟨b3, #[.int .i64 0, .int .i64 0, .int .i64 0, .int .i64 0, .string ⟨#[]⟩, .string ⟨#[]⟩, .bool false], 78⟩] hO) (ZL 0 [⟨b4, #[.int .i64 0, .int .i64 0, .int .i64 0, .int .i64 0, .string ⟨#[]⟩, .string ⟨#[]⟩, .bool false], 78⟩, ⟨b3, #[.int .i64 0, .int .i64 0, .int .i64 0, .int .i64 0, .string ⟨#[]⟩, .string ⟨#[]⟩, .bool false], 78⟩] _ 0 ⟨b2, (zF b).cells, 78⟩ (off := 0) (zF b) (zK (zK zS)) rfl rfl (ZL 1 [⟨b4, #[.int .i64 0, .int .i64 0, .int .i64 0, .int .i64 0, .string ⟨#[]⟩, .string ⟨#[]⟩, .bool false], 78⟩, ⟨b3, #[.int .i64 0, .int .i64 0, .int .i64 0, .int .i64 0, .string ⟨#[]⟩, .string ⟨#[]⟩, .bool false], 78⟩] _ 1 ⟨b1, (zF a).cells, 78⟩ (off := 0) (zF a) (zK (zK zS)) rfl rfl (y8 2 (by kernel_rfl) (ZS [⟨b4, #[.int .i64 0, .int .i64 0, .int .i64 0, .int .i64 0, .string ⟨#[]⟩, .string ⟨#[]⟩, .bool false], 78⟩, ⟨b3, #[.int .i64 0, .int .i64 0, .int .i64 0, .int .i64 0, .string ⟨#[]⟩, .string ⟨#[]⟩, .bool false], 78⟩] _ 1 ⟨b3, #[.int .i64 0, .int .i64 0, .int .i64 0, .int .i64 0, .string ⟨#[]⟩, .string ⟨#[]⟩, .bool false], 78⟩ (off := 0) (zF b) rfl rfl (y8 3 (by kernel_rfl) (ZS [⟨b4, #[.int .i64 0, .int .i64 0, .int .i64 0, .int .i64 0, .string ⟨#[]⟩, .string ⟨#[]⟩, .bool false], 78⟩, ⟨b3, (zF b).cells, 78⟩] _ 0 ⟨b4, #[.int .i64 0, .int .i64 0, .int .i64 0, .int .i64 0, .string ⟨#[]⟩, .string ⟨#[]⟩, .bool false], 78⟩ (off := 0) (zF a) rfl rfl (xM (by kernel_rfl) ?_)))))))))
    exact zC (zA (z8 (bJ 1 0 ⟨b3, (zF b).cells, 78⟩ ⟨b4, (zF a).cells, 78⟩ (off := 0) (oft := 0) (zF b) (zF a) Tryz.results130 (by kernel_rfl) (by kernel_rfl) (by kernel_rfl) (by kernel_rfl) (by kernel_rfl) (by kernel_rfl) (fun w hO => ⟨by unfold yO yS; simp only [h1, if_true, if_false], hO.below⟩))))
  refine Zd (p := (0 : Int) < zP a b) false (decide_eq_false (h1)) (ZX (ZB (z6 (qD [⟨b2, (zF b).cells, 78⟩, ⟨b1, (zF a).cells, 78⟩] (by kernel_rfl) (fun w hO => Own.sub [⟨b4, #[.int .i64 0, .int .i64 0, .int .i64 0, .int .i64 0, .string ⟨#[]⟩, .string ⟨#[]⟩, .bool false], 78⟩, ⟨b3, #[.int .i64 0, .int .i64 0, .int .i64 0, .int .i64 0, .string ⟨#[]⟩, .string ⟨#[]⟩, .bool false], 78⟩] hO) (ZL 0 [⟨b4, #[.int .i64 0, .int .i64 0, .int .i64 0, .int .i64 0, .string ⟨#[]⟩, .string ⟨#[]⟩, .bool false], 78⟩, ⟨b3, #[.int .i64 0, .int .i64 0, .int .i64 0, .int .i64 0, .string ⟨#[]⟩, .string ⟨#[]⟩, .bool false], 78⟩] _ 1 ⟨b1, (zF a).cells, 78⟩ (off := 0) (zF a) (zK zS) rfl rfl (ZL 1 [⟨b4, #[.int .i64 0, .int .i64 0, .int .i64 0, .int .i64 0, .string ⟨#[]⟩, .string ⟨#[]⟩, .bool false], 78⟩, ⟨b3, #[.int .i64 0, .int .i64 0, .int .i64 0, .int .i64 0, .string ⟨#[]⟩, .string ⟨#[]⟩, .bool false], 78⟩] _ 0 ⟨b2, (zF b).cells, 78⟩ (off := 0) (zF b) (zK zS) rfl rfl (y8 2 (by kernel_rfl) (ZS [⟨b4, #[.int .i64 0, .int .i64 0, .int .i64 0, .int .i64 0, .string ⟨#[]⟩, .string ⟨#[]⟩, .bool false], 78⟩, ⟨b3, #[.int .i64 0, .int .i64 0, .int .i64 0, .int .i64 0, .string ⟨#[]⟩, .string ⟨#[]⟩, .bool false], 78⟩] _ 1 ⟨b3, #[.int .i64 0, .int .i64 0, .int .i64 0, .int .i64 0, .string ⟨#[]⟩, .string ⟨#[]⟩, .bool false], 78⟩ (off := 0) (zF a) rfl rfl ?_))))))))
  exact y8 3 (by kernel_rfl) (ZS [⟨b4, #[.int .i64 0, .int .i64 0, .int .i64 0, .int .i64 0, .string ⟨#[]⟩, .string ⟨#[]⟩, .bool false], 78⟩, ⟨b3, (zF a).cells, 78⟩] _ 0 ⟨b4, #[.int .i64 0, .int .i64 0, .int .i64 0, .int .i64 0, .string ⟨#[]⟩, .string ⟨#[]⟩, .bool false], 78⟩ (off := 0) (zF b) rfl rfl (xM (by kernel_rfl) (zC (zA (bJ 1 0 ⟨b3, (zF a).cells, 78⟩ ⟨b4, (zF b).cells, 78⟩ (off := 0) (oft := 0) (zF a) (zF b) Tryz.results130 (by kernel_rfl) (by kernel_rfl) (by kernel_rfl) (by kernel_rfl) (by kernel_rfl) (by kernel_rfl) (fun w hO => ⟨by unfold yO yS; simp only [h1, if_true, if_false], hO.below⟩))))))
def idxP (v : Ver) : List Sp → Int → Int
  | [], _ => -1
  | s :: r, k => if gP s v then k else idxP v r (k + 1)
end
section
theorem may_drop : ∀ (a b : List Sp), zJ (a ++ b) = true → zJ b = true
  | [], _, h => h
  | _ :: a, b, h => may_drop a b (kN h)
theorem may_take_bad {l : List Sp} {k : Nat} (hk : k < l.length) (h : l[k].may = false) : zJ l = false := by
  cases h2 : zJ l with
  | false => rfl
  | true => rw [x3 h2 _ (List.getElem_mem hk)] at h; cases h
theorem may_step {l : List Sp} {k : Nat} (hk : k < l.length) (h : zJ (l.take k) = true) (hs : l[k].may = true) (hp : 0 < k → zP (l[k - 1]'(by omega)).hi l[k].lo < 0) : zJ (l.take (k + 1)) = true := by
  rw [List.take_succ_eq_append_getElem hk]
  refine u0 h hs (fun s hs2 => ?_)
  by_cases h0 : k = 0
  · subst h0; simp at hs2
  · have e : s = l[k - 1]'(by omega) := by
      rw [List.getLast?_eq_getElem?, List.length_take, Nat.min_eq_left (by omega), List.getElem?_take, if_pos (by omega), List.getElem?_eq_getElem (by omega)] at hs2
      exact (Option.some.inj hs2).symm
    rw [e]; exact hp (by omega)
theorem may_not {l : List Sp} {k : Nat} (hk : k < l.length) (h0 : 0 < k) (h : ¬ zP (l[k - 1]'(by omega)).hi l[k].lo < 0) : zJ l = false := by
  cases h2 : zJ l with
  | false => rfl
  | true =>
    refine absurd ?_ h
    have e : l = l.take (k - 1) ++ (l[k - 1]'(by omega)) :: l[k] :: l.drop (k + 1) := by
      have e1 := (List.take_append_drop (k - 1) l).symm
      rw [List.drop_eq_getElem_cons (show k - 1 < l.length by omega)] at e1
      have e2 : l.drop (k - 1 + 1) = l[k] :: l.drop (k + 1) := by
        rw [show k - 1 + 1 = k from by omega, List.drop_eq_getElem_cons hk]
      rw [e2] at e1; exact e1
    have h3 : zJ ((l[k - 1]'(by omega)) :: l[k] :: l.drop (k + 1)) = true := may_drop (l.take (k - 1)) _ (e ▸ h2)
    exact kU h3 _ (List.mem_cons_self ..)
theorem jC (A : Option Addr) (cap : Nat) (l : List Sp) (W : World) (hv : Reads x9 W W.heap.size A l) (hn : l.length ≤ 1000000) (hl : xI l) :
    Calls Tryz.prog 129 #[.slice A l.length cap] W fun e w' => e = .returned (.bool (zJ l)) ∧ Below W.heap.size W w' := by
  refine zQ (n := 30) Tryz.func129 rfl (by kernel_rfl) (by kernel_rfl) (ZO (Zv (.bool false) (ZN (z6 (ZO (Zv (.slice A l.length cap) (Zv (.int .i64 (l.length : Int)) (Zv (.int .i64 0) ?_))))))))
  refine ZN (zI (yT (fun L f m => ∃ (k : Nat) (j : Nat → Value), (k ≤ l.length ∧ zJ (l.take k) = true) ∧ L = [] ∧ f = kE j [(0, .slice A l.length cap), (5, .slice A l.length cap), (6, .int .i64 (l.length : Int)), (7, .int .i64 (k : Int))] ∧ m = l.length - k) (l.length - 0) ⟨0, _, ⟨Nat.zero_le _, by rw [List.take_zero]; rfl⟩, rfl, ZU, rfl⟩ ?_))
  rintro L f m ⟨k, j, hrel, rfl, rfl, rfl⟩
  have hkl := hrel.1
  refine z6 (z7 ?_)
  by_cases h1 : (k : Int) < (l.length : Int)
  · have hk : k < l.length := by omega
    obtain ⟨b, off, hA, hlt, hcell⟩ := hv (by omega)
    obtain ⟨s, hs⟩ : ∃ s, l[k] = s := ⟨_, rfl⟩
    have hsk : s.short := hs ▸ hl l[k] (List.getElem_mem hk)
    refine Zd (p := (k : Int) < (l.length : Int)) true (decide_eq_true (h1)) (ZN (z6 (Zt (ZB (z6 (zI (ZO (Zv (.int .i64 (k : Int)) ?_))))))))
    refine zT (.pointer (some ⟨b, off + k * 14, none⟩)) (by kernel_rfl) (ZA (b := b) (off := off) (c := cap) (n := l.length) (k := .i64) (j := (k : Int)) (e := 80) (sz := 14) hA) (Zo (yI s) (a := ⟨b, off + k * 14, none⟩) (fun w hO => zZ yA (fun j u h => (hO.below.cell (p := ⟨b, off + j, none⟩) hlt).trans (hcell j u h)) k 0 hk (by omega) _ (by rw [hs]; kernel_rfl)) (Za (.agg #[.int .i64 0, .int .i64 0, .int .i64 0, .int .i64 0, .string ⟨#[]⟩, .string ⟨#[]⟩, .bool false, .int .i64 0, .int .i64 0, .int .i64 0, .int .i64 0, .string ⟨#[]⟩, .string ⟨#[]⟩, .bool false]) (fun b1 => Zv (.int .i64 (k : Int)) (Zs 0 ⟨b1, #[.int .i64 0, .int .i64 0, .int .i64 0, .int .i64 0, .string ⟨#[]⟩, .string ⟨#[]⟩, .bool false, .int .i64 0, .int .i64 0, .int .i64 0, .int .i64 0, .string ⟨#[]⟩, .string ⟨#[]⟩, .bool false], 80⟩ (off := 0) (yI s) (ZN (z6 (ZO (Zl 0 ⟨b1, (yI s).cells, 80⟩ (off := 0) (yI s) (Zc (k := 139) (args := #[yI s]) (.bool s.may) (fun w _ => wU s w hsk) ?_)))))))))
    cases h2 : s.may with
    | true =>
      refine Zv (.bool false) (ZX (ZB (z6 (uL (by kernel_rfl) (by kernel_rfl) (Zw (.int .i64 (k : Int)) ?_)))))
      by_cases h3 : (0 : Int) < (k : Int)
      · have hk1 : k - 1 < l.length := by omega
        obtain ⟨p, hp⟩ : ∃ p, l[k - 1] = p := ⟨_, rfl⟩
        have hpk : p.short := hp ▸ hl l[k - 1] (List.getElem_mem hk1)
        refine Ze (p := (0 : Int) < (k : Int)) true (decide_eq_true (h3)) (Zw (.bool true) (Zw (.slice A l.length cap) (Zw (.int .i64 (k : Int)) (q_sum (k := .i64) (((k : Int) : Int) - 1) (by kernel_rfl) (fun _ => by kernel_rfl) (IntWalk.i64_in _ (by omega)) (kW (.pointer (some ⟨b, off + (k - 1) * 14, none⟩)) (by kernel_rfl) (ZA (b := b) (off := off) (c := cap) (n := l.length) (k := .i64) (j := (k : Int) - 1) (e := 80) (sz := 14) hA) (Zw (.pointer (some ⟨b, off + (k - 1) * 14 + 7, none⟩)) (b8 (zF p.hi) (a := ⟨b, off + (k - 1) * 14 + 7, none⟩) (by kernel_rfl) rfl (by kernel_rfl) (fun w hO => zZ yA (fun j u h => (hO.below.cell (p := ⟨b, off + j, none⟩) hlt).trans (hcell j u h)) (k - 1) 7 (by omega) (by omega) _ (by rw [hp]; kernel_rfl)) (Zw (.pointer (some ⟨b1, 0, none⟩)) (Zm 0 ⟨b1, (yI s).cells, 80⟩ (off := 0) (.agg #[.int .i64 s.lo.e, .int .i64 s.lo.v.maj, .int .i64 s.lo.v.min, .int .i64 s.lo.v.pat, .string (mkS s.lo.v.pre), .string (mkS s.lo.v.build), .bool s.lo.aft]) (Zq (k := 173) (args := #[zF p.hi, .agg #[.int .i64 s.lo.e, .int .i64 s.lo.v.maj, .int .i64 s.lo.v.min, .int .i64 s.lo.v.pat, .string (mkS s.lo.v.pre), .string (mkS s.lo.v.build), .bool s.lo.aft]]) (.int .i64 (zP p.hi s.lo)) (fun w _ => hY p.hi s.lo w hpk.2 hsk.1) ?_))))))))))
        by_cases h4 : (0 : Int) ≤ zP p.hi s.lo
        · refine q_dec (p := (0 : Int) ≤ zP p.hi s.lo) true (by kernel_rfl) (fun _ => by kernel_rfl) (decide_eq_true (h4)) ?_
          refine Zw (.bool true) (qO (zC (Zt (ZO (Zv (.bool false) (ZN (zA (zD (z8 ?_)))))))))
          exact y7 (zD (z8 (ZF (.bool false) Tryz.results129 (fun w hO => ⟨by rw [may_not hk (by omega) (by simp only [hp, hs]; omega)], hO.below⟩))))
        refine Ze (p := (0 : Int) ≤ zP p.hi s.lo) false (decide_eq_false (h4)) (Zw (.bool false) (qO (zC (Zf (x4 (zR (zC (z7 (Zu (k := .i64) (((k + 1 : Nat) : Int)) (IntWalk.i64_in _ (by omega)) (Zv (.int .i64 ((k + 1 : Nat) : Int)) (zN ?_)))))))))))
        have hnext : zJ (l.take (k + 1)) = true := may_step hk hrel.2 (by rw [hs]; assumption) (fun h0 => by simp only [hp, hs]; omega)
        exact xS (fun w hO => Own.sub [_] hO) (zU (m' := l.length - (k + 1)) (by omega) ⟨k + 1, _, ⟨by omega, hnext⟩, rfl, ZU, rfl⟩)
      refine Ze (p := (0 : Int) < (k : Int)) false (decide_eq_false (h3)) (Zw (.bool false) (Zj (Zj (Zj (Zj (Zj (Zj (Zj (Zj (Zj (Zj ?_)))))))))))
      refine Zw (.bool false) (qO (zC (Zf (x4 (zR (zC (z7 (Zu (k := .i64) (((k + 1 : Nat) : Int)) (IntWalk.i64_in _ (by omega)) (Zv (.int .i64 ((k + 1 : Nat) : Int)) (zN ?_))))))))))
      have hnext : zJ (l.take (k + 1)) = true := may_step hk hrel.2 (by rw [hs]; assumption) (fun h0 => absurd h0 (by omega))
      exact xS (fun w hO => Own.sub [_] hO) (zU (m' := l.length - (k + 1)) (by omega) ⟨k + 1, _, ⟨by omega, hnext⟩, rfl, ZU, rfl⟩)
    | false =>
      refine Zv (.bool true) (ZY (ZO (Zv (.bool false) (ZN (zA (z8 (zD ?_)))))))
      exact z8 (y7 (zD (z8 (ZF (.bool false) Tryz.results129 (fun w hO => ⟨by rw [may_take_bad hk (by rw [hs]; assumption)], hO.below⟩)))))
  refine Zd (p := (k : Int) < (l.length : Int)) false (decide_eq_false (h1)) (ZN (z6 (Zf (y5 (zB (zM (zH (zC (z6 (z7 ?_))))))))))
  exact Zv (.bool true) (ZN (zA (ZF (.bool true) Tryz.results129 (fun w hO => ⟨by have h := hrel.2; rw [List.take_of_length_le (by omega)] at h; rw [h], hO.below⟩))))
end
section
section
variable {M : List Nat} {P : Program} {n0 : Nat} {ops : Array Oper} {W : World} {Q : Exit → Act → World → Prop} {rest : List Oper} {o : Oper} {L : List Blk} {f : Nat → Value}
theorem s_append0 {t tn e : TypeId} {x y : Operand} {i : TypeInfo} {z : Value} {kn : IntKind} {k sz : Nat} (hw : xY ops n0 f o = true) (ho : o.op = .call { callee := .builtin .append, args := #[x, y], argTypes := #[t, tn] })
    (hx : ev n0 f x = .slice none 0 0) (hy : ev n0 f y = .int .i64 k) (ht : P.underlying t = some (.slice e)) (htn : P.underlying tn = some (.int kn)) (hi : P.info? e = some i) (hz : i.zero = some z) (hsz : i.size = sz) (hzs : z.cells.size = sz) (h0 : 0 < k) (hs : 0 < sz)
    (h63 : k ≤ maxLen) (h48 : k * i.bytes ≤ 140737488355328)
    (h : ∀ b cs cap, cs.size = cap * sz → k ≤ cap → cap ≤ maxLen → Seg M P n0 ops W Q rest (⟨b, cs, e⟩ :: L) (upd f o.dst (.slice (some ⟨b, 0, none⟩) k cap))) : Seg M P n0 ops W Q (o :: rest) L f :=
  vK hw fun w hO => by
    subst hsz
    have hsmall : k ≤ 9223372036854775807 := by simp only [maxLen] at h63; omega
    have hr := Lib.run_append_grow_zeros (P := P) w t tn o.type e i z .i64 kn ht htn hi hz none 0 0 [] (run_firstCells_none w.drew i.size 0 0 0) k h0 hs (by omega) (by omega) (by omega) (by rw [Nat.zero_add, nextslicecap_zero h0]; omega)
    have hge := grownCap_ge w (0 + k) 0 e
    have hcm := grownCap_le_maxLen w (0 + k) 0 e (by omega)
    obtain ⟨cs, hcs⟩ : ∃ cs : Array Value, cs = #[] ++ Builtin.zeroCells z.cells k ++ Builtin.zeroCells z.cells (grownCap w (0 + k) 0 e - (0 + k)) := ⟨_, rfl⟩
    have hr2 : (Builtin.append_ #[t, tn] o.type #[.slice none 0 0, .int .i64 k]).run P w = .ok (.slice (some ⟨w.heap.size, 0, none⟩) k (grownCap w (0 + k) 0 e)) (w.drew.alloc (.cells cs e)) := by rw [hr, hcs, Nat.zero_add]
    have hcz : cs.size = grownCap w (0 + k) 0 e * i.size := by
      rw [hcs]
      simp only [Array.size_append, size_zeroCells, hzs, List.size_toArray, List.length_nil, Array.size_empty]
      rw [Nat.zero_add, ← Nat.add_mul]
      congr 1
      omega
    refine vJ (.slice (some ⟨w.heap.size, 0, none⟩) k (grownCap w (0 + k) 0 e)) (w' := w.drew.alloc (.cells cs e)) ?_ ((h w.heap.size cs (grownCap w (0 + k) 0 e) hcz (by omega) hcm).go _ (Own.alloc (L := L) (tR hO) cs e))
    unfold execOp
    simp only [ho, resolve, invoke, builtin, Sem.run_bind, Sem.run_pure, Result.andThen_ok, List.map_toArray, List.map_cons, List.map_nil, hx, hy, hr2]
end
theorem run_sllA {P : Program} {ρ : Operand → Value} {o : Oper} {t e : TypeId} {x y : Operand} {A : Option Addr} {b off n c sz : Nat} {k : IntKind} {j : Int} (ho : o.op = .slice t x (some y) none none) (hx : ρ x = .slice A n c) (hA : A = some ⟨b, off, none⟩) (hy : ρ y = .int k j)
    (hu : P.underlying t = some (.slice e)) (hs : (P.info? e).map (·.size) = some sz) (h0 : 0 ≤ j) (h1 : j ≤ n) (w : World) : (execOp ρ o).run P w = .ok (.value (.slice (some ⟨b, off + (if c = j.toNat then 0 else j.toNat * sz), none⟩) (n - j.toNat) (c - j.toNat))) w := by
  subst hA
  exact run_sllo ho hx hy hu hs h0 h1 w
theorem Reads.drop1 {α : Type} {g : α → List Value} {sz : Nat} (hg : ∀ x, (g x).length = sz) {w : World} {B b off c : Nat} {A : Option Addr} {l : List α} (h : Reads g w B A l) (hA : A = some ⟨b, off, none⟩) (hc : l.length ≤ c) : Reads g w B (some ⟨b, off + (if c = (1 : Int).toNat then 0 else (1 : Int).toNat * sz), none⟩) (l.drop 1) := by
  subst hA
  cases l with
  | nil => exact fun h0 => by simp at h0
  | cons x r => exact h.tail hg (by rw [List.length_cons] at hc; omega)
end
section
section
variable {M : List Nat} {P : Program} {n : Nat} {ops : Array Oper} {W : World} {Q : Exit → Act → World → Prop} {rest : List Oper} {o : Oper} {L : List Blk} {f : Nat → Value} {Qe : List Blk → (Nat → Value) → Prop}
theorem uK (x : Blk) {ty : TypeId} {p : Operand} {off : Nat} (v : Value) (hw : xY ops n f o = true) (ho : o.op = .load ty p) (hL : x ∈ L) (hp : ev n f p = .pointer (some ⟨x.b, off, none⟩)) (hv : kL P ty x.cs off = some v)
    (h : Seg M P n ops W Q rest L (upd f o.dst v)) : Seg M P n ops W Q (o :: rest) L f :=
  s_read v hw (fun _ hO => qT ho hp (qS hv (hO.held x hL))) h
end
end
section
end
section
theorem Own.sublist {M : List Nat} {W w : World} {L L' : List Blk} (h : Own M W w L) (hs : List.Sublist L' L) : Own M W w L' := h.take (fun x hx => hs.subset hx) (h.apart.sublist (hs.map _))
end
section
def bumpN (v : Ver) (k : Nat) : Ver := if k = 0 then Ver.rel (v.maj + 1) 0 0 else if k = 1 then Ver.rel v.maj (v.min + 1) 0 else Ver.rel v.maj v.min (v.pat + 1)
def yD (v : Ver) (part : Int) : Bool := v.may && decide (0 ≤ part ∧ part < 3) && !(xR v.maj v.min v.pat part.toNat == 9999)
def yW (v : Ver) (part : Int) : Ver := if yD v part then bumpN v part.toNat else Ver.zero
def BEnd (v : Ver) (part : Int) (w : World) (e : Ending) (w' : World) : Prop := e = .returned (.tuple #[yF (yW v part), .bool (yD v part)]) ∧ Below w.heap.size w w'
theorem empty_mk2 (b : List UInt8) : (mkS b).toList.isEmpty = b.isEmpty := by rw [Lib.toList_data, mk_data]
theorem v8 {v u : Ver} {part : Int} {b : Bool} {w wr : World} {tmps : Array Value} {old : Array Value} (h2 : tmps.getD 4 undef = .pointer (some ⟨w.heap.size + 1, 0, none⟩)) (h3 : tmps.getD 5 undef = .bool b)
    (hg : wr.heap[w.heap.size + 1]? = some (.cells old 44)) (hbel : Below w.heap.size w wr) (hb : yD v part = b) (hv : yW v part = u) :
    bodyPost Tryz.prog Tryz.f203 (BEnd v part w) .ret ⟨tmps, []⟩ (wr.setRow (w.heap.size + 1) #[.int .i64 u.maj, .int .i64 u.min, .int .i64 u.pat, .string (mkS u.pre), .string (mkS u.build)]) := by
  have hrow := setRow_heap wr (w.heap.size + 1) _ #[.int .i64 u.maj, .int .i64 u.min, .int .i64 u.pat, .string (mkS u.pre), .string (mkS u.build)] _ _ hg
  have hr := run_loadVar_row (P := Tryz.prog) _ (w.heap.size + 1) 44 44 _ _ _ hrow Tryz.underlying44 rfl (by kernel_rfl)
  have h2' : tmps[4]?.getD undef = .pointer (some ⟨w.heap.size + 1, 0, none⟩) := by simpa using h2
  have h3' : tmps[5]?.getD undef = .bool b := by simpa using h3
  refine bodyPost_ret (v := .tuple #[yF u, .bool b]) (by simp [results, Tryz.results203, asAddr, h2', h3', hr, yF]) rfl ⟨by rw [hv, hb], gN hbel (by omega) _⟩
theorem zeroInt (w : World) : (zeroValue 3).run Tryz.prog w = .ok (.int .i64 0) w := by kernel_rfl
theorem bT {w : World} {N k : Nat} {a b c : Value} (x : Value) (hg : w.heap[N]? = some (.cells #[a, b, c] 88)) : w.setCell ⟨N, k, none⟩ x = w.setRow N ((#[a, b, c] : Array Value).setIfInBounds k x) := setCell_eq_setRow _ _ _ _ _ _ _ hg
theorem uX (w : World) (g : Nat) (a b : Array Value) : (w.setRow g a).setRow g b = w.setRow g b := setRow_setRow _ _ _ _
theorem clear_two {w : World} {N : Nat} {a b c : Int} {old : Array Value} (hg : w.heap[N]? = some (.cells old 88)) (_ho : old.size = 3) :
    (Builtin.clear_ #[40] 0 #[.slice (some ⟨N, 1, none⟩) 2 2]).run Tryz.prog (w.setRow N #[.int .i64 a, .int .i64 b, .int .i64 c]) = .ok (.tuple #[]) (w.setRow N #[.int .i64 a, .int .i64 0, .int .i64 0]) := by
  have h1 := setRow_heap w N old #[.int .i64 a, .int .i64 b, .int .i64 c] _ _ hg
  obtain ⟨n1, m1⟩ := xC (j := 1) h1 (by simp)
  obtain ⟨n2, m2⟩ := xC (j := 2) h1 (by simp)
  have := Lib.run_clear_slice (P := Tryz.prog) (w.setRow N #[.int .i64 a, .int .i64 b, .int .i64 c]) 40 3 0 (.int .i64 0) Tryz.underlying40 zeroInt rfl rfl N 1 2 2 (by omega)
    (fun j hj => by match j, hj with | 0, _ => rw [n1]; rfl | 1, _ => rw [n2]; rfl) (fun j hj => by match j, hj with | 0, _ => exact m1 | 1, _ => exact m2)
  rw [this]
  congr 1
  show ((w.setRow N #[.int .i64 a, .int .i64 b, .int .i64 c]).setCell ⟨N, 1, none⟩ (.int .i64 0)).setCell ⟨N, 2, none⟩ (.int .i64 0) = _
  rw [bT _ h1, uX]
  have h2 := setRow_heap w N old ((#[.int .i64 a, .int .i64 b, .int .i64 c] : Array Value).setIfInBounds 1 (.int .i64 0)) _ _ hg
  rw [bT (a := .int .i64 a) (b := .int .i64 0) (c := .int .i64 c) _ h2, uX]
  rfl
theorem clear_one {w : World} {N : Nat} {a b c : Int} {old : Array Value} (hg : w.heap[N]? = some (.cells old 88)) (_ho : old.size = 3) :
    (Builtin.clear_ #[40] 0 #[.slice (some ⟨N, 2, none⟩) 1 1]).run Tryz.prog (w.setRow N #[.int .i64 a, .int .i64 b, .int .i64 c]) = .ok (.tuple #[]) (w.setRow N #[.int .i64 a, .int .i64 b, .int .i64 0]) := by
  have h1 := setRow_heap w N old #[.int .i64 a, .int .i64 b, .int .i64 c] _ _ hg
  obtain ⟨n2, m2⟩ := xC (j := 2) h1 (by simp)
  have := Lib.run_clear_slice (P := Tryz.prog) (w.setRow N #[.int .i64 a, .int .i64 b, .int .i64 c]) 40 3 0 (.int .i64 0) Tryz.underlying40 zeroInt rfl rfl N 2 1 1 (by omega)
    (fun j hj => by match j, hj with | 0, _ => rw [n2]; rfl) (fun j hj => by match j, hj with | 0, _ => exact m2)
  rw [this]
  congr 1
  show (w.setRow N #[.int .i64 a, .int .i64 b, .int .i64 c]).setCell ⟨N, 2, none⟩ (.int .i64 0) = _
  rw [bT _ h1, uX]
  rfl
theorem clear_none {w : World} (x : Option Addr) (c : Nat) : (Builtin.clear_ #[40] 0 #[.slice x 0 c]).run Tryz.prog w = .ok (.tuple #[]) w := by
  cases x <;> simp [Builtin.clear_, run_underlying Tryz.underlying40]
theorem bump_go (v : Ver) (part : Int) (w : World) (hp : v.pre.length ≤ 1000000) (hq : v.build.length ≤ 1000000) :
    Calls Tryz.prog 203 #[yF v, .int .i64 part] w (BEnd v part w) := by
  have cM := fun w' => jA v w' (by omega) (by omega)
  have cN := fun w' => fT v w'
  have hN : v.may = true → (0 ≤ v.maj ∧ v.maj ≤ 9999) ∧ (0 ≤ v.min ∧ v.min ≤ 9999) ∧ (0 ≤ v.pat ∧ v.pat ≤ 9999) := fun h => by
    obtain ⟨h1, h2, h3⟩ := qE h
    unfold yC at h1 h2 h3; simp at h1 h2 h3
    exact ⟨h1, h2, h3⟩
  obtain ⟨u, hu⟩ : ∃ u, u = v := ⟨_, rfl⟩
  have HU := Lib.hid hu
  rw [← hu] at hN
  have hgo : BEnd v part w = BEnd u part w := by rw [hu]
  rw [hgo]
  obtain ⟨m, hm⟩ : ∃ m, u.may = m := ⟨_, rfl⟩
  rw [← hu, hm] at cM
  rw [← hu] at cN ⊢
  clear hgo hu
  obtain ⟨a, b, c, p, q⟩ := u
  unfold yF at cM cN ⊢
  dsimp only at cM cN hN ⊢
  go_enter Tryz.func203, Tryz.ntmps203
  go_wp2_with fail
  refine (cN _).mono ?_
  rintro e w1 ⟨rfl, hb1⟩
  have hz1 := hb1.size
  simp only [y6] at hz1
  have hgB := Lib.hid ((hb1.block w.heap.size (by simp only [y6]; omega)).trans ((kB _ _ (by simp only [y6]; omega)).trans (gL w _)))
  have hgR := Lib.hid ((hb1.block (w.heap.size + 1) (by simp only [y6]; omega)).trans (bB _ _ _ (by simp only [y6])))
  have hbw : Below w.heap.size w w1 := (((Below.refl _ _).alloc (Nat.le_refl _) _).alloc (by simp only [y6]; omega) _).trans (hb1.mono (by simp only [y6]; omega))
  have hlB : w.heap.size < w1.heap.size := by omega
  go_wp2_with (first | (refine wpList_load_row rfl 44 _ rfl w.heap.size rfl _ _ _ _ ((kB _ _ hlB).trans hgB.out) Tryz.underlying44 rfl (by kernel_rfl) ?_) | fail)
  refine (cM _).mono ?_
  rintro e w2 ⟨rfl, hb2⟩
  have hz2 := hb2.size
  rw [y6] at hz2
  have hgR2 := Lib.hid ((hb2.block (w.heap.size + 1) (by rw [y6]; omega)).trans ((kB _ _ (by omega)).trans hgR.out))
  have hgN := Lib.hid ((hb2.block w1.heap.size (by rw [y6]; omega)).trans (gL w1 _))
  have hbw2 : Below w.heap.size w w2 := (hbw.alloc (by omega) _).trans (hb2.mono (by rw [y6]; omega))
  clear hbw hb1 hb2 hgB hgR cM cN
  cases m with
  | false =>
    have HB : Hid (yD ⟨a, b, c, p, q⟩ part = false) := by show _ = _; unfold yD; rw [hm]; rfl
    clear hm hN
    go_wp2_with (refine wpList_store_row rfl 44 _ _ rfl (w.heap.size + 1) #[.int .i64 0, .int .i64 0, .int .i64 0, .string ⟨#[]⟩, .string ⟨#[]⟩] rfl rfl _ _ hgR2.out (by kernel_rfl) rfl (q8 _ _ _ _ _) ?_)
    exact v8 (u := Ver.zero) rfl rfl hgR2.out hbw2 HB.out (by unfold yW; rw [HB.out]; rfl)
  | true =>
    obtain ⟨⟨a0, a9⟩, ⟨b0, b9⟩, ⟨c0, c9⟩⟩ := hN hm
    have HM := Lib.hid hm
    clear hN hm
    by_cases p0 : part < 0
    · have HB : Hid (yD ⟨a, b, c, p, q⟩ part = false) := by show _ = _; unfold yD; rw [decide_eq_false (by omega)]; simp
      go_wp2_with (refine wpList_store_row rfl 44 _ _ rfl (w.heap.size + 1) #[.int .i64 0, .int .i64 0, .int .i64 0, .string ⟨#[]⟩, .string ⟨#[]⟩] rfl rfl _ _ hgR2.out (by kernel_rfl) rfl (q8 _ _ _ _ _) ?_)
      exact v8 (u := Ver.zero) rfl rfl hgR2.out hbw2 HB.out (by unfold yW; rw [HB.out]; rfl)
    · by_cases p3 : 3 ≤ part
      · have HB : Hid (yD ⟨a, b, c, p, q⟩ part = false) := by show _ = _; unfold yD; rw [decide_eq_false (by omega)]; simp
        go_wp2_with (refine wpList_store_row rfl 44 _ _ rfl (w.heap.size + 1) #[.int .i64 0, .int .i64 0, .int .i64 0, .string ⟨#[]⟩, .string ⟨#[]⟩] rfl rfl _ _ hgR2.out (by kernel_rfl) rfl (q8 _ _ _ _ _) ?_)
        exact v8 (u := Ver.zero) rfl rfl hgR2.out hbw2 HB.out (by unfold yW; rw [HB.out]; rfl)
      · obtain ⟨n0, m0⟩ := xC (j := 0) hgN.out (by simp)
        obtain ⟨n1, m1⟩ := xC (j := 1) hgN.out (by simp)
        obtain ⟨n2, m2⟩ := xC (j := 2) hgN.out (by simp)
        simp only [List.getElem_toArray, List.getElem_cons_succ, List.getElem_cons_zero] at n0 n1 n2
        have hpart : part = 0 ∨ part = 1 ∨ part = 2 := by omega
        clear p0 p3
        rcases hpart with rfl | rfl | rfl
        · by_cases h9 : a = 9999
          · have h9b : (a == 9999) = true := by simpa using h9
            have HB : Hid (yD ⟨a, b, c, p, q⟩ 0 = false) := by show _ = _; unfold yD; rw [show xR a b c (0 : Int).toNat = a from rfl, h9b]; simp
            clear h9
            go_wp2_with (refine wpList_store_row rfl 44 _ _ rfl (w.heap.size + 1) #[.int .i64 0, .int .i64 0, .int .i64 0, .string ⟨#[]⟩, .string ⟨#[]⟩] rfl rfl _ _ hgR2.out (by kernel_rfl) rfl (q8 _ _ _ _ _) ?_)
            exact v8 (u := Ver.zero) rfl rfl hgR2.out hbw2 HB.out (by unfold yW; rw [HB.out]; rfl)
          · have h9b : (a == 9999) = false := by simpa using h9
            have HB : Hid (yD ⟨a, b, c, p, q⟩ 0 = true) := by show _ = _; unfold yD; rw [HM.out, show xR a b c (0 : Int).toNat = a from rfl, h9b]; rfl
            have hW : (w2.setCell ⟨w1.heap.size, 0, none⟩ (.int .i64 (a + 1))) = w2.setRow w1.heap.size #[.int .i64 (a + 1), .int .i64 (b), .int .i64 (c)] := bT _ hgN.out
            have hcl : (Builtin.clear_ #[40] 0 #[.slice (some ⟨w1.heap.size, 1, none⟩) 2 2]).run Tryz.prog (w2.setRow w1.heap.size #[.int .i64 (a + 1), .int .i64 (b), .int .i64 (c)]) = .ok (.tuple #[]) (w2.setRow w1.heap.size #[.int .i64 (a + 1), .int .i64 (0), .int .i64 (0)]) := clear_two hgN.out rfl
            have hN2 := Lib.hid (setRow_heap w2 w1.heap.size _ #[.int .i64 (a + 1), .int .i64 (0), .int .i64 (0)] _ _ hgN.out)
            have hR2 := Lib.hid ((qZ w2 w1.heap.size (w.heap.size + 1) #[.int .i64 (a + 1), .int .i64 (0), .int .i64 (0)] (by omega)).trans hgR2.out)
            have hbR : Below w.heap.size w (w2.setRow w1.heap.size #[.int .i64 (a + 1), .int .i64 (0), .int .i64 (0)]) := gN hbw2 (by omega) _
            have hsR : (w2.setRow w1.heap.size #[.int .i64 (a + 1), .int .i64 (0), .int .i64 (0)]).heap.size = w2.heap.size := by unfold World.setRow; simp
            have HSR := Lib.hid hsR
            clear hsR h9
            go_wp2_with (first
              | (refine wpList_load_row rfl 88 _ rfl w1.heap.size rfl _ _ _ _ hN2.out Tryz.underlying88 rfl (by kernel_rfl) ?_)
              | (go_at_call 206; refine (wY _ _ _ _).mono ?_; unfold yF Ver.rel; rintro e w3 ⟨rfl, hb3⟩; have hR3 := Lib.hid ((hb3.block (w.heap.size + 1) (by rw [HSR.out]; omega)).trans hR2.out); have hbw3 := hbR.trans (hb3.mono hbR.size))
              | (refine wpList_store_row rfl 44 _ _ rfl (w.heap.size + 1) #[.int .i64 (a + 1), .int .i64 (0), .int .i64 (0), .string (mkS []), .string (mkS [])] rfl rfl _ _ hR3.out (by kernel_rfl) rfl (q8 _ _ _ _ _) ?_))
            exact v8 (u := Ver.rel (a + 1) (0) (0)) rfl rfl hR3.out hbw3 HB.out (by unfold yW; rw [HB.out]; rfl)
        · by_cases h9 : b = 9999
          · have h9b : (b == 9999) = true := by simpa using h9
            have HB : Hid (yD ⟨a, b, c, p, q⟩ 1 = false) := by show _ = _; unfold yD; rw [show xR a b c (1 : Int).toNat = b from rfl, h9b]; simp
            clear h9
            go_wp2_with (refine wpList_store_row rfl 44 _ _ rfl (w.heap.size + 1) #[.int .i64 0, .int .i64 0, .int .i64 0, .string ⟨#[]⟩, .string ⟨#[]⟩] rfl rfl _ _ hgR2.out (by kernel_rfl) rfl (q8 _ _ _ _ _) ?_)
            exact v8 (u := Ver.zero) rfl rfl hgR2.out hbw2 HB.out (by unfold yW; rw [HB.out]; rfl)
          · have h9b : (b == 9999) = false := by simpa using h9
            have HB : Hid (yD ⟨a, b, c, p, q⟩ 1 = true) := by show _ = _; unfold yD; rw [HM.out, show xR a b c (1 : Int).toNat = b from rfl, h9b]; rfl
            have hW : (w2.setCell ⟨w1.heap.size, 1, none⟩ (.int .i64 (b + 1))) = w2.setRow w1.heap.size #[.int .i64 (a), .int .i64 (b + 1), .int .i64 (c)] := bT _ hgN.out
            have hcl : (Builtin.clear_ #[40] 0 #[.slice (some ⟨w1.heap.size, 2, none⟩) 1 1]).run Tryz.prog (w2.setRow w1.heap.size #[.int .i64 (a), .int .i64 (b + 1), .int .i64 (c)]) = .ok (.tuple #[]) (w2.setRow w1.heap.size #[.int .i64 (a), .int .i64 (b + 1), .int .i64 (0)]) := clear_one hgN.out rfl
            have hN2 := Lib.hid (setRow_heap w2 w1.heap.size _ #[.int .i64 (a), .int .i64 (b + 1), .int .i64 (0)] _ _ hgN.out)
            have hR2 := Lib.hid ((qZ w2 w1.heap.size (w.heap.size + 1) #[.int .i64 (a), .int .i64 (b + 1), .int .i64 (0)] (by omega)).trans hgR2.out)
            have hbR : Below w.heap.size w (w2.setRow w1.heap.size #[.int .i64 (a), .int .i64 (b + 1), .int .i64 (0)]) := gN hbw2 (by omega) _
            have hsR : (w2.setRow w1.heap.size #[.int .i64 (a), .int .i64 (b + 1), .int .i64 (0)]).heap.size = w2.heap.size := by unfold World.setRow; simp
            have HSR := Lib.hid hsR
            clear hsR h9
            go_wp2_with (first
              | (refine wpList_load_row rfl 88 _ rfl w1.heap.size rfl _ _ _ _ hN2.out Tryz.underlying88 rfl (by kernel_rfl) ?_)
              | (go_at_call 206; refine (wY _ _ _ _).mono ?_; unfold yF Ver.rel; rintro e w3 ⟨rfl, hb3⟩; have hR3 := Lib.hid ((hb3.block (w.heap.size + 1) (by rw [HSR.out]; omega)).trans hR2.out); have hbw3 := hbR.trans (hb3.mono hbR.size))
              | (refine wpList_store_row rfl 44 _ _ rfl (w.heap.size + 1) #[.int .i64 (a), .int .i64 (b + 1), .int .i64 (0), .string (mkS []), .string (mkS [])] rfl rfl _ _ hR3.out (by kernel_rfl) rfl (q8 _ _ _ _ _) ?_))
            exact v8 (u := Ver.rel (a) (b + 1) (0)) rfl rfl hR3.out hbw3 HB.out (by unfold yW; rw [HB.out]; rfl)
        · by_cases h9 : c = 9999
          · have h9b : (c == 9999) = true := by simpa using h9
            have HB : Hid (yD ⟨a, b, c, p, q⟩ 2 = false) := by show _ = _; unfold yD; rw [show xR a b c (2 : Int).toNat = c from rfl, h9b]; simp
            clear h9
            go_wp2_with (refine wpList_store_row rfl 44 _ _ rfl (w.heap.size + 1) #[.int .i64 0, .int .i64 0, .int .i64 0, .string ⟨#[]⟩, .string ⟨#[]⟩] rfl rfl _ _ hgR2.out (by kernel_rfl) rfl (q8 _ _ _ _ _) ?_)
            exact v8 (u := Ver.zero) rfl rfl hgR2.out hbw2 HB.out (by unfold yW; rw [HB.out]; rfl)
          · have h9b : (c == 9999) = false := by simpa using h9
            have HB : Hid (yD ⟨a, b, c, p, q⟩ 2 = true) := by show _ = _; unfold yD; rw [HM.out, show xR a b c (2 : Int).toNat = c from rfl, h9b]; rfl
            have hW : (w2.setCell ⟨w1.heap.size, 2, none⟩ (.int .i64 (c + 1))) = w2.setRow w1.heap.size #[.int .i64 (a), .int .i64 (b), .int .i64 (c + 1)] := bT _ hgN.out
            have hcl : (Builtin.clear_ #[40] 0 #[.slice (some ⟨w1.heap.size, 0, none⟩) 0 0]).run Tryz.prog (w2.setRow w1.heap.size #[.int .i64 (a), .int .i64 (b), .int .i64 (c + 1)]) = .ok (.tuple #[]) (w2.setRow w1.heap.size #[.int .i64 (a), .int .i64 (b), .int .i64 (c + 1)]) := clear_none _ _
            have hN2 := Lib.hid (setRow_heap w2 w1.heap.size _ #[.int .i64 (a), .int .i64 (b), .int .i64 (c + 1)] _ _ hgN.out)
            have hR2 := Lib.hid ((qZ w2 w1.heap.size (w.heap.size + 1) #[.int .i64 (a), .int .i64 (b), .int .i64 (c + 1)] (by omega)).trans hgR2.out)
            have hbR : Below w.heap.size w (w2.setRow w1.heap.size #[.int .i64 (a), .int .i64 (b), .int .i64 (c + 1)]) := gN hbw2 (by omega) _
            have hsR : (w2.setRow w1.heap.size #[.int .i64 (a), .int .i64 (b), .int .i64 (c + 1)]).heap.size = w2.heap.size := by unfold World.setRow; simp
            have HSR := Lib.hid hsR
            clear hsR h9
            go_wp2_with (first
              | (refine wpList_load_row rfl 88 _ rfl w1.heap.size rfl _ _ _ _ hN2.out Tryz.underlying88 rfl (by kernel_rfl) ?_)
              | (go_at_call 206; refine (wY _ _ _ _).mono ?_; unfold yF Ver.rel; rintro e w3 ⟨rfl, hb3⟩; have hR3 := Lib.hid ((hb3.block (w.heap.size + 1) (by rw [HSR.out]; omega)).trans hR2.out); have hbw3 := hbR.trans (hb3.mono hbR.size))
              | (refine wpList_store_row rfl 44 _ _ rfl (w.heap.size + 1) #[.int .i64 (a), .int .i64 (b), .int .i64 (c + 1), .string (mkS []), .string (mkS [])] rfl rfl _ _ hR3.out (by kernel_rfl) rfl (q8 _ _ _ _ _) ?_))
            exact v8 (u := Ver.rel (a) (b) (c + 1)) rfl rfl hR3.out hbw3 HB.out (by unfold yW; rw [HB.out]; rfl)
theorem bump_any (v : Ver) (part : Int) (w : World) (hp : v.pre.length ≤ 1000000) (hq : v.build.length ≤ 1000000) :
    Calls Tryz.prog 203 #[yF v, .int .i64 part] w fun e w' => e = .returned (.tuple #[yF (yW v part), .bool (yD v part)]) ∧ Below w.heap.size w w' := bump_go v part w hp hq
def kZ (v : Ver) : Bool := v.may && (!v.pre.isEmpty || yD v 2 || yD v 1 || yD v 0)
def yX (v : Ver) : Ver :=
  if v.may then (if v.pre.isEmpty then (if yD v 2 then yW v 2 else if yD v 1 then yW v 1 else if yD v 0 then yW v 0 else Ver.zero) else Ver.rel v.maj v.min v.pat) else Ver.zero
def NEnd (v : Ver) (w : World) (e : Ending) (w' : World) : Prop := e = .returned (.tuple #[yF (yX v), .bool (kZ v)]) ∧ Below w.heap.size w w'
theorem d6 {v u : Ver} {b : Bool} {w wr : World} {tmps : Array Value} {old : Array Value} (h2 : tmps.getD 2 undef = .pointer (some ⟨w.heap.size + 1, 0, none⟩)) (h3 : tmps.getD 3 undef = .bool b)
    (hg : wr.heap[w.heap.size + 1]? = some (.cells old 44)) (hbel : Below w.heap.size w wr) (hb : kZ v = b) (hv : yX v = u) :
    bodyPost Tryz.prog Tryz.f181 (NEnd v w) .ret ⟨tmps, []⟩ (wr.setRow (w.heap.size + 1) #[.int .i64 u.maj, .int .i64 u.min, .int .i64 u.pat, .string (mkS u.pre), .string (mkS u.build)]) := by
  have hrow := setRow_heap wr (w.heap.size + 1) _ #[.int .i64 u.maj, .int .i64 u.min, .int .i64 u.pat, .string (mkS u.pre), .string (mkS u.build)] _ _ hg
  have hr := run_loadVar_row (P := Tryz.prog) _ (w.heap.size + 1) 44 44 _ _ _ hrow Tryz.underlying44 rfl (by kernel_rfl)
  have h2' : tmps[2]?.getD undef = .pointer (some ⟨w.heap.size + 1, 0, none⟩) := by simpa using h2
  have h3' : tmps[3]?.getD undef = .bool b := by simpa using h3
  refine bodyPost_ret (v := .tuple #[yF u, .bool b]) (by simp [results, Tryz.results181, asAddr, h2', h3', hr, yF]) rfl ⟨by rw [hv, hb], gN hbel (by omega) _⟩
def jF (v : Ver) : Nat → Ver × Bool
  | 0 => (Ver.zero, false)
  | k + 1 => if yD v k then (yW v k, true) else jF v k
theorem mO (v : Ver) (h : (!v.pre.isEmpty && v.may) = false) : yX v = (jF v 3).1 ∧ kZ v = (jF v 3).2 := by
  unfold yX kZ
  show _ = (if yD v 2 then (yW v 2, true) else if yD v 1 then (yW v 1, true) else if yD v 0 then (yW v 0, true) else (Ver.zero, false)).1 ∧ _ = (if yD v 2 then (yW v 2, true) else if yD v 1 then (yW v 1, true) else if yD v 0 then (yW v 0, true) else (Ver.zero, false)).2
  cases hm : v.may with
  | true =>
    rw [hm, Bool.and_true] at h
    rw [h]
    have hp : v.pre.isEmpty = true := by simpa using h
    rw [hp]
    cases yD v 2 <;> cases yD v 1 <;> cases yD v 0 <;> simp
  | false =>
    have hk : ∀ k, yD v k = false := fun k => by unfold yD; rw [hm]; rfl
    rw [hk, hk, hk]; simp
theorem next_go (v : Ver) (w : World) (hp : v.pre.length ≤ 1000000) (hq : v.build.length ≤ 1000000) :
    Calls Tryz.prog 181 #[yF v] w (NEnd v w) := by
  have cM := fun w' => jA v w' (by omega) (by omega)
  have cN := fun w' => fT v w'
  have ep := empty_mk2 v.pre
  obtain ⟨a, b, c, p, q⟩ := v
  unfold yF at cM cN ⊢
  dsimp only at cM cN ep hp hq ⊢
  cases he : p.isEmpty with
  | true =>
    have HG : Hid ((!p.isEmpty && (Ver.mk a b c p q).may) = false) := by show _ = _; rw [he]; rfl
    rw [he] at ep
    clear he cM cN
    go_enter Tryz.func181, Tryz.ntmps181
    go_wp2
    go_loopw [4] (fun x wr => ∃ k : Nat, k ≤ 3 ∧ x = .int .i64 ((k : Int) - 1) ∧ wr.heap[w.heap.size]? = some (.cells #[.int .i64 a, .int .i64 b, .int .i64 c, .string (mkS p), .string (mkS q)] 44) ∧ wr.heap[w.heap.size + 1]? = some (.cells #[.int .i64 0, .int .i64 0, .int .i64 0, .string ⟨#[]⟩, .string ⟨#[]⟩] 44) ∧ Below w.heap.size w wr ∧ Hid (jF ⟨a, b, c, p, q⟩ k = jF ⟨a, b, c, p, q⟩ 3)) (fun x _ => ((intOf x) + 1).toNat)
    case atStart => exact ⟨3, by omega, rfl, (kB _ _ (by rw [y6]; omega)).trans (gL w _), bB _ _ _ (by rw [y6]), ((Below.refl _ _).alloc (Nat.le_refl _) _).alloc (by rw [y6]; omega) _, rfl⟩
    case round =>
      obtain ⟨k, hk, rfl, hB, hR, hbel, HR⟩ := hrel
      have hlR := (Array.getElem?_eq_some_iff.1 hR).1
      have HB := Lib.hid hB
      have HR0 := Lib.hid hR
      clear hB hR
      cases k with
      | zero =>
        have HF : Hid (jF ⟨a, b, c, p, q⟩ 3 = (Ver.zero, false)) := HR.out.symm
        go_wp2_with (refine wpList_store_row rfl 44 _ _ rfl (w.heap.size + 1) #[.int .i64 0, .int .i64 0, .int .i64 0, .string ⟨#[]⟩, .string ⟨#[]⟩] rfl rfl _ _ HR0.out (by kernel_rfl) rfl (q8 _ _ _ _ _) ?_)
        have hf := mO ⟨a, b, c, p, q⟩ HG.out
        rw [HF.out] at hf
        exact d6 (u := Ver.zero) rfl rfl HR0.out hbel hf.2 hf.1
      | succ k =>
        have hk0 : (0 : Int) ≤ k := by omega
        have hke : (((k + 1 : Nat) : Int) - 1) = (k : Int) := by omega
        rw [hke]
        have cB := fun w' => bump_any ⟨a, b, c, p, q⟩ (k : Int) w' hp hq
        unfold yF at cB
        dsimp only at cB
        cases hb : yD ⟨a, b, c, p, q⟩ (k : Int) with
        | true =>
          rw [hb] at cB
          obtain ⟨u, hu⟩ : ∃ u, yW ⟨a, b, c, p, q⟩ (k : Int) = u := ⟨_, rfl⟩
          rw [hu] at cB
          have hfq : jF ⟨a, b, c, p, q⟩ 3 = (u, true) := by rw [← HR.out, jF, hb, hu]; rfl
          have HF := Lib.hid hfq
          clear hfq hb hu hke
          go_wp2_with (first
            | (refine wpList_load_row rfl 44 _ rfl w.heap.size rfl _ _ _ _ HB.out Tryz.underlying44 rfl (by kernel_rfl) ?_)
            | (go_at_call 203; refine (cB _).mono ?_; rintro e w3 ⟨rfl, hb3⟩; have hR3 := Lib.hid ((hb3.block (w.heap.size + 1) hlR).trans HR0.out); have hbw3 := hbel.trans (hb3.mono hbel.size); have hl3 := Nat.lt_of_lt_of_le hlR hb3.size)
            | (refine wpList_store_row rfl 44 _ _ rfl (w.heap.size + 1) #[.int .i64 u.maj, .int .i64 u.min, .int .i64 u.pat, .string (mkS u.pre), .string (mkS u.build)] rfl rfl _ _ ((kB _ _ hl3).trans hR3.out) (by kernel_rfl) rfl (q8 _ _ _ _ _) ?_))
          have hf := mO ⟨a, b, c, p, q⟩ HG.out
          rw [HF.out] at hf
          exact d6 (u := u) rfl rfl ((kB _ _ hl3).trans hR3.out) (hbw3.alloc (by omega) _) hf.2 hf.1
        | false =>
          rw [hb] at cB
          obtain ⟨u, hu⟩ : ∃ u, yW ⟨a, b, c, p, q⟩ (k : Int) = u := ⟨_, rfl⟩
          rw [hu] at cB
          have hfq : jF ⟨a, b, c, p, q⟩ k = jF ⟨a, b, c, p, q⟩ 3 := by rw [← HR.out, jF, hb]; rfl
          have HF := Lib.hid hfq
          clear hfq hb hu hke
          go_wp2_with (first
            | (refine wpList_load_row rfl 44 _ rfl w.heap.size rfl _ _ _ _ HB.out Tryz.underlying44 rfl (by kernel_rfl) ?_)
            | (go_at_call 203; refine (cB _).mono ?_; rintro e w3 ⟨rfl, hb3⟩; have hl3 := Nat.lt_of_lt_of_le hlR hb3.size))
          have hR3 := (hb3.block (w.heap.size + 1) hlR).trans HR0.out
          have hB3 := (hb3.block w.heap.size (by omega)).trans HB.out
          have hbw3 := hbel.trans (hb3.mono hbel.size)
          go_roundw
          case rel => exact ⟨k, by omega, rfl, (kB _ _ (by omega)).trans hB3, (kB _ _ hl3).trans hR3, hbw3.alloc (by omega) _, HF.out⟩
          case measure => simp [intOf]; try omega
  | false =>
    rw [he] at ep
    obtain ⟨m, hm⟩ : ∃ m, (Ver.mk a b c p q).may = m := ⟨_, rfl⟩
    rw [hm] at cM
    cases m with
    | false =>
      have HG : Hid ((!p.isEmpty && (Ver.mk a b c p q).may) = false) := by show _ = _; rw [hm, Bool.and_false]
      clear he hm cN
      go_enter Tryz.func181, Tryz.ntmps181
      go_wp2_with fail
      refine (cM _).mono ?_
      rintro e w1 ⟨rfl, hb1⟩
      have hgB := (hb1.block w.heap.size (by simp only [y6]; omega)).trans ((kB _ _ (by simp only [y6]; omega)).trans (gL w _))
      have hgR := (hb1.block (w.heap.size + 1) (by simp only [y6]; omega)).trans (bB _ _ _ (by simp only [y6]))
      have hbw : Below w.heap.size w w1 := (((Below.refl _ _).alloc (Nat.le_refl _) _).alloc (by simp only [y6]; omega) _).trans (hb1.mono (by simp only [y6]; omega))
      have HGB := Lib.hid hgB
      have HGR := Lib.hid hgR
      clear hgB hgR
      go_wp2
      go_loopw [4] (fun x wr => ∃ k : Nat, k ≤ 3 ∧ x = .int .i64 ((k : Int) - 1) ∧ wr.heap[w.heap.size]? = some (.cells #[.int .i64 a, .int .i64 b, .int .i64 c, .string (mkS p), .string (mkS q)] 44) ∧ wr.heap[w.heap.size + 1]? = some (.cells #[.int .i64 0, .int .i64 0, .int .i64 0, .string ⟨#[]⟩, .string ⟨#[]⟩] 44) ∧ Below w.heap.size w wr ∧ Hid (jF ⟨a, b, c, p, q⟩ k = jF ⟨a, b, c, p, q⟩ 3)) (fun x _ => ((intOf x) + 1).toNat)
      case atStart => exact ⟨3, by omega, rfl, HGB.out, HGR.out, hbw, rfl⟩
      case round =>
        obtain ⟨k, hk, rfl, hB, hR, hbel, HR⟩ := hrel
        have hlR := (Array.getElem?_eq_some_iff.1 hR).1
        have HB := Lib.hid hB
        have HR0 := Lib.hid hR
        clear hB hR
        cases k with
        | zero =>
          have HF : Hid (jF ⟨a, b, c, p, q⟩ 3 = (Ver.zero, false)) := HR.out.symm
          go_wp2_with (refine wpList_store_row rfl 44 _ _ rfl (w.heap.size + 1) #[.int .i64 0, .int .i64 0, .int .i64 0, .string ⟨#[]⟩, .string ⟨#[]⟩] rfl rfl _ _ HR0.out (by kernel_rfl) rfl (q8 _ _ _ _ _) ?_)
          have hf := mO ⟨a, b, c, p, q⟩ HG.out
          rw [HF.out] at hf
          exact d6 (u := Ver.zero) rfl rfl HR0.out hbel hf.2 hf.1
        | succ k =>
          have hk0 : (0 : Int) ≤ k := by omega
          have hke : (((k + 1 : Nat) : Int) - 1) = (k : Int) := by omega
          rw [hke]
          have cB := fun w' => bump_any ⟨a, b, c, p, q⟩ (k : Int) w' hp hq
          unfold yF at cB
          dsimp only at cB
          cases hb : yD ⟨a, b, c, p, q⟩ (k : Int) with
          | true =>
            rw [hb] at cB
            obtain ⟨u, hu⟩ : ∃ u, yW ⟨a, b, c, p, q⟩ (k : Int) = u := ⟨_, rfl⟩
            rw [hu] at cB
            have hfq : jF ⟨a, b, c, p, q⟩ 3 = (u, true) := by rw [← HR.out, jF, hb, hu]; rfl
            have HF := Lib.hid hfq
            clear hfq hb hu hke
            go_wp2_with (first
              | (refine wpList_load_row rfl 44 _ rfl w.heap.size rfl _ _ _ _ HB.out Tryz.underlying44 rfl (by kernel_rfl) ?_)
              | (go_at_call 203; refine (cB _).mono ?_; rintro e w3 ⟨rfl, hb3⟩; have hR3 := Lib.hid ((hb3.block (w.heap.size + 1) hlR).trans HR0.out); have hbw3 := hbel.trans (hb3.mono hbel.size); have hl3 := Nat.lt_of_lt_of_le hlR hb3.size)
              | (refine wpList_store_row rfl 44 _ _ rfl (w.heap.size + 1) #[.int .i64 u.maj, .int .i64 u.min, .int .i64 u.pat, .string (mkS u.pre), .string (mkS u.build)] rfl rfl _ _ ((kB _ _ hl3).trans hR3.out) (by kernel_rfl) rfl (q8 _ _ _ _ _) ?_))
            have hf := mO ⟨a, b, c, p, q⟩ HG.out
            rw [HF.out] at hf
            exact d6 (u := u) rfl rfl ((kB _ _ hl3).trans hR3.out) (hbw3.alloc (by omega) _) hf.2 hf.1
          | false =>
            rw [hb] at cB
            obtain ⟨u, hu⟩ : ∃ u, yW ⟨a, b, c, p, q⟩ (k : Int) = u := ⟨_, rfl⟩
            rw [hu] at cB
            have hfq : jF ⟨a, b, c, p, q⟩ k = jF ⟨a, b, c, p, q⟩ 3 := by rw [← HR.out, jF, hb]; rfl
            have HF := Lib.hid hfq
            clear hfq hb hu hke
            go_wp2_with (first
              | (refine wpList_load_row rfl 44 _ rfl w.heap.size rfl _ _ _ _ HB.out Tryz.underlying44 rfl (by kernel_rfl) ?_)
              | (go_at_call 203; refine (cB _).mono ?_; rintro e w3 ⟨rfl, hb3⟩; have hl3 := Nat.lt_of_lt_of_le hlR hb3.size))
            have hR3 := (hb3.block (w.heap.size + 1) hlR).trans HR0.out
            have hB3 := (hb3.block w.heap.size (by omega)).trans HB.out
            have hbw3 := hbel.trans (hb3.mono hbel.size)
            go_roundw
            case rel => exact ⟨k, by omega, rfl, (kB _ _ (by omega)).trans hB3, (kB _ _ hl3).trans hR3, hbw3.alloc (by omega) _, HF.out⟩
            case measure => simp [intOf]; try omega
    | true =>
      have HV : Hid (yX ⟨a, b, c, p, q⟩ = Ver.rel a b c) := by show _ = _; unfold yX; rw [if_pos hm, if_neg (by simp [he])]
      have HO : Hid (kZ ⟨a, b, c, p, q⟩ = true) := by show _ = _; unfold kZ; rw [hm]; simp [he]
      clear he hm
      go_enter Tryz.func181, Tryz.ntmps181
      go_wp2_with fail
      refine (cM _).mono ?_
      rintro e w1 ⟨rfl, hb1⟩
      have hz1 := hb1.size
      simp only [y6] at hz1
      have hgB := (hb1.block w.heap.size (by simp only [y6]; omega)).trans ((kB _ _ (by simp only [y6]; omega)).trans (gL w _))
      have hgR := (hb1.block (w.heap.size + 1) (by simp only [y6]; omega)).trans (bB _ _ _ (by simp only [y6]))
      have hbw : Below w.heap.size w w1 := (((Below.refl _ _).alloc (Nat.le_refl _) _).alloc (by simp only [y6]; omega) _).trans (hb1.mono (by simp only [y6]; omega))
      have HGB := Lib.hid hgB
      have HGR := Lib.hid hgR
      clear hgB hgR hb1 cM
      go_wp2_with (first
        | (refine wpList_load_row rfl 44 _ rfl w.heap.size rfl _ _ _ _ HGB.out Tryz.underlying44 rfl (by kernel_rfl) ?_)
        | (go_at_call 165; refine (cN _).mono ?_; rintro e w2 ⟨rfl, hb2⟩; have hR2 := Lib.hid ((hb2.block (w.heap.size + 1) (by omega)).trans HGR.out); have hbw2 := hbw.trans (hb2.mono hbw.size); have hl2 := hb2.size)
        | (go_at_call 206; refine (wY _ _ _ _).mono ?_; unfold yF Ver.rel; rintro e w3 ⟨rfl, hb3⟩; have hR3 := Lib.hid ((hb3.block (w.heap.size + 1) (by omega)).trans hR2.out); have hbw3 := hbw2.trans (hb3.mono hbw2.size))
        | (refine wpList_store_row rfl 44 _ _ rfl (w.heap.size + 1) #[.int .i64 a, .int .i64 b, .int .i64 c, .string (mkS []), .string (mkS [])] rfl rfl _ _ hR3.out (by kernel_rfl) rfl (q8 _ _ _ _ _) ?_))
      exact d6 (u := Ver.rel a b c) rfl rfl hR3.out hbw3 HO.out HV.out
theorem vnext_any (v : Ver) (w : World) (hp : v.pre.length ≤ 1000000) (hq : v.build.length ≤ 1000000) :
    Calls Tryz.prog 181 #[yF v] w fun e w' => e = .returned (.tuple #[yF (yX v), .bool (kZ v)]) ∧ Below w.heap.size w w' := next_go v w hp hq
end
section
theorem bump2 {v : Ver} (h : v.may = true) : yD v 2 = true ↔ v.pat ≠ 9999 := by
  unfold yD; rw [h, show xR v.maj v.min v.pat (2 : Int).toNat = v.pat from rfl]; simp
theorem bump1 {v : Ver} (h : v.may = true) : yD v 1 = true ↔ v.min ≠ 9999 := by
  unfold yD; rw [h, show xR v.maj v.min v.pat (1 : Int).toNat = v.min from rfl]; simp
theorem bump0 {v : Ver} (h : v.may = true) : yD v 0 = true ↔ v.maj ≠ 9999 := by
  unfold yD; rw [h, show xR v.maj v.min v.pat (0 : Int).toNat = v.maj from rfl]; simp
theorem rel_in {a b c : Int} (ha : 0 ≤ a ∧ a ≤ 9999) (hb : 0 ≤ b ∧ b ≤ 9999) (hc : 0 ≤ c ∧ c ≤ 9999) : (Ver.rel a b c).may = true := by
  rw [rel_may4, num_in ha, num_in hb, num_in hc]; rfl
theorem next_is {v : Ver} (h : v.may = true) : (kZ v = false ∧ v.pre = [] ∧ v.code = 999999999999) ∨
    (kZ v = true ∧ ∃ a b c, yX v = Ver.rel a b c ∧ (Ver.rel a b c).may = true ∧ ((v.pre = [] ∧ (Ver.rel a b c).code = v.code + 1) ∨ (v.pre ≠ [] ∧ (Ver.rel a b c).code = v.code))) := by
  obtain ⟨h1, h2, h3⟩ := jV h
  unfold kZ yX
  rw [h]
  by_cases hp : v.pre = []
  · have e : v.pre.isEmpty = true := by rw [hp]; rfl
    rw [e]
    by_cases k2 : v.pat = 9999
    · have b2 : yD v 2 = false := Bool.eq_false_iff.2 (fun e => (bump2 h).1 e k2)
      rw [b2]
      by_cases k1 : v.min = 9999
      · have b1 : yD v 1 = false := Bool.eq_false_iff.2 (fun e => (bump1 h).1 e k1)
        rw [b1]
        by_cases k0 : v.maj = 9999
        · have b0 : yD v 0 = false := Bool.eq_false_iff.2 (fun e => (bump0 h).1 e k0)
          rw [b0]
          exact .inl ⟨rfl, hp, by unfold Ver.code; omega⟩
        · have b0 := (bump0 h).2 k0
          have bv : yW v 0 = Ver.rel (v.maj + 1) 0 0 := by unfold yW; rw [b0]; rfl
          rw [b0, bv]
          exact .inr ⟨rfl, v.maj + 1, 0, 0, rfl, rel_in (by omega) (by omega) (by omega), .inl ⟨hp, by unfold Ver.code Ver.rel; dsimp only; omega⟩⟩
      · have b1 := (bump1 h).2 k1
        have bv : yW v 1 = Ver.rel v.maj (v.min + 1) 0 := by unfold yW; rw [b1]; rfl
        rw [b1, bv]
        exact .inr ⟨rfl, v.maj, v.min + 1, 0, rfl, rel_in (by omega) (by omega) (by omega), .inl ⟨hp, by unfold Ver.code Ver.rel; dsimp only; omega⟩⟩
    · have b2 := (bump2 h).2 k2
      have bv : yW v 2 = Ver.rel v.maj v.min (v.pat + 1) := by unfold yW; rw [b2]; rfl
      rw [b2, bv]
      exact .inr ⟨rfl, v.maj, v.min, v.pat + 1, rfl, rel_in (by omega) (by omega) (by omega), .inl ⟨hp, by unfold Ver.code Ver.rel; dsimp only; omega⟩⟩
  · have e : v.pre.isEmpty = false := List.isEmpty_eq_false_iff.2 hp
    rw [e]
    exact .inr ⟨rfl, v.maj, v.min, v.pat, rfl, rel_in h1 h2 h3, .inr ⟨hp, rfl⟩⟩
theorem fZ {v : Ver} (h : v.may = true) : 0 ≤ v.code ∧ v.code ≤ 999999999999 := by
  obtain ⟨h1, h2, h3⟩ := jV h
  unfold Ver.code; omega
end
section
def qN (v : Ver) : Bool := decide (v.maj = 0) && decide (v.min = 0) && decide (v.pat = 0)
theorem pD {v : Ver} (h : v.may = true) : qN v = decide (v.code = 0) := by
  obtain ⟨h1, h2, h3⟩ := jV h
  unfold qN Ver.code
  rw [← Bool.decide_and, ← Bool.decide_and]
  exact decide_eq_decide.2 ⟨fun ⟨⟨a, b⟩, c⟩ => by omega, fun e => ⟨⟨by omega, by omega⟩, by omega⟩⟩
def x1 (c : Cu) : Bool := decide (¬ c.e = 0) || (!c.aft && decide (c.v.pre = []) && !qN c.v)
def AllRight (l : List Sp) : Prop := ∀ s ∈ l, x1 s.lo = true ∧ x1 s.hi = true
def valC (c : Cu) : Int := if c.e = -1 then 0 else if c.e = 1 then 1000000000000 else c.v.code
def muI (v : Ver) : Int := if v.pre = [] then v.code else v.code - 1
def mu (x : Cu) : Int := if x.e = 0 then (if muI x.v < 0 then 0 else muI x.v) else 0
theorem mu_range {x : Cu} (hx : x.may = true) : 0 ≤ mu x ∧ mu x ≤ 999999999999 := by
  have h := fZ (vF hx)
  unfold mu muI
  split
  · split
    · omega
    · split at * <;> omega
  · omega
theorem ci_le {a b : Int} : Lib.compareInt a b ≤ 0 ↔ a ≤ b := by
  unfold Lib.compareInt
  split
  · omega
  · split <;> omega
theorem right_le {c x : Cu} (hc : c.may = true) (hr : x1 c = true) (hx : x.may = true) (he : zP x (yJ 1) < 0) : zP c x ≤ 0 ↔ valC c ≤ mu x := by
  have hmx := mu_range hx
  have hxe : x.e = 0 ∨ x.e = -1 := by
    rcases tH hx with ⟨h, _⟩ | ⟨h, h2, h3⟩
    · exact .inl h
    · rcases h with h | h
      · exact .inr h
      · exfalso
        have : x = yJ 1 := by
          obtain ⟨e, v, a⟩ := x
          simp only at h h2 h3
          subst h h2 h3; rfl
        rw [this, kR] at he; omega
  rw [qK hc hx]
  rcases tH hc with ⟨h0, hb⟩ | ⟨h1, hv, ha⟩
  · have hr2 := hr
    unfold x1 at hr2
    rw [decide_eq_false (by simpa using h0), Bool.false_or] at hr2
    simp only [Bool.and_eq_true, Bool.not_eq_true', decide_eq_true_eq] at hr2
    obtain ⟨⟨ha, hp⟩, hl⟩ := hr2
    rw [pD (vF hc), decide_eq_false_iff_not] at hl
    have hcc := fZ (vF hc)
    have hval : valC c = c.v.code := by unfold valC; rw [if_neg (by omega), if_neg (by omega)]
    rw [hval]
    rcases hxe with hx0 | hx1
    · have hcx := fZ (vF hx)
      rw [h0, hx0, show Lib.compareInt 0 0 = 0 from rfl, lex_0, dG (vF hc) (vF hx), ha, hp]
      have hmu : mu x = if muI x.v < 0 then 0 else muI x.v := by unfold mu; rw [if_pos hx0]
      rw [hmu]
      unfold muI gU
      by_cases k1 : c.v.code < x.v.code
      · rw [if_pos k1, dV]
        constructor
        · intro _; split <;> split at * <;> omega
        · intro _; omega
      · rw [if_neg k1]
        by_cases k2 : x.v.code < c.v.code
        · rw [if_pos k2, mK]
          constructor
          · intro h; omega
          · intro h; exfalso; split at h <;> split at * <;> omega
        · rw [if_neg k2]
          by_cases k3 : x.v.pre = []
          · rw [k3, if_pos rfl, lex_0]
            have : Lib.compareInt (b01 false) (b01 x.aft) ≤ 0 := by rw [ci_le]; cases x.aft <;> decide
            constructor
            · intro _; rw [if_pos rfl, if_neg (by omega)]; omega
            · intro _; exact this
          · rw [if_neg (fun e => k3 e.symm), if_pos rfl, mK]
            constructor
            · intro h; omega
            · intro h; exfalso; rw [if_neg k3] at h; split at h <;> omega
    · rw [h0, hx1, show Lib.compareInt 0 (-1) = 1 from rfl, mK]
      have hmu : mu x = 0 := by unfold mu; rw [if_neg (by omega)]
      rw [hmu]
      constructor <;> intro h <;> omega
  · rcases h1 with h1 | h1
    · have hval : valC c = 0 := by unfold valC; rw [if_pos h1]
      rw [hval]
      refine ⟨fun _ => hmx.1, fun _ => ?_⟩
      rcases hxe with hx0 | hx1
      · rw [h1, hx0, show Lib.compareInt (-1) 0 = -1 from rfl, dV]; omega
      · rcases tH hx with ⟨h, _⟩ | ⟨_, hv2, ha2⟩
        · omega
        · rw [h1, hx1, hv, hv2, ha, ha2, show Lib.compareInt (-1) (-1) = 0 from rfl, lex_0, show xO Ver.zero Ver.zero = 0 from cmpR_core rfl, lex_0]; decide
    · have hval : valC c = 1000000000000 := by unfold valC; rw [if_neg (by omega), if_pos h1]
      rw [hval]
      refine ⟨fun h => ?_, fun h => by omega⟩
      exfalso
      rcases hxe with hx0 | hx1
      · rw [h1, hx0, show Lib.compareInt 1 0 = 1 from rfl, mK] at h; omega
      · rw [h1, hx1, show Lib.compareInt 1 (-1) = 1 from rfl, mK] at h; omega
def denN (l : List Sp) (n : Int) : Bool := l.any fun s => decide (valC s.lo ≤ n) && decide (n < valC s.hi)
theorem mu_pos {v : Ver} (hv : v.may = true) (hp : v.pre = []) : mu (bE v) = v.code := by
  have := fZ hv
  unfold mu muI bE kI
  dsimp only
  rw [if_pos rfl, if_pos hp]
  have e : ({ v with build := [] } : Ver).code = v.code := rfl
  rw [e, if_neg (by omega)]
theorem pL (p : Cu → Cu → Bool) (Q : Cu → Prop) : ∀ (cs : List Cu) (out : List Sp), (∀ c ∈ cs, Q c) → (∀ s ∈ out, Q s.lo ∧ Q s.hi) → ∀ s ∈ gB p out cs, Q s.lo ∧ Q s.hi
  | [], out, _, ho => by unfold gB; exact ho
  | [c], out, _, ho => by unfold gB; exact ho
  | c :: d :: r, out, hc, ho => by
    unfold gB
    refine pL p Q (d :: r) _ (fun x hx => hc x (List.mem_cons_of_mem _ hx)) ?_
    split
    · intro s hs
      unfold dA at hs
      split at hs
      · rename_i t ht
        split at hs
        · rcases List.mem_append.1 hs with h | h
          · exact ho s (List.dropLast_subset _ h)
          · obtain rfl : s = _ := by simpa using h
            exact ⟨(ho t (List.mem_of_getLast? ht)).1, hc d (by simp)⟩
        · rcases List.mem_append.1 hs with h | h
          · exact ho s h
          · obtain rfl : s = _ := by simpa using h
            exact ⟨hc c (by simp), hc d (by simp)⟩
      · obtain rfl : s = _ := by simpa using hs
        exact ⟨hc c (by simp), hc d (by simp)⟩
    · exact ho
theorem cutsL_all (Q : Cu → Prop) (h1 : Q (yJ (-1))) (h2 : Q (yJ 1)) (l : List Sp) (hl : ∀ s ∈ l, Q s.lo ∧ Q s.hi) : ∀ c ∈ qQ l, Q c := by
  have go : ∀ (l : List Sp) (out : List Cu), (∀ c ∈ out, Q c) → (∀ s ∈ l, Q s.lo ∧ Q s.hi) → ∀ c ∈ l.foldl (fun out s => gQ s.hi (gQ s.lo out)) out, Q c := by
    intro l
    induction l with
    | nil => intro out ho _; exact ho
    | cons s r ih =>
      intro out ho hl
      refine ih _ (fun c hc => ?_) (fun t ht => hl t (List.mem_cons_of_mem _ ht))
      rcases putL_mem _ _ _ hc with rfl | hc
      · exact (hl s (List.mem_cons_self ..)).2
      · rcases putL_mem _ _ _ hc with rfl | hc
        · exact (hl s (List.mem_cons_self ..)).1
        · exact ho c hc
  exact go l _ (fun c hc => by
    rcases List.mem_cons.1 hc with rfl | hc
    · exact h1
    · obtain rfl : c = _ := by simpa using hc
      exact h2) hl
theorem mP (k : Int) (h : ¬ k = 0) : x1 (yJ k) = true := by unfold x1 yJ; rw [decide_eq_true h]; rfl
theorem AllRight.make {l : List Sp} (h : AllRight l) : AllRight (u9 l) := pL _ (x1 · = true) _ [] (cutsL_all _ (mP _ (by decide)) (mP _ (by decide)) l h) (fun s hs => by simp at hs)
theorem AllRight.app {a b : List Sp} (ha : AllRight a) (hb : AllRight b) : AllRight (a ++ b) := fun s hs => (List.mem_append.1 hs).elim (ha s) (hb s)
theorem AllRight.or {a b : List Sp} (ha : AllRight a) (hb : AllRight b) : AllRight (orL a b) := (ha.app hb).make
end
section
def mV (v : Ver) : Ver := Ver.rel v.maj v.min v.pat
def relA (v : Ver) : Cu := if qN v then yJ (-1) else ⟨0, mV v, false⟩
def relB (v : Ver) : Cu := if kZ (mV v) then ⟨0, yX (mV v), false⟩ else yJ 1
def kG (c : Cu) : Cu := if ¬ c.e = 0 then c else if c.aft = true ∧ c.v.pre = [] then relB c.v else relA c.v
def jI (s : Sp) : Sp := ⟨kG s.lo, kG s.hi⟩
def gD (l : List Sp) : List Sp := u9 ((l.map jI).filter (·.may))
theorem relV_may {v : Ver} (h : v.may = true) : (mV v).may = true := by
  obtain ⟨h1, h2, h3⟩ := jV h
  exact rel_in h1 h2 h3
theorem relV_code (v : Ver) : (mV v).code = v.code := rfl
theorem relA_ok {v : Ver} (h : v.may = true) : (relA v).may = true ∧ x1 (relA v) = true ∧ valC (relA v) = v.code := by
  unfold relA
  have hl := pD h
  split
  · rename_i h1
    rw [hl, decide_eq_true_eq] at h1
    exact ⟨mN, mP _ (by decide), by rw [h1]; rfl⟩
  · rename_i h1
    have h2 : qN (mV v) = false := by
      have : qN (mV v) = qN v := rfl
      rw [this]; simpa using h1
    exact ⟨by unfold Cu.may; dsimp only; rw [if_pos rfl, relV_may h]; rfl, by unfold x1; dsimp only; rw [h2]; rfl, rfl⟩
theorem relB_ok {v : Ver} (h : v.may = true) : (relB v).may = true ∧ x1 (relB v) = true ∧ valC (relB v) = v.code + 1 := by
  unfold relB
  rcases next_is (relV_may h) with ⟨h1, h2, h3⟩ | ⟨h1, a, b, c, h2, h3, h4⟩
  · rw [h1, if_neg (by decide)]
    rw [relV_code] at h3
    exact ⟨wD, mP _ (by decide), by rw [h3]; rfl⟩
  · rw [h1, if_pos rfl, h2]
    have hc : (Ver.rel a b c).code = v.code + 1 := by
      rcases h4 with ⟨_, h5⟩ | ⟨h5, _⟩
      · rw [h5, relV_code]
      · exact absurd rfl h5
    have h0 := (fZ h).1
    have hl : qN (Ver.rel a b c) = false := by rw [pD h3, decide_eq_false_iff_not]; omega
    refine ⟨by unfold Cu.may; dsimp only; rw [if_pos rfl, h3]; rfl, by unfold x1; dsimp only; rw [hl]; rfl, ?_⟩
    unfold valC; dsimp only
    rw [if_neg (by decide), if_neg (by decide), hc]
theorem mB {c : Cu} (h : c.may = true) : (kG c).may = true ∧ x1 (kG c) = true := by
  unfold kG
  split
  · rename_i h0
    exact ⟨h, by unfold x1; rw [decide_eq_true h0]; rfl⟩
  · split
    · have := relB_ok (vF h); exact ⟨this.1, this.2.1⟩
    · have := relA_ok (vF h); exact ⟨this.1, this.2.1⟩
theorem turn_le {c : Cu} {r : Ver} (hc : c.may = true) (hr : r.may = true) (hp : r.pre = []) : zP c (bE r) ≤ 0 ↔ zP (kG c) (bE r) ≤ 0 := by
  by_cases h0 : c.e = 0
  · have ht := mB hc
    have hv := vF hc
    rw [right_le ht.1 ht.2 (qC hr) (jL hr), mu_pos hr hp]
    have ha := dK hc hr
    have h1 : (zP c (bE r) ≤ 0) ↔ (xH c r = true) := by rw [ha, decide_eq_true_eq]
    rw [h1]
    unfold xH
    rw [hc, hr, if_pos h0]
    simp only [Bool.true_and, decide_eq_true_eq]
    have hcr := (cmp_rel hv hr hp).1
    have hrng := wJ (v := c.v) (w := r)
    have hz : xO c.v r = 0 ↔ (c.v.code = r.code ∧ c.v.pre = []) := by
      rw [dG hv hr, hp]
      by_cases k1 : c.v.code < r.code
      · rw [if_pos k1]; constructor <;> intro h <;> omega
      · rw [if_neg k1]
        by_cases k2 : r.code < c.v.code
        · rw [if_pos k2]; constructor <;> intro h <;> omega
        · rw [if_neg k2]
          unfold gU
          by_cases k3 : c.v.pre = []
          · rw [if_pos k3]; exact ⟨fun _ => ⟨by omega, k3⟩, fun _ => rfl⟩
          · rw [if_neg k3, if_neg k3, if_pos rfl]
            exact ⟨fun h => by omega, fun h => absurd h.2 k3⟩
    have hlt : xO c.v r < 0 ↔ xO c.v r = -1 := by omega
    rw [hlt, hcr, hz]
    unfold kG
    rw [if_neg (by simpa using h0)]
    by_cases k : c.aft = true ∧ c.v.pre = []
    · rw [if_pos k, (relB_ok hv).2.2]
      constructor
      · rintro (h | ⟨_, h⟩)
        · rcases h with h | ⟨_, h⟩
          · omega
          · exact absurd k.2 h
        · rw [k.1] at h; cases h
      · intro h; exact .inl (.inl (by omega))
    · rw [if_neg k, (relA_ok hv).2.2]
      constructor
      · rintro (h | ⟨⟨h, _⟩, _⟩)
        · rcases h with h | ⟨h, _⟩ <;> omega
        · omega
      · intro h
        rcases Int.lt_or_eq_of_le h with h | h
        · exact .inl (.inl h)
        · by_cases k3 : c.v.pre = []
          · refine .inr ⟨⟨h, k3⟩, ?_⟩
            cases k4 : c.aft with
            | false => rfl
            | true => exact absurd ⟨k4, k3⟩ k
          · exact .inl (.inr ⟨h, k3⟩)
  · have : kG c = c := by unfold kG; rw [if_pos h0]
    rw [this]
theorem turn_in {s : Sp} {r : Ver} (hs : s.may = true) (hr : r.may = true) (hp : r.pre = []) : kS (jI s) (bE r) = kS s (bE r) := by
  obtain ⟨h1, h2⟩ := zX hs
  unfold kS jI
  dsimp only
  rw [decide_eq_decide.2 (turn_le h1 hr hp).symm]
  congr 1
  refine decide_eq_decide.2 ?_
  have := turn_le h2 hr hp
  have a1 := xF (a := s.hi) (b := bE r)
  have a2 := xF (a := kG s.hi) (b := bE r)
  constructor
  · intro h; have : ¬ zP s.hi (bE r) ≤ 0 := fun h3 => by have := this.1 h3; omega
    omega
  · intro h; have : ¬ zP (kG s.hi) (bE r) ≤ 0 := fun h3 => by have := this.2 h3; omega
    omega
theorem dU (l : List Sp) : ∀ s ∈ (l.map jI).filter (·.may), s.may = true := fun s hs => (List.mem_filter.1 hs).2
theorem makeRel_may (l : List Sp) : zJ (gD l) = true := (uN (dU l)).1
theorem makeRel_right {l : List Sp} (h : ∀ s ∈ l, s.may = true) : AllRight (gD l) := by
  refine AllRight.make (fun s hs => ?_)
  obtain ⟨t, ht, rfl⟩ := List.mem_map.1 (List.mem_filter.1 hs).1
  have := zX (h t ht)
  exact ⟨(mB this.1).2, (mB this.2).2⟩
theorem makeRel_has {l : List Sp} {r : Ver} (hl : zJ l = true) (hr : r.may = true) (hp : r.pre = []) : xL (gD l) r = xL l r := by
  rw [vH (makeRel_may l) hr, vH hl hr]
  show den (u9 _) _ = _
  rw [(uN (dU l)).2 _ (qC hr) (jL hr)]
  unfold den
  rw [Bool.eq_iff_iff, List.any_eq_true, List.any_eq_true]
  constructor
  · rintro ⟨s, hs, h⟩
    obtain ⟨t, ht, rfl⟩ := List.mem_map.1 (List.mem_filter.1 hs).1
    exact ⟨t, ht, by rw [← turn_in (x3 hl t ht) hr hp]; exact h⟩
  · rintro ⟨s, hs, h⟩
    have hm := x3 hl s hs
    rw [← turn_in hm hr hp] at h
    refine ⟨jI s, List.mem_filter.2 ⟨List.mem_map.2 ⟨s, hs, rfl⟩, ?_⟩, h⟩
    have h1 := zX hm
    cases hc : (jI s).may with
    | true => rfl
    | false =>
      have := in_none (mB h1.1).1 (mB h1.2).1 (qC hr) (sp_not_of hc)
      rw [show (Sp.mk (kG s.lo) (kG s.hi)) = jI s from rfl, h] at this
      cases this
def oneRel (v : Ver) : List Sp := [⟨relA v, relB v⟩]
def onePre (v : Ver) : List Sp := [⟨⟨0, kI v, false⟩, ⟨0, kI v, true⟩⟩]
end
section
structure St where
  rel : List Sp
  pre : List Sp
def St.may (s : St) : Bool := zJ s.rel && zJ s.pre && s.rel.all fun x => x1 x.lo && x1 x.hi
structure SF (s : St) (n : Nat) : Prop where
  rel : RF s.rel n
  pre : RF s.pre n
  right : AllRight s.rel
theorem right_all {l : List Sp} : (l.all fun x => x1 x.lo && x1 x.hi) = true ↔ AllRight l := by
  rw [List.all_eq_true]
  exact ⟨fun h s hs => by simpa using h s hs, fun h s hs => by simpa using h s hs⟩
theorem SF.may {s : St} {n : Nat} (h : SF s n) : s.may = true := by
  unfold St.may
  rw [h.rel.may, h.pre.may, right_all.2 h.right]; rfl
theorem St.facts {s : St} (h : s.may = true) : zJ s.rel = true ∧ zJ s.pre = true ∧ AllRight s.rel := by
  unfold St.may at h
  rw [Bool.and_eq_true, Bool.and_eq_true, right_all] at h
  exact ⟨h.1.1, h.1.2, h.2⟩
theorem SF.of {s : St} {n : Nat} (h : s.may = true) (h1 : s.rel.length ≤ n) (h2 : s.pre.length ≤ n) : SF s n :=
  ⟨⟨(St.facts h).1, h1⟩, ⟨(St.facts h).2.1, h2⟩, (St.facts h).2.2⟩
def gS (s : St) (v : Ver) : Bool := s.may && v.may && (if v.pre = [] then xL s.rel v else xL s.pre v)
def gF : St := ⟨[], []⟩
def nI : List Sp := [⟨yJ (-1), yJ 1⟩]
def allT : St := ⟨nI, nI⟩
def orT (a b : St) : St := ⟨orL a.rel b.rel, orL a.pre b.pre⟩
def andT (a b : St) : St := ⟨f7 a.rel b.rel, f7 a.pre b.pre⟩
def notT (a : St) : St := ⟨j0 a.rel, j0 a.pre⟩
def minusT (a b : St) : St := andT a (notT b)
def exactT (v : Ver) : St := if v.may then (if v.pre = [] then ⟨oneRel v, []⟩ else ⟨[], onePre v⟩) else gF
theorem St.eq {a b : St} (h1 : a.rel = b.rel) (h2 : a.pre = b.pre) : a = b := by cases a; cases b; simp only at h1 h2; rw [h1, h2]
theorem nil_rf : RF [] 0 := ⟨rfl, Nat.le_refl _⟩
theorem RF.le {l : List Sp} {n m : Nat} (h : RF l n) (hm : n ≤ m) : RF l m := ⟨h.may, Nat.le_trans h.len hm⟩
theorem SF.le {s : St} {n m : Nat} (h : SF s n) (hm : n ≤ m) : SF s m := ⟨h.rel.le hm, h.pre.le hm, h.right⟩
theorem nil_right : AllRight [] := fun s hs => by simp at hs
theorem none_sf : SF gF 0 := ⟨nil_rf, nil_rf, nil_right⟩
theorem whole_rf : RF nI 1 := ⟨by decide, Nat.le_refl _⟩
theorem SF.or {a b : St} {n m : Nat} (ha : SF a n) (hb : SF b m) : SF (orT a b) (2 + 2 * (n + m)) := ⟨ha.rel.or hb.rel, ha.pre.or hb.pre, ha.right.or hb.right⟩
theorem has_may {s : St} {v : Ver} {n : Nat} (hs : SF s n) (hv : v.may = true) : gS s v = if v.pre = [] then xL s.rel v else xL s.pre v := by
  unfold gS; rw [hs.may, hv, Bool.true_and, Bool.true_and]
section
variable {a b : St} {n m : Nat} {v : Ver} (ha : SF a n) (hb : SF b m) (hv : v.may = true)
include ha hb hv
theorem setHas_or : gS (orT a b) v = (gS a v || gS b v) := by
  rw [has_may (ha.or hb) hv, has_may ha hv, has_may hb hv]
  split
  · exact has_or4 ha.rel.may hb.rel.may hv
  · exact has_or4 ha.pre.may hb.pre.may hv
end
theorem whole_den {x : Cu} (hx : x.may = true) (he : zP x (yJ 1) < 0) : den nI x = true := by
  show (kS ⟨yJ (-1), yJ 1⟩ x || false) = true
  rw [Bool.or_false]
  unfold kS
  rw [decide_eq_true (fX hx), decide_eq_true he]; rfl
theorem setHas_none {v : Ver} : gS gF v = false := by
  unfold gS
  have h : xL [] v = false := rfl
  show (_ && (if v.pre = [] then xL [] v else xL [] v)) = false
  rw [h, ite_self, Bool.and_false]
def edgeN (l : List Sp) : List Int := l.flatMap fun s => [s.lo, s.hi].filterMap fun c => if c.e = 0 then some c.v.code else none
theorem not_whole : j0 nI = [] := jS _ _ (bF whole_rf.may).1 rfl fun x hx he => by
  rw [(bF whole_rf.may).2 x hx he, whole_den hx he]; rfl
theorem not_nil : j0 [] = nI := by rw [← not_whole, not_not4 whole_rf.may]
end
section
structure Co where
  op : Int
  parts : Int
  v : Ver
deriving DecidableEq
def zY (op : Int) : List UInt8 := if op = 1 then [61] else if op = 2 then [33, 61] else if op = 3 then [60] else if op = 4 then [60, 61] else if op = 5 then [62] else if op = 6 then [62, 61] else if op = 7 then [94] else if op = 8 then [126] else []
def Co.may (c : Co) : Bool := decide (1 ≤ c.op ∧ c.op ≤ 9) && c.v.may && decide (c.v.build = []) && (if c.op = 9 then decide (0 ≤ c.parts ∧ c.parts ≤ 2) else decide (1 ≤ c.parts ∧ c.parts ≤ 3)) && decide (3 ≤ c.parts ∨ c.v.pre = []) && decide (0 < c.parts ∨ c.v.maj = 0) && decide (1 < c.parts ∨ c.v.min = 0) && decide (2 < c.parts ∨ c.v.pat = 0)
theorem Co.facts {c : Co} (h : c.may = true) : (1 ≤ c.op ∧ c.op ≤ 9) ∧ c.v.may = true ∧ c.v.build = [] ∧ (c.op = 9 → 0 ≤ c.parts ∧ c.parts ≤ 2) ∧ (¬ c.op = 9 → 1 ≤ c.parts ∧ c.parts ≤ 3) ∧ (3 ≤ c.parts ∨ c.v.pre = []) ∧ (0 < c.parts ∨ c.v.maj = 0) ∧ (1 < c.parts ∨ c.v.min = 0) ∧ (2 < c.parts ∨ c.v.pat = 0) := by
  unfold Co.may at h
  simp only [Bool.and_eq_true, decide_eq_true_eq] at h
  obtain ⟨⟨⟨⟨⟨⟨⟨h1, h2⟩, h3⟩, h4⟩, h5⟩, h6⟩, h7⟩, h8⟩ := h
  refine ⟨h1, h2, h3, fun e => ?_, fun e => ?_, h5, h6, h7, h8⟩
  · rw [if_pos e] at h4; exact of_decide_eq_true h4
  · rw [if_neg e] at h4; exact of_decide_eq_true h4
theorem Co.may_iff {c : Co} : c.may = true ↔ (1 ≤ c.op ∧ c.op ≤ 9) ∧ c.v.may = true ∧ c.v.build = [] ∧ (c.op = 9 → 0 ≤ c.parts ∧ c.parts ≤ 2) ∧ (¬ c.op = 9 → 1 ≤ c.parts ∧ c.parts ≤ 3) ∧ (3 ≤ c.parts ∨ c.v.pre = []) ∧ (0 < c.parts ∨ c.v.maj = 0) ∧ (1 < c.parts ∨ c.v.min = 0) ∧ (2 < c.parts ∨ c.v.pat = 0) := by
  refine ⟨Co.facts, fun ⟨h1, h2, h3, k9, kn, h5, h6, h7, h8⟩ => ?_⟩
  unfold Co.may
  rw [decide_eq_true h1, h2, decide_eq_true h3, decide_eq_true h5, decide_eq_true h6, decide_eq_true h7, decide_eq_true h8]
  by_cases e : c.op = 9
  · rw [if_pos e, decide_eq_true (k9 e)]; rfl
  · rw [if_neg e, decide_eq_true (kn e)]; rfl
def y9 (v : Ver) (n : Nat) : List (List UInt8) := [Lib.itoa v.maj, Lib.itoa v.min, Lib.itoa v.pat].take n
def Co.rest (c : Co) : List UInt8 := if c.op = 9 then zW 46 (y9 c.v c.parts.toNat ++ [[42]]) else zW 46 (y9 c.v c.parts.toNat) ++ wR 45 c.v.pre
def Co.text (c : Co) : List UInt8 := zY c.op ++ c.rest
def Co.print (c : Co) : List UInt8 := if c.may then c.text else []
def xJ (s t : List UInt8) : Bool := decide (s.take t.length = t)
def fJ (s : List UInt8) : Int × List UInt8 :=
  if xJ s [33, 61] then (2, s.drop 2) else if xJ s [60, 61] then (4, s.drop 2) else if xJ s [62, 61] then (6, s.drop 2) else if xJ s [61] then (1, s.drop 1)
  else if xJ s [60] then (3, s.drop 1) else if xJ s [62] then (5, s.drop 1) else if xJ s [94] then (7, s.drop 1) else if xJ s [126] then (8, s.drop 1)
  else if s.getLast? = some 42 then (9, s) else (7, s)
def fW (op : Int) (rest : List UInt8) : List (List UInt8) := if op = 9 then (pcs (yB 45 rest).1).dropLast else pcs (yB 45 rest).1
def guessC (op : Int) (rest : List UInt8) : Option Co :=
  if (fW op rest).length ≤ 3 ∧ (fW op rest).all g8 = true then
    some ⟨op, (fW op rest).length, ⟨zO (tg (fW op rest) 0), zO (tg (fW op rest) 1), zO (tg (fW op rest) 2), (yB 45 rest).2.1, []⟩⟩
  else none
def fits (s : List UInt8) (c : Co) : Bool := !decide (c.print = []) && (decide (c.print = s) || decide (c.print = 94 :: s))
def gV (s : List UInt8) : Option Co := (guessC (fJ s).1 (fJ s).2).filter (fits s)
theorem print_may {c : Co} (h : ¬ c.print = []) : c.may = true := by
  cases hm : c.may with
  | true => rfl
  | false => exact absurd (show c.print = [] by unfold Co.print; rw [hm]; rfl) h
theorem kP {c : Co} (h : c.may = true) : c.print = c.text := by unfold Co.print; rw [h]; rfl
theorem parseC_back {s : List UInt8} {c : Co} (h : gV s = some c) : c.may = true ∧ (c.text = s ∨ c.text = 94 :: s) := by
  unfold gV at h
  obtain ⟨_, h⟩ := Option.filter_eq_some_iff.1 h
  unfold fits at h
  simp only [Bool.and_eq_true, Bool.not_eq_true', decide_eq_false_iff_not, Bool.or_eq_true, decide_eq_true_eq] at h
  have hm := print_may h.1
  rw [kP hm] at h
  exact ⟨hm, h.2⟩
theorem pcs_cons {x y : List UInt8} (h : (46 : UInt8) ∉ x) : pcs (x ++ 46 :: y) = x :: pcs y := by
  unfold pcs
  rw [qX, mQ 46 _ _ h]
  simp
theorem pcs_one {x : List UInt8} (h : (46 : UInt8) ∉ x) : pcs x = [x] := by
  unfold pcs
  rw [qX, jQ 46 _ h]
  simp
theorem pcs_join : ∀ (l : List (List UInt8)), l ≠ [] → (∀ x ∈ l, (46 : UInt8) ∉ x) → pcs (zW 46 l) = l
  | [], h, _ => absurd rfl h
  | [x], _, h => pcs_one (h x (List.mem_singleton.2 rfl))
  | x :: y :: r, _, h => by
    rw [zW, pcs_cons (h x (List.mem_cons_self ..)), pcs_join (y :: r) (by simp) fun z hz => h z (List.mem_cons_of_mem _ hz)]
theorem nums_mem {v : Ver} (hv : v.may = true) {n : Nat} {x : List UInt8} (h : x ∈ y9 v n) : ∃ k : Int, yC k = true ∧ x = Lib.itoa k := by
  obtain ⟨h1, h2, h3⟩ := qE hv
  unfold y9 at h
  have h := List.mem_of_mem_take h
  simp only [List.mem_cons, List.not_mem_nil, or_false] at h
  rcases h with rfl | rfl | rfl
  · exact ⟨_, h1, rfl⟩
  · exact ⟨_, h2, rfl⟩
  · exact ⟨_, h3, rfl⟩
theorem qH {v : Ver} (hv : v.may = true) {n : Nat} (b : UInt8) (hb : kF b.toNat = false) : ∀ x ∈ y9 v n, b ∉ x := fun x hx => by
  obtain ⟨k, hk, rfl⟩ := nums_mem hv hx
  exact dig_free hk b hb
theorem vX (b : UInt8) (hb : b ≠ 46) : ∀ (l : List (List UInt8)), (∀ x ∈ l, b ∉ x) → b ∉ zW 46 l
  | [], _ => by simp [zW]
  | [x], h => h x (List.mem_singleton.2 rfl)
  | x :: y :: r, h => by
    rw [zW]
    simp only [List.mem_append, List.mem_cons, not_or]
    exact ⟨h x (List.mem_cons_self ..), hb, vX b hb (y :: r) fun z hz => h z (List.mem_cons_of_mem _ hz)⟩
theorem qI (v : Ver) {n : Nat} (h : n ≤ 3) : (y9 v n).length = n := by
  unfold y9
  rw [List.length_take]
  simp; omega
theorem nums_num {v : Ver} (hv : v.may = true) (n : Nat) : (y9 v n).all g8 = true := List.all_eq_true.2 fun x hx => by
  obtain ⟨k, hk, rfl⟩ := nums_mem hv hx
  exact numI_itoa hk
theorem nums_back {v : Ver} (hv : v.may = true) {n : Nat} (h : n ≤ 3) (h0 : 0 < n ∨ v.maj = 0) (h1 : 1 < n ∨ v.min = 0) (h2 : 2 < n ∨ v.pat = 0) : zO (tg (y9 v n) 0) = v.maj ∧ zO (tg (y9 v n) 1) = v.min ∧ zO (tg (y9 v n) 2) = v.pat := by
  obtain ⟨m1, m2, m3⟩ := qE hv
  have e1 := d5 m1
  have e2 := d5 m2
  have e3 := d5 m3
  match n, h with
  | 0, _ => exact ⟨(h0.resolve_left (by decide)).symm, (h1.resolve_left (by decide)).symm, (h2.resolve_left (by decide)).symm⟩
  | 1, _ => exact ⟨e1, (h1.resolve_left (by decide)).symm, (h2.resolve_left (by decide)).symm⟩
  | 2, _ => exact ⟨e1, e2, (h2.resolve_left (by decide)).symm⟩
  | 3, _ => exact ⟨e1, e2, e3⟩
theorem guess_rest {c : Co} (h : c.may = true) : guessC c.op c.rest = some c := by
  obtain ⟨_, hv, hb, h9, hn, hp, k0, k1, k2⟩ := Co.facts h
  obtain ⟨op, parts, v⟩ := c
  simp only at hv hb h9 hn hp k0 k1 k2 ⊢
  have hparts : (parts.toNat : Int) = parts ∧ parts.toNat ≤ 3 := by
    by_cases e : op = 9
    · have := h9 e; omega
    · have := hn e; omega
  have key : fW op (Co.rest ⟨op, parts, v⟩) = y9 v parts.toNat ∧ (yB 45 (Co.rest ⟨op, parts, v⟩)).2.1 = v.pre := by
    unfold fW Co.rest
    by_cases e : op = 9
    · rw [if_pos e]
      dsimp only
      rw [if_pos e]
      have f : ∀ b : UInt8, kF b.toNat = false → b ≠ 42 → ∀ x ∈ y9 v parts.toNat ++ [[42]], b ∉ x := fun b hb hb2 x hx => by
        rcases List.mem_append.1 hx with hx | hx
        · exact qH hv b hb x hx
        · rw [List.mem_singleton.1 hx]
          intro hm
          exact hb2 (List.mem_singleton.1 hm)
      rw [jQ 45 _ (vX 45 (by decide) _ (f 45 (by decide) (by decide)))]
      have hpre : v.pre = [] := hp.resolve_left (by have := h9 e; omega)
      exact ⟨by
        show (pcs (zW 46 (y9 v parts.toNat ++ [[42]]))).dropLast = _
        rw [pcs_join _ (by simp) (f 46 (by decide) (by decide)), List.dropLast_concat], hpre.symm⟩
    · rw [if_neg e]
      dsimp only
      rw [if_neg e]
      have hne : y9 v parts.toNat ≠ [] := fun h0 => by
        have := qI v hparts.2
        rw [h0] at this
        have := hn e
        simp at *; omega
      rw [cut_tail 45 _ _ (vX 45 (by decide) _ (qH hv 45 (by decide)))]
      exact ⟨pcs_join _ hne (qH hv 46 (by decide)), rfl⟩
  unfold guessC
  rw [key.1, key.2, if_pos ⟨by rw [qI v hparts.2]; exact hparts.2, nums_num hv _⟩]
  obtain ⟨e1, e2, e3⟩ := nums_back hv hparts.2 (by omega) (by omega) (by omega)
  rw [e1, e2, e3, qI v hparts.2, hparts.1]
  obtain ⟨a, b, p, q, r⟩ := v
  simp only at hb
  rw [hb]
theorem itoa_head {k : Int} (h : yC k = true) : ∃ d r, Lib.itoa k = d :: r ∧ kF d.toNat = true := by
  have hm := num_itoa h
  cases e : Lib.itoa k with
  | nil => rw [e] at hm; cases hm
  | cons d r => exact ⟨d, r, rfl, by
      have := dig_mem k.toNat d (by rw [← tJ h, e]; exact List.mem_cons_self)
      exact this⟩
theorem join_head {x : List UInt8} {l : List (List UInt8)} {d : UInt8} {r : List UInt8} (h : x = d :: r) : ∃ r', zW 46 (x :: l) = d :: r' := by
  subst h
  cases l with
  | nil => exact ⟨r, rfl⟩
  | cons y t => exact ⟨_, rfl⟩
theorem bY {c : Co} (h : c.may = true) (hn : ¬ c.op = 9) : ∃ d r, c.rest = d :: r ∧ kF d.toNat = true := by
  obtain ⟨_, hv, _, _, h9, _⟩ := Co.facts h
  obtain ⟨d, r, e, hd⟩ := itoa_head (qE hv).1
  obtain ⟨n, en⟩ : ∃ n, c.parts.toNat = n + 1 := ⟨c.parts.toNat - 1, by have := h9 hn; omega⟩
  obtain ⟨r', e'⟩ := join_head (l := [Lib.itoa c.v.min, Lib.itoa c.v.pat].take n) e
  refine ⟨d, r' ++ wR 45 c.v.pre, ?_, hd⟩
  unfold Co.rest y9
  rw [if_neg hn, en, List.take_succ_cons, e']; rfl
theorem mF {c : Co} (h : c.may = true) (hn : c.op = 9) : ∃ d r, c.rest = d :: r ∧ (kF d.toNat = true ∨ d = 42) := by
  obtain ⟨_, hv, _, h9, _⟩ := Co.facts h
  obtain ⟨d, r, e, hd⟩ := itoa_head (qE hv).1
  unfold Co.rest y9
  rw [if_pos hn]
  cases hp : c.parts.toNat with
  | zero => exact ⟨42, [], rfl, .inr rfl⟩
  | succ n =>
    obtain ⟨r', e'⟩ := join_head (l := [Lib.itoa c.v.min, Lib.itoa c.v.pat].take n ++ [[42]]) e
    exact ⟨d, r', by rw [List.take_succ_cons, List.cons_append, e'], .inl hd⟩
theorem q9 {d : UInt8} {r : List UInt8} {a : UInt8} {t : List UInt8} (h : d ≠ a) : xJ (d :: r) (a :: t) = false := decide_eq_false fun e => by
  rw [List.length_cons, List.take_succ_cons] at e
  injection e with e1 _
  exact h e1
theorem split_plain {d : UInt8} {r : List UInt8} (h : kF d.toNat = true ∨ d = 42) : fJ (d :: r) = if (d :: r).getLast? = some 42 then (9, d :: r) else (7, d :: r) := by
  have hd : ∀ a : UInt8, kF a.toNat = false → a ≠ 42 → d ≠ a := fun a ha h42 e => by
    subst e
    rcases h with h | h
    · rw [ha] at h; cases h
    · exact h42 h
  unfold fJ
  rw [q9 (hd 33 (by decide) (by decide)), q9 (hd 60 (by decide) (by decide)), q9 (hd 62 (by decide) (by decide)), q9 (hd 61 (by decide) (by decide)), q9 (hd 60 (by decide) (by decide)), q9 (hd 62 (by decide) (by decide)), q9 (hd 94 (by decide) (by decide)), q9 (hd 126 (by decide) (by decide))]
  rfl
theorem split_sign {op : Int} (h1 : 1 ≤ op) (h8 : op ≤ 8) {d : UInt8} {r : List UInt8} (hd : kF d.toNat = true) : fJ (zY op ++ d :: r) = (op, d :: r) := by
  have h61 : d ≠ 61 := fun e => by subst e; revert hd; decide
  have hop : op = 1 ∨ op = 2 ∨ op = 3 ∨ op = 4 ∨ op = 5 ∨ op = 6 ∨ op = 7 ∨ op = 8 := by omega
  rcases hop with rfl | rfl | rfl | rfl | rfl | rfl | rfl | rfl <;> simp [zY, fJ, xJ, h61]
theorem last_join (x : List UInt8) : ∀ (l : List (List UInt8)), (zW 46 (l ++ [x ++ [42]])).getLast? = some 42
  | [] => by simp [zW]
  | [y] => by
    show (y ++ 46 :: (x ++ [42])).getLast? = some 42
    rw [show y ++ 46 :: (x ++ [42]) = (y ++ 46 :: x) ++ [42] from by simp, List.getLast?_concat]
  | y :: z :: r => by
    have := last_join x (z :: r)
    show (y ++ 46 :: zW 46 (z :: r ++ [x ++ [42]])).getLast? = some 42
    rw [List.getLast?_append]
    cases hj : zW 46 (z :: r ++ [x ++ [42]]) with
    | nil => rw [hj] at this; cases this
    | cons a b => rw [hj] at this; rw [List.getLast?_cons_cons, this]; rfl
theorem star_free (s : List UInt8) (h : gG s = true) : (42 : UInt8) ∉ s := by
  intro hm
  unfold gG at h
  rcases splitL_mem 46 s [] 42 hm with e | ⟨x, hx, hc⟩
  · revert e; decide
  · have hne : s.isEmpty = false := by cases s with
      | nil => cases hm
      | cons _ _ => rfl
    rw [hne, Bool.false_or, Bool.and_eq_true] at h
    have := List.all_eq_true.1 h.2 x hx
    unfold g6 at this
    rw [Bool.and_eq_true] at this
    have := List.all_eq_true.1 this.2 _ hc
    revert this; decide
theorem rest_star {c : Co} (h : c.may = true) (hn : ¬ c.op = 9) : (42 : UInt8) ∉ c.rest := by
  obtain ⟨_, hv, _⟩ := Co.facts h
  have hl : gG c.v.pre = true := by
    have := dR hv
    unfold qU at this
    exact (Bool.and_eq_true_iff.1 this).1
  unfold Co.rest
  rw [if_neg hn]
  intro hm
  rcases List.mem_append.1 hm with hm | hm
  · exact vX 42 (by decide) _ (qH hv 42 (by decide)) hm
  · unfold wR at hm
    split at hm
    · cases hm
    · rcases List.mem_cons.1 hm with e | hm
      · revert e; decide
      · exact star_free _ hl hm
theorem split_text {c : Co} (h : c.may = true) : fJ c.text = (c.op, c.rest) := by
  obtain ⟨ho, _⟩ := Co.facts h
  unfold Co.text
  by_cases hn : c.op = 9
  · obtain ⟨d, r, e, hd⟩ := mF h hn
    have hl : c.rest.getLast? = some 42 := by unfold Co.rest; rw [if_pos hn]; exact last_join [] _
    rw [hn, show zY 9 = [] from rfl, List.nil_append]
    rw [e] at hl ⊢
    rw [split_plain hd, if_pos hl]
  · obtain ⟨d, r, e, hd⟩ := bY h hn
    rw [e]
    exact split_sign ho.1 (by omega) hd
theorem parseC_text {c : Co} (h : c.may = true) : gV c.text = some c := by
  unfold gV
  rw [split_text h, guess_rest h]
  refine Option.filter_eq_some_iff.2 ⟨rfl, ?_⟩
  have hne : ¬ c.text = [] := fun e => by
    unfold Co.text at e
    have e2 := (List.append_eq_nil_iff.1 e).2
    by_cases hn : c.op = 9
    · obtain ⟨d, r, e3, _⟩ := mF h hn; rw [e3] at e2; cases e2
    · obtain ⟨d, r, e3, _⟩ := bY h hn; rw [e3] at e2; cases e2
  unfold fits
  rw [kP h, decide_eq_false hne, decide_eq_true rfl]; rfl
theorem parseC_caret {c : Co} {s : List UInt8} (h : c.may = true) (hs : c.text = 94 :: s) : gV s = some c := by
  obtain ⟨ho, _⟩ := Co.facts h
  have hop : c.op = 7 ∧ c.rest = s := by
    unfold Co.text at hs
    by_cases hn : c.op = 9
    · obtain ⟨d, r, e, hd⟩ := mF h hn
      rw [hn, show zY 9 = [] from rfl, List.nil_append, e] at hs
      injection hs with e1 _
      rw [e1] at hd
      exact absurd hd (by decide)
    · have hop : c.op = 1 ∨ c.op = 2 ∨ c.op = 3 ∨ c.op = 4 ∨ c.op = 5 ∨ c.op = 6 ∨ c.op = 7 ∨ c.op = 8 := by omega
      rcases hop with e | e | e | e | e | e | e | e <;> rw [e] at hs <;> simp [zY] at hs
      exact ⟨e, hs⟩
  obtain ⟨d, r, e, hd⟩ := bY h (by omega)
  have h42 : ¬ s.getLast? = some 42 := fun hl => by
    have := List.mem_of_getLast? hl
    rw [← hop.2] at this
    exact rest_star h (by omega) this
  unfold gV
  have hsp : fJ s = (7, s) := by
    rw [← hop.2, e, split_plain (.inl hd), if_neg (by rw [← e, hop.2]; exact h42)]
  rw [hsp]
  have hg := guess_rest h
  rw [hop.1, hop.2] at hg
  rw [hg]
  refine Option.filter_eq_some_iff.2 ⟨rfl, ?_⟩
  unfold fits
  rw [kP h, hs, decide_eq_false (by simp), decide_eq_true rfl, Bool.or_true]; rfl
theorem dO (s : List UInt8) (c : Co) : gV s = some c ↔ c.may = true ∧ (c.text = s ∨ c.text = 94 :: s) :=
  ⟨parseC_back, fun ⟨hm, h⟩ => h.elim (fun e => e ▸ parseC_text hm) (fun e => parseC_caret hm e)⟩
end
section
end
section
def gX (v : Ver) : Nat → Cu
  | 0 => if yD v 0 then ⟨0, yW v 0, false⟩ else yJ 1
  | k + 1 => if yD v ((k + 1 : Nat) : Int) then ⟨0, yW v ((k + 1 : Nat) : Int), false⟩ else gX v k
def turnsK (c : Co) : Nat := if 0 < c.v.maj ∨ c.parts = 1 then 0 else if 0 < c.v.min ∨ c.parts = 2 then 1 else 2
def Co.low (c : Co) : Cu := ⟨0, kI c.v, false⟩
def Co.aft (c : Co) : Cu := if c.parts < 3 ∧ 0 < c.parts then gX c.v (c.parts - 1).toNat else ⟨0, kI c.v, true⟩
def Co.span (c : Co) : Cu × Cu :=
  if c.op = 1 ∨ c.op = 2 then (c.low, c.aft) else if c.op = 3 then (yJ (-1), c.low) else if c.op = 4 then (yJ (-1), c.aft) else if c.op = 5 then (c.aft, yJ 1) else if c.op = 6 then (c.low, yJ 1)
  else if c.op = 7 then (c.low, gX c.v (turnsK c)) else if c.op = 8 then (c.low, gX c.v (min (c.parts - 1) 1).toNat) else if c.parts = 0 then (yJ (-1), yJ 1) else (c.low, gX c.v (c.parts - 1).toNat)
def kA (lo hi : Cu) : List Sp := gO [] lo hi
def Co.region (c : Co) : List Sp := if c.may then (if c.op = 2 then j0 (kA c.span.1 c.span.2) else kA c.span.1 c.span.2) else []
def Co.zone (c : Co) : List Sp := if c.may && !decide (c.v.pre = []) then [⟨⟨0, { c.v with pre := [48], build := [] }, false⟩, ⟨0, { c.v with pre := [], build := [] }, false⟩⟩] else []
theorem oneRow_may (lo hi : Cu) : zJ (kA lo hi) = true := add_ok rfl (fun t h => by cases h)
theorem before_may {v : Ver} (h : v.may = true) (a : Bool) : (⟨0, kI v, a⟩ : Cu).may = true := by
  have h2 := fY h
  unfold Cu.may
  rw [if_pos rfl]
  show ((kI v).may && ([] : List UInt8).isEmpty) = true
  rw [h2]; rfl
theorem bump_rel {v : Ver} {k : Int} (h : yD v k = true) : ∃ a b c, yW v k = Ver.rel a b c := by
  unfold yW
  rw [if_pos h]
  unfold bumpN
  split
  · exact ⟨_, _, _, rfl⟩
  · split
    · exact ⟨_, _, _, rfl⟩
    · exact ⟨_, _, _, rfl⟩
def upN (v : Ver) (k : Nat) : Int := if k = 0 then (v.maj + 1) * 100000000 else if k = 1 then v.maj * 100000000 + (v.min + 1) * 10000 else v.code + 1
def ordB (op n : Int) : Bool := if op = 1 then decide (n = 0) else if op = 2 then decide (¬ n = 0) else if op = 3 then decide (n < 0) else if op = 4 then decide (n ≤ 0) else if op = 5 then decide (0 < n) else decide (0 ≤ n)
end
section
def uP (c : Co) (v : Ver) (p : Int) : Bool := (decide (p < 1) || decide (v.maj = c.v.maj)) && (decide (p < 2) || decide (v.min = c.v.min)) && (decide (p < 3) || decide (v.pat = c.v.pat))
def overB (c : Co) (v : Ver) : Bool := if ¬ v.maj = c.v.maj ∨ c.parts = 1 then decide (c.v.maj < v.maj) else if ¬ v.min = c.v.min ∨ c.parts = 2 then decide (c.v.min < v.min) else decide (c.v.pat < v.pat)
def saysN (c : Co) : Int := if 0 < c.v.maj ∨ c.parts = 1 then 1 else if 0 < c.v.min ∨ c.parts = 2 then 2 else 3
def saysB (c : Co) (v : Ver) : Bool :=
  if c.op = 1 ∨ c.op = 9 then uP c v c.parts else if c.op = 2 then !uP c v c.parts else if c.op = 3 then !uP c v c.parts && !overB c v else if c.op = 4 then uP c v c.parts || !overB c v
  else if c.op = 5 then overB c v else if c.op = 6 then uP c v c.parts || overB c v else if c.op = 8 then uP c v (min c.parts 2) && (uP c v c.parts || overB c v)
  else uP c v (saysN c) && (uP c v c.parts || overB c v)
def truncN (v : Ver) (q : Nat) : Int := if q = 1 then v.maj * 100000000 else if q = 2 then v.maj * 100000000 + v.min * 10000 else v.code
end
section
def fV (v : Ver) : Ver := { v with pre := [48], build := [] }
def bareV (v : Ver) : Ver := { v with pre := [], build := [] }
theorem least_may {v : Ver} (h : v.may = true) : (fV v).may = true ∧ (bareV v).may = true := by
  obtain ⟨h1, h2, h3⟩ := qE h
  have k : qU [48] = true := by decide
  unfold Ver.may fV bareV
  dsimp only
  rw [h1, h2, h3, k]
  exact ⟨rfl, rfl⟩
theorem zone_row {c : Co} (h : c.may = true) (hp : ¬ c.v.pre = []) : c.zone = [⟨⟨0, fV c.v, false⟩, ⟨0, bareV c.v, false⟩⟩] := by
  unfold Co.zone
  rw [h, decide_eq_false hp]; rfl
theorem zone_sp {v : Ver} (h : v.may = true) : (Sp.mk ⟨0, fV v, false⟩ ⟨0, bareV v, false⟩).may = true := by
  obtain ⟨m1, m2⟩ := least_may h
  refine bS ?_
  have c1 : (⟨0, fV v, false⟩ : Cu).may = true := before_may m1 false
  have c2 : (⟨0, bareV v, false⟩ : Cu).may = true := before_may m2 false
  rw [qK c1 c2]
  have e : xO (fV v) (bareV v) = -1 := by
    rw [dG m1 m2]
    have e1 : (fV v).code = (bareV v).code := rfl
    rw [e1, if_neg (by omega), if_neg (by omega)]; rfl
  show lex (Lib.compareInt 0 0) (lex (xO (fV v) (bareV v)) (Lib.compareInt (b01 false) (b01 false))) < 0
  rw [e]
  decide
theorem zone_may {c : Co} : zJ c.zone = true := by
  by_cases h : c.may = true
  · by_cases hp : c.v.pre = []
    · unfold Co.zone; rw [h, decide_eq_true hp]; rfl
    · rw [zone_row h hp]; exact zone_sp (Co.facts h).2.1
  · unfold Co.zone
    rw [Bool.eq_false_iff.2 h]; rfl
def withO (c : Co) (o : Int) : Co := { c with op := o }
end
section
def g9 (sep : List UInt8) : List (List UInt8) → List UInt8
  | [] => []
  | [x] => x
  | x :: y :: l => x ++ sep ++ g9 sep (y :: l)
theorem vY (sep x y : List UInt8) (l : List (List UInt8)) : g9 sep (x :: y :: l) = x ++ sep ++ g9 sep (y :: l) := rfl
theorem joinB_snoc (sep x : List UInt8) : ∀ (l : List (List UInt8)), g9 sep (l ++ [x]) = if l = [] then x else g9 sep l ++ sep ++ x
  | [] => rfl
  | [y] => rfl
  | y :: z :: l => by
    rw [if_neg (by simp)]
    show y ++ sep ++ g9 sep ((z :: l) ++ [x]) = y ++ sep ++ g9 sep (z :: l) ++ sep ++ x
    rw [joinB_snoc sep x (z :: l), if_neg (by simp)]
    simp only [List.append_assoc]
theorem joinL_B (b : UInt8) : ∀ (l : List (List UInt8)), zW b l = g9 [b] l
  | [] => rfl
  | [x] => rfl
  | x :: y :: l => by
    rw [zW, vY, joinL_B b (y :: l)]; simp
def bP : List Nat → Nat
  | [] => 0
  | n :: l => n + bP l
theorem sumN_app : ∀ (a b : List Nat), bP (a ++ b) = bP a + bP b
  | [], b => by simp [bP]
  | n :: a, b => by show n + bP (a ++ b) = n + bP a + bP b; rw [sumN_app a b]; omega
theorem sumN_rev : ∀ (a : List Nat), bP a.reverse = bP a
  | [] => rfl
  | n :: a => by rw [List.reverse_cons, sumN_app, sumN_rev a]; show bP a + (n + 0) = n + bP a; omega
theorem uU (sep : List UInt8) : ∀ (l : List (List UInt8)), (g9 sep l).length = bP (l.map (·.length)) + (l.length - 1) * sep.length
  | [] => by simp [g9, bP]
  | [x] => by simp [g9, bP]
  | x :: y :: l => by
    rw [vY, List.length_append, List.length_append, uU sep (y :: l)]
    show x.length + sep.length + (bP ((y :: l).map (·.length)) + ((y :: l).length - 1) * sep.length) = x.length + bP ((y :: l).map (·.length)) + ((y :: l).length + 1 - 1) * sep.length
    have e : ((y :: l).length + 1 - 1) * sep.length = ((y :: l).length - 1) * sep.length + sep.length := by
      rw [show (y :: l).length + 1 - 1 = ((y :: l).length - 1) + 1 from by simp, Nat.add_mul, Nat.one_mul]
    omega
def yR (a : List Co) : List UInt8 := g9 [44, 32] (a.map Co.print)
def yZ (r : List (List Co)) : List UInt8 := g9 [32, 124, 124, 32] (r.map yR)
def fewA (a : List Co) : Bool := decide (1 ≤ a.length ∧ a.length ≤ 6) && a.all Co.may
def fewR (r : List (List Co)) : Bool := decide (1 ≤ r.length ∧ r.length ≤ 6) && r.all fewA
def rgMay (r : List (List Co)) : Bool := fewR r && decide ((yZ r).length ≤ 96)
def jT (r : List (List Co)) : List UInt8 := if rgMay r then yZ r else []
theorem fewA.facts {a : List Co} (h : fewA a = true) : (1 ≤ a.length ∧ a.length ≤ 6) ∧ ∀ c ∈ a, c.may = true := by
  unfold fewA at h
  rw [Bool.and_eq_true, decide_eq_true_eq] at h
  exact ⟨h.1, List.all_eq_true.1 h.2⟩
theorem fewR.facts {r : List (List Co)} (h : fewR r = true) : (1 ≤ r.length ∧ r.length ≤ 6) ∧ ∀ a ∈ r, fewA a = true := by
  unfold fewR at h
  rw [Bool.and_eq_true, decide_eq_true_eq] at h
  exact ⟨h.1, List.all_eq_true.1 h.2⟩
theorem rgMay.facts {r : List (List Co)} (h : rgMay r = true) : fewR r = true ∧ (yZ r).length ≤ 96 := by
  unfold rgMay at h
  rw [Bool.and_eq_true, decide_eq_true_eq] at h
  exact h
def xV : List UInt8 → List UInt8
  | [] => []
  | c :: l => if c = 32 then xV l else c :: l
def xU (s : List UInt8) : List UInt8 := (xV (xV s).reverse).reverse
def xW : List UInt8 → List UInt8 → List (List UInt8)
  | acc, [] => [acc]
  | acc, [c] => [acc ++ [c]]
  | acc, c :: d :: r => if c = 124 ∧ d = 124 then acc :: xW [] r else xW (acc ++ [c]) (d :: r)
def uF {α β : Type} (f : α → Option β) : List α → Option (List β)
  | [] => some []
  | x :: l => match f x, uF f l with
    | some y, some m => some (y :: m)
    | _, _ => none
theorem allO_cons {α β : Type} {f : α → Option β} {x : α} {l : List α} {y : β} {m : List β} (h1 : f x = some y) (h2 : uF f l = some m) : uF f (x :: l) = some (y :: m) := by
  show (match f x, uF f l with | some y, some m => some (y :: m) | _, _ => none) = _
  rw [h1, h2]
theorem allO_inv {α β : Type} {f : α → Option β} {x : α} {l : List α} {m : List β} (h : uF f (x :: l) = some m) : ∃ y m', m = y :: m' ∧ f x = some y ∧ uF f l = some m' := by
  have h : (match f x, uF f l with | some y, some m => some (y :: m) | _, _ => none) = some m := h
  cases h1 : f x with
  | none => rw [h1] at h; cases h
  | some y =>
    cases h2 : uF f l with
    | none => rw [h1, h2] at h; cases h
    | some m' => rw [h1, h2] at h; injection h with h; exact ⟨y, m', h.symm, rfl, rfl⟩
theorem allO_none {α β : Type} {f : α → Option β} : ∀ {l : List α} {x : α}, x ∈ l → f x = none → uF f l = none
  | y :: l, x, hx, h => by
    show (match f y, uF f l with | some y, some m => some (y :: m) | _, _ => none) = _
    rcases List.mem_cons.1 hx with rfl | hx
    · rw [h]
    · rw [allO_none hx h]; cases f y <;> rfl
theorem dJ {α β : Type} {f : α → Option β} : ∀ {l : List α} {m : List β}, uF f l = some m → m.length = l.length
  | [], m, h => by injection h with h; subst h; rfl
  | x :: l, m, h => by
    obtain ⟨y, m', rfl, _, h2⟩ := allO_inv h
    rw [List.length_cons, List.length_cons, dJ h2]
theorem allO_app {α β : Type} {f : α → Option β} {b : List α} {n : List β} (hb : uF f b = some n) : ∀ {a : List α} {m : List β}, uF f a = some m → uF f (a ++ b) = some (m ++ n)
  | [], m, h => by injection h with h; subst h; exact hb
  | x :: a, m, h => by
    obtain ⟨y, m', rfl, h1, h2⟩ := allO_inv h
    exact allO_cons h1 (allO_app hb h2)
theorem allO_snoc {α β : Type} {f : α → Option β} {a : List α} {m : List β} {x : α} {y : β} (h : uF f a = some m) (h1 : f x = some y) : uF f (a ++ [x]) = some (m ++ [y]) := allO_app (allO_cons h1 rfl) h
theorem allO_back {α β : Type} {f : α → Option β} : ∀ {l : List α} {m : List β}, uF f l = some m → ∀ y ∈ m, ∃ x ∈ l, f x = some y
  | [], m, h, y, hy => by injection h with h; subst h; cases hy
  | z :: l, m, h, y, hy => by
    obtain ⟨w, m', rfl, h1, h2⟩ := allO_inv h
    rcases List.mem_cons.1 hy with rfl | hy
    · exact ⟨z, List.mem_cons_self .., h1⟩
    · obtain ⟨x, hx, e⟩ := allO_back h2 y hy
      exact ⟨x, List.mem_cons_of_mem _ hx, e⟩
def parseP (s : List UInt8) : Option Co := gV (xU s)
def nV (s : List UInt8) : Option (List Co) := uF parseP (yL 44 [] s)
def gK (s : List UInt8) : Option (List (List Co)) := uF nV (xW [] s)
def x2 (s : List UInt8) : Option (List (List Co)) := if 96 < s.length then none else (gK s).filter rgMay
def kK (s : List UInt8) : Int := if 96 < s.length then 3 else match gK s with
  | none => 6
  | some r => if fewR r then (if (yZ r).length ≤ 96 then 0 else 3) else 6
theorem text_free {c : Co} (h : c.may = true) (b : UInt8) (h1 : uW b = false) (h2 : b ≠ 46 ∧ b ≠ 42) (h3 : b ∉ ([61, 33, 60, 62, 94, 126] : List UInt8)) : b ∉ c.text := by
  obtain ⟨_, hv, _⟩ := Co.facts h
  have hd : kF b.toNat = false := by
    unfold uW at h1
    rw [Bool.or_eq_false_iff, Bool.or_eq_false_iff] at h1
    exact h1.1.2
  have h45 : b ≠ 45 := fun e => by subst e; revert h1; decide
  have hl : gG c.v.pre = true := by
    have := dR hv
    unfold qU at this
    exact (Bool.and_eq_true_iff.1 this).1
  have hp : b ∉ c.v.pre := by
    intro hm
    unfold gG at hl
    rcases splitL_mem 46 c.v.pre [] b hm with e | ⟨x, hx, hc⟩
    · exact h2.1 e
    · have hne : c.v.pre.isEmpty = false := by cases hc2 : c.v.pre with
        | nil => rw [hc2] at hm; cases hm
        | cons _ _ => rfl
      rw [hne, Bool.false_or, Bool.and_eq_true] at hl
      have := List.all_eq_true.1 hl.2 x hx
      unfold g6 at this
      rw [Bool.and_eq_true] at this
      have := List.all_eq_true.1 this.2 _ hc
      rw [h1] at this; cases this
  unfold Co.text
  intro hm
  rcases List.mem_append.1 hm with hm | hm
  · apply h3
    unfold zY at hm
    repeat' split at hm
    all_goals (simp at hm ⊢)
    all_goals (rcases hm with rfl | rfl <;> simp) <;> skip
  · unfold Co.rest at hm
    split at hm
    · refine vX b h2.1 _ (fun x hx => ?_) hm
      rcases List.mem_append.1 hx with hx | hx
      · exact qH hv b hd x hx
      · rw [List.mem_singleton.1 hx]
        intro e; exact h2.2 (List.mem_singleton.1 e)
    · rcases List.mem_append.1 hm with hm | hm
      · exact vX b h2.1 _ (qH hv b hd) hm
      · unfold wR at hm
        split at hm
        · cases hm
        · rcases List.mem_cons.1 hm with e | hm
          · exact h45 e
          · exact hp hm
theorem text_no32 {c : Co} (h : c.may = true) : (32 : UInt8) ∉ c.text := text_free h 32 (by decide) (by decide) (by decide)
theorem text_no44 {c : Co} (h : c.may = true) : (44 : UInt8) ∉ c.text := text_free h 44 (by decide) (by decide) (by decide)
theorem text_no124 {c : Co} (h : c.may = true) : (124 : UInt8) ∉ c.text := text_free h 124 (by decide) (by decide) (by decide)
def xX (n : Nat) : List UInt8 := List.replicate n 32
theorem dZ : ∀ (n : Nat) (t : List UInt8), xV (xX n ++ t) = xV t
  | 0, t => rfl
  | n + 1, t => by
    show xV (32 :: (xX n ++ t)) = _
    rw [xV, if_pos rfl, dZ n t]
theorem bareF_free {t : List UInt8} (h : (32 : UInt8) ∉ t) : xV t = t := by
  cases t with
  | nil => rfl
  | cons c l => rw [xV, if_neg (by rintro rfl; exact h (List.mem_cons_self ..))]
theorem bareF_app {t : List UInt8} (n : Nat) (h : (32 : UInt8) ∉ t) (hn : t ≠ []) : xV (t ++ xX n) = t ++ xX n := by
  cases t with
  | nil => exact absurd rfl hn
  | cons c l => rw [List.cons_append, xV, if_neg (by rintro rfl; exact h (List.mem_cons_self ..))]
theorem blanks_rev (n : Nat) : (xX n).reverse = xX n := List.reverse_replicate ..
theorem bareL_blanks {t : List UInt8} (n m : Nat) (h : (32 : UInt8) ∉ t) (hn : t ≠ []) : xU (xX n ++ t ++ xX m) = t := by
  unfold xU
  rw [List.append_assoc, dZ, bareF_app m h hn, List.reverse_append, blanks_rev, dZ, bareF_free (fun e => h (List.mem_reverse.1 e)), List.reverse_reverse]
theorem split44 : ∀ (l : List (List UInt8)), l ≠ [] → (∀ x ∈ l, (44 : UInt8) ∉ x) → yL 44 [] (zW 44 l) = l
  | [], h, _ => absurd rfl h
  | [x], _, h => by
    show yL 44 [] x = [x]
    rw [qX, jQ 44 _ (h x (List.mem_singleton.2 rfl))]; simp
  | x :: y :: r, _, h => by
    rw [zW, qX, mQ 44 _ _ (h x (List.mem_cons_self ..))]
    simp only [List.nil_append, if_true]
    rw [split44 (y :: r) (by simp) fun z hz => h z (List.mem_cons_of_mem _ hz)]
theorem altsL_free : ∀ (x acc : List UInt8), (124 : UInt8) ∉ x → xW acc x = [acc ++ x]
  | [], acc, _ => by simp [xW]
  | [c], acc, _ => rfl
  | c :: d :: r, acc, h => by
    rw [xW, if_neg (by rintro ⟨rfl, _⟩; exact h (List.mem_cons_self ..)), altsL_free (d :: r) _ fun e => h (List.mem_cons_of_mem _ e)]
    simp
theorem altsL_hit : ∀ (x acc t : List UInt8), (124 : UInt8) ∉ x → xW acc (x ++ 124 :: 124 :: t) = (acc ++ x) :: xW [] t
  | [], acc, t, _ => by
    rw [List.nil_append, xW, if_pos ⟨rfl, rfl⟩, List.append_nil]
  | [c], acc, t, h => by
    show xW acc (c :: 124 :: 124 :: t) = _
    rw [xW, if_neg (by rintro ⟨rfl, _⟩; exact h (List.mem_cons_self ..)), xW, if_pos ⟨rfl, rfl⟩]
  | c :: d :: r, acc, t, h => by
    show xW acc (c :: d :: (r ++ 124 :: 124 :: t)) = _
    rw [xW, if_neg (by rintro ⟨rfl, _⟩; exact h (List.mem_cons_self ..))]
    have := altsL_hit (d :: r) (acc ++ [c]) t fun e => h (List.mem_cons_of_mem _ e)
    rw [List.cons_append] at this
    rw [this]; simp
theorem alts_join : ∀ (l : List (List UInt8)), l ≠ [] → (∀ x ∈ l, (124 : UInt8) ∉ x) → xW [] (g9 [124, 124] l) = l
  | [], h, _ => absurd rfl h
  | [x], _, h => altsL_free x [] (h x (List.mem_singleton.2 rfl))
  | x :: y :: r, _, h => by
    rw [vY, List.append_assoc]
    show xW [] (x ++ 124 :: 124 :: g9 [124, 124] (y :: r)) = _
    rw [altsL_hit x [] _ (h x (List.mem_cons_self ..)), alts_join (y :: r) (by simp) fun z hz => h z (List.mem_cons_of_mem _ hz)]
    rfl
theorem altsL_ne : ∀ (s acc : List UInt8), xW acc s ≠ []
  | [], acc => by simp [xW]
  | [c], acc => by simp [xW]
  | c :: d :: r, acc => by
    rw [xW]
    split
    · simp
    · exact altsL_ne (d :: r) _
theorem joinB_cons (sep x : List UInt8) {l : List (List UInt8)} (h : l ≠ []) : g9 sep (x :: l) = x ++ sep ++ g9 sep l := by
  cases l with
  | nil => exact absurd rfl h
  | cons y l => rfl
theorem tZ : ∀ (s acc : List UInt8), ∀ x ∈ xW acc s, x.length ≤ acc.length + s.length
  | [], acc, x, hx => by
    have : x = acc := by simpa [xW] using hx
    subst this; simp
  | [c], acc, x, hx => by
    have : x = acc ++ [c] := by simpa [xW] using hx
    subst this; simp
  | c :: d :: r, acc, x, hx => by
    rw [xW] at hx
    split at hx
    · rcases List.mem_cons.1 hx with rfl | hx
      · simp only [List.length_cons]; omega
      · have := tZ r [] x hx
        simp only [List.length_cons, List.length_nil] at this ⊢; omega
    · have := tZ (d :: r) (acc ++ [c]) x hx
      simp only [List.length_append, List.length_cons, List.length_nil] at this ⊢; omega
theorem pO : ∀ (s acc : List UInt8), (xW acc s).length ≤ s.length + 1
  | [], acc => by simp [xW]
  | [c], acc => by simp [xW]
  | c :: d :: r, acc => by
    rw [xW]
    split
    · have := pO r []; simp only [List.length_cons]; omega
    · have := pO (d :: r) (acc ++ [c]); simp only [List.length_cons] at this ⊢; omega
inductive Two {α β : Type} (R : α → β → Prop) : List α → List β → Prop
  | nil : Two R [] []
  | cons {x : α} {y : β} {l : List α} {m : List β} (h : R x y) (t : Two R l m) : Two R (x :: l) (y :: m)
theorem Two.all {α β : Type} {R : α → β → Prop} {f : α → Option β} : ∀ {l : List α} {m : List β}, Two R l m → (∀ x y, x ∈ l → y ∈ m → R x y → f x = some y) → uF f l = some m
  | _, _, .nil, _ => rfl
  | _, _, .cons h t, hf => allO_cons (hf _ _ (List.mem_cons_self ..) (List.mem_cons_self ..) h) (t.all fun x y hx hy hr => hf x y (List.mem_cons_of_mem _ hx) (List.mem_cons_of_mem _ hy) hr)
theorem Two.left {α β : Type} {R : α → β → Prop} {P : α → Prop} : ∀ {l : List α} {m : List β}, Two R l m → (∀ x y, y ∈ m → R x y → P x) → ∀ x ∈ l, P x
  | _, _, .cons h t, hf, x, hx => by
    rcases List.mem_cons.1 hx with rfl | hx
    · exact hf _ _ (List.mem_cons_self ..) h
    · exact t.left (fun x y hy hr => hf x y (List.mem_cons_of_mem _ hy) hr) x hx
def fC (s : List UInt8) (c : Co) : Prop := ∃ n m, s = xX n ++ c.text ++ xX m
def vO (s : List UInt8) (a : List Co) : Prop := ∃ ps, s = zW 44 ps ∧ Two fC ps a ∧ ps ≠ []
def wM (s : List UInt8) (r : List (List Co)) : Prop := ∃ l, s = g9 [124, 124] l ∧ Two vO l r ∧ l ≠ []
theorem blanks_no (b : UInt8) (hb : b ≠ 32) (n : Nat) : b ∉ xX n := fun h => hb (List.eq_of_mem_replicate h)
theorem text_ne {c : Co} (h : c.may = true) : c.text ≠ [] := by
  intro e
  have := (dO c.text c).2 ⟨h, .inl rfl⟩
  rw [e] at this
  revert this
  have : gV [] = none := by decide
  rw [this]; simp
theorem spellC_no {s : List UInt8} {c : Co} (h : c.may = true) (hs : fC s c) (b : UInt8) (hb : b ≠ 32) (hc : b ∉ c.text) : b ∉ s := by
  obtain ⟨n, m, rfl⟩ := hs
  simp only [List.mem_append, not_or]
  exact ⟨⟨blanks_no b hb n, hc⟩, blanks_no b hb m⟩
theorem spellC_parse {s : List UInt8} {c : Co} (h : c.may = true) (hs : fC s c) : parseP s = some c := by
  obtain ⟨n, m, rfl⟩ := hs
  unfold parseP
  rw [bareL_blanks n m (text_no32 h) (text_ne h), parseC_text h]
theorem join44_free (b : UInt8) (hb : b ≠ 44) : ∀ (l : List (List UInt8)), (∀ x ∈ l, b ∉ x) → b ∉ zW 44 l
  | [], _ => by simp [zW]
  | [x], h => h x (List.mem_singleton.2 rfl)
  | x :: y :: r, h => by
    rw [zW]
    simp only [List.mem_append, List.mem_cons, not_or]
    exact ⟨h x (List.mem_cons_self ..), hb, join44_free b hb (y :: r) fun z hz => h z (List.mem_cons_of_mem _ hz)⟩
theorem spellA_no {s : List UInt8} {a : List Co} (h : ∀ c ∈ a, c.may = true) (hs : vO s a) : (124 : UInt8) ∉ s := by
  obtain ⟨ps, rfl, ht, _⟩ := hs
  exact join44_free 124 (by decide) _ (ht.left fun x c hc hx => spellC_no (h c hc) hx 124 (by decide) (text_no124 (h c hc)))
theorem spellA_parse {s : List UInt8} {a : List Co} (h : ∀ c ∈ a, c.may = true) (hs : vO s a) : nV s = some a := by
  obtain ⟨ps, rfl, ht, hn⟩ := hs
  unfold nV
  rw [split44 ps hn (ht.left fun x c hc hx => spellC_no (h c hc) hx 44 (by decide) (text_no44 (h c hc)))]
  exact ht.all fun x c _ hc hx => spellC_parse (h c hc) hx
theorem spellR_parse {s : List UInt8} {r : List (List Co)} (h : ∀ a ∈ r, ∀ c ∈ a, c.may = true) (hs : wM s r) : gK s = some r := by
  obtain ⟨l, rfl, ht, hn⟩ := hs
  unfold gK
  rw [alts_join l hn (ht.left fun x a ha hx => spellA_no (h a ha) hx)]
  exact ht.all fun x a _ ha hx => spellA_parse (h a ha) hx
theorem blanks_app (n m : Nat) : xX n ++ xX m = xX (n + m) := List.replicate_append_replicate ..
theorem spellC_pad {s : List UInt8} {c : Co} (n m : Nat) (h : fC s c) : fC (xX n ++ s ++ xX m) c := by
  obtain ⟨a, b, rfl⟩ := h
  refine ⟨n + a, b + m, ?_⟩
  rw [← blanks_app, ← blanks_app]
  simp only [List.append_assoc]
theorem joinB_front {sep : List UInt8} (p x : List UInt8) (l : List (List UInt8)) : g9 sep ((p ++ x) :: l) = p ++ g9 sep (x :: l) := by
  cases l with
  | nil => rfl
  | cons y l => rw [vY, vY]; simp only [List.append_assoc]
theorem joinL_front (b : UInt8) (p x : List UInt8) (l : List (List UInt8)) : zW b ((p ++ x) :: l) = p ++ zW b (x :: l) := by
  rw [joinL_B, joinL_B, joinB_front]
theorem spellC_text (c : Co) : fC c.text c := ⟨0, 0, by simp [xX]⟩
theorem fK {s : List UInt8} {a : List Co} (n : Nat) (h : vO s a) : vO (xX n ++ s) a := by
  obtain ⟨ps, rfl, ht, hn⟩ := h
  cases ht with
  | nil => exact absurd rfl hn
  | @cons x c l m hx t =>
    refine ⟨(xX n ++ x) :: l, (joinL_front 44 _ x l).symm, .cons ?_ t, by simp⟩
    have := spellC_pad n 0 hx
    rwa [show xX 0 = [] from rfl, List.append_nil] at this
theorem nO {s : List UInt8} {c : Co} (h : fC s c) : vO s [c] := ⟨[s], rfl, .cons h .nil, by simp⟩
theorem fL {s t : List UInt8} {c : Co} {a : List Co} (h : fC s c) (ha : vO t a) : vO (s ++ 44 :: t) (c :: a) := by
  obtain ⟨ps, rfl, ht, hn⟩ := ha
  refine ⟨s :: ps, ?_, .cons h ht, by simp⟩
  cases ps with
  | nil => exact absurd rfl hn
  | cons y l => rfl
theorem spellA_padR {s : List UInt8} {a : List Co} (n : Nat) (h : vO s a) : vO (s ++ xX n) a := by
  obtain ⟨ps, rfl, ht, hn⟩ := h
  induction ht with
  | nil => exact absurd rfl hn
  | @cons x c l m hx t ih =>
    cases l with
    | nil =>
      cases t
      refine nO ?_
      have := spellC_pad 0 n hx
      rwa [show xX 0 = [] from rfl, List.nil_append] at this
    | cons y l =>
      rw [zW, List.append_assoc, List.cons_append]
      exact fL hx (ih (by simp))
theorem spellR_one {s : List UInt8} {a : List Co} (h : vO s a) : wM s [a] := ⟨[s], rfl, .cons h .nil, by simp⟩
theorem spellR_cons {s t : List UInt8} {a : List Co} {r : List (List Co)} (h : vO s a) (hr : wM t r) : wM (s ++ 124 :: 124 :: t) (a :: r) := by
  obtain ⟨l, rfl, ht, hn⟩ := hr
  refine ⟨s :: l, ?_, .cons h ht, by simp⟩
  rw [joinB_cons _ _ hn]; simp
theorem spellR_padL {s : List UInt8} {r : List (List Co)} (n : Nat) (h : wM s r) : wM (xX n ++ s) r := by
  obtain ⟨l, rfl, ht, hn⟩ := h
  cases ht with
  | nil => exact absurd rfl hn
  | @cons x a l m hx t => exact ⟨(xX n ++ x) :: l, (joinB_front _ x l).symm, .cons (fK n hx) t, by simp⟩
theorem altText_cons (c d : Co) (a : List Co) : yR (c :: d :: a) = c.print ++ [44, 32] ++ yR (d :: a) := rfl
theorem rgText_cons (a b : List Co) (r : List (List Co)) : yZ (a :: b :: r) = yR a ++ [32, 124, 124, 32] ++ yZ (b :: r) := rfl
theorem spell_alt : ∀ (a : List Co), a ≠ [] → (∀ c ∈ a, c.may = true) → vO (yR a) a
  | [], h, _ => absurd rfl h
  | [c], _, h => by
    show vO c.print [c]
    rw [kP (h c (List.mem_singleton.2 rfl))]
    exact nO (spellC_text c)
  | c :: d :: a, _, h => by
    rw [altText_cons, kP (h c (List.mem_cons_self ..)), List.append_assoc]
    exact fL (spellC_text c) (fK 1 (spell_alt (d :: a) (by simp) fun x hx => h x (List.mem_cons_of_mem _ hx)))
theorem spell_rg : ∀ (r : List (List Co)), r ≠ [] → (∀ a ∈ r, a ≠ [] ∧ ∀ c ∈ a, c.may = true) → wM (yZ r) r
  | [], h, _ => absurd rfl h
  | [a], _, h => by
    have h1 := h a (List.mem_singleton.2 rfl)
    exact spellR_one (spell_alt a h1.1 h1.2)
  | a :: b :: r, _, h => by
    have h1 := h a (List.mem_cons_self ..)
    rw [rgText_cons, show yR a ++ [32, 124, 124, 32] ++ yZ (b :: r) = (yR a ++ xX 1) ++ 124 :: 124 :: (xX 1 ++ yZ (b :: r)) from by simp [xX]]
    exact spellR_cons (spellA_padR 1 (spell_alt a h1.1 h1.2)) (spellR_padL 1 (spell_rg (b :: r) (by simp) fun x hx => h x (List.mem_cons_of_mem _ hx)))
theorem tP {r : List (List Co)} (h : fewR r = true) : r ≠ [] ∧ ∀ a ∈ r, a ≠ [] ∧ ∀ c ∈ a, c.may = true := by
  obtain ⟨h1, h2⟩ := fewR.facts h
  refine ⟨fun e => by rw [e] at h1; simp at h1, fun a ha => ?_⟩
  obtain ⟨k1, k2⟩ := fewA.facts (h2 a ha)
  exact ⟨fun e => by rw [e] at k1; simp at k1, k2⟩
theorem parse_spelt {s : List UInt8} {r : List (List Co)} (h : rgMay r = true) (hs : wM s r) (hl : s.length ≤ 96) : x2 s = some r := by
  unfold x2
  rw [if_neg (by omega), spellR_parse (fun a ha => ((tP (rgMay.facts h).1).2 a ha).2) hs]
  simp [Option.filter, h]
theorem parse_text {r : List (List Co)} (h : rgMay r = true) : x2 (yZ r) = some r :=
  parse_spelt h (spell_rg r (tP (rgMay.facts h).1).1 (tP (rgMay.facts h).1).2) (rgMay.facts h).2
theorem wF {s : List UInt8} {r : List (List Co)} (h : x2 s = some r) : kK s = 0 ∧ rgMay r = true ∧ gK s = some r ∧ s.length ≤ 96 := by
  unfold x2 at h
  split at h
  · cases h
  · rename_i hl
    cases hp : gK s with
    | none => rw [hp] at h; cases h
    | some q =>
      rw [hp] at h
      unfold Option.filter at h
      simp only at h
      split at h
      · rename_i hm
        injection h with h
        subst h
        obtain ⟨k1, k2⟩ := rgMay.facts hm
        refine ⟨?_, hm, rfl, by omega⟩
        unfold kK
        rw [if_neg hl, hp]
        simp only
        rw [if_pos k1, if_pos k2]
      · cases h
theorem err_none {s : List UInt8} (h : x2 s = none) : kK s = 3 ∨ kK s = 6 := by
  unfold x2 at h
  unfold kK
  split at h
  · rename_i hl; rw [if_pos hl]; exact .inl rfl
  · rename_i hl
    rw [if_neg hl]
    cases hp : gK s with
    | none => exact .inr rfl
    | some q =>
      rw [hp] at h
      simp only
      cases h1 : fewR q with
      | false => exact .inr rfl
      | true =>
        rw [if_pos rfl]
        by_cases h2 : (yZ q).length ≤ 96
        · exfalso
          have : rgMay q = true := by unfold rgMay; rw [h1, decide_eq_true h2]; rfl
          simp [Option.filter, this] at h
        · rw [if_neg h2]; exact .inl rfl
theorem wide_spelt {s : List UInt8} {r : List (List Co)} (h : rgMay r = true) (hs : wM s r) : (96 < s.length ∧ kK s = 3) ∨ (kK s = 0 ∧ x2 s = some r) := by
  by_cases hl : 96 < s.length
  · exact .inl ⟨hl, by unfold kK; rw [if_pos hl]⟩
  · have := parse_spelt h hs (by omega)
    exact .inr ⟨(wF this).1, this⟩
end
section
theorem nodup_le {α : Type} [DecidableEq α] : ∀ (l m : List α), l.Nodup → (∀ x ∈ l, x ∈ m) → l.length ≤ m.length
  | [], m, _, _ => Nat.zero_le _
  | x :: l, m, hn, hs => by
    have hx := hs x (List.mem_cons_self ..)
    have h1 := List.length_erase_of_mem hx
    have hn2 := List.nodup_cons.1 hn
    have h2 := nodup_le l (m.erase x) hn2.2 fun y hy => (List.mem_erase_of_ne (by rintro rfl; exact hn2.1 hy)).2 (hs y (List.mem_cons_of_mem _ hy))
    have h3 : 0 < m.length := List.length_pos_of_mem hx
    rw [List.length_cons]; omega
def flatC : List Sp → List Cu
  | [] => []
  | s :: l => s.lo :: s.hi :: flatC l
theorem flatC_len : ∀ (l : List Sp), (flatC l).length = 2 * l.length
  | [] => rfl
  | s :: l => by show (flatC l).length + 1 + 1 = 2 * (l.length + 1); rw [flatC_len l]; omega
theorem mM : ∀ {l : List Sp} {x : Cu}, x ∈ flatC l → ∃ s ∈ l, x = s.lo ∨ x = s.hi
  | s :: l, x, h => by
    rcases List.mem_cons.1 h with e | h
    · exact ⟨s, List.mem_cons_self .., .inl e⟩
    · rcases List.mem_cons.1 h with e | h
      · exact ⟨s, List.mem_cons_self .., .inr e⟩
      · obtain ⟨t, ht, e⟩ := mM h
        exact ⟨t, List.mem_cons_of_mem _ ht, e⟩
theorem flatC_nodup : ∀ {l : List Sp}, zJ l = true → (flatC l).Nodup
  | [], _ => List.nodup_nil
  | s :: l, h => by
    have hs := xQ h
    have hm := zX hs
    have hlt := uG hs
    have haf := kU h
    have far : ∀ x ∈ flatC l, zP s.hi x < 0 := fun x hx => by
      obtain ⟨t, ht, e⟩ := mM hx
      have tm := x3 (kN h) t ht
      have t2 := zX tm
      rcases e with rfl | rfl
      · exact haf t ht
      · exact xP hm.2 t2.1 t2.2 (haf t ht) (uG tm)
    have xm : ∀ x ∈ flatC l, x.may = true := fun x hx => by
      obtain ⟨t, ht, e⟩ := mM hx
      have t2 := zX (x3 (kN h) t ht)
      rcases e with rfl | rfl
      · exact t2.1
      · exact t2.2
    refine List.nodup_cons.2 ⟨fun hx => ?_, List.nodup_cons.2 ⟨fun hx => ?_, flatC_nodup (kN h)⟩⟩
    · rcases List.mem_cons.1 hx with e | hx
      · rw [e, kR] at hlt; omega
      · have := xP hm.1 hm.2 (xm _ hx) hlt (far _ hx)
        rw [kR] at this; omega
    · have := far _ hx
      rw [kR] at this; omega
theorem row_half {l : List Sp} {C : List Cu} (h : zJ l = true) (hc : ∀ s ∈ l, s.lo ∈ C ∧ s.hi ∈ C) : 2 * l.length ≤ C.length := by
  rw [← flatC_len]
  refine nodup_le _ _ (flatC_nodup h) fun x hx => ?_
  obtain ⟨s, hs, e⟩ := mM hx
  rcases e with rfl | rfl
  · exact (hc s hs).1
  · exact (hc s hs).2
theorem pK {p : Cu → Cu → Bool} {l : List Sp} (hl : ∀ s ∈ l, s.may = true) (h : zJ (gB p [] (qQ l)) = true) : (gB p [] (qQ l)).length ≤ 1 + l.length := by
  have h1 := row_half h (pL p (· ∈ qQ l) (qQ l) [] (fun c hc => hc) (fun s hs => by simp at hs))
  have h2 := cuts_len hl
  omega
theorem RF.make1 {l : List Sp} {n : Nat} (hl : ∀ s ∈ l, s.may = true) (hn : l.length ≤ n) : RF (u9 l) (1 + n) := ⟨(uN hl).1, by
  have := pK (p := inL l) hl (uN hl).1
  unfold u9; omega⟩
theorem RF.or1 {a b : List Sp} {n m : Nat} (ha : RF a n) (hb : RF b m) : RF (orL a b) (1 + (n + m)) := RF.make1 (dI ha.may hb.may) (by rw [List.length_append]; have := ha.len; have := hb.len; omega)
theorem RF.and1 {a b : List Sp} {n m : Nat} (ha : RF a n) (hb : RF b m) : RF (f7 a b) (1 + (n + m)) := ⟨(and_ok ha.may hb.may).1, by
  have h1 := pK (p := fun c d => inL a c d && inL b c d) (dI ha.may hb.may) (and_ok ha.may hb.may).1
  have := ha.len; have := hb.len
  rw [List.length_append] at h1
  unfold f7; omega⟩
theorem RF.not1 {a : List Sp} {n : Nat} (ha : RF a n) : RF (j0 a) (1 + n) := ⟨(bF ha.may).1, by
  have h1 := pK (p := fun c d => !inL a c d) (x3 ha.may) (bF ha.may).1
  have := ha.len
  unfold j0; omega⟩
theorem RF.rel1 {a : List Sp} {n : Nat} (ha : RF a n) : RF (gD a) (1 + n) := RF.make1 (dU a) (by
  have := List.length_filter_le (fun s : Sp => s.may) (a.map jI)
  rw [List.length_map] at this
  have := ha.len; omega)
theorem SF.or1 {a b : St} {n m : Nat} (ha : SF a n) (hb : SF b m) : SF (orT a b) (1 + (n + m)) := ⟨ha.rel.or1 hb.rel, ha.pre.or1 hb.pre, ha.right.or hb.right⟩
theorem one_r1 (lo hi : Cu) : RF (kA lo hi) 1 := ⟨oneRow_may lo hi, by have := mU [] lo hi; unfold kA; simpa using this⟩
theorem uS (c : Co) : RF c.region 2 := by
  unfold Co.region
  split
  · split
    · exact (one_r1 _ _).not1
    · exact (one_r1 _ _).le (by decide)
  · exact nil_rf.le (by decide)
theorem m9 (c : Co) : RF c.zone 1 := ⟨zone_may, by unfold Co.zone; split <;> simp⟩
def xG (a : List Co) : List Sp := a.foldl (fun l c => f7 l c.region) nI
def xD (a : List Co) : List Sp := a.foldl (fun l c => orL l c.zone) []
def yN (a : List Co) : St := ⟨gD (xG a), f7 (xG a) (xD a)⟩
def x5 (r : List (List Co)) : St := r.foldl (fun s a => orT s (yN a)) gF
def xB (r : List (List Co)) : St := if rgMay r then x5 r else gF
theorem m7 (a : List Co) (c : Co) : xG (a ++ [c]) = f7 (xG a) c.region := by unfold xG; rw [List.foldl_append]; rfl
theorem f9 (a : List Co) (c : Co) : xD (a ++ [c]) = orL (xD a) c.zone := by unfold xD; rw [List.foldl_append]; rfl
theorem wA (r : List (List Co)) (a : List Co) : x5 (r ++ [a]) = orT (x5 r) (yN a) := by unfold x5; rw [List.foldl_append]; rfl
theorem jY {α : Type} {P : List α → Prop} (h0 : P []) (h1 : ∀ l x, P l → P (l ++ [x])) (l : List α) : P l := by
  have : ∀ n (l : List α), l.length = n → P l := by
    intro n
    induction n with
    | zero => intro l hl; rw [List.length_eq_zero_iff.1 hl]; exact h0
    | succ n ih =>
      intro l hl
      have hne : l ≠ [] := by rintro rfl; simp at hl
      rw [← List.dropLast_concat_getLast hne]
      exact h1 _ _ (ih _ (by rw [List.length_dropLast, hl]; rfl))
  exact this _ l rfl
theorem qM (a : List Co) : RF (xG a) (1 + 3 * a.length) :=
  jY (P := fun a => RF (xG a) (1 + 3 * a.length)) whole_rf (fun l x h => by
    rw [m7, List.length_append]
    exact (h.and1 (uS x)).le (by simp; omega)) a
theorem vN (a : List Co) : RF (xD a) (2 * a.length) :=
  jY (P := fun a => RF (xD a) (2 * a.length)) nil_rf (fun l x h => by
    rw [f9, List.length_append]
    exact (h.or1 (m9 x)).le (by simp; omega)) a
theorem uV (a : List Co) : SF (yN a) (2 + 5 * a.length) := ⟨(qM a).rel1.le (by omega), ((qM a).and1 (vN a)).le (by omega), makeRel_right (x3 (qM a).may)⟩
theorem orAll_sf {n : Nat} (r : List (List Co)) : (∀ a ∈ r, a.length ≤ n) → SF (x5 r) (r.length * (3 + 5 * n)) :=
  jY (P := fun r => (∀ a ∈ r, a.length ≤ n) → SF (x5 r) (r.length * (3 + 5 * n))) (fun _ => by rw [List.length_nil, Nat.zero_mul]; exact none_sf) (fun l x h ha => by
    rw [wA, List.length_append]
    have h1 := h fun a hm => ha a (List.mem_append.2 (.inl hm))
    have h2 := (uV x).le (m := 2 + 5 * n) (by have := ha x (by simp); omega)
    refine (h1.or1 h2).le ?_
    show _ ≤ (l.length + 1) * (3 + 5 * n)
    rw [Nat.add_mul, Nat.one_mul]; omega) r
theorem orAll_few {r : List (List Co)} (h : fewR r = true) : SF (x5 r) 198 := by
  obtain ⟨h1, h2⟩ := fewR.facts h
  refine (orAll_sf (n := 6) r fun a ha => ((fewA.facts (h2 a ha)).1).2).le ?_
  show r.length * 33 ≤ 198
  omega
theorem tA (r : List (List Co)) : SF (xB r) 198 := by
  unfold xB
  split
  · rename_i h; exact orAll_few (rgMay.facts h).1
  · exact none_sf.le (by decide)
theorem pP (a : List Co) {x : Cu} (hx : x.may = true) (he : zP x (yJ 1) < 0) : den (xG a) x = a.all fun c => den c.region x :=
  jY (P := fun a => den (xG a) x = a.all fun c => den c.region x) (whole_den hx he) (fun l c h => by
    rw [m7, (and_ok (qM l).may (uS c).may).2 x hx he, h]; simp) a
theorem m6 (a : List Co) {x : Cu} (hx : x.may = true) (he : zP x (yJ 1) < 0) : den (xD a) x = a.any fun c => den c.zone x :=
  jY (P := fun a => den (xD a) x = a.any fun c => den c.zone x) rfl (fun l c h => by
    rw [f9, (or_ok (vN l).may (m9 c).may).2 x hx he, h]; simp) a
theorem altRel_has (a : List Co) {v : Ver} (hv : v.may = true) : xL (xG a) v = a.all fun c => xL c.region v := by
  rw [vH (qM a).may hv, pP a (qC hv) (jL hv)]
  congr 1; funext c; rw [vH (uS c).may hv]
theorem altZone_has (a : List Co) {v : Ver} (hv : v.may = true) : xL (xD a) v = a.any fun c => xL c.zone v := by
  rw [vH (vN a).may hv, m6 a (qC hv) (jL hv)]
  congr 1; funext c; rw [vH (m9 c).may hv]
theorem altSet_has (a : List Co) {v : Ver} (hv : v.may = true) : gS (yN a) v = ((a.all fun c => xL c.region v) && (decide (v.pre = []) || a.any fun c => xL c.zone v)) := by
  rw [has_may (uV a) hv, ← altRel_has a hv, ← altZone_has a hv]
  by_cases hp : v.pre = []
  · rw [if_pos hp, decide_eq_true hp, Bool.true_or, Bool.and_true]
    exact makeRel_has (qM a).may hv hp
  · rw [if_neg hp, decide_eq_false hp, Bool.false_or]
    exact has_and4 (qM a).may (vN a).may hv
theorem bZ (r : List (List Co)) : ∃ n, SF (x5 r) n := by
  have : ∃ n, ∀ a ∈ r, a.length ≤ n := by
    induction r with
    | nil => exact ⟨0, fun a h => by simp at h⟩
    | cons a r ih =>
      obtain ⟨n, h⟩ := ih
      refine ⟨a.length + n, fun b hb => ?_⟩
      rcases List.mem_cons.1 hb with rfl | hb
      · omega
      · have := h b hb; omega
  obtain ⟨n, h⟩ := this
  exact ⟨_, orAll_sf r h⟩
theorem orAll_has (r : List (List Co)) {v : Ver} (hv : v.may = true) : gS (x5 r) v = r.any fun a => gS (yN a) v :=
  jY (P := fun r => gS (x5 r) v = r.any fun a => gS (yN a) v) setHas_none (fun l a h => by
    obtain ⟨n, hl⟩ := bZ l
    rw [wA, setHas_or hl (uV a) hv, h]; simp) r
theorem orAll_rel (r : List (List Co)) {x : Cu} (hx : x.may = true) (he : zP x (yJ 1) < 0) : den (x5 r).rel x = r.any fun a => den (yN a).rel x :=
  jY (P := fun r => den (x5 r).rel x = r.any fun a => den (yN a).rel x) rfl (fun l a h => by
    obtain ⟨n, hl⟩ := bZ l
    rw [wA]
    show den (orL _ _) x = _
    rw [(or_ok hl.rel.may (uV a).rel.may).2 x hx he, h]; simp) r
theorem orAll_pre (r : List (List Co)) {x : Cu} (hx : x.may = true) (he : zP x (yJ 1) < 0) : den (x5 r).pre x = r.any fun a => den (yN a).pre x :=
  jY (P := fun r => den (x5 r).pre x = r.any fun a => den (yN a).pre x) rfl (fun l a h => by
    obtain ⟨n, hl⟩ := bZ l
    rw [wA]
    show den (orL _ _) x = _
    rw [(or_ok hl.pre.may (uV a).pre.may).2 x hx he, h]; simp) r
theorem altRel_perm {a b : List Co} (h : ∀ f : Co → Bool, a.all f = b.all f) : xG a = xG b :=
  jS _ _ (qM a).may (qM b).may fun x hx he => by rw [pP a hx he, pP b hx he, h]
theorem altZone_perm {a b : List Co} (h : ∀ f : Co → Bool, a.any f = b.any f) : xD a = xD b :=
  jS _ _ (vN a).may (vN b).may fun x hx he => by rw [m6 a hx he, m6 b hx he, h]
theorem altSet_rev (a : List Co) : yN a.reverse = yN a := by
  unfold yN
  rw [altRel_perm (a := a.reverse) (b := a) fun f => List.all_reverse .., altZone_perm (a := a.reverse) (b := a) fun f => List.any_reverse ..]
theorem orAll_rev (r : List (List Co)) : x5 (r.map List.reverse).reverse = x5 r := by
  obtain ⟨n, hr⟩ := bZ (r.map List.reverse).reverse
  obtain ⟨m, hq⟩ := bZ r
  have e : ∀ (g : St → Bool), ((r.map List.reverse).reverse.any fun a => g (yN a)) = r.any fun a => g (yN a) := fun g => by
    rw [List.any_reverse, List.any_map]
    congr 1; funext a
    show g (yN a.reverse) = _
    rw [altSet_rev]
  exact St.eq (jS _ _ hr.rel.may hq.rel.may fun x hx he => by rw [orAll_rel _ hx he, orAll_rel r hx he]; exact e fun s => den s.rel x)
    (jS _ _ hr.pre.may hq.pre.may fun x hx he => by rw [orAll_pre _ hx he, orAll_pre r hx he]; exact e fun s => den s.pre x)
theorem altText_rev (a : List Co) : (yR a.reverse).length = (yR a).length := by
  unfold yR
  rw [uU, uU, List.map_map, List.map_map, List.map_reverse, sumN_rev, List.length_map, List.length_map, List.length_reverse]
theorem rgText_rev (r : List (List Co)) : (yZ (r.map List.reverse).reverse).length = (yZ r).length := by
  unfold yZ
  rw [uU, uU, List.map_map, List.map_map, List.map_reverse, sumN_rev, List.map_map]
  simp only [List.length_map, List.length_reverse]
  congr 2
  apply List.map_congr_left
  intro a _
  exact altText_rev a
theorem fewA_rev {a : List Co} (h : fewA a = true) : fewA a.reverse = true := by
  unfold fewA at h ⊢
  rw [List.length_reverse, List.all_reverse]; exact h
theorem rgMay_rev {r : List (List Co)} (h : rgMay r = true) : rgMay (r.map List.reverse).reverse = true := by
  obtain ⟨h1, h2⟩ := rgMay.facts h
  obtain ⟨h3, h4⟩ := fewR.facts h1
  unfold rgMay fewR
  rw [rgText_rev, decide_eq_true h2, List.length_reverse, List.length_map, decide_eq_true h3, List.all_reverse, List.all_map]
  have : r.all (fewA ∘ List.reverse) = true := List.all_eq_true.2 fun a ha => fewA_rev (h4 a ha)
  rw [this]; rfl
theorem rgSet_rev {r : List (List Co)} (h : rgMay r = true) : xB (r.map List.reverse).reverse = xB r := by
  unfold xB
  rw [if_pos h, if_pos (rgMay_rev h), orAll_rev]
theorem rgSet_has {r : List (List Co)} (h : rgMay r = true) {v : Ver} (hv : v.may = true) : gS (xB r) v = r.any fun a => (a.all fun c => xL c.region v) && (decide (v.pre = []) || a.any fun c => xL c.zone v) := by
  unfold xB
  rw [if_pos h, orAll_has r hv]
  congr 1; funext a; exact altSet_has a hv
end
section
theorem uO {W : World} {v : Value} {l : List Int} (hv : ReadsI W W.heap.size v l) (hl : l.length ≤ 9223372036854775807) (i : Nat) (n : Int) (hi : i ≤ 1000000) (hn : 0 < n) (hn2 : n ≤ 1000000) {k : Int} (hk : plc (atL l i) n = k) :
    ∀ w, Below W.heap.size W w → Calls Tryz.prog 51 #[v, .int .i64 i, .int .i64 n] w fun e w' => e = .returned (.int .i64 k) ∧ Below w.heap.size w w' := fun w hb => by
  have h := from_any v l i n w ((hv.below hb).more hb.size) hl hi hn hn2
  rw [hk] at h
  exact h.mono fun _ _ ⟨e1, e2⟩ => ⟨e1, e2 ▸ Below.refl _ _⟩
theorem j9 (v : Int) (n : Nat) (hn : 0 < n) : ∃ k : Nat, plc v n = (k : Int) ∧ k < n := by
  have h := plc_in v n (by omega)
  exact ⟨(plc v n).toNat, (Int.toNat_of_nonneg h.1).symm, by omega⟩
theorem rd_num : ∀ (k : Nat), k < 8 → kL Tryz.prog 3 #[.int .i64 0, .int .i64 1, .int .i64 2, .int .i64 3, .int .i64 0, .int .i64 1, .int .i64 10, .int .i64 9999] k = some (.int .i64 (wB k))
  | 0, _ => by kernel_rfl
  | 1, _ => by kernel_rfl
  | 2, _ => by kernel_rfl
  | 3, _ => by kernel_rfl
  | 4, _ => by kernel_rfl
  | 5, _ => by kernel_rfl
  | 6, _ => by kernel_rfl
  | 7, _ => by kernel_rfl
theorem rd_pre : ∀ (k : Nat), k < 14 → kL Tryz.prog 9 #[.string ⟨#[]⟩, .string ⟨#[]⟩, .string ⟨#[]⟩, .string ⟨#[]⟩, .string ⟨#[48]⟩, .string ⟨#[49]⟩, .string ⟨#[50]⟩, .string ⟨#[49, 49]⟩, .string ⟨#[97]⟩, .string ⟨#[97, 46, 49]⟩, .string ⟨#[97, 46, 98]⟩, .string ⟨#[98]⟩, .string ⟨#[48, 46, 48]⟩, .string ⟨#[114, 99, 46, 49]⟩] k = some (.string (mkS (w0 k)))
  | 0, _ => by kernel_rfl
  | 1, _ => by kernel_rfl
  | 2, _ => by kernel_rfl
  | 3, _ => by kernel_rfl
  | 4, _ => by kernel_rfl
  | 5, _ => by kernel_rfl
  | 6, _ => by kernel_rfl
  | 7, _ => by kernel_rfl
  | 8, _ => by kernel_rfl
  | 9, _ => by kernel_rfl
  | 10, _ => by kernel_rfl
  | 11, _ => by kernel_rfl
  | 12, _ => by kernel_rfl
  | 13, _ => by kernel_rfl
theorem rd_bld : ∀ (k : Nat), k < 6 → kL Tryz.prog 9 #[.string ⟨#[]⟩, .string ⟨#[]⟩, .string ⟨#[]⟩, .string ⟨#[]⟩, .string ⟨#[48, 48, 55]⟩, .string ⟨#[120, 46, 49]⟩] k = some (.string (mkS (bldT k)))
  | 0, _ => by kernel_rfl
  | 1, _ => by kernel_rfl
  | 2, _ => by kernel_rfl
  | 3, _ => by kernel_rfl
  | 4, _ => by kernel_rfl
  | 5, _ => by kernel_rfl
theorem gen_any (v : Value) (l : List Int) (i : Nat) (W : World) (hv : ReadsI W W.heap.size v l) (hl : l.length ≤ 9223372036854775807) (hi : i ≤ 100000) :
    Calls Tryz.prog 26 #[v, .int .i64 (i : Int)] W fun e w' => e = .returned (yF (zL l i)) ∧ Below W.heap.size W w' := by
  obtain ⟨k0, e0, q0⟩ := j9 (atL l i) 8 (by omega)
  have f0 := uO hv hl i 8 (by omega) (by omega) (by omega) e0
  obtain ⟨k1, e1, q1⟩ := j9 (atL l (i + 1)) 8 (by omega)
  have f1 := uO hv hl (i + 1) 8 (by omega) (by omega) (by omega) e1
  obtain ⟨k2, e2, q2⟩ := j9 (atL l (i + 2)) 8 (by omega)
  have f2 := uO hv hl (i + 2) 8 (by omega) (by omega) (by omega) e2
  obtain ⟨k3, e3, q3⟩ := j9 (atL l (i + 3)) 14 (by omega)
  have f3 := uO hv hl (i + 3) 14 (by omega) (by omega) (by omega) e3
  obtain ⟨k4, e4, q4⟩ := j9 (atL l (i + 4)) 6 (by omega)
  have f4 := uO hv hl (i + 4) 6 (by omega) (by omega) (by omega) e4
  have hg : zL l i = ⟨wB k0, wB k1, wB k2, w0 k3, bldT k4⟩ := by unfold zL; rw [show plc (atL l i) 8 = _ from e0, show plc (atL l (i + 1)) 8 = _ from e1, show plc (atL l (i + 2)) 8 = _ from e2, show plc (atL l (i + 3)) 14 = _ from e3, show plc (atL l (i + 4)) 6 = _ from e4]; rfl
  rw [hg]
  refine zQ (n := 41) Tryz.func26 rfl (by kernel_rfl) (by kernel_rfl) (ZO (Za (.agg #[.int .i64 0, .int .i64 0, .int .i64 0, .string ⟨#[]⟩, .string ⟨#[]⟩]) (fun b1 => ZR (Zv (.agg #[.int .i64 0, .int .i64 1, .int .i64 2, .int .i64 3, .int .i64 0, .int .i64 1, .int .i64 10, .int .i64 9999]) (Za (.agg #[.int .i64 0, .int .i64 0, .int .i64 0, .int .i64 0, .int .i64 0, .int .i64 0, .int .i64 0, .int .i64 0]) (fun b2 => Zs 0 ⟨b2, #[.int .i64 0, .int .i64 0, .int .i64 0, .int .i64 0, .int .i64 0, .int .i64 0, .int .i64 0, .int .i64 0], 70⟩ (off := 0) (.agg #[.int .i64 0, .int .i64 1, .int .i64 2, .int .i64 3, .int .i64 0, .int .i64 1, .int .i64 10, .int .i64 9999]) (zN ?_)))))))
  refine zC (ZO (Zv (.agg #[.string ⟨#[]⟩, .string ⟨#[]⟩, .string ⟨#[]⟩, .string ⟨#[]⟩, .string ⟨#[48]⟩, .string ⟨#[49]⟩, .string ⟨#[50]⟩, .string ⟨#[49, 49]⟩, .string ⟨#[97]⟩, .string ⟨#[97, 46, 49]⟩, .string ⟨#[97, 46, 98]⟩, .string ⟨#[98]⟩, .string ⟨#[48, 46, 48]⟩, .string ⟨#[114, 99, 46, 49]⟩]) (Za (.agg #[.string ⟨#[]⟩, .string ⟨#[]⟩, .string ⟨#[]⟩, .string ⟨#[]⟩, .string ⟨#[]⟩, .string ⟨#[]⟩, .string ⟨#[]⟩, .string ⟨#[]⟩, .string ⟨#[]⟩, .string ⟨#[]⟩, .string ⟨#[]⟩, .string ⟨#[]⟩, .string ⟨#[]⟩, .string ⟨#[]⟩]) (fun b3 => Zs 0 ⟨b3, #[.string ⟨#[]⟩, .string ⟨#[]⟩, .string ⟨#[]⟩, .string ⟨#[]⟩, .string ⟨#[]⟩, .string ⟨#[]⟩, .string ⟨#[]⟩, .string ⟨#[]⟩, .string ⟨#[]⟩, .string ⟨#[]⟩, .string ⟨#[]⟩, .string ⟨#[]⟩, .string ⟨#[]⟩, .string ⟨#[]⟩], 71⟩ (off := 0) (.agg #[.string ⟨#[]⟩, .string ⟨#[]⟩, .string ⟨#[]⟩, .string ⟨#[]⟩, .string ⟨#[48]⟩, .string ⟨#[49]⟩, .string ⟨#[50]⟩, .string ⟨#[49, 49]⟩, .string ⟨#[97]⟩, .string ⟨#[97, 46, 49]⟩, .string ⟨#[97, 46, 98]⟩, .string ⟨#[98]⟩, .string ⟨#[48, 46, 48]⟩, .string ⟨#[114, 99, 46, 49]⟩]) (ZR (Zv (.agg #[.string ⟨#[]⟩, .string ⟨#[]⟩, .string ⟨#[]⟩, .string ⟨#[]⟩, .string ⟨#[48, 48, 55]⟩, .string ⟨#[120, 46, 49]⟩]) (Za (.agg #[.string ⟨#[]⟩, .string ⟨#[]⟩, .string ⟨#[]⟩, .string ⟨#[]⟩, .string ⟨#[]⟩, .string ⟨#[]⟩]) (fun b4 => ?_))))))))
  refine Zs 0 ⟨b4, #[.string ⟨#[]⟩, .string ⟨#[]⟩, .string ⟨#[]⟩, .string ⟨#[]⟩, .string ⟨#[]⟩, .string ⟨#[]⟩], 72⟩ (off := 0) (.agg #[.string ⟨#[]⟩, .string ⟨#[]⟩, .string ⟨#[]⟩, .string ⟨#[]⟩, .string ⟨#[48, 48, 55]⟩, .string ⟨#[120, 46, 49]⟩]) (ZN (z6 (ok_drawt 30 (by kernel_rfl) (by kernel_rfl) (by kernel_rfl) ?_)))
  simp only [List.take_succ_cons, List.take_zero, List.drop_succ_cons, List.drop_zero]
  refine Zw (v) (Zw (.int .i64 ((i : Nat) : Int)) (Zq (k := 51) (args := #[v, .int .i64 ((i : Nat) : Int), .int .i64 8]) (.int .i64 (k0 : Int)) (fun w hO => f0 w hO.below) (kW (.pointer (some ⟨b2, k0, none⟩)) (by kernel_rfl) (bU (b := b2) (off := 0) (k := .i64) (j := (k0 : Int)) (n := 8) (e := 3) (sz := 1) rfl (by kernel_rfl) (by kernel_rfl) (by kernel_rfl) (by kernel_rfl) (by omega) (by omega) (by omega)) (fP 2 ⟨b2, #[.int .i64 0, .int .i64 1, .int .i64 2, .int .i64 3, .int .i64 0, .int .i64 1, .int .i64 10, .int .i64 9999], 70⟩ (off := k0) (.int .i64 (wB k0)) (by kernel_rfl) rfl (by kernel_rfl) (by kernel_rfl) (rd_num k0 q0) (Zw (v) (Zw (.int .i64 ((i : Nat) : Int)) (q_sum (k := .i64) (((i + 1 : Nat) : Int)) (by kernel_rfl) (fun _ => by kernel_rfl) (IntWalk.i64_in _ (by omega)) (Zq (k := 51) (args := #[v, .int .i64 ((i + 1 : Nat) : Int), .int .i64 8]) (.int .i64 (k1 : Int)) (fun w hO => f1 w hO.below) (kW (.pointer (some ⟨b2, k1, none⟩)) (by kernel_rfl) (bU (b := b2) (off := 0) (k := .i64) (j := (k1 : Int)) (n := 8) (e := 3) (sz := 1) rfl (by kernel_rfl) (by kernel_rfl) (by kernel_rfl) (by kernel_rfl) (by omega) (by omega) (by omega)) (fP 2 ⟨b2, #[.int .i64 0, .int .i64 1, .int .i64 2, .int .i64 3, .int .i64 0, .int .i64 1, .int .i64 10, .int .i64 9999], 70⟩ (off := k1) (.int .i64 (wB k1)) (by kernel_rfl) rfl (by kernel_rfl) (by kernel_rfl) (rd_num k1 q1) (Zw (v) ?_)))))))))))
  refine Zw (.int .i64 ((i : Nat) : Int)) (q_sum (k := .i64) (((i + 2 : Nat) : Int)) (by kernel_rfl) (fun _ => by kernel_rfl) (IntWalk.i64_in _ (by omega)) (Zq (k := 51) (args := #[v, .int .i64 ((i + 2 : Nat) : Int), .int .i64 8]) (.int .i64 (k2 : Int)) (fun w hO => f2 w hO.below) (kW (.pointer (some ⟨b2, k2, none⟩)) (by kernel_rfl) (bU (b := b2) (off := 0) (k := .i64) (j := (k2 : Int)) (n := 8) (e := 3) (sz := 1) rfl (by kernel_rfl) (by kernel_rfl) (by kernel_rfl) (by kernel_rfl) (by omega) (by omega) (by omega)) (fP 2 ⟨b2, #[.int .i64 0, .int .i64 1, .int .i64 2, .int .i64 3, .int .i64 0, .int .i64 1, .int .i64 10, .int .i64 9999], 70⟩ (off := k2) (.int .i64 (wB k2)) (by kernel_rfl) rfl (by kernel_rfl) (by kernel_rfl) (rd_num k2 q2) (Zw (v) (Zw (.int .i64 ((i : Nat) : Int)) (q_sum (k := .i64) (((i + 3 : Nat) : Int)) (by kernel_rfl) (fun _ => by kernel_rfl) (IntWalk.i64_in _ (by omega)) (Zq (k := 51) (args := #[v, .int .i64 ((i + 3 : Nat) : Int), .int .i64 14]) (.int .i64 (k3 : Int)) (fun w hO => f3 w hO.below) (kW (.pointer (some ⟨b3, k3, none⟩)) (by kernel_rfl) (bU (b := b3) (off := 0) (k := .i64) (j := (k3 : Int)) (n := 14) (e := 9) (sz := 1) rfl (by kernel_rfl) (by kernel_rfl) (by kernel_rfl) (by kernel_rfl) (by omega) (by omega) (by omega)) (fP 1 ⟨b3, #[.string ⟨#[]⟩, .string ⟨#[]⟩, .string ⟨#[]⟩, .string ⟨#[]⟩, .string ⟨#[48]⟩, .string ⟨#[49]⟩, .string ⟨#[50]⟩, .string ⟨#[49, 49]⟩, .string ⟨#[97]⟩, .string ⟨#[97, 46, 49]⟩, .string ⟨#[97, 46, 98]⟩, .string ⟨#[98]⟩, .string ⟨#[48, 46, 48]⟩, .string ⟨#[114, 99, 46, 49]⟩], 71⟩ (off := k3) (.string (mkS (w0 k3))) (by kernel_rfl) rfl (by kernel_rfl) (by kernel_rfl) (rd_pre k3 q3) (Zw (v) ?_)))))))))))
  refine Zw (.int .i64 ((i : Nat) : Int)) (q_sum (k := .i64) (((i + 4 : Nat) : Int)) (by kernel_rfl) (fun _ => by kernel_rfl) (IntWalk.i64_in _ (by omega)) (Zq (k := 51) (args := #[v, .int .i64 ((i + 4 : Nat) : Int), .int .i64 6]) (.int .i64 (k4 : Int)) (fun w hO => f4 w hO.below) (kW (.pointer (some ⟨b4, k4, none⟩)) (by kernel_rfl) (bU (b := b4) (off := 0) (k := .i64) (j := (k4 : Int)) (n := 6) (e := 9) (sz := 1) rfl (by kernel_rfl) (by kernel_rfl) (by kernel_rfl) (by kernel_rfl) (by omega) (by omega) (by omega)) (fP 0 ⟨b4, #[.string ⟨#[]⟩, .string ⟨#[]⟩, .string ⟨#[]⟩, .string ⟨#[]⟩, .string ⟨#[48, 48, 55]⟩, .string ⟨#[120, 46, 49]⟩], 72⟩ (off := k4) (.string (mkS (bldT k4))) (by kernel_rfl) rfl (by kernel_rfl) (by kernel_rfl) (rd_bld k4 q4) (Zw (.agg #[.int .i64 (wB k0), .int .i64 (wB k1), .int .i64 (wB k2), .string (mkS (w0 k3)), .string (mkS (bldT k4))]) (qO (Zs 3 ⟨b1, #[.int .i64 0, .int .i64 0, .int .i64 0, .string ⟨#[]⟩, .string ⟨#[]⟩], 44⟩ (off := 0) (.agg #[.int .i64 (wB k0), .int .i64 (wB k1), .int .i64 (wB k2), .string (mkS (w0 k3)), .string (mkS (bldT k4))]) (ZN (zA (ZC 3 ⟨b1, #[.int .i64 (wB k0), .int .i64 (wB k1), .int .i64 (wB k2), .string (mkS (w0 k3)), .string (mkS (bldT k4))], 44⟩ (off := 0) (.agg #[.int .i64 (wB k0), .int .i64 (wB k1), .int .i64 (wB k2), .string (mkS (w0 k3)), .string (mkS (bldT k4))]) Tryz.results26 ?_))))))))))
  exact fun w hO => ⟨rfl, hO.below⟩
end
section
def ordSp (c d : Cu) : Sp := if 0 < zP c d then ⟨d, c⟩ else ⟨c, d⟩
def spG (l : List Int) (i n : Nat) : Sp := ordSp (genC l (i + 12 * n - 11)) (genC l (i + 12 * n - 5))
def spansG (l : List Int) (i : Nat) : Nat → List Sp
  | 0 => []
  | n + 1 => (if (spG l i (n + 1)).may then [spG l i (n + 1)] else []) ++ spansG l i n
structure SpI (l : List Int) (i N n : Nat) (z : Int) (u : Value) (acc : List Sp) (ob : List Blk) : Prop where
  z : z = (n : Int)
  sl : SlS u acc ob
  len : acc.length + n ≤ N
  eq : acc ++ spansG l i n = spansG l i N
end
section
def rowG (l : List Int) (i : Nat) : List Sp := u9 (spansG l i (plc (atL l i) (4 + 1 : Nat)).toNat)
end
section
end
section
theorem core_short {v : Ver} (h : v.short) : (kI v).short := ⟨h.1, by show ([] : List UInt8).length ≤ _; exact Nat.zero_le _⟩
theorem next_flat (v : Ver) : (yX v).pre = [] ∧ (yX v).build = [] := by
  cases h : v.may with
  | false => unfold yX; rw [h]; exact ⟨rfl, rfl⟩
  | true =>
    rcases next_is h with ⟨h1, h2, _⟩ | ⟨_, a, b, c, e, _⟩
    · unfold kZ at h1
      rw [h, h2] at h1
      simp at h1
      unfold yX
      simp [h, h2, h1]
      exact ⟨rfl, rfl⟩
    · rw [e]; exact ⟨rfl, rfl⟩
theorem next_short (v : Ver) : (yX v).short := ⟨by rw [(next_flat v).1]; exact Nat.zero_le _, by rw [(next_flat v).2]; exact Nat.zero_le _⟩
theorem relV_short (v : Ver) : (mV v).short := ⟨by show ([] : List UInt8).length ≤ _; exact Nat.zero_le _, by show ([] : List UInt8).length ≤ _; exact Nat.zero_le _⟩
theorem rleast_any (v : Ver) (W : World) : Calls Tryz.prog 97 #[yF v] W fun e w' => e = .returned (.bool (qN v)) ∧ Below W.heap.size W w' := by
  refine zQ (n := 16) Tryz.func97 rfl (by kernel_rfl) (by kernel_rfl) (ZO (Zb (yF v) (fun b1 => Zv (.bool false) (ZR (Zv (.pointer (some ⟨b1, 0, none⟩)) (Zl 0 ⟨b1, (yF v).cells, 44⟩ (off := 0) (.int .i64 v.maj) ?_))))))
  by_cases h1 : (v.maj : Int) = 0
  · refine zV (p := (v.maj : Int) = 0) true (by kernel_rfl) (fun _ => by kernel_rfl) (decide_eq_true (h1)) ?_
    refine Zv (.bool true) (Zv (.pointer (some ⟨b1, 1, none⟩)) (Zl 0 ⟨b1, (yF v).cells, 44⟩ (off := 1) (.int .i64 v.min) ?_))
    by_cases h2 : (v.min : Int) = 0
    · refine zV (p := (v.min : Int) = 0) true (by kernel_rfl) (fun _ => by kernel_rfl) (decide_eq_true (h2)) ?_
      refine Zv (.bool true) (Zv (.bool true) (Zv (.pointer (some ⟨b1, 2, none⟩)) (Zl 0 ⟨b1, (yF v).cells, 44⟩ (off := 2) (.int .i64 v.pat) ?_)))
      by_cases h3 : (v.pat : Int) = 0
      · refine zV (p := (v.pat : Int) = 0) true (by kernel_rfl) (fun _ => by kernel_rfl) (decide_eq_true (h3)) ?_
        exact Zv (.bool true) (Zv (.bool true) (ZN (zA (ZF (.bool true) Tryz.results97 (fun w hO => ⟨by simp [qN, h1, h2, h3], hO.below⟩)))))
      exact Zd (p := (v.pat : Int) = 0) false (decide_eq_false (h3)) (Zv (.bool false) (Zv (.bool false) (ZN (zA (ZF (.bool false) Tryz.results97 (fun w hO => ⟨by simp [qN, h1, h2, h3], hO.below⟩))))))
    refine Zd (p := (v.min : Int) = 0) false (decide_eq_false (h2)) (Zv (.bool false) (Zv (.bool false) (Zk (Zk (Zk (Zv (.bool false) (Zv (.bool false) (ZN (zA (ZF (.bool false) Tryz.results97 ?_))))))))))
    exact fun w hO => ⟨by simp [qN, h1, h2], hO.below⟩
  refine Zd (p := (v.maj : Int) = 0) false (decide_eq_false (h1)) (Zv (.bool false) (Zk (Zk (Zk (Zv (.bool false) (Zv (.bool false) (Zk (Zk (Zk (Zv (.bool false) (Zv (.bool false) ?_)))))))))))
  exact ZN (zA (ZF (.bool false) Tryz.results97 (fun w hO => ⟨by simp [qN, h1], hO.below⟩)))
theorem rright_any (c : Cu) (W : World) : Calls Tryz.prog 55 #[zF c] W fun e w' => e = .returned (.bool (x1 c)) ∧ Below W.heap.size W w' := by
  refine zQ (n := 23) Tryz.func55 rfl (by kernel_rfl) (by kernel_rfl) (ZO (Zb (zF c) (fun b1 => Zv (.bool false) (ZR (Zv (.pointer (some ⟨b1, 0, none⟩)) (Zl 0 ⟨b1, (zF c).cells, 78⟩ (off := 0) (.int .i64 c.e) ?_))))))
  by_cases h1 : (c.e : Int) = 0
  · refine vL (p := (c.e : Int) = 0) true (by kernel_rfl) (fun _ => by kernel_rfl) (decide_eq_true (h1)) ?_
    refine Zv (.bool false) (Zv (.pointer (some ⟨b1, 6, none⟩)) (Zl 0 ⟨b1, (zF c).cells, 78⟩ (off := 6) (.bool c.aft) ?_))
    cases h2 : c.aft with
    | true =>
      refine Zv (.bool false) (Zv (.bool false) (Zk (Zk (Zk (Zk (Zv (.bool false) (Zv (.bool false) (Zk (Zk (Zk (Zk ?_)))))))))))
      exact Zv (.bool false) (Zv (.bool false) (Zv (.bool false) (ZN (zA (ZF (.bool false) Tryz.results55 (fun w hO => ⟨by simp [x1, h1, h2], hO.below⟩))))))
    | false =>
      refine Zv (.bool true) (Zv (.bool true) (Zv (.pointer (some ⟨b1, 1, none⟩)) (Zv (.pointer (some ⟨b1, 4, none⟩)) (Zl 0 ⟨b1, (zF c).cells, 78⟩ (off := 4) (.string (mkS c.v.pre)) ?_))))
      by_cases h3 : (c.v.pre : List UInt8) = []
      · refine zT (.bool true) (by kernel_rfl) (yY (a := c.v.pre) (b := ([])) rfl (by kernel_rfl) (by kernel_rfl) (decide_eq_true (h3))) ?_
        refine Zv (.bool true) (Zv (.bool true) (Zv (.pointer (some ⟨b1, 1, none⟩)) (Zl 0 ⟨b1, (zF c).cells, 78⟩ (off := 1) (.agg #[.int .i64 c.v.maj, .int .i64 c.v.min, .int .i64 c.v.pat, .string (mkS c.v.pre), .string (mkS c.v.build)]) (Zc (k := 97) (args := #[.agg #[.int .i64 c.v.maj, .int .i64 c.v.min, .int .i64 c.v.pat, .string (mkS c.v.pre), .string (mkS c.v.build)]]) (.bool (qN c.v)) (fun w _ => rleast_any c.v w) ?_))))
        cases h4 : qN c.v with
        | true =>
          exact Zv (.bool false) (Zv (.bool false) (Zv (.bool false) (Zv (.bool false) (ZN (zA (ZF (.bool false) Tryz.results55 (fun w hO => ⟨by simp [x1, h1, h2, h3, h4], hO.below⟩)))))))
        | false =>
          exact Zv (.bool true) (Zv (.bool true) (Zv (.bool true) (Zv (.bool true) (ZN (zA (ZF (.bool true) Tryz.results55 (fun w hO => ⟨by simp [x1, h1, h2, h3, h4], hO.below⟩)))))))
      refine zT (.bool false) (by kernel_rfl) (yY (a := c.v.pre) (b := ([])) rfl (by kernel_rfl) (by kernel_rfl) (decide_eq_false (h3))) (Zv (.bool false) (Zv (.bool false) (Zk (Zk (Zk (Zk (Zv (.bool false) (Zv (.bool false) (Zv (.bool false) (zN (zC ?_)))))))))))
      exact zA (ZF (.bool false) Tryz.results55 (fun w hO => ⟨by simp [x1, h1, h2, h3], hO.below⟩))
  refine Zn (p := (c.e : Int) = 0) false (decide_eq_false (h1)) (Zv (.bool true) (Zk (Zk (Zk (Zk (Zk (Zk (Zk (Zk (Zk (Zk ?_)))))))))))
  exact Zk (Zk (Zk (Zk (Zk (Zv (.bool true) (Zv (.bool true) (ZN (zA (ZF (.bool true) Tryz.results55 (fun w hO => ⟨by simp [x1, h1], hO.below⟩))))))))))
end
section
structure SetIn (w : World) (B : Nat) (A A' : Option Addr) (a : St) : Prop where
  rel : Reads x9 w B A a.rel
  pre : Reads x9 w B A' a.pre
  lr : a.rel.length ≤ 100000
  lp : a.pre.length ≤ 100000
  sr : xI a.rel
  sp : xI a.pre
theorem SetIn.on {w w' : World} {B B' : Nat} {A A' : Option Addr} {a : St} (h : SetIn w B A A' a) (hb : Below B w w') (hB : B ≤ B') : SetIn w' B' A A' a := ⟨h.rel.on hb hB, h.pre.on hb hB, h.lr, h.lp, h.sr, h.sp⟩
theorem all_take (p : Sp → Bool) {l : List Sp} {k : Nat} (hk : k < l.length) (h : (l.take k).all p = true) (hs : p l[k] = true) : (l.take (k + 1)).all p = true := by
  rw [List.take_succ_eq_append_getElem hk, List.all_append, h]
  simp [hs]
theorem all_not (p : Sp → Bool) {l : List Sp} {k : Nat} (hk : k < l.length) (hs : p l[k] = false) : l.all p = false := by
  cases h : l.all p with
  | false => rfl
  | true => rw [List.all_eq_true.1 h _ (List.getElem_mem hk)] at hs; cases hs
theorem rsetMay_any (A B : Option Addr) (c d : Nat) (a : St) (W : World) (hs : SetIn W W.heap.size A B a) : Calls Tryz.prog 29 #[.agg #[.slice A a.rel.length c, .slice B a.pre.length d]] W fun e w' => e = .returned (.bool a.may) ∧ Below W.heap.size W w' := by
  refine zQ (n := 39) Tryz.func29 rfl (by kernel_rfl) (by kernel_rfl) (ZO (Zb (.agg #[.slice A a.rel.length c, .slice B a.pre.length d]) (fun b1 => Zv (.bool false) (ZN (z6 (ZO (Zv (.pointer (some ⟨b1, 0, none⟩)) (Zl 0 ⟨b1, #[.slice A a.rel.length c, .slice B a.pre.length d], 31⟩ (off := 0) (.slice A a.rel.length c) ?_))))))))
  refine Zc (k := 54) (args := #[.slice A a.rel.length c]) (.bool (zJ a.rel)) (fun w hO => fN A c a.rel w (hs.rel.on hO.below hO.below.size) (Nat.le_trans hs.lr (by decide)) hs.sr) ?_
  cases h1 : zJ a.rel with
  | true =>
    refine Zv (.bool false) (Zv (.bool false) (Zv (.pointer (some ⟨b1, 1, none⟩)) (Zl 0 ⟨b1, #[.slice A a.rel.length c, .slice B a.pre.length d], 31⟩ (off := 1) (.slice B a.pre.length d) (Zc (k := 54) (args := #[.slice B a.pre.length d]) (.bool (zJ a.pre)) (fun w hO => fN B d a.pre w (hs.pre.on hO.below hO.below.size) (Nat.le_trans hs.lp (by decide)) hs.sp) ?_))))
    cases h2 : zJ a.pre with
    | true =>
      refine Zv (.bool false) (Zv (.bool false) (ZX (ZB (z6 (ZO (Zv (.int .i64 0) (zN ?_)))))))
      refine zC (zI (yT (fun L f m => ∃ (k : Nat) (j : Nat → Value), (k ≤ a.rel.length ∧ (a.rel.take k).all (fun x => x1 x.lo && x1 x.hi) = true) ∧ L = [⟨b1, #[.slice A a.rel.length c, .slice B a.pre.length d], 31⟩] ∧ f = kE j [(1, .pointer (some ⟨b1, 0, none⟩)), (3, .int .i64 (k : Int))] ∧ m = a.rel.length - k) (a.rel.length - 0) ⟨0, _, ⟨Nat.zero_le _, by rw [List.take_zero]; rfl⟩, rfl, ZU, rfl⟩ ?_))
      rintro L f m ⟨k, j, hrel, rfl, rfl, rfl⟩
      have hkl := hrel.1; have hln := hs.lr
      refine z6 (ZO (Zv (.int .i64 (k : Int)) (Zv (.pointer (some ⟨b1, 0, none⟩)) (Zl 0 ⟨b1, #[.slice A a.rel.length c, .slice B a.pre.length d], 31⟩ (off := 0) (.slice A a.rel.length c) (Zv (.int .i64 (a.rel.length : Int)) ?_)))))
      by_cases h3 : (k : Int) < (a.rel.length : Int)
      · have hk : k < a.rel.length := by omega
        obtain ⟨b, off, hA, hlt, hcell⟩ := hs.rel (by omega)
        obtain ⟨s, he⟩ : ∃ s, a.rel[k] = s := ⟨_, rfl⟩
        refine Zd (p := (k : Int) < (a.rel.length : Int)) true (decide_eq_true (h3)) (ZY (ZB (z6 (zI (ZO (Zv (.pointer (some ⟨b1, 0, none⟩)) (Zl 0 ⟨b1, #[.slice A a.rel.length c, .slice B a.pre.length d], 31⟩ (off := 0) (.slice A a.rel.length c) ?_)))))))
        refine Zv (.int .i64 (k : Int)) (zT (.pointer (some ⟨b, off + k * 14, none⟩)) (by kernel_rfl) (ZA (b := b) (off := off) (c := c) (n := a.rel.length) (k := .i64) (j := (k : Int)) (e := 80) (sz := 14) hA) (Zv (.pointer (some ⟨b, off + k * 14 + 0, none⟩)) (Zo (zF s.lo) (a := ⟨b, off + k * 14 + 0, none⟩) (fun w hO => zZ yA (fun j u h => (hO.below.cell (p := ⟨b, off + j, none⟩) hlt).trans (hcell j u h)) k 0 hk (by omega) _ (by rw [he]; kernel_rfl)) (Zc (k := 55) (args := #[zF s.lo]) (.bool (x1 s.lo)) (fun w _ => rright_any s.lo w) ?_))))
        cases h4 : x1 s.lo with
        | true =>
          refine Zv (.bool false) (Zv (.bool false) (Zv (.pointer (some ⟨b1, 0, none⟩)) (Zl 0 ⟨b1, #[.slice A a.rel.length c, .slice B a.pre.length d], 31⟩ (off := 0) (.slice A a.rel.length c) (Zv (.int .i64 (k : Int)) (zT (.pointer (some ⟨b, off + k * 14, none⟩)) (by kernel_rfl) (ZA (b := b) (off := off) (c := c) (n := a.rel.length) (k := .i64) (j := (k : Int)) (e := 80) (sz := 14) hA) (Zv (.pointer (some ⟨b, off + k * 14 + 7, none⟩)) (Zo (zF s.hi) (a := ⟨b, off + k * 14 + 7, none⟩) (fun w hO => zZ yA (fun j u h => (hO.below.cell (p := ⟨b, off + j, none⟩) hlt).trans (hcell j u h)) k 7 hk (by omega) _ (by rw [he]; kernel_rfl)) (Zc (k := 55) (args := #[zF s.hi]) (.bool (x1 s.hi)) (fun w _ => rright_any s.hi w) ?_))))))))
          cases h5 : x1 s.hi with
          | true =>
            refine Zv (.bool false) (Zv (.bool false) (ZX (x4 (zR (zC (z7 (Zv (.int .i64 (k : Int)) (Zu (k := .i64) (((k + 1 : Nat) : Int)) (IntWalk.i64_in _ (by omega)) (Zv (.int .i64 ((k + 1 : Nat) : Int)) ?_)))))))))
            refine zN ?_
            have hnext : (a.rel.take (k + 1)).all (fun x => x1 x.lo && x1 x.hi) = true := all_take _ hk hrel.2 (by simp [he, h1, h2, h3, h4, h5])
            exact zU (m' := a.rel.length - (k + 1)) (by omega) ⟨k + 1, _, ⟨by omega, hnext⟩, rfl, ZU, rfl⟩
          | false =>
            refine Zv (.bool true) (Zv (.bool true) (ZY (ZO (Zv (.bool false) (ZN (zA (zD ?_)))))))
            exact z8 (y7 (zD (z8 (ZF (.bool false) Tryz.results29 (fun w hO => ⟨by unfold St.may; rw [all_not _ hk (by simp [he, h1, h2, h3, h4, h5])]; simp, hO.below⟩)))))
        | false =>
          refine Zv (.bool true) (Zv (.bool true) (Zk (Zk (Zk (Zk (Zk (Zk (Zk (Zk (Zv (.bool true) (zN ?_)))))))))))
          refine zC (Zt (ZO (Zv (.bool false) (ZN (zA (zD (z8 (y7 (zD ?_)))))))))
          exact z8 (ZF (.bool false) Tryz.results29 (fun w hO => ⟨by unfold St.may; rw [all_not _ hk (by simp [he, h1, h2, h3, h4])]; simp, hO.below⟩))
      have hall : a.rel.all (fun x => x1 x.lo && x1 x.hi) = true := by have h := hrel.2; rwa [List.take_of_length_le (by omega)] at h
      refine Zd (p := (k : Int) < (a.rel.length : Int)) false (decide_eq_false (h3)) (ZX (y5 (zB (zM (zH (zC (ZO (Zv (.bool true) ?_))))))))
      exact ZN (zA (ZF (.bool true) Tryz.results29 (fun w hO => ⟨by unfold St.may; simp [hall, h1, h2, h3], hO.below⟩)))
    | false =>
      refine Zv (.bool true) (Zv (.bool true) (ZY (ZO (Zv (.bool false) (ZN (zA (z8 ?_)))))))
      exact ZF (.bool false) Tryz.results29 (fun w hO => ⟨by unfold St.may; simp [h1, h2], hO.below⟩)
  | false =>
    refine Zv (.bool true) (Zv (.bool true) (Zk (Zk (Zk (Zk (Zv (.bool true) (ZY (z6 (z7 ?_)))))))))
    exact Zv (.bool false) (ZN (zA (z8 (ZF (.bool false) Tryz.results29 (fun w hO => ⟨by unfold St.may; simp [h1], hO.below⟩)))))
theorem rsetHas_any (A B : Option Addr) (c d : Nat) (a : St) (v : Ver) (W : World) (hs : SetIn W W.heap.size A B a) (hv : v.short) : Calls Tryz.prog 30 #[.agg #[.slice A a.rel.length c, .slice B a.pre.length d], yF v] W fun e w' => e = .returned (.bool (gS a v)) ∧ Below W.heap.size W w' := by
  refine zQ (n := 24) Tryz.func30 rfl (by kernel_rfl) (by kernel_rfl) (ZO (Zb (.agg #[.slice A a.rel.length c, .slice B a.pre.length d]) (fun b1 => Zb (yF v) (fun b2 => Zv (.bool false) (ZN (z6 (ZO (Zl 1 ⟨b1, #[.slice A a.rel.length c, .slice B a.pre.length d], 31⟩ (off := 0) (.agg #[.slice A a.rel.length c, .slice B a.pre.length d]) ?_))))))))
  refine Zc (k := 29) (args := #[.agg #[.slice A a.rel.length c, .slice B a.pre.length d]]) (.bool a.may) (fun w hO => rsetMay_any A B c d a w (hs.on hO.below hO.size)) ?_
  cases h1 : a.may with
  | true =>
    refine Zv (.bool false) (Zv (.bool false) (Zl 0 ⟨b2, (yF v).cells, 44⟩ (off := 0) (yF v) (Zc (k := 56) (args := #[yF v]) (.bool v.may) (fun w _ => uZ v w hv.1 hv.2) ?_)))
    cases h2 : v.may with
    | true =>
      refine Zv (.bool false) (Zv (.bool false) (ZX (ZB (z6 (ZO (Zv (.pointer (some ⟨b2, 3, none⟩)) (Zl 0 ⟨b2, (yF v).cells, 44⟩ (off := 3) (.string (mkS v.pre)) ?_)))))))
      by_cases h3 : (v.pre : List UInt8) = []
      · refine zT (.bool true) (by kernel_rfl) (yY (a := v.pre) (b := ([])) rfl (by kernel_rfl) (by kernel_rfl) (decide_eq_true (h3))) ?_
        refine ZY (ZO (Zv (.pointer (some ⟨b1, 0, none⟩)) (Zl 1 ⟨b1, #[.slice A a.rel.length c, .slice B a.pre.length d], 31⟩ (off := 0) (.slice A a.rel.length c) (Zl 0 ⟨b2, (yF v).cells, 44⟩ (off := 0) (yF v) (Zc (k := 52) (args := #[.slice A a.rel.length c, yF v]) (.bool (xL a.rel v)) (fun w hO => rrowHas_any A c a.rel v w (hs.rel.on hO.below hO.below.size) (Nat.le_trans hs.lr (by decide)) hs.sr hv) (Zv (.bool (xL a.rel v)) (zN (zC ?_))))))))
        exact zA (z8 (ZF (.bool (xL a.rel v)) Tryz.results30 (fun w hO => ⟨by simp [gS, h1, h2, h3], hO.below⟩)))
      refine zT (.bool false) (by kernel_rfl) (yY (a := v.pre) (b := ([])) rfl (by kernel_rfl) (by kernel_rfl) (decide_eq_false (h3))) (ZX (ZB (ZO (Zv (.pointer (some ⟨b1, 1, none⟩)) (Zl 1 ⟨b1, #[.slice A a.rel.length c, .slice B a.pre.length d], 31⟩ (off := 1) (.slice B a.pre.length d) (Zl 0 ⟨b2, (yF v).cells, 44⟩ (off := 0) (yF v) (Zc (k := 52) (args := #[.slice B a.pre.length d, yF v]) (.bool (xL a.pre v)) (fun w hO => rrowHas_any B d a.pre v w (hs.pre.on hO.below hO.below.size) (Nat.le_trans hs.lp (by decide)) hs.sp hv) ?_)))))))
      exact Zv (.bool (xL a.pre v)) (ZN (zA (ZF (.bool (xL a.pre v)) Tryz.results30 (fun w hO => ⟨by simp [gS, h1, h2, h3], hO.below⟩))))
    | false =>
      refine Zv (.bool true) (Zv (.bool true) (ZY (ZO (Zv (.bool false) (ZN (zA (z8 ?_)))))))
      exact ZF (.bool false) Tryz.results30 (fun w hO => ⟨by simp [gS, h1, h2], hO.below⟩)
  | false =>
    refine Zv (.bool true) (Zv (.bool true) (Zk (Zk (Zk (Zv (.bool true) (ZY (ZO (Zv (.bool false) ?_))))))))
    exact ZN (zA (z8 (ZF (.bool false) Tryz.results30 (fun w hO => ⟨by simp [gS, h1], hO.below⟩))))
theorem rsetSame_any (A B A' B' : Option Addr) (c d c' d' : Nat) (a b : St) (W : World) (hs : SetIn W W.heap.size A B a) (ht : SetIn W W.heap.size A' B' b) : Calls Tryz.prog 17 #[.agg #[.slice A a.rel.length c, .slice B a.pre.length d], .agg #[.slice A' b.rel.length c', .slice B' b.pre.length d']] W fun e w' => e = .returned (.bool (decide (a.rel = b.rel) && decide (a.pre = b.pre))) ∧ Below W.heap.size W w' := by
  refine zQ (n := 17) Tryz.func17 rfl (by kernel_rfl) (by kernel_rfl) (ZO (Zb (.agg #[.slice A a.rel.length c, .slice B a.pre.length d]) (fun b1 => Zb (.agg #[.slice A' b.rel.length c', .slice B' b.pre.length d']) (fun b2 => Zv (.bool false) (ZR (Zv (.pointer (some ⟨b1, 0, none⟩)) (Zl 1 ⟨b1, #[.slice A a.rel.length c, .slice B a.pre.length d], 31⟩ (off := 0) (.slice A a.rel.length c) ?_)))))))
  refine Zv (.pointer (some ⟨b2, 0, none⟩)) (Zl 0 ⟨b2, #[.slice A' b.rel.length c', .slice B' b.pre.length d'], 31⟩ (off := 0) (.slice A' b.rel.length c') (Zc (k := 46) (args := #[.slice A a.rel.length c, .slice A' b.rel.length c']) (.bool (decide (a.rel = b.rel))) (fun w hO => rsame_any A A' c c' a.rel b.rel w (hs.rel.on hO.below hO.size) (ht.rel.on hO.below hO.size) (Nat.le_trans hs.lr (by decide)) (Nat.le_trans ht.lr (by decide))) (Zv (.bool (decide (a.rel = b.rel))) ?_)))
  cases h1 : decide (a.rel = b.rel) with
  | true =>
    exact Zv (.pointer (some ⟨b1, 1, none⟩)) (Zl 1 ⟨b1, #[.slice A a.rel.length c, .slice B a.pre.length d], 31⟩ (off := 1) (.slice B a.pre.length d) (Zv (.pointer (some ⟨b2, 1, none⟩)) (Zl 0 ⟨b2, #[.slice A' b.rel.length c', .slice B' b.pre.length d'], 31⟩ (off := 1) (.slice B' b.pre.length d') (Zc (k := 46) (args := #[.slice B a.pre.length d, .slice B' b.pre.length d']) (.bool (decide (a.pre = b.pre))) (fun w hO => rsame_any B B' d d' a.pre b.pre w (hs.pre.on hO.below hO.size) (ht.pre.on hO.below hO.size) (Nat.le_trans hs.lp (by decide)) (Nat.le_trans ht.lp (by decide))) (Zv (.bool (decide (a.pre = b.pre))) (Zv (.bool (decide (a.pre = b.pre))) (ZN (zA (ZF (.bool (decide (a.pre = b.pre))) Tryz.results17 (fun w hO => ⟨by simp [h1], hO.below⟩))))))))))
  | false =>
    exact Zk (Zk (Zk (Zk (Zk (Zv (.bool false) (Zv (.bool false) (ZN (zA (ZF (.bool false) Tryz.results17 (fun w hO => ⟨by simp [h1], hO.below⟩))))))))))
end
section
section
variable {M : List Nat} {P : Program} {n : Nat} {ops : Array Oper} {W : World} {L0 : List Blk} {Q : Exit → Act → World → Prop} {fuel : Nat} {listed : Array Bool} {L : List Blk} {f : Nat → Value}
theorem h_drop (E : List Blk) (h : j3 M P n ops W L0 Q fuel listed L0 f) : j3 M P n ops W L0 Q fuel listed (E ++ L0) f := ⟨fun w hO => h.go w (Own.sub E hO)⟩
theorem hs_front {i : Nat} {E E' : List Blk} (p : E.Perm E') (h : wN M P n ops W L0 Q fuel listed i (E' ++ L0) f) : wN M P n ops W L0 Q fuel listed i (E ++ L0) f := ⟨fun w hO => h.go w (hO.perm (p.append_right L0))⟩
end
theorem qP {M : List Nat} {W w : World} {L : List Blk} (h : Own M W w L) : Own M W w [] := h.sublist (List.nil_sublist _)
theorem own_mid {M : List Nat} {W w : World} {x : Blk} {A B L0 : List Blk} (h : Own M W w ((x :: (A ++ (B ++ []))) ++ L0)) : Own M W w (A ++ B) := by
  rw [List.append_nil] at h
  exact h.sublist ((List.sublist_append_left (A ++ B) L0).cons x)
end
section
theorem wV {A : Option Addr} {n c : Nat} {l : List Sp} {ob : List Blk} (h : SlS (.slice A n c) l ob) : l.length ≤ c := by
  rcases h.2 with ⟨h1, h2, _⟩ | ⟨g, c', cur, h1, _, h3, _⟩
  · rw [h2]; exact Nat.zero_le _
  · simp only [Value.slice.injEq] at h1
    rw [h1.2.2]; exact h3
def SetO (v : Value) (a : St) (ob : List Blk) : Prop := ∃ v1 v2 o1 o2, v = .agg #[v1, v2] ∧ ob = o2 ++ o1 ∧ SlS v1 a.rel o1 ∧ SlS v2 a.pre o2
theorem SetO.form {v : Value} {a : St} {ob : List Blk} (h : SetO v a ob) : ∃ A B c d, v = .agg #[.slice A a.rel.length c, .slice B a.pre.length d] := by
  obtain ⟨v1, v2, o1, o2, rfl, _, h1, h2⟩ := h
  obtain ⟨A, c, rfl⟩ := h1.form
  obtain ⟨B, d, rfl⟩ := h2.form
  exact ⟨A, B, c, d, rfl⟩
theorem agg_two {a b c d : Value} (h : (Value.agg #[a, b]) = .agg #[c, d]) : a = c ∧ b = d := by
  injection h with h
  have h2 := congrArg Array.toList h
  simp only [List.cons.injEq, and_true] at h2
  exact h2
theorem SetO.inn {A B : Option Addr} {c d n : Nat} {a : St} {ob L : List Blk} {M : List Nat} {W w : World} (h : SetO (.agg #[.slice A a.rel.length c, .slice B a.pre.length d]) a ob) (hO : Own M W w L) (hob : ∀ x ∈ ob, x ∈ L) (hf : SF a n) (hn : n ≤ 100000) : SetIn w w.heap.size A B a := by
  obtain ⟨v1, v2, o1, o2, e, rfl, h1, h2⟩ := h
  obtain ⟨rfl, rfl⟩ := agg_two e
  exact ⟨Sl.reads h1 rfl hO (fun x hx => hob x (by simp [hx])), Sl.reads h2 rfl hO (fun x hx => hob x (by simp [hx])), Nat.le_trans hf.rel.len hn, Nat.le_trans hf.pre.len hn, hf.rel.short, hf.pre.short⟩
theorem SetO.caps {A B : Option Addr} {c d : Nat} {a : St} {ob : List Blk} (h : SetO (.agg #[.slice A a.rel.length c, .slice B a.pre.length d]) a ob) : a.rel.length ≤ c ∧ a.pre.length ≤ d := by
  obtain ⟨v1, v2, o1, o2, e, rfl, h1, h2⟩ := h
  obtain ⟨rfl, rfl⟩ := agg_two e
  exact ⟨wV h1, wV h2⟩
theorem SetO.none : SetO (.agg #[.slice none 0 0, .slice none 0 0]) gF [] := ⟨_, _, [], [], rfl, rfl, Sl.nil _ _, Sl.nil _ _⟩
end
section
def coV (c : Co) : Value := .agg #[.int .i64 c.op, .int .i64 c.parts, .int .i64 c.v.maj, .int .i64 c.v.min, .int .i64 c.v.pat, .string (mkS c.v.pre), .string (mkS c.v.build)]
def Co.short (c : Co) : Prop := c.v.short
def wP (p : Int) (v : Ver) : Ver := ⟨if p < 1 then 0 else v.maj, if p < 2 then 0 else v.min, if p < 3 then 0 else v.pat, if p < 3 then [] else v.pre, []⟩
def xN (l : List Int) (i : Nat) : Co :=
  ⟨1 + plc (atL l (i + 5)) 9, if 1 + plc (atL l (i + 5)) 9 = 9 then plc (atL l (i + 6)) 3 else 1 + plc (atL l (i + 6)) 3, wP (if 1 + plc (atL l (i + 5)) 9 = 9 then plc (atL l (i + 6)) 3 else 1 + plc (atL l (i + 6)) 3) (zL l i)⟩
theorem told_may {p : Int} {v : Ver} (h : v.may = true) : (wP p v).may = true := by
  obtain ⟨h1, h2, h3⟩ := qE h
  have h4 := dR h
  have k0 : yC 0 = true := by decide
  have kp : qU [] = true := by decide
  have kb : gG [] = true := by decide
  unfold Ver.may wP
  dsimp only
  have e1 : yC (if p < 1 then 0 else v.maj) = true := by split <;> assumption
  have e2 : yC (if p < 2 then 0 else v.min) = true := by split <;> assumption
  have e3 : yC (if p < 3 then 0 else v.pat) = true := by split <;> assumption
  have e4 : qU (if p < 3 then [] else v.pre) = true := by split <;> assumption
  rw [e1, e2, e3, e4, kb]; rfl
theorem genCo_may (l : List Int) (i : Nat) : (xN l i).may = true := by
  have h5 := plc_in (atL l (i + 5)) 9 (by omega)
  have h6 := plc_in (atL l (i + 6)) 3 (by omega)
  unfold xN
  generalize plc (atL l (i + 5)) 9 = a at h5 ⊢
  generalize plc (atL l (i + 6)) 3 = b at h6 ⊢
  unfold Co.may
  dsimp only
  rw [told_may (gen_may l i)]
  have e : (1 ≤ 1 + a ∧ 1 + a ≤ 9) := by omega
  rw [decide_eq_true e, show (wP (if 1 + a = 9 then b else 1 + b) (zL l i)).build = [] from rfl]
  unfold wP
  dsimp only
  by_cases h9 : 1 + a = 9
  · rw [if_pos h9, if_pos h9]
    have : b = 0 ∨ b = 1 ∨ b = 2 := by omega
    rcases this with rfl | rfl | rfl <;> simp
  · rw [if_neg h9, if_neg h9]
    have : b = 0 ∨ b = 1 ∨ b = 2 := by omega
    rcases this with rfl | rfl | rfl <;> simp
theorem told_short {p : Int} {v : Ver} (h : v.pre.length ≤ 1000000) : (wP p v).short := by
  refine ⟨?_, Nat.zero_le _⟩
  unfold wP
  dsimp only
  by_cases hp : p < 3
  · rw [if_pos hp]; exact Nat.zero_le _
  · rw [if_neg hp]; exact h
theorem genCo_short (l : List Int) (i : Nat) : (xN l i).short := told_short (Nat.le_trans (gen_pre l i) (by decide))
end
section
theorem co_dec (u v : Co) : decide (u = v) = (decide (u.op = v.op) && (decide (u.parts = v.parts) && decide (u.v = v.v))) := by
  obtain ⟨a, b, c⟩ := u
  obtain ⟨a', b', c'⟩ := v
  simp only [Co.mk.injEq, Bool.decide_and]
theorem eq_co (u v : Co) (d : Nat) (w : World) : (Op.equalIn (d + 1 + 1 + 1) 51 (coV u) (coV v)).run Tryz.prog w = .ok (decide (u = v)) w := by
  have h := eq_agg (P := Tryz.prog) (d := d + 1 + 1) (t := 51) (xs := (coV u).cells) (ys := (coV v).cells) (bs := [u.op == v.op, u.parts == v.parts, decide (u.v = v.v)]) Tryz.underlying51 (by kernel_rfl)
    ⟨by decide, ⟨.int .i64 u.op, .int .i64 v.op, fun w => ⟨by kernel_rfl, by kernel_rfl, run_equalIn_int w (d + 1) _ _ _ _ _ Tryz.underlying3⟩⟩,
     by decide, ⟨.int .i64 u.parts, .int .i64 v.parts, fun w => ⟨by kernel_rfl, by kernel_rfl, run_equalIn_int w (d + 1) _ _ _ _ _ Tryz.underlying3⟩⟩,
     by decide, ⟨yF u.v, yF v.v, fun w => ⟨by kernel_rfl, by kernel_rfl, eq_ver u.v v.v d w⟩⟩, trivial⟩ w
  rw [all3, mL, mL, ← co_dec] at h
  exact h
theorem guard_co : Tryz.prog.eqGuardType Tryz.prog.depth 51 = false := by kernel_rfl
end
section
theorem rjoin_any (v : Value) (l : List (List UInt8)) (b : UInt8) (w : World) (hv : ReadsT w w.heap.size v l) (hl : (zW b l).length ≤ 1000000000) (hn : l.length ≤ 1000000000) :
    Calls Tryz.prog 127 #[v, .int .u8 b.toNat] w fun e w' => e = .returned (.string (mkS (zW b l))) ∧ Below w.heap.size w w' := by
  have hcv := fun (w : World) (x : Int) => conv1 w x
  obtain ⟨A, cap, rfl, hcell⟩ := hv
  go_enter Tryz.func127, Tryz.ntmps127
  go_wp2
  go_loopw [5, 6] (fun sv iv wr => ∃ (k : Nat), iv = .int .i64 k ∧ k ≤ l.length ∧ sv = .string (mkS (zW b (l.take k))) ∧ Below w.heap.size w wr) (fun _ iv _ => l.length - (intOf iv).toNat)
  case atStart => exact ⟨0, rfl, Nat.zero_le _, rfl, Below.refl _ _⟩
  case round =>
    obtain ⟨k, rfl, hk, rfl, hb⟩ := hrel
    have hsz := hb.size
    by_cases hp : k < l.length
    · obtain ⟨ad, rfl, hlt, hc⟩ := hcell (by omega)
      have hck : wr.cell? (ad.add k) = some (.string (mkS l[k])) := (hb.cell (by rw [fB]; exact hlt)).trans (hc k hp)
      have hln : (zW b (l.take (k + 1))).length ≤ 1000000000 := Nat.le_trans (nC b l (k + 1)) hl
      have HJ := Lib.hid (joinL_snoc b (l.take k) l[k])
      rw [← take_snocL l k hp] at HJ
      clear hc hcell
      by_cases h0 : k = 0
      · subst h0
        have hx1 : (mkS (zW b [])).size ≤ 0 := by rw [d7]; simp [zW]
        have hx2 : (mkS l[0]).size ≤ 1000000000 := by
          rw [d7]; rw [HJ.out, if_pos List.take_zero] at hln; exact hln
        have hck0 : wr.cell? ad = some (.string (mkS l[0])) := hck
        clear hck
        go_wp2
        go_roundw
        case rel => exact ⟨0 + 1, by go_num, by omega, by rw [HJ.out, if_pos List.take_zero, dQ]; rfl, hb⟩
        case measure => simp [intOf]; omega
      · have h0p : 0 < k := by omega
        have hlen : (zW b (l.take k)).length + (l[k].length + 1) ≤ 1000000000 := by
          rw [HJ.out, if_neg (uJ l k hp h0p), List.length_append, List.length_cons] at hln; exact hln
        have hx1 : (mkS (zW b (l.take k))).size + ((mkS l[k]).size + 1) ≤ 1000000000 := by rw [d7, d7]; exact hlen
        have hx2 : (one (b.toNat : Int)).size ≤ 1 := Nat.le_refl _
        have hx3 : (mkS (zW b (l.take k)) ++ one (b.toNat : Int)).size ≤ (mkS (zW b (l.take k))).size + 1 := by rw [ByteArray.size_append]; omega
        clear hlen
        have hck2 := fun o => (World.cell?_alloc_lt wr o (ad.add k) (by rw [fB]; omega)).trans hck
        clear hck
        go_wp2
        go_roundw
        case rel => exact ⟨k + 1, by go_num, by omega, by rw [HJ.out, if_neg (uJ l k hp h0p), one_mk, dQ, dQ, List.append_assoc]; rfl, hb.alloc hsz _⟩
        case measure => simp [intOf]; omega
    · obtain rfl : k = l.length := by omega
      go_wp2
      go_ret
      exact ⟨tB (by rw [List.take_length]), hb⟩
end
section
theorem Reads.load {P : Program} {α : Type} {g : α → List Value} {sz : Nat} (hg : ∀ x, (g x).length = sz) {ty : TypeId} {w : World} {B b off o : Nat} {A : Option Addr} {l : List α} (h : Reads g w B A l) (hA : A = some ⟨b, off, none⟩) (k fo : Nat) (hk : k < l.length) (ho : o = off + k * sz + fo) (v : Value)
    (hr : kL P ty ((g l[k]).drop fo).toArray 0 = some v) : (loadVar ty ⟨b, o, none⟩).run P w = .ok v w := by
  subst hA
  obtain ⟨b', off', e, hlt, hcell⟩ := h (by omega)
  obtain ⟨rfl, rfl⟩ : b = b' ∧ off = off' := by simp at e; exact e
  exact zZ hg hcell k fo hk ho v hr
end
section
def SlT (v : Value) (l : List (List UInt8)) (ob : List Blk) : Prop := Sl 9 1 v l.length (qB l) ob
theorem SlT.form {v : Value} {l : List (List UInt8)} {ob : List Blk} (h : SlT v l ob) : ∃ A cap, v = .slice A l.length cap := by
  rcases h.2 with ⟨h1, h2, _⟩ | ⟨g, cap, cur, h1, _⟩
  · exact ⟨none, 0, by rw [h1, h2]⟩
  · exact ⟨_, _, h1⟩
def pZ (x : List UInt8) : List Value := [.string (mkS x)]
theorem bQ (x : List UInt8) : (pZ x).length = 1 := rfl
theorem uR : ∀ (l : List (List UInt8)), qB l = l.flatMap pZ
  | [] => rfl
  | x :: l => by
    show Value.string (mkS x) :: qB l = [Value.string (mkS x)] ++ l.flatMap pZ
    rw [uR l]; rfl
theorem SlT.reads {A : Option Addr} {n cap : Nat} {l : List (List UInt8)} {ob L : List Blk} {M : List Nat} {W w : World} (h : SlT (.slice A n cap) l ob) (hn : l.length = n) (hO : Own M W w L) (hs : ∀ x ∈ ob, x ∈ L) : Reads pZ w w.heap.size A l := by
  subst hn
  unfold SlT at h
  rw [uR] at h
  exact Sl.reads h rfl hO hs
theorem SlT.readsT {v : Value} {l : List (List UInt8)} {ob L : List Blk} {M : List Nat} {W w : World} (h : SlT v l ob) (hO : Own M W w L) (hs : ∀ x ∈ ob, x ∈ L) : ReadsT w w.heap.size v l := by
  obtain ⟨A, cap, rfl⟩ := h.form
  refine ⟨A, cap, rfl, fun h0 => ?_⟩
  obtain ⟨b, off, e, hlt, hc⟩ := SlT.reads h rfl hO hs h0
  refine ⟨⟨b, off, none⟩, e, hlt, fun j hj => ?_⟩
  rw [xK]
  refine hc j _ ?_
  rw [← uR]
  unfold qB
  rw [List.getElem?_map, List.getElem?_eq_getElem hj]; rfl
theorem slt_lit (l : List (List UInt8)) (b : Nat) (cur : Array Value) (h : cur.toList = qB l) (hm : l.length ≤ maxLen) : SlT (.slice (some ⟨b, 0, none⟩) l.length l.length) l [⟨b, cur, 9⟩] := by
  have hc : cur.toList.length = l.length := by rw [h, vQ]
  refine ⟨by rw [vQ]; omega, .inr ⟨b, l.length, cur, rfl, rfl, Nat.le_refl _, hm, by rw [← Array.length_toList, hc]; omega, ?_⟩⟩
  rw [h]
  exact List.take_of_length_le (by rw [vQ]; omega)
theorem str_cells (l : List (List UInt8)) : ∀ u ∈ qB l, u.oneCell' = true := fun u hu => by
  unfold qB at hu
  obtain ⟨x, _, rfl⟩ := List.mem_map.1 hu; rfl
end
end Go.Proofs.YtkljdpiaghepfaaGreatDoor
