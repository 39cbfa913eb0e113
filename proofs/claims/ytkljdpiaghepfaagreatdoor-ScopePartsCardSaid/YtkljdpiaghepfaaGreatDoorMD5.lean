/-
  What the statement's proof leans on: the ways of walking, tG mathematics, and what the program's functions return; each theorem says on what conditions.
-/
import Derived.Lib.SplitLaws
import Derived.Lib.TrimByte
import Derived.Lib.Join
import Derived.Lib.MakeNoZero
import Derived.Laws.IdiomCopy
import Derived.Shelf.Strings.SplitCore
import Derived.Test.YtkljdpiaghepfaaGreatDoorMD4
set_option maxRecDepth 1000000
set_option maxHeartbeats 8000000
set_option linter.unusedVariables false
set_option linter.unusedSimpArgs false
namespace Go.Proofs.YtkljdpiaghepfaaGreatDoor
open Go.RowKit

section
def coC (c : Co) : List Value := (coV c).cells.toList
theorem fA (c : Co) : (coC c).length = 7 := rfl
theorem co_cells (c : Co) : ∀ u ∈ coC c, u.oneCell' = true := by
  intro u hu
  unfold coC coV at hu
  simp only [Value.cells, List.mem_cons, List.not_mem_nil, or_false] at hu
  rcases hu with rfl | rfl | rfl | rfl | rfl | rfl | rfl <;> rfl
structure Al where
  A : Option Addr
  l : List Co
  cap : Nat
def alC (x : Al) : List Value := [.slice x.A x.l.length x.cap]
theorem vO (x : Al) : (alC x).length = 1 := rfl
theorem al_cells (x : Al) : ∀ u ∈ alC x, u.oneCell' = true := fun u hu => by rw [List.mem_singleton.1 hu]; rfl
def xA (xs : List Al) : List (List Co) := xs.map Al.l
theorem kB (xs : List Al) : (xA xs).length = xs.length := List.length_map ..
theorem fS {xs : List Al} {i : Nat} (hi : i < xs.length) {x : Al} (h : xs[i] = x) : (xA xs)[i]'(by rw [kB]; exact hi) = x.l := by
  unfold xA; rw [List.getElem_map, h]
def ShortA (l : List Co) : Prop := ∀ c ∈ l, c.short
structure RgIn (w : World) (B : Nat) (A : Option Addr) (xs : List Al) : Prop where
  top : Reads alC w B A xs
  each : ∀ x ∈ xs, Reads coC w B x.A x.l
  n : xs.length ≤ 1000
  m : ∀ x ∈ xs, x.l.length ≤ 1000
  short : ∀ x ∈ xs, ShortA x.l
theorem RgIn.on {w w' : World} {B B' : Nat} {A : Option Addr} {xs : List Al} (h : RgIn w B A xs) (hb : Below B w w') (hB : B ≤ B') : RgIn w' B' A xs := ⟨h.top.on hb hB, fun x hx => (h.each x hx).on hb hB, h.n, h.m, h.short⟩
theorem pX {α : Type} {p : α → Prop} {l : List α} {i : Nat} (h : ∀ x ∈ l.take i, p x) (hi : i < l.length) {x : α} (hx : l[i] = x) (hp : p x) : ∀ y ∈ l.take (i + 1), p y := fun y hy => by
  rw [List.take_succ_eq_append_getElem hi] at hy
  rcases List.mem_append.1 hy with hy | hy
  · exact h y hy
  · rw [List.mem_singleton.1 hy, hx]; exact hp
theorem take_end {α : Type} {p : α → Prop} {l : List α} {i : Nat} (h : ∀ x ∈ l.take i, p x) (hi : l.length ≤ i) : ∀ y ∈ l, p y := by rwa [List.take_of_length_le hi] at h
theorem tQ {l : List Co} (h : ¬ (1 ≤ l.length ∧ l.length ≤ 6)) : fewA l = false := by unfold fewA; rw [decide_eq_false h]; rfl
theorem fewA_one {l : List Co} {c : Co} (hm : c ∈ l) (h : c.may = false) : fewA l = false := by
  cases hf : fewA l with
  | false => rfl
  | true => rw [(fewA.facts hf).2 c hm] at h; cases h
theorem fewA_all {l : List Co} (h1 : 1 ≤ l.length ∧ l.length ≤ 6) (h : ∀ c ∈ l, c.may = true) : fewA l = true := by
  unfold fewA; rw [decide_eq_true h1, List.all_eq_true.2 h]; rfl
theorem few_len {xs : List Al} (h : ¬ (1 ≤ xs.length ∧ xs.length ≤ 6)) : fewR (xA xs) = false := by unfold fewR; rw [kB, decide_eq_false h]; rfl
theorem few_one {xs : List Al} {x : Al} (hm : x ∈ xs) (h : fewA x.l = false) : fewR (xA xs) = false := by
  cases hf : fewR (xA xs) with
  | false => rfl
  | true => rw [(fewR.facts hf).2 x.l (List.mem_map.2 ⟨x, hm, rfl⟩)] at h; cases h
theorem few_all {xs : List Al} (h1 : 1 ≤ xs.length ∧ xs.length ≤ 6) (h : ∀ x ∈ xs, fewA x.l = true) : fewR (xA xs) = true := by
  unfold fewR; rw [kB, decide_eq_true h1, List.all_eq_true.2 fun a ha => by obtain ⟨x, hx, rfl⟩ := List.mem_map.1 ha; exact h x hx]; rfl
theorem few_mem {xs : List Al} (h : fewR (xA xs) = true) : (1 ≤ xs.length ∧ xs.length ≤ 6) ∧ ∀ x ∈ xs, (1 ≤ x.l.length ∧ x.l.length ≤ 6) ∧ ∀ c ∈ x.l, c.may = true := by
  obtain ⟨h1, h2⟩ := fewR.facts h
  rw [kB] at h1
  exact ⟨h1, fun x hx => fewA.facts (h2 x.l (List.mem_map.2 ⟨x, hx, rfl⟩))⟩
theorem joinB_step (sep : List UInt8) {l : List (List UInt8)} {i : Nat} (hi : i < l.length) : gI sep (l.take (i + 1)) = (if i = 0 then [] else gI sep (l.take i) ++ sep) ++ l[i] := by
  rw [List.take_succ_eq_append_getElem hi, joinB_snoc]
  by_cases h : i = 0
  · subst h; rfl
  · have hne : l.take i ≠ [] := fun e => by
      have h3 : (l.take i).length = 0 := by rw [e]; rfl
      rw [List.length_take] at h3; omega
    rw [if_neg hne, if_neg h]
theorem uU {l : List Co} {k : Nat} (hk : k < l.length) {c : Co} (hc : l[k] = c) : x3 (l.take (k + 1)) = (if k = 0 then [] else x3 (l.take k) ++ [44, 32]) ++ c.print := by
  unfold x3
  rw [List.map_take, List.map_take, joinB_step _ (by rw [List.length_map]; exact hk), List.getElem_map, hc]
theorem rgText_step {r : List (List Co)} {i : Nat} (hi : i < r.length) {a : List Co} (ha : r[i] = a) : xI (r.take (i + 1)) = (if i = 0 then [] else xI (r.take i) ++ [32, 124, 124, 32]) ++ x3 a := by
  unfold xI
  rw [List.map_take, List.map_take, joinB_step _ (by rw [List.length_map]; exact hi), List.getElem_map, ha]
theorem m8 {c : Co} (h : c.may = true) : c.print.length ≤ 300 := by
  obtain ⟨_, hv, _⟩ := Co.facts h
  have hp := preOk_short (dW hv)
  rw [gE h]
  unfold Co.text Co.rest
  rw [List.length_append]
  have h1 : (y7 c.op).length ≤ 2 := by
    unfold y7
    repeat' split
    all_goals decide
  split
  · have := jR hv c.parts.toNat; omega
  · rw [List.length_append]
    have := qU hv c.parts.toNat
    have : (wT 45 c.v.pre).length ≤ 37 := by
      unfold wT
      split
      · exact Nat.zero_le _
      · rw [List.length_cons]; omega
    omega
end
section
theorem rsfew_any (A : Option Addr) (cap : Nat) (xs : List Al) (W : World) (hv : RgIn W W.heap.size A xs) : Calls Tryz.prog 44 #[.agg #[.slice A xs.length cap]] W fun e w' => e = .returned (.bool (fewR (xA xs))) ∧ Below W.heap.size W w' := by
  have hn := hv.n
  refine zP (n := 58) Tryz.func44 rfl (by kernel_rfl) (by kernel_rfl) (ZO (Zb (.agg #[.slice A xs.length cap]) (fun b1 => Zv (.bool false) (ZN (z6 (ZO (Zv (.pointer (some ⟨b1, 0, none⟩)) (Zl 0 ⟨b1, #[.slice A xs.length cap], 25⟩ (off := 0) (.slice A xs.length cap) ?_))))))))
  refine Zv (.int .i64 (xs.length : Int)) ?_
  by_cases h1 : (xs.length : Int) < 1
  · refine zW (p := (xs.length : Int) < 1) true (by kernel_rfl) (fun _ => by kernel_rfl) (decide_eq_true (h1)) ?_
    refine Zv (.bool true) (Zk (Zk (Zk (Zk (Zv (.bool true) (ZY (ZO (Zv (.bool false) ?_))))))))
    exact ZN (zB (z8 (ZF (.bool false) Tryz.results44 (fun w hO => ⟨by rw [few_len (by omega)], hO.below⟩))))
  refine Zd (p := (xs.length : Int) < 1) false (decide_eq_false (h1)) (Zv (.bool false) (Zv (.pointer (some ⟨b1, 0, none⟩)) (Zl 0 ⟨b1, #[.slice A xs.length cap], 25⟩ (off := 0) (.slice A xs.length cap) (Zv (.int .i64 (xs.length : Int)) ?_))))
  by_cases h2 : (6 : Int) < (xs.length : Int)
  · refine zW (p := (6 : Int) < (xs.length : Int)) true (by kernel_rfl) (fun _ => by kernel_rfl) (decide_eq_true (h2)) ?_
    refine Zv (.bool true) (ZY (ZO (Zv (.bool false) (ZN (zB (z8 (ZF (.bool false) Tryz.results44 ?_)))))))
    exact fun w hO => ⟨by rw [few_len (by omega)], hO.below⟩
  refine Zd (p := (6 : Int) < (xs.length : Int)) false (decide_eq_false (h2)) (Zv (.bool false) (ZX (ZB (z6 (ZO (Zv (.int .i64 0) (zR ?_)))))))
  refine zA (zL (yP (fun L f m => ∃ (i : Nat) (j : Nat → Value), (i ≤ xs.length ∧ ∀ x ∈ xs.take i, fewA x.l = true) ∧ L = [⟨b1, #[.slice A xs.length cap], 25⟩] ∧ f = kG j [(1, .pointer (some ⟨b1, 0, none⟩)), (3, .int .i64 (i : Int))] ∧ m = xs.length - i) (xs.length - 0) ⟨0, _, ⟨Nat.zero_le _, by simp⟩, rfl, ZU, rfl⟩ ?_))
  rintro L f m ⟨i, j, hrel, rfl, rfl, rfl⟩
  have hrel0 := hrel; have hil := hrel.1
  refine z6 (ZO (Zv (.int .i64 (i : Int)) (Zv (.pointer (some ⟨b1, 0, none⟩)) (Zl 0 ⟨b1, #[.slice A xs.length cap], 25⟩ (off := 0) (.slice A xs.length cap) (Zv (.int .i64 (xs.length : Int)) ?_)))))
  by_cases h3 : (i : Int) < (xs.length : Int)
  · have hi : i < xs.length := by omega
    obtain ⟨b, off, hA, hlt, hcell⟩ := hv.top (by omega)
    obtain ⟨x, hx⟩ : ∃ x, xs[i] = x := ⟨_, rfl⟩
    have hxm : x ∈ xs := hx ▸ List.getElem_mem hi
    have hxn := hv.m x hxm
    refine Zd (p := (i : Int) < (xs.length : Int)) true (decide_eq_true (h3)) (ZY (ZB (z6 (zL (z6 (ZO (Zv (.pointer (some ⟨b1, 0, none⟩)) ?_)))))))
    refine Zl 0 ⟨b1, #[.slice A xs.length cap], 25⟩ (off := 0) (.slice A xs.length cap) (Zv (.int .i64 (i : Int)) (zV (.pointer (some ⟨b, off + i * 1, none⟩)) (by kernel_rfl) (ZA (b := b) (off := off) (c := cap) (n := xs.length) (k := .i64) (j := (i : Int)) (e := 47) (sz := 1) hA) (Zo (.slice x.A x.l.length x.cap) (a := ⟨b, off + i * 1, none⟩) (fun w hO => y9 vO (fun j u h => (hO.below.cell (p := ⟨b, off + j, none⟩) hlt).trans (hcell j u h)) i 0 hi (by omega) _ (by rw [hx]; kernel_rfl)) (Zv (.int .i64 (x.l.length : Int)) ?_))))
    by_cases h4 : (x.l.length : Int) < 1
    · refine zW (p := (x.l.length : Int) < 1) true (by kernel_rfl) (fun _ => by kernel_rfl) (decide_eq_true (h4)) ?_
      refine Zv (.bool true) (Zk (Zk (Zk (Zk (Zk (Zk (Zk (Zv (.bool true) (ZN (Zt ?_))))))))))
      refine ZO (Zv (.bool false) (ZN (zB (z8 (zG (z8 (yB (zG (z8 ?_)))))))))
      exact ZF (.bool false) Tryz.results44 (fun w hO => ⟨by rw [few_one hxm (tQ (by omega))], hO.below⟩)
    refine Zd (p := (x.l.length : Int) < 1) false (decide_eq_false (h4)) (Zv (.bool false) (Zv (.pointer (some ⟨b1, 0, none⟩)) (Zl 0 ⟨b1, #[.slice A xs.length cap], 25⟩ (off := 0) (.slice A xs.length cap) (Zv (.int .i64 (i : Int)) (zV (.pointer (some ⟨b, off + i * 1, none⟩)) (by kernel_rfl) (ZA (b := b) (off := off) (c := cap) (n := xs.length) (k := .i64) (j := (i : Int)) (e := 47) (sz := 1) hA) (Zo (.slice x.A x.l.length x.cap) (a := ⟨b, off + i * 1, none⟩) (fun w hO => y9 vO (fun j u h => (hO.below.cell (p := ⟨b, off + j, none⟩) hlt).trans (hcell j u h)) i 0 hi (by omega) _ (by rw [hx]; kernel_rfl)) (Zv (.int .i64 (x.l.length : Int)) ?_)))))))
    by_cases h5 : (6 : Int) < (x.l.length : Int)
    · refine zW (p := (6 : Int) < (x.l.length : Int)) true (by kernel_rfl) (fun _ => by kernel_rfl) (decide_eq_true (h5)) ?_
      refine Zv (.bool true) (ZY (ZO (Zv (.bool false) (ZN (zB (z8 (zG ?_)))))))
      exact z8 (yB (zG (z8 (ZF (.bool false) Tryz.results44 (fun w hO => ⟨by rw [few_one hxm (tQ (by omega))], hO.below⟩)))))
    refine Zd (p := (6 : Int) < (x.l.length : Int)) false (decide_eq_false (h5)) (Zv (.bool false) (ZX (ZB (ZO (Zv (.int .i64 0) (zR (zA ?_)))))))
    refine zL (yP (fun L f m => ∃ (k : Nat) (j : Nat → Value), (k ≤ x.l.length ∧ ∀ c ∈ x.l.take k, c.may = true) ∧ L = [⟨b1, #[.slice A xs.length cap], 25⟩] ∧ f = kG j [(1, .pointer (some ⟨b1, 0, none⟩)), (3, .int .i64 (i : Int)), (4, .int .i64 (k : Int))] ∧ m = x.l.length - k) (x.l.length - 0) ⟨0, _, ⟨Nat.zero_le _, by simp⟩, rfl, ZU, rfl⟩ ?_)
    rintro L f m ⟨k, j, hrel, rfl, rfl, rfl⟩
    have hkl := hrel.1
    refine z6 (ZO (Zv (.int .i64 (k : Int)) (Zv (.pointer (some ⟨b1, 0, none⟩)) (Zl 0 ⟨b1, #[.slice A xs.length cap], 25⟩ (off := 0) (.slice A xs.length cap) (Zv (.int .i64 (i : Int)) (zV (.pointer (some ⟨b, off + i * 1, none⟩)) (by kernel_rfl) (ZA (b := b) (off := off) (c := cap) (n := xs.length) (k := .i64) (j := (i : Int)) (e := 47) (sz := 1) hA) (Zo (.slice x.A x.l.length x.cap) (a := ⟨b, off + i * 1, none⟩) (fun w hO => y9 vO (fun j u h => (hO.below.cell (p := ⟨b, off + j, none⟩) hlt).trans (hcell j u h)) i 0 hi (by omega) _ (by rw [hx]; kernel_rfl)) (Zv (.int .i64 (x.l.length : Int)) ?_))))))))
    by_cases h6 : (k : Int) < (x.l.length : Int)
    · have hk : k < x.l.length := by omega
      obtain ⟨b2, off2, hA2, hlt2, hcell2⟩ := hv.each x hxm (by omega)
      obtain ⟨c, hc⟩ : ∃ c, x.l[k] = c := ⟨_, rfl⟩
      have hcm : c ∈ x.l := hc ▸ List.getElem_mem hk
      have hcS : c.short := hv.short x hxm c hcm
      refine Zd (p := (k : Int) < (x.l.length : Int)) true (decide_eq_true (h6)) (ZY (ZB (z6 (zL (ZO (Zv (.pointer (some ⟨b1, 0, none⟩)) (Zl 0 ⟨b1, #[.slice A xs.length cap], 25⟩ (off := 0) (.slice A xs.length cap) ?_)))))))
      refine Zv (.int .i64 (i : Int)) (zV (.pointer (some ⟨b, off + i * 1, none⟩)) (by kernel_rfl) (ZA (b := b) (off := off) (c := cap) (n := xs.length) (k := .i64) (j := (i : Int)) (e := 47) (sz := 1) hA) (Zo (.slice x.A x.l.length x.cap) (a := ⟨b, off + i * 1, none⟩) (fun w hO => y9 vO (fun j u h => (hO.below.cell (p := ⟨b, off + j, none⟩) hlt).trans (hcell j u h)) i 0 hi (by omega) _ (by rw [hx]; kernel_rfl)) (Zv (.int .i64 (k : Int)) (zV (.pointer (some ⟨b2, off2 + k * 7, none⟩)) (by kernel_rfl) (ZA (b := b2) (off := off2) (c := x.cap) (n := x.l.length) (k := .i64) (j := (k : Int)) (e := 51) (sz := 7) hA2) (Zo (coV c) (a := ⟨b2, off2 + k * 7, none⟩) (fun w hO => y9 fA (fun j u h => (hO.below.cell (p := ⟨b2, off2 + j, none⟩) hlt2).trans (hcell2 j u h)) k 0 hk (by omega) _ (by rw [hc]; kernel_rfl)) (Zc (k := 79) (args := #[coV c]) (.bool c.may) (fun w _ => rcMay_any c w hcS) ?_))))))
      cases h7 : c.may with
      | true =>
        refine Zv (.bool false) (ZX (x5 (zT (zA (z7 (Zv (.int .i64 (k : Int)) (Zu (k := .i64) (((k + 1 : Nat) : Int)) (IntWalk.i64_in _ (by omega)) (Zv (.int .i64 ((k + 1 : Nat) : Int)) (zR ?_)))))))))
        exact zU (m' := x.l.length - (k + 1)) (by omega) ⟨k + 1, _, ⟨by omega, pX hrel.2 hk hc (by assumption)⟩, rfl, ZU, rfl⟩
      | false =>
        refine Zv (.bool true) (ZY (ZO (Zv (.bool false) (ZN (zB (zG (z8 ?_)))))))
        exact yB (zG (zG (z8 (yB (zG (z8 (ZF (.bool false) Tryz.results44 (fun w hO => ⟨by rw [few_one hxm (fewA_one hcm (by assumption))], hO.below⟩))))))))
    refine Zd (p := (k : Int) < (x.l.length : Int)) false (decide_eq_false (h6)) (ZX (y8 (zC (zN (zI (zT (zA (z7 (Zv (.int .i64 (i : Int)) ?_)))))))))
    exact Zu (k := .i64) (((i + 1 : Nat) : Int)) (IntWalk.i64_in _ (by omega)) (Zv (.int .i64 ((i + 1 : Nat) : Int)) (zR (zU (m' := xs.length - (i + 1)) (by omega) ⟨i + 1, _, ⟨by omega, pX hrel0.2 hi hx (fewA_all (by omega) (take_end hrel.2 (by omega)))⟩, rfl, ZU, rfl⟩)))
  refine Zd (p := (i : Int) < (xs.length : Int)) false (decide_eq_false (h3)) (ZX (y8 (zC (zN (zI (zA (ZO (Zv (.bool true) ?_))))))))
  exact ZN (zB (ZF (.bool true) Tryz.results44 (fun w hO => ⟨by rw [few_all (by omega) (take_end hrel.2 (by omega))], hO.below⟩)))
theorem rstext_any (A : Option Addr) (cap : Nat) (xs : List Al) (W : World) (hv : RgIn W W.heap.size A xs) (hf : fewR (xA xs) = true) : Calls Tryz.prog 45 #[.agg #[.slice A xs.length cap]] W fun e w' => e = .returned (.string (mkS (xI (xA xs)))) ∧ Below W.heap.size W w' := by
  have hn := (few_mem hf).1.2
  refine zP (n := 43) Tryz.func45 rfl (by kernel_rfl) (by kernel_rfl) (ZO (Zb (.agg #[.slice A xs.length cap]) (fun b1 => Zv (.string ⟨#[]⟩) (ZR (Zv (.string ⟨#[]⟩) (zR (zA ?_)))))))
  refine z6 (ZO (Zv (.int .i64 0) (ZN (zL (yP (fun L f m => ∃ (i : Nat) (s : List UInt8) (j : Nat → Value), (i ≤ xs.length ∧ s = xI ((xA xs).take i) ∧ s.length ≤ i * 3000) ∧ L = [⟨b1, #[.slice A xs.length cap], 25⟩] ∧ f = kG j [(1, .pointer (some ⟨b1, 0, none⟩)), (3, .string (mkS s)), (4, .int .i64 (i : Int))] ∧ m = xs.length - i) (xs.length - 0) ⟨0, [], _, ⟨Nat.zero_le _, rfl, Nat.zero_le _⟩, rfl, ZU, rfl⟩ ?_)))))
  rintro L f m ⟨i, s, j, hrel, rfl, rfl, rfl⟩
  have hrel0 := hrel; have hil := hrel.1; have hsl := hrel.2.2; have hsq := xP s
  refine z6 (ZO (Zv (.int .i64 (i : Int)) (Zv (.pointer (some ⟨b1, 0, none⟩)) (Zl 0 ⟨b1, #[.slice A xs.length cap], 25⟩ (off := 0) (.slice A xs.length cap) (Zv (.int .i64 (xs.length : Int)) ?_)))))
  by_cases h1 : (i : Int) < (xs.length : Int)
  · have hi : i < xs.length := by omega
    obtain ⟨b, off, hA, hlt, hcell⟩ := hv.top (by omega)
    obtain ⟨x, hx⟩ : ∃ x, xs[i] = x := ⟨_, rfl⟩
    have hxm : x ∈ xs := hx ▸ List.getElem_mem hi
    have hxn := hv.m x hxm
    refine Zd (p := (i : Int) < (xs.length : Int)) true (decide_eq_true (h1)) (ZY (ZB (z6 (zL (z6 (ZO (Zv (.int .i64 (i : Int)) ?_)))))))
    by_cases h2 : (0 : Int) < (i : Int)
    · refine zW (p := (0 : Int) < (i : Int)) true (by kernel_rfl) (fun _ => by kernel_rfl) (decide_eq_true (h2)) ?_
      refine ZY (z7 (Zv (.string (mkS s)) (zV (.string (mkS (s ++ [32, 124, 124, 32]))) (by kernel_rfl) (yU (a := s) (b := [32, 124, 124, 32]) rfl (by kernel_rfl) (by kernel_rfl) (by (try simp only [List.length_append, List.length_cons, List.length_nil]); omega)) (Zv (.string (mkS (s ++ [32, 124, 124, 32]))) (ZR (Zv (.int .i64 0) ?_))))))
      refine ZN (zL ?_)
      obtain ⟨p, hp⟩ : ∃ p, p = (s ++ [32, 124, 124, 32]) := ⟨_, rfl⟩
      have htp : (if i = 0 then [] else xI ((xA xs).take i) ++ [32, 124, 124, 32]) = p := by rw [if_neg (by omega), ← hrel.2.1, hp]
      have hpl : p.length ≤ i * 3000 + 4 := by rw [hp]; (try simp only [List.length_append, List.length_cons, List.length_nil]); omega
      rw [← hp]
      have hxf := (few_mem hf).2 x hxm
      refine yP (fun L f m => ∃ (k : Nat) (t : List UInt8) (j : Nat → Value), (k ≤ x.l.length ∧ t = p ++ x3 (x.l.take k) ∧ t.length ≤ p.length + k * 400) ∧ L = [⟨b1, #[.slice A xs.length cap], 25⟩] ∧ f = kG j [(1, .pointer (some ⟨b1, 0, none⟩)), (3, .string (mkS t)), (4, .int .i64 (i : Int)), (5, .int .i64 (k : Int))] ∧ m = x.l.length - k) (x.l.length - 0) ⟨0, p, _, ⟨Nat.zero_le _, by simp [x3, gI], by omega⟩, rfl, ZU, rfl⟩ ?_
      rintro L f m ⟨k, t, j, hrel, rfl, rfl, rfl⟩
      have hkl := hrel.1; have htl := hrel.2.2; have htq := xP t; have hx6 := hxf.1.2
      refine z6 (ZO (Zv (.int .i64 (k : Int)) (Zv (.pointer (some ⟨b1, 0, none⟩)) (Zl 0 ⟨b1, #[.slice A xs.length cap], 25⟩ (off := 0) (.slice A xs.length cap) (Zv (.int .i64 (i : Int)) (zV (.pointer (some ⟨b, off + i * 1, none⟩)) (by kernel_rfl) (ZA (b := b) (off := off) (c := cap) (n := xs.length) (k := .i64) (j := (i : Int)) (e := 47) (sz := 1) hA) (Zo (.slice x.A x.l.length x.cap) (a := ⟨b, off + i * 1, none⟩) (fun w hO => y9 vO (fun j u h => (hO.below.cell (p := ⟨b, off + j, none⟩) hlt).trans (hcell j u h)) i 0 hi (by omega) _ (by rw [hx]; kernel_rfl)) (Zv (.int .i64 (x.l.length : Int)) ?_))))))))
      by_cases h3 : (k : Int) < (x.l.length : Int)
      · have hk : k < x.l.length := by omega
        obtain ⟨b2, off2, hA2, hlt2, hcell2⟩ := hv.each x hxm (by omega)
        obtain ⟨c, hc⟩ : ∃ c, x.l[k] = c := ⟨_, rfl⟩
        have hcm : c ∈ x.l := hc ▸ List.getElem_mem hk
        have hcS : c.short := hv.short x hxm c hcm
        have hcy := hxf.2 c hcm
        have hcl := m8 hcy
        refine Zd (p := (k : Int) < (x.l.length : Int)) true (decide_eq_true (h3)) (ZY (ZB (z6 (zL (z6 (ZO (Zv (.int .i64 (k : Int)) ?_)))))))
        by_cases h4 : (0 : Int) < (k : Int)
        · refine zW (p := (0 : Int) < (k : Int)) true (by kernel_rfl) (fun _ => by kernel_rfl) (decide_eq_true (h4)) ?_
          refine ZY (z7 (Zv (.string (mkS t)) (zV (.string (mkS (t ++ [44, 32]))) (by kernel_rfl) (yU (a := t) (b := [44, 32]) rfl (by kernel_rfl) (by kernel_rfl) (by (try simp only [List.length_append, List.length_cons, List.length_nil]); omega)) (Zv (.string (mkS (t ++ [44, 32]))) (ZN (z7 (Zv (.string (mkS (t ++ [44, 32]))) (Zv (.pointer (some ⟨b1, 0, none⟩)) ?_))))))))
          refine Zl 0 ⟨b1, #[.slice A xs.length cap], 25⟩ (off := 0) (.slice A xs.length cap) (Zv (.int .i64 (i : Int)) (zV (.pointer (some ⟨b, off + i * 1, none⟩)) (by kernel_rfl) (ZA (b := b) (off := off) (c := cap) (n := xs.length) (k := .i64) (j := (i : Int)) (e := 47) (sz := 1) hA) (Zo (.slice x.A x.l.length x.cap) (a := ⟨b, off + i * 1, none⟩) (fun w hO => y9 vO (fun j u h => (hO.below.cell (p := ⟨b, off + j, none⟩) hlt).trans (hcell j u h)) i 0 hi (by omega) _ (by rw [hx]; kernel_rfl)) (Zv (.int .i64 (k : Int)) (zV (.pointer (some ⟨b2, off2 + k * 7, none⟩)) (by kernel_rfl) (ZA (b := b2) (off := off2) (c := x.cap) (n := x.l.length) (k := .i64) (j := (k : Int)) (e := 51) (sz := 7) hA2) (Zo (coV c) (a := ⟨b2, off2 + k * 7, none⟩) (fun w hO => y9 fA (fun j u h => (hO.below.cell (p := ⟨b2, off2 + j, none⟩) hlt2).trans (hcell2 j u h)) k 0 hk (by omega) _ (by rw [hc]; kernel_rfl)) (Zc (k := 78) (args := #[coV c]) (.string (mkS c.print)) (fun w _ => b8 c w hcS) (zV (.string (mkS ((t ++ [44, 32]) ++ c.print))) (by kernel_rfl) (yU (a := (t ++ [44, 32])) (b := c.print) rfl (by kernel_rfl) (by kernel_rfl) (by (try simp only [List.length_append, List.length_cons, List.length_nil]); omega)) (Zv (.string (mkS ((t ++ [44, 32]) ++ c.print))) (zR (zT ?_)))))))))))
          exact zA (z7 (Zv (.int .i64 (k : Int)) (Zu (k := .i64) (((k + 1 : Nat) : Int)) (IntWalk.i64_in _ (by omega)) (Zv (.int .i64 ((k + 1 : Nat) : Int)) (zR (zU (m' := x.l.length - (k + 1)) (by omega) ⟨k + 1, ((t ++ [44, 32]) ++ c.print), _, ⟨by omega, by rw [hrel.2.1, uU hk hc, if_neg (by omega)]; simp only [List.append_assoc], by have := m8 hcy; (try simp only [List.length_append, List.length_cons, List.length_nil]); omega⟩, rfl, ZU, rfl⟩))))))
        refine Zd (p := (0 : Int) < (k : Int)) false (decide_eq_false (h4)) (ZX (ZB (z7 (Zv (.string (mkS t)) (Zv (.pointer (some ⟨b1, 0, none⟩)) (Zl 0 ⟨b1, #[.slice A xs.length cap], 25⟩ (off := 0) (.slice A xs.length cap) (Zv (.int .i64 (i : Int)) (zV (.pointer (some ⟨b, off + i * 1, none⟩)) (by kernel_rfl) (ZA (b := b) (off := off) (c := cap) (n := xs.length) (k := .i64) (j := (i : Int)) (e := 47) (sz := 1) hA) ?_))))))))
        refine Zo (.slice x.A x.l.length x.cap) (a := ⟨b, off + i * 1, none⟩) (fun w hO => y9 vO (fun j u h => (hO.below.cell (p := ⟨b, off + j, none⟩) hlt).trans (hcell j u h)) i 0 hi (by omega) _ (by rw [hx]; kernel_rfl)) (Zv (.int .i64 (k : Int)) (zV (.pointer (some ⟨b2, off2 + k * 7, none⟩)) (by kernel_rfl) (ZA (b := b2) (off := off2) (c := x.cap) (n := x.l.length) (k := .i64) (j := (k : Int)) (e := 51) (sz := 7) hA2) (Zo (coV c) (a := ⟨b2, off2 + k * 7, none⟩) (fun w hO => y9 fA (fun j u h => (hO.below.cell (p := ⟨b2, off2 + j, none⟩) hlt2).trans (hcell2 j u h)) k 0 hk (by omega) _ (by rw [hc]; kernel_rfl)) (Zc (k := 78) (args := #[coV c]) (.string (mkS c.print)) (fun w _ => b8 c w hcS) (zV (.string (mkS (t ++ c.print))) (by kernel_rfl) (yU (a := t) (b := c.print) rfl (by kernel_rfl) (by kernel_rfl) (by (try simp only [List.length_append, List.length_cons, List.length_nil]); omega)) (Zv (.string (mkS (t ++ c.print))) (zR (zT (zA (z7 (Zv (.int .i64 (k : Int)) ?_)))))))))))
        exact Zu (k := .i64) (((k + 1 : Nat) : Int)) (IntWalk.i64_in _ (by omega)) (Zv (.int .i64 ((k + 1 : Nat) : Int)) (zR (zU (m' := x.l.length - (k + 1)) (by omega) ⟨k + 1, (t ++ c.print), _, ⟨by omega, by rw [hrel.2.1, uU hk hc, if_pos (by omega), show k = 0 by omega]; simp [x3, gI], by have := m8 hcy; (try simp only [List.length_append, List.length_cons, List.length_nil]); omega⟩, rfl, ZU, rfl⟩)))
      refine Zd (p := (k : Int) < (x.l.length : Int)) false (decide_eq_false (h3)) (ZX (y8 (zC (zN (zI (zT (zA (z7 (Zv (.int .i64 (i : Int)) ?_)))))))))
      exact Zu (k := .i64) (((i + 1 : Nat) : Int)) (IntWalk.i64_in _ (by omega)) (Zv (.int .i64 ((i + 1 : Nat) : Int)) (zR (zU (m' := xs.length - (i + 1)) (by omega) ⟨i + 1, t, _, ⟨by omega, by rw [hrel.2.1, List.take_of_length_le (by omega : x.l.length ≤ k), rgText_step (by rw [kB]; exact hi) (fS hi hx), htp], by have := hrel.2.2; have := hxf.1.2; omega⟩, rfl, ZU, rfl⟩)))
    refine Zd (p := (0 : Int) < (i : Int)) false (decide_eq_false (h2)) (ZX (ZB (ZO (Zv (.int .i64 0) (ZN (zL ?_))))))
    obtain ⟨p, hp⟩ : ∃ p, p = s := ⟨_, rfl⟩
    have htp : (if i = 0 then [] else xI ((xA xs).take i) ++ [32, 124, 124, 32]) = p := by rw [if_pos (by omega), hp, hrel.2.1, show i = 0 by omega]; rfl
    have hpl : p.length ≤ i * 3000 + 4 := by rw [hp]; (try simp only [List.length_append, List.length_cons, List.length_nil]); omega
    rw [← hp]
    have hxf := (few_mem hf).2 x hxm
    refine yP (fun L f m => ∃ (k : Nat) (t : List UInt8) (j : Nat → Value), (k ≤ x.l.length ∧ t = p ++ x3 (x.l.take k) ∧ t.length ≤ p.length + k * 400) ∧ L = [⟨b1, #[.slice A xs.length cap], 25⟩] ∧ f = kG j [(1, .pointer (some ⟨b1, 0, none⟩)), (3, .string (mkS t)), (4, .int .i64 (i : Int)), (5, .int .i64 (k : Int))] ∧ m = x.l.length - k) (x.l.length - 0) ⟨0, p, _, ⟨Nat.zero_le _, by simp [x3, gI], by omega⟩, rfl, ZU, rfl⟩ ?_
    rintro L f m ⟨k, t, j, hrel, rfl, rfl, rfl⟩
    have hkl := hrel.1; have htl := hrel.2.2; have htq := xP t; have hx6 := hxf.1.2
    refine z6 (ZO (Zv (.int .i64 (k : Int)) (Zv (.pointer (some ⟨b1, 0, none⟩)) (Zl 0 ⟨b1, #[.slice A xs.length cap], 25⟩ (off := 0) (.slice A xs.length cap) (Zv (.int .i64 (i : Int)) (zV (.pointer (some ⟨b, off + i * 1, none⟩)) (by kernel_rfl) (ZA (b := b) (off := off) (c := cap) (n := xs.length) (k := .i64) (j := (i : Int)) (e := 47) (sz := 1) hA) (Zo (.slice x.A x.l.length x.cap) (a := ⟨b, off + i * 1, none⟩) (fun w hO => y9 vO (fun j u h => (hO.below.cell (p := ⟨b, off + j, none⟩) hlt).trans (hcell j u h)) i 0 hi (by omega) _ (by rw [hx]; kernel_rfl)) (Zv (.int .i64 (x.l.length : Int)) ?_))))))))
    by_cases h5 : (k : Int) < (x.l.length : Int)
    · have hk : k < x.l.length := by omega
      obtain ⟨b2, off2, hA2, hlt2, hcell2⟩ := hv.each x hxm (by omega)
      obtain ⟨c, hc⟩ : ∃ c, x.l[k] = c := ⟨_, rfl⟩
      have hcm : c ∈ x.l := hc ▸ List.getElem_mem hk
      have hcS : c.short := hv.short x hxm c hcm
      have hcy := hxf.2 c hcm
      have hcl := m8 hcy
      refine Zd (p := (k : Int) < (x.l.length : Int)) true (decide_eq_true (h5)) (ZY (ZB (z6 (zL (z6 (ZO (Zv (.int .i64 (k : Int)) ?_)))))))
      by_cases h6 : (0 : Int) < (k : Int)
      · refine zW (p := (0 : Int) < (k : Int)) true (by kernel_rfl) (fun _ => by kernel_rfl) (decide_eq_true (h6)) ?_
        refine ZY (z7 (Zv (.string (mkS t)) (zV (.string (mkS (t ++ [44, 32]))) (by kernel_rfl) (yU (a := t) (b := [44, 32]) rfl (by kernel_rfl) (by kernel_rfl) (by (try simp only [List.length_append, List.length_cons, List.length_nil]); omega)) (Zv (.string (mkS (t ++ [44, 32]))) (ZN (z7 (Zv (.string (mkS (t ++ [44, 32]))) (Zv (.pointer (some ⟨b1, 0, none⟩)) ?_))))))))
        refine Zl 0 ⟨b1, #[.slice A xs.length cap], 25⟩ (off := 0) (.slice A xs.length cap) (Zv (.int .i64 (i : Int)) (zV (.pointer (some ⟨b, off + i * 1, none⟩)) (by kernel_rfl) (ZA (b := b) (off := off) (c := cap) (n := xs.length) (k := .i64) (j := (i : Int)) (e := 47) (sz := 1) hA) (Zo (.slice x.A x.l.length x.cap) (a := ⟨b, off + i * 1, none⟩) (fun w hO => y9 vO (fun j u h => (hO.below.cell (p := ⟨b, off + j, none⟩) hlt).trans (hcell j u h)) i 0 hi (by omega) _ (by rw [hx]; kernel_rfl)) (Zv (.int .i64 (k : Int)) (zV (.pointer (some ⟨b2, off2 + k * 7, none⟩)) (by kernel_rfl) (ZA (b := b2) (off := off2) (c := x.cap) (n := x.l.length) (k := .i64) (j := (k : Int)) (e := 51) (sz := 7) hA2) (Zo (coV c) (a := ⟨b2, off2 + k * 7, none⟩) (fun w hO => y9 fA (fun j u h => (hO.below.cell (p := ⟨b2, off2 + j, none⟩) hlt2).trans (hcell2 j u h)) k 0 hk (by omega) _ (by rw [hc]; kernel_rfl)) (Zc (k := 78) (args := #[coV c]) (.string (mkS c.print)) (fun w _ => b8 c w hcS) (zV (.string (mkS ((t ++ [44, 32]) ++ c.print))) (by kernel_rfl) (yU (a := (t ++ [44, 32])) (b := c.print) rfl (by kernel_rfl) (by kernel_rfl) (by (try simp only [List.length_append, List.length_cons, List.length_nil]); omega)) (Zv (.string (mkS ((t ++ [44, 32]) ++ c.print))) (zR (zT ?_)))))))))))
        exact zA (z7 (Zv (.int .i64 (k : Int)) (Zu (k := .i64) (((k + 1 : Nat) : Int)) (IntWalk.i64_in _ (by omega)) (Zv (.int .i64 ((k + 1 : Nat) : Int)) (zR (zU (m' := x.l.length - (k + 1)) (by omega) ⟨k + 1, ((t ++ [44, 32]) ++ c.print), _, ⟨by omega, by rw [hrel.2.1, uU hk hc, if_neg (by omega)]; simp only [List.append_assoc], by have := m8 hcy; (try simp only [List.length_append, List.length_cons, List.length_nil]); omega⟩, rfl, ZU, rfl⟩))))))
      refine Zd (p := (0 : Int) < (k : Int)) false (decide_eq_false (h6)) (ZX (ZB (z7 (Zv (.string (mkS t)) (Zv (.pointer (some ⟨b1, 0, none⟩)) (Zl 0 ⟨b1, #[.slice A xs.length cap], 25⟩ (off := 0) (.slice A xs.length cap) (Zv (.int .i64 (i : Int)) (zV (.pointer (some ⟨b, off + i * 1, none⟩)) (by kernel_rfl) (ZA (b := b) (off := off) (c := cap) (n := xs.length) (k := .i64) (j := (i : Int)) (e := 47) (sz := 1) hA) ?_))))))))
      refine Zo (.slice x.A x.l.length x.cap) (a := ⟨b, off + i * 1, none⟩) (fun w hO => y9 vO (fun j u h => (hO.below.cell (p := ⟨b, off + j, none⟩) hlt).trans (hcell j u h)) i 0 hi (by omega) _ (by rw [hx]; kernel_rfl)) (Zv (.int .i64 (k : Int)) (zV (.pointer (some ⟨b2, off2 + k * 7, none⟩)) (by kernel_rfl) (ZA (b := b2) (off := off2) (c := x.cap) (n := x.l.length) (k := .i64) (j := (k : Int)) (e := 51) (sz := 7) hA2) (Zo (coV c) (a := ⟨b2, off2 + k * 7, none⟩) (fun w hO => y9 fA (fun j u h => (hO.below.cell (p := ⟨b2, off2 + j, none⟩) hlt2).trans (hcell2 j u h)) k 0 hk (by omega) _ (by rw [hc]; kernel_rfl)) (Zc (k := 78) (args := #[coV c]) (.string (mkS c.print)) (fun w _ => b8 c w hcS) (zV (.string (mkS (t ++ c.print))) (by kernel_rfl) (yU (a := t) (b := c.print) rfl (by kernel_rfl) (by kernel_rfl) (by (try simp only [List.length_append, List.length_cons, List.length_nil]); omega)) (Zv (.string (mkS (t ++ c.print))) (zR (zT (zA (z7 (Zv (.int .i64 (k : Int)) ?_)))))))))))
      exact Zu (k := .i64) (((k + 1 : Nat) : Int)) (IntWalk.i64_in _ (by omega)) (Zv (.int .i64 ((k + 1 : Nat) : Int)) (zR (zU (m' := x.l.length - (k + 1)) (by omega) ⟨k + 1, (t ++ c.print), _, ⟨by omega, by rw [hrel.2.1, uU hk hc, if_pos (by omega), show k = 0 by omega]; simp [x3, gI], by have := m8 hcy; (try simp only [List.length_append, List.length_cons, List.length_nil]); omega⟩, rfl, ZU, rfl⟩)))
    refine Zd (p := (k : Int) < (x.l.length : Int)) false (decide_eq_false (h5)) (ZX (y8 (zC (zN (zI (zT (zA (z7 (Zv (.int .i64 (i : Int)) ?_)))))))))
    exact Zu (k := .i64) (((i + 1 : Nat) : Int)) (IntWalk.i64_in _ (by omega)) (Zv (.int .i64 ((i + 1 : Nat) : Int)) (zR (zU (m' := xs.length - (i + 1)) (by omega) ⟨i + 1, t, _, ⟨by omega, by rw [hrel.2.1, List.take_of_length_le (by omega : x.l.length ≤ k), rgText_step (by rw [kB]; exact hi) (fS hi hx), htp], by have := hrel.2.2; have := hxf.1.2; omega⟩, rfl, ZU, rfl⟩)))
  refine Zd (p := (i : Int) < (xs.length : Int)) false (decide_eq_false (h1)) (ZX (y8 (zC (zN (zI (zA (ZO (Zv (.string (mkS s)) ?_))))))))
  exact Zv (.string (mkS s)) (ZN (zB (ZF (.string (mkS s)) Tryz.results45 (fun w hO => ⟨by rw [hrel.2.1, List.take_of_length_le (by rw [kB]; omega)], hO.below⟩))))
theorem rsMay_any (A : Option Addr) (cap : Nat) (xs : List Al) (W : World) (hv : RgIn W W.heap.size A xs) : Calls Tryz.prog 20 #[.agg #[.slice A xs.length cap]] W fun e w' => e = .returned (.bool (rgMay (xA xs))) ∧ Below W.heap.size W w' := by
  refine zP (n := 11) Tryz.func20 rfl (by kernel_rfl) (by kernel_rfl) (ZO (Zb (.agg #[.slice A xs.length cap]) (fun b1 => Zv (.bool false) (ZR (Zl 0 ⟨b1, #[.slice A xs.length cap], 25⟩ (off := 0) (.agg #[.slice A xs.length cap]) (Zc (k := 44) (args := #[.agg #[.slice A xs.length cap]]) (.bool (fewR (xA xs))) (fun w hO => rsfew_any A cap xs w (hv.on hO.below hO.below.size)) (Zv (.bool (fewR (xA xs))) ?_)))))))
  cases h1 : fewR (xA xs) with
  | true =>
    refine Zl 0 ⟨b1, #[.slice A xs.length cap], 25⟩ (off := 0) (.agg #[.slice A xs.length cap]) (Zc (k := 45) (args := #[.agg #[.slice A xs.length cap]]) (.string (mkS (xI (xA xs)))) (fun w hO => rstext_any A cap xs w (hv.on hO.below hO.below.size) h1) (Zv (.int .i64 ((mkS (xI (xA xs))).size)) ?_))
    by_cases h2 : ((mkS (xI (xA xs))).size : Int) ≤ 96
    · refine zW (p := ((mkS (xI (xA xs))).size : Int) ≤ 96) true (by kernel_rfl) (fun _ => by kernel_rfl) (decide_eq_true (h2)) ?_
      exact Zv (.bool true) (Zv (.bool true) (ZN (zB (ZF (.bool true) Tryz.results20 (fun w hO => ⟨by unfold rgMay; rw [h1, decide_eq_true (by have := xP (xI (xA xs)); omega)]; rfl, hO.below⟩)))))
    exact Zd (p := ((mkS (xI (xA xs))).size : Int) ≤ 96) false (decide_eq_false (h2)) (Zv (.bool false) (Zv (.bool false) (ZN (zB (ZF (.bool false) Tryz.results20 (fun w hO => ⟨by unfold rgMay; rw [h1, decide_eq_false (by have := xP (xI (xA xs)); omega)]; rfl, hO.below⟩))))))
  | false =>
    exact Zk (Zk (Zk (Zk (Zv (.bool false) (Zv (.bool false) (ZN (zB (ZF (.bool false) Tryz.results20 (fun w hO => ⟨by unfold rgMay; rw [h1]; rfl, hO.below⟩)))))))))
end
section
end
section
structure AlI (s : List UInt8) (i f : Nat) (u : Value) (P : List (List UInt8)) (ob : List Blk) : Prop where
  fi : f ≤ i + 1
  il : i ≤ s.length
  fl : f ≤ s.length
  sl : SlT u P ob
  eq : P ++ k8 ((s.drop f).take (i - f)) (s.drop (max i f)) = k8 [] s
  pl : P.length ≤ i
end
section
theorem coInfo : (Tryz.prog.info? 51).map (fun i => (i.zero.map (·.cells.size), i.size, i.bytes)) = some (some 7, 7, 72) := by kernel_rfl
theorem co_info : ∃ i z, Tryz.prog.info? 51 = some i ∧ i.zero = some z ∧ i.size = 7 ∧ z.cells.size = 7 ∧ i.bytes = 72 := by
  have h := coInfo
  cases hi : Tryz.prog.info? 51 with
  | none => rw [hi] at h; cases h
  | some i =>
    rw [hi] at h
    simp only [Option.map_some, Option.some.injEq, Prod.mk.injEq] at h
    cases hz : i.zero with
    | none => rw [hz] at h; simp at h
    | some z => rw [hz] at h; simp at h; exact ⟨i, z, rfl, hz, h.2.1, h.1, h.2.2⟩
theorem alInfo : (Tryz.prog.info? 47).map (fun i => (i.zero.map (·.cells.size), i.size, i.bytes)) = some (some 1, 1, 24) := by kernel_rfl
theorem al_info : ∃ i z, Tryz.prog.info? 47 = some i ∧ i.zero = some z ∧ i.size = 1 ∧ z.cells.size = 1 ∧ i.bytes = 24 := by
  have h := alInfo
  cases hi : Tryz.prog.info? 47 with
  | none => rw [hi] at h; cases h
  | some i =>
    rw [hi] at h
    simp only [Option.map_some, Option.some.injEq, Prod.mk.injEq] at h
    cases hz : i.zero with
    | none => rw [hz] at h; simp at h
    | some z => rw [hz] at h; simp at h; exact ⟨i, z, rfl, hz, h.2.1, h.1, h.2.2⟩
def SlCo (v : Value) (l : List Co) (ob : List Blk) : Prop := Sl 51 7 v l.length (l.flatMap coC) ob
theorem Sl.form {T sz n : Nat} {v : Value} {xs : List Value} {ob : List Blk} (h : Sl T sz v n xs ob) : ∃ A cap, v = .slice A n cap := by
  rcases h.2 with ⟨h1, h2, _⟩ | ⟨g, cap, cur, h1, _⟩
  · exact ⟨none, 0, by rw [h1, h2]⟩
  · exact ⟨_, _, h1⟩
structure RgA (u : Value) (xs : List Al) (o1 o2 : List Blk) : Prop where
  top : Sl 47 1 u xs.length (xs.flatMap alC) o1
  each : ∀ x ∈ xs, ∃ o, (∀ b ∈ o, b ∈ o2) ∧ SlCo (.slice x.A x.l.length x.cap) x.l o
def RgO (v : Value) (r : List (List Co)) (ob : List Blk) : Prop := ∃ xs u o1 o2, v = .agg #[u] ∧ ob = o1 ++ o2 ∧ xA xs = r ∧ RgA u xs o1 o2
theorem RgA.nil : RgA (.slice none 0 0) [] [] [] := ⟨Sl.nil _ _, fun x hx => by simp at hx⟩
theorem RgO.nil : RgO (.agg #[.slice none 0 0]) [] [] := ⟨[], _, [], [], rfl, rfl, rfl, RgA.nil⟩
theorem RgA.add {u u2 : Value} {xs : List Al} {o1 o2 o3 oa : List Blk} {A : Option Addr} {cap : Nat} {a : List Co} (h : RgA u xs o1 o2) (h2 : Sl 47 1 u2 (xs.length + 1) (xs.flatMap alC ++ alC ⟨A, a, cap⟩) o3) (ha : SlCo (.slice A a.length cap) a oa) : RgA u2 (xs ++ [⟨A, a, cap⟩]) o3 (oa ++ o2) :=
  ⟨h2.to (by simp) (by simp), fun x hx => by
    rcases List.mem_append.1 hx with hx | hx
    · obtain ⟨o, k1, k2⟩ := h.each x hx
      exact ⟨o, fun b hb => List.mem_append_right _ (k1 b hb), k2⟩
    · obtain rfl := List.mem_singleton.1 hx
      exact ⟨oa, fun b hb => List.mem_append_left _ hb, ha⟩⟩
structure FineR (r : List (List Co)) : Prop where
  n : r.length ≤ 1000
  m : ∀ a ∈ r, a.length ≤ 1000 ∧ ShortA a
theorem RgA.inn {A : Option Addr} {n cap : Nat} {xs : List Al} {o1 o2 L : List Blk} {M : List Nat} {W w : World} (h : RgA (.slice A n cap) xs o1 o2) (hn : xs.length = n) (hO : Own M W w L) (h1 : ∀ x ∈ o1, x ∈ L) (h2 : ∀ x ∈ o2, x ∈ L) (hf : FineR (xA xs)) : RgIn w w.heap.size A xs := by
  subst hn
  refine ⟨Sl.reads h.top rfl hO h1, fun x hx => ?_, by have := hf.n; rwa [kB] at this, fun x hx => (hf.m x.l (List.mem_map.2 ⟨x, hx, rfl⟩)).1, fun x hx => (hf.m x.l (List.mem_map.2 ⟨x, hx, rfl⟩)).2⟩
  obtain ⟨o, k1, k2⟩ := h.each x hx
  exact Sl.reads k2 rfl hO fun b hb => h2 b (k1 b hb)
theorem SlT.blk {v : Value} {l : List (List UInt8)} {ob : List Blk} (h : SlT v l ob) (hn : l ≠ []) : ∃ g cur cap, v = .slice (some ⟨g, 0, none⟩) l.length cap ∧ ob = [⟨g, cur, 9⟩] ∧ cur.toList.take (l.length * 1) = l.flatMap pY := by
  obtain ⟨A, cap, rfl⟩ := h.form
  have h0 : 0 < l.length := by cases l with
    | nil => exact absurd rfl hn
    | cons _ _ => simp
  obtain ⟨g, cur, rfl, e, _, _, _, e2⟩ := Sl.block h h0
  exact ⟨g, cur, cap, rfl, e, by rw [e2, uV]⟩
theorem pc_ok {s : List UInt8} (h : pcE s = 0) : qE s = some (pcV s) := by
  cases hp : qE s with
  | none => rw [(pc_none hp).2] at h; exact absurd h (by decide)
  | some c => rw [(pc_some hp).1]
theorem pc_err {s : List UInt8} (h : ¬ pcE s = 0) : qE s = none := by
  cases hp : qE s with
  | none => rfl
  | some c => exact absurd (pc_some hp).2 h
theorem parseP_may {s : List UInt8} {c : Co} (h : parseP s = some c) : c.may = true := ((dT _ c).1 h).1
theorem co_short {c : Co} (h : c.may = true) : c.short := by
  obtain ⟨_, hv, hb, _⟩ := Co.facts h
  exact may_short hv hb
theorem parseA_fine {s : List UInt8} {a : List Co} (h : nY s = some a) (hs : s.length ≤ 100) : a.length ≤ 1000 ∧ ∀ c ∈ a, c.may = true := by
  refine ⟨?_, fun c hc => ?_⟩
  · rw [dK h, split_len]
    have := List.length_filter_le (fun x : UInt8 => x == 44) s
    omega
  · obtain ⟨x, _, e⟩ := allO_back h c hc
    exact parseP_may e
theorem fine_part {s : List UInt8} (hs : s.length ≤ 96) {l : List (List UInt8)} (hl : ∀ x ∈ l, x ∈ k8 [] s) (hn : l.length ≤ 97) {r : List (List Co)} (h : uK nY l = some r) : FineR r := by
  refine ⟨by rw [dK h]; omega, fun a ha => ?_⟩
  obtain ⟨x, hx, e⟩ := allO_back h a ha
  have := tZ s [] x (hl x hx)
  have := parseA_fine e (by simp at this; omega)
  exact ⟨this.1, fun c hc => co_short (this.2 c hc)⟩
theorem tP {r : List (List Co)} (h : fewR r = true) : FineR r := by
  obtain ⟨h1, h2⟩ := fewR.facts h
  refine ⟨by omega, fun a ha => ?_⟩
  obtain ⟨k1, k2⟩ := fewA.facts (h2 a ha)
  exact ⟨by omega, fun c hc => co_short (k2 c hc)⟩
theorem allO_next {α β : Type} {f : α → Option β} {l : List α} {i : Nat} (hi : i < l.length) {y : α} (hy : l[i] = y) {m : List β} {z : β} (h : uK f (l.take i) = some m) (hz : f y = some z) : uK f (l.take (i + 1)) = some (m ++ [z]) := by
  rw [List.take_succ_eq_append_getElem hi, hy]
  exact allO_snoc h hz
theorem all_fails {s : List UInt8} {l m : List (List UInt8)} (hl : l = k8 [] s) {i k : Nat} (hi : i < l.length) {y z : List UInt8} (hy : l[i] = y) (hm : m = yO 44 [] y) (hk : k < m.length) (hz : m[k] = z) (h : ¬ pcE (xY z) = 0) : gV s = none := by
  have h1 : nY y = none := allO_none (x := z) (by rw [← hm, ← hz]; exact List.getElem_mem hk) (pc_err h)
  exact allO_none (x := y) (by rw [← hl, ← hy]; exact List.getElem_mem hi) h1
theorem errG_none {s : List UInt8} (hs : s.length ≤ 96) (h : gV s = none) : vW s = 6 ∧ xG s = none := by
  unfold vW xG
  rw [if_neg (by omega), if_neg (by omega), h]; exact ⟨rfl, rfl⟩
theorem errG_few {s : List UInt8} (hs : s.length ≤ 96) {r : List (List Co)} (h : gV s = some r) (hf : fewR r = false) : vW s = 6 ∧ xG s = none := by
  unfold vW xG
  rw [if_neg (by omega), if_neg (by omega), h]
  simp [hf, rgMay, Option.filter]
theorem errG_big {s : List UInt8} (hs : s.length ≤ 96) {r : List (List Co)} (h : gV s = some r) (hf : fewR r = true) (hb : 96 < (xI r).length) : vW s = 3 ∧ xG s = none := by
  unfold vW xG
  rw [if_neg (by omega), if_neg (by omega), h]
  simp [hf, rgMay, Option.filter]; omega
theorem errG_fine {s : List UInt8} (hs : s.length ≤ 96) {r : List (List Co)} (h : gV s = some r) (hf : fewR r = true) (hb : (xI r).length ≤ 96) : vW s = 0 ∧ xG s = some r := by
  unfold vW xG
  rw [if_neg (by omega), if_neg (by omega), h]
  simp [hf, rgMay, Option.filter, hb]
theorem errG_long {s : List UInt8} (hs : 96 < s.length) : vW s = 3 ∧ xG s = none := by
  unfold vW xG
  rw [if_pos hs, if_pos hs]; exact ⟨rfl, rfl⟩
theorem bareF_len : ∀ (s : List UInt8), (xZ s).length ≤ s.length
  | [] => Nat.le_refl _
  | c :: l => by
    rw [xZ]
    split
    · have := bareF_len l; rw [List.length_cons]; omega
    · exact Nat.le_refl _
theorem bareL_len (s : List UInt8) : (xY s).length ≤ s.length := by
  unfold xY
  rw [List.length_reverse]
  have h1 := bareF_len (xZ s).reverse
  rw [List.length_reverse] at h1
  have := bareF_len s
  omega
theorem pieces_len {y : List UInt8} (h : y.length ≤ 96) : (yO 44 [] y).length ≤ 97 ∧ ∀ z ∈ yO 44 [] y, z.length ≤ 96 := by
  refine ⟨?_, fun z hz => by have := split_le 44 y [] z hz; simp at this; omega⟩
  rw [split_len]
  have := List.length_filter_le (fun x : UInt8 => x == 44) y
  omega
section
variable {M : List Nat} {W w : World}
theorem own_two {x y : Blk} {A : List Blk} (h : Own M W w (x :: y :: A)) : Own M W w A := h.sublist ((List.sublist_cons_self y A).trans (List.sublist_cons_self x (y :: A)))
theorem own_turn {x y r t g : Blk} {oa o1 o2 : List Blk} (h : Own M W w (([x, y, g, r, t] ++ oa) ++ o1 ++ o2)) : Own M W w (g :: r :: t :: (o1 ++ (oa ++ o2))) := by
  have h1 : Own M W w (x :: y :: g :: r :: t :: ((oa ++ o1) ++ o2)) := by simpa [List.append_assoc] using h
  refine (own_two h1).perm (List.Perm.cons _ (List.Perm.cons _ (List.Perm.cons _ ?_)))
  rw [← List.append_assoc]
  exact List.Perm.append_right _ List.perm_append_comm
end
end
section
end
section
theorem none_in (w : World) (n : Nat) : SetIn w n none none gD := ⟨fun h0 => absurd h0 (Nat.lt_irrefl 0), fun h0 => absurd h0 (Nat.lt_irrefl 0), Nat.zero_le _, Nat.zero_le _, fun s hs => by simp [gD] at hs, fun s hs => by simp [gD] at hs⟩
end
section
theorem turn_short {c : Cu} (h : c.short) : (kL c).short := by
  unfold kL
  split
  · exact h
  · split
    · unfold relB
      split
      · exact next_short _
      · exact ⟨by simp [y5, Ver.zero], by simp [y5, Ver.zero]⟩
    · unfold relA
      split
      · exact ⟨by simp [y5, Ver.zero], by simp [y5, Ver.zero]⟩
      · exact relV_short _
def pV (l : List Sp) (k : Nat) : List Sp := ((l.take k).map jQ).filter (·.may)
theorem turnL_step {l : List Sp} {k : Nat} (hk : k < l.length) {s : Sp} (hs : l[k] = s) : pV l (k + 1) = pV l k ++ (if (jQ s).may then [jQ s] else []) := by
  unfold pV
  rw [List.take_succ_eq_append_getElem hk, List.map_append, List.filter_append, hs]
  congr 1
  show List.filter _ [jQ s] = _
  cases h : (jQ s).may <;> simp [h]
theorem turnL_len (l : List Sp) (k : Nat) : (pV l k).length ≤ k := by
  unfold pV
  refine Nat.le_trans (List.length_filter_le _ _) ?_
  rw [List.length_map, List.length_take]; omega
structure MkI (l : List Sp) (k : Nat) (u : Value) (acc : List Sp) (ob : List Blk) : Prop where
  le : k ≤ l.length
  sl : SlS u acc ob
  eq : acc = pV l k
theorem MkI.keep {l : List Sp} {k : Nat} {u : Value} {acc : List Sp} {ob : List Blk} (h : MkI l k u acc ob) (hk : k < l.length) {s : Sp} {x y : Cu} (hs : l[k] = s) (hx : kL s.lo = x) (hy : kL s.hi = y) (hm : (Sp.mk x y).may = false) : MkI l (k + 1) u acc ob :=
  ⟨hk, h.sl, by rw [turnL_step hk hs, show jQ s = ⟨x, y⟩ from by unfold jQ; rw [hx, hy], hm, h.eq]; simp⟩
theorem MkI.grow {l : List Sp} {k : Nat} {u u2 : Value} {acc : List Sp} {ob ob2 : List Blk} (h : MkI l k u acc ob) (hk : k < l.length) {s : Sp} {x y : Cu} (hs : l[k] = s) (hx : kL s.lo = x) (hy : kL s.hi = y) (hm : (Sp.mk x y).may = true) (h2 : Sl 80 14 u2 (acc.length + 1) (acc.flatMap yW ++ yW ⟨x, y⟩) ob2) : MkI l (k + 1) u2 (acc ++ [⟨x, y⟩]) ob2 :=
  ⟨hk, h2.to (by simp) (by simp), by rw [turnL_step hk hs, show jQ s = ⟨x, y⟩ from by unfold jQ; rw [hx, hy], hm, ← h.eq, if_pos rfl]⟩
theorem turnL_may (l : List Sp) (k : Nat) : ∀ s ∈ pV l k, s.may = true := fun s hs => by
  unfold pV at hs
  exact (List.mem_filter.1 hs).2
theorem own_drop {M : List Nat} {W w : World} {x y z : Blk} {A : List Blk} (h : Own M W w ([x, y] ++ A ++ [z])) : Own M W w (A ++ [z]) := h.sublist (by rw [List.append_assoc]; exact List.sublist_append_right [x, y] _)
end
section
theorem altRel_next {l : List Co} {k : Nat} (hk : k < l.length) {c : Co} (hc : l[k] = c) : xR (l.take (k + 1)) = wP (xR (l.take k)) c.region := by
  rw [List.take_succ_eq_append_getElem hk, hc, mA]
theorem altZone_next {l : List Co} {k : Nat} (hk : k < l.length) {c : Co} (hc : l[k] = c) : xO (l.take (k + 1)) = orL (xO (l.take k)) c.zone := by
  rw [List.take_succ_eq_append_getElem hk, hc, fD]
theorem orAll_next {r : List (List Co)} {i : Nat} (hi : i < r.length) {a : List Co} (ha : r[i] = a) : xF (r.take (i + 1)) = orT (xF (r.take i)) (x8 a) := by
  rw [List.take_succ_eq_append_getElem hi, ha, p4]
theorem n3 (l : List Co) (k : Nat) (h : l.length ≤ 1000) : RF (xR (l.take k)) 4000 := (jC _).le (by rw [List.length_take]; omega)
theorem fE (l : List Co) (k : Nat) (h : l.length ≤ 1000) : RF (xO (l.take k)) 4000 := (wO _).le (by rw [List.length_take]; omega)
theorem orAll_le {r : List (List Co)} (h : fewR r = true) (i : Nat) : SF (xF (r.take i)) 198 := by
  obtain ⟨h1, h2⟩ := fewR.facts h
  refine (orAll_sf (n := 6) _ fun a ha => ((fewA.facts (h2 a (List.mem_of_mem_take ha))).1).2).le ?_
  rw [List.length_take]
  show min i r.length * 33 ≤ 198
  omega
section
variable {M : List Nat} {W w : World}
theorem own_tail {A B C : List Blk} (h : Own M W w ((A ++ B) ++ C)) : Own M W w (B ++ C) := by
  rw [List.append_assoc] at h
  exact Own.sub A h
end
theorem fine_get {s : List UInt8} (h : vW s = 0) : FineR ((xG s).getD []) := by
  cases hp : xG s with
  | none => rcases err_none hp with e | e <;> rw [e] at h <;> exact absurd h (by decide)
  | some r => exact tP (rgMay.facts (wG hp).2.1).1
end
section
def wideG : List UInt8 → List UInt8
  | [] => []
  | b :: t => (if b = 44 then [32] else []) ++ b :: ((if b = 44 ∨ (b = 124 ∧ t ≠ [] ∧ ¬ t.head? = some 124) then [32, 32] else []) ++ wideG t)
def wideA : List Co → List UInt8
  | [] => []
  | [c] => c.print
  | c :: d :: a => c.print ++ ([32, 44, 32, 32, 32] ++ wideA (d :: a))
def uI (l : List Int) (i a : Nat) : List Co := (List.range ((plc (atL l (i + 1 + a)) 3).toNat + 1)).map fun k => xN l (i + 4 + 21 * a + 7 * k)
def uM (l : List Int) (i : Nat) : List (List Co) := (List.range ((plc (atL l i) 3).toNat + 1)).map fun a => uI l i a
def genRg (l : List Int) (i : Nat) : List (List Co) := if rgMay (uM l i) then uM l i else [[xN l (i + 4)]]
theorem pre_small : ∀ k, k < 14 → (wB k).length ≤ 4 := by decide +kernel
theorem told_pre (p : Int) (v : Ver) : (wR p v).pre.length ≤ v.pre.length := by
  show (if p < 3 then [] else v.pre).length ≤ _
  split
  · exact Nat.zero_le _
  · exact Nat.le_refl _
theorem gen_pre4 (l : List Int) (i : Nat) : (zO l i).pre.length ≤ 4 := pre_small _ (dR _ 14 14 (by omega) rfl)
theorem genCo_pre (l : List Int) (i : Nat) : (xN l i).v.pre.length ≤ 4 := Nat.le_trans (told_pre _ _) (gen_pre4 l i)
theorem nums_small {v : Ver} (hv : v.may = true) (n : Nat) : (zY 46 (yC v n)).length ≤ 14 ∧ (zY 46 ([Lib.itoa v.maj, Lib.itoa v.min].take n ++ [[42]])).length ≤ 14 := by
  obtain ⟨m1, m2, m3⟩ := qP hv
  have e1 := tM m1
  have e2 := tM m2
  have e3 := tM m3
  unfold yC
  match n with
  | 0 => exact ⟨by simp [zY], by simp [zY]⟩
  | 1 => exact ⟨by simp [zY]; omega, by simp [zY]; omega⟩
  | 2 => exact ⟨by simp [zY]; omega, by simp [zY]; omega⟩
  | n + 3 => exact ⟨by simp [zY]; omega, by simp [zY]; omega⟩
theorem print_small {c : Co} (h : c.may = true) (hp : c.v.pre.length ≤ 4) : c.print.length ≤ 30 := by
  obtain ⟨_, hv, _, h9, hn, _⟩ := Co.facts h
  have hs : (y7 c.op).length ≤ 2 := by
    unfold y7
    repeat' split
    all_goals decide
  obtain ⟨q1, q2⟩ := nums_small hv c.parts.toNat
  rw [gE h]
  unfold Co.text Co.rest
  rw [List.length_append]
  split
  · rename_i e
    have hq := h9 e
    have e2 : yC c.v c.parts.toNat = [Lib.itoa c.v.maj, Lib.itoa c.v.min].take c.parts.toNat := by
      unfold yC
      have hk : c.parts.toNat = 0 ∨ c.parts.toNat = 1 ∨ c.parts.toNat = 2 := by omega
      rcases hk with k | k | k <;> rw [k] <;> rfl
    rw [e2]; omega
  · rw [List.length_append]
    unfold wT
    split
    · simp only [List.length_nil]; omega
    · rename_i hne
      simp only [List.length_cons]; omega
theorem one_fine {c : Co} (h : c.may = true) (hp : c.v.pre.length ≤ 4) : rgMay [[c]] = true := by
  have hl := print_small h hp
  unfold rgMay fewR fewA
  have e : xI [[c]] = c.print := rfl
  rw [e, decide_eq_true (show c.print.length ≤ 96 by omega)]
  simp [h, fewA]
theorem genRg_may (l : List Int) (i : Nat) : rgMay (genRg l i) = true := by
  unfold genRg
  split
  · assumption
  · exact one_fine (genCo_may l _) (genCo_pre l _)
theorem genR0_len (l : List Int) (i : Nat) : (uM l i).length = (plc (atL l i) 3).toNat + 1 := by unfold uM; rw [List.length_map, List.length_range]
theorem genA_len (l : List Int) (i a : Nat) : (uI l i a).length = (plc (atL l (i + 1 + a)) 3).toNat + 1 := by unfold uI; rw [List.length_map, List.length_range]
end
section
instance : DecidableEq St := fun a b => decidable_of_iff (a.rel = b.rel ∧ a.pre = b.pre) ⟨fun h => St.eq h.1 h.2, fun h => by rw [h]; exact ⟨rfl, rfl⟩⟩
theorem same_g (a b : St) : (decide (a.rel = b.rel) && decide (a.pre = b.pre)) = decide (a = b) := by
  rw [← Bool.decide_and]; exact decide_eq_decide.2 ⟨fun h => St.eq h.1 h.2, fun h => by rw [h]; exact ⟨rfl, rfl⟩⟩
end
section
theorem altsL_index : ∀ (s acc : List UInt8), k8 acc s = if Lib.index s [124, 124] = -1 then [acc ++ s] else (acc ++ s.take (Lib.index s [124, 124]).toNat) :: k8 [] (s.drop ((Lib.index s [124, 124]).toNat + 2))
  | [], acc => by simp [k8, Lib.index]
  | [c], acc => by simp [k8, Lib.index, List.isPrefixOf]
  | c :: d :: r, acc => by
    by_cases h : c = 124 ∧ d = 124
    · obtain ⟨rfl, rfl⟩ := h
      have e : Lib.index (124 :: 124 :: r) [124, 124] = 0 := by simp [Lib.index, List.isPrefixOf]
      rw [e, k8, if_pos ⟨rfl, rfl⟩, if_neg (by decide)]; simp
    · have hp : List.isPrefixOf ([124, 124] : List UInt8) (c :: d :: r) = false := by
        rw [List.isPrefixOf, List.isPrefixOf, List.isPrefixOf]
        by_cases hc : c = 124
        · have hd : ¬ d = 124 := fun q => h ⟨hc, q⟩
          have : ((124 : UInt8) == d) = false := beq_eq_false_iff_ne.2 (Ne.symm hd)
          simp [this]
        · have : ((124 : UInt8) == c) = false := beq_eq_false_iff_ne.2 (Ne.symm hc)
          simp [this]
      have ge := Lib.index_ge (d :: r) [124, 124]
      rw [k8, if_neg h, altsL_index (d :: r) (acc ++ [c])]
      have e : Lib.index (c :: d :: r) [124, 124] = if Lib.index (d :: r) [124, 124] = -1 then -1 else Lib.index (d :: r) [124, 124] + 1 := by
        conv => lhs; rw [Lib.index]
        rw [hp, if_neg (by decide)]
        simp
      rw [e]
      generalize Lib.index (d :: r) [124, 124] = n at ge
      by_cases hn : n = -1
      · subst hn; simp
      · rw [if_neg hn, if_neg hn, if_neg (by omega)]
        have e2 : (n + 1).toNat = n.toNat + 1 := by omega
        rw [e2, List.take_succ_cons, show n.toNat + 1 + 2 = (n.toNat + 2) + 1 from by omega, List.drop_succ_cons]
        simp
theorem splitK_from (sep : List UInt8) : ∀ (f : Nat) (s : List UInt8), s.length < f → Lib.splitK sep 0 (Lib.countFrom sep f s) s = if Lib.index s sep = -1 then [s] else s.take (Lib.index s sep).toNat :: Lib.splitK sep 0 (Lib.countFrom sep (f - 1) (s.drop ((Lib.index s sep).toNat + sep.length))) (s.drop ((Lib.index s sep).toNat + sep.length))
  | f + 1, s, h => by
    rw [Lib.countFrom]
    by_cases q : Lib.index s sep = -1
    · rw [if_pos (by simp [q]), if_pos q, Lib.splitK]
    · rw [if_neg (by simp [q]), if_neg q, Nat.add_comm 1, Lib.splitK, if_neg (by simp [q]), Nat.add_zero]; rfl
theorem alts_from : ∀ (f : Nat) (s : List UInt8), s.length < f → Lib.splitK [124, 124] 0 (Lib.countFrom [124, 124] f s) s = k8 [] s
  | f + 1, s, h => by
    rw [splitK_from _ _ _ h, altsL_index s []]
    by_cases q : Lib.index s [124, 124] = -1
    · rw [if_pos q, if_pos q]; rfl
    · have hr := Lib.index_room s [124, 124] (by have := Lib.index_ge s [124, 124]; omega)
      rw [if_neg q, if_neg q]
      show _ :: Lib.splitK [124, 124] 0 (Lib.countFrom [124, 124] f _) _ = _
      rw [alts_from f _ (by rw [List.length_drop]; simp only [List.length_cons, List.length_nil]; simp only [List.length_cons, List.length_nil] at hr; have := Lib.index_ge s [124, 124]; omega)]
      rfl
theorem split_alts (s : List UInt8) : Lib.splitK [124, 124] 0 (Lib.count s [124, 124]) s = k8 [] s := alts_from _ s (Nat.lt_succ_self _)
theorem cut_index (b : UInt8) (s : List UInt8) : yO b [] s = if Lib.index s [b] = -1 then [s] else s.take (Lib.index s [b]).toNat :: yO b [] (s.drop ((Lib.index s [b]).toNat + 1)) := by
  have hc := cutAt_cut b s
  have hge := Lib.index_ge s [b]
  rw [vF, ← hc]
  unfold Lib.cut
  by_cases h : Lib.index s [b] = -1
  · have h2 : ¬ 0 ≤ Lib.index s [b] := by omega
    simp [h]
  · have h2 : 0 ≤ Lib.index s [b] := by omega
    simp [h, h2]
theorem cuts_from (b : UInt8) : ∀ (f : Nat) (s : List UInt8), s.length < f → Lib.splitK [b] 0 (Lib.countFrom [b] f s) s = yO b [] s
  | f + 1, s, h => by
    rw [splitK_from _ _ _ h, cut_index b s]
    by_cases q : Lib.index s [b] = -1
    · rw [if_pos q, if_pos q]
    · have hr := Lib.index_room s [b] (by have := Lib.index_ge s [b]; omega)
      rw [if_neg q, if_neg q]
      show _ :: Lib.splitK [b] 0 (Lib.countFrom [b] f _) _ = _
      rw [cuts_from b f _ (by rw [List.length_drop]; simp only [List.length_cons, List.length_nil]; simp only [List.length_cons, List.length_nil] at hr; have := Lib.index_ge s [b]; omega)]
      rfl
theorem split_cuts (b : UInt8) (s : List UInt8) : Lib.splitK [b] 0 (Lib.count s [b]) s = yO b [] s := cuts_from b _ s (Nat.lt_succ_self _)
theorem splitB_list (sep : List UInt8) (k : Nat) (s : List UInt8) : Lib.splitB (mkS sep) 0 k (mkS s) = (Lib.splitK sep 0 k s).map mkS := by
  have h := Lib.splitB_data (mkS sep) 0 k (mkS s)
  rw [mk_data, mk_data] at h
  rw [← h, List.map_map]
  refine ((List.map_congr_left fun x _ => ?_).trans (List.map_id _)).symm
  exact Lib.mk_data x
theorem splitB_alts (s : List UInt8) : Lib.splitB (mkS [124, 124]) 0 (Lib.countB (mkS s) (mkS [124, 124])) (mkS s) = (k8 [] s).map mkS := by
  rw [splitB_list, show Lib.countB (mkS s) (mkS [124, 124]) = Lib.count s [124, 124] from by unfold Lib.countB; rw [mk_data, mk_data], split_alts]
theorem splitB_cuts (b : UInt8) (s : List UInt8) : Lib.splitB (mkS [b]) 0 (Lib.countB (mkS s) (mkS [b])) (mkS s) = (yO b [] s).map mkS := by
  rw [splitB_list, show Lib.countB (mkS s) (mkS [b]) = Lib.count s [b] from by unfold Lib.countB; rw [mk_data, mk_data], split_cuts]
theorem pS : ∀ (s : List UInt8), Lib.trimLeftB s 32 = xZ s
  | [] => rfl
  | c :: l => by
    unfold Lib.trimLeftB
    rw [xZ, List.dropWhile_cons]
    by_cases h : c = 32
    · subst h
      rw [if_pos (by decide), if_pos rfl]; exact pS l
    · rw [if_neg (by simp [h]), if_neg h]
def bareR (s : List UInt8) : List UInt8 := (xZ s.reverse).reverse
theorem bareF_snoc {c : UInt8} (h : c ≠ 32) : ∀ (x : List UInt8), xZ (x ++ [c]) = xZ x ++ [c]
  | [] => by
    show xZ [c] = [c]
    rw [xZ]; exact if_neg h
  | d :: x => by
    rw [List.cons_append, xZ, xZ]
    by_cases q : d = 32
    · rw [if_pos q, if_pos q, bareF_snoc h x]
    · rw [if_neg q, if_neg q]; rfl
theorem tW : ∀ (x : List UInt8), xZ (x ++ [32]) = if xZ x = [] then [] else xZ x ++ [32]
  | [] => by simp [xZ]
  | d :: x => by
    rw [List.cons_append, xZ, xZ]
    by_cases q : d = 32
    · rw [if_pos q, if_pos q, tW x]
    · rw [if_neg q, if_neg q, if_neg (by simp)]; rfl
theorem bare_swap : ∀ (s : List UInt8), xZ (bareR s) = bareR (xZ s)
  | [] => rfl
  | c :: l => by
    have ih := bare_swap l
    by_cases h : c = 32
    · subst h
      rw [show xZ (32 :: l) = xZ l from by rw [xZ, if_pos rfl], ← ih]
      unfold bareR
      rw [List.reverse_cons, tW]
      by_cases q : xZ l.reverse = []
      · rw [if_pos q, q]
      · rw [if_neg q, List.reverse_append]
        show xZ (32 :: (xZ l.reverse).reverse) = _
        rw [xZ, if_pos rfl]
    · rw [show xZ (c :: l) = c :: l from by rw [xZ, if_neg h]]
      unfold bareR
      rw [List.reverse_cons, bareF_snoc h, List.reverse_append]
      show xZ (c :: (xZ l.reverse).reverse) = c :: (xZ l.reverse).reverse
      rw [xZ, if_neg h]
theorem trim_bare (s : List UInt8) : Lib.trimB s 32 = xY s := by
  unfold Lib.trimB Lib.trimRightB
  have e : ∀ l : List UInt8, l.dropWhile (· == 32) = xZ l := pS
  rw [e, pS]
  exact bare_swap s
def wS (r : List (List Co)) : List UInt8 := if fewR r then xI r else []
theorem altText_ne {a : List Co} (h : fewA a = true) : x3 a ≠ [] := by
  obtain ⟨h1, h2⟩ := fewA.facts h
  cases a with
  | nil => exact absurd h1.1 (by decide)
  | cons c l =>
    have hc : c.print ≠ [] := by
      rw [gE (h2 c (List.mem_cons_self ..))]
      exact text_ne (h2 c (List.mem_cons_self ..))
    unfold x3
    cases l with
    | nil => exact hc
    | cons d l => 
      rw [List.map_cons, List.map_cons, vL]
      intro e
      exact hc (List.append_eq_nil_iff.1 (List.append_eq_nil_iff.1 e).1).1
theorem rgText_ne {r : List (List Co)} (h : fewR r = true) : xI r ≠ [] := by
  obtain ⟨h1, h2⟩ := fewR.facts h
  cases r with
  | nil => exact absurd h1.1 (by decide)
  | cons a l =>
    have hc := altText_ne (h2 a (List.mem_cons_self ..))
    unfold xI
    cases l with
    | nil => exact hc
    | cons d l =>
      rw [List.map_cons, List.map_cons, vL]
      intro e
      exact hc (List.append_eq_nil_iff.1 (List.append_eq_nil_iff.1 e).1).1
theorem textR_nil {r : List (List Co)} : wS r = [] ↔ fewR r = false := by
  unfold wS
  cases h : fewR r with
  | false => simp
  | true => simp [rgText_ne h]
theorem print_text (r : List (List Co)) : vJ r = if 96 < (wS r).length then [] else wS r := by
  unfold vJ rgMay wS
  cases fewR r with
  | false => simp
  | true =>
    by_cases h : (xI r).length ≤ 96
    · simp [h, Nat.not_lt.2 h]
    · simp [h, Nat.lt_of_not_le h]
theorem print_nil (r : List (List Co)) : vJ r = [] ↔ rgMay r = false := by
  unfold vJ
  cases h : rgMay r with
  | false => simp
  | true => simp [rgText_ne (rgMay.facts h).1]
end
section
theorem grow_inner (B b n : Nat) (w : World) (hB : B ≤ b) (hbk : w.heap[b]? = some (.cells #[.pointer (some ⟨b, 0, none⟩), .slice none 0 0] 139 (0, 0))) (hBw : B ≤ w.heap.size) (hn : n ≤ 281474976710656) :
    Calls Tryz.prog 169 #[.pointer (some ⟨b, 0, none⟩), .int .i64 n] w fun e w' => e = .returned (.tuple #[]) ∧ (Lib.BuilderAt 139 5 B b (.pointer (some ⟨b, 0, none⟩)) [] w' ∧ Below B w w') := by
  obtain ⟨cs, hrun, hle, hmax⟩ := Lib.run_makeNoZero (P := Tryz.prog) w.drew #[3] 137 5 Tryz.underlying137 n hn
  have hlt : b < w.heap.size := by
    rcases Nat.lt_or_ge b w.heap.size with h | h
    · exact h
    · simp [Array.getElem?_eq_none h] at hbk
  have hw : IntKind.i64.wrap (IntKind.i64.wrap 0 + (n : Int)) = n := by
    rw [IntKind.wrap_i64, IntKind.wrap_i64]; omega
  have hcall : (callFunc 199 #[.int .i64 (IntKind.i64.wrap (IntKind.i64.wrap 0 + (n : Int)))]).run Tryz.prog w.drew = .ok (.value (.slice (some ⟨w.drew.heap.size, 0, none⟩) n cs.size)) (w.drew.drew.drew.alloc (.cells cs 5)) := by
    rw [hw, run_callFunc_extern Tryz.func199 (by kernel_rfl) (by kernel_rfl) (by kernel_rfl) (e := Extern.BytealgMakeNoZero.makeNoZero #[3] #[137]) (by kernel_rfl), hrun]
    rfl
  have c1 : w.drew.cell? ⟨b, 1, none⟩ = some (.slice none 0 0) := by
    have : w.drew.heap[b]? = _ := hbk
    rw [Lib.cell_of_heap this]; rfl
  have hb2 : (w.alloc (.cells cs 5)).heap[b]? = _ := (Lib.alloc_old w _ b hlt).trans hbk
  have c2 : (w.alloc (.cells cs 5)).cell? ⟨b, 1, none⟩ = some (.slice none 0 0) := by rw [Lib.cell_of_heap hb2]; rfl
  have f2 : (w.alloc (.cells cs 5)).frozen? ⟨b, 1, none⟩ = false := Lib.frozen_of_heap hb2 1
  have hcopy : ∀ W : World, (Builtin.copy_ #[137, 137] 3 #[.slice (some ⟨w.heap.size, 0, none⟩) 0 cs.size, .slice none 0 0]).run Tryz.prog W = .ok (goInt 0) W :=
    fun W => run_copy_none W 137 137 3 5 _ _ 0 cs.size 0 0 Tryz.underlying137 (by kernel_rfl) rfl
  clear hw hlt hb2
  have mixed : Tryz.prog.follows .mixedOrders = true := by kernel_rfl
  go_enter Tryz.func169, Tryz.ntmps169
  go_wp2
  have hfin := Lib.grown_fresh (T := 139) (e := 5) (cs := cs) hB hbk hBw (hmax (by unfold maxLen; omega)) (by decide)
  have hbel : Below B w ((w.alloc (.cells cs 5)).setCell ⟨b, 1, none⟩ (.slice (some ⟨w.heap.size, 0, none⟩) 0 cs.size)).drew.drew.drew := ((((Below.refl B w).alloc hBw _).setCell (p := ⟨b, 1, none⟩) hB _).drew).drew.drew
  go_region_o
  all_goals (go_wp2; go_end0; exact ⟨rfl, hfin.1, hbel⟩)
theorem grow_fresh (B b n : Nat) (w : World) (hB : B ≤ b) (hbk : w.heap[b]? = some (.cells #[.pointer none, .slice none 0 0] 139 (0, 0))) (hBw : B ≤ w.heap.size) (hn : n ≤ 281474976710656) :
    Calls Tryz.prog 120 #[.pointer (some ⟨b, 0, none⟩), .int .i64 n] w fun e w' => e = .returned (.tuple #[]) ∧ (Lib.BuilderAt 139 5 B b (.pointer (some ⟨b, 0, none⟩)) [] w' ∧ Below B w w') := by
  obtain ⟨w1, hw1⟩ : ∃ x, x = w.setCell ⟨b, 0, none⟩ (.pointer (some ⟨b, 0, none⟩)) := ⟨_, rfl⟩
  have hbk1 : w1.heap[b]? = some (.cells #[.pointer (some ⟨b, 0, none⟩), .slice none 0 0] 139 (0, 0)) := by
    rw [hw1]; simp [World.setCell, Array.getElem?_modify, hbk]
  have hs1 : B ≤ w1.heap.size := by rw [hw1]; simpa [World.setCell] using hBw
  have hb1 : Below B w w1 := by rw [hw1]; exact (Below.refl B w).setCell (p := ⟨b, 0, none⟩) hB _
  have hc : Calls Tryz.prog 168 #[.pointer (some ⟨b, 0, none⟩)] w fun e w' => e = .returned (.tuple #[]) ∧ w' = w1 := by
    rw [hw1]
    exact fJ b w (by rw [Lib.cell_of_heap hbk]; rfl) (by simp [World.shape?, hbk]) (Lib.frozen_of_heap hbk 0)
  clear hw1
  have c1 : w1.cell? ⟨b, 1, none⟩ = some (.slice none 0 0) := by rw [Lib.cell_of_heap hbk1]; rfl
  have c1' : w1.drew.cell? ⟨b, 1, none⟩ = some (.slice none 0 0) := c1
  have hU : Lib.BuilderAt 139 5 B b (.pointer (some ⟨b, 0, none⟩)) [] w1 := ⟨hB, .slice none 0 0, hbk1, World.ownsRow_nil _ _ _ _, by simp [Value.ownBlock]⟩
  have mixed : Tryz.prog.follows .mixedOrders = true := by kernel_rfl
  go_enter Tryz.func120, Tryz.ntmps120
  go_wp2_with (go_at_call 168; refine hc.mono ?_; rintro e w' ⟨rfl, hw⟩; rw [hw])
  go_region_o
  all_goals go_wp2_with (go_at_call 169; refine (grow_inner B b n w1.drew hB hbk1 hs1 hn).mono ?_; rintro e w' ⟨rfl, h1, h2⟩)
  all_goals first
    | (go_end0; exact ⟨rfl, h1, hb1.drew.trans h2⟩)
    | (go_end0; exact ⟨rfl, hU.drew, hb1.drew⟩)
end
section
structure HasLib (w : World) : Prop where
  tab : HasTab w
  max : ∃ m, w.cell? ⟨0, 0, none⟩ = some (.int .i64 m)
theorem HasLib.on {w w' : World} (h : HasLib w) (hb : Below w.heap.size w w') : HasLib w' :=
  ⟨h.tab.on hb, let ⟨m, hm⟩ := h.max; ⟨m, (hb.cell (World.block_lt_of_cell? _ _ hm)).trans hm⟩⟩
theorem hasLib_of {W : World} (ht : HasTab W) (hS : W.ShapedOpen Tryz.prog) : HasLib W := ⟨ht, Tryz.laysM143.s1_3 W hS⟩
theorem split_own (s sep : List UInt8) (l : List (List UInt8)) (W : World) (h0 : 1 ≤ sep.length) (hs : s.length ≤ 1000000) (hl : Lib.splitB (mkS sep) 0 (Lib.countB (mkS s) (mkS sep)) (mkS s) = l.map mkS) (ht : HasLib W) :
    Calls Tryz.prog 36 #[.string (mkS s), .string (mkS sep)] W fun e w' => ∃ v' ob', e = .returned v' ∧ SlT v' l ob' ∧ Own [] W w' ob' := by
  obtain ⟨m, hm⟩ := ht.max
  have hz : (mkS sep).size = sep.length := xP sep
  have hlen := Lib.splitB_all (mkS sep) (by omega) 0 _ (mkS s) rfl
  have hle := Lib.countB_le (mkS sep) (by omega) (mkS s).size (mkS s) (Nat.le_refl _)
  rw [xP] at hle
  rw [hl, List.length_map] at hlen
  refine (Tryz.strings_Split (mkS s) (mkS sep) m W (by rw [xP]; omega) hm (by omega)).mono fun e w' ⟨he, hw⟩ => ?_
  subst hw
  rw [hl, List.map_map] at *
  rw [← hlen] at he
  refine ⟨_, _, he, slt_lit l W.heap.size _ (by unfold qN; rfl) (by unfold maxLen; omega), (Own.start [] W).alloc _ _⟩
theorem split_bars (s : List UInt8) (W : World) (hs : s.length ≤ 1000000) (ht : HasLib W) :
    Calls Tryz.prog 36 #[.string (mkS s), .string ⟨#[124, 124]⟩] W fun e w' => ∃ v' ob', e = .returned v' ∧ SlT v' (k8 [] s) ob' ∧ Own [] W w' ob' :=
  split_own s [124, 124] (k8 [] s) W (by decide) hs (splitB_alts s) ht
theorem split_comma (s : List UInt8) (W : World) (hs : s.length ≤ 1000000) (ht : HasLib W) :
    Calls Tryz.prog 36 #[.string (mkS s), .string ⟨#[44]⟩] W fun e w' => ∃ v' ob', e = .returned v' ∧ SlT v' (yO 44 [] s) ob' ∧ Own [] W w' ob' :=
  split_own s [44] (yO 44 [] s) W (by decide) hs (splitB_cuts 44 s) ht
theorem trim_any (s : List UInt8) (W : World) (hs : s.length ≤ 1000000) :
    Calls Tryz.prog 38 #[.string (mkS s), .string ⟨#[32]⟩] W fun e w' => e = .returned (.string (mkS (xY s))) ∧ Below W.heap.size W w' :=
  (Tryz.strings_Trim_one (mkS s) 32 (by decide) W (by rw [xP]; omega)).mono fun e w' ⟨he, hw⟩ =>
    ⟨by rw [he, mk_data, trim_bare]; rfl, hw.elim (fun q => q ▸ Below.refl _ _) (fun q => q ▸ (Below.refl _ _).drew)⟩
def vV (sep : List UInt8) : List (List UInt8) → List UInt8
  | [] => []
  | x :: r => sep ++ x ++ vV sep r
theorem joinB_T (sep : List UInt8) : ∀ (r : List (List UInt8)) (x : List UInt8), gI sep (x :: r) = x ++ vV sep r
  | [], x => by simp [gI, vV]
  | y :: r, x => by rw [vL, joinB_T sep r y, vV]; simp only [List.append_assoc]
theorem joinT_snoc (sep x : List UInt8) : ∀ (r : List (List UInt8)), vV sep (r ++ [x]) = vV sep r ++ (sep ++ x)
  | [] => by simp [vV]
  | y :: r => by rw [List.cons_append, vV, vV, joinT_snoc sep x r]; simp only [List.append_assoc]
theorem joinT_len {sep : List UInt8} (hs : sep.length ≤ 100) : ∀ {r : List (List UInt8)}, (∀ x ∈ r, x.length ≤ 1000000) → (vV sep r).length ≤ r.length * 1000100
  | [], _ => by simp [vV]
  | y :: r, h => by
    have h1 := joinT_len hs (r := r) fun x hx => h x (List.mem_cons_of_mem _ hx)
    have h2 := h y (List.mem_cons_self ..)
    rw [vV]; simp only [List.length_append, List.length_cons]; omega
theorem bc_two (x y z : List UInt8) : Lib.byteCells (x ++ (y ++ z)) = Lib.byteCells x ++ Lib.strCells (mkS y) ++ Lib.strCells (mkS z) := by
  rw [wV, wV, ← Lib.byteCells_append, ← Lib.byteCells_append, List.append_assoc]
theorem join_many (sep x0 : List UInt8) (r : List (List UInt8)) (b off cap : Nat) (w : World) (hc : ∀ j (h : j < (x0 :: r).length), w.cell? ⟨b, off + j, none⟩ = some (.string (mkS ((x0 :: r)[j]))))
    (hb : b < w.heap.size) (hr : 1 ≤ r.length) (hn : r.length ≤ 1000) (h0 : sep ≠ []) (hs : sep.length ≤ 100) (hx : ∀ x ∈ x0 :: r, x.length ≤ 1000000) (hcap : r.length + 1 ≤ cap) :
    Calls Tryz.prog 74 #[.slice (some ⟨b, off, none⟩) (r.length + 1) cap, .string (mkS sep)] w fun e w' => e = .returned (.string (mkS (gI sep (x0 :: r)))) ∧ Below w.heap.size w w' := by
  have HT := Lib.hid (show ∀ k, (x0 ++ vV sep (r.take k)).length ≤ 2000000000 from fun k => by
    have h1 := joinT_len hs (r := r.take k) fun x hm => hx x (List.mem_cons_of_mem _ (List.mem_of_mem_take hm))
    have h2 := hx x0 (List.mem_cons_self ..)
    have h3 : (r.take k).length ≤ 1000 := Nat.le_trans (by rw [List.length_take]; exact Nat.min_le_right ..) hn
    rw [List.length_append]; omega)
  have HC := Lib.hid hc
  have HX := Lib.hid hx
  have HJ := Lib.hid (joinB_T sep r x0)
  have hx0 : (mkS x0).size ≤ 1000000 := by rw [xP]; exact hx x0 (List.mem_cons_self ..)
  obtain ⟨S, hS⟩ : ∃ q, q = mkS sep := ⟨_, rfl⟩
  have hSz : S.size = sep.length := by rw [hS, xP]
  have hS1 : 1 ≤ S.size := by cases sep with
    | nil => exact absurd rfl h0
    | cons _ _ => rw [hSz]; simp
  have hS9 : S.size ≤ 100 := by omega
  rw [← hS]
  have HS := Lib.hid hS
  obtain ⟨N, hN⟩ : ∃ q, q = r.length + 1 := ⟨_, rfl⟩
  rw [← hN] at hcap ⊢
  have hcast : ((N : Int) - 1) = (r.length : Int) := by omega
  have hmul : S.size * r.length ≤ 100000 := Nat.le_trans (Nat.mul_le_mul hS9 hn) (by decide)
  have hdv : ¬ (9223372036854775807 / ((N : Int) - 1) ≤ (S.size : Int)) := by
    rw [hcast]
    intro q
    have h1 : (9223372036854775807 : Int) < ((S.size : Int) + 1) * (r.length : Int) :=
      Int.lt_mul_of_ediv_lt (by omega) (Int.lt_add_one_of_le q)
    have h2 : ((S.size : Int) + 1) * (r.length : Int) = ((S.size * r.length + r.length : Nat) : Int) := by rw [Int.add_mul, Int.one_mul]; push_cast; rfl
    omega
  have hprod : wrap64 ((S.size : Int) * ((N : Int) - 1)) = ((S.size * r.length : Nat) : Int) := by
    rw [hcast, show (S.size : Int) * (r.length : Int) = ((S.size * r.length : Nat) : Int) from by push_cast; rfl]
    exact IntWalk.wrap64_in _ ⟨by omega, by omega⟩
  generalize S.size * r.length = M at hmul hprod
  have hne0 : ((N : Int) == 0) = false := beq_eq_false_iff_ne.2 (by omega)
  have hne1 : ((N : Int) == 1) = false := beq_eq_false_iff_ne.2 (by omega)
  have hN2 : 2 ≤ N := by omega
  have hN9 : N ≤ 1001 := by omega
  have HN := Lib.hid hN
  have H0 := Lib.hid h0
  clear hc hx hs h0 hS hSz hcast hN hr hn
  go_enter Tryz.func74, Tryz.ntmps74
  go_wp2
  go_loop [5, 41] (fun n i => ∃ (k t : Nat), k ≤ N ∧ i = .int .i64 k ∧ n = .int .i64 t ∧ t ≤ 100000 + k * 1000000) (fun _ i => N - (intOf i).toNat)
  case atStart => exact ⟨0, M, Nat.zero_le _, rfl, rfl, by omega⟩
  case round =>
    obtain ⟨k, t, hk, rfl, rfl, ht⟩ := hrel
    by_cases hkn : k < N
    · have hkl : k < (x0 :: r).length := by have := HN.out; rw [List.length_cons]; omega
      obtain ⟨y, hy⟩ : ∃ q, q = mkS ((x0 :: r)[k]) := ⟨_, rfl⟩
      have hyz : y.size ≤ 1000000 := by rw [hy, xP]; exact HX.out _ (List.getElem_mem hkl)
      have hck : w.cell? ⟨b, off + k, none⟩ = some (.string y) := by rw [hy]; exact HC.out k hkl
      clear hy hkl
      go_wp2
      exact ⟨⟨k + 1, t + y.size, by omega, by go_num, by go_num, by omega⟩, by simp [intOf]; omega⟩
    · obtain rfl : k = N := by omega
      go_wp2_with (go_at_call 120; refine (grow_fresh w.heap.size w.heap.size t _ (Nat.le_refl _) (heap_alloc_new w _) (by simp) (by omega)).mono ?_)
      rintro e w1 rfl h1 hb1
      have hb1' : Below w.heap.size w w1 := ((Below.refl w.heap.size w).alloc (Nat.le_refl _) _).trans hb1
      have hsz1 := hb1'.size
      have hc0 : w1.cell? ⟨b, off, none⟩ = some (.string (mkS x0)) := by
        rw [hb1'.cell (p := ⟨b, off, none⟩) hb]
        exact HC.out 0 (by simp)
      have H1 := Lib.hid (Or.inr h1 : Lib.IsBuilder 139 5 w.heap.size w.heap.size [] w1)
      have HB1 := Lib.hid hb1'
      clear h1 hb1 hb1' ht hprod hmul hdv hkn hk
      obtain ⟨X, hX⟩ : ∃ q, q = mkS x0 := ⟨_, rfl⟩
      rw [← hX] at hc0 hx0
      have HX0 := Lib.hid hX
      clear hX
      go_wp2_with (go_at_call 121; refine (qM w.heap.size w.heap.size [] X w1 H1.out ?_ hsz1).mono ?_)
      · simp; omega
      rintro e w2 ⟨rfl, h2, hb2⟩
      have H2 := Lib.hid (show Lib.IsBuilder 139 5 w.heap.size w.heap.size (Lib.byteCells (x0 ++ vV sep (r.take 0))) w2 from by
        rw [HX0.out, wV, List.nil_append] at h2
        rw [List.take_zero, vV, List.append_nil]; exact Or.inr h2)
      have HB2 := Lib.hid (HB1.out.trans hb2)
      clear h2 hb2 hsz1 hc0
      have hrk : k - 1 = r.length := by have := HN.out; omega
      go_wp2
      go_loopw [65] (fun i wr => ∃ j : Nat, j ≤ r.length ∧ i = .int .i64 j ∧ Hid (Lib.IsBuilder 139 5 w.heap.size w.heap.size (Lib.byteCells (x0 ++ vV sep (r.take j))) wr) ∧ Hid (Below w.heap.size w wr)) (fun i _ => r.length - (intOf i).toNat)
      case atStart => exact ⟨0, Nat.zero_le _, rfl, H2, HB2⟩
      case round =>
        obtain ⟨j, hj, rfl, HB, HW⟩ := hrel
        have hsz := HW.out.size
        by_cases hjr : j < r.length
        · obtain ⟨y, hy⟩ : ∃ q, q = mkS r[j] := ⟨_, rfl⟩
          have hyz : y.size ≤ 1000000 := by rw [hy, xP]; exact HX.out _ (List.mem_cons_of_mem _ (List.getElem_mem hjr))
          have hck : wr.cell? ⟨b, off + 1 + j, none⟩ = some (.string y) := by
            rw [HW.out.cell (p := ⟨b, off + 1 + j, none⟩) hb, hy, show off + 1 + j = off + (j + 1) from by omega]
            exact HC.out (j + 1) (by simp; omega)
          have HY := Lib.hid hy
          have hlen : (Lib.byteCells (x0 ++ vV sep (r.take j))).length ≤ 2000000000 := by rw [Lib.byteCells_length]; exact HT.out j
          have HE := Lib.hid (show Lib.byteCells (x0 ++ vV sep (r.take j)) ++ Lib.strCells S ++ Lib.strCells y = Lib.byteCells (x0 ++ vV sep (r.take (j + 1))) from by
            rw [HS.out, HY.out, List.take_succ_eq_append_getElem hjr, joinT_snoc, ← List.append_assoc, bc_two])
          clear hy
          go_wp2_with (go_at_call 121; refine (qM w.heap.size w.heap.size _ S wr HB.out ?_ hsz).mono ?_)
          · omega
          rintro e w3 ⟨rfl, h3, hb3⟩
          have hsz3 := Nat.le_trans hsz hb3.size
          have H3 := Lib.hid h3
          have HB3 := Lib.hid hb3
          clear h3 hb3
          go_wp2_with (go_at_call 121; refine (qM w.heap.size w.heap.size _ y w3 (Or.inr H3.out) ?_ hsz3).mono ?_)
          · rw [List.length_append, Lib.strCells_length]; omega
          rintro e w4 ⟨rfl, h4, hb4⟩
          rw [HE.out] at h4
          have H4 := Lib.hid (Or.inr h4 : Lib.IsBuilder 139 5 w.heap.size w.heap.size (Lib.byteCells (x0 ++ vV sep (r.take (j + 1)))) w4)
          have HB4 := Lib.hid ((HW.out.trans HB3.out).trans hb4)
          clear h4 hb4
          go_wp2
          go_roundw
          case rel => exact ⟨j + 1, by omega, by go_num, H4, HB4⟩
          case measure => simp [intOf]; omega
        · obtain rfl : j = r.length := by omega
          have HB' := HB.out
          rw [List.take_length, ← HJ.out] at HB'
          have hne : gI sep (x0 :: r) ≠ [] := by
            rw [HJ.out]
            cases r with
            | nil => simp at hrk; omega
            | cons y r => rw [vV]; intro q; exact H0.out (List.append_eq_nil_iff.1 (List.append_eq_nil_iff.1 (List.append_eq_nil_iff.1 q).2).1).1
          have HBF := Lib.hid HB'
          clear HB'
          go_wp2_with (go_at_call 122; refine (string_any w.heap.size w.heap.size _ _ HBF.out hne).mono ?_)
          rintro e w5 ⟨rfl, hb5⟩
          go_wp2
          go_ret
          exact ⟨rfl, HW.out.trans hb5⟩
theorem join_one (sep x : List UInt8) (A : Option Addr) (cap : Nat) (w : World) (hv : Reads pY w w.heap.size A [x]) (hcap : 1 ≤ cap) :
    Calls Tryz.prog 74 #[.slice A 1 cap, .string (mkS sep)] w fun e w' => e = .returned (.string (mkS x)) ∧ Below w.heap.size w w' := by
  obtain ⟨b, off, rfl, hb, hcell⟩ := hv (by simp)
  have hc : w.cell? ⟨b, off, none⟩ = some (.string (mkS x)) := hcell 0 _ rfl
  go_enter Tryz.func74, Tryz.ntmps74
  go_wp2
  go_ret
  exact ⟨rfl, Below.refl _ _⟩
theorem join_none (sep : List UInt8) (A : Option Addr) (cap : Nat) (w : World) :
    Calls Tryz.prog 74 #[.slice A 0 cap, .string (mkS sep)] w fun e w' => e = .returned (.string (mkS [])) ∧ Below w.heap.size w w' := by
  go_enter Tryz.func74, Tryz.ntmps74
  go_wp2
  go_ret
  exact ⟨rfl, Below.refl _ _⟩
theorem sjoin_any (sep : List UInt8) (l : List (List UInt8)) (A : Option Addr) (cap : Nat) (w : World) (hv : Reads pY w w.heap.size A l) (h0 : sep ≠ []) (hs : sep.length ≤ 100) (hn : l.length ≤ 1000) (hx : ∀ x ∈ l, x.length ≤ 1000000) (hcap : l.length ≤ cap) :
    Calls Tryz.prog 74 #[.slice A l.length cap, .string (mkS sep)] w fun e w' => e = .returned (.string (mkS (gI sep l))) ∧ Below w.heap.size w w' := by
  match l, hv, hn, hx, hcap with
  | [], _, _, _, _ => exact join_none sep A cap w
  | [x], hv, _, _, hcap => exact join_one sep x A cap w hv hcap
  | x :: y :: r, hv, hn, hx, hcap =>
    obtain ⟨b, off, rfl, hb, hcell⟩ := hv (by simp)
    refine join_many sep x (y :: r) b off cap w (fun j hj => ?_) hb (by simp) (by simp at hn ⊢; omega) h0 hs hx hcap
    refine hcell j _ ?_
    rw [← uV]; unfold qN
    rw [List.getElem?_map, List.getElem?_eq_getElem hj]; rfl
theorem SlT.caps {A : Option Addr} {n cap : Nat} {l : List (List UInt8)} {ob : List Blk} (h : SlT (.slice A n cap) l ob) : n = l.length ∧ l.length ≤ cap := by
  rcases h.2 with ⟨h1, h2, _⟩ | ⟨g, c, cur, h1, _, h3, _⟩
  · injection h1 with q1 q2 q3
    exact ⟨by omega, by omega⟩
  · injection h1 with q1 q2 q3
    exact ⟨q2, by omega⟩
theorem SlT.add {u : Value} {l : List (List UInt8)} {x : List UInt8} {ob : List Blk} (h : Sl 9 1 u (l.length + 1) (qN l ++ pY x) ob) : SlT u (l ++ [x]) ob :=
  Sl.to h (by simp) (by unfold qN; rw [List.map_append]; rfl)
end
section
def uD : Nat → List UInt8 → List (List UInt8)
  | 0, s => [s]
  | k + 1, s => if (yD 46 s).2.2 then (yD 46 s).1 :: uD k (yD 46 s).2.1 else [s]
theorem pcsK_len : ∀ (k : Nat) (s : List UInt8), 1 ≤ (uD k s).length ∧ (uD k s).length ≤ k + 1
  | 0, s => ⟨Nat.le_refl _, Nat.le_refl _⟩
  | k + 1, s => by
    have h := pcsK_len k (yD 46 s).2.1
    unfold uD
    split
    · simp only [List.length_cons]; omega
    · simp only [List.length_cons, List.length_nil]; omega
theorem pcsK_mem : ∀ (k : Nat) (s : List UInt8), ∀ x ∈ uD k s, x.length ≤ s.length
  | 0, s, x, hx => by rw [List.mem_singleton.1 hx]; exact Nat.le_refl _
  | k + 1, s, x, hx => by
    unfold uD at hx
    have hl := cutAt_le 46 s
    split at hx
    · rcases List.mem_cons.1 hx with e | hx
      · rw [e]; omega
      · have := pcsK_mem k (yD 46 s).2.1 x hx; omega
    · rw [List.mem_singleton.1 hx]; exact Nat.le_refl _
theorem pcsK_join : ∀ (k : Nat) (l : List (List UInt8)), l ≠ [] → l.length ≤ k + 1 → (∀ x ∈ l, (46 : UInt8) ∉ x) → uD k (zY 46 l) = l
  | _, [], h, _, _ => absurd rfl h
  | 0, [x], _, _, _ => rfl
  | k + 1, [x], _, _, h => by
    unfold uD
    show (if (yD 46 x).2.2 = true then _ else _) = _
    rw [u0 46 x (h x (List.mem_singleton.2 rfl))]
    exact if_neg Bool.false_ne_true
  | 0, x :: y :: r, _, hl, _ => by simp at hl
  | k + 1, x :: y :: r, _, hl, h => by
    have ih := pcsK_join k (y :: r) (by simp) (by simpa using hl) fun z hz => h z (List.mem_cons_of_mem _ hz)
    unfold uD
    rw [zY, mX 46 _ _ (h x (List.mem_cons_self ..)), if_pos rfl]
    dsimp only
    rw [ih]
def sgo (s : List UInt8) : Nat → Int × List UInt8
  | 0 => (7, s)
  | k + 1 => if xL s (y7 ((k + 1 : Nat) : Int)) = true ∧ (s.drop (y7 ((k + 1 : Nat) : Int)).length).length < (sgo s k).2.length then (((k + 1 : Nat) : Int), s.drop (y7 ((k + 1 : Nat) : Int)).length) else sgo s k
theorem sgo_le (s : List UInt8) : ∀ k, (sgo s k).2.length ≤ s.length
  | 0 => Nat.le_refl _
  | k + 1 => by
    unfold sgo
    split
    · show (s.drop _).length ≤ _; rw [List.length_drop]; omega
    · exact sgo_le s k
def u9 (s : List UInt8) : List (List UInt8) := uD 2 (yD 45 (sgo s 8).2).1
def starP (s : List UInt8) : Bool := decide ((u9 s).getLast? = some [42])
def vR (s : List UInt8) : Co := ⟨if starP s then 9 else (sgo s 8).1, if starP s then ((u9 s).length : Int) - 1 else ((u9 s).length : Int), ⟨zS (tg (u9 s) 0), zS (tg (u9 s) 1), zS (tg (u9 s) 2), (yD 45 (sgo s 8).2).2.1, []⟩⟩
theorem nob {d a : UInt8} {r t : List UInt8} (h : d ≠ a) : ¬ (xL (d :: r) (a :: t) = true) := by rw [qL h]; decide
theorem sgo_plain {d : UInt8} {r : List UInt8} (h : kK d.toNat = true ∨ d = 42) : sgo (d :: r) 8 = (7, d :: r) := by
  have hd : ∀ a : UInt8, kK a.toNat = false → a ≠ 42 → d ≠ a := fun a ha h42 e => by
    subst e
    rcases h with h | h
    · rw [ha] at h; cases h
    · exact h42 h
  have hb : ∀ k : Nat, 1 ≤ k → k ≤ 8 → ¬ (xL (d :: r) (y7 (k : Int)) = true) := fun k h1 h8 => by
    have hk : k = 1 ∨ k = 2 ∨ k = 3 ∨ k = 4 ∨ k = 5 ∨ k = 6 ∨ k = 7 ∨ k = 8 := by omega
    rcases hk with rfl | rfl | rfl | rfl | rfl | rfl | rfl | rfl
    · exact nob (hd 61 (by decide) (by decide))
    · exact nob (hd 33 (by decide) (by decide))
    · exact nob (hd 60 (by decide) (by decide))
    · exact nob (hd 60 (by decide) (by decide))
    · exact nob (hd 62 (by decide) (by decide))
    · exact nob (hd 62 (by decide) (by decide))
    · exact nob (hd 94 (by decide) (by decide))
    · exact nob (hd 126 (by decide) (by decide))
  have : ∀ k : Nat, k ≤ 8 → sgo (d :: r) k = (7, d :: r) := fun k => by
    induction k with
    | zero => intro _; rfl
    | succ k ih =>
      intro h8
      unfold sgo
      rw [if_neg (fun q => hb (k + 1) (by omega) h8 q.1)]
      exact ih (by omega)
  exact this 8 (by decide)
theorem sgo_sign {op : Int} (h1 : 1 ≤ op) (h8 : op ≤ 8) {d : UInt8} {r : List UInt8} (hd : kK d.toNat = true) : sgo (y7 op ++ d :: r) 8 = (op, d :: r) := by
  have h61 : d ≠ 61 := fun e => by subst e; revert hd; decide
  have hop : op = 1 ∨ op = 2 ∨ op = 3 ∨ op = 4 ∨ op = 5 ∨ op = 6 ∨ op = 7 ∨ op = 8 := by omega
  rcases hop with rfl | rfl | rfl | rfl | rfl | rfl | rfl | rfl <;> simp [y7, sgo, xL, h61]
theorem numD_star : zS [42] = 0 := by decide
theorem tg_star {v : Ver} (hv : v.may = true) {n : Nat} (h : n ≤ 2) (h0 : 0 < n ∨ v.maj = 0) (h1 : 1 < n ∨ v.min = 0) (h2 : 2 < n ∨ v.pat = 0) : zS (tg (yC v n ++ [[42]]) 0) = v.maj ∧ zS (tg (yC v n ++ [[42]]) 1) = v.min ∧ zS (tg (yC v n ++ [[42]]) 2) = v.pat := by
  obtain ⟨m1, m2, m3⟩ := qP hv
  have e1 := bZ m1
  have e2 := bZ m2
  match n, h with
  | 0, _ => exact ⟨numD_star.trans (h0.resolve_left (by decide)).symm, (h1.resolve_left (by decide)).symm, (h2.resolve_left (by decide)).symm⟩
  | 1, _ => exact ⟨e1, numD_star.trans (h1.resolve_left (by decide)).symm, (h2.resolve_left (by decide)).symm⟩
  | 2, _ => exact ⟨e1, e2, numD_star.trans (h2.resolve_left (by decide)).symm⟩
theorem rest_pieces {c : Co} (h : c.may = true) : uD 2 (yD 45 c.rest).1 = (if c.op = 9 then yC c.v c.parts.toNat ++ [[42]] else yC c.v c.parts.toNat) ∧ (yD 45 c.rest).2.1 = c.v.pre := by
  obtain ⟨_, hv, hb, h9, hn, hp, k0, k1, k2⟩ := Co.facts h
  unfold Co.rest
  by_cases e : c.op = 9
  · rw [if_pos e, if_pos e]
    have f : ∀ b : UInt8, kK b.toNat = false → b ≠ 42 → ∀ x ∈ yC c.v c.parts.toNat ++ [[42]], b ∉ x := fun b hb hb2 x hx => by
      rcases List.mem_append.1 hx with hx | hx
      · exact qS hv b hb x hx
      · rw [List.mem_singleton.1 hx]
        intro hm
        exact hb2 (List.mem_singleton.1 hm)
    rw [u0 45 _ (jA 45 (by decide) _ (f 45 (by decide) (by decide)))]
    have hq := h9 e
    have hpre : c.v.pre = [] := hp.resolve_left (by omega)
    refine ⟨?_, hpre.symm⟩
    refine pcsK_join 2 _ (by simp) ?_ (f 46 (by decide) (by decide))
    rw [List.length_append, qT c.v (by omega)]
    simp only [List.length_cons, List.length_nil]; omega
  · rw [if_neg e, if_neg e]
    have hq := hn e
    have hlen := qT c.v (n := c.parts.toNat) (by omega)
    have hne : yC c.v c.parts.toNat ≠ [] := fun h0 => by
      rw [h0] at hlen
      simp at hlen; omega
    rw [cut_tail 45 _ _ (jA 45 (by decide) _ (qS hv 45 (by decide)))]
    exact ⟨pcsK_join 2 _ hne (by omega) (qS hv 46 (by decide)), rfl⟩
theorem nums_last {c : Co} (h : c.may = true) (hn : ¬ c.op = 9) : ¬ (yC c.v c.parts.toNat).getLast? = some [42] := fun hl => by
  have hv := (Co.facts h).2.1
  have := qS hv 42 (by decide) _ (List.mem_of_getLast? hl)
  exact this (List.mem_singleton.2 rfl)
theorem guess_of {c : Co} {s : List UInt8} (h : c.may = true) (hs : (sgo s 8).2 = c.rest) (ho : c.op = 9 ∨ (sgo s 8).1 = c.op) : vR s = c := by
  obtain ⟨_, hv, hb, h9, hn, hp, k0, k1, k2⟩ := Co.facts h
  obtain ⟨p1, p2⟩ := rest_pieces h
  have hpc : u9 s = if c.op = 9 then yC c.v c.parts.toNat ++ [[42]] else yC c.v c.parts.toNat := by unfold u9; rw [hs]; exact p1
  unfold vR
  rw [hs, p2]
  by_cases e : c.op = 9
  · have hq := h9 e
    rw [if_pos e] at hpc
    have hst : starP s = true := by unfold starP; rw [hpc, List.getLast?_concat]; exact decide_eq_true rfl
    obtain ⟨e1, e2, e3⟩ := tg_star hv (n := c.parts.toNat) (by omega) (by omega) (by omega) (by omega)
    rw [hst, hpc, if_pos rfl, if_pos rfl, e1, e2, e3, List.length_append, qT c.v (by omega), List.length_singleton]
    obtain ⟨op, parts, a, b, d, q, r⟩ := c
    simp only at hb e hq ⊢
    rw [hb, e]
    congr 1
    omega
  · have hq := hn e
    rw [if_neg e] at hpc
    have hst : starP s = false := by unfold starP; rw [hpc]; exact decide_eq_false (nums_last h e)
    obtain ⟨e1, e2, e3⟩ := nums_back hv (n := c.parts.toNat) (by omega) (by omega) (by omega) (by omega)
    rw [hst, hpc, if_neg (by decide), if_neg (by decide), e1, e2, e3, qT c.v (by omega), ho.resolve_left e]
    obtain ⟨op, parts, a, b, d, q, r⟩ := c
    simp only at hb hq ⊢
    rw [hb]
    congr 1
    omega
theorem guess_co {c : Co} {s : List UInt8} (h : c.may = true) (hs : c.text = s ∨ c.text = 94 :: s) : vR s = c := by
  obtain ⟨ho, _⟩ := Co.facts h
  by_cases hn : c.op = 9
  · obtain ⟨d, r, e, hd⟩ := mK h hn
    have ht : c.text = d :: r := by unfold Co.text; rw [hn, show y7 9 = [] from rfl, List.nil_append, e]
    rcases hs with hs | hs
    · rw [ht] at hs
      rw [← hs]
      exact guess_of h (by rw [sgo_plain hd, e]) (.inl hn)
    · rw [ht] at hs
      injection hs with e1 _
      rw [e1] at hd
      exact absurd hd (by decide)
  · obtain ⟨d, r, e, hd⟩ := bY h hn
    have ht : c.text = y7 c.op ++ d :: r := by unfold Co.text; rw [e]
    have hs8 := sgo_sign ho.1 (by omega) (r := r) hd
    rcases hs with hs | hs
    · rw [ht] at hs
      rw [← hs]
      exact guess_of h (by rw [hs8, e]) (.inr (by rw [hs8]))
    · rw [ht] at hs
      have hop : c.op = 1 ∨ c.op = 2 ∨ c.op = 3 ∨ c.op = 4 ∨ c.op = 5 ∨ c.op = 6 ∨ c.op = 7 ∨ c.op = 8 := by omega
      have h7 : c.op = 7 := by rcases hop with e2 | e2 | e2 | e2 | e2 | e2 | e2 | e2 <;> rw [e2] at hs <;> first | exact e2 | simp [y7] at hs
      rw [h7] at hs
      have hs2 : d :: r = s := by injection hs
      rw [← hs2]
      exact guess_of h (by rw [sgo_plain (.inl hd), e]) (.inr (by rw [sgo_plain (.inl hd), h7]))
theorem guess_nil : vR [] = ⟨7, 1, ⟨0, 0, 0, [], []⟩⟩ := by decide
theorem fits_may {s : List UInt8} (h : (vR s).print = s ∨ (vR s).print = 94 :: s) : (vR s).may = true := by
  refine print_may fun e => ?_
  rw [e] at h
  rcases h with h | h
  · subst h
    revert e
    rw [guess_nil]
    decide +kernel
  · cases h
theorem prog_some {s : List UInt8} (h : (vR s).print = s ∨ (vR s).print = 94 :: s) : qE s = some (vR s) := by
  have hm := fits_may h
  rw [gE hm] at h
  exact (dT s _).2 ⟨hm, h⟩
theorem prog_none {s : List UInt8} (h : ¬ ((vR s).print = s ∨ (vR s).print = 94 :: s)) : qE s = none := by
  cases hp : qE s with
  | none => rfl
  | some c =>
    obtain ⟨hm, ht⟩ := (dT s c).1 hp
    have hg := guess_co hm ht
    rw [hg, gE hm] at h
    exact absurd ht h
theorem may_core6 {c : Co} (h : c.may = true) : kP c.v = c.v := by
  obtain ⟨_, _, hb, _⟩ := Co.facts h
  obtain ⟨op, parts, a, b, d, q, r⟩ := c
  simp only at hb ⊢
  rw [hb]; rfl
theorem low6 {c : Co} (h : c.may = true) : c.low = ⟨0, c.v, false⟩ := by unfold Co.low; rw [may_core6 h]
def g9 (c : Co) : Cu := if c.parts = 3 then ⟨0, c.v, true⟩ else if c.parts = 0 then y5 1 else qG c.v (c.parts - 1).toNat
theorem beh_aft {c : Co} (h : c.may = true) (h0 : ¬ c.parts = 0) : g9 c = c.aft := by
  obtain ⟨_, _, _, h9, hn, _⟩ := Co.facts h
  have hp : 0 ≤ c.parts ∧ c.parts ≤ 3 := by
    by_cases e : c.op = 9
    · have := h9 e; omega
    · have := hn e; omega
  unfold g9 Co.aft
  by_cases h3 : c.parts = 3
  · rw [if_pos h3, if_neg (by omega), may_core6 h]
  · rw [if_neg h3, if_neg h0, if_pos (by omega)]
def vD (c : Co) : Int := if ¬ c.v.maj = 0 then 0 else if ¬ c.v.min = 0 then 1 else if ¬ c.v.pat = 0 then 2 else c.parts - 1
theorem lead_turns {c : Co} (h : c.may = true) (h7 : ¬ c.op = 9) : vD c = (turnsK c : Int) := by
  obtain ⟨_, hv, _, _, hn, _, k0, k1, k2⟩ := Co.facts h
  have hq := hn h7
  obtain ⟨m1, m2, m3⟩ := uA hv
  unfold vD turnsK
  repeat' split
  all_goals omega
theorem span_parts {c : Co} (h : c.may = true) (e : c.op = 1 ∨ c.op = 2) : ¬ c.parts = 0 := by
  obtain ⟨_, _, _, _, hn, _⟩ := Co.facts h
  have := hn (by omega); omega
def qH (c : Co) : Cu × Cu :=
  if c.op = 3 then (y5 (-1), ⟨0, c.v, false⟩) else if c.op = 4 then (y5 (-1), g9 c) else if c.op = 5 then (g9 c, y5 1) else if c.op = 6 then (⟨0, c.v, false⟩, y5 1)
  else if c.op = 7 then (⟨0, c.v, false⟩, qG c.v (vD c).toNat) else if c.op = 8 then (⟨0, c.v, false⟩, qG c.v (min (c.parts - 1) 1).toNat) else if c.parts = 0 then (y5 (-1), y5 1) else (⟨0, c.v, false⟩, g9 c)
theorem bound_span {c : Co} (h : c.may = true) : qH c = c.span := by
  obtain ⟨ho, _, _, h9, hn, _⟩ := Co.facts h
  have e0 : ¬ c.op = 9 → g9 c = c.aft := fun e => beh_aft h (by have := hn e; omega)
  have el := low6 h
  have hop : c.op = 1 ∨ c.op = 2 ∨ c.op = 3 ∨ c.op = 4 ∨ c.op = 5 ∨ c.op = 6 ∨ c.op = 7 ∨ c.op = 8 ∨ c.op = 9 := by omega
  unfold qH Co.span
  rcases hop with e | e | e | e | e | e | e | e | e
  · have := hn (by omega); simp [e, el, e0 (by omega), show ¬ c.parts = 0 by omega]
  · have := hn (by omega); simp [e, el, e0 (by omega), show ¬ c.parts = 0 by omega]
  · simp [e, el]
  · simp [e, e0 (by omega)]
  · simp [e, e0 (by omega)]
  · simp [e, el]
  · have := lead_turns h (by omega); simp [e, el, this]
  · simp [e, el]
  · have hq := h9 e
    by_cases h0 : c.parts = 0
    · simp [e, h0]
    · have hb : g9 c = qG c.v (c.parts - 1).toNat := by unfold g9; rw [if_neg (by omega), if_neg h0]
      simp [e, h0, el, hb]
end
section
def vS (v : Ver) : Array Value := #[.int .i64 v.maj, .int .i64 v.min, .int .i64 v.pat]
theorem rd_nums (v : Ver) : ∀ (k : Nat), k < 3 → kN Tryz.prog 3 (vS v) k = some (.int .i64 (xV v.maj v.min v.pat k))
  | 0, _ => by kernel_rfl
  | 1, _ => by kernel_rfl
  | 2, _ => by kernel_rfl
theorem zero3 {v : Ver} (h : ∀ j, j < 3 → xV v.maj v.min v.pat j = 0) : v.maj = 0 ∧ v.min = 0 ∧ v.pat = 0 := ⟨h 0 (by decide), h 1 (by decide), h 2 (by decide)⟩
theorem may_rest {c : Co} (h : c.may = true) : ∀ j, c.parts.toNat ≤ j → j < 3 → xV c.v.maj c.v.min c.v.pat j = 0 := fun j h1 h3 => by
  obtain ⟨_, _, _, h9, hn, _, k0, k1, k2⟩ := Co.facts h
  have hj : j = 0 ∨ j = 1 ∨ j = 2 := by omega
  rcases hj with rfl | rfl | rfl
  · show c.v.maj = 0; omega
  · show c.v.min = 0; omega
  · show c.v.pat = 0; omega
theorem may_bad {c : Co} {k : Nat} (hk : c.parts.toNat + k < 3) (hn : ¬ xV c.v.maj c.v.min c.v.pat (c.parts.toNat + k) = 0) : c.may = false := by
  cases hm : c.may with
  | false => rfl
  | true => exact absurd (may_rest hm _ (Nat.le_add_right _ _) hk) hn
theorem bG {c : Co} (h1 : 1 ≤ c.op ∧ c.op ≤ 9) (h9 : c.op = 9 → 0 ≤ c.parts ∧ c.parts ≤ 2) (hn : ¬ c.op = 9 → 1 ≤ c.parts ∧ c.parts ≤ 3) (hz : ∀ j, c.parts.toNat ≤ j → j < 3 → xV c.v.maj c.v.min c.v.pat j = 0) :
    c.may = (c.v.may && (decide (c.v.build = []) && (decide (c.v.pre = []) || decide (c.parts = 3)))) := by
  have hp : 0 ≤ c.parts ∧ c.parts ≤ 3 := by
    by_cases e : c.op = 9
    · have := h9 e; omega
    · have := hn e; omega
  have z0 : 0 < c.parts ∨ c.v.maj = 0 := by
    by_cases q : 0 < c.parts
    · exact .inl q
    · exact .inr (hz 0 (by omega) (by decide))
  have z1 : 1 < c.parts ∨ c.v.min = 0 := by
    by_cases q : 1 < c.parts
    · exact .inl q
    · exact .inr (hz 1 (by omega) (by decide))
  have z2 : 2 < c.parts ∨ c.v.pat = 0 := by
    by_cases q : 2 < c.parts
    · exact .inl q
    · exact .inr (hz 2 (by omega) (by decide))
  refine Bool.eq_iff_iff.2 ⟨fun h => ?_, fun h => ?_⟩
  · obtain ⟨_, q1, q2, _, _, q3, _⟩ := Co.facts h
    rw [q1, decide_eq_true q2, Bool.true_and, Bool.true_and, Bool.or_eq_true, decide_eq_true_eq, decide_eq_true_eq]
    rcases q3 with q3 | q3
    · exact .inr (by omega)
    · exact .inl q3
  · simp only [Bool.and_eq_true, Bool.or_eq_true, decide_eq_true_eq] at h
    exact Co.may_iff.2 ⟨h1, h.1, h.2.1, h9, hn, h.2.2.elim .inr (fun q => .inl (by omega)), z0, z1, z2⟩
theorem lead_at {c : Co} {k : Nat} (hk : k < 3) (hz : ∀ j, j < k → xV c.v.maj c.v.min c.v.pat j = 0) (hn : ¬ xV c.v.maj c.v.min c.v.pat k = 0) : vD c = (k : Int) := by
  have h0 := hz 0; have h1 := hz 1
  have hj : k = 0 ∨ k = 1 ∨ k = 2 := by omega
  unfold vD
  rcases hj with rfl | rfl | rfl
  · exact if_pos (show ¬ c.v.maj = 0 from hn)
  · rw [if_neg (by simp [show c.v.maj = 0 from h0 (by decide)])]; exact if_pos (show ¬ c.v.min = 0 from hn)
  · rw [if_neg (by simp [show c.v.maj = 0 from h0 (by decide)]), if_neg (by simp [show c.v.min = 0 from h1 (by decide)])]; exact if_pos (show ¬ c.v.pat = 0 from hn)
theorem lead_end {c : Co} (hz : ∀ j, j < 3 → xV c.v.maj c.v.min c.v.pat j = 0) : vD c = c.parts - 1 := by
  obtain ⟨a, b, d⟩ := zero3 hz
  unfold vD
  rw [if_neg (by simp [a]), if_neg (by simp [b]), if_neg (by simp [d])]
theorem zero_on {v : Ver} {a k : Nat} (hz : ∀ j, a ≤ j → j < a + k → xV v.maj v.min v.pat j = 0) (h : xV v.maj v.min v.pat (a + k) = 0) : ∀ j, a ≤ j → j < a + (k + 1) → xV v.maj v.min v.pat j = 0 := fun j h1 h2 => by
  by_cases e : j = a + k
  · rw [e]; exact h
  · exact hz j h1 (by omega)
theorem zero_on0 {v : Ver} {k : Nat} (hz : ∀ j, j < k → xV v.maj v.min v.pat j = 0) (h : xV v.maj v.min v.pat k = 0) : ∀ j, j < k + 1 → xV v.maj v.min v.pat j = 0 := fun j h2 => by
  by_cases e : j = k
  · rw [e]; exact h
  · exact hz j (by omega)
theorem mY (v : Ver) (W : World) : Calls Tryz.prog 111 #[yJ v] W fun e w' => ∃ v' ob', e = .returned v' ∧ (∃ g, v' = .slice (some ⟨g, 0, none⟩) 3 3 ∧ ob' = [⟨g, vS v, 3⟩]) ∧ Own [] W w' ob' := by
  refine zP (n := 10) Tryz.func111 rfl (by kernel_rfl) (by kernel_rfl) (ZO (Zb (yJ v) (fun b1 => Zv (.slice none 0 0) (ZR (Zv (.pointer (some ⟨b1, 0, none⟩)) (Zl 0 ⟨b1, (yJ v).cells, 44⟩ (off := 0) (.int .i64 v.maj) (Zv (.pointer (some ⟨b1, 1, none⟩)) ?_)))))))
  exact Zl 0 ⟨b1, (yJ v).cells, 44⟩ (off := 1) (.int .i64 v.min) (Zv (.pointer (some ⟨b1, 2, none⟩)) (Zl 0 ⟨b1, (yJ v).cells, 44⟩ (off := 2) (.int .i64 v.pat) (qZ 3 #[.int .i64 v.maj, .int .i64 v.min, .int .i64 v.pat] (by kernel_rfl) rfl (fun _ => by kernel_rfl) (fun b2 => Zv (.slice (some ⟨b2, 0, none⟩) 3 3) (ZN (zB (ZF (.slice (some ⟨b2, 0, none⟩) 3 3) Tryz.results111 (fun w hO => ⟨_, _, rfl, ⟨_, rfl, rfl⟩, hO.sublist (List.cons_sublist_cons.2 (List.nil_sublist _))⟩))))))))
theorem tU (c : Co) (W : World) (hc : c.short) : Calls Tryz.prog 73 #[coV c] W fun e w' => e = .returned (.bool c.may) ∧ Below W.heap.size W w' := by
  refine zP (n := 64) Tryz.func73 rfl (by kernel_rfl) (by kernel_rfl) (ZO (Zb (coV c) (fun b1 => Zv (.bool false) (ZR (Zv (.int .i64 1) (Zv (.int .i64 3) (zR ?_)))))))
  refine zA (z6 (ZO (Zv (.pointer (some ⟨b1, 0, none⟩)) (Zl 0 ⟨b1, (coV c).cells, 51⟩ (off := 0) (.int .i64 c.op) ?_))))
  by_cases h1 : (c.op : Int) = 9
  · refine zW (p := (c.op : Int) = 9) true (by kernel_rfl) (fun _ => by kernel_rfl) (decide_eq_true (h1)) ?_
    refine ZY (z7 (Zv (.int .i64 0) (Zv (.int .i64 2) (ZN (z6 (ZO (Zv (.pointer (some ⟨b1, 0, none⟩)) ?_)))))))
    refine Zl 0 ⟨b1, (coV c).cells, 51⟩ (off := 0) (.int .i64 c.op) ?_
    by_cases h2 : (c.op : Int) < 1
    · refine zW (p := (c.op : Int) < 1) true (by kernel_rfl) (fun _ => by kernel_rfl) (decide_eq_true (h2)) ?_
      refine Zv (.bool true) (Zk (Zk (Zk (Zv (.bool true) (Zv (.bool true) (Zk (Zk (Zk (Zk (Zv (.bool true) (Zv (.bool true) ?_)))))))))))
      refine Zk (Zk (Zk (Zk (Zv (.bool true) (ZY (ZO (Zv (.bool false) (zR ?_))))))))
      exact zA (zB (z8 (ZF (.bool false) Tryz.results73 (fun w hO => ⟨by rw [show c.may = false from Bool.eq_false_iff.2 fun q0 => by have q1 := Co.may_iff.1 q0; grind], hO.below⟩))))
    refine Zd (p := (c.op : Int) < 1) false (decide_eq_false (h2)) (Zv (.bool false) (Zv (.pointer (some ⟨b1, 0, none⟩)) (Zl 0 ⟨b1, (coV c).cells, 51⟩ (off := 0) (.int .i64 c.op) ?_)))
    by_cases h3 : (9 : Int) < c.op
    · refine zW (p := (9 : Int) < c.op) true (by kernel_rfl) (fun _ => by kernel_rfl) (decide_eq_true (h3)) ?_
      refine Zv (.bool true) (Zv (.bool true) (Zk (Zk (Zk (Zk (Zv (.bool true) (Zv (.bool true) (Zk (Zk (Zk (Zk ?_)))))))))))
      refine Zv (.bool true) (ZY (ZO (Zv (.bool false) (ZN (zB (z8 (ZF (.bool false) Tryz.results73 ?_)))))))
      exact fun w hO => ⟨by rw [show c.may = false from Bool.eq_false_iff.2 fun q0 => by have q1 := Co.may_iff.1 q0; grind], hO.below⟩
    refine Zd (p := (9 : Int) < c.op) false (decide_eq_false (h3)) (Zv (.bool false) (Zv (.bool false) (Zv (.pointer (some ⟨b1, 1, none⟩)) (Zl 0 ⟨b1, (coV c).cells, 51⟩ (off := 1) (.int .i64 c.parts) (Zv (.int .i64 0) ?_)))))
    by_cases h4 : (c.parts : Int) < 0
    · refine zW (p := (c.parts : Int) < 0) true (by kernel_rfl) (fun _ => by kernel_rfl) (decide_eq_true (h4)) ?_
      refine Zv (.bool true) (Zv (.bool true) (Zk (Zk (Zk (Zk (Zv (.bool true) (ZY (z6 (z7 ?_)))))))))
      exact Zv (.bool false) (ZN (zB (z8 (ZF (.bool false) Tryz.results73 (fun w hO => ⟨by rw [show c.may = false from Bool.eq_false_iff.2 fun q0 => by have q1 := Co.may_iff.1 q0; grind], hO.below⟩)))))
    refine Zd (p := (c.parts : Int) < 0) false (decide_eq_false (h4)) (Zv (.bool false) (Zv (.bool false) (Zv (.pointer (some ⟨b1, 1, none⟩)) (Zl 0 ⟨b1, (coV c).cells, 51⟩ (off := 1) (.int .i64 c.parts) (Zv (.int .i64 2) ?_)))))
    by_cases h5 : (2 : Int) < c.parts
    · refine zW (p := (2 : Int) < c.parts) true (by kernel_rfl) (fun _ => by kernel_rfl) (decide_eq_true (h5)) ?_
      refine Zv (.bool true) (ZY (ZO (Zv (.bool false) (ZN (zB (z8 (ZF (.bool false) Tryz.results73 ?_)))))))
      exact fun w hO => ⟨by rw [show c.may = false from Bool.eq_false_iff.2 fun q0 => by have q1 := Co.may_iff.1 q0; grind], hO.below⟩
    refine Zd (p := (2 : Int) < c.parts) false (decide_eq_false (h5)) (Zv (.bool false) (ZX (ZB (z6 (z6 (uQ (by kernel_rfl) (ZT 0 [] _ (.pointer (some ⟨b1, 2, none⟩)) (zF (zF zJ)) rfl (ZL 1 [] _ 0 ⟨b1, (coV c).cells, 51⟩ (off := 2) (.agg #[.int .i64 c.v.maj, .int .i64 c.v.min, .int .i64 c.v.pat, .string (mkS c.v.pre), .string (mkS c.v.build)]) (zF (zF zJ)) rfl rfl ?_))))))))
    refine ZT 3 [] _ (.pointer (some ⟨b1, 1, none⟩)) (zF (zF zJ)) rfl (ZL 4 [] _ 0 ⟨b1, (coV c).cells, 51⟩ (off := 1) (.int .i64 c.parts) (zF (zF zJ)) rfl rfl (ZT 7 [] _ (.int .i64 0) (zF (zF zJ)) rfl (zZ 2 (by kernel_rfl) (gW _ (k := 111) (args := #[.agg #[.int .i64 c.v.maj, .int .i64 c.v.min, .int .i64 c.v.pat, .string (mkS c.v.pre), .string (mkS c.v.build)]]) (fun v' L' => ∃ ob', L' = ob' ++ ([] ++ ([⟨b1, (coV c).cells, 51⟩])) ∧ ∃ g, v' = .slice (some ⟨g, 0, none⟩) 3 3 ∧ ob' = [⟨g, vS c.v, 3⟩]) rfl (by kernel_rfl) (fun _ => by kernel_rfl) (fun w hO => (mY c.v w).mono fun e w' ⟨v', ob', k1, k2, k3⟩ => ⟨v', _, k1, ⟨ob', rfl, k2⟩, Own.joinN hO k3⟩) (fun v' L' ⟨ob', e, _⟩ w hO => by subst e; exact Own.sub [] (Own.sub ob' hO)) (fun v1 L2 hv2 => ?_)))))
    obtain ⟨o1, rfl, hr1⟩ := hv2
    obtain ⟨g1, rfl, ho1⟩ := hr1
    refine vQ (L' := (o1 ++ ([] : List Blk)) ++ ([⟨b1, (coV c).cells, 51⟩])) (List.append_assoc _ _ _).symm (wF 5 (o1 ++ ([] : List Blk)) _ (.slice (some ⟨g1, 0 + (if 3 = c.parts.toNat then 0 else c.parts.toNat * 1), none⟩) (3 - c.parts.toNat : Nat) (3 - c.parts.toNat : Nat)) rfl (by kernel_rfl) (by kernel_rfl) (by kernel_rfl) (zF (zF zJ)) (by kernel_rfl) (fun w _ => fO (b := g1) (off := 0) (n := 3) (c := 3) (k := .i64) (j := c.parts) (e := 3) (sz := 1) rfl (by kernel_rfl) (by kernel_rfl) (by kernel_rfl) (by kernel_rfl) (by omega) (by omega) w) (ZT 6 (o1 ++ ([] : List Blk)) _ (.int .i64 ((3 - c.parts.toNat : Nat) : Int)) (zF (zF zJ)) rfl (x7 (by kernel_rfl) (zA (zL (gF (L' := [⟨g1, vS c.v, 3⟩, ⟨b1, (coV c).cells, 51⟩]) (by rw [ho1]; rfl) (yP (fun L f m => ∃ (k : Nat) (j : Nat → Value), (k ≤ 3 - c.parts.toNat ∧ ∀ j, c.parts.toNat ≤ j → j < c.parts.toNat + k → xV c.v.maj c.v.min c.v.pat j = 0) ∧ L = [⟨g1, vS c.v, 3⟩, ⟨b1, (coV c).cells, 51⟩] ∧ f = kG j [(1, .pointer (some ⟨b1, 0, none⟩)), (35, .slice (some ⟨g1, 0 + (if 3 = c.parts.toNat then 0 else c.parts.toNat * 1), none⟩) (3 - c.parts.toNat : Nat) (3 - c.parts.toNat : Nat)), (36, .int .i64 ((3 - c.parts.toNat : Nat) : Int)), (37, .int .i64 (k : Int))] ∧ m = 3 - c.parts.toNat - k) (3 - c.parts.toNat - 0) ⟨0, _, ⟨Nat.zero_le _, fun j h1 h2 => absurd h2 (by omega)⟩, rfl, ZU, rfl⟩ ?_)))))))
    rintro L f m ⟨k, j, hrel, rfl, rfl, rfl⟩
    have hkl := hrel.1
    refine z6 (z7 ?_)
    by_cases h6 : (k : Int) < ((3 - c.parts.toNat : Nat) : Int)
    · refine zW (p := (k : Int) < ((3 - c.parts.toNat : Nat) : Int)) true (by kernel_rfl) (fun _ => by kernel_rfl) (decide_eq_true (h6)) ?_
      refine ZN (z6 (Zt (ZB (z6 (zL (ZO (zV (.pointer (some ⟨g1, c.parts.toNat + k, none⟩)) (by kernel_rfl) (kH (b := g1) (off := 0 + (if 3 = c.parts.toNat then 0 else c.parts.toNat * 1)) (n := (3 - c.parts.toNat : Nat)) (c := (3 - c.parts.toNat : Nat)) (k := .i64) (j := (k : Int)) (e := 3) (sz := 1) rfl (by kernel_rfl) (by kernel_rfl) (by kernel_rfl) (by kernel_rfl) (by omega) (by omega) (by rw [if_neg (by omega)]; omega)) (jF 0 ⟨g1, vS c.v, 3⟩ (off := c.parts.toNat + k) (.int .i64 (xV c.v.maj c.v.min c.v.pat (c.parts.toNat + k))) (by kernel_rfl) rfl (by kernel_rfl) (by kernel_rfl) (rd_nums c.v _ (by omega)) ?_))))))))
      refine Zv (.int .i64 (xV c.v.maj c.v.min c.v.pat (c.parts.toNat + k))) (ZR (Zv (.int .i64 (xV c.v.maj c.v.min c.v.pat (c.parts.toNat + k))) ?_))
      by_cases h7 : (xV c.v.maj c.v.min c.v.pat (c.parts.toNat + k) : Int) = 0
      · refine jT (p := (xV c.v.maj c.v.min c.v.pat (c.parts.toNat + k) : Int) = 0) true (by kernel_rfl) (fun _ => by kernel_rfl) (decide_eq_true (h7)) ?_
        exact ZX (x5 (zT (zA (z7 (Zu (k := .i64) (((k + 1 : Nat) : Int)) (IntWalk.i64_in _ (by omega)) (Zv (.int .i64 ((k + 1 : Nat) : Int)) (zR (zU (m' := 3 - c.parts.toNat - (k + 1)) (by omega) ⟨k + 1, _, ⟨by omega, zero_on hrel.2 h7⟩, rfl, ZU, rfl⟩))))))))
      refine Zn (p := (xV c.v.maj c.v.min c.v.pat (c.parts.toNat + k) : Int) = 0) false (decide_eq_false (h7)) (ZY (ZO (Zv (.bool false) (ZN (zB (zG (z8 ?_)))))))
      exact yB (zG (z8 (ZF (.bool false) Tryz.results73 (fun w hO => ⟨by rw [may_bad (k := k) (by omega) h7], hO.below⟩))))
    refine Zd (p := (k : Int) < ((3 - c.parts.toNat : Nat) : Int)) false (decide_eq_false (h6)) (ZN (z6 (Zf (y8 (zC (zN (zI (zA (z6 (z7 ?_))))))))))
    refine Zv (.pointer (some ⟨b1, 2, none⟩)) (Zl 1 ⟨b1, (coV c).cells, 51⟩ (off := 2) (.agg #[.int .i64 c.v.maj, .int .i64 c.v.min, .int .i64 c.v.pat, .string (mkS c.v.pre), .string (mkS c.v.build)]) (Zc (k := 119) (args := #[.agg #[.int .i64 c.v.maj, .int .i64 c.v.min, .int .i64 c.v.pat, .string (mkS c.v.pre), .string (mkS c.v.build)]]) (.bool c.v.may) (fun w _ => jI c.v w (Nat.lt_of_le_of_lt hc.1 (by decide)) (Nat.lt_of_le_of_lt hc.2 (by decide))) (Zv (.bool c.v.may) ?_)))
    cases h8 : c.v.may with
    | true =>
      refine Zv (.pointer (some ⟨b1, 2, none⟩)) (Zv (.pointer (some ⟨b1, 6, none⟩)) (Zl 1 ⟨b1, (coV c).cells, 51⟩ (off := 6) (.string (mkS c.v.build)) ?_))
      by_cases h9 : (c.v.build : List UInt8) = []
      · refine zV (.bool true) (by kernel_rfl) (x4 (a := c.v.build) (b := ([])) rfl (by kernel_rfl) (by kernel_rfl) (decide_eq_true (h9))) ?_
        refine Zv (.bool true) (Zv (.bool true) (Zv (.pointer (some ⟨b1, 2, none⟩)) (Zv (.pointer (some ⟨b1, 5, none⟩)) (Zl 1 ⟨b1, (coV c).cells, 51⟩ (off := 5) (.string (mkS c.v.pre)) ?_))))
        by_cases h10 : (c.v.pre : List UInt8) = []
        · refine zV (.bool true) (by kernel_rfl) (x4 (a := c.v.pre) (b := ([])) rfl (by kernel_rfl) (by kernel_rfl) (decide_eq_true (h10))) ?_
          exact Zv (.bool true) (Zk (Zk (Zk (Zv (.bool true) (Zv (.bool true) (Zv (.bool true) (ZN (zB (ZF (.bool true) Tryz.results73 (fun w hO => ⟨by rw [bG ⟨by omega, by omega⟩ (fun _ => by omega) (fun _ => by omega) (fun j q1 q2 => hrel.2 j q1 (by omega))]; simp [h1, h2, h3, h4, h5, h6, h8, h9, h10], hO.below⟩))))))))))
        refine zV (.bool false) (by kernel_rfl) (x4 (a := c.v.pre) (b := ([])) rfl (by kernel_rfl) (by kernel_rfl) (decide_eq_false (h10))) (Zv (.bool false) (Zv (.pointer (some ⟨b1, 1, none⟩)) (Zl 1 ⟨b1, (coV c).cells, 51⟩ (off := 1) (.int .i64 c.parts) ?_)))
        by_cases h11 : (c.parts : Int) = 3
        · refine zW (p := (c.parts : Int) = 3) true (by kernel_rfl) (fun _ => by kernel_rfl) (decide_eq_true (h11)) ?_
          exact Zv (.bool true) (Zv (.bool true) (Zv (.bool true) (ZN (zB (ZF (.bool true) Tryz.results73 (fun w hO => ⟨by rw [bG ⟨by omega, by omega⟩ (fun _ => by omega) (fun _ => by omega) (fun j q1 q2 => hrel.2 j q1 (by omega))]; simp [h1, h2, h3, h4, h5, h6, h8, h9, h10, h11], hO.below⟩))))))
        exact Zd (p := (c.parts : Int) = 3) false (decide_eq_false (h11)) (Zv (.bool false) (Zv (.bool false) (Zv (.bool false) (ZN (zB (ZF (.bool false) Tryz.results73 (fun w hO => ⟨by rw [bG ⟨by omega, by omega⟩ (fun _ => by omega) (fun _ => by omega) (fun j q1 q2 => hrel.2 j q1 (by omega))]; simp [h1, h2, h3, h4, h5, h6, h8, h9, h10, h11], hO.below⟩)))))))
      refine zV (.bool false) (by kernel_rfl) (x4 (a := c.v.build) (b := ([])) rfl (by kernel_rfl) (by kernel_rfl) (decide_eq_false (h9))) (Zv (.bool false) (Zv (.bool false) (Zk (Zk (Zk (Zk (Zk (Zk (Zk (Zk (Zk ?_)))))))))))
      exact Zv (.bool false) (Zv (.bool false) (ZN (zB (ZF (.bool false) Tryz.results73 (fun w hO => ⟨by rw [bG ⟨by omega, by omega⟩ (fun _ => by omega) (fun _ => by omega) (fun j q1 q2 => hrel.2 j q1 (by omega))]; simp [h1, h2, h3, h4, h5, h6, h8, h9], hO.below⟩)))))
    | false =>
      refine Zk (Zk (Zk (Zk (Zv (.bool false) (Zv (.bool false) (Zk (Zk (Zk (Zk (Zk (Zk ?_)))))))))))
      exact Zk (Zk (Zk (Zv (.bool false) (Zv (.bool false) (ZN (zB (ZF (.bool false) Tryz.results73 (fun w hO => ⟨by rw [bG ⟨by omega, by omega⟩ (fun _ => by omega) (fun _ => by omega) (fun j q1 q2 => hrel.2 j q1 (by omega))]; simp [h1, h2, h3, h4, h5, h6, h8], hO.below⟩))))))))
  refine Zd (p := (c.op : Int) = 9) false (decide_eq_false (h1)) (ZX (ZB (z6 (ZO (Zv (.pointer (some ⟨b1, 0, none⟩)) (Zl 0 ⟨b1, (coV c).cells, 51⟩ (off := 0) (.int .i64 c.op) ?_))))))
  by_cases h12 : (c.op : Int) < 1
  · refine zW (p := (c.op : Int) < 1) true (by kernel_rfl) (fun _ => by kernel_rfl) (decide_eq_true (h12)) ?_
    refine Zv (.bool true) (Zk (Zk (Zk (Zv (.bool true) (Zv (.bool true) (Zk (Zk (Zk (Zk (Zv (.bool true) (Zv (.bool true) ?_)))))))))))
    refine Zk (Zk (Zk (Zk (Zv (.bool true) (ZY (ZO (Zv (.bool false) (zR ?_))))))))
    exact zA (zB (z8 (ZF (.bool false) Tryz.results73 (fun w hO => ⟨by rw [show c.may = false from Bool.eq_false_iff.2 fun q0 => by have q1 := Co.may_iff.1 q0; grind], hO.below⟩))))
  refine Zd (p := (c.op : Int) < 1) false (decide_eq_false (h12)) (Zv (.bool false) (Zv (.pointer (some ⟨b1, 0, none⟩)) (Zl 0 ⟨b1, (coV c).cells, 51⟩ (off := 0) (.int .i64 c.op) ?_)))
  by_cases h13 : (9 : Int) < c.op
  · refine zW (p := (9 : Int) < c.op) true (by kernel_rfl) (fun _ => by kernel_rfl) (decide_eq_true (h13)) ?_
    refine Zv (.bool true) (Zv (.bool true) (Zk (Zk (Zk (Zk (Zv (.bool true) (Zv (.bool true) (Zk (Zk (Zk (Zk ?_)))))))))))
    refine Zv (.bool true) (ZY (ZO (Zv (.bool false) (ZN (zB (z8 (ZF (.bool false) Tryz.results73 ?_)))))))
    exact fun w hO => ⟨by rw [show c.may = false from Bool.eq_false_iff.2 fun q0 => by have q1 := Co.may_iff.1 q0; grind], hO.below⟩
  refine Zd (p := (9 : Int) < c.op) false (decide_eq_false (h13)) (Zv (.bool false) (Zv (.bool false) (Zv (.pointer (some ⟨b1, 1, none⟩)) (Zl 0 ⟨b1, (coV c).cells, 51⟩ (off := 1) (.int .i64 c.parts) (Zv (.int .i64 1) ?_)))))
  by_cases h14 : (c.parts : Int) < 1
  · refine zW (p := (c.parts : Int) < 1) true (by kernel_rfl) (fun _ => by kernel_rfl) (decide_eq_true (h14)) ?_
    refine Zv (.bool true) (Zv (.bool true) (Zk (Zk (Zk (Zk (Zv (.bool true) (ZY (z6 (z7 ?_)))))))))
    exact Zv (.bool false) (ZN (zB (z8 (ZF (.bool false) Tryz.results73 (fun w hO => ⟨by rw [show c.may = false from Bool.eq_false_iff.2 fun q0 => by have q1 := Co.may_iff.1 q0; grind], hO.below⟩)))))
  refine Zd (p := (c.parts : Int) < 1) false (decide_eq_false (h14)) (Zv (.bool false) (Zv (.bool false) (Zv (.pointer (some ⟨b1, 1, none⟩)) (Zl 0 ⟨b1, (coV c).cells, 51⟩ (off := 1) (.int .i64 c.parts) (Zv (.int .i64 3) ?_)))))
  by_cases h15 : (3 : Int) < c.parts
  · refine zW (p := (3 : Int) < c.parts) true (by kernel_rfl) (fun _ => by kernel_rfl) (decide_eq_true (h15)) ?_
    refine Zv (.bool true) (ZY (ZO (Zv (.bool false) (ZN (zB (z8 (ZF (.bool false) Tryz.results73 ?_)))))))
    exact fun w hO => ⟨by rw [show c.may = false from Bool.eq_false_iff.2 fun q0 => by have q1 := Co.may_iff.1 q0; grind], hO.below⟩
  refine Zd (p := (3 : Int) < c.parts) false (decide_eq_false (h15)) (Zv (.bool false) (ZX (ZB (z6 (z6 (uQ (by kernel_rfl) (ZT 0 [] _ (.pointer (some ⟨b1, 2, none⟩)) (zF (zF zJ)) rfl (ZL 1 [] _ 0 ⟨b1, (coV c).cells, 51⟩ (off := 2) (.agg #[.int .i64 c.v.maj, .int .i64 c.v.min, .int .i64 c.v.pat, .string (mkS c.v.pre), .string (mkS c.v.build)]) (zF (zF zJ)) rfl rfl ?_))))))))
  refine ZT 3 [] _ (.pointer (some ⟨b1, 1, none⟩)) (zF (zF zJ)) rfl (ZL 4 [] _ 0 ⟨b1, (coV c).cells, 51⟩ (off := 1) (.int .i64 c.parts) (zF (zF zJ)) rfl rfl (ZT 7 [] _ (.int .i64 0) (zF (zF zJ)) rfl (zZ 2 (by kernel_rfl) (gW _ (k := 111) (args := #[.agg #[.int .i64 c.v.maj, .int .i64 c.v.min, .int .i64 c.v.pat, .string (mkS c.v.pre), .string (mkS c.v.build)]]) (fun v' L' => ∃ ob', L' = ob' ++ ([] ++ ([⟨b1, (coV c).cells, 51⟩])) ∧ ∃ g, v' = .slice (some ⟨g, 0, none⟩) 3 3 ∧ ob' = [⟨g, vS c.v, 3⟩]) rfl (by kernel_rfl) (fun _ => by kernel_rfl) (fun w hO => (mY c.v w).mono fun e w' ⟨v', ob', k1, k2, k3⟩ => ⟨v', _, k1, ⟨ob', rfl, k2⟩, Own.joinN hO k3⟩) (fun v' L' ⟨ob', e, _⟩ w hO => by subst e; exact Own.sub [] (Own.sub ob' hO)) (fun v1 L2 hv2 => ?_)))))
  obtain ⟨o1, rfl, hr1⟩ := hv2
  obtain ⟨g1, rfl, ho1⟩ := hr1
  refine vQ (L' := (o1 ++ ([] : List Blk)) ++ ([⟨b1, (coV c).cells, 51⟩])) (List.append_assoc _ _ _).symm (wF 5 (o1 ++ ([] : List Blk)) _ (.slice (some ⟨g1, 0 + (if 3 = c.parts.toNat then 0 else c.parts.toNat * 1), none⟩) (3 - c.parts.toNat : Nat) (3 - c.parts.toNat : Nat)) rfl (by kernel_rfl) (by kernel_rfl) (by kernel_rfl) (zF (zF zJ)) (by kernel_rfl) (fun w _ => fO (b := g1) (off := 0) (n := 3) (c := 3) (k := .i64) (j := c.parts) (e := 3) (sz := 1) rfl (by kernel_rfl) (by kernel_rfl) (by kernel_rfl) (by kernel_rfl) (by omega) (by omega) w) (ZT 6 (o1 ++ ([] : List Blk)) _ (.int .i64 ((3 - c.parts.toNat : Nat) : Int)) (zF (zF zJ)) rfl (x7 (by kernel_rfl) (zA (zL (gF (L' := [⟨g1, vS c.v, 3⟩, ⟨b1, (coV c).cells, 51⟩]) (by rw [ho1]; rfl) (yP (fun L f m => ∃ (k : Nat) (j : Nat → Value), (k ≤ 3 - c.parts.toNat ∧ ∀ j, c.parts.toNat ≤ j → j < c.parts.toNat + k → xV c.v.maj c.v.min c.v.pat j = 0) ∧ L = [⟨g1, vS c.v, 3⟩, ⟨b1, (coV c).cells, 51⟩] ∧ f = kG j [(1, .pointer (some ⟨b1, 0, none⟩)), (35, .slice (some ⟨g1, 0 + (if 3 = c.parts.toNat then 0 else c.parts.toNat * 1), none⟩) (3 - c.parts.toNat : Nat) (3 - c.parts.toNat : Nat)), (36, .int .i64 ((3 - c.parts.toNat : Nat) : Int)), (37, .int .i64 (k : Int))] ∧ m = 3 - c.parts.toNat - k) (3 - c.parts.toNat - 0) ⟨0, _, ⟨Nat.zero_le _, fun j h1 h2 => absurd h2 (by omega)⟩, rfl, ZU, rfl⟩ ?_)))))))
  rintro L f m ⟨k, j, hrel, rfl, rfl, rfl⟩
  have hkl := hrel.1
  refine z6 (z7 ?_)
  by_cases h16 : (k : Int) < ((3 - c.parts.toNat : Nat) : Int)
  · refine zW (p := (k : Int) < ((3 - c.parts.toNat : Nat) : Int)) true (by kernel_rfl) (fun _ => by kernel_rfl) (decide_eq_true (h16)) ?_
    refine ZN (z6 (Zt (ZB (z6 (zL (ZO (zV (.pointer (some ⟨g1, c.parts.toNat + k, none⟩)) (by kernel_rfl) (kH (b := g1) (off := 0 + (if 3 = c.parts.toNat then 0 else c.parts.toNat * 1)) (n := (3 - c.parts.toNat : Nat)) (c := (3 - c.parts.toNat : Nat)) (k := .i64) (j := (k : Int)) (e := 3) (sz := 1) rfl (by kernel_rfl) (by kernel_rfl) (by kernel_rfl) (by kernel_rfl) (by omega) (by omega) (by rw [if_neg (by omega)]; omega)) (jF 0 ⟨g1, vS c.v, 3⟩ (off := c.parts.toNat + k) (.int .i64 (xV c.v.maj c.v.min c.v.pat (c.parts.toNat + k))) (by kernel_rfl) rfl (by kernel_rfl) (by kernel_rfl) (rd_nums c.v _ (by omega)) ?_))))))))
    refine Zv (.int .i64 (xV c.v.maj c.v.min c.v.pat (c.parts.toNat + k))) (ZR (Zv (.int .i64 (xV c.v.maj c.v.min c.v.pat (c.parts.toNat + k))) ?_))
    by_cases h17 : (xV c.v.maj c.v.min c.v.pat (c.parts.toNat + k) : Int) = 0
    · refine jT (p := (xV c.v.maj c.v.min c.v.pat (c.parts.toNat + k) : Int) = 0) true (by kernel_rfl) (fun _ => by kernel_rfl) (decide_eq_true (h17)) ?_
      exact ZX (x5 (zT (zA (z7 (Zu (k := .i64) (((k + 1 : Nat) : Int)) (IntWalk.i64_in _ (by omega)) (Zv (.int .i64 ((k + 1 : Nat) : Int)) (zR (zU (m' := 3 - c.parts.toNat - (k + 1)) (by omega) ⟨k + 1, _, ⟨by omega, zero_on hrel.2 h17⟩, rfl, ZU, rfl⟩))))))))
    refine Zn (p := (xV c.v.maj c.v.min c.v.pat (c.parts.toNat + k) : Int) = 0) false (decide_eq_false (h17)) (ZY (ZO (Zv (.bool false) (ZN (zB (zG (z8 ?_)))))))
    exact yB (zG (z8 (ZF (.bool false) Tryz.results73 (fun w hO => ⟨by rw [may_bad (k := k) (by omega) h17], hO.below⟩))))
  refine Zd (p := (k : Int) < ((3 - c.parts.toNat : Nat) : Int)) false (decide_eq_false (h16)) (ZN (z6 (Zf (y8 (zC (zN (zI (zA (z6 (z7 ?_))))))))))
  refine Zv (.pointer (some ⟨b1, 2, none⟩)) (Zl 1 ⟨b1, (coV c).cells, 51⟩ (off := 2) (.agg #[.int .i64 c.v.maj, .int .i64 c.v.min, .int .i64 c.v.pat, .string (mkS c.v.pre), .string (mkS c.v.build)]) (Zc (k := 119) (args := #[.agg #[.int .i64 c.v.maj, .int .i64 c.v.min, .int .i64 c.v.pat, .string (mkS c.v.pre), .string (mkS c.v.build)]]) (.bool c.v.may) (fun w _ => jI c.v w (Nat.lt_of_le_of_lt hc.1 (by decide)) (Nat.lt_of_le_of_lt hc.2 (by decide))) (Zv (.bool c.v.may) ?_)))
  cases h18 : c.v.may with
  | true =>
    refine Zv (.pointer (some ⟨b1, 2, none⟩)) (Zv (.pointer (some ⟨b1, 6, none⟩)) (Zl 1 ⟨b1, (coV c).cells, 51⟩ (off := 6) (.string (mkS c.v.build)) ?_))
    by_cases h19 : (c.v.build : List UInt8) = []
    · refine zV (.bool true) (by kernel_rfl) (x4 (a := c.v.build) (b := ([])) rfl (by kernel_rfl) (by kernel_rfl) (decide_eq_true (h19))) ?_
      refine Zv (.bool true) (Zv (.bool true) (Zv (.pointer (some ⟨b1, 2, none⟩)) (Zv (.pointer (some ⟨b1, 5, none⟩)) (Zl 1 ⟨b1, (coV c).cells, 51⟩ (off := 5) (.string (mkS c.v.pre)) ?_))))
      by_cases h20 : (c.v.pre : List UInt8) = []
      · refine zV (.bool true) (by kernel_rfl) (x4 (a := c.v.pre) (b := ([])) rfl (by kernel_rfl) (by kernel_rfl) (decide_eq_true (h20))) ?_
        exact Zv (.bool true) (Zk (Zk (Zk (Zv (.bool true) (Zv (.bool true) (Zv (.bool true) (ZN (zB (ZF (.bool true) Tryz.results73 (fun w hO => ⟨by rw [bG ⟨by omega, by omega⟩ (fun _ => by omega) (fun _ => by omega) (fun j q1 q2 => hrel.2 j q1 (by omega))]; simp [h1, h12, h13, h14, h15, h16, h18, h19, h20], hO.below⟩))))))))))
      refine zV (.bool false) (by kernel_rfl) (x4 (a := c.v.pre) (b := ([])) rfl (by kernel_rfl) (by kernel_rfl) (decide_eq_false (h20))) (Zv (.bool false) (Zv (.pointer (some ⟨b1, 1, none⟩)) (Zl 1 ⟨b1, (coV c).cells, 51⟩ (off := 1) (.int .i64 c.parts) ?_)))
      by_cases h21 : (c.parts : Int) = 3
      · refine zW (p := (c.parts : Int) = 3) true (by kernel_rfl) (fun _ => by kernel_rfl) (decide_eq_true (h21)) ?_
        exact Zv (.bool true) (Zv (.bool true) (Zv (.bool true) (ZN (zB (ZF (.bool true) Tryz.results73 (fun w hO => ⟨by rw [bG ⟨by omega, by omega⟩ (fun _ => by omega) (fun _ => by omega) (fun j q1 q2 => hrel.2 j q1 (by omega))]; simp [h1, h12, h13, h14, h15, h16, h18, h19, h20, h21], hO.below⟩))))))
      exact Zd (p := (c.parts : Int) = 3) false (decide_eq_false (h21)) (Zv (.bool false) (Zv (.bool false) (Zv (.bool false) (ZN (zB (ZF (.bool false) Tryz.results73 (fun w hO => ⟨by rw [bG ⟨by omega, by omega⟩ (fun _ => by omega) (fun _ => by omega) (fun j q1 q2 => hrel.2 j q1 (by omega))]; simp [h1, h12, h13, h14, h15, h16, h18, h19, h20, h21], hO.below⟩)))))))
    refine zV (.bool false) (by kernel_rfl) (x4 (a := c.v.build) (b := ([])) rfl (by kernel_rfl) (by kernel_rfl) (decide_eq_false (h19))) (Zv (.bool false) (Zv (.bool false) (Zk (Zk (Zk (Zk (Zk (Zk (Zk (Zk (Zk ?_)))))))))))
    exact Zv (.bool false) (Zv (.bool false) (ZN (zB (ZF (.bool false) Tryz.results73 (fun w hO => ⟨by rw [bG ⟨by omega, by omega⟩ (fun _ => by omega) (fun _ => by omega) (fun j q1 q2 => hrel.2 j q1 (by omega))]; simp [h1, h12, h13, h14, h15, h16, h18, h19], hO.below⟩)))))
  | false =>
    refine Zk (Zk (Zk (Zk (Zv (.bool false) (Zv (.bool false) (Zk (Zk (Zk (Zk (Zk (Zk ?_)))))))))))
    exact Zk (Zk (Zk (Zv (.bool false) (Zv (.bool false) (ZN (zB (ZF (.bool false) Tryz.results73 (fun w hO => ⟨by rw [bG ⟨by omega, by omega⟩ (fun _ => by omega) (fun _ => by omega) (fun j q1 q2 => hrel.2 j q1 (by omega))]; simp [h1, h12, h13, h14, h15, h16, h18], hO.below⟩))))))))
theorem csign_any (op : Int) (W : World) : Calls Tryz.prog 108 #[.int .i64 op] W fun e w' => e = .returned (.string (mkS (y7 op))) ∧ Below W.heap.size W w' := by
  refine zP (n := 25) Tryz.func108 rfl (by kernel_rfl) (by kernel_rfl) (ZO (Zv (.string ⟨#[]⟩) (ZR (Zv (.string ⟨#[]⟩) (Zv (.string ⟨#[]⟩) (zR (zA ?_)))))))
  refine z6 (ZO (Zv (.int .i64 op) (ZN (zL (z6 (zL (z6 (zL (z6 ?_)))))))))
  refine zL (z6 (zL (z6 (zL (z6 (zL (z6 (zL (z6 (zL (z6 ?_)))))))))))
  refine z6 (z6 (z7 ?_))
  by_cases h1 : (op : Int) = 2
  · refine zW (p := (op : Int) = 2) true (by kernel_rfl) (fun _ => by kernel_rfl) (decide_eq_true (h1)) ?_
    refine Zv (.bool true) (ZY (y8 (zC (zC (zI (zA (z7 (Zv (.string ⟨#[33]⟩) (zR ?_)))))))))
    refine zT (zA (ZO (Zv (.string ⟨#[61]⟩) (ZN (y8 (zH (by decide) (zC (zH (by decide) (zC ?_)))))))))
    refine zH (by decide) (zC (zH (by decide) (zC (zH (by decide) (zC (zH (by decide) (zC (zI (zA (z6 (z7 ?_)))))))))))
    exact Zv (.string ⟨#[33]⟩) (Zv (.string ⟨#[61]⟩) (zV (.string (mkS ([33] ++ [61]))) (by kernel_rfl) (yU (a := [33]) (b := [61]) rfl (by kernel_rfl) (by kernel_rfl) (by decide)) (Zv (.string (mkS ([33] ++ [61]))) (ZN (zB (ZF (.string (mkS ([33] ++ [61]))) Tryz.results108 (fun w hO => ⟨by unfold y7; simp [h1], hO.below⟩)))))))
  refine Zd (p := (op : Int) = 2) false (decide_eq_false (h1)) (Zv (.bool false) (ZX (ZB (z6 (z6 (z7 ?_))))))
  by_cases h2 : (op : Int) = 1
  · refine zW (p := (op : Int) = 1) true (by kernel_rfl) (fun _ => by kernel_rfl) (decide_eq_true (h2)) ?_
    refine Zv (.bool true) (ZY (y8 (zC (zC (zH (by decide) (zC (zI (zA (z6 ?_)))))))))
    refine z7 (Zv (.string ⟨#[61]⟩) (ZN (y8 (zH (by decide) (zC (zH (by decide) (zC (zH (by decide) (zC (zH (by decide) ?_))))))))))
    refine zC (zH (by decide) (zC (zH (by decide) (zC (zI (zA (ZO (Zv (.string ⟨#[]⟩) (Zv (.string ⟨#[61]⟩) (zV (.string (mkS ([] ++ [61]))) (by kernel_rfl) (yU (a := []) (b := [61]) rfl (by kernel_rfl) (by kernel_rfl) (by decide)) ?_))))))))))
    exact Zv (.string (mkS ([] ++ [61]))) (ZN (zB (ZF (.string (mkS ([] ++ [61]))) Tryz.results108 (fun w hO => ⟨by unfold y7; simp [h1, h2], hO.below⟩))))
  refine Zd (p := (op : Int) = 1) false (decide_eq_false (h2)) (Zv (.bool false) (ZX (ZB (z6 (z6 (z7 ?_))))))
  by_cases h3 : (op : Int) = 4
  · refine zW (p := (op : Int) = 4) true (by kernel_rfl) (fun _ => by kernel_rfl) (decide_eq_true (h3)) ?_
    refine Zv (.bool true) (ZY (y8 (zC (zC (zH (by decide) (zC (zH (by decide) (zC (zI ?_)))))))))
    refine zA (z7 (Zv (.string ⟨#[61]⟩) (zR (zT (zA (ZO (Zv (.string ⟨#[60]⟩) (ZN (y8 ?_)))))))))
    refine zH (by decide) (zC (zH (by decide) (zC (zH (by decide) (zC (zH (by decide) (zC (zI (zA (z6 (z7 ?_)))))))))))
    exact Zv (.string ⟨#[60]⟩) (Zv (.string ⟨#[61]⟩) (zV (.string (mkS ([60] ++ [61]))) (by kernel_rfl) (yU (a := [60]) (b := [61]) rfl (by kernel_rfl) (by kernel_rfl) (by decide)) (Zv (.string (mkS ([60] ++ [61]))) (ZN (zB (ZF (.string (mkS ([60] ++ [61]))) Tryz.results108 (fun w hO => ⟨by unfold y7; simp [h1, h2, h3], hO.below⟩)))))))
  refine Zd (p := (op : Int) = 4) false (decide_eq_false (h3)) (Zv (.bool false) (ZX (ZB (z6 (z6 (z7 ?_))))))
  by_cases h4 : (op : Int) = 3
  · refine zW (p := (op : Int) = 3) true (by kernel_rfl) (fun _ => by kernel_rfl) (decide_eq_true (h4)) ?_
    refine Zv (.bool true) (ZY (y8 (zC (zC (zH (by decide) (zC (zH (by decide) (zC (zH (by decide) ?_)))))))))
    refine zC (zI (zA (ZO (Zv (.string ⟨#[60]⟩) (ZN (y8 (zH (by decide) (zC (zH (by decide) ?_)))))))))
    refine zC (zH (by decide) (zC (zH (by decide) (zC (zI (zA (ZO (Zv (.string ⟨#[60]⟩) (Zv (.string ⟨#[]⟩) (zV (.string (mkS ([60] ++ []))) (by kernel_rfl) (yU (a := [60]) (b := []) rfl (by kernel_rfl) (by kernel_rfl) (by decide)) ?_))))))))))
    exact Zv (.string (mkS ([60] ++ []))) (ZN (zB (ZF (.string (mkS ([60] ++ []))) Tryz.results108 (fun w hO => ⟨by unfold y7; simp [h1, h2, h3, h4], hO.below⟩))))
  refine Zd (p := (op : Int) = 3) false (decide_eq_false (h4)) (Zv (.bool false) (ZX (ZB (z6 (z6 (z7 ?_))))))
  by_cases h5 : (op : Int) = 6
  · refine zW (p := (op : Int) = 6) true (by kernel_rfl) (fun _ => by kernel_rfl) (decide_eq_true (h5)) ?_
    refine Zv (.bool true) (ZY (y8 (zC (zC (zH (by decide) (zC (zH (by decide) (zC (zH (by decide) ?_)))))))))
    refine zC (zH (by decide) (zC (zI (zA (z7 (Zv (.string ⟨#[61]⟩) (zR (zT (zA (z6 (z7 ?_)))))))))))
    refine Zv (.string ⟨#[62]⟩) (ZN (y8 (zH (by decide) (zC (zH (by decide) (zC (zI (zA (z6 (z7 ?_))))))))))
    exact Zv (.string ⟨#[62]⟩) (Zv (.string ⟨#[61]⟩) (zV (.string (mkS ([62] ++ [61]))) (by kernel_rfl) (yU (a := [62]) (b := [61]) rfl (by kernel_rfl) (by kernel_rfl) (by decide)) (Zv (.string (mkS ([62] ++ [61]))) (ZN (zB (ZF (.string (mkS ([62] ++ [61]))) Tryz.results108 (fun w hO => ⟨by unfold y7; simp [h1, h2, h3, h4, h5], hO.below⟩)))))))
  refine Zd (p := (op : Int) = 6) false (decide_eq_false (h5)) (Zv (.bool false) (ZX (ZB (z6 (z6 (z7 ?_))))))
  by_cases h6 : (op : Int) = 5
  · refine zW (p := (op : Int) = 5) true (by kernel_rfl) (fun _ => by kernel_rfl) (decide_eq_true (h6)) ?_
    refine Zv (.bool true) (ZY (y8 (zC (zC (zH (by decide) (zC (zH (by decide) (zC (zH (by decide) ?_)))))))))
    refine zC (zH (by decide) (zC (zH (by decide) (zC (zI (zA (ZO (Zv (.string ⟨#[62]⟩) (zR (zA ?_))))))))))
    refine y8 (zH (by decide) (zC (zH (by decide) (zC (zI (zA (ZO (Zv (.string ⟨#[62]⟩) (Zv (.string ⟨#[]⟩) (zV (.string (mkS ([62] ++ []))) (by kernel_rfl) (yU (a := [62]) (b := []) rfl (by kernel_rfl) (by kernel_rfl) (by decide)) ?_))))))))))
    exact Zv (.string (mkS ([62] ++ []))) (ZN (zB (ZF (.string (mkS ([62] ++ []))) Tryz.results108 (fun w hO => ⟨by unfold y7; simp [h1, h2, h3, h4, h5, h6], hO.below⟩))))
  refine Zd (p := (op : Int) = 5) false (decide_eq_false (h6)) (Zv (.bool false) (ZX (ZB (z6 (z6 (z7 ?_))))))
  by_cases h7 : (op : Int) = 7
  · refine zW (p := (op : Int) = 7) true (by kernel_rfl) (fun _ => by kernel_rfl) (decide_eq_true (h7)) ?_
    refine Zv (.bool true) (ZY (y8 (zC (zC (zH (by decide) (zC (zH (by decide) (zC (zH (by decide) ?_)))))))))
    refine zC (zH (by decide) (zC (zH (by decide) (zC (zH (by decide) (zC (zI (zA (ZO (Zv (.string ⟨#[94]⟩) ?_))))))))))
    refine ZN (y8 (zH (by decide) (zC (zI (zA (ZO (Zv (.string ⟨#[94]⟩) (Zv (.string ⟨#[]⟩) (zV (.string (mkS ([94] ++ []))) (by kernel_rfl) (yU (a := [94]) (b := []) rfl (by kernel_rfl) (by kernel_rfl) (by decide)) ?_)))))))))
    exact Zv (.string (mkS ([94] ++ []))) (ZN (zB (ZF (.string (mkS ([94] ++ []))) Tryz.results108 (fun w hO => ⟨by unfold y7; simp [h1, h2, h3, h4, h5, h6, h7], hO.below⟩))))
  refine Zd (p := (op : Int) = 7) false (decide_eq_false (h7)) (Zv (.bool false) (ZX (ZB (z6 (z7 ?_)))))
  by_cases h8 : (op : Int) = 8
  · refine zW (p := (op : Int) = 8) true (by kernel_rfl) (fun _ => by kernel_rfl) (decide_eq_true (h8)) ?_
    refine Zv (.bool true) (ZY (y8 (zC (zH (by decide) (zC (zH (by decide) (zC (zH (by decide) (zC ?_)))))))))
    refine zH (by decide) (zC (zH (by decide) (zC (zH (by decide) (zC (zH (by decide) (zC (zI (zA (z6 (z7 ?_)))))))))))
    refine Zv (.string ⟨#[126]⟩) (ZN (y8 (zI (zA (ZO (Zv (.string ⟨#[126]⟩) (Zv (.string ⟨#[]⟩) (zV (.string (mkS ([126] ++ []))) (by kernel_rfl) (yU (a := [126]) (b := []) rfl (by kernel_rfl) (by kernel_rfl) (by decide)) (Zv (.string (mkS ([126] ++ []))) ?_)))))))))
    exact ZN (zB (ZF (.string (mkS ([126] ++ []))) Tryz.results108 (fun w hO => ⟨by unfold y7; simp [h1, h2, h3, h4, h5, h6, h7, h8], hO.below⟩)))
  refine Zd (p := (op : Int) = 8) false (decide_eq_false (h8)) (Zv (.bool false) (ZX (ZB (y8 (zH (by decide) (zC (zH (by decide) (zC ?_))))))))
  refine zH (by decide) (zC (zH (by decide) (zC (zH (by decide) (zC (zH (by decide) (zC (zH (by decide) (zC (zH (by decide) (zC ?_)))))))))))
  refine zI (zA (ZO (Zv (.string ⟨#[]⟩) (Zv (.string ⟨#[]⟩) (zV (.string (mkS ([] ++ []))) (by kernel_rfl) (yU (a := []) (b := []) rfl (by kernel_rfl) (by kernel_rfl) (by decide)) (Zv (.string (mkS ([] ++ []))) (ZN (zB (ZF (.string (mkS ([] ++ []))) Tryz.results108 ?_)))))))))
  exact fun w hO => ⟨by unfold y7; simp [h1, h2, h3, h4, h5, h6, h7, h8], hO.below⟩
theorem clead_any (c : Co) (W : World) (hc : c.short) (hp : 0 ≤ c.parts ∧ c.parts ≤ 3) : Calls Tryz.prog 176 #[coV c] W fun e w' => e = .returned (.int .i64 (vD c)) ∧ Below W.heap.size W w' := by
  refine zP (n := 21) Tryz.func176 rfl (by kernel_rfl) (by kernel_rfl) (ZO (Zb (coV c) (fun b1 => Zv (.int .i64 0) (ZN (z6 (ZO (Zv (.pointer (some ⟨b1, 2, none⟩)) (Zl 0 ⟨b1, (coV c).cells, 51⟩ (off := 2) (.agg #[.int .i64 c.v.maj, .int .i64 c.v.min, .int .i64 c.v.pat, .string (mkS c.v.pre), .string (mkS c.v.build)]) ?_))))))))
  refine yE (k := 111) (args := #[yJ c.v]) (fun v' L' => ∃ g, v' = .slice (some ⟨g, 0, none⟩) 3 3 ∧ L' = ⟨g, vS c.v, 3⟩ :: [⟨b1, (coV c).cells, 51⟩]) (by kernel_rfl) (fun _ => by kernel_rfl) (fun w hO => (mY c.v w).mono fun e w' ⟨v', ob', k1, ⟨g, k2, k4⟩, k3⟩ => ⟨v', _, k1, ⟨g, k2, rfl⟩, by subst k4; exact Own.joinN hO k3⟩) (fun v1 L1 hv1 => ?_)
  obtain ⟨g1, rfl, rfl⟩ := hv1
  refine Zv (.int .i64 (3 : Int)) (Zv (.int .i64 0) (ZN (zL (yP (fun L f m => ∃ (k : Nat) (j : Nat → Value), (k ≤ 3 ∧ ∀ j, j < k → xV c.v.maj c.v.min c.v.pat j = 0) ∧ L = [⟨g1, vS c.v, 3⟩, ⟨b1, (coV c).cells, 51⟩] ∧ f = kG j [(1, .pointer (some ⟨b1, 0, none⟩)), (7, .slice (some ⟨g1, 0, none⟩) 3 3), (8, .int .i64 3), (9, .int .i64 (k : Int))] ∧ m = 3 - k) (3 - 0) ⟨0, _, ⟨Nat.zero_le _, fun j h2 => absurd h2 (Nat.not_lt_zero _)⟩, rfl, ZU, rfl⟩ ?_))))
  rintro L f m ⟨k, j, hrel, rfl, rfl, rfl⟩
  have hkl := hrel.1
  refine z6 (z7 ?_)
  by_cases h1 : (k : Int) < 3
  · refine zW (p := (k : Int) < 3) true (by kernel_rfl) (fun _ => by kernel_rfl) (decide_eq_true (h1)) ?_
    refine ZN (z6 (Zt (ZB (z6 (zL (ZO (Zv (.int .i64 (k : Int)) (zV (.pointer (some ⟨g1, 0 + k, none⟩)) (by kernel_rfl) (ZV (b := g1) (off := 0) (n := 3) (c := 3) (k := .i64) (j := (k : Int)) (e := 3) (sz := 1)) ?_))))))))
    refine jF 0 ⟨g1, vS c.v, 3⟩ (off := 0 + k) (.int .i64 (xV c.v.maj c.v.min c.v.pat k)) (by kernel_rfl) rfl (by kernel_rfl) (by kernel_rfl) (by rw [Nat.zero_add]; exact rd_nums c.v k (by omega)) (Zv (.int .i64 (k : Int)) (Zv (.int .i64 (xV c.v.maj c.v.min c.v.pat k)) (ZR (Zv (.int .i64 (xV c.v.maj c.v.min c.v.pat k)) ?_))))
    by_cases h2 : (xV c.v.maj c.v.min c.v.pat k : Int) = 0
    · refine jT (p := (xV c.v.maj c.v.min c.v.pat k : Int) = 0) true (by kernel_rfl) (fun _ => by kernel_rfl) (decide_eq_true (h2)) ?_
      exact ZX (x5 (zT (zA (z7 (Zu (k := .i64) (((k + 1 : Nat) : Int)) (IntWalk.i64_in _ (by omega)) (Zv (.int .i64 ((k + 1 : Nat) : Int)) (zR (zU (m' := 3 - (k + 1)) (by omega) ⟨k + 1, _, ⟨by omega, zero_on0 hrel.2 h2⟩, rfl, ZU, rfl⟩))))))))
    refine Zn (p := (xV c.v.maj c.v.min c.v.pat k : Int) = 0) false (decide_eq_false (h2)) (ZY (ZO (Zv (.int .i64 (k : Int)) (Zv (.int .i64 (k : Int)) (ZN (zB (zG ?_)))))))
    exact z8 (yB (zG (z8 (ZF (.int .i64 (k : Int)) Tryz.results176 (fun w hO => ⟨by rw [lead_at (by omega) hrel.2 h2], hO.below⟩)))))
  refine Zd (p := (k : Int) < 3) false (decide_eq_false (h1)) (ZN (z6 (Zf (y8 (zC (zN (zI (zA (z6 (z7 ?_))))))))))
  exact Zv (.pointer (some ⟨b1, 1, none⟩)) (Zl 1 ⟨b1, (coV c).cells, 51⟩ (off := 1) (.int .i64 c.parts) (Zu (k := .i64) ((c.parts : Int) - 1) (IntWalk.i64_in _ (by omega)) (Zv (.int .i64 ((c.parts : Int) - 1)) (ZN (zB (ZF (.int .i64 ((c.parts : Int) - 1)) Tryz.results176 (fun w hO => ⟨by rw [lead_end (fun j q2 => hrel.2 j (by omega))], hO.below⟩)))))))
theorem chigh_any (v : Ver) (z0 : Int) (W : World) (hv : v.short) (hz : -1 ≤ z0 ∧ z0 ≤ 2) : Calls Tryz.prog 175 #[yJ v, .int .i64 z0] W fun e w' => e = .returned (zD (uF v z0)) ∧ Below W.heap.size W w' := by
  refine zP (n := 21) Tryz.func175 rfl (by kernel_rfl) (by kernel_rfl) (ZO (Zb (yJ v) (fun b1 => Za (.agg #[.int .i64 0, .int .i64 0, .int .i64 0, .int .i64 0, .string ⟨#[]⟩, .string ⟨#[]⟩, .bool false]) (fun b2 => ZN (z6 (zL (yP (fun L f m => ∃ (z : Int) (j : Nat → Value), (-1 ≤ z ∧ z ≤ 2 ∧ uF v z0 = uF v z) ∧ L = [⟨b2, #[.int .i64 0, .int .i64 0, .int .i64 0, .int .i64 0, .string ⟨#[]⟩, .string ⟨#[]⟩, .bool false], 78⟩, ⟨b1, (yJ v).cells, 44⟩] ∧ f = kG j [(1, .int .i64 z), (2, .pointer (some ⟨b1, 0, none⟩)), (4, .pointer (some ⟨b2, 0, none⟩))] ∧ m = (z + 1).toNat) ((z0 + 1).toNat) ⟨z0, _, ⟨hz.1, hz.2, rfl⟩, rfl, ZU, rfl⟩ ?_)))))))
  rintro L f m ⟨z, j, hrel, rfl, rfl, rfl⟩
  refine z6 (ZO (Zv (.int .i64 z) ?_))
  by_cases h1 : (0 : Int) ≤ z
  · refine zW (p := (0 : Int) ≤ z) true (by kernel_rfl) (fun _ => by kernel_rfl) (decide_eq_true (h1)) ?_
    refine ZY (ZB (z6 (zL (ZO (Zl 1 ⟨b1, (yJ v).cells, 44⟩ (off := 0) (yJ v) (Zv (.int .i64 z) (Zc (k := 203) (args := #[yJ v, .int .i64 z]) (.tuple #[yJ (x1 v z), .bool (yH v z)]) (fun w _ => bump_any v z w hv.1 hv.2) ?_)))))))
    refine Zv (.tuple #[yJ (x1 v z), .bool (yH v z)]) (Zv (yJ (x1 v z)) (Zv (.bool (yH v z)) (Za (.agg #[.int .i64 0, .int .i64 0, .int .i64 0, .string ⟨#[]⟩, .string ⟨#[]⟩]) (fun b3 => Zs 0 ⟨b3, #[.int .i64 0, .int .i64 0, .int .i64 0, .string ⟨#[]⟩, .string ⟨#[]⟩], 44⟩ (off := 0) (yJ (x1 v z)) (Zv (.bool (yH v z)) (ZR (Zv (.bool (yH v z)) (zR ?_))))))))
    refine zA ?_
    cases h2 : yH v z with
    | true =>
      refine Zt (ZO (Zl 0 ⟨b3, (yJ (x1 v z)).cells, 44⟩ (off := 0) (yJ (x1 v z)) (Zv (.agg #[.int .i64 0, .int .i64 ((x1 v z).maj), .int .i64 ((x1 v z).min), .int .i64 ((x1 v z).pat), .string (mkS (x1 v z).pre), .string (mkS (x1 v z).build), .bool false]) (Zs 1 ⟨b2, #[.int .i64 0, .int .i64 0, .int .i64 0, .int .i64 0, .string ⟨#[]⟩, .string ⟨#[]⟩, .bool false], 78⟩ (off := 0) (.agg #[.int .i64 0, .int .i64 ((x1 v z).maj), .int .i64 ((x1 v z).min), .int .i64 ((x1 v z).pat), .string (mkS (x1 v z).pre), .string (mkS (x1 v z).build), .bool false]) (ZN (zB (zG (z8 (yB ?_)))))))))
      exact zG (z8 (ZC 1 ⟨b2, #[.int .i64 0, .int .i64 ((x1 v z).maj), .int .i64 ((x1 v z).min), .int .i64 ((x1 v z).pat), .string (mkS (x1 v z).pre), .string (mkS (x1 v z).build), .bool false], 78⟩ (off := 0) (.agg #[.int .i64 0, .int .i64 ((x1 v z).maj), .int .i64 ((x1 v z).min), .int .i64 ((x1 v z).pat), .string (mkS (x1 v z).pre), .string (mkS (x1 v z).build), .bool false]) Tryz.results175 (fun w hO => ⟨by rw [hrel.2.2, highZ_hit (by omega) (by assumption)]; rfl, hO.below⟩)))
    | false =>
      exact Zf (x5 (zT (zA (z7 (Zv (.int .i64 z) (Zu (k := .i64) ((z : Int) - 1) (IntWalk.i64_in _ (by omega)) (Zv (.int .i64 ((z : Int) - 1)) (zR (kC (fun w hO => Own.sub [_] hO) (zU (m' := (z - 1 + 1).toNat) (by omega) ⟨z - 1, _, ⟨by omega, by omega, by rw [hrel.2.2, highZ_next (by omega) (by assumption)]⟩, rfl, ZU, rfl⟩))))))))))
  refine Zd (p := (0 : Int) ≤ z) false (decide_eq_false (h1)) (ZX (y8 (zC (zN (zI (zA (ZO (Zv (.agg #[.int .i64 1, .int .i64 0, .int .i64 0, .int .i64 0, .string ⟨#[]⟩, .string ⟨#[]⟩, .bool false]) ?_))))))))
  exact Zs 0 ⟨b2, #[.int .i64 0, .int .i64 0, .int .i64 0, .int .i64 0, .string ⟨#[]⟩, .string ⟨#[]⟩, .bool false], 78⟩ (off := 0) (.agg #[.int .i64 1, .int .i64 0, .int .i64 0, .int .i64 0, .string ⟨#[]⟩, .string ⟨#[]⟩, .bool false]) (ZN (zB (ZC 0 ⟨b2, #[.int .i64 1, .int .i64 0, .int .i64 0, .int .i64 0, .string ⟨#[]⟩, .string ⟨#[]⟩, .bool false], 78⟩ (off := 0) (.agg #[.int .i64 1, .int .i64 0, .int .i64 0, .int .i64 0, .string ⟨#[]⟩, .string ⟨#[]⟩, .bool false]) Tryz.results175 (fun w hO => ⟨by rw [hrel.2.2]; unfold uF; rw [if_pos (by omega)]; rfl, hO.below⟩))))
theorem beh_high {c : Co} (hp : 0 ≤ c.parts ∧ c.parts ≤ 3) (h : ¬ c.parts = 3) : g9 c = uF c.v (c.parts - 1) := by
  unfold g9 uF
  rw [if_neg h]
  by_cases h0 : c.parts = 0
  · rw [if_pos h0, if_pos (by omega)]
  · rw [if_neg h0, if_neg (by omega)]
theorem uH (c : Co) (W : World) (hc : c.short) (hp : 0 ≤ c.parts ∧ c.parts ≤ 3) : Calls Tryz.prog 174 #[coV c] W fun e w' => e = .returned (zD (g9 c)) ∧ Below W.heap.size W w' := by
  refine zP (n := 15) Tryz.func174 rfl (by kernel_rfl) (by kernel_rfl) (ZO (Zb (coV c) (fun b1 => Za (.agg #[.int .i64 0, .int .i64 0, .int .i64 0, .int .i64 0, .string ⟨#[]⟩, .string ⟨#[]⟩, .bool false]) (fun b2 => ZN (z6 (ZO (Zv (.pointer (some ⟨b1, 1, none⟩)) (Zl 1 ⟨b1, (coV c).cells, 51⟩ (off := 1) (.int .i64 c.parts) ?_))))))))
  by_cases h1 : (c.parts : Int) = 3
  · refine zW (p := (c.parts : Int) = 3) true (by kernel_rfl) (fun _ => by kernel_rfl) (decide_eq_true (h1)) ?_
    refine ZY (ZO (Zv (.pointer (some ⟨b1, 2, none⟩)) (Zl 1 ⟨b1, (coV c).cells, 51⟩ (off := 2) (.agg #[.int .i64 c.v.maj, .int .i64 c.v.min, .int .i64 c.v.pat, .string (mkS c.v.pre), .string (mkS c.v.build)]) (Zv (.agg #[.int .i64 0, .int .i64 c.v.maj, .int .i64 c.v.min, .int .i64 c.v.pat, .string (mkS c.v.pre), .string (mkS c.v.build), .bool true]) (Zs 0 ⟨b2, #[.int .i64 0, .int .i64 0, .int .i64 0, .int .i64 0, .string ⟨#[]⟩, .string ⟨#[]⟩, .bool false], 78⟩ (off := 0) (.agg #[.int .i64 0, .int .i64 c.v.maj, .int .i64 c.v.min, .int .i64 c.v.pat, .string (mkS c.v.pre), .string (mkS c.v.build), .bool true]) (ZN (zB ?_)))))))
    exact z8 (ZC 0 ⟨b2, #[.int .i64 0, .int .i64 c.v.maj, .int .i64 c.v.min, .int .i64 c.v.pat, .string (mkS c.v.pre), .string (mkS c.v.build), .bool true], 78⟩ (off := 0) (.agg #[.int .i64 0, .int .i64 c.v.maj, .int .i64 c.v.min, .int .i64 c.v.pat, .string (mkS c.v.pre), .string (mkS c.v.build), .bool true]) Tryz.results174 (fun w hO => ⟨by rw [show g9 c = ⟨0, c.v, true⟩ from if_pos h1]; rfl, hO.below⟩))
  refine Zd (p := (c.parts : Int) = 3) false (decide_eq_false (h1)) (ZX (ZB (ZO (Zv (.pointer (some ⟨b1, 2, none⟩)) (Zl 1 ⟨b1, (coV c).cells, 51⟩ (off := 2) (.agg #[.int .i64 c.v.maj, .int .i64 c.v.min, .int .i64 c.v.pat, .string (mkS c.v.pre), .string (mkS c.v.build)]) (Zv (.pointer (some ⟨b1, 1, none⟩)) (Zl 1 ⟨b1, (coV c).cells, 51⟩ (off := 1) (.int .i64 c.parts) ?_)))))))
  exact Zu (k := .i64) ((c.parts : Int) - 1) (IntWalk.i64_in _ (by omega)) (Zc (k := 175) (args := #[.agg #[.int .i64 c.v.maj, .int .i64 c.v.min, .int .i64 c.v.pat, .string (mkS c.v.pre), .string (mkS c.v.build)], .int .i64 ((c.parts : Int) - 1)]) (zD (uF c.v (c.parts - 1))) (fun w _ => chigh_any c.v (c.parts - 1) w hc (by omega)) (Zs 0 ⟨b2, #[.int .i64 0, .int .i64 0, .int .i64 0, .int .i64 0, .string ⟨#[]⟩, .string ⟨#[]⟩, .bool false], 78⟩ (off := 0) (zD (uF c.v (c.parts - 1))) (ZN (zB (ZC 0 ⟨b2, (zD (uF c.v (c.parts - 1))).cells, 78⟩ (off := 0) (zD (uF c.v (c.parts - 1))) Tryz.results174 (fun w hO => ⟨by rw [beh_high hp h1], hO.below⟩))))))
end
section
def cpL (s t : List UInt8) : List UInt8 := if xL s t = true then s.drop t.length else s
theorem nI : ∀ (t s : List UInt8), t.isPrefixOf s = xL s t
  | [], s => by simp [xL]
  | a :: t, [] => by simp [xL, List.isPrefixOf]
  | a :: t, b :: s => by
    have ih := nI t s
    unfold xL at ih ⊢
    rw [List.isPrefixOf, ih, List.length_cons, List.take_succ_cons]
    by_cases h : a = b
    · subst h; simp
    · simp [h, Ne.symm h]
theorem cutpre_any (s t : List UInt8) (w : World) : Calls Tryz.prog 107 #[.string (mkS s), .string (mkS t)] w fun e w' => e = .returned (.tuple #[.string (mkS (cpL s t)), .bool (xL s t)]) ∧ Below w.heap.size w w' :=
  (Tryz.strings_CutPrefix (mkS s) (mkS t) w).mono fun e w' ⟨he, hw⟩ => by
    subst hw
    refine ⟨?_, Below.refl _ _⟩
    rw [he, mk_data, mk_data]
    unfold Lib.trimPrefix Lib.hasPrefix cpL
    rw [nI]; rfl
theorem splitK_pcs : ∀ (k : Nat) (s : List UInt8), Lib.splitK [46] 0 k s = uD k s
  | 0, s => rfl
  | k + 1, s => by
    have hc := cutAt_cut 46 s
    have hge := Lib.index_ge s [46]
    unfold Lib.splitK uD
    rw [← hc]
    unfold Lib.cut
    by_cases h : Lib.index s [46] = -1
    · have h2 : ¬ 0 ≤ Lib.index s [46] := by omega
      simp [h]
    · have h2 : 0 ≤ Lib.index s [46] := by omega
      simp [h, h2, splitK_pcs k]
theorem mN : ∀ (k : Nat) (s : List UInt8), s.length ≤ k → uD k s = uD (k + 1) s
  | 0, s, h => by
    obtain rfl := List.eq_nil_of_length_eq_zero (Nat.le_zero.1 h)
    rfl
  | k + 1, s, h => by
    have hl := cutAt_len 46 s
    rw [uD]
    conv => rhs; rw [uD]
    cases hq : (yD 46 s).2.2 with
    | false => rw [if_neg Bool.false_ne_true, if_neg Bool.false_ne_true]
    | true =>
      rw [hq, if_pos rfl] at hl
      rw [if_pos rfl, if_pos rfl, mN k _ (by omega)]
theorem pcsK_min (s : List UInt8) : uD (min 3 (s.length + 1) - 1) s = uD 2 s := by
  by_cases h0 : s.length = 0
  · rw [h0, show min 3 (0 + 1) - 1 = 0 from rfl, mN 0 s (by omega), mN 1 s (by omega)]
  · by_cases h1 : s.length = 1
    · rw [h1, show min 3 (1 + 1) - 1 = 1 from rfl, mN 1 s (by omega)]
    · rw [show min 3 (s.length + 1) - 1 = 2 by omega]
theorem splitB_pcs (k : Nat) (s : List UInt8) : Lib.splitB ⟨#[46]⟩ 0 k (mkS s) = (uD k s).map mkS := by
  have h := Lib.splitB_data ⟨#[46]⟩ 0 k (mkS s)
  rw [mk_data, show (⟨#[46]⟩ : ByteArray).data.toList = [46] from rfl, splitK_pcs] at h
  rw [← h, List.map_map]
  refine ((List.map_congr_left fun x _ => ?_).trans (List.map_id _)).symm
  exact Lib.mk_data x
theorem split3_any (s : List UInt8) (W : World) (hs : s.length ≤ 1000000) :
    Calls Tryz.prog 59 #[.string (mkS s), .string ⟨#[46]⟩, .int .i64 0, .int .i64 3] W fun e w' => ∃ v' ob', e = .returned v' ∧ SlT v' (uD 2 s) ob' ∧ Own [] W w' ob' := by
  have hsz := xP s
  have hI : ∀ (x : ByteArray) (c : Array Value), x.size ≤ (mkS s).size → Calls Tryz.prog 106 #[.string x, .string ⟨#[46]⟩] (W.alloc (.cells c 9)) fun e w' => e = .returned (.int .i64 (Lib.indexB x ⟨#[46]⟩)) ∧ w' = W.alloc (.cells c 9) :=
    fun x c _ => (Tryz.strings_Index_one x 46 _).mono fun e w' ⟨he, hw⟩ => ⟨by rw [he, bH]; try rfl, hw⟩
  have hC : Calls Tryz.prog 105 #[.string (mkS s), .string ⟨#[46]⟩] W fun e w' => e = .returned (.int .i64 (Lib.countB (mkS s) ⟨#[46]⟩)) ∧ w' = W :=
    (Tryz.strings_Count_one (mkS s) 46 W).mono fun e w' ⟨he, hw⟩ => ⟨by rw [he]; show _ = Ending.returned (Value.int .i64 ((Lib.count (mkS s).data.toList [46] : Nat) : Int)); rw [Lib.count_one]; rfl, hw⟩
  have c := Any.strings_genSplit_core Tryz.lays221 (by kernel_rfl) (mkS s) ⟨#[46]⟩ 0 3 (min 3 ((mkS s).size + 1)) W (by omega) (by decide) (Nat.zero_le _) hI hC (by decide) (by decide) (by rw [if_neg (by decide)]; omega)
  rw [hsz, splitB_pcs, pcsK_min] at c
  obtain ⟨hl1, hl3⟩ := pcsK_len 2 s
  have hle : (uD 2 s).length ≤ min 3 (s.length + 1) := by
    have h := Lib.splitB_length_le ⟨#[46]⟩ 0 (min 3 (s.length + 1) - 1) (mkS s)
    rw [splitB_pcs, pcsK_min, List.length_map] at h
    omega
  rw [List.length_map] at c
  refine Calls.mono c fun e w' ⟨he, hw⟩ => ?_
  subst hw
  refine ⟨_, _, he, ⟨by rw [j4]; omega, .inr ⟨W.heap.size, min 3 (s.length + 1), _, rfl, rfl, hle, by unfold maxLen; omega, by rw [Lib.cellsOf_size (by rw [List.length_map]; exact hle), Nat.mul_one], ?_⟩⟩, (Own.start [] W).alloc _ _⟩
  unfold Lib.cellsOf
  rw [List.map_map, List.take_append_of_le_length (by rw [List.length_map]; omega), List.take_of_length_le (by rw [List.length_map]; omega)]
  rfl
end
section
theorem splitn_any (s : List UInt8) (W : World) (hs : s.length ≤ 1000000) : Calls Tryz.prog 62 #[.string (mkS s), .string ⟨#[46]⟩, .int .i64 3] W fun e w' => ∃ v' ob', e = .returned v' ∧ SlT v' (uD 2 s) ob' ∧ Own [] W w' ob' := by
  refine zP (n := 11) Tryz.func62 rfl (by kernel_rfl) (by kernel_rfl) (ZO (Zv (.slice none 0 0) (ZR (Zv (.string (mkS s)) (Zv (.string ⟨#[46]⟩) (Zv (.int .i64 3) (yE (k := 59) (args := #[.string (mkS s), .string ⟨#[46]⟩, .int .i64 0, .int .i64 3]) (fun v' L' => SlT v' (uD 2 s) L') (by kernel_rfl) (fun _ => by kernel_rfl) (fun w hO => (split3_any s w hs).mono fun e w' ⟨v', ob', k1, k2, k3⟩ => ⟨v', ob', k1, k2, by simpa using Own.joinN hO k3⟩) (fun v1 o1 hr1 => ?_))))))))
  exact Zv (v1) (ZN (zB (ZF (v1) Tryz.results62 (fun w hO => ⟨v1, o1, rfl, hr1, hO⟩))))
theorem sgo_take {s r : List UInt8} {k : Nat} {op : Int} (h : sgo s k = (op, r)) (hb : xL s (y7 ((k + 1 : Nat) : Int)) = true) (hl : ((mkS (cpL s (y7 ((k + 1 : Nat) : Int)))).size : Int) < ((mkS r).size : Int)) : sgo s (k + 1) = (((k + 1 : Nat) : Int), cpL s (y7 ((k + 1 : Nat) : Int))) := by
  rw [xP, xP] at hl
  unfold cpL at hl ⊢
  rw [if_pos hb] at hl ⊢
  unfold sgo
  rw [h, if_pos ⟨hb, by show _ < r.length; omega⟩]
theorem sgo_not {s r : List UInt8} {k : Nat} {op : Int} (h : sgo s k = (op, r)) (hb : xL s (y7 ((k + 1 : Nat) : Int)) = false) : sgo s (k + 1) = (op, r) := by
  unfold sgo
  rw [h, if_neg (fun q => by rw [hb] at q; exact Bool.false_ne_true q.1)]
theorem sgo_long {s r : List UInt8} {k : Nat} {op : Int} (h : sgo s k = (op, r)) (hb : xL s (y7 ((k + 1 : Nat) : Int)) = true) (hl : ¬ ((mkS (cpL s (y7 ((k + 1 : Nat) : Int)))).size : Int) < ((mkS r).size : Int)) : sgo s (k + 1) = (op, r) := by
  rw [xP, xP] at hl
  unfold cpL at hl
  rw [if_pos hb] at hl
  unfold sgo
  rw [h, if_neg (fun q => hl (by have q2 : _ < r.length := q.2; omega))]
theorem ccut_any (s : List UInt8) (W : World) (hs : s.length ≤ 1000000) : Calls Tryz.prog 60 #[.string (mkS s)] W fun e w' => e = .returned (.tuple #[.int .i64 (sgo s 8).1, .string (mkS (sgo s 8).2)]) ∧ Below W.heap.size W w' := by
  refine zP (n := 33) Tryz.func60 rfl (by kernel_rfl) (by kernel_rfl) (ZO (Zv (.int .i64 0) (Zv (.string ⟨#[]⟩) (ZR (Zv (.string (mkS s)) (Zv (.int .i64 7) (Zv (.string (mkS s)) ?_)))))))
  refine ZN (z6 (ZO (Zv (.int .i64 1) (ZN (zL (yP (fun L f m => ∃ (k : Nat) (op : Int) (r : List UInt8) (j : Nat → Value), (k ≤ 8 ∧ sgo s k = (op, r)) ∧ L = [] ∧ f = kG j [(0, .string (mkS s)), (4, .int .i64 op), (5, .string (mkS r)), (6, .int .i64 ((k + 1 : Nat) : Int))] ∧ m = 8 - k) (8 - 0) ⟨0, _, _, _, ⟨by omega, rfl⟩, rfl, ZU, rfl⟩ ?_))))))
  rintro L f m ⟨k, op, r, j, hrel, rfl, rfl, rfl⟩
  have hkl := hrel.1
  refine z6 (ZO (Zv (.int .i64 ((k + 1 : Nat) : Int)) ?_))
  by_cases h1 : ((k + 1 : Nat) : Int) < 9
  · refine zW (p := ((k + 1 : Nat) : Int) < 9) true (by kernel_rfl) (fun _ => by kernel_rfl) (decide_eq_true (h1)) ?_
    refine ZY (ZB (z6 (zL (ZO (Zv (.string (mkS s)) (Zv (.int .i64 ((k + 1 : Nat) : Int)) (Zc (k := 108) (args := #[.int .i64 ((k + 1 : Nat) : Int)]) (.string (mkS (y7 ((k + 1 : Nat) : Int)))) (fun w _ => csign_any _ w) ?_)))))))
    refine Zc (k := 107) (args := #[.string (mkS s), .string (mkS (y7 ((k + 1 : Nat) : Int)))]) (.tuple #[.string (mkS (cpL s (y7 ((k + 1 : Nat) : Int)))), .bool (xL s (y7 ((k + 1 : Nat) : Int)))]) (fun w _ => cutpre_any s (y7 ((k + 1 : Nat) : Int)) w) (Zv (.tuple #[.string (mkS (cpL s (y7 ((k + 1 : Nat) : Int)))), .bool (xL s (y7 ((k + 1 : Nat) : Int)))]) (Zv (.string (mkS (cpL s (y7 ((k + 1 : Nat) : Int))))) (Zv (.bool (xL s (y7 ((k + 1 : Nat) : Int)))) (Zv (.string (mkS (cpL s (y7 ((k + 1 : Nat) : Int))))) (Zv (.bool (xL s (y7 ((k + 1 : Nat) : Int)))) (ZR (Zv (.bool (xL s (y7 ((k + 1 : Nat) : Int)))) (Zv (.bool (xL s (y7 ((k + 1 : Nat) : Int)))) ?_))))))))
    cases h2 : xL s (y7 ((k + 1 : Nat) : Int)) with
    | true =>
      refine Zv (.string (mkS (cpL s (y7 ((k + 1 : Nat) : Int))))) (Zv (.int .i64 ((mkS (cpL s (y7 ((k + 1 : Nat) : Int)))).size)) (Zv (.string (mkS r)) (Zv (.int .i64 ((mkS r).size)) ?_)))
      by_cases h3 : ((mkS (cpL s (y7 ((k + 1 : Nat) : Int)))).size : Int) < (mkS r).size
      · refine zW (p := ((mkS (cpL s (y7 ((k + 1 : Nat) : Int)))).size : Int) < (mkS r).size) true (by kernel_rfl) (fun _ => by kernel_rfl) (decide_eq_true (h3)) ?_
        refine Zv (.bool true) (ZY (z7 (Zv (.int .i64 ((k + 1 : Nat) : Int)) (Zv (.string (mkS (cpL s (y7 ((k + 1 : Nat) : Int))))) (Zv (.int .i64 ((k + 1 : Nat) : Int)) (Zv (.string (mkS (cpL s (y7 ((k + 1 : Nat) : Int))))) (zR (zT (zA ?_)))))))))
        exact z7 (Zv (.int .i64 ((k + 1 : Nat) : Int)) (Zu (k := .i64) (((k + 1 + 1 : Nat) : Int)) (IntWalk.i64_in _ (by omega)) (Zv (.int .i64 ((k + 1 + 1 : Nat) : Int)) (zR (zU (m' := 8 - (k + 1)) (by omega) ⟨k + 1, ((k + 1 : Nat) : Int), cpL s (y7 ((k + 1 : Nat) : Int)), _, ⟨by omega, sgo_take hrel.2 h2 h3⟩, rfl, ZU, rfl⟩)))))
      refine Zd (p := ((mkS (cpL s (y7 ((k + 1 : Nat) : Int)))).size : Int) < (mkS r).size) false (decide_eq_false (h3)) (Zv (.bool false) (ZX (x5 (zT (zA (z7 (Zv (.int .i64 ((k + 1 : Nat) : Int)) (Zu (k := .i64) (((k + 1 + 1 : Nat) : Int)) (IntWalk.i64_in _ (by omega)) (Zv (.int .i64 ((k + 1 + 1 : Nat) : Int)) ?_)))))))))
      exact zR (zU (m' := 8 - (k + 1)) (by omega) ⟨k + 1, op, r, _, ⟨by omega, sgo_long hrel.2 h2 h3⟩, rfl, ZU, rfl⟩)
    | false =>
      refine Zk (Zk (Zk (Zk (Zk (Zv (.bool false) (ZX (x5 (zT (zA ?_)))))))))
      exact z7 (Zv (.int .i64 ((k + 1 : Nat) : Int)) (Zu (k := .i64) (((k + 1 + 1 : Nat) : Int)) (IntWalk.i64_in _ (by omega)) (Zv (.int .i64 ((k + 1 + 1 : Nat) : Int)) (zR (zU (m' := 8 - (k + 1)) (by omega) ⟨k + 1, op, r, _, ⟨by omega, sgo_not hrel.2 h2⟩, rfl, ZU, rfl⟩)))))
  refine Zd (p := ((k + 1 : Nat) : Int) < 9) false (decide_eq_false (h1)) (ZX (y8 (zC (zN (zI (zA (ZO (Zv (.int .i64 op) ?_))))))))
  exact Zv (.string (mkS r)) (Zv (.int .i64 op) (Zv (.string (mkS r)) (ZN (zB (hY (.int .i64 op) (.string (mkS r)) Tryz.results60 (by kernel_rfl) (by kernel_rfl) (fun w hO => ⟨by have hk8 : k = 8 := (by omega); subst hk8; rw [hrel.2], hO.below⟩))))))
theorem nth_ok {v : Ver} (h : v.may = true) {k : Nat} (hk : k < 3) : yG (xV v.maj v.min v.pat k) = true := by
  obtain ⟨m1, m2, m3⟩ := qP h
  have hj : k = 0 ∨ k = 1 ∨ k = 2 := by omega
  rcases hj with rfl | rfl | rfl
  · exact m1
  · exact m2
  · exact m3
theorem nth_in {v : Ver} (h : v.may = true) {k : Nat} (hk : k < 3) : -9223372036854775808 ≤ xV v.maj v.min v.pat k ∧ xV v.maj v.min v.pat k ≤ 9223372036854775807 := by
  have q := nth_ok h hk
  unfold yG at q; simp at q; omega
theorem nums_next (v : Ver) {k : Nat} (hk : k < 3) : yC v (k + 1) = yC v k ++ [Lib.itoa (xV v.maj v.min v.pat k)] := by
  have hj : k = 0 ∨ k = 1 ∨ k = 2 := by omega
  rcases hj with rfl | rfl | rfl <;> rfl
theorem own_dropP {M : List Nat} {W w : World} {x y z : Blk} {A : List Blk} (h : Own M W w ([x, y, z] ++ A ++ [])) : Own M W w (y :: z :: A) := h.sublist (by rw [List.append_nil]; exact List.sublist_append_right [x] _)
theorem star_ne {l : List (List UInt8)} : zY 46 (l ++ [[42]]) ≠ [] := fun e => by
  have h := last_join [] l
  rw [show ([] : List UInt8) ++ [42] = [42] from rfl, e] at h
  cases h
theorem nums_ne {c : Co} (h : c.may = true) (hn : ¬ c.op = 9) : zY 46 (yC c.v c.parts.toNat) ≠ [] := fun e => by
  obtain ⟨d, r, e2, hd⟩ := bY h hn
  unfold Co.rest at e2
  rw [if_neg hn, e, List.nil_append] at e2
  unfold wT at e2
  split at e2
  · cases e2
  · injection e2 with e3 _
    rw [← e3] at hd
    revert hd; decide
theorem text_pre2 {c : Co} (h9 : ¬ c.op = 9) (hp : ¬ c.v.pre = []) : y7 c.op ++ zY 46 (yC c.v c.parts.toNat) ++ ([45] ++ c.v.pre) = c.text := by
  rw [← text_pre h9 hp]; simp
theorem star_text2 {c : Co} (h9 : c.op = 9) : y7 c.op ++ zY 46 (yC c.v c.parts.toNat ++ [[42]]) = c.text := by
  rw [← star_text h9, h9]; rfl
theorem star_pre {c : Co} (h : c.may = true) (h9 : c.op = 9) : c.v.pre = [] := by
  obtain ⟨_, _, _, k9, _, hp, _⟩ := Co.facts h
  have := k9 h9
  exact hp.resolve_left (by omega)
theorem pN (c : Co) (W : World) (hc : c.short) (ht : HasTab W) : Calls Tryz.prog 64 #[coV c] W fun e w' => e = .returned (.string (mkS c.print)) ∧ Below W.heap.size W w' := by
  refine zP (n := 50) Tryz.func64 rfl (by kernel_rfl) (by kernel_rfl) (ZO (Zb (coV c) (fun b1 => Zv (.string ⟨#[]⟩) (ZN (z6 (ZO (Zl 0 ⟨b1, (coV c).cells, 51⟩ (off := 0) (coV c) (Zc (k := 73) (args := #[coV c]) (.bool c.may) (fun w _ => tU c w hc) ?_))))))))
  cases h1 : c.may with
  | true =>
    have hcm := h1
    have hcv := (Co.facts hcm).2.1
    have hpn := parts_nat hcm
    have hpr := hpn.2
    have hpc := hpn.1
    refine Zv (.bool false) (ZX (ZB (ZO (Zv (.slice none 0 0) (ZN (z6 ?_))))))
    refine z6 (uQ (by kernel_rfl) (ZT 0 [] _ (.pointer (some ⟨b1, 2, none⟩)) (zF (zF zJ)) rfl (ZL 1 [] _ 0 ⟨b1, (coV c).cells, 51⟩ (off := 2) (.agg #[.int .i64 c.v.maj, .int .i64 c.v.min, .int .i64 c.v.pat, .string (mkS c.v.pre), .string (mkS c.v.build)]) (zF (zF zJ)) rfl rfl (ZT 3 [] _ (.pointer (some ⟨b1, 1, none⟩)) (zF (zF zJ)) rfl (ZL 4 [] _ 0 ⟨b1, (coV c).cells, 51⟩ (off := 1) (.int .i64 c.parts) (zF (zF zJ)) rfl rfl (ZT 7 [] _ (.int .i64 0) (zF (zF zJ)) rfl (zZ 2 (by kernel_rfl) (gW _ (k := 111) (args := #[.agg #[.int .i64 c.v.maj, .int .i64 c.v.min, .int .i64 c.v.pat, .string (mkS c.v.pre), .string (mkS c.v.build)]]) (fun v' L' => ∃ ob', L' = ob' ++ ([] ++ ([⟨b1, (coV c).cells, 51⟩])) ∧ ∃ g, v' = .slice (some ⟨g, 0, none⟩) 3 3 ∧ ob' = [⟨g, vS c.v, 3⟩]) rfl (by kernel_rfl) (fun _ => by kernel_rfl) (fun w hO => (mY c.v w).mono fun e w' ⟨v', ob', k1, k2, k3⟩ => ⟨v', _, k1, ⟨ob', rfl, k2⟩, Own.joinN hO k3⟩) (fun v' L' ⟨ob', e, _⟩ w hO => by subst e; exact Own.sub [] (Own.sub ob' hO)) (fun v1 L2 hv2 => ?_)))))))))
    obtain ⟨o1, rfl, hr1⟩ := hv2
    obtain ⟨g1, rfl, ho1⟩ := hr1
    refine vQ (L' := (o1 ++ ([] : List Blk)) ++ ([⟨b1, (coV c).cells, 51⟩])) (List.append_assoc _ _ _).symm (wF 5 (o1 ++ ([] : List Blk)) _ (.slice (some ⟨g1, 0, none⟩) c.parts.toNat 3) rfl (by kernel_rfl) (by kernel_rfl) (by kernel_rfl) (zF (zF zJ)) (by kernel_rfl) (fun w _ => fP (b := g1) (off := 0) (n := 3) (c := 3) (k := .i64) (j := c.parts) (e := 3) (sz := 1) rfl (by kernel_rfl) (by kernel_rfl) (by kernel_rfl) (by kernel_rfl) (by omega) (by omega) w) (ZT 6 (o1 ++ ([] : List Blk)) _ (.int .i64 (c.parts.toNat : Int)) (zF (zF zJ)) rfl (x7 (by kernel_rfl) (zA (zL (gF (L' := ⟨g1, vS c.v, 3⟩ :: ⟨b1, (coV c).cells, 51⟩ :: []) (by rw [ho1]; rfl) (yP (fun L f m => ∃ (k : Nat) (va : Value) (oa : List Blk) (j : Nat → Value), (k ≤ c.parts.toNat ∧ SlT va (yC c.v k) oa) ∧ L = ⟨g1, vS c.v, 3⟩ :: ⟨b1, (coV c).cells, 51⟩ :: oa ∧ f = kG j [(1, .pointer (some ⟨b1, 0, none⟩)), (3, va), (15, .slice (some ⟨g1, 0, none⟩) c.parts.toNat 3), (16, .int .i64 (c.parts.toNat : Int)), (17, .int .i64 (k : Int))] ∧ m = c.parts.toNat - k) (c.parts.toNat - 0) ⟨0, _, [], _, ⟨Nat.zero_le _, Sl.nil _ _⟩, rfl, ZU, rfl⟩ ?_)))))))
    rintro L f m ⟨k, va, oa, j, hrel, rfl, rfl, rfl⟩
    have hkl := hrel.1
    refine z6 (z7 ?_)
    by_cases h2 : (k : Int) < (c.parts.toNat : Int)
    · refine zW (p := (k : Int) < (c.parts.toNat : Int)) true (by kernel_rfl) (fun _ => by kernel_rfl) (decide_eq_true (h2)) ?_
      refine ZN (z6 (Zt (ZB (z6 (zL (ZO (zV (.pointer (some ⟨g1, 0 + k, none⟩)) (by kernel_rfl) (ZV (b := g1) (off := 0) (n := c.parts.toNat) (c := 3) (k := .i64) (j := (k : Int)) (e := 3) (sz := 1)) (jF 0 ⟨g1, vS c.v, 3⟩ (off := 0 + k) (.int .i64 (xV c.v.maj c.v.min c.v.pat k)) (by kernel_rfl) rfl (by kernel_rfl) (by kernel_rfl) (by rw [Nat.zero_add]; exact rd_nums c.v k (by omega)) ?_))))))))
      refine Zv (.int .i64 (xV c.v.maj c.v.min c.v.pat k)) (ZN (z7 (Zv (va) (Zv (.int .i64 (xV c.v.maj c.v.min c.v.pat k)) (Zc (k := 112) (args := #[.int .i64 (xV c.v.maj c.v.min c.v.pat k)]) (.string (mkS (Lib.itoa (xV c.v.maj c.v.min c.v.pat k)))) (fun w hO => digits_mk _ (nth_in hcv (show k < 3 by omega)).1 (nth_in hcv (show k < 3 by omega)).2 w (ht.on hO.below)) (qZ 9 #[.string (mkS (Lib.itoa (xV c.v.maj c.v.min c.v.pat k)))] (by kernel_rfl) rfl (fun _ => by kernel_rfl) (fun b2 => ?_)))))))
      obtain ⟨i0, z0, e1, e2, e3, e4, e5⟩ := fL
      have hlk : (yC c.v k).length ≤ 3 := by have := uE c.v k; omega
      refine kA (L' := [⟨b2, #[.string (mkS (Lib.itoa (xV c.v.maj c.v.min c.v.pat k)))], 9⟩, ⟨g1, vS c.v, 3⟩, ⟨b1, (coV c).cells, 51⟩] ++ oa ++ []) (List.append_nil _).symm (gJ (sz := 1) (by kernel_rfl) rfl Tryz.underlying58 e1 e2 e3 e4 (by kernel_rfl) hrel.2 (a := ⟨b2, 0, none⟩) (m := 1) (c := 1) (news := qN [Lib.itoa (xV c.v.maj c.v.min c.v.pat k)]) (by kernel_rfl) rfl (fun w hO j u hj => ?_) (str_cells _) (by unfold maxLen; omega) (by rw [e5]; omega) (fun va2 oa2 hva0 => ?_))
      · rw [yM, cell_of_row w b2 (0 + j) (qN [Lib.itoa (xV c.v.maj c.v.min c.v.pat k)]).toArray 9 _ (hO.held ⟨b2, (qN [Lib.itoa (xV c.v.maj c.v.min c.v.pat k)]).toArray, 9⟩ (List.mem_append_left _ (List.mem_append_left _ (List.mem_cons_self ..))))]; simpa using hj
      have hva2 : SlT va2 ((yC c.v k) ++ [Lib.itoa (xV c.v.maj c.v.min c.v.pat k)]) oa2 := hva0.to (by rw [List.length_append]; rfl) (by unfold qN; rw [List.map_append])
      exact Zv (va2) (zR (zT (zA (z7 (Zu (k := .i64) (((k + 1 : Nat) : Int)) (IntWalk.i64_in _ (by omega)) (Zv (.int .i64 ((k + 1 : Nat) : Int)) (zR (kC (L' := ⟨g1, vS c.v, 3⟩ :: ⟨b1, (coV c).cells, 51⟩ :: oa2) (fun w hO => own_dropP hO) (zU (m' := c.parts.toNat - (k + 1)) (by omega) ⟨k + 1, va2, oa2, _, ⟨by omega, by rw [nums_next c.v (by omega)]; exact hva2⟩, rfl, ZU, rfl⟩)))))))))
    have hkq : k = c.parts.toNat := by omega
    have hvk : SlT va (yC c.v c.parts.toNat) oa := hkq ▸ hrel.2
    refine Zd (p := (k : Int) < (c.parts.toNat : Int)) false (decide_eq_false (h2)) (ZN (z6 (Zf (y8 (zC (zN (zI (zA (z6 (z6 ?_))))))))))
    refine z7 (Zv (.pointer (some ⟨b1, 0, none⟩)) (Zl 1 ⟨b1, (coV c).cells, 51⟩ (off := 0) (.int .i64 c.op) ?_))
    by_cases h3 : (c.op : Int) = 9
    · refine zW (p := (c.op : Int) = 9) true (by kernel_rfl) (fun _ => by kernel_rfl) (decide_eq_true (h3)) ?_
      refine ZY (z7 (Zv (va) (qZ 9 #[.string ⟨#[42]⟩] (by kernel_rfl) rfl (fun _ => by kernel_rfl) (fun b2 => ?_))))
      obtain ⟨i0, z0, e1, e2, e3, e4, e5⟩ := fL
      have hlk : (yC c.v c.parts.toNat).length ≤ 3 := by have := uE c.v c.parts.toNat; omega
      refine kA (L' := [⟨b2, #[.string ⟨#[42]⟩], 9⟩, ⟨g1, vS c.v, 3⟩, ⟨b1, (coV c).cells, 51⟩] ++ oa ++ []) (List.append_nil _).symm (gJ (sz := 1) (by kernel_rfl) rfl Tryz.underlying58 e1 e2 e3 e4 (by kernel_rfl) hvk (a := ⟨b2, 0, none⟩) (m := 1) (c := 1) (news := qN [[42]]) (by kernel_rfl) rfl (fun w hO j u hj => ?_) (str_cells _) (by unfold maxLen; omega) (by rw [e5]; omega) (fun va2 oa2 hva0 => ?_))
      · rw [yM, cell_of_row w b2 (0 + j) (qN [[42]]).toArray 9 _ (hO.held ⟨b2, (qN [[42]]).toArray, 9⟩ (List.mem_append_left _ (List.mem_append_left _ (List.mem_cons_self ..))))]; simpa using hj
      have hva2 : SlT va2 ((yC c.v c.parts.toNat) ++ [[42]]) oa2 := hva0.to (by rw [List.length_append]; rfl) (by unfold qN; rw [List.map_append])
      refine Zv (va2) (zR (kC (L' := ⟨g1, vS c.v, 3⟩ :: ⟨b1, (coV c).cells, 51⟩ :: oa2) (fun w hO => own_dropP hO) (zA (ZO (Zv (.pointer (some ⟨b1, 0, none⟩)) (Zl 1 ⟨b1, (coV c).cells, 51⟩ (off := 0) (.int .i64 c.op) (Zc (k := 108) (args := #[.int .i64 c.op]) (.string (mkS (y7 c.op))) (fun w _ => csign_any c.op w) (Zv (va2) (Zc (k := 113) (args := #[va2, .int .u8 46]) (.string (mkS (zY 46 (yC c.v c.parts.toNat ++ [[42]])))) (fun w hO => join_any va2 _ 46 w (SlT.readsT hva2 hO (fun x hx => by simp [hx])) (Nat.le_trans (jR hcv _) (by decide)) (by rw [List.length_append]; have := uE c.v c.parts.toNat; simp; omega) star_ne) (zV (.string (mkS ((y7 c.op) ++ (zY 46 (yC c.v c.parts.toNat ++ [[42]]))))) (by kernel_rfl) (yU (a := (y7 c.op)) (b := (zY 46 (yC c.v c.parts.toNat ++ [[42]]))) rfl (by kernel_rfl) (by kernel_rfl) (by have q1 := jS c.op; have q2 := qU hcv c.parts.toNat; have q4 := jR hcv c.parts.toNat; have q3 := hc.1; first | omega | (simp only [List.length_append, List.length_cons, List.length_nil]; omega))) ?_))))))))))
      refine Zv (.string (mkS ((y7 c.op) ++ (zY 46 (yC c.v c.parts.toNat ++ [[42]]))))) (ZN (z6 (ZO (Zv (.pointer (some ⟨b1, 2, none⟩)) (Zv (.pointer (some ⟨b1, 5, none⟩)) (Zl 1 ⟨b1, (coV c).cells, 51⟩ (off := 5) (.string (mkS c.v.pre)) (zV (.bool false) (by kernel_rfl) (xB (a := c.v.pre) (b := ([])) rfl (by kernel_rfl) (by kernel_rfl) (decide_eq_true (star_pre hcm h3))) (zR (zA ?_)))))))))
      exact Zf (ZB (ZO (Zv (.string (mkS ((y7 c.op) ++ (zY 46 (yC c.v c.parts.toNat ++ [[42]]))))) (Zv (.string (mkS ((y7 c.op) ++ (zY 46 (yC c.v c.parts.toNat ++ [[42]]))))) (ZN (zB (ZF (.string (mkS ((y7 c.op) ++ (zY 46 (yC c.v c.parts.toNat ++ [[42]]))))) Tryz.results64 (fun w hO => ⟨by rw [gE hcm, ← star_text2 h3], hO.below⟩))))))))
    refine Zd (p := (c.op : Int) = 9) false (decide_eq_false (h3)) (ZX (ZB (ZO (Zv (.pointer (some ⟨b1, 0, none⟩)) (Zl 1 ⟨b1, (coV c).cells, 51⟩ (off := 0) (.int .i64 c.op) (Zc (k := 108) (args := #[.int .i64 c.op]) (.string (mkS (y7 c.op))) (fun w _ => csign_any c.op w) (Zv (va) ?_)))))))
    refine Zc (k := 113) (args := #[va, .int .u8 46]) (.string (mkS (zY 46 (yC c.v c.parts.toNat)))) (fun w hO => join_any va _ 46 w (SlT.readsT hvk hO (fun x hx => by simp [hx])) (Nat.le_trans (qU hcv _) (by decide)) (Nat.le_trans (uE _ _) (by decide)) (nums_ne hcm h3)) (zV (.string (mkS ((y7 c.op) ++ (zY 46 (yC c.v c.parts.toNat))))) (by kernel_rfl) (yU (a := (y7 c.op)) (b := (zY 46 (yC c.v c.parts.toNat))) rfl (by kernel_rfl) (by kernel_rfl) (by have q1 := jS c.op; have q2 := qU hcv c.parts.toNat; have q4 := jR hcv c.parts.toNat; have q3 := hc.1; first | omega | (simp only [List.length_append, List.length_cons, List.length_nil]; omega))) (Zv (.string (mkS ((y7 c.op) ++ (zY 46 (yC c.v c.parts.toNat))))) (ZN (z6 (ZO (Zv (.pointer (some ⟨b1, 2, none⟩)) (Zv (.pointer (some ⟨b1, 5, none⟩)) (Zl 1 ⟨b1, (coV c).cells, 51⟩ (off := 5) (.string (mkS c.v.pre)) ?_))))))))
    by_cases h4 : (c.v.pre : List UInt8) = []
    · refine zV (.bool false) (by kernel_rfl) (xB (a := c.v.pre) (b := ([])) rfl (by kernel_rfl) (by kernel_rfl) (decide_eq_true (h4))) ?_
      refine ZX (ZB (ZO (Zv (.string (mkS ((y7 c.op) ++ (zY 46 (yC c.v c.parts.toNat))))) (Zv (.string (mkS ((y7 c.op) ++ (zY 46 (yC c.v c.parts.toNat))))) (ZN (zB ?_))))))
      exact ZF (.string (mkS ((y7 c.op) ++ (zY 46 (yC c.v c.parts.toNat))))) Tryz.results64 (fun w hO => ⟨by rw [gE hcm, ← text_bare h3 h4], hO.below⟩)
    refine zV (.bool true) (by kernel_rfl) (xB (a := c.v.pre) (b := ([])) rfl (by kernel_rfl) (by kernel_rfl) (decide_eq_false (h4))) (ZY (z7 (Zv (.string (mkS ((y7 c.op) ++ (zY 46 (yC c.v c.parts.toNat))))) (Zv (.pointer (some ⟨b1, 2, none⟩)) (Zv (.pointer (some ⟨b1, 5, none⟩)) (Zl 1 ⟨b1, (coV c).cells, 51⟩ (off := 5) (.string (mkS c.v.pre)) (zV (.string (mkS ([45] ++ c.v.pre))) (by kernel_rfl) (yU (a := [45]) (b := c.v.pre) rfl (by kernel_rfl) (by kernel_rfl) (by have q1 := jS c.op; have q2 := qU hcv c.parts.toNat; have q4 := jR hcv c.parts.toNat; have q3 := hc.1; first | omega | (simp only [List.length_append, List.length_cons, List.length_nil]; omega))) (zV (.string (mkS (((y7 c.op) ++ (zY 46 (yC c.v c.parts.toNat))) ++ ([45] ++ c.v.pre)))) (by kernel_rfl) (yU (a := ((y7 c.op) ++ (zY 46 (yC c.v c.parts.toNat)))) (b := ([45] ++ c.v.pre)) rfl (by kernel_rfl) (by kernel_rfl) (by have q1 := jS c.op; have q2 := qU hcv c.parts.toNat; have q4 := jR hcv c.parts.toNat; have q3 := hc.1; first | omega | (simp only [List.length_append, List.length_cons, List.length_nil]; omega))) (Zv (.string (mkS (((y7 c.op) ++ (zY 46 (yC c.v c.parts.toNat))) ++ ([45] ++ c.v.pre)))) ?_)))))))))
    exact ZR (Zv (.string (mkS (((y7 c.op) ++ (zY 46 (yC c.v c.parts.toNat))) ++ ([45] ++ c.v.pre)))) (Zv (.string (mkS (((y7 c.op) ++ (zY 46 (yC c.v c.parts.toNat))) ++ ([45] ++ c.v.pre)))) (ZN (zB (ZF (.string (mkS (((y7 c.op) ++ (zY 46 (yC c.v c.parts.toNat))) ++ ([45] ++ c.v.pre)))) Tryz.results64 (fun w hO => ⟨by rw [gE hcm, ← text_pre2 h3 h4], hO.below⟩))))))
  | false =>
    refine Zv (.bool true) (ZY (ZO (Zv (.string ⟨#[]⟩) (ZN (zB (z8 (ZF (.string ⟨#[]⟩) Tryz.results64 ?_)))))))
    exact fun w hO => ⟨by unfold Co.print; simp [h1]; rfl, hO.below⟩
end
section
theorem unshare_any (A : Option Addr) (cap : Nat) (l : List Sp) (ob : List Blk) (W : World) (hv : SlS (.slice A l.length cap) l ob) (hO : Own (ob.map Blk.b) W W ob) (hn : l.length ≤ 1000000) (hl : yY l) :
    Calls Tryz.prog 132 #[.slice A l.length cap] W fun e w' => ∃ ob', e = .returned (.slice A l.length cap) ∧ SlS (.slice A l.length cap) l ob' ∧ Own (ob.map Blk.b) W w' ob' := by
  unfold SlS at hv ⊢
  refine mZ (n := 39) hO Tryz.func132 rfl (by kernel_rfl) (by kernel_rfl) (ZO (Zv (.slice none 0 0) (ZN (z6 (ZO (Zv (.slice A l.length cap) (Zv (.int .i64 (l.length : Int)) (Zv (.int .i64 0) ?_))))))))
  refine ZN (zL (gF (L' := ob ++ []) (List.append_nil _).symm (yP (fun L f m => ∃ (k : Nat) (oc : List Blk) (j : Nat → Value), (k ≤ l.length ∧ Sl 80 14 (.slice A l.length cap) l.length (l.flatMap yW) oc) ∧ L = oc ++ [] ∧ f = kG j [(0, .slice A l.length cap), (5, .slice A l.length cap), (6, .int .i64 (l.length : Int)), (7, .int .i64 (k : Int))] ∧ m = l.length - k) (l.length - 0) ⟨0, ob, _, ⟨Nat.zero_le _, hv⟩, rfl, ZU, rfl⟩ ?_)))
  rintro L f m ⟨k, oc, j, hrel, rfl, rfl, rfl⟩
  have hkl := hrel.1
  refine z6 (z7 ?_)
  by_cases h1 : (k : Int) < (l.length : Int)
  · have hk : k < l.length := by omega
    obtain ⟨g, cur, hA, rfl, hcap, hmax, hsz, hcur⟩ := hrel.2.block (by omega)
    obtain ⟨s, hs⟩ : ∃ s, l[k] = s := ⟨_, rfl⟩
    have hsk : s.short := hs ▸ hl l[k] (List.getElem_mem hk)
    have hset : l.set k s = l := by rw [← hs]; exact List.set_getElem_self _
    refine kA (L' := [⟨g, cur, 80⟩]) (List.append_nil _) (Zd (p := (k : Int) < (l.length : Int)) true (decide_eq_true (h1)) (ZN (z6 (Zt (ZB (z6 (zL (z6 (z7 ?_)))))))))
    refine Zv (.int .i64 (k : Int)) (Zv (.int .i64 (k : Int)) (ZR (Zv (.slice A l.length cap) (Zv (.int .i64 (k : Int)) (zV (.pointer (some ⟨g, k * 14, none⟩)) (by kernel_rfl) (u7 (b := g) (off := 0) (c := cap) (n := l.length) (k := .i64) (j := (k : Int)) (e := 80) (sz := 14) rfl (by kernel_rfl) hA (by kernel_rfl) (by kernel_rfl) (by kernel_rfl) (by omega) (by omega) (by show 0 + k * 14 = k * 14; omega)) (Zv (.pointer (some ⟨g, k * 14, none⟩)) (zR (zA ?_))))))))
    refine ZO (Zv (.pointer (some ⟨g, k * 14, none⟩)) (Zv (.pointer (some ⟨g, k * 14, none⟩)) (Zv (.pointer (some ⟨g, k * 14, none⟩)) (Zv (.pointer (some ⟨g, k * 14 + 0, none⟩)) (Zv (.pointer (some ⟨g, k * 14 + 1, none⟩)) (Zv (.pointer (some ⟨g, k * 14 + 4, none⟩)) (jF 0 ⟨g, cur, 80⟩ (off := k * 14 + 4) (.string (mkS s.lo.v.pre)) (by kernel_rfl) rfl (by kernel_rfl) (by kernel_rfl) (xD zX hcur k 4 (by omega) (by omega) _ (by rw [hs]; kernel_rfl)) (Zc (k := 65) (args := #[.string (mkS s.lo.v.pre)]) (.string (mkS s.lo.v.pre)) (fun w _ => u6 (mkS s.lo.v.pre) w (by rw [xP]; have := hsk.1.1; omega)) (Zv (.pointer (some ⟨g, k * 14, none⟩)) (Zv (.pointer (some ⟨g, k * 14 + 0, none⟩)) ?_))))))))))
    refine Zv (.pointer (some ⟨g, k * 14 + 1, none⟩)) (Zv (.pointer (some ⟨g, k * 14 + 4, none⟩)) (t6 0 ⟨g, cur, 80⟩ (off := k * 14 + 4) (.string (mkS s.lo.v.pre)) 1 (by kernel_rfl) rfl rfl (by kernel_rfl) (by kernel_rfl) (by kernel_rfl) (by kernel_rfl) (by kernel_rfl) (by show k * 14 + 4 + 1 ≤ cur.size; omega) (by kernel_rfl) ?_))
    have hse2 := dO zX hcur k 4 (by omega) (Value.string (mkS s.lo.v.pre)).cells s (show 4 + 1 ≤ 14 by decide) (by rw [hs]; rfl)
    rw [hset] at hse2
    obtain ⟨cur2, hc2⟩ : ∃ x, x = kD cur (k * 14 + 4) (Value.string (mkS s.lo.v.pre)).cells := ⟨_, rfl⟩
    rw [← hc2] at hse2
    refine kA (L' := [⟨g, cur2, 80⟩]) (by rw [hc2]; rfl) ?_
    have hcur2 := hse2.1
    have hsz2 : cur2.size = cap * 14 := by rw [hse2.2]; exact hsz
    refine ZN (z7 (Zv (.pointer (some ⟨g, k * 14, none⟩)) (Zv (.pointer (some ⟨g, k * 14, none⟩)) (Zv (.pointer (some ⟨g, k * 14, none⟩)) (Zv (.pointer (some ⟨g, k * 14 + 7, none⟩)) (Zv (.pointer (some ⟨g, k * 14 + 8, none⟩)) (Zv (.pointer (some ⟨g, k * 14 + 11, none⟩)) (jF 0 ⟨g, cur2, 80⟩ (off := k * 14 + 11) (.string (mkS s.hi.v.pre)) (by kernel_rfl) rfl (by kernel_rfl) (by kernel_rfl) (xD zX hcur2 k 11 (by omega) (by omega) _ (by rw [hs]; kernel_rfl)) (Zc (k := 65) (args := #[.string (mkS s.hi.v.pre)]) (.string (mkS s.hi.v.pre)) (fun w _ => u6 (mkS s.hi.v.pre) w (by rw [xP]; have := hsk.2.1; omega)) (Zv (.pointer (some ⟨g, k * 14, none⟩)) ?_))))))))))
    refine Zv (.pointer (some ⟨g, k * 14 + 7, none⟩)) (Zv (.pointer (some ⟨g, k * 14 + 8, none⟩)) (Zv (.pointer (some ⟨g, k * 14 + 11, none⟩)) (t6 0 ⟨g, cur2, 80⟩ (off := k * 14 + 11) (.string (mkS s.hi.v.pre)) 1 (by kernel_rfl) rfl rfl (by kernel_rfl) (by kernel_rfl) (by kernel_rfl) (by kernel_rfl) (by kernel_rfl) (by show k * 14 + 11 + 1 ≤ cur2.size; omega) (by kernel_rfl) ?_)))
    have hse3 := dO zX hcur2 k 11 (by omega) (Value.string (mkS s.hi.v.pre)).cells s (show 11 + 1 ≤ 14 by decide) (by rw [hs]; rfl)
    rw [hset] at hse3
    obtain ⟨cur3, hc3⟩ : ∃ x, x = kD cur2 (k * 14 + 11) (Value.string (mkS s.hi.v.pre)).cells := ⟨_, rfl⟩
    rw [← hc3] at hse3
    refine kA (L' := [⟨g, cur3, 80⟩]) (by rw [hc3]; rfl) ?_
    have hcur3 := hse3.1
    have hsz3 : cur3.size = cap * 14 := by rw [hse3.2]; exact hsz2
    exact zR (zT (zA (z7 (Zu (k := .i64) (((k + 1 : Nat) : Int)) (IntWalk.i64_in _ (by omega)) (Zv (.int .i64 ((k + 1 : Nat) : Int)) (zR (zU (m' := l.length - (k + 1)) (by omega) ⟨k + 1, [⟨g, cur3, 80⟩], _, ⟨by omega, by rw [kO zX], .inr ⟨g, cap, _, by rw [hA], rfl, hcap, hmax, hsz3, hcur3⟩⟩, rfl, ZU, rfl⟩)))))))
  refine Zd (p := (k : Int) < (l.length : Int)) false (decide_eq_false (h1)) (ZN (z6 (Zf (y8 (zC (zN (zI (zA (z6 (z7 ?_))))))))))
  exact Zv (.slice A l.length cap) (Zv (.slice A l.length cap) (ZN (zB (ZF (.slice A l.length cap) Tryz.results132 (fun w hO => ⟨oc, rfl, hrel.2, by simpa using hO⟩)))))
end
end Go.Proofs.YtkljdpiaghepfaaGreatDoor
