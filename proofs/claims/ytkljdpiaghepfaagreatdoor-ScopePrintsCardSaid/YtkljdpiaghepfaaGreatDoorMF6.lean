/-
  What the statement's proof leans on: the ways of walking, n7 mathematics, and what the program's functions return; each theorem says on what conditions.
-/
import Derived.Lib.SplitLaws
import Derived.Lib.TrimByte
import Derived.Lib.Join
import Derived.Lib.MakeNoZero
import Derived.Laws.IdiomCopy
import Derived.Test.YtkljdpiaghepfaaGreatDoorMF5
set_option maxRecDepth 1000000
set_option maxHeartbeats 8000000
set_option linter.unusedVariables false
set_option linter.unusedSimpArgs false
set_option linter.unnecessarySimpa false
namespace Go.Proofs.YtkljdpiaghepfaaGreatDoor
open Go.RowKit

section
theorem rsfew_any (A : Option Addr) (cap : Nat) (xs : List Al) (W : World) (hv : RgIn W W.heap.size A xs) : Calls Tryz.prog 44 #[.agg #[.slice A xs.length cap]] W fun e w' => e = .returned (.bool (fewR (yK xs))) ∧ Below W.heap.size W w' := by
  have hn := hv.n
  refine Z2 (n := 58) Tryz.func44 rfl (ZO (Zb (.agg #[.slice A xs.length cap]) (fun b1 => Zv Z5 (ZN (z7 (ZO (Zv (Zp b1 0) (Zl 0 ⟨b1, #[.slice A xs.length cap], 25⟩ (off := 0) (.slice A xs.length cap) ?_))))))))
  refine Zv (.int .i64 (xs.length : Int)) ?_
  by_cases h1 : (xs.length : Int) < 1
  · refine Zg h1 (Zv Z4 (Zk (Zk (Zk (Zk (Zv Z4 (ZY (z7 (zA ?_)))))))))
    exact Zv Z5 (ZN (zC (z6 (ZF Z5 Tryz.results44 (fun w hO => ⟨by rw [few_len (by omega)], hO.below⟩)))))
  refine Zh h1 (Zv Z5 (Zv (Zp b1 0) (Zl 0 ⟨b1, #[.slice A xs.length cap], 25⟩ (off := 0) (.slice A xs.length cap) (Zv (.int .i64 (xs.length : Int)) ?_))))
  by_cases h2 : (6 : Int) < (xs.length : Int)
  · refine Zg h2 (Zv Z4 (ZY (ZO (Zv Z5 (ZN (zC (z6 ?_)))))))
    exact ZF Z5 Tryz.results44 (fun w hO => ⟨by rw [few_len (by omega)], hO.below⟩)
  refine Zh h2 (Zv Z5 (ZX (ZB (z7 (ZO (Zv (.int .i64 0) (zO ?_)))))))
  refine zB (zM (yN (fun L f m => ∃ (i : Nat) (j : Nat → Value), (i ≤ xs.length ∧ ∀ x ∈ xs.take i, fewA x.l = true) ∧ L = [⟨b1, #[.slice A xs.length cap], 25⟩] ∧ f = xZ j [(1, Zp b1 0), (3, .int .i64 (i : Int))] ∧ m = xs.length - i) (xs.length - 0) ⟨0, _, ⟨Nat.zero_le _, by simp⟩, rfl, ZU, rfl⟩ ?_))
  rintro L f m ⟨i, j, hrel, rfl, rfl, rfl⟩
  have hrel0 := hrel; have hil := hrel.1
  refine z7 (ZO (Zv (.int .i64 (i : Int)) (Zv (Zp b1 0) (Zl 0 ⟨b1, #[.slice A xs.length cap], 25⟩ (off := 0) (.slice A xs.length cap) (Zv (.int .i64 (xs.length : Int)) ?_)))))
  by_cases h3 : (i : Int) < (xs.length : Int)
  · have hi : i < xs.length := by omega
    obtain ⟨b, off, hA, hlt, hcell⟩ := hv.top (by omega)
    obtain ⟨x, hx⟩ : ∃ x, xs[i] = x := ⟨_, rfl⟩
    have hxm : x ∈ xs := hx ▸ List.getElem_mem hi
    have hxn := hv.m x hxm
    refine Zg h3 (ZY (ZB (z7 (zM (z7 (ZO (Zv (Zp b1 0) ?_)))))))
    refine Zl 0 ⟨b1, #[.slice A xs.length cap], 25⟩ (off := 0) (.slice A xs.length cap) (Zv (.int .i64 (i : Int)) (zV (Zp b (off + i * 1)) (by kernel_rfl) (ZA (b := b) (off := off) (c := cap) (n := xs.length) (k := .i64) (j := (i : Int)) (e := 47) (sz := 1) hA) (Zo (.slice x.A x.l.length x.cap) (a := ⟨b, off + i * 1, none⟩) (fun w hO => zX gO (fun j u h => (hO.below.cell (p := ⟨b, off + j, none⟩) hlt).trans (hcell j u h)) i 0 hi (by omega) _ (by rw [hx]; kernel_rfl)) (Zv (.int .i64 (x.l.length : Int)) ?_))))
    by_cases h4 : (x.l.length : Int) < 1
    · refine Zg h4 (Zv Z4 (Zk (Zk (Zk (Zk (Zk (Zk (Zk (Zv Z4 (zO (zB ?_)))))))))))
      refine Zt (ZO (Zv Z5 (ZN (zC (z6 (zG (z6 (y5 (zG ?_)))))))))
      exact z6 (ZF Z5 Tryz.results44 (fun w hO => ⟨by rw [few_one hxm (tH (by omega))], hO.below⟩))
    refine Zh h4 (Zv Z5 (Zv (Zp b1 0) (Zl 0 ⟨b1, #[.slice A xs.length cap], 25⟩ (off := 0) (.slice A xs.length cap) (Zv (.int .i64 (i : Int)) (zV (Zp b (off + i * 1)) (by kernel_rfl) (ZA (b := b) (off := off) (c := cap) (n := xs.length) (k := .i64) (j := (i : Int)) (e := 47) (sz := 1) hA) (Zo (.slice x.A x.l.length x.cap) (a := ⟨b, off + i * 1, none⟩) (fun w hO => zX gO (fun j u h => (hO.below.cell (p := ⟨b, off + j, none⟩) hlt).trans (hcell j u h)) i 0 hi (by omega) _ (by rw [hx]; kernel_rfl)) (Zv (.int .i64 (x.l.length : Int)) ?_)))))))
    by_cases h5 : (6 : Int) < (x.l.length : Int)
    · refine Zg h5 (Zv Z4 (ZY (ZO (Zv Z5 (ZN (zC (z6 ?_)))))))
      exact zG (z6 (y5 (zG (z6 (ZF Z5 Tryz.results44 (fun w hO => ⟨by rw [few_one hxm (tH (by omega))], hO.below⟩))))))
    refine Zh h5 (Zv Z5 (ZX (ZB (ZO (Zv (.int .i64 0) (zO (zB ?_)))))))
    refine zM (yN (fun L f m => ∃ (k : Nat) (j : Nat → Value), (k ≤ x.l.length ∧ ∀ c ∈ x.l.take k, c.may = true) ∧ L = [⟨b1, #[.slice A xs.length cap], 25⟩] ∧ f = xZ j [(1, Zp b1 0), (3, .int .i64 (i : Int)), (4, .int .i64 (k : Int))] ∧ m = x.l.length - k) (x.l.length - 0) ⟨0, _, ⟨Nat.zero_le _, by simp⟩, rfl, ZU, rfl⟩ ?_)
    rintro L f m ⟨k, j, hrel, rfl, rfl, rfl⟩
    have hkl := hrel.1
    refine z7 (ZO (Zv (.int .i64 (k : Int)) (Zv (Zp b1 0) (Zl 0 ⟨b1, #[.slice A xs.length cap], 25⟩ (off := 0) (.slice A xs.length cap) (Zv (.int .i64 (i : Int)) (zV (Zp b (off + i * 1)) (by kernel_rfl) (ZA (b := b) (off := off) (c := cap) (n := xs.length) (k := .i64) (j := (i : Int)) (e := 47) (sz := 1) hA) (Zo (.slice x.A x.l.length x.cap) (a := ⟨b, off + i * 1, none⟩) (fun w hO => zX gO (fun j u h => (hO.below.cell (p := ⟨b, off + j, none⟩) hlt).trans (hcell j u h)) i 0 hi (by omega) _ (by rw [hx]; kernel_rfl)) (Zv (.int .i64 (x.l.length : Int)) ?_))))))))
    by_cases h6 : (k : Int) < (x.l.length : Int)
    · have hk : k < x.l.length := by omega
      obtain ⟨b2, off2, hA2, hlt2, hcell2⟩ := hv.each x hxm (by omega)
      obtain ⟨c, hc⟩ : ∃ c, x.l[k] = c := ⟨_, rfl⟩
      have hcm : c ∈ x.l := hc ▸ List.getElem_mem hk
      have hcS : c.short := hv.short x hxm c hcm
      refine Zg h6 (ZY (ZB (z7 (zM (ZO (Zv (Zp b1 0) (Zl 0 ⟨b1, #[.slice A xs.length cap], 25⟩ (off := 0) (.slice A xs.length cap) ?_)))))))
      refine Zv (.int .i64 (i : Int)) (zV (Zp b (off + i * 1)) (by kernel_rfl) (ZA (b := b) (off := off) (c := cap) (n := xs.length) (k := .i64) (j := (i : Int)) (e := 47) (sz := 1) hA) (Zo (.slice x.A x.l.length x.cap) (a := ⟨b, off + i * 1, none⟩) (fun w hO => zX gO (fun j u h => (hO.below.cell (p := ⟨b, off + j, none⟩) hlt).trans (hcell j u h)) i 0 hi (by omega) _ (by rw [hx]; kernel_rfl)) (Zv (.int .i64 (k : Int)) (zV (Zp b2 (off2 + k * 7)) (by kernel_rfl) (ZA (b := b2) (off := off2) (c := x.cap) (n := x.l.length) (k := .i64) (j := (k : Int)) (e := 51) (sz := 7) hA2) (Zo (coV c) (a := ⟨b2, off2 + k * 7, none⟩) (fun w hO => zX j4 (fun j u h => (hO.below.cell (p := ⟨b2, off2 + j, none⟩) hlt2).trans (hcell2 j u h)) k 0 hk (by omega) _ (by rw [hc]; kernel_rfl)) (Zc (k := 79) (args := #[coV c]) (.bool c.may) (fun w _ => mF c w hcS) ?_))))))
      cases h7 : c.may with
      | true =>
        refine Zv Z5 (ZX (yP (zP (zB (zA (Zv (.int .i64 (k : Int)) (Zu (k := .i64) (((k + 1 : Nat) : Int)) (IntWalk.i64_in _ (by omega)) (Zv (.int .i64 ((k + 1 : Nat) : Int)) (zO ?_)))))))))
        exact zS (m' := x.l.length - (k + 1)) (by omega) ⟨k + 1, _, ⟨by omega, bM hrel.2 hk hc (by assumption)⟩, rfl, ZU, rfl⟩
      | false =>
        refine Zv Z4 (ZY (ZO (Zv Z5 (ZN (zC (zG (z6 ?_)))))))
        exact y5 (zG (zG (z6 (y5 (zG (z6 (ZF Z5 Tryz.results44 (fun w hO => ⟨by rw [few_one hxm (fewA_one hcm (by assumption))], hO.below⟩))))))))
    refine Zh h6 (ZX (y7 (zF (zN (zJ (zP (zB (zA (Zv (.int .i64 (i : Int)) ?_)))))))))
    exact Zu (k := .i64) (((i + 1 : Nat) : Int)) (IntWalk.i64_in _ (by omega)) (Zv (.int .i64 ((i + 1 : Nat) : Int)) (zO (zS (m' := xs.length - (i + 1)) (by omega) ⟨i + 1, _, ⟨by omega, bM hrel0.2 hi hx (fewA_all (by omega) (pO hrel.2 (by omega)))⟩, rfl, ZU, rfl⟩)))
  refine Zh h3 (ZX (y7 (zF (zN (zJ (zB (ZO (Zv Z4 ?_))))))))
  exact ZN (zC (ZF Z4 Tryz.results44 (fun w hO => ⟨by rw [few_all (by omega) (pO hrel.2 (by omega))], hO.below⟩)))
theorem rstext_any (A : Option Addr) (cap : Nat) (xs : List Al) (W : World) (hv : RgIn W W.heap.size A xs) (hf : fewR (yK xs) = true) : Calls Tryz.prog 45 #[.agg #[.slice A xs.length cap]] W fun e w' => e = .returned (.string (mkS (kH (yK xs)))) ∧ Below W.heap.size W w' := by
  have hn := (few_mem hf).1.2
  refine Z2 (n := 43) Tryz.func45 rfl (ZO (Zb (.agg #[.slice A xs.length cap]) (fun b1 => Zv (.string ⟨#[]⟩) (ZR (Zv (.string ⟨#[]⟩) (zO (zB ?_)))))))
  refine z7 (ZO (Zv (.int .i64 0) (ZN (zM (yN (fun L f m => ∃ (i : Nat) (s : List UInt8) (j : Nat → Value), (i ≤ xs.length ∧ s = kH ((yK xs).take i) ∧ s.length ≤ i * 3000) ∧ L = [⟨b1, #[.slice A xs.length cap], 25⟩] ∧ f = xZ j [(1, Zp b1 0), (3, .string (mkS s)), (4, .int .i64 (i : Int))] ∧ m = xs.length - i) (xs.length - 0) ⟨0, [], _, ⟨Nat.zero_le _, rfl, Nat.zero_le _⟩, rfl, ZU, rfl⟩ ?_)))))
  rintro L f m ⟨i, s, j, hrel, rfl, rfl, rfl⟩
  have hrel0 := hrel; have hil := hrel.1; have hsl := hrel.2.2; have hsq := xH s
  refine z7 (ZO (Zv (.int .i64 (i : Int)) (Zv (Zp b1 0) (Zl 0 ⟨b1, #[.slice A xs.length cap], 25⟩ (off := 0) (.slice A xs.length cap) (Zv (.int .i64 (xs.length : Int)) ?_)))))
  by_cases h1 : (i : Int) < (xs.length : Int)
  · have hi : i < xs.length := by omega
    obtain ⟨b, off, hA, hlt, hcell⟩ := hv.top (by omega)
    obtain ⟨x, hx⟩ : ∃ x, xs[i] = x := ⟨_, rfl⟩
    have hxm : x ∈ xs := hx ▸ List.getElem_mem hi
    have hxn := hv.m x hxm
    refine Zg h1 (ZY (ZB (z7 (zM (z7 (ZO (Zv (.int .i64 (i : Int)) ?_)))))))
    by_cases h2 : (0 : Int) < (i : Int)
    · refine Zg h2 (ZY (zA (Zv (.string (mkS s)) (zV (.string (mkS (s ++ [32, 124, 124, 32]))) (by kernel_rfl) (yY (a := s) (b := [32, 124, 124, 32]) rfl (by kernel_rfl) (by kernel_rfl) (by (try simp only [List.length_append, List.length_cons, List.length_nil]); omega)) (Zv (.string (mkS (s ++ [32, 124, 124, 32]))) (ZN (z7 (zA ?_))))))))
      refine Zv (.int .i64 0) (ZN (zM ?_))
      obtain ⟨p, hp⟩ : ∃ p, p = (s ++ [32, 124, 124, 32]) := ⟨_, rfl⟩
      have htp : (if i = 0 then [] else kH ((yK xs).take i) ++ [32, 124, 124, 32]) = p := by rw [if_neg (by omega), ← hrel.2.1, hp]
      have hpl : p.length ≤ i * 3000 + 4 := by rw [hp]; (try simp only [List.length_append, List.length_cons, List.length_nil]); omega
      rw [← hp]
      have hxf := (few_mem hf).2 x hxm
      refine yN (fun L f m => ∃ (k : Nat) (t : List UInt8) (j : Nat → Value), (k ≤ x.l.length ∧ t = p ++ xG (x.l.take k) ∧ t.length ≤ p.length + k * 400) ∧ L = [⟨b1, #[.slice A xs.length cap], 25⟩] ∧ f = xZ j [(1, Zp b1 0), (3, .string (mkS t)), (4, .int .i64 (i : Int)), (5, .int .i64 (k : Int))] ∧ m = x.l.length - k) (x.l.length - 0) ⟨0, p, _, ⟨Nat.zero_le _, by simp [xG, vD], by omega⟩, rfl, ZU, rfl⟩ ?_
      rintro L f m ⟨k, t, j, hrel, rfl, rfl, rfl⟩
      have hkl := hrel.1; have htl := hrel.2.2; have htq := xH t; have hx6 := hxf.1.2
      refine z7 (ZO (Zv (.int .i64 (k : Int)) (Zv (Zp b1 0) (Zl 0 ⟨b1, #[.slice A xs.length cap], 25⟩ (off := 0) (.slice A xs.length cap) (Zv (.int .i64 (i : Int)) (zV (Zp b (off + i * 1)) (by kernel_rfl) (ZA (b := b) (off := off) (c := cap) (n := xs.length) (k := .i64) (j := (i : Int)) (e := 47) (sz := 1) hA) (Zo (.slice x.A x.l.length x.cap) (a := ⟨b, off + i * 1, none⟩) (fun w hO => zX gO (fun j u h => (hO.below.cell (p := ⟨b, off + j, none⟩) hlt).trans (hcell j u h)) i 0 hi (by omega) _ (by rw [hx]; kernel_rfl)) (Zv (.int .i64 (x.l.length : Int)) ?_))))))))
      by_cases h3 : (k : Int) < (x.l.length : Int)
      · have hk : k < x.l.length := by omega
        obtain ⟨b2, off2, hA2, hlt2, hcell2⟩ := hv.each x hxm (by omega)
        obtain ⟨c, hc⟩ : ∃ c, x.l[k] = c := ⟨_, rfl⟩
        have hcm : c ∈ x.l := hc ▸ List.getElem_mem hk
        have hcS : c.short := hv.short x hxm c hcm
        have hcy := hxf.2 c hcm
        have hcl := hD hcy
        refine Zg h3 (ZY (ZB (z7 (zM (z7 (ZO (Zv (.int .i64 (k : Int)) ?_)))))))
        by_cases h4 : (0 : Int) < (k : Int)
        · refine Zg h4 (ZY (zA (Zv (.string (mkS t)) (zV (.string (mkS (t ++ [44, 32]))) (by kernel_rfl) (yY (a := t) (b := [44, 32]) rfl (by kernel_rfl) (by kernel_rfl) (by (try simp only [List.length_append, List.length_cons, List.length_nil]); omega)) (Zv (.string (mkS (t ++ [44, 32]))) (ZN (zA (Zv (.string (mkS (t ++ [44, 32]))) ?_))))))))
          refine Zv (Zp b1 0) (Zl 0 ⟨b1, #[.slice A xs.length cap], 25⟩ (off := 0) (.slice A xs.length cap) (Zv (.int .i64 (i : Int)) (zV (Zp b (off + i * 1)) (by kernel_rfl) (ZA (b := b) (off := off) (c := cap) (n := xs.length) (k := .i64) (j := (i : Int)) (e := 47) (sz := 1) hA) (Zo (.slice x.A x.l.length x.cap) (a := ⟨b, off + i * 1, none⟩) (fun w hO => zX gO (fun j u h => (hO.below.cell (p := ⟨b, off + j, none⟩) hlt).trans (hcell j u h)) i 0 hi (by omega) _ (by rw [hx]; kernel_rfl)) (Zv (.int .i64 (k : Int)) (zV (Zp b2 (off2 + k * 7)) (by kernel_rfl) (ZA (b := b2) (off := off2) (c := x.cap) (n := x.l.length) (k := .i64) (j := (k : Int)) (e := 51) (sz := 7) hA2) (Zo (coV c) (a := ⟨b2, off2 + k * 7, none⟩) (fun w hO => zX j4 (fun j u h => (hO.below.cell (p := ⟨b2, off2 + j, none⟩) hlt2).trans (hcell2 j u h)) k 0 hk (by omega) _ (by rw [hc]; kernel_rfl)) (Zc (k := 78) (args := #[coV c]) (.string (mkS c.print)) (fun w _ => wZ c w hcS) (zV (.string (mkS ((t ++ [44, 32]) ++ c.print))) (by kernel_rfl) (yY (a := (t ++ [44, 32])) (b := c.print) rfl (by kernel_rfl) (by kernel_rfl) (by (try simp only [List.length_append, List.length_cons, List.length_nil]); omega)) (Zv (.string (mkS ((t ++ [44, 32]) ++ c.print))) (zO ?_)))))))))))
          exact zP (zB (zA (Zv (.int .i64 (k : Int)) (Zu (k := .i64) (((k + 1 : Nat) : Int)) (IntWalk.i64_in _ (by omega)) (Zv (.int .i64 ((k + 1 : Nat) : Int)) (zO (zS (m' := x.l.length - (k + 1)) (by omega) ⟨k + 1, ((t ++ [44, 32]) ++ c.print), _, ⟨by omega, by rw [hrel.2.1, uX hk hc, if_neg (by omega)]; simp only [List.append_assoc], by have := hD hcy; (try simp only [List.length_append, List.length_cons, List.length_nil]); omega⟩, rfl, ZU, rfl⟩)))))))
        refine Zh h4 (ZX (ZB (zA (Zv (.string (mkS t)) (Zv (Zp b1 0) (Zl 0 ⟨b1, #[.slice A xs.length cap], 25⟩ (off := 0) (.slice A xs.length cap) (Zv (.int .i64 (i : Int)) (zV (Zp b (off + i * 1)) (by kernel_rfl) (ZA (b := b) (off := off) (c := cap) (n := xs.length) (k := .i64) (j := (i : Int)) (e := 47) (sz := 1) hA) ?_))))))))
        refine Zo (.slice x.A x.l.length x.cap) (a := ⟨b, off + i * 1, none⟩) (fun w hO => zX gO (fun j u h => (hO.below.cell (p := ⟨b, off + j, none⟩) hlt).trans (hcell j u h)) i 0 hi (by omega) _ (by rw [hx]; kernel_rfl)) (Zv (.int .i64 (k : Int)) (zV (Zp b2 (off2 + k * 7)) (by kernel_rfl) (ZA (b := b2) (off := off2) (c := x.cap) (n := x.l.length) (k := .i64) (j := (k : Int)) (e := 51) (sz := 7) hA2) (Zo (coV c) (a := ⟨b2, off2 + k * 7, none⟩) (fun w hO => zX j4 (fun j u h => (hO.below.cell (p := ⟨b2, off2 + j, none⟩) hlt2).trans (hcell2 j u h)) k 0 hk (by omega) _ (by rw [hc]; kernel_rfl)) (Zc (k := 78) (args := #[coV c]) (.string (mkS c.print)) (fun w _ => wZ c w hcS) (zV (.string (mkS (t ++ c.print))) (by kernel_rfl) (yY (a := t) (b := c.print) rfl (by kernel_rfl) (by kernel_rfl) (by (try simp only [List.length_append, List.length_cons, List.length_nil]); omega)) (Zv (.string (mkS (t ++ c.print))) (zO (zP (zB (zA (Zv (.int .i64 (k : Int)) ?_)))))))))))
        exact Zu (k := .i64) (((k + 1 : Nat) : Int)) (IntWalk.i64_in _ (by omega)) (Zv (.int .i64 ((k + 1 : Nat) : Int)) (zO (zS (m' := x.l.length - (k + 1)) (by omega) ⟨k + 1, (t ++ c.print), _, ⟨by omega, by rw [hrel.2.1, uX hk hc, if_pos (by omega), show k = 0 by omega]; simp [xG, vD], by have := hD hcy; (try simp only [List.length_append, List.length_cons, List.length_nil]); omega⟩, rfl, ZU, rfl⟩)))
      refine Zh h3 (ZX (y7 (zF (zN (zJ (zP (zB (zA (Zv (.int .i64 (i : Int)) ?_)))))))))
      exact Zu (k := .i64) (((i + 1 : Nat) : Int)) (IntWalk.i64_in _ (by omega)) (Zv (.int .i64 ((i + 1 : Nat) : Int)) (zO (zS (m' := xs.length - (i + 1)) (by omega) ⟨i + 1, t, _, ⟨by omega, by rw [hrel.2.1, List.take_of_length_le (by omega : x.l.length ≤ k), rgText_step (by rw [k8]; exact hi) (bW hi hx), htp], by have := hrel.2.2; have := hxf.1.2; omega⟩, rfl, ZU, rfl⟩)))
    refine Zh h2 (ZX (ZB (ZO (Zv (.int .i64 0) (ZN (zM ?_))))))
    obtain ⟨p, hp⟩ : ∃ p, p = s := ⟨_, rfl⟩
    have htp : (if i = 0 then [] else kH ((yK xs).take i) ++ [32, 124, 124, 32]) = p := by rw [if_pos (by omega), hp, hrel.2.1, show i = 0 by omega]; rfl
    have hpl : p.length ≤ i * 3000 + 4 := by rw [hp]; (try simp only [List.length_append, List.length_cons, List.length_nil]); omega
    rw [← hp]
    have hxf := (few_mem hf).2 x hxm
    refine yN (fun L f m => ∃ (k : Nat) (t : List UInt8) (j : Nat → Value), (k ≤ x.l.length ∧ t = p ++ xG (x.l.take k) ∧ t.length ≤ p.length + k * 400) ∧ L = [⟨b1, #[.slice A xs.length cap], 25⟩] ∧ f = xZ j [(1, Zp b1 0), (3, .string (mkS t)), (4, .int .i64 (i : Int)), (5, .int .i64 (k : Int))] ∧ m = x.l.length - k) (x.l.length - 0) ⟨0, p, _, ⟨Nat.zero_le _, by simp [xG, vD], by omega⟩, rfl, ZU, rfl⟩ ?_
    rintro L f m ⟨k, t, j, hrel, rfl, rfl, rfl⟩
    have hkl := hrel.1; have htl := hrel.2.2; have htq := xH t; have hx6 := hxf.1.2
    refine z7 (ZO (Zv (.int .i64 (k : Int)) (Zv (Zp b1 0) (Zl 0 ⟨b1, #[.slice A xs.length cap], 25⟩ (off := 0) (.slice A xs.length cap) (Zv (.int .i64 (i : Int)) (zV (Zp b (off + i * 1)) (by kernel_rfl) (ZA (b := b) (off := off) (c := cap) (n := xs.length) (k := .i64) (j := (i : Int)) (e := 47) (sz := 1) hA) (Zo (.slice x.A x.l.length x.cap) (a := ⟨b, off + i * 1, none⟩) (fun w hO => zX gO (fun j u h => (hO.below.cell (p := ⟨b, off + j, none⟩) hlt).trans (hcell j u h)) i 0 hi (by omega) _ (by rw [hx]; kernel_rfl)) (Zv (.int .i64 (x.l.length : Int)) ?_))))))))
    by_cases h5 : (k : Int) < (x.l.length : Int)
    · have hk : k < x.l.length := by omega
      obtain ⟨b2, off2, hA2, hlt2, hcell2⟩ := hv.each x hxm (by omega)
      obtain ⟨c, hc⟩ : ∃ c, x.l[k] = c := ⟨_, rfl⟩
      have hcm : c ∈ x.l := hc ▸ List.getElem_mem hk
      have hcS : c.short := hv.short x hxm c hcm
      have hcy := hxf.2 c hcm
      have hcl := hD hcy
      refine Zg h5 (ZY (ZB (z7 (zM (z7 (ZO (Zv (.int .i64 (k : Int)) ?_)))))))
      by_cases h6 : (0 : Int) < (k : Int)
      · refine Zg h6 (ZY (zA (Zv (.string (mkS t)) (zV (.string (mkS (t ++ [44, 32]))) (by kernel_rfl) (yY (a := t) (b := [44, 32]) rfl (by kernel_rfl) (by kernel_rfl) (by (try simp only [List.length_append, List.length_cons, List.length_nil]); omega)) (Zv (.string (mkS (t ++ [44, 32]))) (ZN (zA (Zv (.string (mkS (t ++ [44, 32]))) ?_))))))))
        refine Zv (Zp b1 0) (Zl 0 ⟨b1, #[.slice A xs.length cap], 25⟩ (off := 0) (.slice A xs.length cap) (Zv (.int .i64 (i : Int)) (zV (Zp b (off + i * 1)) (by kernel_rfl) (ZA (b := b) (off := off) (c := cap) (n := xs.length) (k := .i64) (j := (i : Int)) (e := 47) (sz := 1) hA) (Zo (.slice x.A x.l.length x.cap) (a := ⟨b, off + i * 1, none⟩) (fun w hO => zX gO (fun j u h => (hO.below.cell (p := ⟨b, off + j, none⟩) hlt).trans (hcell j u h)) i 0 hi (by omega) _ (by rw [hx]; kernel_rfl)) (Zv (.int .i64 (k : Int)) (zV (Zp b2 (off2 + k * 7)) (by kernel_rfl) (ZA (b := b2) (off := off2) (c := x.cap) (n := x.l.length) (k := .i64) (j := (k : Int)) (e := 51) (sz := 7) hA2) (Zo (coV c) (a := ⟨b2, off2 + k * 7, none⟩) (fun w hO => zX j4 (fun j u h => (hO.below.cell (p := ⟨b2, off2 + j, none⟩) hlt2).trans (hcell2 j u h)) k 0 hk (by omega) _ (by rw [hc]; kernel_rfl)) (Zc (k := 78) (args := #[coV c]) (.string (mkS c.print)) (fun w _ => wZ c w hcS) (zV (.string (mkS ((t ++ [44, 32]) ++ c.print))) (by kernel_rfl) (yY (a := (t ++ [44, 32])) (b := c.print) rfl (by kernel_rfl) (by kernel_rfl) (by (try simp only [List.length_append, List.length_cons, List.length_nil]); omega)) (Zv (.string (mkS ((t ++ [44, 32]) ++ c.print))) (zO ?_)))))))))))
        exact zP (zB (zA (Zv (.int .i64 (k : Int)) (Zu (k := .i64) (((k + 1 : Nat) : Int)) (IntWalk.i64_in _ (by omega)) (Zv (.int .i64 ((k + 1 : Nat) : Int)) (zO (zS (m' := x.l.length - (k + 1)) (by omega) ⟨k + 1, ((t ++ [44, 32]) ++ c.print), _, ⟨by omega, by rw [hrel.2.1, uX hk hc, if_neg (by omega)]; simp only [List.append_assoc], by have := hD hcy; (try simp only [List.length_append, List.length_cons, List.length_nil]); omega⟩, rfl, ZU, rfl⟩)))))))
      refine Zh h6 (ZX (ZB (zA (Zv (.string (mkS t)) (Zv (Zp b1 0) (Zl 0 ⟨b1, #[.slice A xs.length cap], 25⟩ (off := 0) (.slice A xs.length cap) (Zv (.int .i64 (i : Int)) (zV (Zp b (off + i * 1)) (by kernel_rfl) (ZA (b := b) (off := off) (c := cap) (n := xs.length) (k := .i64) (j := (i : Int)) (e := 47) (sz := 1) hA) ?_))))))))
      refine Zo (.slice x.A x.l.length x.cap) (a := ⟨b, off + i * 1, none⟩) (fun w hO => zX gO (fun j u h => (hO.below.cell (p := ⟨b, off + j, none⟩) hlt).trans (hcell j u h)) i 0 hi (by omega) _ (by rw [hx]; kernel_rfl)) (Zv (.int .i64 (k : Int)) (zV (Zp b2 (off2 + k * 7)) (by kernel_rfl) (ZA (b := b2) (off := off2) (c := x.cap) (n := x.l.length) (k := .i64) (j := (k : Int)) (e := 51) (sz := 7) hA2) (Zo (coV c) (a := ⟨b2, off2 + k * 7, none⟩) (fun w hO => zX j4 (fun j u h => (hO.below.cell (p := ⟨b2, off2 + j, none⟩) hlt2).trans (hcell2 j u h)) k 0 hk (by omega) _ (by rw [hc]; kernel_rfl)) (Zc (k := 78) (args := #[coV c]) (.string (mkS c.print)) (fun w _ => wZ c w hcS) (zV (.string (mkS (t ++ c.print))) (by kernel_rfl) (yY (a := t) (b := c.print) rfl (by kernel_rfl) (by kernel_rfl) (by (try simp only [List.length_append, List.length_cons, List.length_nil]); omega)) (Zv (.string (mkS (t ++ c.print))) (zO (zP (zB (zA (Zv (.int .i64 (k : Int)) ?_)))))))))))
      exact Zu (k := .i64) (((k + 1 : Nat) : Int)) (IntWalk.i64_in _ (by omega)) (Zv (.int .i64 ((k + 1 : Nat) : Int)) (zO (zS (m' := x.l.length - (k + 1)) (by omega) ⟨k + 1, (t ++ c.print), _, ⟨by omega, by rw [hrel.2.1, uX hk hc, if_pos (by omega), show k = 0 by omega]; simp [xG, vD], by have := hD hcy; (try simp only [List.length_append, List.length_cons, List.length_nil]); omega⟩, rfl, ZU, rfl⟩)))
    refine Zh h5 (ZX (y7 (zF (zN (zJ (zP (zB (zA (Zv (.int .i64 (i : Int)) ?_)))))))))
    exact Zu (k := .i64) (((i + 1 : Nat) : Int)) (IntWalk.i64_in _ (by omega)) (Zv (.int .i64 ((i + 1 : Nat) : Int)) (zO (zS (m' := xs.length - (i + 1)) (by omega) ⟨i + 1, t, _, ⟨by omega, by rw [hrel.2.1, List.take_of_length_le (by omega : x.l.length ≤ k), rgText_step (by rw [k8]; exact hi) (bW hi hx), htp], by have := hrel.2.2; have := hxf.1.2; omega⟩, rfl, ZU, rfl⟩)))
  refine Zh h1 (ZX (y7 (zF (zN (zJ (zB (ZO (Zv (.string (mkS s)) ?_))))))))
  exact Zv (.string (mkS s)) (ZN (zC (ZF (.string (mkS s)) Tryz.results45 (fun w hO => ⟨by rw [hrel.2.1, List.take_of_length_le (by rw [k8]; omega)], hO.below⟩))))
theorem rsMay_any (A : Option Addr) (cap : Nat) (xs : List Al) (W : World) (hv : RgIn W W.heap.size A xs) : Calls Tryz.prog 20 #[.agg #[.slice A xs.length cap]] W fun e w' => e = .returned (.bool (rgMay (yK xs))) ∧ Below W.heap.size W w' := by
  refine Z2 (n := 11) Tryz.func20 rfl (ZO (Zb (.agg #[.slice A xs.length cap]) (fun b1 => Zv Z5 (ZR (Zl 0 ⟨b1, #[.slice A xs.length cap], 25⟩ (off := 0) (.agg #[.slice A xs.length cap]) (Zc (k := 44) (args := #[.agg #[.slice A xs.length cap]]) (.bool (fewR (yK xs))) (fun w hO => rsfew_any A cap xs w (hv.on hO.below hO.below.size)) (Zv (.bool (fewR (yK xs))) ?_)))))))
  cases h1 : fewR (yK xs) with
  | true =>
    refine Zl 0 ⟨b1, #[.slice A xs.length cap], 25⟩ (off := 0) (.agg #[.slice A xs.length cap]) (Zc (k := 45) (args := #[.agg #[.slice A xs.length cap]]) (.string (mkS (kH (yK xs)))) (fun w hO => rstext_any A cap xs w (hv.on hO.below hO.below.size) h1) (Zv (.int .i64 ((mkS (kH (yK xs))).size)) ?_))
    by_cases h2 : ((mkS (kH (yK xs))).size : Int) ≤ 96
    · exact Zg h2 (Zv Z4 (Zv Z4 (ZN (zC (ZF Z4 Tryz.results20 (fun w hO => ⟨by unfold rgMay; rw [h1, decide_eq_true (by have := xH (kH (yK xs)); omega)]; rfl, hO.below⟩))))))
    exact Zh h2 (Zv Z5 (Zv Z5 (ZN (zC (ZF Z5 Tryz.results20 (fun w hO => ⟨by unfold rgMay; rw [h1, decide_eq_false (by have := xH (kH (yK xs)); omega)]; rfl, hO.below⟩))))))
  | false =>
    exact Zk (Zk (Zk (Zk (Zv Z5 (Zv Z5 (ZN (zC (ZF Z5 Tryz.results20 (fun w hO => ⟨by unfold rgMay; rw [h1]; rfl, hO.below⟩)))))))))
theorem rsPrint_any (A : Option Addr) (cap : Nat) (xs : List Al) (W : World) (hv : RgIn W W.heap.size A xs) : Calls Tryz.prog 22 #[.agg #[.slice A xs.length cap]] W fun e w' => e = .returned (.string (mkS (gN (yK xs)))) ∧ Below W.heap.size W w' := by
  refine Z2 (n := 8) Tryz.func22 rfl (ZO (Zb (.agg #[.slice A xs.length cap]) (fun b1 => Zv (.string ⟨#[]⟩) (ZN (z7 (ZO (Zl 0 ⟨b1, #[.slice A xs.length cap], 25⟩ (off := 0) (.agg #[.slice A xs.length cap]) (Zc (k := 20) (args := #[.agg #[.slice A xs.length cap]]) (.bool (rgMay (yK xs))) (fun w hO => rsMay_any A cap xs w (hv.on hO.below hO.below.size)) ?_))))))))
  cases h1 : rgMay (yK xs) with
  | true =>
    refine Zv Z5 (ZX (ZB (ZO (Zl 0 ⟨b1, #[.slice A xs.length cap], 25⟩ (off := 0) (.agg #[.slice A xs.length cap]) (Zc (k := 45) (args := #[.agg #[.slice A xs.length cap]]) (.string (mkS (kH (yK xs)))) (fun w hO => rstext_any A cap xs w (hv.on hO.below hO.below.size) (rgMay.facts h1).1) (Zv (.string (mkS (kH (yK xs)))) (zO ?_)))))))
    exact zB (zC (ZF (.string (mkS (kH (yK xs)))) Tryz.results22 (fun w hO => ⟨by unfold gN; rw [h1]; rfl, hO.below⟩)))
  | false =>
    refine Zv Z4 (ZY (ZO (Zv (.string ⟨#[]⟩) (ZN (zC (z6 (ZF (.string ⟨#[]⟩) Tryz.results22 ?_)))))))
    exact fun w hO => ⟨by unfold gN; rw [h1]; rfl, hO.below⟩
end
section
end
section
structure AlI (s : List UInt8) (i f : Nat) (u : Value) (P : List (List UInt8)) (ob : List Blk) : Prop where
  fi : f ≤ i + 1
  il : i ≤ s.length
  fl : f ≤ s.length
  sl : SlT u P ob
  eq : P ++ gG ((s.drop f).take (i - f)) (s.drop (max i f)) = gG [] s
  pl : P.length ≤ i
end
section
theorem coInfo : (Tryz.prog.info? 51).map (fun i => (i.zero.map (·.cells.size), i.size, i.bytes)) = some (some 7, 7, 72) := by kernel_rfl
theorem co_info : ∃ i z, Tryz.prog.info? 51 = some i ∧ i.zero = some z ∧ i.size = 7 ∧ z.cells.size = 7 ∧ i.bytes = 72 := by
  have h := coInfo
  cases hi : Tryz.prog.info? 51 with
  | none => rw [hi] at h; cases h
  | some i =>
    rw [hi] at h
    simp only [Option.map_some, Option.some.injEq, Prod.mk.injEq] at h
    cases hz : i.zero with
    | none => rw [hz] at h; simp at h
    | some z => rw [hz] at h; simp at h; exact ⟨i, z, rfl, hz, h.2.1, h.1, h.2.2⟩
theorem alInfo : (Tryz.prog.info? 47).map (fun i => (i.zero.map (·.cells.size), i.size, i.bytes)) = some (some 1, 1, 24) := by kernel_rfl
theorem al_info : ∃ i z, Tryz.prog.info? 47 = some i ∧ i.zero = some z ∧ i.size = 1 ∧ z.cells.size = 1 ∧ i.bytes = 24 := by
  have h := alInfo
  cases hi : Tryz.prog.info? 47 with
  | none => rw [hi] at h; cases h
  | some i =>
    rw [hi] at h
    simp only [Option.map_some, Option.some.injEq, Prod.mk.injEq] at h
    cases hz : i.zero with
    | none => rw [hz] at h; simp at h
    | some z => rw [hz] at h; simp at h; exact ⟨i, z, rfl, hz, h.2.1, h.1, h.2.2⟩
def SlCo (v : Value) (l : List Co) (ob : List Blk) : Prop := Sl 51 7 v l.length (l.flatMap coC) ob
theorem Sl.form {T sz n : Nat} {v : Value} {xs : List Value} {ob : List Blk} (h : Sl T sz v n xs ob) : ∃ A cap, v = .slice A n cap := by
  rcases h.2 with ⟨h1, h2, _⟩ | ⟨g, cap, cur, h1, _⟩
  · exact ⟨none, 0, by rw [h1, h2]⟩
  · exact ⟨_, _, h1⟩
structure RgA (u : Value) (xs : List Al) (o1 o2 : List Blk) : Prop where
  top : Sl 47 1 u xs.length (xs.flatMap alC) o1
  each : ∀ x ∈ xs, ∃ o, (∀ b ∈ o, b ∈ o2) ∧ SlCo (.slice x.A x.l.length x.cap) x.l o
def RgO (v : Value) (r : List (List Co)) (ob : List Blk) : Prop := ∃ xs u o1 o2, v = .agg #[u] ∧ ob = o1 ++ o2 ∧ yK xs = r ∧ RgA u xs o1 o2
theorem RgA.nil : RgA (.slice none 0 0) [] [] [] := ⟨Sl.nil _ _, fun x hx => by simp at hx⟩
theorem RgO.nil : RgO (.agg #[.slice none 0 0]) [] [] := ⟨[], _, [], [], rfl, rfl, rfl, RgA.nil⟩
theorem RgA.add {u u2 : Value} {xs : List Al} {o1 o2 o3 oa : List Blk} {A : Option Addr} {cap : Nat} {a : List Co} (h : RgA u xs o1 o2) (h2 : Sl 47 1 u2 (xs.length + 1) (xs.flatMap alC ++ alC ⟨A, a, cap⟩) o3) (ha : SlCo (.slice A a.length cap) a oa) : RgA u2 (xs ++ [⟨A, a, cap⟩]) o3 (oa ++ o2) :=
  ⟨h2.to (by simp) (by simp), fun x hx => by
    rcases List.mem_append.1 hx with hx | hx
    · obtain ⟨o, k1, k2⟩ := h.each x hx
      exact ⟨o, fun b hb => List.mem_append_right _ (k1 b hb), k2⟩
    · obtain rfl := List.mem_singleton.1 hx
      exact ⟨oa, fun b hb => List.mem_append_left _ hb, ha⟩⟩
structure FineR (r : List (List Co)) : Prop where
  n : r.length ≤ 1000
  m : ∀ a ∈ r, a.length ≤ 1000 ∧ ShortA a
theorem RgA.inn {A : Option Addr} {n cap : Nat} {xs : List Al} {o1 o2 L : List Blk} {M : List Nat} {W w : World} (h : RgA (.slice A n cap) xs o1 o2) (hn : xs.length = n) (hO : Own M W w L) (h1 : ∀ x ∈ o1, x ∈ L) (h2 : ∀ x ∈ o2, x ∈ L) (hf : FineR (yK xs)) : RgIn w w.heap.size A xs := by
  subst hn
  refine ⟨Sl.reads h.top rfl hO h1, fun x hx => ?_, by have := hf.n; rwa [k8] at this, fun x hx => (hf.m x.l (List.mem_map.2 ⟨x, hx, rfl⟩)).1, fun x hx => (hf.m x.l (List.mem_map.2 ⟨x, hx, rfl⟩)).2⟩
  obtain ⟨o, k1, k2⟩ := h.each x hx
  exact Sl.reads k2 rfl hO fun b hb => h2 b (k1 b hb)
theorem SlT.blk {v : Value} {l : List (List UInt8)} {ob : List Blk} (h : SlT v l ob) (hn : l ≠ []) : ∃ g cur cap, v = .slice (some ⟨g, 0, none⟩) l.length cap ∧ ob = [⟨g, cur, 9⟩] ∧ cur.toList.take (l.length * 1) = l.flatMap pP := by
  obtain ⟨A, cap, rfl⟩ := h.form
  have h0 : 0 < l.length := by cases l with
    | nil => exact absurd rfl hn
    | cons _ _ => simp
  obtain ⟨g, cur, rfl, e, _, _, _, e2⟩ := Sl.block h h0
  exact ⟨g, cur, cap, rfl, e, by rw [e2, w0]⟩
theorem pc_ok {s : List UInt8} (h : pcE s = 0) : qB s = some (pcV s) := by
  cases hp : qB s with
  | none => rw [(pc_none hp).2] at h; exact absurd h (by decide)
  | some c => rw [(pc_some hp).1]
theorem pc_err {s : List UInt8} (h : ¬ pcE s = 0) : qB s = none := by
  cases hp : qB s with
  | none => rfl
  | some c => exact absurd (pc_some hp).2 h
theorem parseP_may {s : List UInt8} {c : Co} (h : parseP s = some c) : c.may = true := ((dU _ c).1 h).1
theorem co_short {c : Co} (h : c.may = true) : c.short := by
  obtain ⟨_, hv, hb, _⟩ := Co.facts h
  exact may_short hv hb
theorem parseA_fine {s : List UInt8} {a : List Co} (h : parseA s = some a) (hs : s.length ≤ 100) : a.length ≤ 1000 ∧ ∀ c ∈ a, c.may = true := by
  refine ⟨?_, fun c hc => ?_⟩
  · rw [dH h, tX]
    have := List.length_filter_le (fun x : UInt8 => x == 44) s
    omega
  · obtain ⟨x, _, e⟩ := allO_back h c hc
    exact parseP_may e
theorem fine_part {s : List UInt8} (hs : s.length ≤ 96) {l : List (List UInt8)} (hl : ∀ x ∈ l, x ∈ gG [] s) (hn : l.length ≤ 97) {r : List (List Co)} (h : uY parseA l = some r) : FineR r := by
  refine ⟨by rw [dH h]; omega, fun a ha => ?_⟩
  obtain ⟨x, hx, e⟩ := allO_back h a ha
  have := tS s [] x (hl x hx)
  have := parseA_fine e (by simp at this; omega)
  exact ⟨this.1, fun c hc => co_short (this.2 c hc)⟩
theorem fine_few {r : List (List Co)} (h : fewR r = true) : FineR r := by
  obtain ⟨h1, h2⟩ := fewR.facts h
  refine ⟨by omega, fun a ha => ?_⟩
  obtain ⟨k1, k2⟩ := fewA.facts (h2 a ha)
  exact ⟨by omega, fun c hc => co_short (k2 c hc)⟩
theorem allO_next {α β : Type} {f : α → Option β} {l : List α} {i : Nat} (hi : i < l.length) {y : α} (hy : l[i] = y) {m : List β} {z : β} (h : uY f (l.take i) = some m) (hz : f y = some z) : uY f (l.take (i + 1)) = some (m ++ [z]) := by
  rw [List.take_succ_eq_append_getElem hi, hy]
  exact allO_snoc h hz
theorem all_fails {s : List UInt8} {l m : List (List UInt8)} (hl : l = gG [] s) {i k : Nat} (hi : i < l.length) {y z : List UInt8} (hy : l[i] = y) (hm : m = yX 44 [] y) (hk : k < m.length) (hz : m[k] = z) (h : ¬ pcE (kE z) = 0) : qT s = none := by
  have h1 : parseA y = none := allO_none (x := z) (by rw [← hm, ← hz]; exact List.getElem_mem hk) (pc_err h)
  exact allO_none (x := y) (by rw [← hl, ← hy]; exact List.getElem_mem hi) h1
theorem errG_none {s : List UInt8} (hs : s.length ≤ 96) (h : qT s = none) : jM s = 6 ∧ kC s = none := by
  unfold jM kC
  rw [if_neg (by omega), if_neg (by omega), h]; exact ⟨rfl, rfl⟩
theorem errG_few {s : List UInt8} (hs : s.length ≤ 96) {r : List (List Co)} (h : qT s = some r) (hf : fewR r = false) : jM s = 6 ∧ kC s = none := by
  unfold jM kC
  rw [if_neg (by omega), if_neg (by omega), h]
  simp [hf, rgMay, Option.filter]
theorem errG_big {s : List UInt8} (hs : s.length ≤ 96) {r : List (List Co)} (h : qT s = some r) (hf : fewR r = true) (hb : 96 < (kH r).length) : jM s = 3 ∧ kC s = none := by
  unfold jM kC
  rw [if_neg (by omega), if_neg (by omega), h]
  simp [hf, rgMay, Option.filter]; omega
theorem errG_fine {s : List UInt8} (hs : s.length ≤ 96) {r : List (List Co)} (h : qT s = some r) (hf : fewR r = true) (hb : (kH r).length ≤ 96) : jM s = 0 ∧ kC s = some r := by
  unfold jM kC
  rw [if_neg (by omega), if_neg (by omega), h]
  simp [hf, rgMay, Option.filter, hb]
theorem errG_long {s : List UInt8} (hs : 96 < s.length) : jM s = 3 ∧ kC s = none := by
  unfold jM kC
  rw [if_pos hs, if_pos hs]; exact ⟨rfl, rfl⟩
theorem bareF_len : ∀ (s : List UInt8), (kU s).length ≤ s.length
  | [] => Nat.le_refl _
  | c :: l => by
    rw [kU]
    split
    · have := bareF_len l; rw [List.length_cons]; omega
    · exact Nat.le_refl _
theorem bareL_len (s : List UInt8) : (kE s).length ≤ s.length := by
  unfold kE
  rw [List.length_reverse]
  have h1 := bareF_len (kU s).reverse
  rw [List.length_reverse] at h1
  have := bareF_len s
  omega
theorem pieces_len {y : List UInt8} (h : y.length ≤ 96) : (yX 44 [] y).length ≤ 97 ∧ ∀ z ∈ yX 44 [] y, z.length ≤ 96 := by
  refine ⟨?_, fun z hz => by have := split_le 44 y [] z hz; simp at this; omega⟩
  rw [tX]
  have := List.length_filter_le (fun x : UInt8 => x == 44) y
  omega
section
variable {M : List Nat} {W w : World}
theorem own_two {x y : Blk} {A : List Blk} (h : Own M W w (x :: y :: A)) : Own M W w A := h.sublist ((List.sublist_cons_self y A).trans (List.sublist_cons_self x (y :: A)))
theorem own_turn {x y r t g : Blk} {oa o1 o2 : List Blk} (h : Own M W w (([x, y, g, r, t] ++ oa) ++ o1 ++ o2)) : Own M W w (g :: r :: t :: (o1 ++ (oa ++ o2))) := by
  have h1 : Own M W w (x :: y :: g :: r :: t :: ((oa ++ o1) ++ o2)) := by simpa [List.append_assoc] using h
  refine (own_two h1).perm (List.Perm.cons _ (List.Perm.cons _ (List.Perm.cons _ ?_)))
  rw [← List.append_assoc]
  exact List.Perm.append_right _ List.perm_append_comm
end
end
section
end
section
theorem none_in (w : World) (n : Nat) : SetIn w n none none gD := ⟨fun h0 => absurd h0 (Nat.lt_irrefl 0), fun h0 => absurd h0 (Nat.lt_irrefl 0), Nat.zero_le _, Nat.zero_le _, fun s hs => by simp [gD] at hs, fun s hs => by simp [gD] at hs⟩
theorem sls_lit (s : Sp) (b : Nat) (cur : Array Value) (h : cur.toList = yJ s) : SlS (.slice (some ⟨b, 0, none⟩) 1 1) [s] [⟨b, cur, 80⟩] := by
  have e : ([s] : List Sp).flatMap yJ = yJ s := List.append_nil _
  have hc : cur.toList.length = 14 := by rw [h]; rfl
  refine ⟨by rw [e]; rfl, .inr ⟨b, 1, cur, rfl, rfl, Nat.le_refl _, by decide, by rw [← Array.length_toList, hc], ?_⟩⟩
  rw [e, h]
  exact List.take_of_length_le (Nat.le_refl 14)
end
section
theorem dJ {c : Cu} (h : c.short) : (xX c).short := by
  unfold xX
  split
  · exact h
  · split
    · unfold mT
      split
      · exact next_short _
      · exact ⟨by simp [zT, Ver.zero], by simp [zT, Ver.zero]⟩
    · unfold wR
      split
      · exact ⟨by simp [zT, Ver.zero], by simp [zT, Ver.zero]⟩
      · exact dR _
def mX (l : List Sp) (k : Nat) : List Sp := ((l.take k).map jO).filter (·.may)
theorem turnL_step {l : List Sp} {k : Nat} (hk : k < l.length) {s : Sp} (hs : l[k] = s) : mX l (k + 1) = mX l k ++ (if (jO s).may then [jO s] else []) := by
  unfold mX
  rw [List.take_succ_eq_append_getElem hk, List.map_append, List.filter_append, hs]
  congr 1
  show List.filter _ [jO s] = _
  cases h : (jO s).may <;> simp [h]
theorem uZ (l : List Sp) (k : Nat) : (mX l k).length ≤ k := by
  unfold mX
  refine Nat.le_trans (List.length_filter_le _ _) ?_
  rw [List.length_map, List.length_take]; omega
structure MkI (l : List Sp) (k : Nat) (u : Value) (acc : List Sp) (ob : List Blk) : Prop where
  le : k ≤ l.length
  sl : SlS u acc ob
  eq : acc = mX l k
theorem MkI.keep {l : List Sp} {k : Nat} {u : Value} {acc : List Sp} {ob : List Blk} (h : MkI l k u acc ob) (hk : k < l.length) {s : Sp} {x y : Cu} (hs : l[k] = s) (hx : xX s.lo = x) (hy : xX s.hi = y) (hm : (Sp.mk x y).may = false) : MkI l (k + 1) u acc ob :=
  ⟨hk, h.sl, by rw [turnL_step hk hs, show jO s = ⟨x, y⟩ from by unfold jO; rw [hx, hy], hm, h.eq]; simp⟩
theorem MkI.grow {l : List Sp} {k : Nat} {u u2 : Value} {acc : List Sp} {ob ob2 : List Blk} (h : MkI l k u acc ob) (hk : k < l.length) {s : Sp} {x y : Cu} (hs : l[k] = s) (hx : xX s.lo = x) (hy : xX s.hi = y) (hm : (Sp.mk x y).may = true) (h2 : Sl 80 14 u2 (acc.length + 1) (acc.flatMap yJ ++ yJ ⟨x, y⟩) ob2) : MkI l (k + 1) u2 (acc ++ [⟨x, y⟩]) ob2 :=
  ⟨hk, h2.to (by simp) (by simp), by rw [turnL_step hk hs, show jO s = ⟨x, y⟩ from by unfold jO; rw [hx, hy], hm, ← h.eq, if_pos rfl]⟩
theorem turnL_may (l : List Sp) (k : Nat) : ∀ s ∈ mX l k, s.may = true := fun s hs => by
  unfold mX at hs
  exact (List.mem_filter.1 hs).2
theorem own_mk {M : List Nat} {W w : World} {x : Blk} {A B C : List Blk} (h : Own M W w ([] ++ A ++ (B ++ (C ++ [x])))) : Own M W w (x :: (A ++ B)) := by
  have h1 : Own M W w (A ++ (B ++ (C ++ [x]))) := h
  have h2 : Own M W w (A ++ (B ++ [x])) := h1.sublist ((List.Sublist.refl A).append ((List.Sublist.refl B).append (List.sublist_append_right C [x])))
  exact h2.perm (by rw [← List.append_assoc]; exact List.perm_append_comm)
theorem own_mid0 {M : List Nat} {W w : World} {x : Blk} {A : List Blk} (h : Own M W w (x :: A)) : Own M W w A := h.sublist (List.sublist_cons_self x A)
theorem t7 {M : List Nat} {W w : World} {x y z : Blk} {A : List Blk} (h : Own M W w ([x, y] ++ A ++ [z])) : Own M W w (A ++ [z]) := h.sublist (by rw [List.append_assoc]; exact List.sublist_append_right [x, y] _)
theorem rsetMake_any (A B : Option Addr) (c d : Nat) (l q : List Sp) (W : World) (hv : Reads yJ W W.heap.size A l) (hu : Reads yJ W W.heap.size B q) (hn : l.length ≤ 100000) (hk : q.length ≤ 100000) (hl : yU l) (hm : yU q) :
    Calls Tryz.prog 89 #[.slice A l.length c, .slice B q.length d] W fun e w' => ∃ v' ob', e = .returned (.tuple #[v', .bool (zL l && zL q)]) ∧ SetO v' (if zL l && zL q then ⟨xR l, q⟩ else gD) ob' ∧ Own [] W w' ob' := by
  refine Z2 (n := 54) Tryz.func89 rfl (ZO (Za (.agg ZM) (fun b1 => Zv Z5 (ZN (z7 (ZO (Zv (.slice A l.length c) (Zc (k := 54) (args := #[.slice A l.length c]) (.bool (zL l)) (fun w hO => gF A c l w (hv.on hO.below hO.below.size) (Nat.le_trans hn (by decide)) hl) ?_))))))))
  cases h1 : zL l with
  | true =>
    refine Zv Z5 (Zv Z5 (Zv (.slice B q.length d) (Zc (k := 54) (args := #[.slice B q.length d]) (.bool (zL q)) (fun w hO => gF B d q w (hu.on hO.below hO.below.size) (Nat.le_trans hk (by decide)) hm) ?_)))
    cases h2 : zL q with
    | true =>
      refine Zv Z5 (Zv Z5 (ZX (ZB (ZO (Zv (.slice none 0 0) (zO (zB ?_)))))))
      refine z7 (ZO (Zv (.int .i64 0) (ZN (zM (gW (L' := [] ++ [⟨b1, ZM, 31⟩]) rfl (yN (fun L f m => ∃ (k : Nat) (u : Value) (acc : List Sp) (ob : List Blk) (j : Nat → Value), (MkI l k u acc ob) ∧ L = ob ++ [⟨b1, ZM, 31⟩] ∧ f = xZ j [(0, .slice A l.length c), (1, .slice B q.length d), (4, Zp b1 0), (6, u), (7, .int .i64 (k : Int))] ∧ m = l.length - k) (l.length - 0) ⟨0, _, [], [], _, ⟨Nat.zero_le _, Sl.nil _ _, rfl⟩, rfl, ZU, rfl⟩ ?_))))))
      rintro L f m ⟨k, u, acc, ob, j, hrel, rfl, rfl, rfl⟩
      have hkl := hrel.le
      refine z7 (ZO (Zv (.int .i64 (k : Int)) (Zv (.slice A l.length c) (Zv (.int .i64 (l.length : Int)) ?_))))
      by_cases h3 : (k : Int) < (l.length : Int)
      · have hlk : k < l.length := by omega
        obtain ⟨b, off, hA, hlt, hcell⟩ := hv (by omega)
        obtain ⟨s, he⟩ : ∃ s, l[k] = s := ⟨_, rfl⟩
        have hsk : s.short := he ▸ hl _ (List.getElem_mem _)
        obtain ⟨x, hx⟩ : ∃ x, xX s.lo = x := ⟨_, rfl⟩
        obtain ⟨y, hy⟩ : ∃ y, xX s.hi = y := ⟨_, rfl⟩
        have hxS : x.short := hx ▸ dJ hsk.1
        have hyS : y.short := hy ▸ dJ hsk.2
        refine Zg h3 (ZY (ZB (z7 (zM (z7 (j0 (by kernel_rfl) (ZT 0 [] _ (.slice A l.length c) (zD (zI (zD (zZ (zI (zD zH)))))) rfl (ZT 1 [] _ (.int .i64 (k : Int)) (zD (zI (zD (zZ (zI (zD zH)))))) rfl ?_))))))))
        refine vS 2 [] _ (Zp b (off + k * 14)) rfl (by kernel_rfl) (by kernel_rfl) (by kernel_rfl) (zD (zI (zD (zZ (zI (zD zH)))))) (by kernel_rfl) (fun w _ => vL (b := b) (off := off) (c := c) (n := l.length) (k := .i64) (j := (k : Int)) (e := 80) (sz := 14) rfl (by kernel_rfl) hA (by kernel_rfl) (by kernel_rfl) (by kernel_rfl) (by omega) (by omega) (by omega) w) (ZT 3 [] _ (Zp b (off + k * 14 + 0)) (zD (zI (zD (zZ (zI (zD zH)))))) rfl (f5 4 _ (a := ⟨b, off + k * 14 + 0, none⟩) (z8 s.lo) rfl (by kernel_rfl) (by kernel_rfl) (by kernel_rfl) (zD (zI (zD (zZ (zI (zD zH)))))) (fun w hO => Own.sub [] hO) (by kernel_rfl) rfl (by kernel_rfl) (fun w hO => zX zY (fun j u h => (hO.below.cell (p := ⟨b, off + j, none⟩) hlt).trans (hcell j u h)) k 0 hlk (by omega) _ (by rw [he]; kernel_rfl)) (ZT 6 [] _ (.slice A l.length c) (zD (zI (zD (zZ (zI (zD zH)))))) rfl (ZT 7 [] _ (.int .i64 (k : Int)) (zD (zI (zD (zZ (zI (zD zH)))))) rfl (vS 8 [] _ (Zp b (off + k * 14)) rfl (by kernel_rfl) (by kernel_rfl) (by kernel_rfl) (zD (zI (zD (zZ (zI (zD zH)))))) (by kernel_rfl) (fun w _ => vL (b := b) (off := off) (c := c) (n := l.length) (k := .i64) (j := (k : Int)) (e := 80) (sz := 14) rfl (by kernel_rfl) hA (by kernel_rfl) (by kernel_rfl) (by kernel_rfl) (by omega) (by omega) (by omega) w) (ZT 9 [] _ (Zp b (off + k * 14 + 7)) (zD (zI (zD (zZ (zI (zD zH)))))) rfl (f5 10 _ (a := ⟨b, off + k * 14 + 7, none⟩) (z8 s.hi) rfl (by kernel_rfl) (by kernel_rfl) (by kernel_rfl) (zD (zI (zD (zZ (zI (zD zH)))))) (fun w hO => Own.sub [] hO) (by kernel_rfl) rfl (by kernel_rfl) (fun w hO => zX zY (fun j u h => (hO.below.cell (p := ⟨b, off + j, none⟩) hlt).trans (hcell j u h)) k 7 hlk (by omega) _ (by rw [he]; kernel_rfl)) (uR 5 13 (by kernel_rfl) ?_ ?_))))))))
        · refine Zx [] _ (k := 143) (args := #[z8 s.lo]) (z8 x) rfl (fun w _ => vR (by rw [hx]) (uH s.lo w hsk.1)) (uR 11 13 (by kernel_rfl) ?_ ?_)
          · refine Zx [] _ (k := 143) (args := #[z8 s.hi]) (z8 y) rfl (fun w _ => vR (by rw [hy]) (uH s.hi w hsk.2)) (ZT 12 [] _ (.agg (ZJ2 x y)) (zD (zI (zD (zZ (zI (zD zH)))))) rfl (Zz 13 (Zy [] _ (.agg Z0) rfl rfl (fun b2 => Zz 14 (ZS [⟨b2, Z0, 80⟩] _ 0 ⟨b2, Z0, 80⟩ (off := 0) (.agg (ZJ2 x y)) rfl rfl (ZZ (zB (ZO (Zl 0 ⟨b2, (ZJ2 x y), 80⟩ (off := 0) (.agg (ZJ2 x y)) (Zc (k := 96) (args := #[.agg (ZJ2 x y)]) (.bool ((⟨x, y⟩ : Sp).may)) (fun w _ => vM ⟨x, y⟩ w ⟨hxS, hyS⟩) ?_))))))))))
            refine zO (zB ?_)
            cases h4 : (⟨x, y⟩ : Sp).may with
            | true =>
              refine Zt (zA (Zv (u) (Zl 0 ⟨b2, (ZJ2 x y), 80⟩ (off := 0) (.agg (ZJ2 x y)) (vC 80 (ZJ2 x y) (by kernel_rfl) rfl (fun _ => by kernel_rfl) (fun b3 => ?_)))))
              obtain ⟨i0, z0, e1, e2, e3, e4, e5⟩ := kO
              have hln : acc.length ≤ k := by rw [hrel.eq]; exact uZ l k
              refine kB (L' := [⟨b3, (ZJ2 x y), 80⟩, ⟨b2, (ZJ2 x y), 80⟩] ++ ob ++ [⟨b1, ZM, 31⟩]) (by rw [List.append_assoc]; kernel_rfl) (gB (sz := 14) (by kernel_rfl) rfl Tryz.underlying29 e1 e2 e3 e4 (by kernel_rfl) hrel.sl (a := ⟨b3, 0, none⟩) (m := 1) (c := 1) (news := yJ ⟨x, y⟩) (by kernel_rfl) rfl (fun w hO j u hj => ?_) (xM _) (by unfold maxLen; omega) (by rw [e5]; omega) (fun u2 ob2 hu2 => ?_))
              · rw [yQ, cell_of_row w b3 (0 + j) (yJ ⟨x, y⟩).toArray 80 _ (hO.held ⟨b3, (yJ ⟨x, y⟩).toArray, 80⟩ (List.mem_append_left _ (List.mem_append_left _ (List.mem_cons_self ..))))]; simpa using hj
              exact Zv (u2) (zO (zP (zB (zA (Zv (.int .i64 (k : Int)) (Zu (k := .i64) (((k + 1 : Nat) : Int)) (IntWalk.i64_in _ (by omega)) (Zv (.int .i64 ((k + 1 : Nat) : Int)) (zO (xB (L' := ob2 ++ [⟨b1, ZM, 31⟩]) (fun w hO => t7 hO) (zS (m' := l.length - (k + 1)) (by omega) ⟨k + 1, u2, _, ob2, _, hrel.grow hlk he hx hy (by assumption) hu2, rfl, ZU, rfl⟩))))))))))
            | false =>
              exact Zf (yP (zP (zB (zA (Zv (.int .i64 (k : Int)) (Zu (k := .i64) (((k + 1 : Nat) : Int)) (IntWalk.i64_in _ (by omega)) (Zv (.int .i64 ((k + 1 : Nat) : Int)) (zO (xB (L' := ob ++ [⟨b1, ZM, 31⟩]) (fun w hO => Own.sub [_] hO) (zS (m' := l.length - (k + 1)) (by omega) ⟨k + 1, u, acc, ob, _, hrel.keep hlk he hx hy (by assumption), rfl, ZU, rfl⟩))))))))))
          refine Zy [] _ (.agg Z0) rfl rfl (fun b2 => Zz 11 (Zx [⟨b2, Z0, 80⟩] _ (k := 143) (args := #[z8 s.hi]) (z8 y) rfl (fun w _ => vR (by rw [hy]) (uH s.hi w hsk.2)) (ZT 12 [⟨b2, Z0, 80⟩] _ (.agg (ZJ2 x y)) (zD (zI (zD (zZ (zI (zD zH)))))) rfl (Zz 14 (ZS [⟨b2, Z0, 80⟩] _ 0 ⟨b2, Z0, 80⟩ (off := 0) (.agg (ZJ2 x y)) rfl rfl (ZZ (zB (ZO (Zl 0 ⟨b2, (ZJ2 x y), 80⟩ (off := 0) (.agg (ZJ2 x y)) (Zc (k := 96) (args := #[.agg (ZJ2 x y)]) (.bool ((⟨x, y⟩ : Sp).may)) (fun w _ => vM ⟨x, y⟩ w ⟨hxS, hyS⟩) ?_))))))))))
          refine zO (zB ?_)
          cases h5 : (⟨x, y⟩ : Sp).may with
          | true =>
            refine Zt (zA (Zv (u) (Zl 0 ⟨b2, (ZJ2 x y), 80⟩ (off := 0) (.agg (ZJ2 x y)) (vC 80 (ZJ2 x y) (by kernel_rfl) rfl (fun _ => by kernel_rfl) (fun b3 => ?_)))))
            obtain ⟨i0, z0, e1, e2, e3, e4, e5⟩ := kO
            have hln : acc.length ≤ k := by rw [hrel.eq]; exact uZ l k
            refine kB (L' := [⟨b3, (ZJ2 x y), 80⟩, ⟨b2, (ZJ2 x y), 80⟩] ++ ob ++ [⟨b1, ZM, 31⟩]) (by rw [List.append_assoc]; kernel_rfl) (gB (sz := 14) (by kernel_rfl) rfl Tryz.underlying29 e1 e2 e3 e4 (by kernel_rfl) hrel.sl (a := ⟨b3, 0, none⟩) (m := 1) (c := 1) (news := yJ ⟨x, y⟩) (by kernel_rfl) rfl (fun w hO j u hj => ?_) (xM _) (by unfold maxLen; omega) (by rw [e5]; omega) (fun u2 ob2 hu2 => ?_))
            · rw [yQ, cell_of_row w b3 (0 + j) (yJ ⟨x, y⟩).toArray 80 _ (hO.held ⟨b3, (yJ ⟨x, y⟩).toArray, 80⟩ (List.mem_append_left _ (List.mem_append_left _ (List.mem_cons_self ..))))]; simpa using hj
            exact Zv (u2) (zO (zP (zB (zA (Zv (.int .i64 (k : Int)) (Zu (k := .i64) (((k + 1 : Nat) : Int)) (IntWalk.i64_in _ (by omega)) (Zv (.int .i64 ((k + 1 : Nat) : Int)) (zO (xB (L' := ob2 ++ [⟨b1, ZM, 31⟩]) (fun w hO => t7 hO) (zS (m' := l.length - (k + 1)) (by omega) ⟨k + 1, u2, _, ob2, _, hrel.grow hlk he hx hy (by assumption) hu2, rfl, ZU, rfl⟩))))))))))
          | false =>
            exact Zf (yP (zP (zB (zA (Zv (.int .i64 (k : Int)) (Zu (k := .i64) (((k + 1 : Nat) : Int)) (IntWalk.i64_in _ (by omega)) (Zv (.int .i64 ((k + 1 : Nat) : Int)) (zO (xB (L' := ob ++ [⟨b1, ZM, 31⟩]) (fun w hO => Own.sub [_] hO) (zS (m' := l.length - (k + 1)) (by omega) ⟨k + 1, u, acc, ob, _, hrel.keep hlk he hx hy (by assumption), rfl, ZU, rfl⟩))))))))))
        refine Zy [] _ (.agg Z0) rfl rfl (fun b2 => Zz 5 (Zx [⟨b2, Z0, 80⟩] _ (k := 143) (args := #[z8 s.lo]) (z8 x) rfl (fun w _ => vR (by rw [hx]) (uH s.lo w hsk.1)) (Zz 11 (Zx [⟨b2, Z0, 80⟩] _ (k := 143) (args := #[z8 s.hi]) (z8 y) rfl (fun w _ => vR (by rw [hy]) (uH s.hi w hsk.2)) (ZT 12 [⟨b2, Z0, 80⟩] _ (.agg (ZJ2 x y)) (zD (zI (zD (zZ (zI (zD zH)))))) rfl (Zz 14 (ZS [⟨b2, Z0, 80⟩] _ 0 ⟨b2, Z0, 80⟩ (off := 0) (.agg (ZJ2 x y)) rfl rfl (ZZ (zB (z7 (zA ?_)))))))))))
        refine Zl 0 ⟨b2, (ZJ2 x y), 80⟩ (off := 0) (.agg (ZJ2 x y)) (Zc (k := 96) (args := #[.agg (ZJ2 x y)]) (.bool ((⟨x, y⟩ : Sp).may)) (fun w _ => vM ⟨x, y⟩ w ⟨hxS, hyS⟩) (zO (zB ?_)))
        cases h6 : (⟨x, y⟩ : Sp).may with
        | true =>
          refine Zt (zA (Zv (u) (Zl 0 ⟨b2, (ZJ2 x y), 80⟩ (off := 0) (.agg (ZJ2 x y)) (vC 80 (ZJ2 x y) (by kernel_rfl) rfl (fun _ => by kernel_rfl) (fun b3 => ?_)))))
          obtain ⟨i0, z0, e1, e2, e3, e4, e5⟩ := kO
          have hln : acc.length ≤ k := by rw [hrel.eq]; exact uZ l k
          refine kB (L' := [⟨b3, (ZJ2 x y), 80⟩, ⟨b2, (ZJ2 x y), 80⟩] ++ ob ++ [⟨b1, ZM, 31⟩]) (by rw [List.append_assoc]; kernel_rfl) (gB (sz := 14) (by kernel_rfl) rfl Tryz.underlying29 e1 e2 e3 e4 (by kernel_rfl) hrel.sl (a := ⟨b3, 0, none⟩) (m := 1) (c := 1) (news := yJ ⟨x, y⟩) (by kernel_rfl) rfl (fun w hO j u hj => ?_) (xM _) (by unfold maxLen; omega) (by rw [e5]; omega) (fun u2 ob2 hu2 => ?_))
          · rw [yQ, cell_of_row w b3 (0 + j) (yJ ⟨x, y⟩).toArray 80 _ (hO.held ⟨b3, (yJ ⟨x, y⟩).toArray, 80⟩ (List.mem_append_left _ (List.mem_append_left _ (List.mem_cons_self ..))))]; simpa using hj
          exact Zv (u2) (zO (zP (zB (zA (Zv (.int .i64 (k : Int)) (Zu (k := .i64) (((k + 1 : Nat) : Int)) (IntWalk.i64_in _ (by omega)) (Zv (.int .i64 ((k + 1 : Nat) : Int)) (zO (xB (L' := ob2 ++ [⟨b1, ZM, 31⟩]) (fun w hO => t7 hO) (zS (m' := l.length - (k + 1)) (by omega) ⟨k + 1, u2, _, ob2, _, hrel.grow hlk he hx hy (by assumption) hu2, rfl, ZU, rfl⟩))))))))))
        | false =>
          exact Zf (yP (zP (zB (zA (Zv (.int .i64 (k : Int)) (Zu (k := .i64) (((k + 1 : Nat) : Int)) (IntWalk.i64_in _ (by omega)) (Zv (.int .i64 ((k + 1 : Nat) : Int)) (zO (xB (L' := ob ++ [⟨b1, ZM, 31⟩]) (fun w hO => Own.sub [_] hO) (zS (m' := l.length - (k + 1)) (by omega) ⟨k + 1, u, acc, ob, _, hrel.keep hlk he hx hy (by assumption), rfl, ZU, rfl⟩))))))))))
      refine Zh h3 (ZX (y7 (zF (zN (zJ (zB (ZO (Zv (u) ?_))))))))
      have hke : acc = (l.map jO).filter (·.may) := by have h := hrel.eq; unfold mX at h; rwa [List.take_of_length_le (by omega)] at h
      have hall : xO acc = true := allMay_mem.2 (by rw [hrel.eq]; exact turnL_may l k)
      have hsh : yU acc := fun s hs => pR (allMay_mem.1 hall s hs)
      have hln : acc.length ≤ k := by rw [hrel.eq]; exact uZ l k
      have hsl := hrel.sl
      clear hrel
      obtain ⟨C, cc, rfl⟩ := hsl.form
      refine Zr (k := 103) (args := #[.slice C acc.length cc]) (fun v' L' => ∃ mv ob', v' = .tuple #[mv, .bool true] ∧ L' = ob' ++ (ob ++ ([⟨b1, ZM, 31⟩])) ∧ SlS mv (xR l) ob') (fun w hO => (rmake_any C cc acc w (Sl.reads hsl rfl hO (fun x hx => by simp [hx])) (by omega) hsh).mono fun e w' ⟨v', ob', k1, k2, k3⟩ => ⟨_, _, k1, ⟨v', ob', by rw [hall], rfl, by rw [hall, if_pos rfl, hke] at k2; exact k2⟩, Own.joinN hO k3⟩) (fun tv L2 hv2 => ?_)
      obtain ⟨v2, o2, rfl, rfl, hr2⟩ := hv2
      obtain ⟨V2, c2, rfl⟩ := hr2.form
      refine Zv (.tuple #[.slice V2 ((xR l).length) c2, .bool true]) (Zv (.slice V2 ((xR l).length) c2) (Zv Z4 (Zv (.slice V2 ((xR l).length) c2) (Zv Z4 (ZR (Zv (.slice V2 ((xR l).length) c2) (Zv (.slice B q.length d) ?_)))))))
      obtain ⟨i, z, e1, e2, e3, e4, e5⟩ := kO
      refine kB (L' := [] ++ [] ++ (o2 ++ (ob ++ ([⟨b1, ZM, 31⟩] : List Blk)))) rfl (j9 (E := []) (ob := []) (L0 := o2 ++ (ob ++ ([⟨b1, ZM, 31⟩] : List Blk))) (sz := 14) (l := q) (A := B) (c := d) zY (by kernel_rfl) rfl Tryz.underlying29 e1 e2 e3 e4 (by kernel_rfl) (Sl.nil 80 14) (by kernel_rfl) (fun w hO => hu.on hO.below hO.size) xM (by unfold maxLen; omega) (by rw [e5]; omega) (fun v3 o3 hv3 => ?_))
      have hr3 : SlS v3 q o3 := hv3.to (by simp) (by simp)
      clear hv3
      obtain ⟨V3, c3, rfl⟩ := hr3.form
      exact qJ (L' := ⟨b1, ZM, 31⟩ :: (o3 ++ o2)) (fun w hO => own_mk hO) (Zv (.agg #[.slice V2 ((xR l).length) c2, .slice V3 q.length c3]) (Zs 0 ⟨b1, ZM, 31⟩ (off := 0) (.agg #[.slice V2 ((xR l).length) c2, .slice V3 q.length c3]) (Zv Z4 (ZN (zC (ZD 0 ⟨b1, #[.slice V2 ((xR l).length) c2, .slice V3 q.length c3], 31⟩ (off := 0) (.agg #[.slice V2 ((xR l).length) c2, .slice V3 q.length c3]) Z4 Tryz.results89 (fun w hO => ⟨_, _, rfl, by rw [if_pos (by simp [h1, h2])]; exact ⟨_, _, o2, o3, rfl, rfl, hr2, hr3⟩, own_mid0 hO⟩)))))))
    | false =>
      refine Zv Z4 (Zv Z4 (ZY (ZO (Zc (k := 34) (args := #[]) (.agg ZM) (fun w _ => bR w) (Zs 0 ⟨b1, ZM, 31⟩ (off := 0) (.agg ZM) (Zv Z5 (zO (zB ?_))))))))
      exact zC (z6 (ZD 0 ⟨b1, ZM, 31⟩ (off := 0) (.agg ZM) Z5 Tryz.results89 (fun w hO => ⟨_, [], by first | rfl | (simp [h1, h2]; done), by rw [if_neg (by simp [h1, h2])]; exact SetO.none, kK hO⟩)))
  | false =>
    refine Zv Z4 (Zv Z4 (Zk (Zk (Zk (Zv Z4 (ZY (ZO (Zc (k := 34) (args := #[]) (.agg ZM) (fun w _ => bR w) ?_))))))))
    exact Zs 0 ⟨b1, ZM, 31⟩ (off := 0) (.agg ZM) (Zv Z5 (ZN (zC (z6 (ZD 0 ⟨b1, ZM, 31⟩ (off := 0) (.agg ZM) Z5 Tryz.results89 (fun w hO => ⟨_, [], by first | rfl | (simp [h1]; done), by rw [if_neg (by simp [h1])]; exact SetO.none, kK hO⟩))))))
end
section
theorem altRel_next {l : List Co} {k : Nat} (hk : k < l.length) {c : Co} (hc : l[k] = c) : yT (l.take (k + 1)) = uP (yT (l.take k)) c.region := by
  rw [List.take_succ_eq_append_getElem hk, hc, hY]
theorem tT {l : List Co} {k : Nat} (hk : k < l.length) {c : Co} (hc : l[k] = c) : yS (l.take (k + 1)) = orL (yS (l.take k)) c.zone := by
  rw [List.take_succ_eq_append_getElem hk, hc, fA]
theorem nQ {r : List (List Co)} {i : Nat} (hi : i < r.length) {a : List Co} (ha : r[i] = a) : xF (r.take (i + 1)) = orT (xF (r.take i)) (yB a) := by
  rw [List.take_succ_eq_append_getElem hi, ha, nP]
theorem gV (l : List Co) (k : Nat) (h : l.length ≤ 1000) : RF (yT (l.take k)) 4000 := (jK _).le (by rw [List.length_take]; omega)
theorem gM (l : List Co) (k : Nat) (h : l.length ≤ 1000) : RF (yS (l.take k)) 4000 := (wQ _).le (by rw [List.length_take]; omega)
theorem orAll_le {r : List (List Co)} (h : fewR r = true) (i : Nat) : SF (xF (r.take i)) 198 := by
  obtain ⟨h1, h2⟩ := fewR.facts h
  refine (orAll_sf (n := 6) _ fun a ha => ((fewA.facts (h2 a (List.mem_of_mem_take ha))).1).2).le ?_
  rw [List.length_take]
  show min i r.length * 33 ≤ 198
  omega
section
variable {M : List Nat} {W w : World}
theorem own_tail {A B C : List Blk} (h : Own M W w ((A ++ B) ++ C)) : Own M W w (B ++ C) := by
  rw [List.append_assoc] at h
  exact Own.sub A h
theorem own_alt {O Z A R o1 o2 : List Blk} {b : Blk} (h : Own M W w (O ++ (Z ++ (A ++ (R ++ (o1 ++ (o2 ++ [b]))))))) : Own M W w (A ++ (O ++ [b])) := by
  have h1 : Own M W w (O ++ (A ++ [b])) := h.sublist (List.Sublist.append (List.Sublist.refl O) (((List.Sublist.refl A).append (((List.sublist_append_right o2 [b]).trans (List.sublist_append_right o1 _)).trans (List.sublist_append_right R _))).trans (List.sublist_append_right Z _)))
  refine h1.perm ?_
  rw [← List.append_assoc, ← List.append_assoc]
  exact List.Perm.append_right _ List.perm_append_comm
theorem own_last {K N o1 o2 : List Blk} {b : Blk} (h : Own M W w (K ++ (N ++ (o1 ++ (o2 ++ [b]))))) : Own M W w (b :: K) := by
  have h1 : Own M W w (K ++ [b]) := h.sublist (List.Sublist.append (List.Sublist.refl K) (((List.sublist_append_right o2 [b]).trans (List.sublist_append_right o1 _)).trans (List.sublist_append_right N _)))
  exact h1.perm List.perm_append_comm
theorem own_sets {x y z : Blk} {A B C : List Blk} (h : Own M W w ((x :: (A ++ (B ++ ([] : List Blk)))) ++ (y :: z :: C))) : Own M W w (x :: y :: z :: A) := by
  have h1 : Own M W w (x :: (A ++ [y, z])) := h.sublist (by
    rw [List.append_nil, List.cons_append]
    refine List.Sublist.cons_cons _ ?_
    rw [List.append_assoc]
    exact List.Sublist.append (List.Sublist.refl A) ((List.Sublist.cons_cons _ (List.Sublist.cons_cons _ (List.nil_sublist C))).trans (List.sublist_append_right B _)))
  exact h1.perm (List.Perm.cons _ List.perm_append_comm)
theorem own_swap1 {x : Blk} {A : List Blk} (h : Own M W w (A ++ [x])) : Own M W w (x :: A) := h.perm List.perm_append_comm
end
theorem rsetMake_ok (A B : Option Addr) (c d : Nat) (l q : List Sp) (W : World) (hv : Reads yJ W W.heap.size A l) (hu : Reads yJ W W.heap.size B q) {n m : Nat} (hl : RF l n) (hm : RF q m) (hn : n ≤ 100000) (hk : m ≤ 100000) :
    Calls Tryz.prog 89 #[.slice A l.length c, .slice B q.length d] W fun e w' => ∃ v' ob', e = .returned v' ∧ (∃ mv, v' = Value.tuple #[mv, .bool true] ∧ SetO mv ⟨xR l, q⟩ ob') ∧ Own [] W w' ob' :=
  (rsetMake_any A B c d l q W hv hu (Nat.le_trans hl.len hn) (Nat.le_trans hm.len hk) hl.short hm.short).mono fun e w' ⟨v', ob', k1, k2, k3⟩ => by
    have hb : (zL l && zL q) = true := by rw [hl.may, hm.may]; rfl
    rw [hb] at k1
    rw [if_pos hb] at k2
    exact ⟨_, ob', k1, ⟨v', rfl, k2⟩, k3⟩
theorem rwhole_any (W : World) : Calls Tryz.prog 141 #[] W fun e w' => ∃ v' ob', e = .returned v' ∧ SlS v' v7 ob' ∧ Own [] W w' ob' := by
  refine Z2 (n := 5) Tryz.func141 rfl (ZO (Zv (.slice none 0 0) (ZR (Zc (k := 147) (args := #[]) (z8 (zT (-1))) (fun w _ => u7 w) (Zc (k := 148) (args := #[]) (z8 (zT 1)) (fun w _ => u6 w) (Zv (.agg #[.int .i64 ((zT (-1)).e), .int .i64 ((zT (-1)).v.maj), .int .i64 ((zT (-1)).v.min), .int .i64 ((zT (-1)).v.pat), .string (mkS (zT (-1)).v.pre), .string (mkS (zT (-1)).v.build), .bool ((zT (-1)).aft), .int .i64 ((zT 1).e), .int .i64 ((zT 1).v.maj), .int .i64 ((zT 1).v.min), .int .i64 ((zT 1).v.pat), .string (mkS (zT 1).v.pre), .string (mkS (zT 1).v.build), .bool ((zT 1).aft)]) (vC 80 #[.int .i64 ((zT (-1)).e), .int .i64 ((zT (-1)).v.maj), .int .i64 ((zT (-1)).v.min), .int .i64 ((zT (-1)).v.pat), .string (mkS (zT (-1)).v.pre), .string (mkS (zT (-1)).v.build), .bool ((zT (-1)).aft), .int .i64 ((zT 1).e), .int .i64 ((zT 1).v.maj), .int .i64 ((zT 1).v.min), .int .i64 ((zT 1).v.pat), .string (mkS (zT 1).v.pre), .string (mkS (zT 1).v.build), .bool ((zT 1).aft)] (by kernel_rfl) rfl (fun _ => by kernel_rfl) (fun b1 => ?_))))))))
  exact Zv (.slice (some ⟨b1, 0, none⟩) 1 1) (ZN (zC (ZF (.slice (some ⟨b1, 0, none⟩) 1 1) Tryz.results141 (fun w hO => ⟨_, _, rfl, sls_lit ⟨zT (-1), zT 1⟩ b1 _ (by kernel_rfl), hO⟩))))
theorem rsetAll_any (W : World) : Calls Tryz.prog 87 #[] W fun e w' => ∃ v' ob', e = .returned v' ∧ SetO v' allT ob' ∧ Own [] W w' ob' := by
  refine Z2 (n := 4) Tryz.func87 rfl (ZO (Za (.agg ZM) (fun b1 => ZR (Zr (k := 141) (args := #[]) (fun v' L' => ∃ ob', L' = ob' ++ ([⟨b1, ZM, 31⟩]) ∧ SlS v' v7 ob') (fun w hO => (rwhole_any w).mono fun e w' ⟨v', ob', k1, k2, k3⟩ => ⟨v', _, k1, ⟨ob', rfl, k2⟩, Own.joinN hO k3⟩) (fun x1 Lx hvx => ?_)))))
  obtain ⟨o1, rfl, hr1⟩ := hvx
  obtain ⟨V1, c1, rfl⟩ := hr1.form
  refine Zr (k := 141) (args := #[]) (fun v' L' => ∃ ob', L' = ob' ++ (o1 ++ ([⟨b1, ZM, 31⟩])) ∧ SlS v' v7 ob') (fun w hO => (rwhole_any w).mono fun e w' ⟨v', ob', k1, k2, k3⟩ => ⟨v', _, k1, ⟨ob', rfl, k2⟩, Own.joinN hO k3⟩) (fun x2 Lx hvx => ?_)
  obtain ⟨o2, rfl, hr2⟩ := hvx
  obtain ⟨V2, c2, rfl⟩ := hr2.form
  exact Zv (.agg #[.slice V1 ((v7).length) c1, .slice V2 ((v7).length) c2]) (qJ (L' := ⟨b1, ZM, 31⟩ :: (o2 ++ o1)) (fun w hO => own_swap1 (by rw [List.append_assoc]; exact hO)) (Zs 0 ⟨b1, ZM, 31⟩ (off := 0) (.agg #[.slice V1 ((v7).length) c1, .slice V2 ((v7).length) c2]) (ZN (zC (ZC 0 ⟨b1, #[.slice V1 ((v7).length) c1, .slice V2 ((v7).length) c2], 31⟩ (off := 0) (.agg #[.slice V1 ((v7).length) c1, .slice V2 ((v7).length) c2]) Tryz.results87 (fun w hO => ⟨_, o2 ++ o1, rfl, ⟨_, _, o1, o2, rfl, rfl, hr1, hr2⟩, Own.sub [_] hO⟩))))))
theorem rsalt_any (A : Option Addr) (cap : Nat) (a : List Co) (W : World) (hv : Reads coC W W.heap.size A a) (hn : a.length ≤ 1000) (hsh : ShortA a) : Calls Tryz.prog 50 #[.slice A a.length cap] W fun e w' => ∃ v' ob', e = .returned v' ∧ SetO v' (yB a) ob' ∧ Own [] W w' ob' := by
  refine Z2 (n := 39) Tryz.func50 rfl (ZO (Za (.agg ZM) (fun b1 => ZR (Zr (k := 87) (args := #[]) (fun v' L' => ∃ ob', L' = ob' ++ ([⟨b1, ZM, 31⟩]) ∧ SetO v' allT ob') (fun w hO => (rsetAll_any w).mono fun e w' ⟨v', ob', k1, k2, k3⟩ => ⟨v', _, k1, ⟨ob', rfl, k2⟩, Own.joinN hO k3⟩) (fun v0 Lx hvx => ?_)))))
  obtain ⟨o0, rfl, h0⟩ := hvx
  obtain ⟨_, _, p1, p2, rfl, rfl, hq1, hq2⟩ := h0
  obtain ⟨V0, c0, rfl⟩ := hq1.form
  obtain ⟨V9, c9, rfl⟩ := hq2.form
  refine qJ (L' := p1 ++ ([⟨b1, ZM, 31⟩])) (fun w hO => own_tail hO) (Zv (.slice V0 allT.rel.length c0) (Zv (.slice V0 allT.rel.length c0) (ZR (Zv (.slice none 0 0) (ZN (z7 (z7 ?_)))))))
  refine zA (Zv (.int .i64 0) (ZN (zM (yN (fun L f m => ∃ (k : Nat) (V1 : Option Addr) (c1 : Nat) (o1 : List Blk) (V2 : Option Addr) (c2 : Nat) (o2 : List Blk) (j : Nat → Value), (k ≤ a.length ∧ SlS (.slice V1 (yT (a.take k)).length c1) (yT (a.take k)) o1 ∧ SlS (.slice V2 (yS (a.take k)).length c2) (yS (a.take k)) o2) ∧ L = o1 ++ (o2 ++ [⟨b1, ZM, 31⟩]) ∧ f = xZ j [(0, .slice A a.length cap), (2, Zp b1 0), (3, .slice V1 ((yT (a.take k)).length) c1), (4, .slice V2 ((yS (a.take k)).length) c2), (5, .int .i64 (k : Int))] ∧ m = a.length - k) (a.length - 0) ⟨0, V0, c0, p1, none, 0, [], _, ⟨Nat.zero_le _, hq1, Sl.nil _ _⟩, rfl, ZU, rfl⟩ ?_))))
  rintro L f m ⟨k, V1, c1, o1, V2, c2, o2, j, hrel, rfl, rfl, rfl⟩
  have hkl := hrel.1
  refine z7 (ZO (Zv (.int .i64 (k : Int)) (Zv (.slice A a.length cap) (Zv (.int .i64 (a.length : Int)) ?_))))
  by_cases h1 : (k : Int) < (a.length : Int)
  · have hk : k < a.length := by omega
    obtain ⟨b, off, hA, hlt, hcell⟩ := hv (by omega)
    obtain ⟨c, hc⟩ : ∃ c, a[k] = c := ⟨_, rfl⟩
    have hcS : c.short := hsh c (hc ▸ List.getElem_mem hk)
    refine Zg h1 (ZY (ZB (z7 (zM (ZO (Zv (.slice V1 ((yT (a.take k)).length) c1) (Zv (.slice A a.length cap) ?_)))))))
    refine Zv (.int .i64 (k : Int)) (zV (Zp b (off + k * 7)) (by kernel_rfl) (ZA (b := b) (off := off) (c := cap) (n := a.length) (k := .i64) (j := (k : Int)) (e := 51) (sz := 7) hA) (Zo (coV c) (a := ⟨b, off + k * 7, none⟩) (fun w hO => zX j4 (fun j u h => (hO.below.cell (p := ⟨b, off + j, none⟩) hlt).trans (hcell j u h)) k 0 hk (by omega) _ (by rw [hc]; kernel_rfl)) (Zr (k := 53) (args := #[coV c]) (fun v' L' => ∃ ob', L' = ob' ++ (o1 ++ (o2 ++ ([⟨b1, ZM, 31⟩]))) ∧ SlS v' c.region ob') (fun w hO => (rcRegion_any c w hcS).mono fun e w' ⟨v', ob', k1, k2, k3⟩ => ⟨v', _, k1, ⟨ob', rfl, k2⟩, Own.joinN hO k3⟩) (fun vr Lx hvx => ?_))))
    obtain ⟨oR, rfl, hR⟩ := hvx
    obtain ⟨VR, cR, rfl⟩ := hR.form
    refine Zr (k := 57) (args := #[.slice V1 ((yT (a.take k)).length) c1, .slice VR ((c.region).length) cR]) (fun v' L' => ∃ ob', L' = ob' ++ (oR ++ (o1 ++ (o2 ++ ([⟨b1, ZM, 31⟩])))) ∧ SlS v' (yT (a.take (k + 1))) ob') (fun w hO => (rand_any V1 VR c1 cR (yT (a.take k)) c.region w (Sl.reads hrel.2.1 rfl hO (fun x hx => by simp [hx])) (Sl.reads hR rfl hO (fun x hx => by simp [hx])) (Nat.le_trans (gV a k hn).len (by decide)) (Nat.le_trans (vN c).len (by decide)) (gV a k hn).short (vN c).short).mono fun e w' ⟨v', ob', k1, k2, k3⟩ => ⟨v', _, k1, ⟨ob', rfl, by rw [if_pos (by rw [(gV a k hn).may, (vN c).may]; rfl), ← altRel_next hk hc] at k2; exact k2⟩, Own.joinN hO k3⟩) (fun va Lx hvx => ?_)
    obtain ⟨oA, rfl, hA2⟩ := hvx
    obtain ⟨VA, cA, rfl⟩ := hA2.form
    refine Zv (.slice VA ((yT (a.take (k + 1))).length) cA) (ZN (zA (Zv (.slice V2 ((yS (a.take k)).length) c2) (Zv (.slice A a.length cap) (Zv (.int .i64 (k : Int)) (zV (Zp b (off + k * 7)) (by kernel_rfl) (ZA (b := b) (off := off) (c := cap) (n := a.length) (k := .i64) (j := (k : Int)) (e := 51) (sz := 7) hA) (Zo (coV c) (a := ⟨b, off + k * 7, none⟩) (fun w hO => zX j4 (fun j u h => (hO.below.cell (p := ⟨b, off + j, none⟩) hlt).trans (hcell j u h)) k 0 hk (by omega) _ (by rw [hc]; kernel_rfl)) (Zr (k := 88) (args := #[coV c]) (fun v' L' => ∃ ob', L' = ob' ++ (oA ++ (oR ++ (o1 ++ (o2 ++ ([⟨b1, ZM, 31⟩]))))) ∧ SlS v' c.zone ob') (fun w hO => (rcZone_any c w hcS).mono fun e w' ⟨v', ob', k1, k2, k3⟩ => ⟨v', _, k1, ⟨ob', rfl, k2⟩, Own.joinN hO k3⟩) (fun vz Lx hvx => ?_)))))))))
    obtain ⟨oZ, rfl, hZ⟩ := hvx
    obtain ⟨VZ, cZ, rfl⟩ := hZ.form
    refine Zr (k := 58) (args := #[.slice V2 ((yS (a.take k)).length) c2, .slice VZ ((c.zone).length) cZ]) (fun v' L' => ∃ ob', L' = ob' ++ (oZ ++ (oA ++ (oR ++ (o1 ++ (o2 ++ ([⟨b1, ZM, 31⟩])))))) ∧ SlS v' (yS (a.take (k + 1))) ob') (fun w hO => (ror_any V2 VZ c2 cZ (yS (a.take k)) c.zone w (Sl.reads hrel.2.2 rfl hO (fun x hx => by simp [hx])) (Sl.reads hZ rfl hO (fun x hx => by simp [hx])) (Nat.le_trans (gM a k hn).len (by decide)) (Nat.le_trans (uS c).len (by decide)) (gM a k hn).short (uS c).short).mono fun e w' ⟨v', ob', k1, k2, k3⟩ => ⟨v', _, k1, ⟨ob', rfl, by rw [if_pos (by rw [(gM a k hn).may, (uS c).may]; rfl), ← tT hk hc] at k2; exact k2⟩, Own.joinN hO k3⟩) (fun vo Lx hvx => ?_)
    obtain ⟨oO, rfl, hO2⟩ := hvx
    obtain ⟨VO, cO, rfl⟩ := hO2.form
    exact Zv (.slice VO ((yS (a.take (k + 1))).length) cO) (zO (zP (zB (zA (Zv (.int .i64 (k : Int)) (Zu (k := .i64) (((k + 1 : Nat) : Int)) (IntWalk.i64_in _ (by omega)) (Zv (.int .i64 ((k + 1 : Nat) : Int)) (zO (xB (L' := oA ++ (oO ++ [⟨b1, ZM, 31⟩])) (fun w hO => own_alt hO) (zS (m' := a.length - (k + 1)) (by omega) ⟨k + 1, VA, cA, oA, VO, cO, oO, _, ⟨by omega, hA2, hO2⟩, rfl, ZU, rfl⟩))))))))))
  refine Zh h1 (ZX (y7 (zF (zN (zJ (zB (ZO (Zv (.slice V1 ((yT (a.take k)).length) c1) ?_))))))))
  refine Zv (.slice V1 ((yT (a.take k)).length) c1) (Zv (.slice V2 ((yS (a.take k)).length) c2) (Zr (k := 57) (args := #[.slice V1 ((yT (a.take k)).length) c1, .slice V2 ((yS (a.take k)).length) c2]) (fun v' L' => ∃ ob', L' = ob' ++ (o1 ++ (o2 ++ ([⟨b1, ZM, 31⟩]))) ∧ SlS v' (uP (yT (a.take k)) (yS (a.take k))) ob') (fun w hO => (rand_any V1 V2 c1 c2 (yT (a.take k)) (yS (a.take k)) w (Sl.reads hrel.2.1 rfl hO (fun x hx => by simp [hx])) (Sl.reads hrel.2.2 rfl hO (fun x hx => by simp [hx])) (Nat.le_trans (gV a k hn).len (by decide)) (Nat.le_trans (gM a k hn).len (by decide)) (gV a k hn).short (gM a k hn).short).mono fun e w' ⟨v', ob', k1, k2, k3⟩ => ⟨v', _, k1, ⟨ob', rfl, by rw [if_pos (by rw [(gV a k hn).may, (gM a k hn).may]; rfl)] at k2; exact k2⟩, Own.joinN hO k3⟩) (fun vm Lx hvx => ?_)))
  obtain ⟨oM, rfl, hM⟩ := hvx
  obtain ⟨VM, cM, rfl⟩ := hM.form
  have hmf := (gV a k hn).and1 (gM a k hn)
  refine Zr (k := 89) (args := #[.slice V1 ((yT (a.take k)).length) c1, .slice VM ((uP (yT (a.take k)) (yS (a.take k))).length) cM]) (fun v' L' => ∃ ob', L' = ob' ++ (oM ++ (o1 ++ (o2 ++ ([⟨b1, ZM, 31⟩])))) ∧ ∃ mv, v' = .tuple #[mv, .bool true] ∧ SetO mv (yB (a.take k)) ob') (fun w hO => (rsetMake_ok V1 VM c1 cM (yT (a.take k)) (uP (yT (a.take k)) (yS (a.take k))) w (Sl.reads hrel.2.1 rfl hO (fun x hx => by simp [hx])) (Sl.reads hM rfl hO (fun x hx => by simp [hx])) (gV a k hn) hmf (by decide) (by decide)).mono fun e w' ⟨v', ob', k1, k2, k3⟩ => ⟨v', _, k1, ⟨ob', rfl, k2⟩, Own.joinN hO k3⟩) (fun vk Lx hvx => ?_)
  obtain ⟨oK, rfl, hK⟩ := hvx
  obtain ⟨kv, rfl, hK⟩ := hK
  obtain ⟨VK, UK, cK, dK, rfl⟩ := hK.form
  refine qJ (L' := ⟨b1, ZM, 31⟩ :: (oK)) (fun w hO => own_last hO) (Zv (.tuple #[.agg #[.slice VK ((yB (a.take k)).rel.length) cK, .slice UK ((yB (a.take k)).pre.length) dK], .bool true]) (Zv (.agg #[.slice VK ((yB (a.take k)).rel.length) cK, .slice UK ((yB (a.take k)).pre.length) dK]) (Zv Z4 (Za (.agg ZM) (fun b2 => Zs 0 ⟨b2, ZM, 31⟩ (off := 0) (.agg #[.slice VK ((yB (a.take k)).rel.length) cK, .slice UK ((yB (a.take k)).pre.length) dK]) (Zv Z4 (ZR (Zl 0 ⟨b2, #[.slice VK ((yB (a.take k)).rel.length) cK, .slice UK ((yB (a.take k)).pre.length) dK], 31⟩ (off := 0) (.agg #[.slice VK ((yB (a.take k)).rel.length) cK, .slice UK ((yB (a.take k)).pre.length) dK]) ?_))))))))
  exact Zs 1 ⟨b1, ZM, 31⟩ (off := 0) (.agg #[.slice VK ((yB (a.take k)).rel.length) cK, .slice UK ((yB (a.take k)).pre.length) dK]) (ZN (zC (ZC 1 ⟨b1, #[.slice VK ((yB (a.take k)).rel.length) cK, .slice UK ((yB (a.take k)).pre.length) dK], 31⟩ (off := 0) (.agg #[.slice VK ((yB (a.take k)).rel.length) cK, .slice UK ((yB (a.take k)).pre.length) dK]) Tryz.results50 (fun w hO => ⟨_, oK, rfl, by rw [List.take_of_length_le (by omega)] at hK ⊢; exact hK, own_two hO⟩))))
theorem rsSet_any (A : Option Addr) (cap : Nat) (xs : List Al) (W : World) (hv : RgIn W W.heap.size A xs) : Calls Tryz.prog 24 #[.agg #[.slice A xs.length cap]] W fun e w' => ∃ v' ob', e = .returned v' ∧ SetO v' (x9 (yK xs)) ob' ∧ Own [] W w' ob' := by
  have hn := hv.n
  refine Z2 (n := 26) Tryz.func24 rfl (ZO (Zb (.agg #[.slice A xs.length cap]) (fun b1 => Za (.agg ZM) (fun b2 => ZR (Zc (k := 34) (args := #[]) (.agg ZM) (fun w _ => bR w) (Za (.agg ZM) (fun b3 => Zs 0 ⟨b3, ZM, 31⟩ (off := 0) (.agg ZM) ?_)))))))
  refine ZN (z7 (ZO (Zl 2 ⟨b1, #[.slice A xs.length cap], 25⟩ (off := 0) (.agg #[.slice A xs.length cap]) (Zc (k := 20) (args := #[.agg #[.slice A xs.length cap]]) (.bool (rgMay (yK xs))) (fun w hO => rsMay_any A cap xs w (hv.on hO.below hO.below.size)) ?_))))
  cases h1 : rgMay (yK xs) with
  | true =>
    refine Zv Z5 (ZX (ZB (z7 (ZO (Zv (.int .i64 0) (zO (zB ?_)))))))
    refine zM (yN (fun L f m => ∃ (i : Nat) (V : Option Addr) (U : Option Addr) (c : Nat) (d : Nat) (s : St) (os : List Blk) (j : Nat → Value), (i ≤ xs.length ∧ s = xF ((yK xs).take i) ∧ SetO (.agg #[.slice V s.rel.length c, .slice U s.pre.length d]) s os) ∧ L = ⟨b3, #[.slice V s.rel.length c, .slice U s.pre.length d], 31⟩ :: ⟨b2, ZM, 31⟩ :: ⟨b1, #[.slice A xs.length cap], 25⟩ :: os ∧ f = xZ j [(1, Zp b1 0), (2, Zp b2 0), (3, Zp b3 0), (4, .int .i64 (i : Int))] ∧ m = xs.length - i) (xs.length - 0) ⟨0, none, none, 0, 0, gD, [], _, ⟨Nat.zero_le _, rfl, SetO.none⟩, rfl, ZU, rfl⟩ ?_)
    rintro L f m ⟨i, V, U, c, d, s, os, j, hrel, rfl, rfl, rfl⟩
    have hil := hrel.1; have hsf : SF s 198 := hrel.2.1 ▸ orAll_le (rgMay.facts h1).1 i
    refine z7 (ZO (Zv (.int .i64 (i : Int)) (Zv (Zp b1 0) (Zl 2 ⟨b1, #[.slice A xs.length cap], 25⟩ (off := 0) (.slice A xs.length cap) (Zv (.int .i64 (xs.length : Int)) ?_)))))
    by_cases h2 : (i : Int) < (xs.length : Int)
    · have hi : i < xs.length := by omega
      obtain ⟨b, off, hA, hlt, hcell⟩ := hv.top (by omega)
      obtain ⟨x, hx⟩ : ∃ x, xs[i] = x := ⟨_, rfl⟩
      have hxm : x ∈ xs := hx ▸ List.getElem_mem hi
      have hxn := hv.m x hxm
      refine Zg h2 (ZY (ZB (z7 (zM (xE (⟨b2, ZM, 31⟩ :: (⟨b1, #[.slice A xs.length cap], 25⟩ :: (os))) (by kernel_rfl) (fun w hO => Own.sub [⟨b3, #[.slice V s.rel.length c, .slice U s.pre.length d], 31⟩] hO) (ZT 1 [⟨b3, #[.slice V s.rel.length c, .slice U s.pre.length d], 31⟩] _ (Zp b1 0) (zI (zD (zZ (zI (zD zH))))) rfl (ZL 2 [⟨b3, #[.slice V s.rel.length c, .slice U s.pre.length d], 31⟩] _ 1 ⟨b1, #[.slice A xs.length cap], 25⟩ (off := 0) (.slice A xs.length cap) (zI (zD (zZ (zI (zD zH))))) rfl rfl (ZT 3 [⟨b3, #[.slice V s.rel.length c, .slice U s.pre.length d], 31⟩] _ (.int .i64 (i : Int)) (zI (zD (zZ (zI (zD zH))))) rfl ?_))))))))
      refine vS 4 [⟨b3, #[.slice V s.rel.length c, .slice U s.pre.length d], 31⟩] _ (Zp b (off + i * 1)) rfl (by kernel_rfl) (by kernel_rfl) (by kernel_rfl) (zI (zD (zZ (zI (zD zH))))) (by kernel_rfl) (fun w _ => vL (b := b) (off := off) (c := cap) (n := xs.length) (k := .i64) (j := (i : Int)) (e := 47) (sz := 1) rfl (by kernel_rfl) hA (by kernel_rfl) (by kernel_rfl) (by kernel_rfl) (by omega) (by omega) (by omega) w) (f5 5 _ (a := ⟨b, off + i * 1, none⟩) (.slice x.A x.l.length x.cap) rfl (by kernel_rfl) (by kernel_rfl) (by kernel_rfl) (zI (zD (zZ (zI (zD zH))))) (fun w hO => Own.sub [⟨b3, #[.slice V s.rel.length c, .slice U s.pre.length d], 31⟩] hO) (by kernel_rfl) rfl (by kernel_rfl) (fun w hO => zX gO (fun j u h => (hO.below.cell (p := ⟨b, off + j, none⟩) hlt).trans (hcell j u h)) i 0 hi (by omega) _ (by rw [hx]; kernel_rfl)) (uR 0 6 (by kernel_rfl) ?_ ?_))
      · refine hs_val [⟨b3, #[.slice V s.rel.length c, .slice U s.pre.length d], 31⟩] _ (.agg #[.slice V s.rel.length c, .slice U s.pre.length d]) rfl (by kernel_rfl) (fun w hO => gE (a := ⟨b3, 0, none⟩) rfl (by kernel_rfl) (gI (off := 0) (cs := (⟨b3, #[.slice V s.rel.length c, .slice U s.pre.length d], 31⟩ : Blk).cs) (by kernel_rfl) (hO.held ⟨b3, #[.slice V s.rel.length c, .slice U s.pre.length d], 31⟩ (by simp)))) (Zz 6 (kA _ (k := 50) (args := #[.slice x.A x.l.length x.cap]) (fun v' L' => ∃ ob', L' = ob' ++ ([⟨b3, #[.slice V s.rel.length c, .slice U s.pre.length d], 31⟩] ++ (⟨b2, ZM, 31⟩ :: (⟨b1, #[.slice A xs.length cap], 25⟩ :: (os)))) ∧ SetO v' (yB x.l) ob') rfl (by kernel_rfl) (fun _ => by kernel_rfl) (fun w hO => (rsalt_any x.A x.cap x.l w ((hv.each x hxm).on hO.below hO.below.size) hxn (hv.short x hxm)).mono fun e w' ⟨v', ob', k1, k2, k3⟩ => ⟨v', _, k1, ⟨ob', rfl, k2⟩, Own.joinN hO k3⟩) (fun v' L' ⟨ob', e, _⟩ w hO => by subst e; exact Own.sub [⟨b3, #[.slice V s.rel.length c, .slice U s.pre.length d], 31⟩] (Own.sub ob' hO)) (fun va L2 hv2 => ?_)))
        obtain ⟨oa, rfl, ha⟩ := hv2
        obtain ⟨V1, U1, c1, d1, rfl⟩ := ha.form
        refine gK (L' := (oa ++ ([⟨b3, #[.slice V s.rel.length c, .slice U s.pre.length d], 31⟩] : List Blk)) ++ (⟨b2, ZM, 31⟩ :: (⟨b1, #[.slice A xs.length cap], 25⟩ :: (os)))) (List.append_assoc _ _ _).symm (Zz 7 (kA _ (k := 35) (args := #[.agg #[.slice V s.rel.length c, .slice U s.pre.length d], .agg #[.slice V1 ((yB x.l).rel.length) c1, .slice U1 ((yB x.l).pre.length) d1]]) (fun v' L' => ∃ ob', L' = ob' ++ ((oa ++ ([⟨b3, #[.slice V s.rel.length c, .slice U s.pre.length d], 31⟩] : List Blk)) ++ (⟨b2, ZM, 31⟩ :: (⟨b1, #[.slice A xs.length cap], 25⟩ :: (os)))) ∧ SetO v' (orT s (yB x.l)) ob') rfl (by kernel_rfl) (fun _ => by kernel_rfl) (fun w hO => (rsetOr_any V U V1 U1 c d c1 d1 s (yB x.l) w (SetO.inn hrel.2.2 hO (fun x hx => by simp [hx]) hsf (by decide)) (SetO.inn ha hO (fun x hx => by simp [hx]) ((jJ x.l).le (by omega : _ ≤ 100000)) (Nat.le_refl _))).mono fun e w' ⟨v', ob', k1, k2, k3⟩ => ⟨v', _, k1, ⟨ob', rfl, by rw [if_pos (by rw [hsf.may, (jJ x.l).may]; rfl)] at k2; exact k2⟩, Own.joinN hO k3⟩) (fun v' L' ⟨ob', e, _⟩ w hO => by subst e; exact Own.sub (oa ++ ([⟨b3, #[.slice V s.rel.length c, .slice U s.pre.length d], 31⟩] : List Blk)) (Own.sub ob' hO)) (fun vb L2 hv2 => ?_)))
        obtain ⟨ob, rfl, hb⟩ := hv2
        obtain ⟨V2, U2, c2, d2, rfl⟩ := hb.form
        refine gK (L' := (ob ++ (oa ++ ([⟨b3, #[.slice V s.rel.length c, .slice U s.pre.length d], 31⟩] : List Blk))) ++ (⟨b2, ZM, 31⟩ :: (⟨b1, #[.slice A xs.length cap], 25⟩ :: (os)))) (List.append_assoc _ _ _).symm (Zz 8 (fU (E' := (⟨b3, #[.slice V s.rel.length c, .slice U s.pre.length d], 31⟩ :: (ob ++ (oa ++ ([] : List Blk))))) (by simpa [List.append_assoc] using (List.perm_middle (a := ⟨b3, #[.slice V s.rel.length c, .slice U s.pre.length d], 31⟩) (l₁ := (ob ++ (oa ++ ([] : List Blk)))) (l₂ := []))) (ZS (⟨b3, #[.slice V s.rel.length c, .slice U s.pre.length d], 31⟩ :: (ob ++ (oa ++ ([] : List Blk)))) _ 0 ⟨b3, #[.slice V s.rel.length c, .slice U s.pre.length d], 31⟩ (off := 0) (.agg #[.slice V2 ((orT s (yB x.l)).rel.length) c2, .slice U2 ((orT s (yB x.l)).pre.length) d2]) rfl rfl (ZZ (zP (zB (zA (Zv (.int .i64 (i : Int)) (Zu (k := .i64) (((i + 1 : Nat) : Int)) (IntWalk.i64_in _ (by omega)) (Zv (.int .i64 ((i + 1 : Nat) : Int)) (zO ?_)))))))))))
        exact xB (L' := ⟨b3, #[.slice V2 ((orT s (yB x.l)).rel.length) c2, .slice U2 ((orT s (yB x.l)).pre.length) d2], 31⟩ :: ⟨b2, ZM, 31⟩ :: ⟨b1, #[.slice A xs.length cap], 25⟩ :: ob) (fun w hO => own_sets hO) (zS (m' := xs.length - (i + 1)) (by omega) ⟨i + 1, V2, U2, c2, d2, _, ob, _, ⟨by omega, by rw [nQ (by rw [k8]; exact hi) (bW hi hx), ← hrel.2.1], hb⟩, rfl, ZU, rfl⟩)
      refine kA _ (k := 50) (args := #[.slice x.A x.l.length x.cap]) (fun v' L' => ∃ ob', L' = ob' ++ ([⟨b3, #[.slice V s.rel.length c, .slice U s.pre.length d], 31⟩] ++ (⟨b2, ZM, 31⟩ :: (⟨b1, #[.slice A xs.length cap], 25⟩ :: (os)))) ∧ SetO v' (yB x.l) ob') rfl (by kernel_rfl) (fun _ => by kernel_rfl) (fun w hO => (rsalt_any x.A x.cap x.l w ((hv.each x hxm).on hO.below hO.below.size) hxn (hv.short x hxm)).mono fun e w' ⟨v', ob', k1, k2, k3⟩ => ⟨v', _, k1, ⟨ob', rfl, k2⟩, Own.joinN hO k3⟩) (fun v' L' ⟨ob', e, _⟩ w hO => by subst e; exact Own.sub [⟨b3, #[.slice V s.rel.length c, .slice U s.pre.length d], 31⟩] (Own.sub ob' hO)) (fun va L2 hv2 => ?_)
      obtain ⟨oa, rfl, ha⟩ := hv2
      obtain ⟨V1, U1, c1, d1, rfl⟩ := ha.form
      refine gK (L' := (oa ++ ([⟨b3, #[.slice V s.rel.length c, .slice U s.pre.length d], 31⟩] : List Blk)) ++ (⟨b2, ZM, 31⟩ :: (⟨b1, #[.slice A xs.length cap], 25⟩ :: (os)))) (List.append_assoc _ _ _).symm (Zz 0 (hs_val (oa ++ ([⟨b3, #[.slice V s.rel.length c, .slice U s.pre.length d], 31⟩] : List Blk)) _ (.agg #[.slice V s.rel.length c, .slice U s.pre.length d]) rfl (by kernel_rfl) (fun w hO => gE (a := ⟨b3, 0, none⟩) rfl (by kernel_rfl) (gI (off := 0) (cs := (⟨b3, #[.slice V s.rel.length c, .slice U s.pre.length d], 31⟩ : Blk).cs) (by kernel_rfl) (hO.held ⟨b3, #[.slice V s.rel.length c, .slice U s.pre.length d], 31⟩ (by simp)))) (Zz 7 (kA _ (k := 35) (args := #[.agg #[.slice V s.rel.length c, .slice U s.pre.length d], .agg #[.slice V1 ((yB x.l).rel.length) c1, .slice U1 ((yB x.l).pre.length) d1]]) (fun v' L' => ∃ ob', L' = ob' ++ ((oa ++ ([⟨b3, #[.slice V s.rel.length c, .slice U s.pre.length d], 31⟩] : List Blk)) ++ (⟨b2, ZM, 31⟩ :: (⟨b1, #[.slice A xs.length cap], 25⟩ :: (os)))) ∧ SetO v' (orT s (yB x.l)) ob') rfl (by kernel_rfl) (fun _ => by kernel_rfl) (fun w hO => (rsetOr_any V U V1 U1 c d c1 d1 s (yB x.l) w (SetO.inn hrel.2.2 hO (fun x hx => by simp [hx]) hsf (by decide)) (SetO.inn ha hO (fun x hx => by simp [hx]) ((jJ x.l).le (by omega : _ ≤ 100000)) (Nat.le_refl _))).mono fun e w' ⟨v', ob', k1, k2, k3⟩ => ⟨v', _, k1, ⟨ob', rfl, by rw [if_pos (by rw [hsf.may, (jJ x.l).may]; rfl)] at k2; exact k2⟩, Own.joinN hO k3⟩) (fun v' L' ⟨ob', e, _⟩ w hO => by subst e; exact Own.sub (oa ++ ([⟨b3, #[.slice V s.rel.length c, .slice U s.pre.length d], 31⟩] : List Blk)) (Own.sub ob' hO)) (fun vb L2 hv2 => ?_)))))
      obtain ⟨ob, rfl, hb⟩ := hv2
      obtain ⟨V2, U2, c2, d2, rfl⟩ := hb.form
      refine gK (L' := (ob ++ (oa ++ ([⟨b3, #[.slice V s.rel.length c, .slice U s.pre.length d], 31⟩] : List Blk))) ++ (⟨b2, ZM, 31⟩ :: (⟨b1, #[.slice A xs.length cap], 25⟩ :: (os)))) (List.append_assoc _ _ _).symm (Zz 8 (fU (E' := (⟨b3, #[.slice V s.rel.length c, .slice U s.pre.length d], 31⟩ :: (ob ++ (oa ++ ([] : List Blk))))) (by simpa [List.append_assoc] using (List.perm_middle (a := ⟨b3, #[.slice V s.rel.length c, .slice U s.pre.length d], 31⟩) (l₁ := (ob ++ (oa ++ ([] : List Blk)))) (l₂ := []))) (ZS (⟨b3, #[.slice V s.rel.length c, .slice U s.pre.length d], 31⟩ :: (ob ++ (oa ++ ([] : List Blk)))) _ 0 ⟨b3, #[.slice V s.rel.length c, .slice U s.pre.length d], 31⟩ (off := 0) (.agg #[.slice V2 ((orT s (yB x.l)).rel.length) c2, .slice U2 ((orT s (yB x.l)).pre.length) d2]) rfl rfl (ZZ (zP (zB (zA (Zv (.int .i64 (i : Int)) (Zu (k := .i64) (((i + 1 : Nat) : Int)) (IntWalk.i64_in _ (by omega)) (Zv (.int .i64 ((i + 1 : Nat) : Int)) (zO ?_)))))))))))
      exact xB (L' := ⟨b3, #[.slice V2 ((orT s (yB x.l)).rel.length) c2, .slice U2 ((orT s (yB x.l)).pre.length) d2], 31⟩ :: ⟨b2, ZM, 31⟩ :: ⟨b1, #[.slice A xs.length cap], 25⟩ :: ob) (fun w hO => own_sets hO) (zS (m' := xs.length - (i + 1)) (by omega) ⟨i + 1, V2, U2, c2, d2, _, ob, _, ⟨by omega, by rw [nQ (by rw [k8]; exact hi) (bW hi hx), ← hrel.2.1], hb⟩, rfl, ZU, rfl⟩)
    refine Zh h2 (ZX (y7 (zF (zN (zJ (zB (ZO (Zl 0 ⟨b3, #[.slice V s.rel.length c, .slice U s.pre.length d], 31⟩ (off := 0) (.agg #[.slice V s.rel.length c, .slice U s.pre.length d]) ?_))))))))
    exact Zs 1 ⟨b2, ZM, 31⟩ (off := 0) (.agg #[.slice V s.rel.length c, .slice U s.pre.length d]) (ZN (zC (ZC 1 ⟨b2, #[.slice V s.rel.length c, .slice U s.pre.length d], 31⟩ (off := 0) (.agg #[.slice V s.rel.length c, .slice U s.pre.length d]) Tryz.results24 (fun w hO => ⟨_, os, rfl, by unfold x9; rw [if_pos h1]; have q := hrel.2.1; rw [List.take_of_length_le (by rw [k8]; omega)] at q; rw [← q]; exact hrel.2.2, Own.sub [_, _, _] hO⟩))))
  | false =>
    refine Zv Z4 (ZY (ZO (Zl 0 ⟨b3, ZM, 31⟩ (off := 0) (.agg ZM) (Zs 1 ⟨b2, ZM, 31⟩ (off := 0) (.agg ZM) (ZN (zC (z6 ?_)))))))
    exact ZC 1 ⟨b2, ZM, 31⟩ (off := 0) (.agg ZM) Tryz.results24 (fun w hO => ⟨_, [], rfl, by unfold x9; rw [if_neg (by simp [h1])]; exact SetO.none, kK hO⟩)
theorem fine_get {s : List UInt8} (h : jM s = 0) : FineR ((kC s).getD []) := by
  cases hp : kC s with
  | none => rcases err_none hp with e | e <;> rw [e] at h <;> exact absurd h (by decide)
  | some r => exact fine_few (rgMay.facts (fX hp).2.1).1
end
section
def wideG : List UInt8 → List UInt8
  | [] => []
  | b :: t => (if b = 44 then [32] else []) ++ b :: ((if b = 44 ∨ (b = 124 ∧ t ≠ [] ∧ ¬ t.head? = some 124) then [32, 32] else []) ++ wideG t)
def wideA : List Co → List UInt8
  | [] => []
  | [c] => c.print
  | c :: d :: a => c.print ++ ([32, 44, 32, 32, 32] ++ wideA (d :: a))
def genA (l : List Int) (i a : Nat) : List Co := (List.range ((plc (atL l (i + 1 + a)) 3).toNat + 1)).map fun k => genCo l (i + 4 + 21 * a + 7 * k)
def genR0 (l : List Int) (i : Nat) : List (List Co) := (List.range ((plc (atL l i) 3).toNat + 1)).map fun a => genA l i a
def genRg (l : List Int) (i : Nat) : List (List Co) := if rgMay (genR0 l i) then genR0 l i else [[genCo l (i + 4)]]
end
section
instance : DecidableEq St := fun a b => decidable_of_iff (a.rel = b.rel ∧ a.pre = b.pre) ⟨fun h => St.eq h.1 h.2, fun h => by rw [h]; exact ⟨rfl, rfl⟩⟩
theorem same_g (a b : St) : (decide (a.rel = b.rel) && decide (a.pre = b.pre)) = decide (a = b) := by
  rw [← Bool.decide_and]; exact decide_eq_decide.2 ⟨fun h => St.eq h.1 h.2, fun h => by rw [h]; exact ⟨rfl, rfl⟩⟩
end
section
theorem altsL_index : ∀ (s acc : List UInt8), gG acc s = if Lib.index s [124, 124] = -1 then [acc ++ s] else (acc ++ s.take (Lib.index s [124, 124]).toNat) :: gG [] (s.drop ((Lib.index s [124, 124]).toNat + 2))
  | [], acc => by simp [gG, Lib.index]
  | [c], acc => by simp [gG, Lib.index, List.isPrefixOf]
  | c :: d :: r, acc => by
    by_cases h : c = 124 ∧ d = 124
    · obtain ⟨rfl, rfl⟩ := h
      have e : Lib.index (124 :: 124 :: r) [124, 124] = 0 := by simp [Lib.index, List.isPrefixOf]
      rw [e, gG, if_pos ⟨rfl, rfl⟩, if_neg (by decide)]; simp
    · have hp : List.isPrefixOf ([124, 124] : List UInt8) (c :: d :: r) = false := by
        rw [List.isPrefixOf, List.isPrefixOf, List.isPrefixOf]
        by_cases hc : c = 124
        · have hd : ¬ d = 124 := fun q => h ⟨hc, q⟩
          have : ((124 : UInt8) == d) = false := beq_eq_false_iff_ne.2 (Ne.symm hd)
          simp [this]
        · have : ((124 : UInt8) == c) = false := beq_eq_false_iff_ne.2 (Ne.symm hc)
          simp [this]
      have ge := Lib.index_ge (d :: r) [124, 124]
      rw [gG, if_neg h, altsL_index (d :: r) (acc ++ [c])]
      have e : Lib.index (c :: d :: r) [124, 124] = if Lib.index (d :: r) [124, 124] = -1 then -1 else Lib.index (d :: r) [124, 124] + 1 := by
        conv => lhs; rw [Lib.index]
        rw [hp, if_neg (by decide)]
        simp
      rw [e]
      generalize Lib.index (d :: r) [124, 124] = n at ge
      by_cases hn : n = -1
      · subst hn; simp
      · rw [if_neg hn, if_neg hn, if_neg (by omega)]
        have e2 : (n + 1).toNat = n.toNat + 1 := by omega
        rw [e2, List.take_succ_cons, show n.toNat + 1 + 2 = (n.toNat + 2) + 1 from by omega, List.drop_succ_cons]
        simp
theorem splitK_from (sep : List UInt8) : ∀ (f : Nat) (s : List UInt8), s.length < f → Lib.splitK sep 0 (Lib.countFrom sep f s) s = if Lib.index s sep = -1 then [s] else s.take (Lib.index s sep).toNat :: Lib.splitK sep 0 (Lib.countFrom sep (f - 1) (s.drop ((Lib.index s sep).toNat + sep.length))) (s.drop ((Lib.index s sep).toNat + sep.length))
  | f + 1, s, h => by
    rw [Lib.countFrom]
    by_cases q : Lib.index s sep = -1
    · rw [if_pos (by simp [q]), if_pos q, Lib.splitK]
    · rw [if_neg (by simp [q]), if_neg q, Nat.add_comm 1, Lib.splitK, if_neg (by simp [q]), Nat.add_zero]; rfl
theorem alts_from : ∀ (f : Nat) (s : List UInt8), s.length < f → Lib.splitK [124, 124] 0 (Lib.countFrom [124, 124] f s) s = gG [] s
  | f + 1, s, h => by
    rw [splitK_from _ _ _ h, altsL_index s []]
    by_cases q : Lib.index s [124, 124] = -1
    · rw [if_pos q, if_pos q]; rfl
    · have hr := Lib.index_room s [124, 124] (by have := Lib.index_ge s [124, 124]; omega)
      rw [if_neg q, if_neg q]
      show _ :: Lib.splitK [124, 124] 0 (Lib.countFrom [124, 124] f _) _ = _
      rw [alts_from f _ (by rw [List.length_drop]; simp only [List.length_cons, List.length_nil]; simp only [List.length_cons, List.length_nil] at hr; have := Lib.index_ge s [124, 124]; omega)]
      rfl
theorem split_alts (s : List UInt8) : Lib.splitK [124, 124] 0 (Lib.count s [124, 124]) s = gG [] s := alts_from _ s (Nat.lt_succ_self _)
theorem cut_index (b : UInt8) (s : List UInt8) : yX b [] s = if Lib.index s [b] = -1 then [s] else s.take (Lib.index s [b]).toNat :: yX b [] (s.drop ((Lib.index s [b]).toNat + 1)) := by
  have hc := cutAt_cut b s
  have hge := Lib.index_ge s [b]
  rw [uL, ← hc]
  unfold Lib.cut
  by_cases h : Lib.index s [b] = -1
  · have h2 : ¬ 0 ≤ Lib.index s [b] := by omega
    simp [h]
  · have h2 : 0 ≤ Lib.index s [b] := by omega
    simp [h, h2]
theorem cuts_from (b : UInt8) : ∀ (f : Nat) (s : List UInt8), s.length < f → Lib.splitK [b] 0 (Lib.countFrom [b] f s) s = yX b [] s
  | f + 1, s, h => by
    rw [splitK_from _ _ _ h, cut_index b s]
    by_cases q : Lib.index s [b] = -1
    · rw [if_pos q, if_pos q]
    · have hr := Lib.index_room s [b] (by have := Lib.index_ge s [b]; omega)
      rw [if_neg q, if_neg q]
      show _ :: Lib.splitK [b] 0 (Lib.countFrom [b] f _) _ = _
      rw [cuts_from b f _ (by rw [List.length_drop]; simp only [List.length_cons, List.length_nil]; simp only [List.length_cons, List.length_nil] at hr; have := Lib.index_ge s [b]; omega)]
      rfl
theorem split_cuts (b : UInt8) (s : List UInt8) : Lib.splitK [b] 0 (Lib.count s [b]) s = yX b [] s := cuts_from b _ s (Nat.lt_succ_self _)
theorem splitB_list (sep : List UInt8) (k : Nat) (s : List UInt8) : Lib.splitB (mkS sep) 0 k (mkS s) = (Lib.splitK sep 0 k s).map mkS := by
  have h := Lib.splitB_data (mkS sep) 0 k (mkS s)
  rw [mk_data, mk_data] at h
  rw [← h, List.map_map]
  refine ((List.map_congr_left fun x _ => ?_).trans (List.map_id _)).symm
  exact Lib.mk_data x
theorem splitB_alts (s : List UInt8) : Lib.splitB (mkS [124, 124]) 0 (Lib.countB (mkS s) (mkS [124, 124])) (mkS s) = (gG [] s).map mkS := by
  rw [splitB_list, show Lib.countB (mkS s) (mkS [124, 124]) = Lib.count s [124, 124] from by unfold Lib.countB; rw [mk_data, mk_data], split_alts]
theorem splitB_cuts (b : UInt8) (s : List UInt8) : Lib.splitB (mkS [b]) 0 (Lib.countB (mkS s) (mkS [b])) (mkS s) = (yX b [] s).map mkS := by
  rw [splitB_list, show Lib.countB (mkS s) (mkS [b]) = Lib.count s [b] from by unfold Lib.countB; rw [mk_data, mk_data], split_cuts]
theorem pK : ∀ (s : List UInt8), Lib.trimLeftB s 32 = kU s
  | [] => rfl
  | c :: l => by
    unfold Lib.trimLeftB
    rw [kU, List.dropWhile_cons]
    by_cases h : c = 32
    · subst h
      rw [if_pos (by decide), if_pos rfl]; exact pK l
    · rw [if_neg (by simp [h]), if_neg h]
def bareR (s : List UInt8) : List UInt8 := (kU s.reverse).reverse
theorem bareF_snoc {c : UInt8} (h : c ≠ 32) : ∀ (x : List UInt8), kU (x ++ [c]) = kU x ++ [c]
  | [] => by
    show kU [c] = [c]
    rw [kU]; exact if_neg h
  | d :: x => by
    rw [List.cons_append, kU, kU]
    by_cases q : d = 32
    · rw [if_pos q, if_pos q, bareF_snoc h x]
    · rw [if_neg q, if_neg q]; rfl
theorem tP : ∀ (x : List UInt8), kU (x ++ [32]) = if kU x = [] then [] else kU x ++ [32]
  | [] => by simp [kU]
  | d :: x => by
    rw [List.cons_append, kU, kU]
    by_cases q : d = 32
    · rw [if_pos q, if_pos q, tP x]
    · rw [if_neg q, if_neg q, if_neg (by simp)]; rfl
theorem bare_swap : ∀ (s : List UInt8), kU (bareR s) = bareR (kU s)
  | [] => rfl
  | c :: l => by
    have ih := bare_swap l
    by_cases h : c = 32
    · subst h
      rw [show kU (32 :: l) = kU l from by rw [kU, if_pos rfl], ← ih]
      unfold bareR
      rw [List.reverse_cons, tP]
      by_cases q : kU l.reverse = []
      · rw [if_pos q, q]
      · rw [if_neg q, List.reverse_append]
        show kU (32 :: (kU l.reverse).reverse) = _
        rw [kU, if_pos rfl]
    · rw [show kU (c :: l) = c :: l from by rw [kU, if_neg h]]
      unfold bareR
      rw [List.reverse_cons, bareF_snoc h, List.reverse_append]
      show kU (c :: (kU l.reverse).reverse) = c :: (kU l.reverse).reverse
      rw [kU, if_neg h]
theorem trim_bare (s : List UInt8) : Lib.trimB s 32 = kE s := by
  unfold Lib.trimB Lib.trimRightB
  have e : ∀ l : List UInt8, l.dropWhile (· == 32) = kU l := pK
  rw [e, pK]
  exact bare_swap s
def wT (r : List (List Co)) : List UInt8 := if fewR r then kH r else []
theorem altText_ne {a : List Co} (h : fewA a = true) : xG a ≠ [] := by
  obtain ⟨h1, h2⟩ := fewA.facts h
  cases a with
  | nil => exact absurd h1.1 (by decide)
  | cons c l =>
    have hc : c.print ≠ [] := by
      rw [qF (h2 c (List.mem_cons_self ..))]
      exact text_ne (h2 c (List.mem_cons_self ..))
    unfold xG
    cases l with
    | nil => exact hc
    | cons d l => 
      rw [List.map_cons, List.map_cons, mL]
      intro e
      exact hc (List.append_eq_nil_iff.1 (List.append_eq_nil_iff.1 e).1).1
theorem rgText_ne {r : List (List Co)} (h : fewR r = true) : kH r ≠ [] := by
  obtain ⟨h1, h2⟩ := fewR.facts h
  cases r with
  | nil => exact absurd h1.1 (by decide)
  | cons a l =>
    have hc := altText_ne (h2 a (List.mem_cons_self ..))
    unfold kH
    cases l with
    | nil => exact hc
    | cons d l =>
      rw [List.map_cons, List.map_cons, mL]
      intro e
      exact hc (List.append_eq_nil_iff.1 (List.append_eq_nil_iff.1 e).1).1
theorem textR_nil {r : List (List Co)} : wT r = [] ↔ fewR r = false := by
  unfold wT
  cases h : fewR r with
  | false => simp
  | true => simp [rgText_ne h]
theorem print_text (r : List (List Co)) : gN r = if 96 < (wT r).length then [] else wT r := by
  unfold gN rgMay wT
  cases fewR r with
  | false => simp
  | true =>
    by_cases h : (kH r).length ≤ 96
    · simp [h, Nat.not_lt.2 h]
    · simp [h, Nat.lt_of_not_le h]
theorem print_nil (r : List (List Co)) : gN r = [] ↔ rgMay r = false := by
  unfold gN
  cases h : rgMay r with
  | false => simp
  | true => simp [rgText_ne (rgMay.facts h).1]
end
section
theorem grow_inner (B b n : Nat) (w : World) (hB : B ≤ b) (hbk : w.heap[b]? = some (.cells #[.pointer (some ⟨b, 0, none⟩), .slice none 0 0] 139 (0, 0))) (hBw : B ≤ w.heap.size) (hn : n ≤ 281474976710656) :
    Calls Tryz.prog 169 #[.pointer (some ⟨b, 0, none⟩), .int .i64 n] w fun e w' => e = .returned (.tuple #[]) ∧ (Lib.BuilderAt 139 5 B b (.pointer (some ⟨b, 0, none⟩)) [] w' ∧ Below B w w') := by
  obtain ⟨cs, hrun, hle, hmax⟩ := Lib.run_makeNoZero (P := Tryz.prog) w.drew #[3] 137 5 Tryz.underlying137 n hn
  have hlt : b < w.heap.size := by
    rcases Nat.lt_or_ge b w.heap.size with h | h
    · exact h
    · simp [Array.getElem?_eq_none h] at hbk
  have hw : IntKind.i64.wrap (IntKind.i64.wrap 0 + (n : Int)) = n := by
    rw [IntKind.wrap_i64, IntKind.wrap_i64]; omega
  have hcall : (callFunc 199 #[.int .i64 (IntKind.i64.wrap (IntKind.i64.wrap 0 + (n : Int)))]).run Tryz.prog w.drew = .ok (.value (.slice (some ⟨w.drew.heap.size, 0, none⟩) n cs.size)) (w.drew.drew.drew.alloc (.cells cs 5)) := by
    rw [hw, run_callFunc_extern Tryz.func199 (by kernel_rfl) (by kernel_rfl) (by kernel_rfl) (e := Extern.BytealgMakeNoZero.makeNoZero #[3] #[137]) (by kernel_rfl), hrun]
    rfl
  have c1 : w.drew.cell? ⟨b, 1, none⟩ = some (.slice none 0 0) := by
    have : w.drew.heap[b]? = _ := hbk
    rw [Lib.cell_of_heap this]; rfl
  have hb2 : (w.alloc (.cells cs 5)).heap[b]? = _ := (Lib.alloc_old w _ b hlt).trans hbk
  have c2 : (w.alloc (.cells cs 5)).cell? ⟨b, 1, none⟩ = some (.slice none 0 0) := by rw [Lib.cell_of_heap hb2]; rfl
  have f2 : (w.alloc (.cells cs 5)).frozen? ⟨b, 1, none⟩ = false := Lib.frozen_of_heap hb2 1
  have hcopy : ∀ W : World, (Builtin.copy_ #[137, 137] 3 #[.slice (some ⟨w.heap.size, 0, none⟩) 0 cs.size, .slice none 0 0]).run Tryz.prog W = .ok (goInt 0) W :=
    fun W => run_copy_none W 137 137 3 5 _ _ 0 cs.size 0 0 Tryz.underlying137 (by kernel_rfl) rfl
  clear hw hlt hb2
  have mixed : Tryz.prog.follows .mixedOrders = true := by kernel_rfl
  go_enter Tryz.func169, Tryz.ntmps169
  go_wp2
  have hfin := Lib.grown_fresh (T := 139) (e := 5) (cs := cs) hB hbk hBw (hmax (by unfold maxLen; omega)) (by decide)
  have hbel : Below B w ((w.alloc (.cells cs 5)).setCell ⟨b, 1, none⟩ (.slice (some ⟨w.heap.size, 0, none⟩) 0 cs.size)).drew.drew.drew := ((((Below.refl B w).alloc hBw _).setCell (p := ⟨b, 1, none⟩) hB _).drew).drew.drew
  go_region_o
  all_goals (go_wp2; go_end0; exact ⟨rfl, hfin.1, hbel⟩)
theorem grow_fresh (B b n : Nat) (w : World) (hB : B ≤ b) (hbk : w.heap[b]? = some (.cells #[.pointer none, .slice none 0 0] 139 (0, 0))) (hBw : B ≤ w.heap.size) (hn : n ≤ 281474976710656) :
    Calls Tryz.prog 120 #[.pointer (some ⟨b, 0, none⟩), .int .i64 n] w fun e w' => e = .returned (.tuple #[]) ∧ (Lib.BuilderAt 139 5 B b (.pointer (some ⟨b, 0, none⟩)) [] w' ∧ Below B w w') := by
  obtain ⟨w1, hw1⟩ : ∃ x, x = w.setCell ⟨b, 0, none⟩ (.pointer (some ⟨b, 0, none⟩)) := ⟨_, rfl⟩
  have hbk1 : w1.heap[b]? = some (.cells #[.pointer (some ⟨b, 0, none⟩), .slice none 0 0] 139 (0, 0)) := by
    rw [hw1]; simp [World.setCell, Array.getElem?_modify, hbk]
  have hs1 : B ≤ w1.heap.size := by rw [hw1]; simpa [World.setCell] using hBw
  have hb1 : Below B w w1 := by rw [hw1]; exact (Below.refl B w).setCell (p := ⟨b, 0, none⟩) hB _
  have hc : Calls Tryz.prog 168 #[.pointer (some ⟨b, 0, none⟩)] w fun e w' => e = .returned (.tuple #[]) ∧ w' = w1 := by
    rw [hw1]
    exact fF b w (by rw [Lib.cell_of_heap hbk]; rfl) (by simp [World.shape?, hbk]) (Lib.frozen_of_heap hbk 0)
  clear hw1
  have c1 : w1.cell? ⟨b, 1, none⟩ = some (.slice none 0 0) := by rw [Lib.cell_of_heap hbk1]; rfl
  have c1' : w1.drew.cell? ⟨b, 1, none⟩ = some (.slice none 0 0) := c1
  have hU : Lib.BuilderAt 139 5 B b (.pointer (some ⟨b, 0, none⟩)) [] w1 := ⟨hB, .slice none 0 0, hbk1, World.ownsRow_nil _ _ _ _, by simp [Value.ownBlock]⟩
  have mixed : Tryz.prog.follows .mixedOrders = true := by kernel_rfl
  go_enter Tryz.func120, Tryz.ntmps120
  go_wp2_with (go_at_call 168; refine hc.mono ?_; rintro e w' ⟨rfl, hw⟩; rw [hw])
  go_region_o
  all_goals go_wp2_with (go_at_call 169; refine (grow_inner B b n w1.drew hB hbk1 hs1 hn).mono ?_; rintro e w' ⟨rfl, h1, h2⟩)
  all_goals first
    | (go_end0; exact ⟨rfl, h1, hb1.drew.trans h2⟩)
    | (go_end0; exact ⟨rfl, hU.drew, hb1.drew⟩)
end
section
structure HasLib (w : World) : Prop where
  tab : HasTab w
  max : ∃ m, w.cell? ⟨0, 0, none⟩ = some (.int .i64 m)
theorem HasLib.on {w w' : World} (h : HasLib w) (hb : Below w.heap.size w w') : HasLib w' :=
  ⟨h.tab.on hb, let ⟨m, hm⟩ := h.max; ⟨m, (hb.cell (World.block_lt_of_cell? _ _ hm)).trans hm⟩⟩
theorem hasLib_of {W : World} (ht : HasTab W) (hS : W.ShapedOpen Tryz.prog) : HasLib W := ⟨ht, Tryz.laysM143.s1_3 W hS⟩
theorem split_own (s sep : List UInt8) (l : List (List UInt8)) (W : World) (h0 : 1 ≤ sep.length) (hs : s.length ≤ 1000000) (hl : Lib.splitB (mkS sep) 0 (Lib.countB (mkS s) (mkS sep)) (mkS s) = l.map mkS) (ht : HasLib W) :
    Calls Tryz.prog 36 #[.string (mkS s), .string (mkS sep)] W fun e w' => ∃ v' ob', e = .returned v' ∧ SlT v' l ob' ∧ Own [] W w' ob' := by
  obtain ⟨m, hm⟩ := ht.max
  have hz : (mkS sep).size = sep.length := xH sep
  have hlen := Lib.splitB_all (mkS sep) (by omega) 0 _ (mkS s) rfl
  have hle := Lib.countB_le (mkS sep) (by omega) (mkS s).size (mkS s) (Nat.le_refl _)
  rw [xH] at hle
  rw [hl, List.length_map] at hlen
  refine (Tryz.strings_Split (mkS s) (mkS sep) m W (by rw [xH]; omega) hm (by omega)).mono fun e w' ⟨he, hw⟩ => ?_
  subst hw
  rw [hl, List.map_map] at *
  rw [← hlen] at he
  refine ⟨_, _, he, slt_lit l W.heap.size _ (by unfold qQ; rfl) (by unfold maxLen; omega), (Own.start [] W).alloc _ _⟩
theorem split_bars (s : List UInt8) (W : World) (hs : s.length ≤ 1000000) (ht : HasLib W) :
    Calls Tryz.prog 36 #[.string (mkS s), .string ⟨#[124, 124]⟩] W fun e w' => ∃ v' ob', e = .returned v' ∧ SlT v' (gG [] s) ob' ∧ Own [] W w' ob' :=
  split_own s [124, 124] (gG [] s) W (by decide) hs (splitB_alts s) ht
theorem split_comma (s : List UInt8) (W : World) (hs : s.length ≤ 1000000) (ht : HasLib W) :
    Calls Tryz.prog 36 #[.string (mkS s), .string ⟨#[44]⟩] W fun e w' => ∃ v' ob', e = .returned v' ∧ SlT v' (yX 44 [] s) ob' ∧ Own [] W w' ob' :=
  split_own s [44] (yX 44 [] s) W (by decide) hs (splitB_cuts 44 s) ht
theorem trim_any (s : List UInt8) (W : World) (hs : s.length ≤ 1000000) :
    Calls Tryz.prog 38 #[.string (mkS s), .string ⟨#[32]⟩] W fun e w' => e = .returned (.string (mkS (kE s))) ∧ Below W.heap.size W w' :=
  (Tryz.strings_Trim_one (mkS s) 32 (by decide) W (by rw [xH]; omega)).mono fun e w' ⟨he, hw⟩ =>
    ⟨by rw [he, mk_data, trim_bare]; rfl, hw.elim (fun q => q ▸ Below.refl _ _) (fun q => q ▸ (Below.refl _ _).drew)⟩
def vY (sep : List UInt8) : List (List UInt8) → List UInt8
  | [] => []
  | x :: r => sep ++ x ++ vY sep r
theorem joinB_T (sep : List UInt8) : ∀ (r : List (List UInt8)) (x : List UInt8), vD sep (x :: r) = x ++ vY sep r
  | [], x => by simp [vD, vY]
  | y :: r, x => by rw [mL, joinB_T sep r y, vY]; simp only [List.append_assoc]
theorem joinT_snoc (sep x : List UInt8) : ∀ (r : List (List UInt8)), vY sep (r ++ [x]) = vY sep r ++ (sep ++ x)
  | [] => by simp [vY]
  | y :: r => by rw [List.cons_append, vY, vY, joinT_snoc sep x r]; simp only [List.append_assoc]
theorem joinT_len {sep : List UInt8} (hs : sep.length ≤ 100) : ∀ {r : List (List UInt8)}, (∀ x ∈ r, x.length ≤ 1000000) → (vY sep r).length ≤ r.length * 1000100
  | [], _ => by simp [vY]
  | y :: r, h => by
    have h1 := joinT_len hs (r := r) fun x hx => h x (List.mem_cons_of_mem _ hx)
    have h2 := h y (List.mem_cons_self ..)
    rw [vY]; simp only [List.length_append, List.length_cons]; omega
theorem bc_two (x y z : List UInt8) : Lib.byteCells (x ++ (y ++ z)) = Lib.byteCells x ++ Lib.strCells (mkS y) ++ Lib.strCells (mkS z) := by
  rw [wV, wV, ← Lib.byteCells_append, ← Lib.byteCells_append, List.append_assoc]
theorem join_many (sep x0 : List UInt8) (r : List (List UInt8)) (b off cap : Nat) (w : World) (hc : ∀ j (h : j < (x0 :: r).length), w.cell? ⟨b, off + j, none⟩ = some (.string (mkS ((x0 :: r)[j]))))
    (hb : b < w.heap.size) (hr : 1 ≤ r.length) (hn : r.length ≤ 1000) (h0 : sep ≠ []) (hs : sep.length ≤ 100) (hx : ∀ x ∈ x0 :: r, x.length ≤ 1000000) (hcap : r.length + 1 ≤ cap) :
    Calls Tryz.prog 74 #[.slice (some ⟨b, off, none⟩) (r.length + 1) cap, .string (mkS sep)] w fun e w' => e = .returned (.string (mkS (vD sep (x0 :: r)))) ∧ Below w.heap.size w w' := by
  have HT := Lib.hid (show ∀ k, (x0 ++ vY sep (r.take k)).length ≤ 2000000000 from fun k => by
    have h1 := joinT_len hs (r := r.take k) fun x hm => hx x (List.mem_cons_of_mem _ (List.mem_of_mem_take hm))
    have h2 := hx x0 (List.mem_cons_self ..)
    have h3 : (r.take k).length ≤ 1000 := Nat.le_trans (by rw [List.length_take]; exact Nat.min_le_right ..) hn
    rw [List.length_append]; omega)
  have HC := Lib.hid hc
  have HX := Lib.hid hx
  have HJ := Lib.hid (joinB_T sep r x0)
  have hx0 : (mkS x0).size ≤ 1000000 := by rw [xH]; exact hx x0 (List.mem_cons_self ..)
  obtain ⟨S, hS⟩ : ∃ q, q = mkS sep := ⟨_, rfl⟩
  have hSz : S.size = sep.length := by rw [hS, xH]
  have hS1 : 1 ≤ S.size := by cases sep with
    | nil => exact absurd rfl h0
    | cons _ _ => rw [hSz]; simp
  have hS9 : S.size ≤ 100 := by omega
  rw [← hS]
  have HS := Lib.hid hS
  obtain ⟨N, hN⟩ : ∃ q, q = r.length + 1 := ⟨_, rfl⟩
  rw [← hN] at hcap ⊢
  have hcast : ((N : Int) - 1) = (r.length : Int) := by omega
  have hmul : S.size * r.length ≤ 100000 := Nat.le_trans (Nat.mul_le_mul hS9 hn) (by decide)
  have hdv : ¬ (9223372036854775807 / ((N : Int) - 1) ≤ (S.size : Int)) := by
    rw [hcast]
    intro q
    have h1 : (9223372036854775807 : Int) < ((S.size : Int) + 1) * (r.length : Int) :=
      Int.lt_mul_of_ediv_lt (by omega) (Int.lt_add_one_of_le q)
    have h2 : ((S.size : Int) + 1) * (r.length : Int) = ((S.size * r.length + r.length : Nat) : Int) := by rw [Int.add_mul, Int.one_mul]; push_cast; rfl
    omega
  have hprod : wrap64 ((S.size : Int) * ((N : Int) - 1)) = ((S.size * r.length : Nat) : Int) := by
    rw [hcast, show (S.size : Int) * (r.length : Int) = ((S.size * r.length : Nat) : Int) from by push_cast; rfl]
    exact IntWalk.wrap64_in _ ⟨by omega, by omega⟩
  generalize S.size * r.length = M at hmul hprod
  have hne0 : ((N : Int) == 0) = false := beq_eq_false_iff_ne.2 (by omega)
  have hne1 : ((N : Int) == 1) = false := beq_eq_false_iff_ne.2 (by omega)
  have hN2 : 2 ≤ N := by omega
  have hN9 : N ≤ 1001 := by omega
  have HN := Lib.hid hN
  have H0 := Lib.hid h0
  clear hc hx hs h0 hS hSz hcast hN hr hn
  go_enter Tryz.func74, Tryz.ntmps74
  go_wp2
  go_loop [5, 41] (fun n i => ∃ (k t : Nat), k ≤ N ∧ i = .int .i64 k ∧ n = .int .i64 t ∧ t ≤ 100000 + k * 1000000) (fun _ i => N - (intOf i).toNat)
  case atStart => exact ⟨0, M, Nat.zero_le _, rfl, rfl, by omega⟩
  case round =>
    obtain ⟨k, t, hk, rfl, rfl, ht⟩ := hrel
    by_cases hkn : k < N
    · have hkl : k < (x0 :: r).length := by have := HN.out; rw [List.length_cons]; omega
      obtain ⟨y, hy⟩ : ∃ q, q = mkS ((x0 :: r)[k]) := ⟨_, rfl⟩
      have hyz : y.size ≤ 1000000 := by rw [hy, xH]; exact HX.out _ (List.getElem_mem hkl)
      have hck : w.cell? ⟨b, off + k, none⟩ = some (.string y) := by rw [hy]; exact HC.out k hkl
      clear hy hkl
      go_wp2
      exact ⟨⟨k + 1, t + y.size, by omega, by go_num, by go_num, by omega⟩, by simp [intOf]; omega⟩
    · obtain rfl : k = N := by omega
      go_wp2_with (go_at_call 120; refine (grow_fresh w.heap.size w.heap.size t _ (Nat.le_refl _) (heap_alloc_new w _) (by simp) (by omega)).mono ?_)
      rintro e w1 rfl h1 hb1
      have hb1' : Below w.heap.size w w1 := ((Below.refl w.heap.size w).alloc (Nat.le_refl _) _).trans hb1
      have hsz1 := hb1'.size
      have hc0 : w1.cell? ⟨b, off, none⟩ = some (.string (mkS x0)) := by
        rw [hb1'.cell (p := ⟨b, off, none⟩) hb]
        exact HC.out 0 (by simp)
      have H1 := Lib.hid (Or.inr h1 : Lib.IsBuilder 139 5 w.heap.size w.heap.size [] w1)
      have HB1 := Lib.hid hb1'
      clear h1 hb1 hb1' ht hprod hmul hdv hkn hk
      obtain ⟨X, hX⟩ : ∃ q, q = mkS x0 := ⟨_, rfl⟩
      rw [← hX] at hc0 hx0
      have HX0 := Lib.hid hX
      clear hX
      go_wp2_with (go_at_call 121; refine (qP w.heap.size w.heap.size [] X w1 H1.out ?_ hsz1).mono ?_)
      · simp; omega
      rintro e w2 ⟨rfl, h2, hb2⟩
      have H2 := Lib.hid (show Lib.IsBuilder 139 5 w.heap.size w.heap.size (Lib.byteCells (x0 ++ vY sep (r.take 0))) w2 from by
        rw [HX0.out, wV, List.nil_append] at h2
        rw [List.take_zero, vY, List.append_nil]; exact Or.inr h2)
      have HB2 := Lib.hid (HB1.out.trans hb2)
      clear h2 hb2 hsz1 hc0
      have hrk : k - 1 = r.length := by have := HN.out; omega
      go_wp2
      go_loopw [65] (fun i wr => ∃ j : Nat, j ≤ r.length ∧ i = .int .i64 j ∧ Hid (Lib.IsBuilder 139 5 w.heap.size w.heap.size (Lib.byteCells (x0 ++ vY sep (r.take j))) wr) ∧ Hid (Below w.heap.size w wr)) (fun i _ => r.length - (intOf i).toNat)
      case atStart => exact ⟨0, Nat.zero_le _, rfl, H2, HB2⟩
      case round =>
        obtain ⟨j, hj, rfl, HB, HW⟩ := hrel
        have hsz := HW.out.size
        by_cases hjr : j < r.length
        · obtain ⟨y, hy⟩ : ∃ q, q = mkS r[j] := ⟨_, rfl⟩
          have hyz : y.size ≤ 1000000 := by rw [hy, xH]; exact HX.out _ (List.mem_cons_of_mem _ (List.getElem_mem hjr))
          have hck : wr.cell? ⟨b, off + 1 + j, none⟩ = some (.string y) := by
            rw [HW.out.cell (p := ⟨b, off + 1 + j, none⟩) hb, hy, show off + 1 + j = off + (j + 1) from by omega]
            exact HC.out (j + 1) (by simp; omega)
          have HY := Lib.hid hy
          have hlen : (Lib.byteCells (x0 ++ vY sep (r.take j))).length ≤ 2000000000 := by rw [Lib.byteCells_length]; exact HT.out j
          have HE := Lib.hid (show Lib.byteCells (x0 ++ vY sep (r.take j)) ++ Lib.strCells S ++ Lib.strCells y = Lib.byteCells (x0 ++ vY sep (r.take (j + 1))) from by
            rw [HS.out, HY.out, List.take_succ_eq_append_getElem hjr, joinT_snoc, ← List.append_assoc, bc_two])
          clear hy
          go_wp2_with (go_at_call 121; refine (qP w.heap.size w.heap.size _ S wr HB.out ?_ hsz).mono ?_)
          · omega
          rintro e w3 ⟨rfl, h3, hb3⟩
          have hsz3 := Nat.le_trans hsz hb3.size
          have H3 := Lib.hid h3
          have HB3 := Lib.hid hb3
          clear h3 hb3
          go_wp2_with (go_at_call 121; refine (qP w.heap.size w.heap.size _ y w3 (Or.inr H3.out) ?_ hsz3).mono ?_)
          · rw [List.length_append, Lib.strCells_length]; omega
          rintro e w4 ⟨rfl, h4, hb4⟩
          rw [HE.out] at h4
          have H4 := Lib.hid (Or.inr h4 : Lib.IsBuilder 139 5 w.heap.size w.heap.size (Lib.byteCells (x0 ++ vY sep (r.take (j + 1)))) w4)
          have HB4 := Lib.hid ((HW.out.trans HB3.out).trans hb4)
          clear h4 hb4
          go_wp2
          go_roundw
          case rel => exact ⟨j + 1, by omega, by go_num, H4, HB4⟩
          case measure => simp [intOf]; omega
        · obtain rfl : j = r.length := by omega
          have HB' := HB.out
          rw [List.take_length, ← HJ.out] at HB'
          have hne : vD sep (x0 :: r) ≠ [] := by
            rw [HJ.out]
            cases r with
            | nil => simp at hrk; omega
            | cons y r => rw [vY]; intro q; exact H0.out (List.append_eq_nil_iff.1 (List.append_eq_nil_iff.1 (List.append_eq_nil_iff.1 q).2).1).1
          have HBF := Lib.hid HB'
          clear HB'
          go_wp2_with (go_at_call 122; refine (string_any w.heap.size w.heap.size _ _ HBF.out hne).mono ?_)
          rintro e w5 ⟨rfl, hb5⟩
          go_wp2
          go_ret
          exact ⟨rfl, HW.out.trans hb5⟩
theorem join_one (sep x : List UInt8) (A : Option Addr) (cap : Nat) (w : World) (hv : Reads pP w w.heap.size A [x]) (hcap : 1 ≤ cap) :
    Calls Tryz.prog 74 #[.slice A 1 cap, .string (mkS sep)] w fun e w' => e = .returned (.string (mkS x)) ∧ Below w.heap.size w w' := by
  obtain ⟨b, off, rfl, hb, hcell⟩ := hv (by simp)
  have hc : w.cell? ⟨b, off, none⟩ = some (.string (mkS x)) := hcell 0 _ rfl
  go_enter Tryz.func74, Tryz.ntmps74
  go_wp2
  go_ret
  exact ⟨rfl, Below.refl _ _⟩
theorem join_none (sep : List UInt8) (A : Option Addr) (cap : Nat) (w : World) :
    Calls Tryz.prog 74 #[.slice A 0 cap, .string (mkS sep)] w fun e w' => e = .returned (.string (mkS [])) ∧ Below w.heap.size w w' := by
  go_enter Tryz.func74, Tryz.ntmps74
  go_wp2
  go_ret
  exact ⟨rfl, Below.refl _ _⟩
theorem sjoin_any (sep : List UInt8) (l : List (List UInt8)) (A : Option Addr) (cap : Nat) (w : World) (hv : Reads pP w w.heap.size A l) (h0 : sep ≠ []) (hs : sep.length ≤ 100) (hn : l.length ≤ 1000) (hx : ∀ x ∈ l, x.length ≤ 1000000) (hcap : l.length ≤ cap) :
    Calls Tryz.prog 74 #[.slice A l.length cap, .string (mkS sep)] w fun e w' => e = .returned (.string (mkS (vD sep l))) ∧ Below w.heap.size w w' := by
  match l, hv, hn, hx, hcap with
  | [], _, _, _, _ => exact join_none sep A cap w
  | [x], hv, _, _, hcap => exact join_one sep x A cap w hv hcap
  | x :: y :: r, hv, hn, hx, hcap =>
    obtain ⟨b, off, rfl, hb, hcell⟩ := hv (by simp)
    refine join_many sep x (y :: r) b off cap w (fun j hj => ?_) hb (by simp) (by simp at hn ⊢; omega) h0 hs hx hcap
    refine hcell j _ ?_
    rw [← w0]; unfold qQ
    rw [List.getElem?_map, List.getElem?_eq_getElem hj]; rfl
theorem SlT.caps {A : Option Addr} {n cap : Nat} {l : List (List UInt8)} {ob : List Blk} (h : SlT (.slice A n cap) l ob) : n = l.length ∧ l.length ≤ cap := by
  rcases h.2 with ⟨h1, h2, _⟩ | ⟨g, c, cur, h1, _, h3, _⟩
  · injection h1 with q1 q2 q3
    exact ⟨by omega, by omega⟩
  · injection h1 with q1 q2 q3
    exact ⟨q2, by omega⟩
theorem SlT.add {u : Value} {l : List (List UInt8)} {x : List UInt8} {ob : List Blk} (h : Sl 9 1 u (l.length + 1) (qQ l ++ pP x) ob) : SlT u (l ++ [x]) ob :=
  Sl.to h (by simp) (by unfold qQ; rw [List.map_append]; rfl)
end
section
def uJ : Nat → List UInt8 → List (List UInt8)
  | 0, s => [s]
  | k + 1, s => if (yG 46 s).2.2 then (yG 46 s).1 :: uJ k (yG 46 s).2.1 else [s]
theorem pcsK_len : ∀ (k : Nat) (s : List UInt8), 1 ≤ (uJ k s).length ∧ (uJ k s).length ≤ k + 1
  | 0, s => ⟨Nat.le_refl _, Nat.le_refl _⟩
  | k + 1, s => by
    have h := pcsK_len k (yG 46 s).2.1
    unfold uJ
    split
    · simp only [List.length_cons]; omega
    · simp only [List.length_cons, List.length_nil]; omega
theorem pcsK_mem : ∀ (k : Nat) (s : List UInt8), ∀ x ∈ uJ k s, x.length ≤ s.length
  | 0, s, x, hx => by rw [List.mem_singleton.1 hx]; exact Nat.le_refl _
  | k + 1, s, x, hx => by
    unfold uJ at hx
    have hl := cutAt_le 46 s
    split at hx
    · rcases List.mem_cons.1 hx with e | hx
      · rw [e]; omega
      · have := pcsK_mem k (yG 46 s).2.1 x hx; omega
    · rw [List.mem_singleton.1 hx]; exact Nat.le_refl _
theorem pcsK_join : ∀ (k : Nat) (l : List (List UInt8)), l ≠ [] → l.length ≤ k + 1 → (∀ x ∈ l, (46 : UInt8) ∉ x) → uJ k (yC 46 l) = l
  | _, [], h, _, _ => absurd rfl h
  | 0, [x], _, _, _ => rfl
  | k + 1, [x], _, _, h => by
    unfold uJ
    show (if (yG 46 x).2.2 = true then _ else _) = _
    rw [wL 46 x (h x (List.mem_singleton.2 rfl))]
    exact if_neg Bool.false_ne_true
  | 0, x :: y :: r, _, hl, _ => by simp at hl
  | k + 1, x :: y :: r, _, hl, h => by
    have ih := pcsK_join k (y :: r) (by simp) (by simpa using hl) fun z hz => h z (List.mem_cons_of_mem _ hz)
    unfold uJ
    rw [yC, cutAt_hit 46 _ _ (h x (List.mem_cons_self ..)), if_pos rfl]
    dsimp only
    rw [ih]
def sgo (s : List UInt8) : Nat → Int × List UInt8
  | 0 => (7, s)
  | k + 1 => if xK s (yA ((k + 1 : Nat) : Int)) = true ∧ (s.drop (yA ((k + 1 : Nat) : Int)).length).length < (sgo s k).2.length then (((k + 1 : Nat) : Int), s.drop (yA ((k + 1 : Nat) : Int)).length) else sgo s k
theorem sgo_le (s : List UInt8) : ∀ k, (sgo s k).2.length ≤ s.length
  | 0 => Nat.le_refl _
  | k + 1 => by
    unfold sgo
    split
    · show (s.drop _).length ≤ _; rw [List.length_drop]; omega
    · exact sgo_le s k
def uE (s : List UInt8) : List (List UInt8) := uJ 2 (yG 45 (sgo s 8).2).1
def starP (s : List UInt8) : Bool := decide ((uE s).getLast? = some [42])
def vT (s : List UInt8) : Co := ⟨if starP s then 9 else (sgo s 8).1, if starP s then ((uE s).length : Int) - 1 else ((uE s).length : Int), ⟨zR (tg (uE s) 0), zR (tg (uE s) 1), zR (tg (uE s) 2), (yG 45 (sgo s 8).2).2.1, []⟩⟩
theorem nob {d a : UInt8} {r t : List UInt8} (h : d ≠ a) : ¬ (xK (d :: r) (a :: t) = true) := by rw [qN h]; decide
theorem tZ {d : UInt8} {r : List UInt8} (h : kM d.toNat = true ∨ d = 42) : sgo (d :: r) 8 = (7, d :: r) := by
  have hd : ∀ a : UInt8, kM a.toNat = false → a ≠ 42 → d ≠ a := fun a ha h42 e => by
    subst e
    rcases h with h | h
    · rw [ha] at h; cases h
    · exact h42 h
  have hb : ∀ k : Nat, 1 ≤ k → k ≤ 8 → ¬ (xK (d :: r) (yA (k : Int)) = true) := fun k h1 h8 => by
    have hk : k = 1 ∨ k = 2 ∨ k = 3 ∨ k = 4 ∨ k = 5 ∨ k = 6 ∨ k = 7 ∨ k = 8 := by omega
    rcases hk with rfl | rfl | rfl | rfl | rfl | rfl | rfl | rfl
    · exact nob (hd 61 (by decide) (by decide))
    · exact nob (hd 33 (by decide) (by decide))
    · exact nob (hd 60 (by decide) (by decide))
    · exact nob (hd 60 (by decide) (by decide))
    · exact nob (hd 62 (by decide) (by decide))
    · exact nob (hd 62 (by decide) (by decide))
    · exact nob (hd 94 (by decide) (by decide))
    · exact nob (hd 126 (by decide) (by decide))
  have : ∀ k : Nat, k ≤ 8 → sgo (d :: r) k = (7, d :: r) := fun k => by
    induction k with
    | zero => intro _; rfl
    | succ k ih =>
      intro h8
      unfold sgo
      rw [if_neg (fun q => hb (k + 1) (by omega) h8 q.1)]
      exact ih (by omega)
  exact this 8 (by decide)
theorem sgo_sign {op : Int} (h1 : 1 ≤ op) (h8 : op ≤ 8) {d : UInt8} {r : List UInt8} (hd : kM d.toNat = true) : sgo (yA op ++ d :: r) 8 = (op, d :: r) := by
  have h61 : d ≠ 61 := fun e => by subst e; revert hd; decide
  have hop : op = 1 ∨ op = 2 ∨ op = 3 ∨ op = 4 ∨ op = 5 ∨ op = 6 ∨ op = 7 ∨ op = 8 := by omega
  rcases hop with rfl | rfl | rfl | rfl | rfl | rfl | rfl | rfl <;> simp [yA, sgo, xK, h61]
theorem numD_star : zR [42] = 0 := by decide
theorem tg_star {v : Ver} (hv : v.may = true) {n : Nat} (h : n ≤ 2) (h0 : 0 < n ∨ v.maj = 0) (h1 : 1 < n ∨ v.min = 0) (h2 : 2 < n ∨ v.pat = 0) : zR (tg (yF v n ++ [[42]]) 0) = v.maj ∧ zR (tg (yF v n ++ [[42]]) 1) = v.min ∧ zR (tg (yF v n ++ [[42]]) 2) = v.pat := by
  obtain ⟨m1, m2, m3⟩ := vG hv
  have e1 := bY m1
  have e2 := bY m2
  match n, h with
  | 0, _ => exact ⟨numD_star.trans (h0.resolve_left (by decide)).symm, (h1.resolve_left (by decide)).symm, (h2.resolve_left (by decide)).symm⟩
  | 1, _ => exact ⟨e1, numD_star.trans (h1.resolve_left (by decide)).symm, (h2.resolve_left (by decide)).symm⟩
  | 2, _ => exact ⟨e1, e2, numD_star.trans (h2.resolve_left (by decide)).symm⟩
theorem rest_pieces {c : Co} (h : c.may = true) : uJ 2 (yG 45 c.rest).1 = (if c.op = 9 then yF c.v c.parts.toNat ++ [[42]] else yF c.v c.parts.toNat) ∧ (yG 45 c.rest).2.1 = c.v.pre := by
  obtain ⟨_, hv, hb, h9, hn, hp, k0, k1, k2⟩ := Co.facts h
  unfold Co.rest
  by_cases e : c.op = 9
  · rw [if_pos e, if_pos e]
    have f : ∀ b : UInt8, kM b.toNat = false → b ≠ 42 → ∀ x ∈ yF c.v c.parts.toNat ++ [[42]], b ∉ x := fun b hb hb2 x hx => by
      rcases List.mem_append.1 hx with hx | hx
      · exact jF hv b hb x hx
      · rw [List.mem_singleton.1 hx]
        intro hm
        exact hb2 (List.mem_singleton.1 hm)
    rw [wL 45 _ (wC 45 (by decide) _ (f 45 (by decide) (by decide)))]
    have hq := h9 e
    have hpre : c.v.pre = [] := hp.resolve_left (by omega)
    refine ⟨?_, hpre.symm⟩
    refine pcsK_join 2 _ (by simp) ?_ (f 46 (by decide) (by decide))
    rw [List.length_append, qX c.v (by omega)]
    simp only [List.length_cons, List.length_nil]; omega
  · rw [if_neg e, if_neg e]
    have hq := hn e
    have hlen := qX c.v (n := c.parts.toNat) (by omega)
    have hne : yF c.v c.parts.toNat ≠ [] := fun h0 => by
      rw [h0] at hlen
      simp at hlen; omega
    rw [cut_tail 45 _ _ (wC 45 (by decide) _ (jF hv 45 (by decide)))]
    exact ⟨pcsK_join 2 _ hne (by omega) (jF hv 46 (by decide)), rfl⟩
theorem nums_last {c : Co} (h : c.may = true) (hn : ¬ c.op = 9) : ¬ (yF c.v c.parts.toNat).getLast? = some [42] := fun hl => by
  have hv := (Co.facts h).2.1
  have := jF hv 42 (by decide) _ (List.mem_of_getLast? hl)
  exact this (List.mem_singleton.2 rfl)
theorem guess_of {c : Co} {s : List UInt8} (h : c.may = true) (hs : (sgo s 8).2 = c.rest) (ho : c.op = 9 ∨ (sgo s 8).1 = c.op) : vT s = c := by
  obtain ⟨_, hv, hb, h9, hn, hp, k0, k1, k2⟩ := Co.facts h
  obtain ⟨p1, p2⟩ := rest_pieces h
  have hpc : uE s = if c.op = 9 then yF c.v c.parts.toNat ++ [[42]] else yF c.v c.parts.toNat := by unfold uE; rw [hs]; exact p1
  unfold vT
  rw [hs, p2]
  by_cases e : c.op = 9
  · have hq := h9 e
    rw [if_pos e] at hpc
    have hst : starP s = true := by unfold starP; rw [hpc, List.getLast?_concat]; exact decide_eq_true rfl
    obtain ⟨e1, e2, e3⟩ := tg_star hv (n := c.parts.toNat) (by omega) (by omega) (by omega) (by omega)
    rw [hst, hpc, if_pos rfl, if_pos rfl, e1, e2, e3, List.length_append, qX c.v (by omega), List.length_singleton]
    obtain ⟨op, parts, a, b, d, q, r⟩ := c
    simp only at hb e hq ⊢
    rw [hb, e]
    congr 1
    omega
  · have hq := hn e
    rw [if_neg e] at hpc
    have hst : starP s = false := by unfold starP; rw [hpc]; exact decide_eq_false (nums_last h e)
    obtain ⟨e1, e2, e3⟩ := nums_back hv (n := c.parts.toNat) (by omega) (by omega) (by omega) (by omega)
    rw [hst, hpc, if_neg (by decide), if_neg (by decide), e1, e2, e3, qX c.v (by omega), ho.resolve_left e]
    obtain ⟨op, parts, a, b, d, q, r⟩ := c
    simp only at hb hq ⊢
    rw [hb]
    congr 1
    omega
theorem guess_co {c : Co} {s : List UInt8} (h : c.may = true) (hs : c.text = s ∨ c.text = 94 :: s) : vT s = c := by
  obtain ⟨ho, _⟩ := Co.facts h
  by_cases hn : c.op = 9
  · obtain ⟨d, r, e, hd⟩ := mC h hn
    have ht : c.text = d :: r := by unfold Co.text; rw [hn, show yA 9 = [] from rfl, List.nil_append, e]
    rcases hs with hs | hs
    · rw [ht] at hs
      rw [← hs]
      exact guess_of h (by rw [tZ hd, e]) (.inl hn)
    · rw [ht] at hs
      injection hs with e1 _
      rw [e1] at hd
      exact absurd hd (by decide)
  · obtain ⟨d, r, e, hd⟩ := bX h hn
    have ht : c.text = yA c.op ++ d :: r := by unfold Co.text; rw [e]
    have hs8 := sgo_sign ho.1 (by omega) (r := r) hd
    rcases hs with hs | hs
    · rw [ht] at hs
      rw [← hs]
      exact guess_of h (by rw [hs8, e]) (.inr (by rw [hs8]))
    · rw [ht] at hs
      have hop : c.op = 1 ∨ c.op = 2 ∨ c.op = 3 ∨ c.op = 4 ∨ c.op = 5 ∨ c.op = 6 ∨ c.op = 7 ∨ c.op = 8 := by omega
      have h7 : c.op = 7 := by rcases hop with e2 | e2 | e2 | e2 | e2 | e2 | e2 | e2 <;> rw [e2] at hs <;> first | exact e2 | simp [yA] at hs
      rw [h7] at hs
      have hs2 : d :: r = s := by injection hs
      rw [← hs2]
      exact guess_of h (by rw [tZ (.inl hd), e]) (.inr (by rw [tZ (.inl hd), h7]))
theorem guess_nil : vT [] = ⟨7, 1, ⟨0, 0, 0, [], []⟩⟩ := by decide
theorem fits_may {s : List UInt8} (h : (vT s).print = s ∨ (vT s).print = 94 :: s) : (vT s).may = true := by
  refine print_may fun e => ?_
  rw [e] at h
  rcases h with h | h
  · subst h
    revert e
    rw [guess_nil]
    decide +kernel
  · cases h
theorem prog_some {s : List UInt8} (h : (vT s).print = s ∨ (vT s).print = 94 :: s) : qB s = some (vT s) := by
  have hm := fits_may h
  rw [qF hm] at h
  exact (dU s _).2 ⟨hm, h⟩
theorem prog_none {s : List UInt8} (h : ¬ ((vT s).print = s ∨ (vT s).print = 94 :: s)) : qB s = none := by
  cases hp : qB s with
  | none => rfl
  | some c =>
    obtain ⟨hm, ht⟩ := (dU s c).1 hp
    have hg := guess_co hm ht
    rw [hg, qF hm] at h
    exact absurd ht h
theorem may_core6 {c : Co} (h : c.may = true) : zW c.v = c.v := by
  obtain ⟨_, _, hb, _⟩ := Co.facts h
  obtain ⟨op, parts, a, b, d, q, r⟩ := c
  simp only at hb ⊢
  rw [hb]; rfl
theorem low6 {c : Co} (h : c.may = true) : c.low = ⟨0, c.v, false⟩ := by unfold Co.low; rw [may_core6 h]
def g7 (c : Co) : Cu := if c.parts = 3 then ⟨0, c.v, true⟩ else if c.parts = 0 then zT 1 else xW c.v (c.parts - 1).toNat
theorem beh_aft {c : Co} (h : c.may = true) (h0 : ¬ c.parts = 0) : g7 c = c.aft := by
  obtain ⟨_, _, _, h9, hn, _⟩ := Co.facts h
  have hp : 0 ≤ c.parts ∧ c.parts ≤ 3 := by
    by_cases e : c.op = 9
    · have := h9 e; omega
    · have := hn e; omega
  unfold g7 Co.aft
  by_cases h3 : c.parts = 3
  · rw [if_pos h3, if_neg (by omega), may_core6 h]
  · rw [if_neg h3, if_neg h0, if_pos (by omega)]
def vH (c : Co) : Int := if ¬ c.v.maj = 0 then 0 else if ¬ c.v.min = 0 then 1 else if ¬ c.v.pat = 0 then 2 else c.parts - 1
theorem lead_turns {c : Co} (h : c.may = true) (h7 : ¬ c.op = 9) : vH c = (g9 c : Int) := by
  obtain ⟨_, hv, _, _, hn, _, k0, k1, k2⟩ := Co.facts h
  have hq := hn h7
  obtain ⟨m1, m2, m3⟩ := uF hv
  unfold vH g9
  repeat' split
  all_goals omega
theorem span_parts {c : Co} (h : c.may = true) (e : c.op = 1 ∨ c.op = 2) : ¬ c.parts = 0 := by
  obtain ⟨_, _, _, _, hn, _⟩ := Co.facts h
  have := hn (by omega); omega
def qG (c : Co) : Cu × Cu :=
  if c.op = 3 then (zT (-1), ⟨0, c.v, false⟩) else if c.op = 4 then (zT (-1), g7 c) else if c.op = 5 then (g7 c, zT 1) else if c.op = 6 then (⟨0, c.v, false⟩, zT 1)
  else if c.op = 7 then (⟨0, c.v, false⟩, xW c.v (vH c).toNat) else if c.op = 8 then (⟨0, c.v, false⟩, xW c.v (min (c.parts - 1) 1).toNat) else if c.parts = 0 then (zT (-1), zT 1) else (⟨0, c.v, false⟩, g7 c)
theorem bound_span {c : Co} (h : c.may = true) : qG c = c.span := by
  obtain ⟨ho, _, _, h9, hn, _⟩ := Co.facts h
  have e0 : ¬ c.op = 9 → g7 c = c.aft := fun e => beh_aft h (by have := hn e; omega)
  have el := low6 h
  have hop : c.op = 1 ∨ c.op = 2 ∨ c.op = 3 ∨ c.op = 4 ∨ c.op = 5 ∨ c.op = 6 ∨ c.op = 7 ∨ c.op = 8 ∨ c.op = 9 := by omega
  unfold qG Co.span
  rcases hop with e | e | e | e | e | e | e | e | e
  · have := hn (by omega); simp [e, el, e0 (by omega), show ¬ c.parts = 0 by omega]
  · have := hn (by omega); simp [e, el, e0 (by omega), show ¬ c.parts = 0 by omega]
  · simp [e, el]
  · simp [e, e0 (by omega)]
  · simp [e, e0 (by omega)]
  · simp [e, el]
  · have := lead_turns h (by omega); simp [e, el, this]
  · simp [e, el]
  · have hq := h9 e
    by_cases h0 : c.parts = 0
    · simp [e, h0]
    · have hb : g7 c = xW c.v (c.parts - 1).toNat := by unfold g7; rw [if_neg (by omega), if_neg h0]
      simp [e, h0, el, hb]
end
end Go.Proofs.YtkljdpiaghepfaaGreatDoor
