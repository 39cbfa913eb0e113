/-
  What the statement's proof leans on: the ways of walking, qX mathematics, and what the program's functions return; each theorem says on what conditions.
-/
import Derived.Lib.LaidTab
import Derived.ChangeArms
import Derived.Deep.Fields
import Derived.OpenShut
import Derived.DataReads
import Derived.ChangeOld
import Derived.ChangeSlices
import Derived.Test.YthanpjfmlipdnaaDoorKA5
set_option maxRecDepth 1000000
set_option maxHeartbeats 8000000
set_option linter.unusedVariables false
set_option linter.unusedSimpArgs false
namespace Go.Proofs.YthanpjfmlipdnaaDoor
open Go.RowKit

section
set_option linter.unnecessarySimpa false
def pf3 (a b c : List UInt8) : Pf := fun k => if k = 0 then a else if k = 1 then b else c
theorem p7 {a b c : List UInt8} (ha : a.length ≤ 1000000) (hb : b.length ≤ 1000000) (hc : c.length ≤ 1000000) : PfS (pf3 a b c) := ⟨ha, hb, hc⟩
theorem n4 (s : List UInt8) : y7 s = [] ∨ ∃ t : Tr, t.ok = true ∧ t.fit = true ∧ y7 s = t.enc 0 := by
  unfold y7
  split
  · exact .inl rfl
  · split
    · exact .inl rfl
    · cases h : xV s with
      | none => exact .inl rfl
      | some t => have := readM_ok h; exact .inr ⟨t, this.1, this.2, rfl⟩
theorem fit_sz {t : Tr} (h : t.fit = true) : t.sz ≤ 15 := by unfold Tr.fit at h; simp at h; exact h.1
theorem gH (s : List UInt8) : (y7 s).length ≤ 1000 := by
  rcases n4 s with e | ⟨t, _, hf, e⟩
  · rw [e]; simp
  · rw [e, Tr.enc_len]; have := fit_sz hf; omega
theorem qL (s : List UInt8) : ∀ n ∈ y7 s, n.text.length ≤ 1000000 := by
  rcases n4 s with e | ⟨t, ho, _, e⟩
  · rw [e]; simp
  · rw [e]; intro n hn; have := q6 t 0 ho n hn; omega
theorem dR (l : List Nd) (e : Pf) : zN l e = [] ∨ ∃ t : Tr, t.ok = true ∧ t.sz ≤ l.length ∧ zN l e = t.enc 0 := by
  by_cases h : zL l e = 1
  · obtain ⟨t, ho, hl, _, _, hu⟩ := w6 h
    exact .inr ⟨zI e t, kJ e t ho, by rw [hl, Tr.enc_len]; exact vJ e t, hu⟩
  · exact .inl (gR h)
theorem g7 {l : List Nd} {e : Pf} (h : l.length ≤ 1000) : (zN l e).length ≤ 1000 := by
  rcases dR l e with q | ⟨t, _, hf, q⟩
  · rw [q]; simp
  · rw [q, Tr.enc_len]; omega
theorem wG {l : List Nd} {e : Pf} (h : ∀ n ∈ l, n.text.length ≤ 1000000) : ∀ n ∈ zN l e, n.text.length ≤ 1000000 := by
  rcases dR l e with q | ⟨t, ho, _, q⟩
  · rw [q]; simp
  · rw [q]; intro n hn; have := q6 t 0 ho n hn; omega
theorem MkG.few {nd : List Nd} (h : MkG nd) : nd.length ≤ 1000 := by have := h.1; omega
theorem MkG.short {nd : List Nd} (h : MkG nd) : ∀ n ∈ nd, n.text.length ≤ 1000000 := by
  rcases h.2 with e | ⟨t, ho, e⟩
  · rw [e]; simp
  · rw [e]; intro n hn; have := q6 t 0 ho n hn; omega
theorem few10_any (A : Option Addr) (cap : Nat) (l : List Nd) (W : World) (hv : Reads nC W W.heap.size A l) : Calls Tryd.prog 14 #[.agg #[.slice A l.length cap]] W fun e w' => ∃ b, e = .returned (.bool b) ∧ (b = true → l.length ≤ 21 ∧ ∀ n ∈ l, n.text.length ≤ 60) ∧ Below W.heap.size W w' := by
  refine zU (n := 23) Tryd.func14 rfl (by kernel_rfl) (by kernel_rfl) (ZO (Zb (.agg #[.slice A l.length cap]) (fun b1 => Zv (.bool false) (ZN (zF (ZO (Zv (.int .i64 0) (zK ?_))))))))
  refine z8 (zP (xT (fun L f m => ∃ (i : Nat) (j : Nat → Value), (i ≤ l.length ∧ i ≤ 21 ∧ ∀ j (hj : j < i) (hl : j < l.length), l[j].text.length ≤ 60) ∧ L = [⟨b1, #[.slice A l.length cap], 25⟩] ∧ f = qT j [(1, .pointer (some ⟨b1, 0, none⟩)), (3, .int .i64 (i : Int))] ∧ m = l.length - i) (l.length - 0) ⟨0, _, ⟨Nat.zero_le _, by omega, fun j hj => absurd hj (Nat.not_lt_zero _)⟩, rfl, ZU, rfl⟩ ?_))
  rintro L f m ⟨i, j, hrel, rfl, rfl, rfl⟩
  have hi6 := hrel.1; have hi21 := hrel.2.1
  refine zF (ZO (Zv (.int .i64 (i : Int)) (Zv (.pointer (some ⟨b1, 0, none⟩)) (Zl 0 ⟨b1, #[.slice A l.length cap], 25⟩ (off := 0) (.slice A l.length cap) (Zv (.int .i64 (l.length : Int)) ?_)))))
  by_cases h1 : (i : Int) < (l.length : Int)
  · have hil : i < l.length := by omega
    obtain ⟨bp, off, hA, hlt, hcell⟩ := hv (by omega)
    obtain ⟨n, hn⟩ : ∃ n, l[i] = n := ⟨_, rfl⟩
    refine Zd (p := (i : Int) < (l.length : Int)) true (decide_eq_true (h1)) (ZY (ZB (zF (zP (ZO (Zv (.int .i64 (i : Int)) ?_))))))
    by_cases h2 : (20 : Int) < (i : Int)
    · refine x8 (p := (20 : Int) < (i : Int)) true (by kernel_rfl) (fun _ => by kernel_rfl) (decide_eq_true (h2)) ?_
      refine Zv (.bool true) (Zk (Zk (Zk (Zk (Zk (Zk (Zk (Zk (Zv (.bool true) (zK (z8 ?_)))))))))))
      refine Zt (ZO (Zv (.bool false) (ZN (zG (zD (z5 (yE (zD (z5 ?_)))))))))
      exact ZF (.bool false) Tryd.results14 (fun w hO => ⟨false, rfl, fun q => (by cases q), hO.below⟩)
    refine Zd (p := (20 : Int) < (i : Int)) false (decide_eq_false (h2)) (Zv (.bool false) (Zv (.pointer (some ⟨b1, 0, none⟩)) (Zl 0 ⟨b1, #[.slice A l.length cap], 25⟩ (off := 0) (.slice A l.length cap) (Zv (.int .i64 (i : Int)) (zM (.pointer (some ⟨bp, off + i * 5, none⟩)) (by kernel_rfl) (ZA (b := bp) (off := off) (c := cap) (n := l.length) (k := .i64) (j := (i : Int)) (e := 48) (sz := 5) hA) (Zv (.pointer (some ⟨bp, off + i * 5 + 4, none⟩)) (Zo (.string (mkS n.text)) (a := ⟨bp, off + i * 5 + 4, none⟩) (fun w hO => Reads.load yX (hv.on hO.below hO.size) hA i 4 hil (by omega) _ (by rw [hn]; kernel_rfl)) (Zv (.int .i64 ((mkS n.text).size)) ?_))))))))
    by_cases h3 : (60 : Int) < (mkS n.text).size
    · refine x8 (p := (60 : Int) < (mkS n.text).size) true (by kernel_rfl) (fun _ => by kernel_rfl) (decide_eq_true (h3)) ?_
      refine Zv (.bool true) (ZY (ZO (Zv (.bool false) (ZN (zG (zD (z5 ?_)))))))
      exact yE (zD (z5 (ZF (.bool false) Tryd.results14 (fun w hO => ⟨false, rfl, fun q => (by cases q), hO.below⟩))))
    refine Zd (p := (60 : Int) < (mkS n.text).size) false (decide_eq_false (h3)) (Zv (.bool false) (ZX (x6 (zJ (z8 (z7 (Zv (.int .i64 (i : Int)) (Zu (k := .i64) (((i + 1 : Nat) : Int)) (IntWalk.i64_in _ (by omega)) (Zv (.int .i64 ((i + 1 : Nat) : Int)) ?_)))))))))
    exact zK (zS (m' := l.length - (i + 1)) (by omega) ⟨i + 1, _, ⟨by omega, by omega, fun j hj hjl => by rcases Nat.lt_succ_iff_lt_or_eq.1 hj with q | rfl; exact hrel.2.2 j q hjl; rw [hn]; have := k0 n.text; omega⟩, rfl, ZU, rfl⟩)
  refine Zd (p := (i : Int) < (l.length : Int)) false (decide_eq_false (h1)) (ZX (xN (yG (zY (zZ (z8 (ZO (Zv (.bool true) ?_))))))))
  exact ZN (zG (ZF (.bool true) Tryd.results14 (fun w hO => ⟨true, rfl, fun _ => ⟨by omega, fun n hn => by obtain ⟨j, hj, rfl⟩ := List.mem_iff_getElem.1 hn; exact hrel.2.2 j (by omega) hj⟩, hO.below⟩)))
theorem tJ (e : Pf) (W : World) : Calls Tryd.prog 15 #[pfV e] W fun x w' => ∃ b, x = .returned (.bool b) ∧ (b = true → (e 0).length ≤ 60 ∧ (e 1).length ≤ 60 ∧ (e 2).length ≤ 60) ∧ Below W.heap.size W w' := by
  refine zU (n := 22) Tryd.func15 rfl (by kernel_rfl) (by kernel_rfl) (ZO (Zb (pfV e) (fun b1 => Zv (.bool false) (ZR (Zv (.pointer (some ⟨b1, 0, none⟩)) (Zv (.pointer (some ⟨b1, 0, none⟩)) (Zl 0 ⟨b1, (pfV e).cells, 33⟩ (off := 0) (.string (mkS (e 0))) ?_)))))))
  refine Zv (.int .i64 ((mkS (e 0)).size)) ?_
  by_cases h1 : ((mkS (e 0)).size : Int) ≤ 60
  · refine x8 (p := ((mkS (e 0)).size : Int) ≤ 60) true (by kernel_rfl) (fun _ => by kernel_rfl) (decide_eq_true (h1)) ?_
    refine Zv (.bool true) (Zv (.pointer (some ⟨b1, 0, none⟩)) (Zv (.pointer (some ⟨b1, 1, none⟩)) (Zl 0 ⟨b1, (pfV e).cells, 33⟩ (off := 1) (.string (mkS (e 1))) (Zv (.int .i64 ((mkS (e 1)).size)) ?_))))
    by_cases h2 : ((mkS (e 1)).size : Int) ≤ 60
    · refine x8 (p := ((mkS (e 1)).size : Int) ≤ 60) true (by kernel_rfl) (fun _ => by kernel_rfl) (decide_eq_true (h2)) ?_
      refine Zv (.bool true) (Zv (.bool true) (Zv (.pointer (some ⟨b1, 0, none⟩)) (Zv (.pointer (some ⟨b1, 2, none⟩)) (Zl 0 ⟨b1, (pfV e).cells, 33⟩ (off := 2) (.string (mkS (e 2))) (Zv (.int .i64 ((mkS (e 2)).size)) ?_)))))
      by_cases h3 : ((mkS (e 2)).size : Int) ≤ 60
      · refine x8 (p := ((mkS (e 2)).size : Int) ≤ 60) true (by kernel_rfl) (fun _ => by kernel_rfl) (decide_eq_true (h3)) ?_
        exact Zv (.bool true) (Zv (.bool true) (ZN (zG (ZF (.bool true) Tryd.results15 (fun w hO => ⟨true, rfl, fun q => (by have h9 := k0 (e 0); have h8 := k0 (e 1); have h7 := k0 (e 2); exact ⟨by omega, by omega, by omega⟩), hO.below⟩)))))
      exact Zd (p := ((mkS (e 2)).size : Int) ≤ 60) false (decide_eq_false (h3)) (Zv (.bool false) (Zv (.bool false) (ZN (zG (ZF (.bool false) Tryd.results15 (fun w hO => ⟨false, rfl, fun q => (by cases q), hO.below⟩))))))
    refine Zd (p := ((mkS (e 1)).size : Int) ≤ 60) false (decide_eq_false (h2)) (Zv (.bool false) (Zv (.bool false) (Zk (Zk (Zk (Zk (Zk (Zv (.bool false) (Zv (.bool false) (zK (z8 ?_)))))))))))
    exact zG (ZF (.bool false) Tryd.results15 (fun w hO => ⟨false, rfl, fun q => (by cases q), hO.below⟩))
  refine Zd (p := ((mkS (e 0)).size : Int) ≤ 60) false (decide_eq_false (h1)) (Zv (.bool false) (Zk (Zk (Zk (Zk (Zk (Zv (.bool false) (Zv (.bool false) (Zk (Zk (Zk ?_)))))))))))
  exact Zk (Zk (Zv (.bool false) (Zv (.bool false) (ZN (zG (ZF (.bool false) Tryd.results15 (fun w hO => ⟨false, rfl, fun q => (by cases q), hO.below⟩)))))))
theorem yN (W : World) (hK : MkLib W) : Calls Tryd.prog 10 #[] W fun e w' => e = .returned (.bool true) ∧ Below W.heap.size W w' := by
  refine zU (n := 52) Tryd.func10 rfl (by kernel_rfl) (by kernel_rfl) (ZO (Zv (.bool false) (ZR (zO (k := 11) (args := #[.string ⟨#[111, 115, 32, 61, 32, 120, 32, 97, 110, 100, 32, 110, 111, 116, 32, 40, 32, 97, 114, 99, 104, 32, 61, 32, 121, 32, 111, 114, 32, 97, 98, 105, 32, 33, 61, 32, 122, 32, 41]⟩]) (fun v' L' => ∃ sv ob', v' = .tuple #[.agg #[sv], .int .i64 (yY ([111, 115, 32, 61, 32, 120, 32, 97, 110, 100, 32, 110, 111, 116, 32, 40, 32, 97, 114, 99, 104, 32, 61, 32, 121, 32, 111, 114, 32, 97, 98, 105, 32, 33, 61, 32, 122, 32, 41]))] ∧ L' = ob' ++ (([] : List Blk)) ∧ SlN sv (y7 ([111, 115, 32, 61, 32, 120, 32, 97, 110, 100, 32, 110, 111, 116, 32, 40, 32, 97, 114, 99, 104, 32, 61, 32, 121, 32, 111, 114, 32, 97, 98, 105, 32, 33, 61, 32, 122, 32, 41])) ob') (by kernel_rfl) (fun _ => by kernel_rfl) (fun w hO => (kC ([111, 115, 32, 61, 32, 120, 32, 97, 110, 100, 32, 110, 111, 116, 32, 40, 32, 97, 114, 99, 104, 32, 61, 32, 121, 32, 111, 114, 32, 97, 98, 105, 32, 33, 61, 32, 122, 32, 41]) w (by first | omega | (simp; done) | (simp; omega) | decide) (hK.on hO.below)).mono fun e w' ⟨v', ob', k1, k2, k3⟩ => ⟨_, _, k1, ⟨v', ob', rfl, rfl, k2⟩, Own.joinN hO k3⟩) (fun vt1 L1 hv1 => ?_)))))
  obtain ⟨sv1, o1, rfl, rfl, hN1⟩ := hv1
  obtain ⟨V1, c1, rfl⟩ := Sl.form hN1
  refine zH (L' := o1) (List.append_nil _) (Zv (.tuple #[.agg #[.slice V1 ((y7 ([111, 115, 32, 61, 32, 120, 32, 97, 110, 100, 32, 110, 111, 116, 32, 40, 32, 97, 114, 99, 104, 32, 61, 32, 121, 32, 111, 114, 32, 97, 98, 105, 32, 33, 61, 32, 122, 32, 41])).length) c1], .int .i64 (yY ([111, 115, 32, 61, 32, 120, 32, 97, 110, 100, 32, 110, 111, 116, 32, 40, 32, 97, 114, 99, 104, 32, 61, 32, 121, 32, 111, 114, 32, 97, 98, 105, 32, 33, 61, 32, 122, 32, 41]))]) (Zv (.agg #[.slice V1 ((y7 ([111, 115, 32, 61, 32, 120, 32, 97, 110, 100, 32, 110, 111, 116, 32, 40, 32, 97, 114, 99, 104, 32, 61, 32, 121, 32, 111, 114, 32, 97, 98, 105, 32, 33, 61, 32, 122, 32, 41])).length) c1]) (Zv (.int .i64 (yY ([111, 115, 32, 61, 32, 120, 32, 97, 110, 100, 32, 110, 111, 116, 32, 40, 32, 97, 114, 99, 104, 32, 61, 32, 121, 32, 111, 114, 32, 97, 98, 105, 32, 33, 61, 32, 122, 32, 41]))) (Za (.agg #[.slice none 0 0]) (fun b1 => Zs 0 ⟨b1, #[.slice none 0 0], 25⟩ (off := 0) (.agg #[.slice V1 ((y7 ([111, 115, 32, 61, 32, 120, 32, 97, 110, 100, 32, 110, 111, 116, 32, 40, 32, 97, 114, 99, 104, 32, 61, 32, 121, 32, 111, 114, 32, 97, 98, 105, 32, 33, 61, 32, 122, 32, 41])).length) c1]) (Zv (.int .i64 (yY ([111, 115, 32, 61, 32, 120, 32, 97, 110, 100, 32, 110, 111, 116, 32, 40, 32, 97, 114, 99, 104, 32, 61, 32, 121, 32, 111, 114, 32, 97, 98, 105, 32, 33, 61, 32, 122, 32, 41]))) (ZR (zO (k := 11) (args := #[.string ⟨#[110, 111, 116, 32, 111, 115, 32, 61, 32, 120]⟩]) (fun v' L' => ∃ sv ob', v' = .tuple #[.agg #[sv], .int .i64 (yY ([110, 111, 116, 32, 111, 115, 32, 61, 32, 120]))] ∧ L' = ob' ++ (⟨b1, #[.slice V1 ((y7 ([111, 115, 32, 61, 32, 120, 32, 97, 110, 100, 32, 110, 111, 116, 32, 40, 32, 97, 114, 99, 104, 32, 61, 32, 121, 32, 111, 114, 32, 97, 98, 105, 32, 33, 61, 32, 122, 32, 41])).length) c1], 25⟩ :: (o1)) ∧ SlN sv (y7 ([110, 111, 116, 32, 111, 115, 32, 61, 32, 120])) ob') (by kernel_rfl) (fun _ => by kernel_rfl) (fun w hO => (kC ([110, 111, 116, 32, 111, 115, 32, 61, 32, 120]) w (by first | omega | (simp; done) | (simp; omega) | decide) (hK.on hO.below)).mono fun e w' ⟨v', ob', k1, k2, k3⟩ => ⟨_, _, k1, ⟨v', ob', rfl, rfl, k2⟩, Own.joinN hO k3⟩) (fun vt2 L2 hv2 => ?_)))))))))
  obtain ⟨sv2, o2, rfl, rfl, hN2⟩ := hv2
  obtain ⟨V2, c2, rfl⟩ := Sl.form hN2
  refine Zv (.tuple #[.agg #[.slice V2 ((y7 ([110, 111, 116, 32, 111, 115, 32, 61, 32, 120])).length) c2], .int .i64 (yY ([110, 111, 116, 32, 111, 115, 32, 61, 32, 120]))]) (Zv (.agg #[.slice V2 ((y7 ([110, 111, 116, 32, 111, 115, 32, 61, 32, 120])).length) c2]) (Zv (.int .i64 (yY ([110, 111, 116, 32, 111, 115, 32, 61, 32, 120]))) (Za (.agg #[.slice none 0 0]) (fun b2 => Zs 0 ⟨b2, #[.slice none 0 0], 25⟩ (off := 0) (.agg #[.slice V2 ((y7 ([110, 111, 116, 32, 111, 115, 32, 61, 32, 120])).length) c2]) (Zv (.int .i64 (yY ([110, 111, 116, 32, 111, 115, 32, 61, 32, 120]))) (ZR (zO (k := 11) (args := #[.string ⟨#[111, 115, 32, 61, 32, 120, 32, 97, 110, 100]⟩]) (fun v' L' => ∃ sv ob', v' = .tuple #[.agg #[sv], .int .i64 (yY ([111, 115, 32, 61, 32, 120, 32, 97, 110, 100]))] ∧ L' = ob' ++ (⟨b2, #[.slice V2 ((y7 ([110, 111, 116, 32, 111, 115, 32, 61, 32, 120])).length) c2], 25⟩ :: (o2 ++ (⟨b1, #[.slice V1 ((y7 ([111, 115, 32, 61, 32, 120, 32, 97, 110, 100, 32, 110, 111, 116, 32, 40, 32, 97, 114, 99, 104, 32, 61, 32, 121, 32, 111, 114, 32, 97, 98, 105, 32, 33, 61, 32, 122, 32, 41])).length) c1], 25⟩ :: (o1)))) ∧ SlN sv (y7 ([111, 115, 32, 61, 32, 120, 32, 97, 110, 100])) ob') (by kernel_rfl) (fun _ => by kernel_rfl) (fun w hO => (kC ([111, 115, 32, 61, 32, 120, 32, 97, 110, 100]) w (by first | omega | (simp; done) | (simp; omega) | decide) (hK.on hO.below)).mono fun e w' ⟨v', ob', k1, k2, k3⟩ => ⟨_, _, k1, ⟨v', ob', rfl, rfl, k2⟩, Own.joinN hO k3⟩) (fun vt3 L3 hv3 => ?_))))))))
  obtain ⟨sv3, o3, rfl, rfl, hN3⟩ := hv3
  obtain ⟨V3, c3, rfl⟩ := Sl.form hN3
  refine Zv (.tuple #[.agg #[.slice V3 ((y7 ([111, 115, 32, 61, 32, 120, 32, 97, 110, 100])).length) c3], .int .i64 (yY ([111, 115, 32, 61, 32, 120, 32, 97, 110, 100]))]) (Zv (.agg #[.slice V3 ((y7 ([111, 115, 32, 61, 32, 120, 32, 97, 110, 100])).length) c3]) (Zv (.int .i64 (yY ([111, 115, 32, 61, 32, 120, 32, 97, 110, 100]))) (Za (.agg #[.slice none 0 0]) (fun b3 => Zs 0 ⟨b3, #[.slice none 0 0], 25⟩ (off := 0) (.agg #[.slice V3 ((y7 ([111, 115, 32, 61, 32, 120, 32, 97, 110, 100])).length) c3]) (Zv (.int .i64 (yY ([111, 115, 32, 61, 32, 120, 32, 97, 110, 100]))) (ZR (Zv (.int .i64 (yY ([111, 115, 32, 61, 32, 120, 32, 97, 110, 100, 32, 110, 111, 116, 32, 40, 32, 97, 114, 99, 104, 32, 61, 32, 121, 32, 111, 114, 32, 97, 98, 105, 32, 33, 61, 32, 122, 32, 41]))) (Zd (p := (yY ([111, 115, 32, 61, 32, 120, 32, 97, 110, 100, 32, 110, 111, 116, 32, 40, 32, 97, 114, 99, 104, 32, 61, 32, 121, 32, 111, 114, 32, 97, 98, 105, 32, 33, 61, 32, 122, 32, 41]) : Int) = 0) true (decide_eq_true (by kernel_rfl)) ?_))))))))
  refine Zv (.bool true) (Zv (.int .i64 (yY ([110, 111, 116, 32, 111, 115, 32, 61, 32, 120]))) (Zd (p := (yY ([110, 111, 116, 32, 111, 115, 32, 61, 32, 120]) : Int) = 0) true (decide_eq_true (by kernel_rfl)) (Zv (.bool true) (Zv (.bool true) (Zv (.int .i64 (yY ([111, 115, 32, 61, 32, 120, 32, 97, 110, 100]))) (Zd (p := (yY ([111, 115, 32, 61, 32, 120, 32, 97, 110, 100]) : Int) = 7) true (decide_eq_true (by kernel_rfl)) (Zv (.bool true) (Zv (.bool true) (zX ⟨b1, #[.slice V1 ((y7 ([111, 115, 32, 61, 32, 120, 32, 97, 110, 100, 32, 110, 111, 116, 32, 40, 32, 97, 114, 99, 104, 32, 61, 32, 121, 32, 111, 114, 32, 97, 98, 105, 32, 33, 61, 32, 122, 32, 41])).length) c1], 25⟩ (off := 0) (.agg #[.slice V1 ((y7 ([111, 115, 32, 61, 32, 120, 32, 97, 110, 100, 32, 110, 111, 116, 32, 40, 32, 97, 114, 99, 104, 32, 61, 32, 121, 32, 111, 114, 32, 97, 98, 105, 32, 33, 61, 32, 122, 32, 41])).length) c1]) (by kernel_rfl) rfl (by simp) (by kernel_rfl) (by kernel_rfl) (Zc (k := 20) (args := #[.agg #[.slice V1 ((y7 ([111, 115, 32, 61, 32, 120, 32, 97, 110, 100, 32, 110, 111, 116, 32, 40, 32, 97, 114, 99, 104, 32, 61, 32, 121, 32, 111, 114, 32, 97, 98, 105, 32, 33, 61, 32, 122, 32, 41])).length) c1]]) (.string (mkS (z6 (y7 ([111, 115, 32, 61, 32, 120, 32, 97, 110, 100, 32, 110, 111, 116, 32, 40, 32, 97, 114, 99, 104, 32, 61, 32, 121, 32, 111, 114, 32, 97, 98, 105, 32, 33, 61, 32, 122, 32, 41]))))) (fun w hO => gY V1 c1 (y7 ([111, 115, 32, 61, 32, 120, 32, 97, 110, 100, 32, 110, 111, 116, 32, 40, 32, 97, 114, 99, 104, 32, 61, 32, 121, 32, 111, 114, 32, 97, 98, 105, 32, 33, 61, 32, 122, 32, 41])) w (Sl.reads hN1 rfl hO (fun x hx => by simp [hx])) (gH ([111, 115, 32, 61, 32, 120, 32, 97, 110, 100, 32, 110, 111, 116, 32, 40, 32, 97, 114, 99, 104, 32, 61, 32, 121, 32, 111, 114, 32, 97, 98, 105, 32, 33, 61, 32, 122, 32, 41])) (qL ([111, 115, 32, 61, 32, 120, 32, 97, 110, 100, 32, 110, 111, 116, 32, 40, 32, 97, 114, 99, 104, 32, 61, 32, 121, 32, 111, 114, 32, 97, 98, 105, 32, 33, 61, 32, 122, 32, 41])) (hK.on hO.below)) (zM (.bool true) (by kernel_rfl) (zV (a := (z6 (y7 ([111, 115, 32, 61, 32, 120, 32, 97, 110, 100, 32, 110, 111, 116, 32, 40, 32, 97, 114, 99, 104, 32, 61, 32, 121, 32, 111, 114, 32, 97, 98, 105, 32, 33, 61, 32, 122, 32, 41])))) (b := ([111, 115, 32, 61, 32, 120, 32, 97, 110, 100, 32, 110, 111, 116, 32, 40, 32, 97, 114, 99, 104, 32, 61, 32, 121, 32, 111, 114, 32, 97, 98, 105, 32, 33, 61, 32, 122, 32, 41])) rfl (by kernel_rfl) (by kernel_rfl) (decide_eq_true (by kernel_rfl))) ?_)))))))))))
  refine Zv (.bool true) (Zv (.bool true) (zX ⟨b2, #[.slice V2 ((y7 ([110, 111, 116, 32, 111, 115, 32, 61, 32, 120])).length) c2], 25⟩ (off := 0) (.agg #[.slice V2 ((y7 ([110, 111, 116, 32, 111, 115, 32, 61, 32, 120])).length) c2]) (by kernel_rfl) rfl (by simp) (by kernel_rfl) (by kernel_rfl) (Zc (k := 20) (args := #[.agg #[.slice V2 ((y7 ([110, 111, 116, 32, 111, 115, 32, 61, 32, 120])).length) c2]]) (.string (mkS (z6 (y7 ([110, 111, 116, 32, 111, 115, 32, 61, 32, 120]))))) (fun w hO => gY V2 c2 (y7 ([110, 111, 116, 32, 111, 115, 32, 61, 32, 120])) w (Sl.reads hN2 rfl hO (fun x hx => by simp [hx])) (gH ([110, 111, 116, 32, 111, 115, 32, 61, 32, 120])) (qL ([110, 111, 116, 32, 111, 115, 32, 61, 32, 120])) (hK.on hO.below)) (zM (.bool true) (by kernel_rfl) (zV (a := (z6 (y7 ([110, 111, 116, 32, 111, 115, 32, 61, 32, 120])))) (b := ([111, 115, 32, 33, 61, 32, 120])) rfl (by kernel_rfl) (by kernel_rfl) (decide_eq_true (by kernel_rfl))) (Zv (.bool true) (Zv (.bool true) (zX ⟨b1, #[.slice V1 ((y7 ([111, 115, 32, 61, 32, 120, 32, 97, 110, 100, 32, 110, 111, 116, 32, 40, 32, 97, 114, 99, 104, 32, 61, 32, 121, 32, 111, 114, 32, 97, 98, 105, 32, 33, 61, 32, 122, 32, 41])).length) c1], 25⟩ (off := 0) (.agg #[.slice V1 ((y7 ([111, 115, 32, 61, 32, 120, 32, 97, 110, 100, 32, 110, 111, 116, 32, 40, 32, 97, 114, 99, 104, 32, 61, 32, 121, 32, 111, 114, 32, 97, 98, 105, 32, 33, 61, 32, 122, 32, 41])).length) c1]) (by kernel_rfl) rfl (by simp) (by kernel_rfl) (by kernel_rfl) (Zv (.agg #[.string ⟨#[119]⟩, .string ⟨#[]⟩, .string ⟨#[]⟩]) (Zv (.agg #[.string ⟨#[119]⟩, .string ⟨#[]⟩, .string ⟨#[]⟩]) (Zc (k := 24) (args := #[.agg #[.slice V1 ((y7 ([111, 115, 32, 61, 32, 120, 32, 97, 110, 100, 32, 110, 111, 116, 32, 40, 32, 97, 114, 99, 104, 32, 61, 32, 121, 32, 111, 114, 32, 97, 98, 105, 32, 33, 61, 32, 122, 32, 41])).length) c1], .agg #[.string ⟨#[119]⟩, .string ⟨#[]⟩, .string ⟨#[]⟩]]) (.int .i64 (zL (y7 ([111, 115, 32, 61, 32, 120, 32, 97, 110, 100, 32, 110, 111, 116, 32, 40, 32, 97, 114, 99, 104, 32, 61, 32, 121, 32, 111, 114, 32, 97, 98, 105, 32, 33, 61, 32, 122, 32, 41])) (pf3 ([119]) ([]) ([])))) (fun w hO => x2 V1 c1 (y7 ([111, 115, 32, 61, 32, 120, 32, 97, 110, 100, 32, 110, 111, 116, 32, 40, 32, 97, 114, 99, 104, 32, 61, 32, 121, 32, 111, 114, 32, 97, 98, 105, 32, 33, 61, 32, 122, 32, 41])) (pf3 ([119]) ([]) ([])) w (Sl.reads hN1 rfl hO (fun x hx => by simp [hx])) (gH ([111, 115, 32, 61, 32, 120, 32, 97, 110, 100, 32, 110, 111, 116, 32, 40, 32, 97, 114, 99, 104, 32, 61, 32, 121, 32, 111, 114, 32, 97, 98, 105, 32, 33, 61, 32, 122, 32, 41])) (qL ([111, 115, 32, 61, 32, 120, 32, 97, 110, 100, 32, 110, 111, 116, 32, 40, 32, 97, 114, 99, 104, 32, 61, 32, 121, 32, 111, 114, 32, 97, 98, 105, 32, 33, 61, 32, 122, 32, 41])) (p7 (by first | omega | simp) (by first | omega | simp) (by first | omega | simp)) (hK.on hO.below)) (Zd (p := (zL (y7 ([111, 115, 32, 61, 32, 120, 32, 97, 110, 100, 32, 110, 111, 116, 32, 40, 32, 97, 114, 99, 104, 32, 61, 32, 121, 32, 111, 114, 32, 97, 98, 105, 32, 33, 61, 32, 122, 32, 41])) (pf3 ([119]) ([]) ([])) : Int) = 0) true (decide_eq_true (by kernel_rfl)) ?_)))))))))))
  refine Zv (.bool true) (Zv (.bool true) (Zv (.agg #[.slice none 0 0]) (Zv (.agg #[.string ⟨#[]⟩, .string ⟨#[]⟩, .string ⟨#[]⟩]) (Zc (k := 24) (args := #[.agg #[.slice none 0 0], .agg #[.string ⟨#[]⟩, .string ⟨#[]⟩, .string ⟨#[]⟩]]) (.int .i64 (zL ([]) (pf3 ([]) ([]) ([])))) (fun w hO => x2 none 0 ([]) (pf3 ([]) ([]) ([])) w (fun h => absurd h (by simp)) (by simp) (by simp) (p7 (by first | omega | simp) (by first | omega | simp) (by first | omega | simp)) (hK.on hO.below)) (Zd (p := (zL ([]) (pf3 ([]) ([]) ([])) : Int) = 2) true (decide_eq_true (by kernel_rfl)) (Zv (.bool true) (Zv (.bool true) (ZN (zG (ZF (.bool true) Tryd.results10 ?_))))))))))
  exact fun w hO => ⟨rfl, hO.below⟩
theorem markReads.law (s : List UInt8) (W : World) (hK : MkLib W) : Calls Tryd.prog 3 #[.string (mkS s)] W fun e w' => e = .returned (.bool true) ∧ Below W.heap.size W w' := by
  have hsz := k0 s
  refine zU (n := 32) Tryd.func3 rfl (by kernel_rfl) (by kernel_rfl) (ZO (Zv (.bool false) (ZN (zF (ZO (Zv (.string (mkS s)) (Zv (.int .i64 ((mkS s).size)) ?_)))))))
  by_cases h1 : (300 : Int) < (mkS s).size
  · refine x8 (p := (300 : Int) < (mkS s).size) true (by kernel_rfl) (fun _ => by kernel_rfl) (decide_eq_true (h1)) ?_
    refine ZY (ZO (Zc (k := 10) (args := #[]) (.bool true) (fun w hO => yN w (hK.on hO.below)) (Zv (.bool true) (ZN (zG (z5 (ZF (.bool true) Tryd.results3 ?_)))))))
    exact fun w hO => ⟨rfl, hO.below⟩
  refine Zd (p := (300 : Int) < (mkS s).size) false (decide_eq_false (h1)) (ZX (ZB (ZO (Zv (.string (mkS s)) (zO (k := 11) (args := #[.string (mkS s)]) (fun v' L' => ∃ sv ob', v' = .tuple #[.agg #[sv], .int .i64 (yY s)] ∧ L' = ob' ++ (([] : List Blk)) ∧ SlN sv (y7 s) ob') (by kernel_rfl) (fun _ => by kernel_rfl) (fun w hO => (kC s w (by first | omega | (simp; done) | (simp; omega) | decide) (hK.on hO.below)).mono fun e w' ⟨v', ob', k1, k2, k3⟩ => ⟨_, _, k1, ⟨v', ob', rfl, rfl, k2⟩, Own.joinN hO k3⟩) (fun vt1 L1 hv1 => ?_))))))
  obtain ⟨sv1, o1, rfl, rfl, hN1⟩ := hv1
  obtain ⟨V1, c1, rfl⟩ := Sl.form hN1
  refine zH (L' := o1) (List.append_nil _) (Zv (.tuple #[.agg #[.slice V1 ((y7 s).length) c1], .int .i64 (yY s)]) (Zv (.agg #[.slice V1 ((y7 s).length) c1]) (Zv (.int .i64 (yY s)) (Za (.agg #[.slice none 0 0]) (fun b1 => Zs 0 ⟨b1, #[.slice none 0 0], 25⟩ (off := 0) (.agg #[.slice V1 ((y7 s).length) c1]) (Zv (.int .i64 (yY s)) (ZR (Zv (.string (mkS s)) ?_))))))))
  refine zO (k := 12) (args := #[.string (mkS s)]) (fun v' L' => ∃ sv ob', v' = .tuple #[.agg #[sv], .int .i64 (yY s)] ∧ L' = ob' ++ (⟨b1, #[.slice V1 ((y7 s).length) c1], 25⟩ :: (o1)) ∧ SlN sv (y7 s) ob') (by kernel_rfl) (fun _ => by kernel_rfl) (fun w hO => (pS s w (by first | omega | (simp; done) | (simp; omega) | decide)).mono fun e w' ⟨v', ob', k1, k2, k3⟩ => ⟨_, _, k1, ⟨v', ob', rfl, rfl, k2⟩, Own.joinN hO k3⟩) (fun vt2 L2 hv2 => ?_)
  obtain ⟨sv2, o2, rfl, rfl, hN2⟩ := hv2
  obtain ⟨V2, c2, rfl⟩ := Sl.form hN2
  refine Zv (.tuple #[.agg #[.slice V2 ((y7 s).length) c2], .int .i64 (yY s)]) (Zv (.agg #[.slice V2 ((y7 s).length) c2]) (Zv (.int .i64 (yY s)) (Za (.agg #[.slice none 0 0]) (fun b2 => Zs 0 ⟨b2, #[.slice none 0 0], 25⟩ (off := 0) (.agg #[.slice V2 ((y7 s).length) c2]) (Zv (.int .i64 (yY s)) (ZR (Zc (k := 10) (args := #[]) (.bool true) (fun w hO => yN w (hK.on hO.below)) (Zv (.bool true) ?_))))))))
  refine zX ⟨b1, #[.slice V1 ((y7 s).length) c1], 25⟩ (off := 0) (.agg #[.slice V1 ((y7 s).length) c1]) (by kernel_rfl) rfl (by simp) (by kernel_rfl) (by kernel_rfl) (Zl 0 ⟨b2, #[.slice V2 ((y7 s).length) c2], 25⟩ (off := 0) (.agg #[.slice V2 ((y7 s).length) c2]) (Zc (k := 13) (args := #[.agg #[.slice V1 ((y7 s).length) c1], .agg #[.slice V2 ((y7 s).length) c2]]) (.bool true) (fun w hO => hZ (decide_eq_true (rfl)) (qQ V1 V2 c1 c2 (y7 s) (y7 s) w (Sl.reads hN1 rfl hO (fun x hx => by simp [hx])) (Sl.reads hN2 rfl hO (fun x hx => by simp [hx])) (by have := (gH s); omega) (by have := (gH s); omega))) (Zv (.bool true) (Zv (.bool true) (Zv (.int .i64 (yY s)) (Zv (.int .i64 (yY s)) (Zd (p := (yY s : Int) = yY s) true (decide_eq_true (rfl)) (Zv (.bool true) (Zv (.bool true) (zK (z8 ?_)))))))))))
  exact zG (ZF (.bool true) Tryd.results3 (fun w hO => ⟨rfl, hO.below⟩))
end
section
open Go.ChangeShapes Go.WideShapes Go.ChangeAt Go.RowKit
theorem nR {H : Type} {enc : TypeId × Value → H} {P : Program} {w : World} {base : Nat} {sp : Nat → Bool} {held : Bool} {fuel : Nat} {t e : TypeId} {n : Nat} {cs : List Value} {ss : List (List UInt8)} {p : List MemPlace}
    (ht : P.underlying t = some (.array n e)) (he : P.underlying e = some .string) (hce : P.cellsOf e = 1) (hct : P.cellsOf t = n)
    (h : DataW.trod enc P w base sp held fuel t cs = some (.agg (ss.map fun s => .lit (.string s)), p)) : cs = ss.map fun s => Value.string (mkS s) := by
  cases fuel with
  | zero => simp [DataW.trod] at h
  | succ fuel =>
    simp only [DataW.trod, ht, hce, hct, Nat.mul_one] at h
    split at h
    · rename_i hl
      obtain ⟨xs, hm, hx⟩ := Option.map_eq_some_iff.1 h
      have hxs : xs.map (·.1) = ss.map fun s => (DataW.lit (.string s) : DataW H) := by
        have := congrArg Prod.fst hx
        simpa using this
      have hxl : xs.length = n := by simpa using Lib.mapM_length hm
      have hzl : ss.length = n := by
        have := congrArg List.length hxs
        simp at this
        omega
      apply List.ext_getElem?
      intro i
      by_cases hi : i < n
      · obtain ⟨b, hb, hf⟩ := Lib.mapM_at hm i i (by simp [hi])
        obtain ⟨s, hc, rfl, _⟩ := DataW.trod_string he hf
        have h1 : cs[i]? = some (.string s) := by
          have := congrArg (·[0]?) hc
          simpa [List.getElem?_take, List.getElem?_drop] using this
        have h2 : (xs.map (·.1))[i]? = some (DataW.lit (.string s.data.toList) : DataW H) := by simp [hb]
        rw [hxs] at h2
        simp only [List.getElem?_map, Option.map_eq_some_iff, DataW.lit.injEq, Lit.string.injEq] at h2
        obtain ⟨z', hz', e9⟩ := h2
        rw [h1, List.getElem?_map, hz', e9]
        show some (Value.string s) = some (Value.string (mkS s.data.toList))
        rw [show mkS s.data.toList = s from by cases s; unfold mkS; simp]
      · rw [List.getElem?_eq_none (by omega), List.getElem?_eq_none (by simp; omega)]
    · cases h
theorem keysType : (Tryd.prog.globals[0]?).map (·.type) = some 31 := by kernel_rfl
theorem keysNamed : Tryd.prog.globalNamed "linchpin/mark.keys" = some 0 := by kernel_rfl
theorem keysCells : Tryd.prog.cellsOf 31 = 3 := by kernel_rfl
theorem jC {W : World} {l : List (String × DataW Unit)} (h : laidMetH Tryd.prog l W) (e : (l.filter fun x => x.1 == "linchpin/mark.keys") = [("linchpin/mark.keys", .agg [.lit (.string [111, 115]), .lit (.string [97, 114, 99, 104]), .lit (.string [97, 98, 105])])]) : MkLib W := by
  have h2 := h.filter (fun x => x.1 == "linchpin/mark.keys")
  rw [e] at h2
  obtain ⟨ps, ⟨g', t', cs, fuel, p, q, hg', ht', hvar, hd, _, hps⟩, _, hcell⟩ := h2
  obtain rfl := Option.some.inj (keysNamed.symm.trans hg')
  obtain rfl := Option.some.inj (keysType.symm.trans ht')
  have hcs : cs.toList = [[111, 115], [97, 114, 99, 104], [97, 98, 105]].map fun s => Value.string (mkS s) := nR (n := 3) Tryd.underlying31 Tryd.underlying9 strCells1 keysCells hd
  have hsz : cs.size = 3 := by rw [← Array.length_toList, hcs]; rfl
  have hm : MemPlace.cell 0 0 ∈ ps := by
    rw [hps]
    refine List.mem_append_left _ (List.mem_append_left _ ?_)
    exact MemPlace.mem_row.2 ⟨0, by rw [hsz]; decide, rfl⟩
  obtain ⟨⟨c, t, hb⟩, _⟩ := hcell _ _ hm
  have hv : W.var? Tryd.prog "linchpin/mark.keys" = some c := by
    unfold World.var?
    rw [keysNamed]
    simp only [Option.bind_some, hb]
  have hcc : c = cs := Option.some.inj (hv.symm.trans hvar)
  refine ⟨(Array.getElem?_eq_some_iff.1 hb).1, t, ?_⟩
  rw [hb, hcc]
  congr 2
  apply Array.toList_inj.1
  rw [hcs]
  rfl
end
section
open Go.ChangeShapes Go.WideShapes Go.ChangeAt Go.RowKit Go.Deep
theorem p8 (p : ByteArray) : mkS p.data.toList = p := by unfold mkS; simp
theorem pA {α : Type} {p : Nat → α → Prop} : ∀ (n : Nat), (∀ i, i < n → ∃ x, p i x) → ∃ l : List α, l.length = n ∧ ∀ i (h : i < l.length), p i l[i]
  | 0, _ => ⟨[], rfl, fun i h => absurd h (Nat.not_lt_zero _)⟩
  | n + 1, h => by
    obtain ⟨l, hl, hp⟩ := pA n fun i hi => h i (Nat.lt_succ_of_lt hi)
    obtain ⟨x, hx⟩ := h n (Nat.lt_succ_self n)
    refine ⟨l ++ [x], by simp [hl], fun i hi => ?_⟩
    by_cases h1 : i < l.length
    · rw [List.getElem_append_left h1]; exact hp i h1
    · have : i = n := by simp at hi; omega
      subst this
      rw [List.getElem_append_right (by omega)]
      simpa [hl] using hx
theorem cell_spot10 {w : World} {a : Addr} {v : Value} (h : w.cell? a = some v) : a.spot = none := by
  unfold World.cell? at h
  split at h
  · split at h
    · cases h
    · rename_i hs; simpa using hs
  · cases h
theorem pI {a : Addr} (h : a.spot = none) (k : Nat) : a.add k = ⟨a.block, a.off + k, none⟩ := by
  obtain ⟨b, o, s⟩ := a
  obtain rfl : s = none := h
  exact y5 b o k
theorem nL {α : Type} {g : α → List Value} {sz : Nat} (h0 : 0 < sz) (hg : ∀ x, (g x).length = sz) {p : α → Prop} {W : World} {a : Addr} {len : Nat} (hel : ∀ i, i < len → ∃ x, p x ∧ W.cells? 0 (a.add (i * sz)) sz = some (g x)) :
    ∃ l : List α, l.length = len ∧ Reads g W W.heap.size (some a) l ∧ ∀ x ∈ l, p x := by
  obtain ⟨l, hll, hp⟩ := pA (p := fun i (x : α) => p x ∧ W.cells? 0 (a.add (i * sz)) sz = some (g x)) len hel
  refine ⟨l, hll, fun hl0 => ?_, fun x hx => ?_⟩
  · have c0 := (hp 0 hl0).2
    have hc : ∀ i (hi : i < l.length) j u, (g l[i])[j]? = some u → W.cell? ((a.add (i * sz)).add j) = some u := fun i hi j u hj => by
      obtain ⟨_, hn, hx⟩ := World.cells?_some (hp i hi).2
      have hjs : j < sz := by have := (List.getElem?_eq_some_iff.1 hj).1; rwa [hg] at this
      first | rw [hx j hjs, hj] | (have := hx j hjs; rw [this]; exact hj)
    have s0 : (g l[0])[0]? = some ((g l[0])[0]'(by rw [hg]; exact h0)) := List.getElem?_eq_getElem _
    have sp : a.spot = none := by
      have := cell_spot10 (hc 0 hl0 0 _ s0)
      simpa [Addr.add] using this
    refine ⟨a.block, a.off, ?_, ?_, fun k u hk => ?_⟩
    · obtain ⟨b, o, s⟩ := a
      obtain rfl : s = none := sp
      rfl
    · have := World.cells?_block c0 h0
      rwa [pI sp] at this
    · have hkl : k < l.length * sz := by have := (List.getElem?_eq_some_iff.1 hk).1; rwa [flat_len hg] at this
      have hi : k / sz < l.length := Nat.div_lt_of_lt_mul (by rwa [Nat.mul_comm] at hkl)
      have e : k / sz * sz + k % sz = k := Nat.div_add_mod' k sz
      have hms : k % sz < sz := Nat.mod_lt _ h0
      have h2 := flat_at hg l (k / sz) hi
      have h3 : (g l[k / sz])[k % sz]? = some u := by
        rw [← h2, List.getElem?_take, if_pos hms, List.getElem?_drop, e]; exact hk
      have := hc (k / sz) hi (k % sz) u h3
      rw [pI sp, y5, Nat.add_assoc, e] at this
      exact this
  · obtain ⟨i, hi, rfl⟩ := List.mem_iff_getElem.1 hx
    exact (hp i hi).1
theorem back10 {v : Value} {cs : Array Value} {l : List Value} (h : v = .agg cs) (e : v.cells.toList = l) : v = .agg l.toArray := by
  subst h
  have : cs.toList = l := e
  rw [← this]
section
variable {H : Type} {enc : TypeId × Value → H} {W : World}
theorem jM {fuel : Nat} {cs : List Value} {x : DataW H × List MemPlace} (h : DataW.trod enc Tryd.prog W 0 (fun _ => true) true fuel 3 cs = some x) : ∃ a, cs = [.int .i64 a] := by
  obtain ⟨a, e, _, hw⟩ := DataW.trod_int Tryd.underlying3 h
  exact ⟨a, e⟩
theorem jL {fuel : Nat} {cs : List Value} {x : DataW H × List MemPlace} (h : DataW.trod enc Tryd.prog W 0 (fun _ => true) true fuel 9 cs = some x) : ∃ p : List UInt8, cs = [.string (mkS p)] := by
  obtain ⟨p, e, _, hw⟩ := DataW.trod_string Tryd.underlying9 h
  exact ⟨p.data.toList, by rw [p8]; exact e⟩
theorem size_int10 : Tryd.prog.cellsOf 3 = 1 := by kernel_rfl
theorem mN : Tryd.prog.cellsOf 9 = 1 := by kernel_rfl
theorem mO : Tryd.prog.cellsOf 31 = 3 := by kernel_rfl
theorem nZ : Tryd.prog.cellsOf 48 = 5 := by kernel_rfl
theorem size_nds10 : Tryd.prog.cellsOf 23 = 1 := by kernel_rfl
theorem tI : Tryd.prog.cellsOf 25 = 1 := by kernel_rfl
theorem size_env10 : Tryd.prog.cellsOf 33 = 3 := by kernel_rfl
theorem cells_nd {fuel : Nat} {cs : List Value} {x : DataW H × List MemPlace} (h : DataW.trod enc Tryd.prog W 0 (fun _ => true) true fuel 48 cs = some x) : ∃ n : Nd, cs = nC n := by
  obtain ⟨xs, n, _, _, hl, hxl, hg⟩ := DataW.trod_struct Tryd.underlying48 h
  rw [nZ] at hl
  match cs, hl with
  | [c0, c1, c2, c3, c4], _ =>
    have g : ∀ i, i < 5 → ∃ y, xs[i]? = some y := fun i hi => ⟨_, List.getElem?_eq_getElem (by rw [hxl]; exact hi)⟩
    obtain ⟨y0, e0⟩ := g 0 (by omega)
    obtain ⟨y1, e1⟩ := g 1 (by omega)
    obtain ⟨y2, e2⟩ := g 2 (by omega)
    obtain ⟨y3, e3⟩ := g 3 (by omega)
    obtain ⟨y4, e4⟩ := g 4 (by omega)
    obtain ⟨a, ha⟩ := jM ((hg 0 _ rfl).trans e0)
    obtain ⟨b, hb⟩ := jM ((hg 1 _ rfl).trans e1)
    obtain ⟨c, hc⟩ := jM ((hg 2 _ rfl).trans e2)
    obtain ⟨d, hd⟩ := jM ((hg 3 _ rfl).trans e3)
    obtain ⟨p, hp⟩ := jL ((hg 4 _ rfl).trans e4)
    have ha2 : List.take (Tryd.prog.cellsOf 3) (List.drop 0 [c0, c1, c2, c3, c4]) = _ := ha
    have hb2 : List.take (Tryd.prog.cellsOf 3) (List.drop 1 [c0, c1, c2, c3, c4]) = _ := hb
    have hc2 : List.take (Tryd.prog.cellsOf 3) (List.drop 2 [c0, c1, c2, c3, c4]) = _ := hc
    have hd2 : List.take (Tryd.prog.cellsOf 3) (List.drop 3 [c0, c1, c2, c3, c4]) = _ := hd
    have hp2 : List.take (Tryd.prog.cellsOf 9) (List.drop 4 [c0, c1, c2, c3, c4]) = _ := hp
    rw [size_int10] at ha2 hb2 hc2 hd2
    rw [mN] at hp2
    obtain rfl : c0 = _ := List.singleton_inj.1 ha2
    obtain rfl : c1 = _ := List.singleton_inj.1 hb2
    obtain rfl : c2 = _ := List.singleton_inj.1 hc2
    obtain rfl : c3 = _ := List.singleton_inj.1 hd2
    obtain rfl : c4 = _ := List.singleton_inj.1 hp2
    exact ⟨⟨a, b, c, d, p⟩, rfl⟩
theorem cells_nds {fuel : Nat} {cs : List Value} {x : DataW H × List MemPlace} (h : DataW.trod enc Tryd.prog W 0 (fun _ => true) true fuel 23 cs = some x) : ∃ (A : Option Addr) (cap : Nat) (l : List Nd), cs = [.slice A l.length cap] ∧ Reads nC W W.heap.size A l ∧ l.length ≤ cap ∧ cap ≤ maxLen := by
  rcases DataW.trod_slice Tryd.underlying23 h with ⟨hcs, _⟩ | ⟨a, len, cap, elems, rest, n, _, hcs, _, hb, hl, hm, hlen, hel, _, _⟩
  · exact ⟨none, 0, [], hcs, fun h => by simp at h, Nat.le_refl _, Nat.zero_le _⟩
  · subst hcs
    rw [nZ] at hel
    obtain ⟨l, hll, hr, _⟩ := nL (g := nC) (sz := 5) (p := fun _ => True) (by decide) yX (W := W) (a := a) (len := len) fun i hi => by
      have h1 := hel i hi
      rw [List.getElem?_eq_getElem (by omega)] at h1
      obtain ⟨cs, e1, e2⟩ := Option.bind_eq_some_iff.1 h1
      obtain ⟨c, e3⟩ := cells_nd e2
      exact ⟨c, trivial, by rw [e1, e3]⟩
    exact ⟨some a, cap, l, by rw [hll], hr, by omega, hm⟩
theorem open_mark {base : Nat} {v : Value} {d : DataW H} {ps : List MemPlace} (hval : Value.okWide Tryd.prog W .any base 25 v) (h : DataW.Trod enc Tryd.prog W 0 (fun _ => true) true 25 v d ps) : ∃ (A : Option Addr) (cap : Nat) (l : List Nd), v = .agg #[.slice A l.length cap] ∧ Reads nC W W.heap.size A l ∧ l.length ≤ cap ∧ cap ≤ maxLen := by
  obtain ⟨cs, hc, _⟩ := okWide_struct Tryd.underlying25 hval
  obtain ⟨fuel, hf⟩ := h
  obtain ⟨xs, n, _, _, hl, hxl, hg⟩ := DataW.trod_struct Tryd.underlying25 hf
  rw [tI] at hl
  have g : ∀ i, i < 1 → ∃ y, xs[i]? = some y := fun i hi => ⟨_, List.getElem?_eq_getElem (by rw [hxl]; exact hi)⟩
  obtain ⟨y0, e0⟩ := g 0 (by omega)
  obtain ⟨A, c, l, ha, ra, c1, c2⟩ := cells_nds ((hg 0 _ rfl).trans e0)
  have ha2 : List.take (Tryd.prog.cellsOf 23) (List.drop 0 v.cells.toList) = _ := ha
  rw [size_nds10, List.drop_zero, List.take_of_length_le (by omega)] at ha2
  exact ⟨A, c, l, (back10 hc ha2).trans rfl, ra, c1, c2⟩
theorem cells_arr {fuel : Nat} {cs : List Value} {x : DataW H × List MemPlace} (h : DataW.trod enc Tryd.prog W 0 (fun _ => true) true fuel 31 cs = some x) : ∃ p q r : List UInt8, cs = [.string (mkS p), .string (mkS q), .string (mkS r)] := by
  obtain ⟨xs, n, _, _, hl, hxl, hg⟩ := DataW.trod_array Tryd.underlying31 h
  rw [mO] at hl
  match cs, hl with
  | [c0, c1, c2], _ =>
    have g : ∀ i, i < 3 → ∃ y, xs[i]? = some y := fun i hi => ⟨_, List.getElem?_eq_getElem (by rw [hxl]; exact hi)⟩
    obtain ⟨y0, e0⟩ := g 0 (by omega)
    obtain ⟨y1, e1⟩ := g 1 (by omega)
    obtain ⟨y2, e2⟩ := g 2 (by omega)
    obtain ⟨p, hp⟩ := jL ((hg 0 (by omega)).trans e0)
    obtain ⟨q, hq⟩ := jL ((hg 1 (by omega)).trans e1)
    obtain ⟨r, hr⟩ := jL ((hg 2 (by omega)).trans e2)
    rw [mN] at hp hq hr
    obtain rfl : c0 = _ := List.singleton_inj.1 hp
    obtain rfl : c1 = _ := List.singleton_inj.1 hq
    obtain rfl : c2 = _ := List.singleton_inj.1 hr
    exact ⟨p, q, r, rfl⟩
theorem open_env {base : Nat} {v : Value} {d : DataW H} {ps : List MemPlace} (hval : Value.okWide Tryd.prog W .any base 33 v) (h : DataW.Trod enc Tryd.prog W 0 (fun _ => true) true 33 v d ps) : ∃ e : Pf, v = pfV e := by
  obtain ⟨cs, hc, _⟩ := okWide_struct Tryd.underlying33 hval
  obtain ⟨fuel, hf⟩ := h
  obtain ⟨xs, n, _, _, hl, hxl, hg⟩ := DataW.trod_struct Tryd.underlying33 hf
  rw [size_env10] at hl
  have g : ∀ i, i < 1 → ∃ y, xs[i]? = some y := fun i hi => ⟨_, List.getElem?_eq_getElem (by rw [hxl]; exact hi)⟩
  obtain ⟨y0, e0⟩ := g 0 (by omega)
  obtain ⟨p, q, r, ha⟩ := cells_arr ((hg 0 _ rfl).trans e0)
  have ha2 : List.take (Tryd.prog.cellsOf 31) (List.drop 0 v.cells.toList) = _ := ha
  rw [mO, List.drop_zero, List.take_of_length_le (by omega)] at ha2
  exact ⟨fun k => if k = 0 then p else if k = 1 then q else r, (back10 hc ha2).trans rfl⟩
end
end
section
set_option linter.unnecessarySimpa false
theorem markUnder.law (A : Option Addr) (cap : Nat) (l : List Nd) (e : Pf) (W : World) (hv : Reads nC W W.heap.size A l) (hK : MkLib W) : Calls Tryd.prog 4 #[.agg #[.slice A l.length cap], pfV e] W fun x w' => x = .returned (.bool true) ∧ Below W.heap.size W w' := by
  refine zU (n := 41) Tryd.func4 rfl (by kernel_rfl) (by kernel_rfl) (ZO (Zb (.agg #[.slice A l.length cap]) (fun b1 => Zb (pfV e) (fun b2 => Zv (.bool false) (ZN (zF (ZO (Zl 1 ⟨b1, #[.slice A l.length cap], 25⟩ (off := 0) (.agg #[.slice A l.length cap]) ?_))))))))
  refine zO (k := 14) (args := #[.agg #[.slice A l.length cap]]) (fun v' L' => ∃ b, v' = .bool b ∧ L' = [⟨b2, (pfV e).cells, 33⟩, ⟨b1, #[.slice A l.length cap], 25⟩] ∧ (b = true → l.length ≤ 21 ∧ ∀ n ∈ l, n.text.length ≤ 60)) (by kernel_rfl) (fun _ => by kernel_rfl) (fun w hO => (few10_any A cap l w (hv.on hO.below hO.size)).mono fun e w' ⟨b, k1, k2, k3⟩ => ⟨_, _, k1, ⟨b, rfl, rfl, k2⟩, hO.on k3⟩) (fun vt1 L1 hv1 => ?_)
  obtain ⟨fb1, rfl, rfl, hb1⟩ := hv1
  cases h1 : fb1 with
  | true =>
    obtain ⟨hl21, ht60⟩ := hb1 h1
    refine Zv (.bool false) (Zv (.bool false) (Zl 0 ⟨b2, (pfV e).cells, 33⟩ (off := 0) (pfV e) (zO (k := 15) (args := #[pfV e]) (fun v' L' => ∃ b, v' = .bool b ∧ L' = [⟨b2, (pfV e).cells, 33⟩, ⟨b1, #[.slice A l.length cap], 25⟩] ∧ (b = true → (e 0).length ≤ 60 ∧ (e 1).length ≤ 60 ∧ (e 2).length ≤ 60)) (by kernel_rfl) (fun _ => by kernel_rfl) (fun w hO => (tJ e w).mono fun e w' ⟨b, k1, k2, k3⟩ => ⟨_, _, k1, ⟨b, rfl, rfl, k2⟩, hO.on k3⟩) (fun vt2 L2 hv2 => ?_))))
    obtain ⟨fb2, rfl, rfl, hb2⟩ := hv2
    cases h2 : fb2 with
    | true =>
      obtain ⟨he0, he1, he2⟩ := hb2 h2
      have heS : PfS e := ⟨by omega, by omega, by omega⟩
      have htS : ∀ n ∈ l, n.text.length ≤ 1000000 := fun n hn => Nat.le_trans (ht60 n hn) (by decide)
      refine Zv (.bool false) (Zv (.bool false) (ZX (ZB (ZO (Zl 1 ⟨b1, #[.slice A l.length cap], 25⟩ (off := 0) (.agg #[.slice A l.length cap]) (Zl 0 ⟨b2, (pfV e).cells, 33⟩ (off := 0) (pfV e) (zO (k := 16) (args := #[.agg #[.slice A l.length cap], pfV e]) (fun v' L' => ∃ sv ob', v' = .tuple #[.agg #[sv], .int .i64 (zL l e)] ∧ L' = ob' ++ ([⟨b2, (pfV e).cells, 33⟩, ⟨b1, #[.slice A l.length cap], 25⟩]) ∧ SlN sv (zN l e) ob') (by kernel_rfl) (fun _ => by kernel_rfl) (fun w hO => (qY A cap l e w (hv.on hO.below hO.size) (by omega) htS heS (hK.on hO.below)).mono fun e w' ⟨v', ob', k1, k2, k3⟩ => ⟨_, _, k1, ⟨v', ob', rfl, rfl, k2⟩, Own.joinN hO k3⟩) (fun vt3 L3 hv3 => ?_))))))))
      obtain ⟨sv3, o3, rfl, rfl, hN3⟩ := hv3
      obtain ⟨V3, c3, rfl⟩ := Sl.form hN3
      refine Zv (.tuple #[.agg #[.slice V3 ((zN l e).length) c3], .int .i64 (zL l e)]) (Zv (.agg #[.slice V3 ((zN l e).length) c3]) (Zv (.int .i64 (zL l e)) (Za (.agg #[.slice none 0 0]) (fun b3 => Zs 0 ⟨b3, #[.slice none 0 0], 25⟩ (off := 0) (.agg #[.slice V3 ((zN l e).length) c3]) (Zv (.int .i64 (zL l e)) (ZR (zX ⟨b1, #[.slice A l.length cap], 25⟩ (off := 0) (.agg #[.slice A l.length cap]) (by kernel_rfl) rfl (by simp) (by kernel_rfl) (by kernel_rfl) (zX ⟨b2, (pfV e).cells, 33⟩ (off := 0) (pfV e) (by kernel_rfl) rfl (by simp) (by kernel_rfl) (by kernel_rfl) ?_))))))))
      refine zO (k := 17) (args := #[.agg #[.slice A l.length cap], pfV e]) (fun v' L' => ∃ sv ob', v' = .tuple #[.agg #[sv], .int .i64 (zL l e)] ∧ L' = ob' ++ (⟨b3, #[.slice V3 ((zN l e).length) c3], 25⟩ :: (o3 ++ ([⟨b2, (pfV e).cells, 33⟩, ⟨b1, #[.slice A l.length cap], 25⟩]))) ∧ SlN sv (zN l e) ob') (by kernel_rfl) (fun _ => by kernel_rfl) (fun w hO => (pR A cap l e w (hv.on hO.below hO.size) (by omega) htS heS).mono fun e w' ⟨v', ob', k1, k2, k3⟩ => ⟨_, _, k1, ⟨v', ob', rfl, rfl, k2⟩, Own.joinN hO k3⟩) (fun vt4 L4 hv4 => ?_)
      obtain ⟨sv4, o4, rfl, rfl, hN4⟩ := hv4
      obtain ⟨V4, c4, rfl⟩ := Sl.form hN4
      refine Zv (.tuple #[.agg #[.slice V4 ((zN l e).length) c4], .int .i64 (zL l e)]) (Zv (.agg #[.slice V4 ((zN l e).length) c4]) (Zv (.int .i64 (zL l e)) (Za (.agg #[.slice none 0 0]) (fun b4 => Zs 0 ⟨b4, #[.slice none 0 0], 25⟩ (off := 0) (.agg #[.slice V4 ((zN l e).length) c4]) (Zv (.int .i64 (zL l e)) (ZR (Zc (k := 10) (args := #[]) (.bool true) (fun w hO => yN w (hK.on hO.below)) (Zv (.bool true) ?_))))))))
      refine zX ⟨b3, #[.slice V3 ((zN l e).length) c3], 25⟩ (off := 0) (.agg #[.slice V3 ((zN l e).length) c3]) (by kernel_rfl) rfl (by simp) (by kernel_rfl) (by kernel_rfl) (Zl 0 ⟨b4, #[.slice V4 ((zN l e).length) c4], 25⟩ (off := 0) (.agg #[.slice V4 ((zN l e).length) c4]) (Zc (k := 13) (args := #[.agg #[.slice V3 ((zN l e).length) c3], .agg #[.slice V4 ((zN l e).length) c4]]) (.bool true) (fun w hO => hZ (decide_eq_true (rfl)) (qQ V3 V4 c3 c4 (zN l e) (zN l e) w (Sl.reads hN3 rfl hO (fun x hx => by simp [hx])) (Sl.reads hN4 rfl hO (fun x hx => by simp [hx])) (by have := (g7 (l := l) (e := e) (by omega)); omega) (by have := (g7 (l := l) (e := e) (by omega)); omega))) (Zv (.bool true) (Zv (.bool true) (Zv (.int .i64 (zL l e)) (Zv (.int .i64 (zL l e)) (Zd (p := (zL l e : Int) = zL l e) true (decide_eq_true (rfl)) (Zv (.bool true) (Zv (.bool true) (zK (z8 ?_)))))))))))
      exact zG (ZF (.bool true) Tryd.results4 (fun w hO => ⟨rfl, hO.below⟩))
    | false =>
      refine Zv (.bool true) (Zv (.bool true) (ZY (ZO (Zc (k := 10) (args := #[]) (.bool true) (fun w hO => yN w (hK.on hO.below)) (Zv (.bool true) (ZN (zG ?_)))))))
      exact z5 (ZF (.bool true) Tryd.results4 (fun w hO => ⟨rfl, hO.below⟩))
  | false =>
    refine Zv (.bool true) (Zv (.bool true) (Zk (Zk (Zk (Zv (.bool true) (ZY (ZO (Zc (k := 10) (args := #[]) (.bool true) (fun w hO => yN w (hK.on hO.below)) ?_))))))))
    exact Zv (.bool true) (ZN (zG (z5 (ZF (.bool true) Tryd.results4 (fun w hO => ⟨rfl, hO.below⟩)))))
theorem mD {t : Tr} (h : t.ok = true) : zT ([40, 32] ++ t.text ++ [32, 41]) = yP :: (t.tok ++ [yC]) := by
  have e : [40, 32] ++ t.text ++ [32, 41] = x1 32 (yP :: (t.tok ++ [yC])) := by
    rw [show yP :: (t.tok ++ [yC]) = [yP] ++ (t.tok ++ [yC]) from rfl, gI 32 [yP] _ (by simp) (by simp), gI 32 t.tok [yC] t.tok_ne (by simp)]
    simp [x1, yP, yC, Tr.text]
  rw [e]
  refine gW 32 _ (by simp) fun x hx => ?_
  rcases List.mem_cons.1 hx with rfl | hx
  · decide
  · rcases List.mem_append.1 hx with hx | hx
    · exact qD t h x hx
    · rw [List.mem_singleton.1 hx]; decide
theorem pOr_fac {n : Nat} {ts : List Tok} {t : Tr} (h : xO n ts = some (t, [])) : pOr n ts = some (t, []) := by
  unfold pOr x9 qK x9
  rw [h]; rfl
theorem nM {t : Tr} (h : t.ok = true) (hf : t.fit = true) : xV ([40, 32] ++ t.text ++ [32, 41]) = some t := by
  unfold xV
  rw [mD h, pOr_fac (fF h _ [] (by simp))]
  simp [hf]
theorem brackets_ne (t : Tr) : ¬ ([40, 32] ++ t.text ++ [32, 41] : List UInt8) = [] := by simp
theorem b8 {t : Tr} (h : t.ok = true) (hf : t.fit = true) (hl : t.text.length ≤ 92) : yY ([40, 32] ++ t.text ++ [32, 41]) = 0 ∧ y7 ([40, 32] ++ t.text ++ [32, 41]) = t.enc 0 := by
  have h1 : ¬ 96 < ([40, 32] ++ t.text ++ [32, 41] : List UInt8).length := by simp; omega
  have := k5 h1 (brackets_ne t)
  rw [nM h hf] at this
  exact this
theorem nP {s : List UInt8} (hl : 92 < s.length) : yY ([40, 32] ++ s ++ [32, 41]) = 3 := by
  unfold yY
  rw [if_pos (by simp; omega)]
theorem markBack.law (v : Value) (l : List Int) (W : World) (hv : ReadsI W W.heap.size v l) (hl : l.length ≤ 9223372036854775807) (hK : MkLib W) : Calls Tryd.prog 5 #[v] W fun e w' => e = .returned (.bool true) ∧ Below W.heap.size W w' := by
  refine zU (n := 69) Tryd.func5 rfl (by kernel_rfl) (by kernel_rfl) (ZO (Zv (.bool false) (ZR (Zv (v) (zO (k := 18) (args := #[v, .int .i64 0]) (fun v' L' => ∃ nd sv ob', v' = .agg #[sv] ∧ L' = ob' ++ (([] : List Blk)) ∧ SlN sv nd ob' ∧ MkG nd) (by kernel_rfl) (fun _ => by kernel_rfl) (fun w hO => (jV v l 0 w ((hv.below hO.below).more hO.below.size) hl (by decide)).mono fun e w' ⟨nd, v', ob', k1, k2, k3, k4⟩ => ⟨_, _, k1, ⟨nd, v', ob', rfl, rfl, k2, k3⟩, Own.joinN hO k4⟩) (fun vt1 L1 hv1 => ?_))))))
  obtain ⟨nd1, sv1, o1, rfl, rfl, hN1, hG1⟩ := hv1
  obtain ⟨V1, c1, rfl⟩ := Sl.form hN1
  refine zH (L' := o1) (List.append_nil _) (Za (.agg #[.slice none 0 0]) (fun b1 => Zs 0 ⟨b1, #[.slice none 0 0], 25⟩ (off := 0) (.agg #[.slice V1 nd1.length c1]) (ZN (zF (ZO (Zv (.pointer (some ⟨b1, 0, none⟩)) (Zl 0 ⟨b1, #[.slice V1 nd1.length c1], 25⟩ (off := 0) (.slice V1 nd1.length c1) (Zv (.int .i64 (nd1.length : Int)) ?_))))))))
  by_cases h1 : (nd1.length : Int) = 0
  · refine x8 (p := (nd1.length : Int) = 0) true (by kernel_rfl) (fun _ => by kernel_rfl) (decide_eq_true (h1)) ?_
    refine Zv (.bool true) (Zk (Zk (Zk (Zv (.bool true) (ZY (ZO (Zc (k := 10) (args := #[]) (.bool true) (fun w hO => yN w (hK.on hO.below)) (Zv (.bool true) ?_))))))))
    exact Zv (.agg #[.slice none 0 0]) (Zc (k := 19) (args := #[.agg #[.slice none 0 0]]) (.bool (kB ([]))) (fun w hO => gC none 0 ([]) w (fun h => absurd h (by simp)) (by simp) (by simp) (hK.on hO.below)) (Zv (.bool (kB ([]))) (Zv (.bool (kB ([]))) (ZN (zG (z5 (ZF (.bool (kB ([]))) Tryd.results5 (fun w hO => ⟨rfl, hO.below⟩))))))))
  refine Zd (p := (nd1.length : Int) = 0) false (decide_eq_false (h1)) (Zv (.bool false) (Zl 0 ⟨b1, #[.slice V1 nd1.length c1], 25⟩ (off := 0) (.agg #[.slice V1 nd1.length c1]) (Zc (k := 19) (args := #[.agg #[.slice V1 nd1.length c1]]) (.bool (kB nd1)) (fun w hO => gC V1 c1 nd1 w (Sl.reads hN1 rfl hO (fun x hx => by simp [hx])) hG1.few hG1.short (hK.on hO.below)) ?_)))
  cases h2 : kB nd1 with
  | true =>
    obtain ⟨t, hok, hnd, hsz, htx⟩ := (kG h2).resolve_left (fun q => h1 (by rw [q]; rfl))
    have hfit : t.fit = true := by unfold Tr.fit; simp; omega
    have hpr : z6 nd1 = t.text := by rw [hnd]; exact dJ hok hfit
    have hpl : (z6 nd1).length ≤ 96 := by rw [hpr]; exact htx
    have hps := k0 (z6 nd1)
    refine Zv (.bool false) (Zv (.bool false) (ZX (ZB (ZO (Zl 0 ⟨b1, #[.slice V1 nd1.length c1], 25⟩ (off := 0) (.agg #[.slice V1 nd1.length c1]) (Zc (k := 20) (args := #[.agg #[.slice V1 nd1.length c1]]) (.string (mkS (z6 nd1))) (fun w hO => gY V1 c1 nd1 w (Sl.reads hN1 rfl hO (fun x hx => by simp [hx])) hG1.few hG1.short (hK.on hO.below)) (Zv (.string (mkS (z6 nd1))) ?_)))))))
    refine ZR (Zv (.string (mkS (z6 nd1))) (zO (k := 11) (args := #[.string (mkS (z6 nd1))]) (fun v' L' => ∃ sv ob', v' = .tuple #[.agg #[sv], .int .i64 (yY (z6 nd1))] ∧ L' = ob' ++ (⟨b1, #[.slice V1 nd1.length c1], 25⟩ :: (o1)) ∧ SlN sv (y7 (z6 nd1)) ob') (by kernel_rfl) (fun _ => by kernel_rfl) (fun w hO => (kC (z6 nd1) w (by first | omega | (simp; done) | (simp; omega) | decide) (hK.on hO.below)).mono fun e w' ⟨v', ob', k1, k2, k3⟩ => ⟨_, _, k1, ⟨v', ob', rfl, rfl, k2⟩, Own.joinN hO k3⟩) (fun vt2 L2 hv2 => ?_)))
    obtain ⟨sv2, o2, rfl, rfl, hN2⟩ := hv2
    obtain ⟨V2, c2, rfl⟩ := Sl.form hN2
    refine Zv (.tuple #[.agg #[.slice V2 ((y7 (z6 nd1)).length) c2], .int .i64 (yY (z6 nd1))]) (Zv (.agg #[.slice V2 ((y7 (z6 nd1)).length) c2]) (Zv (.int .i64 (yY (z6 nd1))) (Za (.agg #[.slice none 0 0]) (fun b2 => Zs 0 ⟨b2, #[.slice none 0 0], 25⟩ (off := 0) (.agg #[.slice V2 ((y7 (z6 nd1)).length) c2]) (Zv (.int .i64 (yY (z6 nd1))) (ZR (Zv (.string (mkS (z6 nd1))) (zM (.string (mkS ([40, 32] ++ (z6 nd1)))) (by kernel_rfl) (y9 (a := [40, 32]) (b := (z6 nd1)) rfl (by kernel_rfl) (by kernel_rfl) (by first | omega | (simp only [List.length_append, List.length_cons, List.length_nil]; omega))) ?_))))))))
    refine zM (.string (mkS (([40, 32] ++ (z6 nd1)) ++ [32, 41]))) (by kernel_rfl) (y9 (a := ([40, 32] ++ (z6 nd1))) (b := [32, 41]) rfl (by kernel_rfl) (by kernel_rfl) (by first | omega | (simp only [List.length_append, List.length_cons, List.length_nil]; omega))) (zO (k := 11) (args := #[.string (mkS (([40, 32] ++ (z6 nd1)) ++ [32, 41]))]) (fun v' L' => ∃ sv ob', v' = .tuple #[.agg #[sv], .int .i64 (yY (([40, 32] ++ (z6 nd1)) ++ [32, 41]))] ∧ L' = ob' ++ (⟨b2, #[.slice V2 ((y7 (z6 nd1)).length) c2], 25⟩ :: (o2 ++ (⟨b1, #[.slice V1 nd1.length c1], 25⟩ :: (o1)))) ∧ SlN sv (y7 (([40, 32] ++ (z6 nd1)) ++ [32, 41])) ob') (by kernel_rfl) (fun _ => by kernel_rfl) (fun w hO => (kC (([40, 32] ++ (z6 nd1)) ++ [32, 41]) w (by first | omega | (simp; done) | (simp; omega) | decide) (hK.on hO.below)).mono fun e w' ⟨v', ob', k1, k2, k3⟩ => ⟨_, _, k1, ⟨v', ob', rfl, rfl, k2⟩, Own.joinN hO k3⟩) (fun vt3 L3 hv3 => ?_))
    obtain ⟨sv3, o3, rfl, rfl, hN3⟩ := hv3
    obtain ⟨V3, c3, rfl⟩ := Sl.form hN3
    refine Zv (.tuple #[.agg #[.slice V3 ((y7 (([40, 32] ++ (z6 nd1)) ++ [32, 41])).length) c3], .int .i64 (yY (([40, 32] ++ (z6 nd1)) ++ [32, 41]))]) (Zv (.agg #[.slice V3 ((y7 (([40, 32] ++ (z6 nd1)) ++ [32, 41])).length) c3]) (Zv (.int .i64 (yY (([40, 32] ++ (z6 nd1)) ++ [32, 41]))) (Za (.agg #[.slice none 0 0]) (fun b3 => Zs 0 ⟨b3, #[.slice none 0 0], 25⟩ (off := 0) (.agg #[.slice V3 ((y7 (([40, 32] ++ (z6 nd1)) ++ [32, 41])).length) c3]) (Zv (.int .i64 (yY (([40, 32] ++ (z6 nd1)) ++ [32, 41]))) (ZR (Zv (.string (mkS (z6 nd1))) (Zv (.int .i64 ((mkS (z6 nd1)).size)) ?_))))))))
    by_cases h3 : (92 : Int) < (mkS (z6 nd1)).size
    · refine x8 (p := (92 : Int) < (mkS (z6 nd1)).size) true (by kernel_rfl) (fun _ => by kernel_rfl) (decide_eq_true (h3)) ?_
      refine Zv (.bool true) (ZR (Zc (k := 10) (args := #[]) (.bool true) (fun w hO => yN w (hK.on hO.below)) (Zv (.bool true) (Zv (.int .i64 (yY (z6 nd1))) (Zd (p := (yY (z6 nd1) : Int) = 0) true (decide_eq_true (by rw [hpr]; exact (wK hok hfit).1)) (Zv (.bool true) (Zv (.bool true) (zX ⟨b2, #[.slice V2 ((y7 (z6 nd1)).length) c2], 25⟩ (off := 0) (.agg #[.slice V2 ((y7 (z6 nd1)).length) c2]) (by kernel_rfl) rfl (by simp) (by kernel_rfl) (by kernel_rfl) ?_))))))))
      refine zX ⟨b1, #[.slice V1 nd1.length c1], 25⟩ (off := 0) (.agg #[.slice V1 nd1.length c1]) (by kernel_rfl) rfl (by simp) (by kernel_rfl) (by kernel_rfl) (Zc (k := 13) (args := #[.agg #[.slice V2 ((y7 (z6 nd1)).length) c2], .agg #[.slice V1 nd1.length c1]]) (.bool true) (fun w hO => hZ (decide_eq_true (by rw [hpr, (wK hok hfit).2, hnd])) (qQ V2 V1 c2 c1 (y7 (z6 nd1)) nd1 w (Sl.reads hN2 rfl hO (fun x hx => by simp [hx])) (Sl.reads hN1 rfl hO (fun x hx => by simp [hx])) (by have := (gH (z6 nd1)); omega) (by have := hG1.few; omega))) (Zv (.bool true) (Zv (.bool true) (Zv (.bool true) (Zv (.bool true) (Zv (.int .i64 (yY (([40, 32] ++ (z6 nd1)) ++ [32, 41]))) (Zd (p := (yY (([40, 32] ++ (z6 nd1)) ++ [32, 41]) : Int) = 3) true (decide_eq_true (nP (by omega))) (Zv (.bool true) (Zv (.bool true) (Zk (Zk ?_)))))))))))
      refine Zk (Zk (Zk (Zk (Zk (Zv (.bool true) (Zv (.bool true) (Zv (.bool true) (ZN (zG (ZF (.bool true) Tryd.results5 ?_))))))))))
      exact fun w hO => ⟨rfl, hO.below⟩
    refine Zd (p := (92 : Int) < (mkS (z6 nd1)).size) false (decide_eq_false (h3)) (Zv (.bool false) (ZR (Zc (k := 10) (args := #[]) (.bool true) (fun w hO => yN w (hK.on hO.below)) (Zv (.bool true) (Zv (.int .i64 (yY (z6 nd1))) (Zd (p := (yY (z6 nd1) : Int) = 0) true (decide_eq_true (by rw [hpr]; exact (wK hok hfit).1)) (Zv (.bool true) (Zv (.bool true) ?_))))))))
    refine zX ⟨b2, #[.slice V2 ((y7 (z6 nd1)).length) c2], 25⟩ (off := 0) (.agg #[.slice V2 ((y7 (z6 nd1)).length) c2]) (by kernel_rfl) rfl (by simp) (by kernel_rfl) (by kernel_rfl) (zX ⟨b1, #[.slice V1 nd1.length c1], 25⟩ (off := 0) (.agg #[.slice V1 nd1.length c1]) (by kernel_rfl) rfl (by simp) (by kernel_rfl) (by kernel_rfl) (Zc (k := 13) (args := #[.agg #[.slice V2 ((y7 (z6 nd1)).length) c2], .agg #[.slice V1 nd1.length c1]]) (.bool true) (fun w hO => hZ (decide_eq_true (by rw [hpr, (wK hok hfit).2, hnd])) (qQ V2 V1 c2 c1 (y7 (z6 nd1)) nd1 w (Sl.reads hN2 rfl hO (fun x hx => by simp [hx])) (Sl.reads hN1 rfl hO (fun x hx => by simp [hx])) (by have := (gH (z6 nd1)); omega) (by have := hG1.few; omega))) (Zv (.bool true) (Zv (.bool true) (Zv (.bool false) (Zv (.bool false) (Zk (Zk (Zv (.bool false) (Zv (.bool false) (Zv (.int .i64 (yY (([40, 32] ++ (z6 nd1)) ++ [32, 41]))) ?_)))))))))))
    refine Zd (p := (yY (([40, 32] ++ (z6 nd1)) ++ [32, 41]) : Int) = 0) true (decide_eq_true (by rw [hpr]; exact (b8 hok hfit (by rw [← hpr]; omega)).1)) (Zv (.bool true) (Zl 0 ⟨b3, #[.slice V3 ((y7 (([40, 32] ++ (z6 nd1)) ++ [32, 41])).length) c3], 25⟩ (off := 0) (.agg #[.slice V3 ((y7 (([40, 32] ++ (z6 nd1)) ++ [32, 41])).length) c3]) (zX ⟨b1, #[.slice V1 nd1.length c1], 25⟩ (off := 0) (.agg #[.slice V1 nd1.length c1]) (by kernel_rfl) rfl (by simp) (by kernel_rfl) (by kernel_rfl) (Zc (k := 13) (args := #[.agg #[.slice V3 ((y7 (([40, 32] ++ (z6 nd1)) ++ [32, 41])).length) c3], .agg #[.slice V1 nd1.length c1]]) (.bool true) (fun w hO => hZ (decide_eq_true (by rw [hpr, (b8 hok hfit (by rw [← hpr]; omega)).2, hnd])) (qQ V3 V1 c3 c1 (y7 (([40, 32] ++ (z6 nd1)) ++ [32, 41])) nd1 w (Sl.reads hN3 rfl hO (fun x hx => by simp [hx])) (Sl.reads hN1 rfl hO (fun x hx => by simp [hx])) (by have := (gH (([40, 32] ++ (z6 nd1)) ++ [32, 41])); omega) (by have := hG1.few; omega))) (Zv (.bool true) (Zv (.bool true) (Zv (.bool true) (Zv (.bool true) (ZN (zG ?_))))))))))
    exact ZF (.bool true) Tryd.results5 (fun w hO => ⟨rfl, hO.below⟩)
  | false =>
    refine Zv (.bool true) (Zv (.bool true) (ZY (ZO (Zc (k := 10) (args := #[]) (.bool true) (fun w hO => yN w (hK.on hO.below)) (Zv (.bool true) (Zv (.agg #[.slice none 0 0]) (Zc (k := 19) (args := #[.agg #[.slice none 0 0]]) (.bool (kB ([]))) (fun w hO => gC none 0 ([]) w (fun h => absurd h (by simp)) (by simp) (by simp) (hK.on hO.below)) (Zv (.bool (kB ([]))) ?_))))))))
    exact Zv (.bool (kB ([]))) (ZN (zG (z5 (ZF (.bool (kB ([]))) Tryd.results5 (fun w hO => ⟨rfl, hO.below⟩)))))
end
section
open Go.ChangeShapes Go.WideShapes Go.ChangeAt Go.RowKit
theorem jU {H : Type} {enc : TypeId × Value → H} {W : World} {base : Nat} {v : Value} {d : DataW H} {ps : List MemPlace} (hval : Value.okWide Tryd.prog W .any base 39 v)
    (h : DataW.Trod enc Tryd.prog W 0 (fun _ => true) true 39 v d ps) : ∃ l : List Int, ReadsI W W.heap.size v l ∧ l.length ≤ maxLen := by
  obtain ⟨A, len, cap, rfl⟩ := okWide_slice Tryd.underlying39 hval
  obtain ⟨fuel, hf⟩ := h
  rcases open_ints Tryd.underlying39 Tryd.underlying3 (by kernel_rfl) hf with ⟨hcs, _⟩ | ⟨a, len', cap', zs, hcs, _, hl, hm, hz, _, hcell, _⟩
  · simp [Value.cells] at hcs
    obtain ⟨rfl, rfl, rfl⟩ := hcs
    exact ⟨[], ⟨none, 0, rfl, fun h => by cases h⟩, by simp⟩
  · simp [Value.cells] at hcs
    obtain ⟨rfl, rfl, rfl⟩ := hcs
    simp only [if_true] at hz
    have hlen : (zs.take len).length = len := by rw [List.length_take]; omega
    refine ⟨zs.take len, ⟨some a, cap, by rw [hlen], fun h0 => ⟨a, rfl, ?_, fun j hj => ?_⟩⟩, by rw [hlen]; omega⟩
    · have := cell_lt (hcell 0 (by omega))
      rwa [pJ] at this
    · have hj2 : j < zs.length := by omega
      rw [hcell j hj2, List.getElem_take]
      simp only [List.getD, List.getElem?_eq_getElem hj2, Option.getD_some]
end
section
set_option linter.unnecessarySimpa false
def k7 (q : Pf) : Pf := fun k => if q k = [] then [118] else q k
def x3 (q : Pf) (k : Nat) : Pf := fun i => if i < k then k7 q i else q i
theorem fullK_step {q : Pf} {k : Nat} (h : q k = []) : gG (x3 q k) k [118] = x3 q (k + 1) := by
  funext i
  unfold gG x3
  by_cases e : i = k
  · subst e; rw [if_pos rfl, if_pos (by omega)]; unfold k7; rw [if_pos h]
  · rw [if_neg e]
    by_cases hi : i < k
    · rw [if_pos hi, if_pos (by omega)]
    · rw [if_neg hi, if_neg (by omega)]
theorem fullK_same {q : Pf} {k : Nat} (h : ¬ q k = []) : x3 q k = x3 q (k + 1) := by
  funext i
  unfold x3
  by_cases e : i = k
  · subst e; rw [if_neg (by omega), if_pos (by omega)]; unfold k7; rw [if_neg h]
  · by_cases hi : i < k
    · rw [if_pos hi, if_pos (by omega)]
    · rw [if_neg hi, if_neg (by omega)]
theorem fullK_at (q : Pf) (k : Nat) : x3 q k k = q k := by unfold x3; rw [if_neg (by omega)]
theorem full_three (q : Pf) : ∀ k, k < 3 → x3 q 3 k = k7 q k := fun k hk => by unfold x3; rw [if_pos hk]
theorem pfV_eq {e f : Pf} (h : ∀ k, k < 3 → e k = f k) : pfV e = pfV f := by unfold pfV; rw [h 0 (by omega), h 1 (by omega), h 2 (by omega)]
theorem PfG.full {q : Pf} (h : PfG q) : PfG (k7 q) := fun k => by
  unfold k7
  split
  · exact .inr ⟨by decide, by decide⟩
  · exact h k
theorem full_ne (q : Pf) : ∀ k, k7 q k ≠ [] := fun k => by
  unfold k7
  split
  · simp
  · rename_i h; exact h
theorem full_ext (q : Pf) : Ext q (k7 q) := fun k h => by unfold k7; rw [if_neg h]
theorem full10_any (q : Pf) (W : World) : Calls Tryd.prog 22 #[pfV q] W fun e w' => e = .returned (pfV (k7 q)) ∧ Below W.heap.size W w' := by
  refine zU (n := 17) Tryd.func22 rfl (by kernel_rfl) (by kernel_rfl) (ZO (Zb (pfV q) (fun b1 => Za (.agg #[.string ⟨#[]⟩, .string ⟨#[]⟩, .string ⟨#[]⟩]) (fun b2 => ZN (zF (ZO (Zv (.int .i64 0) (zK ?_))))))))
  refine z8 (zP (yB (L' := [⟨b2, #[.string ⟨#[]⟩, .string ⟨#[]⟩, .string ⟨#[]⟩], 33⟩, ⟨b1, #[.string (mkS (x3 q 0 0)), .string (mkS (x3 q 0 1)), .string (mkS (x3 q 0 2))], 33⟩]) (by rfl) (xT (fun L f m => ∃ (k : Nat) (j : Nat → Value), (k ≤ 3) ∧ L = [⟨b2, #[.string ⟨#[]⟩, .string ⟨#[]⟩, .string ⟨#[]⟩], 33⟩, ⟨b1, #[.string (mkS (x3 q k 0)), .string (mkS (x3 q k 1)), .string (mkS (x3 q k 2))], 33⟩] ∧ f = qT j [(1, .pointer (some ⟨b1, 0, none⟩)), (2, .pointer (some ⟨b2, 0, none⟩)), (3, .int .i64 (k : Int))] ∧ m = 3 - k) (3 - 0) ⟨0, _, by omega, rfl, ZU, rfl⟩ ?_)))
  rintro L f m ⟨k, j, hrel, rfl, rfl, rfl⟩
  have hk6 := hrel
  refine zF (ZO (Zv (.int .i64 (k : Int)) ?_))
  by_cases h1 : (k : Int) < 3
  · have hk3 : k < 3 := by omega
    refine Zd (p := (k : Int) < 3) true (decide_eq_true (h1)) (ZY (ZB (zF (zP (ZO (Zv (.int .i64 (k : Int)) (Zv (.pointer (some ⟨b1, 0, none⟩)) ?_)))))))
    refine zM (.pointer (some ⟨b1, k, none⟩)) (by kernel_rfl) (xK (b := b1) (off := 0) (k := .i64) (j := (k : Int)) (n := 3) (e := 9) (sz := 1) rfl (by kernel_rfl) (by kernel_rfl) (by kernel_rfl) (by kernel_rfl) (by omega) (by omega) (by omega)) (qH 1 ⟨b1, #[.string (mkS (x3 q k 0)), .string (mkS (x3 q k 1)), .string (mkS (x3 q k 2))], 33⟩ (off := k) (.string (mkS (x3 q k k))) (by kernel_rfl) rfl (by kernel_rfl) (by kernel_rfl) (wW (x3 q k) k hk3) ?_)
    by_cases h2 : ((x3 q k k) : List UInt8) = []
    · refine zM (.bool true) (by kernel_rfl) (zV (a := (x3 q k k)) (b := ([])) rfl (by kernel_rfl) (by kernel_rfl) (decide_eq_true (h2))) ?_
      refine ZY (z7 (Zv (.int .i64 (k : Int)) (Zv (.pointer (some ⟨b1, 0, none⟩)) (zM (.pointer (some ⟨b1, k, none⟩)) (by kernel_rfl) (xK (b := b1) (off := 0) (k := .i64) (j := (k : Int)) (n := 3) (e := 9) (sz := 1) rfl (by kernel_rfl) (by kernel_rfl) (by kernel_rfl) (by kernel_rfl) (by omega) (by omega) (by omega)) (kV 1 ⟨b1, #[.string (mkS (x3 q k 0)), .string (mkS (x3 q k 1)), .string (mkS (x3 q k 2))], 33⟩ (off := k) (.string ⟨#[118]⟩) 1 (by kernel_rfl) rfl rfl (by kernel_rfl) (by kernel_rfl) (by kernel_rfl) (by kernel_rfl) (by kernel_rfl) (by show k + 1 ≤ 3; omega) (by kernel_rfl) (zH (L' := [⟨b2, #[.string ⟨#[]⟩, .string ⟨#[]⟩, .string ⟨#[]⟩], 33⟩, ⟨b1, #[.string (mkS (gG (x3 q k) k [118] 0)), .string (mkS (gG (x3 q k) k [118] 1)), .string (mkS (gG (x3 q k) k [118] 2))], 33⟩]) (by rw [show (⟨b1, #[.string (mkS (gG (x3 q k) k [118] 0)), .string (mkS (gG (x3 q k) k [118] 1)), .string (mkS (gG (x3 q k) k [118] 2))], 33⟩ : Blk) = ⟨b1, _, _⟩ from congrArg (fun z => (⟨b1, z, 33⟩ : Blk)) (wZ (x3 q k) [118] k hk3).symm]; rfl) (zK (zJ (z8 ?_)))))))))
      refine z7 (Zv (.int .i64 (k : Int)) (Zu (k := .i64) (((k + 1 : Nat) : Int)) (IntWalk.i64_in _ (by omega)) (Zv (.int .i64 ((k + 1 : Nat) : Int)) (zK ?_))))
      rw [fullK_step (by rw [← fullK_at q k]; exact h2)]
      exact zS (m' := 3 - (k + 1)) (by omega) ⟨k + 1, _, by omega, rfl, ZU, rfl⟩
    refine zM (.bool false) (by kernel_rfl) (zV (a := (x3 q k k)) (b := ([])) rfl (by kernel_rfl) (by kernel_rfl) (decide_eq_false (h2))) (ZX (x6 (zJ (z8 (z7 (Zv (.int .i64 (k : Int)) (Zu (k := .i64) (((k + 1 : Nat) : Int)) (IntWalk.i64_in _ (by omega)) (Zv (.int .i64 ((k + 1 : Nat) : Int)) (zK ?_)))))))))
    rw [fullK_same (fun e9 => h2 (by rw [fullK_at]; exact e9))]
    exact zS (m' := 3 - (k + 1)) (by omega) ⟨k + 1, _, by omega, rfl, ZU, rfl⟩
  have hk3 : k = 3 := by omega
  refine Zd (p := (k : Int) < 3) false (decide_eq_false (h1)) (ZX (xN (yG (zY (zZ (z8 (ZO (Zl 1 ⟨b1, #[.string (mkS (x3 q k 0)), .string (mkS (x3 q k 1)), .string (mkS (x3 q k 2))], 33⟩ (off := 0) (.agg #[.string (mkS (x3 q k 0)), .string (mkS (x3 q k 1)), .string (mkS (x3 q k 2))]) ?_))))))))
  exact Zs 0 ⟨b2, #[.string ⟨#[]⟩, .string ⟨#[]⟩, .string ⟨#[]⟩], 33⟩ (off := 0) (.agg #[.string (mkS (x3 q k 0)), .string (mkS (x3 q k 1)), .string (mkS (x3 q k 2))]) (ZN (zG (ZC 0 ⟨b2, #[.string (mkS (x3 q k 0)), .string (mkS (x3 q k 1)), .string (mkS (x3 q k 2))], 33⟩ (off := 0) (.agg #[.string (mkS (x3 q k 0)), .string (mkS (x3 q k 1)), .string (mkS (x3 q k 2))]) Tryd.results22 (fun w hO => ⟨by rw [hk3]; exact congrArg Ending.returned (pfV_eq (full_three q)).symm, hO.below⟩))))
def kU (A : Option Addr) (cap : Nat) (l : List Nd) (e : Pf) (a : Nat) (z : Nat) (r : Bool) : Prop := ∀ W : World, Reads nC W W.heap.size A l → Calls Tryd.prog 23 #[.slice A l.length cap, .int .i64 (a : Int), pfV e, .int .i64 (z : Int)] W fun x w' => x = .returned (.bool r) ∧ Below W.heap.size W w'
theorem tr_is {A : Option Addr} {cap : Nat} {l : List Nd} {e : Pf} (hn : l.length ≤ 1000) {r z : Nat} (hz : z ≤ 1000) {k : Nat} {t : List UInt8} (hk : k < 3) (hr : l[r]? = some ⟨1, 0, 0, (k : Int), t⟩) : kU A cap l e r (z + 1) (decide (e k = t)) := fun W hv => by
  obtain ⟨hr', er⟩ := yV hr
  obtain ⟨bp, off, hA, hlt, hcell⟩ := hv (by omega)
  refine zU (n := 72) Tryd.func23 rfl (by kernel_rfl) (by kernel_rfl) (ZO (Zb (pfV e) (fun b1 => Zv (.bool false) (ZR (Zv (.slice A l.length cap) (Zv (.int .i64 (r : Int)) (zM (.pointer (some ⟨bp, off + r * 5, none⟩)) (by kernel_rfl) (ZA (b := bp) (off := off) (c := cap) (n := l.length) (k := .i64) (j := (r : Int)) (e := 48) (sz := 5) hA) ?_)))))))
  refine Zo (ndV ⟨1, (0 : Int), (0 : Int), (k : Int), t⟩) (a := ⟨bp, off + r * 5, none⟩) (fun w hO => Reads.load yX (hv.on hO.below hO.size) hA r 0 hr' (by omega) _ (by rw [er]; kernel_rfl)) (Za (.agg #[.int .i64 0, .int .i64 0, .int .i64 0, .int .i64 0, .string ⟨#[]⟩]) (fun b2 => Zs 0 ⟨b2, #[.int .i64 0, .int .i64 0, .int .i64 0, .int .i64 0, .string ⟨#[]⟩], 48⟩ (off := 0) (ndV ⟨1, (0 : Int), (0 : Int), (k : Int), t⟩) (ZN (zF (ZO (Zv (.int .i64 ((z + 1 : Nat) : Int)) (Zd (p := ((z + 1 : Nat) : Int) < 1) false (decide_eq_false (by omega)) (zK (z8 ?_)))))))))
  refine Zf (ZB (zF (ZO (Zv (.pointer (some ⟨b2, 0, none⟩)) (Zl 0 ⟨b2, (ndV ⟨1, (0 : Int), (0 : Int), (k : Int), t⟩).cells, 48⟩ (off := 0) (.int .i64 1) (ZN (zP (zF ?_))))))))
  refine z7 (Zv (.bool true) (Zv (.bool true) (ZY (zF (xU (by kernel_rfl) (by kernel_rfl) (Zw (.pointer (some ⟨b2, 3, none⟩)) (Zm 0 ⟨b2, (ndV ⟨1, (0 : Int), (0 : Int), (k : Int), t⟩).cells, 48⟩ (off := 3) (.int .i64 (k : Int)) (Zw (.pointer (some ⟨b1, 0, none⟩)) (yQ (.pointer (some ⟨b1, k, none⟩)) (by kernel_rfl) (xK (b := b1) (off := 0) (k := .i64) (j := (k : Int)) (n := 3) (e := 9) (sz := 1) rfl (by kernel_rfl) (by kernel_rfl) (by kernel_rfl) (by kernel_rfl) (by omega) (by omega) (by omega)) ?_)))))))))
  refine j8 1 ⟨b1, (pfV e).cells, 33⟩ (off := k) (.string (mkS (e k))) (by kernel_rfl) rfl (by kernel_rfl) (by kernel_rfl) (wW e k hk) (Zw (.pointer (some ⟨b2, 4, none⟩)) (Zm 0 ⟨b2, (ndV ⟨1, (0 : Int), (0 : Int), (k : Int), t⟩).cells, 48⟩ (off := 4) (.string (mkS t)) ?_))
  by_cases h1 : ((e k) : List UInt8) = t
  · refine yQ (.bool true) (by kernel_rfl) (zV (a := (e k)) (b := t) rfl (by kernel_rfl) (by kernel_rfl) (decide_eq_true (h1))) ?_
    exact Zw (.bool true) (yU (z8 (zG (zD (z5 (ZF (.bool true) Tryd.results23 (fun w hO => ⟨by simp [h1], hO.below⟩)))))))
  exact yQ (.bool false) (by kernel_rfl) (zV (a := (e k)) (b := t) rfl (by kernel_rfl) (by kernel_rfl) (decide_eq_false (h1))) (Zw (.bool false) (yU (z8 (zG (zD (z5 (ZF (.bool false) Tryd.results23 (fun w hO => ⟨by simp [h1], hO.below⟩))))))))
theorem tr_not {A : Option Addr} {cap : Nat} {l : List Nd} {e : Pf} (hn : l.length ≤ 1000) {r z : Nat} (hz : z ≤ 1000) {a : Nat} {ta : Bool} (hr : l[r]? = some ⟨2, (a : Int), 0, 0, []⟩) (ha' : kU A cap l e a z ta) : kU A cap l e r (z + 1) (!ta) := fun W hv => by
  obtain ⟨hr', er⟩ := yV hr
  obtain ⟨bp, off, hA, hlt, hcell⟩ := hv (by omega)
  refine zU (n := 72) Tryd.func23 rfl (by kernel_rfl) (by kernel_rfl) (ZO (Zb (pfV e) (fun b1 => Zv (.bool false) (ZR (Zv (.slice A l.length cap) (Zv (.int .i64 (r : Int)) (zM (.pointer (some ⟨bp, off + r * 5, none⟩)) (by kernel_rfl) (ZA (b := bp) (off := off) (c := cap) (n := l.length) (k := .i64) (j := (r : Int)) (e := 48) (sz := 5) hA) ?_)))))))
  refine Zo (ndV ⟨2, (a : Int), (0 : Int), (0 : Int), []⟩) (a := ⟨bp, off + r * 5, none⟩) (fun w hO => Reads.load yX (hv.on hO.below hO.size) hA r 0 hr' (by omega) _ (by rw [er]; kernel_rfl)) (Za (.agg #[.int .i64 0, .int .i64 0, .int .i64 0, .int .i64 0, .string ⟨#[]⟩]) (fun b2 => Zs 0 ⟨b2, #[.int .i64 0, .int .i64 0, .int .i64 0, .int .i64 0, .string ⟨#[]⟩], 48⟩ (off := 0) (ndV ⟨2, (a : Int), (0 : Int), (0 : Int), []⟩) (ZN (zF (ZO (Zv (.int .i64 ((z + 1 : Nat) : Int)) (Zd (p := ((z + 1 : Nat) : Int) < 1) false (decide_eq_false (by omega)) (zK (z8 ?_)))))))))
  refine Zf (ZB (zF (ZO (Zv (.pointer (some ⟨b2, 0, none⟩)) (Zl 0 ⟨b2, (ndV ⟨2, (a : Int), (0 : Int), (0 : Int), []⟩).cells, 48⟩ (off := 0) (.int .i64 2) (ZN (zP (zF ?_))))))))
  refine z7 (Zv (.bool false) (Zv (.bool false) (ZX (ZO (Zv (.bool true) (Zv (.bool true) (zK (z8 ?_))))))))
  refine Zt (ZO (Zv (.slice A l.length cap) (Zv (.pointer (some ⟨b2, 1, none⟩)) (Zl 0 ⟨b2, (ndV ⟨2, (a : Int), (0 : Int), (0 : Int), []⟩).cells, 48⟩ (off := 1) (.int .i64 (a : Int)) (Zl 1 ⟨b1, (pfV e).cells, 33⟩ (off := 0) (pfV e) (Zv (.int .i64 ((z + 1 : Nat) : Int)) (Zu (k := .i64) (((z + 1 : Nat) : Int) - 1) (IntWalk.i64_in _ (by omega)) (Zc (k := 23) (args := #[.slice A l.length cap, .int .i64 (a : Int), pfV e, .int .i64 (((z + 1 : Nat) : Int) - 1)]) (.bool ta) (fun w hO => by have q9 := ha' w (hv.on hO.below hO.size); rw [show ((z : Nat) : Int) = ((z + 1 : Nat) : Int) - 1 by omega] at q9; exact q9) ?_))))))))
  cases h1 : ta with
  | true =>
    exact Zv (.bool false) (Zv (.bool false) (ZN (zG (zD (z5 (ZF (.bool false) Tryd.results23 (fun w hO => ⟨by simp [h1], hO.below⟩)))))))
  | false =>
    exact Zv (.bool true) (Zv (.bool true) (ZN (zG (zD (z5 (ZF (.bool true) Tryd.results23 (fun w hO => ⟨by simp [h1], hO.below⟩)))))))
theorem tr_both {A : Option Addr} {cap : Nat} {l : List Nd} {e : Pf} (hn : l.length ≤ 1000) {r z : Nat} (hz : z ≤ 1000) {a b : Nat} {ta tb : Bool} (hr : l[r]? = some ⟨3, (a : Int), (b : Int), 0, []⟩) (ha' : kU A cap l e a z ta) (hb' : kU A cap l e b z tb) : kU A cap l e r (z + 1) (ta && tb) := fun W hv => by
  obtain ⟨hr', er⟩ := yV hr
  obtain ⟨bp, off, hA, hlt, hcell⟩ := hv (by omega)
  refine zU (n := 72) Tryd.func23 rfl (by kernel_rfl) (by kernel_rfl) (ZO (Zb (pfV e) (fun b1 => Zv (.bool false) (ZR (Zv (.slice A l.length cap) (Zv (.int .i64 (r : Int)) (zM (.pointer (some ⟨bp, off + r * 5, none⟩)) (by kernel_rfl) (ZA (b := bp) (off := off) (c := cap) (n := l.length) (k := .i64) (j := (r : Int)) (e := 48) (sz := 5) hA) ?_)))))))
  refine Zo (ndV ⟨3, (a : Int), (b : Int), (0 : Int), []⟩) (a := ⟨bp, off + r * 5, none⟩) (fun w hO => Reads.load yX (hv.on hO.below hO.size) hA r 0 hr' (by omega) _ (by rw [er]; kernel_rfl)) (Za (.agg #[.int .i64 0, .int .i64 0, .int .i64 0, .int .i64 0, .string ⟨#[]⟩]) (fun b2 => Zs 0 ⟨b2, #[.int .i64 0, .int .i64 0, .int .i64 0, .int .i64 0, .string ⟨#[]⟩], 48⟩ (off := 0) (ndV ⟨3, (a : Int), (b : Int), (0 : Int), []⟩) (ZN (zF (ZO (Zv (.int .i64 ((z + 1 : Nat) : Int)) (Zd (p := ((z + 1 : Nat) : Int) < 1) false (decide_eq_false (by omega)) (zK (z8 ?_)))))))))
  refine Zf (ZB (zF (ZO (Zv (.pointer (some ⟨b2, 0, none⟩)) (Zl 0 ⟨b2, (ndV ⟨3, (a : Int), (b : Int), (0 : Int), []⟩).cells, 48⟩ (off := 0) (.int .i64 3) (ZN (zP (zF ?_))))))))
  refine z7 (Zv (.bool false) (Zv (.bool false) (ZX (ZO (Zv (.bool false) (Zv (.bool false) (zK (z8 ?_))))))))
  refine Zf (ZO (Zv (.bool true) (Zv (.bool true) (ZY (ZO (Zv (.slice A l.length cap) (Zv (.pointer (some ⟨b2, 1, none⟩)) ?_)))))))
  refine Zl 0 ⟨b2, (ndV ⟨3, (a : Int), (b : Int), (0 : Int), []⟩).cells, 48⟩ (off := 1) (.int .i64 (a : Int)) (Zl 1 ⟨b1, (pfV e).cells, 33⟩ (off := 0) (pfV e) (Zv (.int .i64 ((z + 1 : Nat) : Int)) (Zu (k := .i64) (((z + 1 : Nat) : Int) - 1) (IntWalk.i64_in _ (by omega)) (Zc (k := 23) (args := #[.slice A l.length cap, .int .i64 (a : Int), pfV e, .int .i64 (((z + 1 : Nat) : Int) - 1)]) (.bool ta) (fun w hO => by have q9 := ha' w (hv.on hO.below hO.size); rw [show ((z : Nat) : Int) = ((z + 1 : Nat) : Int) - 1 by omega] at q9; exact q9) (Zv (.bool ta) ?_)))))
  cases h1 : ta with
  | true =>
    refine Zv (.slice A l.length cap) (Zv (.pointer (some ⟨b2, 2, none⟩)) (Zl 0 ⟨b2, (ndV ⟨3, (a : Int), (b : Int), (0 : Int), []⟩).cells, 48⟩ (off := 2) (.int .i64 (b : Int)) (Zl 1 ⟨b1, (pfV e).cells, 33⟩ (off := 0) (pfV e) (Zv (.int .i64 ((z + 1 : Nat) : Int)) (Zu (k := .i64) (((z + 1 : Nat) : Int) - 1) (IntWalk.i64_in _ (by omega)) (Zc (k := 23) (args := #[.slice A l.length cap, .int .i64 (b : Int), pfV e, .int .i64 (((z + 1 : Nat) : Int) - 1)]) (.bool tb) (fun w hO => by have q9 := hb' w (hv.on hO.below hO.size); rw [show ((z : Nat) : Int) = ((z + 1 : Nat) : Int) - 1 by omega] at q9; exact q9) (Zv (.bool tb) (Zv (.bool tb) (ZN (zG ?_))))))))))
    exact zD (z5 (ZF (.bool tb) Tryd.results23 (fun w hO => ⟨by simp [h1], hO.below⟩)))
  | false =>
    refine Zk (Zk (Zk (Zk (Zk (Zk (Zk (Zv (.bool false) (Zv (.bool false) (ZN (zG ?_))))))))))
    exact zD (z5 (ZF (.bool false) Tryd.results23 (fun w hO => ⟨by simp [h1], hO.below⟩)))
theorem tr_one {A : Option Addr} {cap : Nat} {l : List Nd} {e : Pf} (hn : l.length ≤ 1000) {r z : Nat} (hz : z ≤ 1000) {a b : Nat} {ta tb : Bool} (hr : l[r]? = some ⟨4, (a : Int), (b : Int), 0, []⟩) (ha' : kU A cap l e a z ta) (hb' : kU A cap l e b z tb) : kU A cap l e r (z + 1) (ta || tb) := fun W hv => by
  obtain ⟨hr', er⟩ := yV hr
  obtain ⟨bp, off, hA, hlt, hcell⟩ := hv (by omega)
  refine zU (n := 72) Tryd.func23 rfl (by kernel_rfl) (by kernel_rfl) (ZO (Zb (pfV e) (fun b1 => Zv (.bool false) (ZR (Zv (.slice A l.length cap) (Zv (.int .i64 (r : Int)) (zM (.pointer (some ⟨bp, off + r * 5, none⟩)) (by kernel_rfl) (ZA (b := bp) (off := off) (c := cap) (n := l.length) (k := .i64) (j := (r : Int)) (e := 48) (sz := 5) hA) ?_)))))))
  refine Zo (ndV ⟨4, (a : Int), (b : Int), (0 : Int), []⟩) (a := ⟨bp, off + r * 5, none⟩) (fun w hO => Reads.load yX (hv.on hO.below hO.size) hA r 0 hr' (by omega) _ (by rw [er]; kernel_rfl)) (Za (.agg #[.int .i64 0, .int .i64 0, .int .i64 0, .int .i64 0, .string ⟨#[]⟩]) (fun b2 => Zs 0 ⟨b2, #[.int .i64 0, .int .i64 0, .int .i64 0, .int .i64 0, .string ⟨#[]⟩], 48⟩ (off := 0) (ndV ⟨4, (a : Int), (b : Int), (0 : Int), []⟩) (ZN (zF (ZO (Zv (.int .i64 ((z + 1 : Nat) : Int)) (Zd (p := ((z + 1 : Nat) : Int) < 1) false (decide_eq_false (by omega)) (zK (z8 ?_)))))))))
  refine Zf (ZB (zF (ZO (Zv (.pointer (some ⟨b2, 0, none⟩)) (Zl 0 ⟨b2, (ndV ⟨4, (a : Int), (b : Int), (0 : Int), []⟩).cells, 48⟩ (off := 0) (.int .i64 4) (ZN (zP (zF ?_))))))))
  refine z7 (Zv (.bool false) (Zv (.bool false) (ZX (ZO (Zv (.bool false) (Zv (.bool false) (zK (z8 ?_))))))))
  refine Zf (ZO (Zv (.bool false) (Zv (.bool false) (ZX (x6 (zJ (z8 (zF ?_))))))))
  refine z7 (Zv (.slice A l.length cap) (Zv (.pointer (some ⟨b2, 1, none⟩)) (Zl 0 ⟨b2, (ndV ⟨4, (a : Int), (b : Int), (0 : Int), []⟩).cells, 48⟩ (off := 1) (.int .i64 (a : Int)) (Zl 1 ⟨b1, (pfV e).cells, 33⟩ (off := 0) (pfV e) (Zv (.int .i64 ((z + 1 : Nat) : Int)) (Zu (k := .i64) (((z + 1 : Nat) : Int) - 1) (IntWalk.i64_in _ (by omega)) (Zc (k := 23) (args := #[.slice A l.length cap, .int .i64 (a : Int), pfV e, .int .i64 (((z + 1 : Nat) : Int) - 1)]) (.bool ta) (fun w hO => by have q9 := ha' w (hv.on hO.below hO.size); rw [show ((z : Nat) : Int) = ((z + 1 : Nat) : Int) - 1 by omega] at q9; exact q9) (Zv (.bool ta) ?_))))))))
  cases h1 : ta with
  | true =>
    refine Zk (Zk (Zk (Zk (Zk (Zk (Zk (Zv (.bool true) (Zv (.bool true) (ZN (zG ?_))))))))))
    exact ZF (.bool true) Tryd.results23 (fun w hO => ⟨by simp [h1], hO.below⟩)
  | false =>
    refine Zv (.slice A l.length cap) (Zv (.pointer (some ⟨b2, 2, none⟩)) (Zl 0 ⟨b2, (ndV ⟨4, (a : Int), (b : Int), (0 : Int), []⟩).cells, 48⟩ (off := 2) (.int .i64 (b : Int)) (Zl 1 ⟨b1, (pfV e).cells, 33⟩ (off := 0) (pfV e) (Zv (.int .i64 ((z + 1 : Nat) : Int)) (Zu (k := .i64) (((z + 1 : Nat) : Int) - 1) (IntWalk.i64_in _ (by omega)) (Zc (k := 23) (args := #[.slice A l.length cap, .int .i64 (b : Int), pfV e, .int .i64 (((z + 1 : Nat) : Int) - 1)]) (.bool tb) (fun w hO => by have q9 := hb' w (hv.on hO.below hO.size); rw [show ((z : Nat) : Int) = ((z + 1 : Nat) : Int) - 1 by omega] at q9; exact q9) (Zv (.bool tb) (Zv (.bool tb) (ZN (zG ?_))))))))))
    exact ZF (.bool tb) Tryd.results23 (fun w hO => ⟨by simp [h1], hO.below⟩)
theorem qN {A : Option Addr} {cap : Nat} {l : List Nd} (hn : l.length ≤ 1000) (e : Pf) : ∀ (t : Tr) (o z : Nat), t.ok = true → xA l o t → t.sz ≤ z → z ≤ 1000 → kU A cap l e (o + t.sz - 1) z (kA e t)
  | .is k v, o, z, h, hs, hz, hz2 => by
    unfold Tr.ok at h
    simp only [Bool.and_eq_true, decide_eq_true_eq] at h
    have hz' : 1 ≤ z := hz
    obtain ⟨z, rfl⟩ : ∃ y, z = y + 1 := ⟨z - 1, by omega⟩
    exact tr_is hn (by omega) h.1 (hs 0 _ rfl)
  | .no x, o, z, h, hs, hz, hz2 => by
    have hx : x.ok = true := h
    have hz' : x.sz + 1 ≤ z := hz
    obtain ⟨z, rfl⟩ : ∃ y, z = y + 1 := ⟨z - 1, by omega⟩
    have hs1 : xA l o x := yL hs
    have hr := yD (k := x.sz) (Tr.enc_len x o) hs 0 _ rfl
    have goal : kU A cap l e (o + x.sz + 0) (z + 1) (!kA e x) := tr_not hn (by omega) hr (qN hn e x o z hx hs1 (by omega) (by omega))
    show kU A cap l e (o + (x.sz + 1) - 1) _ _
    rw [show o + (x.sz + 1) - 1 = o + x.sz + 0 by omega]; exact goal
  | .both x y, o, z, h, hs, hz, hz2 => by
    unfold Tr.ok at h
    rw [Bool.and_eq_true] at h
    have hz' : x.sz + y.sz + 1 ≤ z := hz
    obtain ⟨z, rfl⟩ : ∃ y, z = y + 1 := ⟨z - 1, by omega⟩
    have hs0 : ∀ i u, (x.enc o ++ y.enc (o + x.sz))[i]? = some u → l[o + i]? = some u := yL hs
    have hs1 : xA l o x := yL hs0
    have hs2 : xA l (o + x.sz) y := yD (Tr.enc_len x o) hs0
    have hr := yD (k := x.sz + y.sz) (by rw [List.length_append, Tr.enc_len, Tr.enc_len]) hs 0 _ rfl
    have goal : kU A cap l e (o + (x.sz + y.sz) + 0) (z + 1) (kA e x && kA e y) := tr_both hn (by omega) hr (qN hn e x o z h.1 hs1 (by omega) (by omega)) (qN hn e y (o + x.sz) z h.2 hs2 (by omega) (by omega))
    show kU A cap l e (o + (x.sz + y.sz + 1) - 1) _ _
    rw [show o + (x.sz + y.sz + 1) - 1 = o + (x.sz + y.sz) + 0 by omega]; exact goal
  | .one x y, o, z, h, hs, hz, hz2 => by
    unfold Tr.ok at h
    rw [Bool.and_eq_true] at h
    have hz' : x.sz + y.sz + 1 ≤ z := hz
    obtain ⟨z, rfl⟩ : ∃ y, z = y + 1 := ⟨z - 1, by omega⟩
    have hs0 : ∀ i u, (x.enc o ++ y.enc (o + x.sz))[i]? = some u → l[o + i]? = some u := yL hs
    have hs1 : xA l o x := yL hs0
    have hs2 : xA l (o + x.sz) y := yD (Tr.enc_len x o) hs0
    have hr := yD (k := x.sz + y.sz) (by rw [List.length_append, Tr.enc_len, Tr.enc_len]) hs 0 _ rfl
    have goal : kU A cap l e (o + (x.sz + y.sz) + 0) (z + 1) (kA e x || kA e y) := tr_one hn (by omega) hr (qN hn e x o z h.1 hs1 (by omega) (by omega)) (qN hn e y (o + x.sz) z h.2 hs2 (by omega) (by omega))
    show kU A cap l e (o + (x.sz + y.sz + 1) - 1) _ _
    rw [show o + (x.sz + y.sz + 1) - 1 = o + (x.sz + y.sz) + 0 by omega]; exact goal
theorem truth_call {A : Option Addr} {cap : Nat} {l : List Nd} {t : Tr} (hok : t.ok = true) (hl : l = t.enc 0) (hsz : t.sz ≤ 15) (e : Pf) (w : World) (hv : Reads nC w w.heap.size A l) :
    Calls Tryd.prog 23 #[.slice A l.length cap, .int .i64 ((l.length : Int) - 1), pfV e, .int .i64 20] w fun x w' => x = .returned (.bool (kA e t)) ∧ Below w.heap.size w w' := by
  have hlen : l.length = t.sz := by rw [hl, Tr.enc_len]
  have hpos := t.sz_pos
  have q := qN (A := A) (cap := cap) (l := l) (by omega) e t 0 20 hok (hl ▸ gS t) (by omega) (by decide) w hv
  rw [show ((0 + t.sz - 1 : Nat) : Int) = (l.length : Int) - 1 by omega] at q
  exact q
theorem markMeans.law (v : Value) (l : List Int) (W : World) (hv : ReadsI W W.heap.size v l) (hl : l.length ≤ 9223372036854775807) (hK : MkLib W) : Calls Tryd.prog 6 #[v] W fun e w' => e = .returned (.bool true) ∧ Below W.heap.size W w' := by
  refine zU (n := 52) Tryd.func6 rfl (by kernel_rfl) (by kernel_rfl) (ZO (Zv (.bool false) (ZR (Zv (v) (zO (k := 18) (args := #[v, .int .i64 0]) (fun v' L' => ∃ nd sv ob', v' = .agg #[sv] ∧ L' = ob' ++ (([] : List Blk)) ∧ SlN sv nd ob' ∧ MkG nd) (by kernel_rfl) (fun _ => by kernel_rfl) (fun w hO => (jV v l 0 w ((hv.below hO.below).more hO.below.size) hl (by decide)).mono fun e w' ⟨nd, v', ob', k1, k2, k3, k4⟩ => ⟨_, _, k1, ⟨nd, v', ob', rfl, rfl, k2, k3⟩, Own.joinN hO k4⟩) (fun vt1 L1 hv1 => ?_))))))
  obtain ⟨nd1, sv1, o1, rfl, rfl, hN1, hG1⟩ := hv1
  obtain ⟨V1, c1, rfl⟩ := Sl.form hN1
  refine zH (L' := o1) (List.append_nil _) (Zv (v) (zO (k := 21) (args := #[v, .int .i64 15]) (fun v' L' => ∃ q : Pf, v' = pfV q ∧ L' = o1 ∧ PfG q) (by kernel_rfl) (fun _ => by kernel_rfl) (fun w hO => (bO v l 15 w ((hv.below hO.below).more hO.below.size) hl (by decide)).mono fun e w' ⟨q, k1, k2, k3⟩ => ⟨_, _, k1, ⟨q, rfl, rfl, k2⟩, hO.on k3⟩) (fun vt2 L2 hv2 => ?_)))
  obtain ⟨q2, rfl, rfl, hQ2⟩ := hv2
  refine Za (.agg #[.slice none 0 0]) (fun b1 => Za (.agg #[.string ⟨#[]⟩, .string ⟨#[]⟩, .string ⟨#[]⟩]) (fun b2 => Zs 1 ⟨b1, #[.slice none 0 0], 25⟩ (off := 0) (.agg #[.slice V1 nd1.length c1]) (Zs 0 ⟨b2, #[.string ⟨#[]⟩, .string ⟨#[]⟩, .string ⟨#[]⟩], 33⟩ (off := 0) (pfV q2) (ZN (zF (ZO (Zv (.pointer (some ⟨b1, 0, none⟩)) (Zl 1 ⟨b1, #[.slice V1 nd1.length c1], 25⟩ (off := 0) (.slice V1 nd1.length c1) (Zv (.int .i64 (nd1.length : Int)) ?_)))))))))
  by_cases h1 : (nd1.length : Int) = 0
  · refine x8 (p := (nd1.length : Int) = 0) true (by kernel_rfl) (fun _ => by kernel_rfl) (decide_eq_true (h1)) ?_
    refine Zv (.bool true) (Zk (Zk (Zk (Zv (.bool true) (ZY (ZO (Zc (k := 10) (args := #[]) (.bool true) (fun w hO => yN w (hK.on hO.below)) (Zv (.bool true) ?_))))))))
    exact ZN (zG (z5 (ZF (.bool true) Tryd.results6 (fun w hO => ⟨rfl, hO.below⟩))))
  refine Zd (p := (nd1.length : Int) = 0) false (decide_eq_false (h1)) (Zv (.bool false) (Zl 1 ⟨b1, #[.slice V1 nd1.length c1], 25⟩ (off := 0) (.agg #[.slice V1 nd1.length c1]) (Zc (k := 19) (args := #[.agg #[.slice V1 nd1.length c1]]) (.bool (kB nd1)) (fun w hO => gC V1 c1 nd1 w (Sl.reads hN1 rfl hO (fun x hx => by simp [hx])) hG1.few hG1.short (hK.on hO.below)) ?_)))
  cases h2 : kB nd1 with
  | true =>
    obtain ⟨t, hok, hnd, hsz, htx⟩ := (kG h2).resolve_left (fun q => h1 (by rw [q]; rfl))
    have hnl := hG1.few
    have hfit : t.fit = true := by unfold Tr.fit; simp; omega
    have hall : nJ (fun k => k7 q2 k ≠ []) t := wE (fun k _ => full_ne q2 k) t hok
    have htr := w8 t hall
    have hv1 : zL nd1 q2 = evT q2 t := by rw [hnd]; exact xM hok hfit hQ2.ok
    have hv2 : zL nd1 (k7 q2) = evT (k7 q2) t := by rw [hnd]; exact xM hok hfit hQ2.full.ok
    refine Zv (.bool false) (Zv (.bool false) (ZX (ZB (ZO (Zl 0 ⟨b2, (pfV q2).cells, 33⟩ (off := 0) (pfV q2) (Zc (k := 22) (args := #[pfV q2]) (pfV (k7 q2)) (fun w _ => full10_any q2 w) (Za (.agg #[.string ⟨#[]⟩, .string ⟨#[]⟩, .string ⟨#[]⟩]) (fun b3 => ?_))))))))
    refine Zs 0 ⟨b3, #[.string ⟨#[]⟩, .string ⟨#[]⟩, .string ⟨#[]⟩], 33⟩ (off := 0) (pfV (k7 q2)) (ZR (Zv (.int .i64 0) (ZN (zF (ZO (Zv (.pointer (some ⟨b1, 0, none⟩)) ?_))))))
    refine Zl 2 ⟨b1, #[.slice V1 nd1.length c1], 25⟩ (off := 0) (.slice V1 nd1.length c1) (Zv (.pointer (some ⟨b1, 0, none⟩)) (Zl 2 ⟨b1, #[.slice V1 nd1.length c1], 25⟩ (off := 0) (.slice V1 nd1.length c1) (Zv (.int .i64 (nd1.length : Int)) (Zu (k := .i64) ((nd1.length : Int) - 1) (IntWalk.i64_in _ (by omega)) (Zl 0 ⟨b3, (pfV (k7 q2)).cells, 33⟩ (off := 0) (pfV (k7 q2)) (Zc (k := 23) (args := #[.slice V1 nd1.length c1, .int .i64 ((nd1.length : Int) - 1), pfV (k7 q2), .int .i64 20]) (.bool (kA (k7 q2) t)) (fun w hO => truth_call hok hnd hsz (k7 q2) w (Sl.reads hN1 rfl hO (fun x hx => by simp [hx]))) (zK (z8 ?_))))))))
    cases h3 : kA (k7 q2) t with
    | true =>
      refine Zt (z7 (Zv (.int .i64 2) (ZR (Zl 2 ⟨b1, #[.slice V1 nd1.length c1], 25⟩ (off := 0) (.agg #[.slice V1 nd1.length c1]) (Zl 1 ⟨b2, (pfV q2).cells, 33⟩ (off := 0) (pfV q2) (Zc (k := 24) (args := #[.agg #[.slice V1 nd1.length c1], pfV q2]) (.int .i64 (zL nd1 q2)) (fun w hO => x2 V1 c1 nd1 q2 w (Sl.reads hN1 rfl hO (fun x hx => by simp [hx])) hG1.few hG1.short hQ2.short (hK.on hO.below)) (Zv (.int .i64 (zL nd1 q2)) (zK ?_))))))))
      refine z8 (ZO (Zc (k := 10) (args := #[]) (.bool true) (fun w hO => yN w (hK.on hO.below)) (Zv (.bool true) (Zl 2 ⟨b1, #[.slice V1 nd1.length c1], 25⟩ (off := 0) (.agg #[.slice V1 nd1.length c1]) (Zl 0 ⟨b3, (pfV (k7 q2)).cells, 33⟩ (off := 0) (pfV (k7 q2)) (Zc (k := 24) (args := #[.agg #[.slice V1 nd1.length c1], pfV (k7 q2)]) (.int .i64 (zL nd1 (k7 q2))) (fun w hO => x2 V1 c1 nd1 (k7 q2) w (Sl.reads hN1 rfl hO (fun x hx => by simp [hx])) hG1.few hG1.short hQ2.full.short (hK.on hO.below)) (Zv (.int .i64 2) (Zd (p := (zL nd1 (k7 q2) : Int) = 2) true (decide_eq_true (by rw [hv2, htr, h3]; rfl)) (Zv (.bool true) (Zv (.bool true) ?_))))))))))
      refine Zv (.int .i64 (zL nd1 q2)) (Zv (.int .i64 2) ?_)
      by_cases h4 : (zL nd1 q2 : Int) = 2
      · refine x8 (p := (zL nd1 q2 : Int) = 2) true (by kernel_rfl) (fun _ => by kernel_rfl) (decide_eq_true (h4)) ?_
        exact Zv (.bool true) (Zk (Zk (Zv (.bool true) (Zv (.bool true) (Zv (.bool true) (ZN (zG (ZF (.bool true) Tryd.results6 (fun w hO => ⟨rfl, hO.below⟩)))))))))
      exact Zd (p := (zL nd1 q2 : Int) = 2) false (decide_eq_false (h4)) (Zv (.bool false) (Zv (.int .i64 (zL nd1 q2)) (Zd (p := (zL nd1 q2 : Int) = 1) true (decide_eq_true (by rw [hv1]; exact Decidable.byContradiction fun h9 => h4 (by rw [hv1, ← kK (full_ext q2) t h9, htr, h3]; rfl))) (Zv (.bool true) (Zv (.bool true) (Zv (.bool true) (ZN (zG (ZF (.bool true) Tryd.results6 (fun w hO => ⟨rfl, hO.below⟩))))))))))
    | false =>
      refine Zf (ZB (ZO (Zl 2 ⟨b1, #[.slice V1 nd1.length c1], 25⟩ (off := 0) (.agg #[.slice V1 nd1.length c1]) (Zl 1 ⟨b2, (pfV q2).cells, 33⟩ (off := 0) (pfV q2) (Zc (k := 24) (args := #[.agg #[.slice V1 nd1.length c1], pfV q2]) (.int .i64 (zL nd1 q2)) (fun w hO => x2 V1 c1 nd1 q2 w (Sl.reads hN1 rfl hO (fun x hx => by simp [hx])) hG1.few hG1.short hQ2.short (hK.on hO.below)) (Zv (.int .i64 (zL nd1 q2)) (ZN (zF ?_))))))))
      refine z7 (Zc (k := 10) (args := #[]) (.bool true) (fun w hO => yN w (hK.on hO.below)) (Zv (.bool true) (Zl 2 ⟨b1, #[.slice V1 nd1.length c1], 25⟩ (off := 0) (.agg #[.slice V1 nd1.length c1]) (Zl 0 ⟨b3, (pfV (k7 q2)).cells, 33⟩ (off := 0) (pfV (k7 q2)) (Zc (k := 24) (args := #[.agg #[.slice V1 nd1.length c1], pfV (k7 q2)]) (.int .i64 (zL nd1 (k7 q2))) (fun w hO => x2 V1 c1 nd1 (k7 q2) w (Sl.reads hN1 rfl hO (fun x hx => by simp [hx])) hG1.few hG1.short hQ2.full.short (hK.on hO.below)) (Zv (.int .i64 0) (Zd (p := (zL nd1 (k7 q2) : Int) = 0) true (decide_eq_true (by rw [hv2, htr, h3]; rfl)) (Zv (.bool true) (Zv (.bool true) (Zv (.int .i64 (zL nd1 q2)) (Zv (.int .i64 0) ?_)))))))))))
      by_cases h5 : (zL nd1 q2 : Int) = 0
      · refine x8 (p := (zL nd1 q2 : Int) = 0) true (by kernel_rfl) (fun _ => by kernel_rfl) (decide_eq_true (h5)) ?_
        exact Zv (.bool true) (Zk (Zk (Zv (.bool true) (Zv (.bool true) (Zv (.bool true) (ZN (zG (ZF (.bool true) Tryd.results6 (fun w hO => ⟨rfl, hO.below⟩)))))))))
      exact Zd (p := (zL nd1 q2 : Int) = 0) false (decide_eq_false (h5)) (Zv (.bool false) (Zv (.int .i64 (zL nd1 q2)) (Zd (p := (zL nd1 q2 : Int) = 1) true (decide_eq_true (by rw [hv1]; exact Decidable.byContradiction fun h9 => h5 (by rw [hv1, ← kK (full_ext q2) t h9, htr, h3]; rfl))) (Zv (.bool true) (Zv (.bool true) (Zv (.bool true) (ZN (zG (ZF (.bool true) Tryd.results6 (fun w hO => ⟨rfl, hO.below⟩))))))))))
  | false =>
    refine Zv (.bool true) (Zv (.bool true) (ZY (ZO (Zc (k := 10) (args := #[]) (.bool true) (fun w hO => yN w (hK.on hO.below)) (Zv (.bool true) (ZN (zG ?_)))))))
    exact z5 (ZF (.bool true) Tryd.results6 (fun w hO => ⟨rfl, hO.below⟩))
end
section
set_option linter.unnecessarySimpa false
def y8 (e f : Pf) : Pf := fun i => if e i = [] then f i else e i
def vI (e f : Pf) (k : Nat) : Pf := fun i => if i < k then y8 e f i else f i
def kN (e f : Pf) : Pf := fun i => if e i = [] then f i else []
def qU (e f : Pf) (k : Nat) : Pf := fun i => if i < k then kN e f i else f i
def qA (e f : Pf) (k : Nat) : Pf := fun i => if i < k then y8 e f i else e i
theorem k_step {a b c : Pf} {k : Nat} {t : List UInt8} (h : t = b k) : gG (fun i => if i < k then b i else c i) k t = fun i => if i < k + 1 then b i else c i := by
  funext i
  unfold gG
  by_cases e : i = k
  · subst e; rw [if_pos rfl, if_pos (by omega), h]
  · rw [if_neg e]
    show (if i < k then b i else c i) = (if i < k + 1 then b i else c i)
    by_cases hi : i < k
    · rw [if_pos hi, if_pos (by omega)]
    · rw [if_neg hi, if_neg (by omega)]
theorem k_same {b c : Pf} {k : Nat} (h : c k = b k) : (fun i => if i < k then b i else c i : Pf) = fun i => if i < k + 1 then b i else c i := by
  funext i
  by_cases e : i = k
  · subst e; rw [if_neg (by omega), if_pos (by omega), h]
  · by_cases hi : i < k
    · rw [if_pos hi, if_pos (by omega)]
    · rw [if_neg hi, if_neg (by omega)]
theorem all_step {e f : Pf} {k : Nat} (h : ¬ e k = []) : gG (vI e f k) k (e k) = vI e f (k + 1) := k_step (a := e) (by unfold y8; rw [if_neg h])
theorem off_step {e f : Pf} {k : Nat} (h : ¬ e k = []) : gG (qU e f k) k [] = qU e f (k + 1) := k_step (a := e) (by unfold kN; rw [if_neg h])
theorem add_step {e f : Pf} {k : Nat} (h : e k = []) : gG (qA e f k) k (f k) = qA e f (k + 1) := k_step (a := e) (by unfold y8; rw [if_pos h])
theorem all_same {e f : Pf} {k : Nat} (h : e k = []) : vI e f k = vI e f (k + 1) := k_same (by unfold y8; rw [if_pos h])
theorem off_same {e f : Pf} {k : Nat} (h : e k = []) : qU e f k = qU e f (k + 1) := k_same (by unfold kN; rw [if_pos h])
theorem add_same {e f : Pf} {k : Nat} (h : ¬ e k = []) : qA e f k = qA e f (k + 1) := k_same (by unfold y8; rw [if_neg h])
theorem hJ {e f : Pf} : ∀ k, k < 3 → vI e f 3 k = y8 e f k := fun k hk => if_pos hk
theorem fU {e f : Pf} : ∀ k, k < 3 → qU e f 3 k = kN e f k := fun k hk => if_pos hk
theorem hN {e f : Pf} : ∀ k, k < 3 → qA e f 3 k = y8 e f k := fun k hk => if_pos hk
theorem t8 (e f : Pf) (k : Nat) : qA e f k k = e k := if_neg (by omega)
theorem PfG.all {e f : Pf} (he : PfG e) (hf : PfG f) : PfG (y8 e f) := fun k => by unfold y8; split; exact hf k; exact he k
theorem PfG.off {e f : Pf} (hf : PfG f) : PfG (kN e f) := fun k => by unfold kN; split; exact hf k; exact .inl rfl
theorem bR (e f : Pf) : Ext e (y8 e f) := fun k h => by unfold y8; rw [if_neg h]
theorem wB {p : Nat → Prop} : ∀ (t : Tr) (o : Nat), t.ok = true → nJ p t → ∀ n ∈ t.enc o, n.op = 1 → ∃ k : Nat, n.key = (k : Int) ∧ k < 3 ∧ p k
  | .is k v, o, h, ha, n, hn, _ => by
    unfold Tr.ok at h
    simp only [Bool.and_eq_true, decide_eq_true_eq] at h
    rw [Tr.enc, List.mem_singleton] at hn
    exact ⟨k, by rw [hn], h.1, ha⟩
  | .no x, o, h, ha, n, hn, h1 => by
    rw [Tr.enc] at hn
    rcases List.mem_append.1 hn with hn | hn
    · exact wB x o h ha n hn h1
    · rw [List.mem_singleton.1 hn] at h1; cases h1
  | .both x y, o, h, ha, n, hn, h1 => by
    unfold Tr.ok at h
    rw [Bool.and_eq_true] at h
    rw [Tr.enc] at hn
    rcases List.mem_append.1 hn with hn | hn
    · rcases List.mem_append.1 hn with hn | hn
      · exact wB x o h.1 ha.1 n hn h1
      · exact wB y _ h.2 ha.2 n hn h1
    · rw [List.mem_singleton.1 hn] at h1; cases h1
  | .one x y, o, h, ha, n, hn, h1 => by
    unfold Tr.ok at h
    rw [Bool.and_eq_true] at h
    rw [Tr.enc] at hn
    rcases List.mem_append.1 hn with hn | hn
    · rcases List.mem_append.1 hn with hn | hn
      · exact wB x o h.1 ha.1 n hn h1
      · exact wB y _ h.2 ha.2 n hn h1
    · rw [List.mem_singleton.1 hn] at h1; cases h1
theorem under_asks {l : List Nd} {e : Pf} : ∀ n ∈ zN l e, n.op = 1 → ∃ k : Nat, n.key = (k : Int) ∧ k < 3 ∧ e k = [] := fun n hn h1 => by
  by_cases h : zL l e = 1
  · obtain ⟨t, ho, hl, _, hev, hu⟩ := w6 h
    rw [hu] at hn
    exact wB (zI e t) 0 (kJ e t ho) (kW t hev) n hn h1
  · rw [gR h] at hn; simp at hn
theorem nD {l : List Nd} {e g : Pf} (he : vQ e = true) (hg : vQ g = true) (hx : Ext e g) (h : ¬ zL l e = 1) : zL l g = zL l e := by
  cases hm : kB l with
  | false => rw [w7 (.inl hm), w7 (.inl hm)]
  | true =>
    rcases kG hm with rfl | ⟨t, ho, rfl, hsz, htx⟩
    · rw [bN he, bN hg]
    · have hf : t.fit = true := by unfold Tr.fit; simp; omega
      rw [xM ho hf he] at h ⊢
      rw [xM ho hf hg]; exact kK hx t h
theorem bF {l : List Nd} {e : Pf} (h : zL l e = 1) : ∃ t : Tr, t.ok = true ∧ t.fit = true ∧ l = t.enc 0 ∧ evT e t = 1 ∧ zN l e = (zI e t).enc 0 ∧ (zI e t).fit = true := by
  obtain ⟨t, ho, hl, hsz, hev, hu⟩ := w6 h
  have hm : kB l = true := by
    unfold zL at h
    split at h
    · rename_i hc; rw [Bool.and_eq_true] at hc; exact hc.1
    · cases h
  have hf : t.fit = true := by rw [← v6 ho, ← hl]; exact hm
  have h2 := hf
  unfold Tr.fit at h2
  simp at h2
  have h3 := left_may (e := e) ho h2.1 h2.2
  rw [v6 (kJ e t ho)] at h3
  exact ⟨t, ho, hf, hl, hev, hu, h3⟩
theorem under_may {l : List Nd} {e : Pf} (h : zL l e = 1) : kB (zN l e) = true := by
  obtain ⟨t, ho, _, _, _, hu, hf⟩ := bF h
  rw [hu, v6 (kJ e t ho)]; exact hf
theorem dB {l : List Nd} {e g : Pf} (h : zL l e = 1) (hg : vQ g = true) (hx : Ext e g) : zL (zN l e) g = zL l g := by
  obtain ⟨t, ho, hf, hl, hev, hu, hf2⟩ := bF h
  rw [hu, hl, xM (kJ e t ho) hf2 hg, xM ho hf hg]
  exact gD hx t hev
theorem under_off {l : List Nd} {e f : Pf} (h : zL l e = 1) (hg : vQ (y8 e f) = true) (ho : vQ (kN e f) = true) : zL (zN l e) (kN e f) = zL l (y8 e f) := by
  rw [← dB h hg (bR e f)]
  obtain ⟨t, hok, hf, hl, hev, hu, hf2⟩ := bF h
  rw [hu, xM (kJ e t hok) hf2 hg, xM (kJ e t hok) hf2 ho]
  refine w9 (p := fun k => e k = []) (fun k hk => ?_) _ (kW t hev)
  unfold kN y8
  rw [if_pos hk, if_pos hk]
theorem tD {l : List Nd} {e g : Pf} (h : zL l e = 1) (hg : vQ g = true) (hx : Ext e g) : zN l g = zN (zN l e) g := by
  have hq := dB h hg hx
  by_cases h1 : zL l g = 1
  · obtain ⟨t, ho, hf, hl, hev, hu, hf2⟩ := bF h
    have hg1 : evT g t = 1 := by rw [← xM ho hf hg, ← hl]; exact h1
    rw [hu, hl, mK ho hf hg, mK (kJ e t ho) hf2 hg, if_pos hg1, if_pos (by rw [gD hx t hev]; exact hg1), k6 hx t hev hg1]
  · rw [gR h1, gR (by rw [hq]; exact h1)]
theorem markLeft.law (v : Value) (l : List Int) (W : World) (hv : ReadsI W W.heap.size v l) (hl : l.length ≤ 9223372036854775807) (hK : MkLib W) : Calls Tryd.prog 7 #[v] W fun e w' => e = .returned (.bool true) ∧ Below W.heap.size W w' := by
  refine zU (n := 111) Tryd.func7 rfl (by kernel_rfl) (by kernel_rfl) (ZO (Zv (.bool false) (ZR (Zv (v) (zO (k := 18) (args := #[v, .int .i64 0]) (fun v' L' => ∃ nd sv ob', v' = .agg #[sv] ∧ L' = ob' ++ (([] : List Blk)) ∧ SlN sv nd ob' ∧ MkG nd) (by kernel_rfl) (fun _ => by kernel_rfl) (fun w hO => (jV v l 0 w ((hv.below hO.below).more hO.below.size) hl (by decide)).mono fun e w' ⟨nd, v', ob', k1, k2, k3, k4⟩ => ⟨_, _, k1, ⟨nd, v', ob', rfl, rfl, k2, k3⟩, Own.joinN hO k4⟩) (fun vt1 L1 hv1 => ?_))))))
  obtain ⟨nd1, sv1, o1, rfl, rfl, hN1, hG1⟩ := hv1
  obtain ⟨V1, c1, rfl⟩ := Sl.form hN1
  refine zH (L' := o1) (List.append_nil _) (Zv (v) (zO (k := 21) (args := #[v, .int .i64 15]) (fun v' L' => ∃ q : Pf, v' = pfV q ∧ L' = o1 ∧ PfG q) (by kernel_rfl) (fun _ => by kernel_rfl) (fun w hO => (bO v l 15 w ((hv.below hO.below).more hO.below.size) hl (by decide)).mono fun e w' ⟨q, k1, k2, k3⟩ => ⟨_, _, k1, ⟨q, rfl, rfl, k2⟩, hO.on k3⟩) (fun vt2 L2 hv2 => ?_)))
  obtain ⟨q2, rfl, hLe2, hQ2⟩ := hv2
  refine zH hLe2 (Zv (v) (zO (k := 21) (args := #[v, .int .i64 18]) (fun v' L' => ∃ q : Pf, v' = pfV q ∧ L' = o1 ∧ PfG q) (by kernel_rfl) (fun _ => by kernel_rfl) (fun w hO => (bO v l 18 w ((hv.below hO.below).more hO.below.size) hl (by decide)).mono fun e w' ⟨q, k1, k2, k3⟩ => ⟨_, _, k1, ⟨q, rfl, rfl, k2⟩, hO.on k3⟩) (fun vt3 L3 hv3 => ?_)))
  obtain ⟨q3, rfl, hLe3, hQ3⟩ := hv3
  refine zH hLe3 (Za (.agg #[.slice none 0 0]) (fun b1 => Za (.agg #[.string ⟨#[]⟩, .string ⟨#[]⟩, .string ⟨#[]⟩]) (fun b2 => Za (.agg #[.string ⟨#[]⟩, .string ⟨#[]⟩, .string ⟨#[]⟩]) (fun b3 => Zs 2 ⟨b1, #[.slice none 0 0], 25⟩ (off := 0) (.agg #[.slice V1 nd1.length c1]) (Zs 1 ⟨b2, #[.string ⟨#[]⟩, .string ⟨#[]⟩, .string ⟨#[]⟩], 33⟩ (off := 0) (pfV q2) (Zs 0 ⟨b3, #[.string ⟨#[]⟩, .string ⟨#[]⟩, .string ⟨#[]⟩], 33⟩ (off := 0) (pfV q3) (ZN (zF (zF (z7 ?_))))))))))
  refine Zl 2 ⟨b1, #[.slice V1 nd1.length c1], 25⟩ (off := 0) (.agg #[.slice V1 nd1.length c1]) (Zc (k := 19) (args := #[.agg #[.slice V1 nd1.length c1]]) (.bool (kB nd1)) (fun w hO => gC V1 c1 nd1 w (Sl.reads hN1 rfl hO (fun x hx => by simp [hx])) hG1.few hG1.short (hK.on hO.below)) ?_)
  cases h1 : kB nd1 with
  | true =>
    have hnl := hG1.few
    refine Zv (.bool false) (ZX (ZB (ZO (Zl 0 ⟨b3, (pfV q3).cells, 33⟩ (off := 0) (pfV q3) (Za (.agg #[.string ⟨#[]⟩, .string ⟨#[]⟩, .string ⟨#[]⟩]) (fun b4 => Zs 0 ⟨b4, #[.string ⟨#[]⟩, .string ⟨#[]⟩, .string ⟨#[]⟩], 33⟩ (off := 0) (pfV q3) (zK ?_)))))))
    refine z8 (zF (ZO (Zv (.int .i64 0) (ZN (zP (yB (L' := ⟨b4, #[.string (mkS (vI q2 q3 0 0)), .string (mkS (vI q2 q3 0 1)), .string (mkS (vI q2 q3 0 2))], 33⟩ :: (⟨b3, #[.string (mkS (qU q2 q3 0 0)), .string (mkS (qU q2 q3 0 1)), .string (mkS (qU q2 q3 0 2))], 33⟩ :: (⟨b2, (pfV q2).cells, 33⟩ :: (⟨b1, #[.slice V1 nd1.length c1], 25⟩ :: (o1))))) (by rfl) (xT (fun L f m => ∃ (k : Nat) (j : Nat → Value), (k ≤ 3) ∧ L = ⟨b4, #[.string (mkS (vI q2 q3 k 0)), .string (mkS (vI q2 q3 k 1)), .string (mkS (vI q2 q3 k 2))], 33⟩ :: (⟨b3, #[.string (mkS (qU q2 q3 k 0)), .string (mkS (qU q2 q3 k 1)), .string (mkS (qU q2 q3 k 2))], 33⟩ :: (⟨b2, (pfV q2).cells, 33⟩ :: (⟨b1, #[.slice V1 nd1.length c1], 25⟩ :: (o1)))) ∧ f = qT j [(0, v), (3, .pointer (some ⟨b1, 0, none⟩)), (4, .pointer (some ⟨b2, 0, none⟩)), (5, .pointer (some ⟨b3, 0, none⟩)), (6, .pointer (some ⟨b4, 0, none⟩)), (7, .int .i64 (k : Int))] ∧ m = 3 - k) (3 - 0) ⟨0, _, by omega, rfl, ZU, rfl⟩ ?_)))))))
    rintro L f m ⟨k, j, hrel, rfl, rfl, rfl⟩
    have hk6 := hrel
    refine zF (ZO (Zv (.int .i64 (k : Int)) ?_))
    by_cases h2 : (k : Int) < 3
    · have hk3 : k < 3 := by omega
      refine Zd (p := (k : Int) < 3) true (decide_eq_true (h2)) (ZY (ZB (zF (zP (ZO (Zv (.int .i64 (k : Int)) (Zv (.pointer (some ⟨b2, 0, none⟩)) ?_)))))))
      refine zM (.pointer (some ⟨b2, k, none⟩)) (by kernel_rfl) (xK (b := b2) (off := 0) (k := .i64) (j := (k : Int)) (n := 3) (e := 9) (sz := 1) rfl (by kernel_rfl) (by kernel_rfl) (by kernel_rfl) (by kernel_rfl) (by omega) (by omega) (by omega)) (qH 2 ⟨b2, (pfV q2).cells, 33⟩ (off := k) (.string (mkS (q2 k))) (by kernel_rfl) rfl (by kernel_rfl) (by kernel_rfl) (wW (q2) k hk3) ?_)
      by_cases h3 : ((q2 k) : List UInt8) = []
      · have hem := h3
        refine zM (.bool false) (by kernel_rfl) (xJ (a := (q2 k)) (b := ([])) rfl (by kernel_rfl) (by kernel_rfl) (decide_eq_true (h3))) (ZX (x6 (zJ (z8 (z7 (Zv (.int .i64 (k : Int)) (Zu (k := .i64) (((k + 1 : Nat) : Int)) (IntWalk.i64_in _ (by omega)) (Zv (.int .i64 ((k + 1 : Nat) : Int)) (zK ?_)))))))))
        rw [all_same h3, off_same h3]
        exact zS (m' := 3 - (k + 1)) (by omega) ⟨k + 1, _, by omega, rfl, ZU, rfl⟩
      have hne := h3
      refine zM (.bool true) (by kernel_rfl) (xJ (a := (q2 k)) (b := ([])) rfl (by kernel_rfl) (by kernel_rfl) (decide_eq_false (h3))) (ZY (z7 (Zv (.int .i64 (k : Int)) (Zv (.int .i64 (k : Int)) (Zv (.int .i64 (k : Int)) (Zv (.pointer (some ⟨b2, 0, none⟩)) (zM (.pointer (some ⟨b2, k, none⟩)) (by kernel_rfl) (xK (b := b2) (off := 0) (k := .i64) (j := (k : Int)) (n := 3) (e := 9) (sz := 1) rfl (by kernel_rfl) (by kernel_rfl) (by kernel_rfl) (by kernel_rfl) (by omega) (by omega) (by omega)) (qH 2 ⟨b2, (pfV q2).cells, 33⟩ (off := k) (.string (mkS (q2 k))) (by kernel_rfl) rfl (by kernel_rfl) (by kernel_rfl) (wW (q2) k hk3) (Zv (.pointer (some ⟨b4, 0, none⟩)) ?_)))))))))
      refine zM (.pointer (some ⟨b4, k, none⟩)) (by kernel_rfl) (xK (b := b4) (off := 0) (k := .i64) (j := (k : Int)) (n := 3) (e := 9) (sz := 1) rfl (by kernel_rfl) (by kernel_rfl) (by kernel_rfl) (by kernel_rfl) (by omega) (by omega) (by omega)) (kV 0 ⟨b4, #[.string (mkS (vI q2 q3 k 0)), .string (mkS (vI q2 q3 k 1)), .string (mkS (vI q2 q3 k 2))], 33⟩ (off := k) (.string (mkS (q2 k))) 1 (by kernel_rfl) rfl rfl (by kernel_rfl) (by kernel_rfl) (by kernel_rfl) (by kernel_rfl) (by kernel_rfl) (by show k + 1 ≤ 3; omega) (by kernel_rfl) (zH (L' := ⟨b4, #[.string (mkS (vI q2 q3 (k + 1) 0)), .string (mkS (vI q2 q3 (k + 1) 1)), .string (mkS (vI q2 q3 (k + 1) 2))], 33⟩ :: (⟨b3, #[.string (mkS (qU q2 q3 k 0)), .string (mkS (qU q2 q3 k 1)), .string (mkS (qU q2 q3 k 2))], 33⟩ :: (⟨b2, (pfV q2).cells, 33⟩ :: (⟨b1, #[.slice V1 nd1.length c1], 25⟩ :: (o1))))) (by rw [show (⟨b4, #[.string (mkS (vI q2 q3 (k + 1) 0)), .string (mkS (vI q2 q3 (k + 1) 1)), .string (mkS (vI q2 q3 (k + 1) 2))], 33⟩ : Blk) = ⟨b4, xX _ _ _, _⟩ from congrArg (fun z => (⟨b4, z, 33⟩ : Blk)) (by rw [← all_step hne]; exact (wZ (vI q2 q3 k) _ k hk3).symm)]; rfl) (Zv (.pointer (some ⟨b3, 0, none⟩)) (zM (.pointer (some ⟨b3, k, none⟩)) (by kernel_rfl) (xK (b := b3) (off := 0) (k := .i64) (j := (k : Int)) (n := 3) (e := 9) (sz := 1) rfl (by kernel_rfl) (by kernel_rfl) (by kernel_rfl) (by kernel_rfl) (by omega) (by omega) (by omega)) (kV 1 ⟨b3, #[.string (mkS (qU q2 q3 k 0)), .string (mkS (qU q2 q3 k 1)), .string (mkS (qU q2 q3 k 2))], 33⟩ (off := k) (.string ⟨#[]⟩) 1 (by kernel_rfl) rfl rfl (by kernel_rfl) (by kernel_rfl) (by kernel_rfl) (by kernel_rfl) (by kernel_rfl) (by show k + 1 ≤ 3; omega) (by kernel_rfl) (zH (L' := ⟨b4, #[.string (mkS (vI q2 q3 (k + 1) 0)), .string (mkS (vI q2 q3 (k + 1) 1)), .string (mkS (vI q2 q3 (k + 1) 2))], 33⟩ :: (⟨b3, #[.string (mkS (qU q2 q3 (k + 1) 0)), .string (mkS (qU q2 q3 (k + 1) 1)), .string (mkS (qU q2 q3 (k + 1) 2))], 33⟩ :: (⟨b2, (pfV q2).cells, 33⟩ :: (⟨b1, #[.slice V1 nd1.length c1], 25⟩ :: (o1))))) (by rw [show (⟨b3, #[.string (mkS (qU q2 q3 (k + 1) 0)), .string (mkS (qU q2 q3 (k + 1) 1)), .string (mkS (qU q2 q3 (k + 1) 2))], 33⟩ : Blk) = ⟨b3, xX _ _ _, _⟩ from congrArg (fun z => (⟨b3, z, 33⟩ : Blk)) (by rw [← off_step hne]; exact (wZ (qU q2 q3 k) _ k hk3).symm)]; rfl) (zK (zJ (z8 (z7 (Zv (.int .i64 (k : Int)) ?_)))))))))))
      exact Zu (k := .i64) (((k + 1 : Nat) : Int)) (IntWalk.i64_in _ (by omega)) (Zv (.int .i64 ((k + 1 : Nat) : Int)) (zK (zS (m' := 3 - (k + 1)) (by omega) ⟨k + 1, _, by omega, rfl, ZU, rfl⟩)))
    have hk3 : k = 3 := by omega
    refine Zd (p := (k : Int) < 3) false (decide_eq_false (h2)) (ZX (xN (yG (zY (zZ (z8 (zF (yB (L' := ⟨b4, #[.string (mkS (y8 q2 q3 0)), .string (mkS (y8 q2 q3 1)), .string (mkS (y8 q2 q3 2))], 33⟩ :: (⟨b3, #[.string (mkS (qU q2 q3 k 0)), .string (mkS (qU q2 q3 k 1)), .string (mkS (qU q2 q3 k 2))], 33⟩ :: (⟨b2, (pfV q2).cells, 33⟩ :: (⟨b1, #[.slice V1 nd1.length c1], 25⟩ :: (o1))))) (by rw [hk3, show (⟨b4, #[.string (mkS (vI q2 q3 3 0)), .string (mkS (vI q2 q3 3 1)), .string (mkS (vI q2 q3 3 2))], 33⟩ : Blk) = ⟨b4, #[.string (mkS (y8 q2 q3 0)), .string (mkS (y8 q2 q3 1)), .string (mkS (y8 q2 q3 2))], 33⟩ from by rw [hJ 0 (by decide), hJ 1 (by decide), hJ 2 (by decide)]]) (yB (L' := ⟨b4, #[.string (mkS (y8 q2 q3 0)), .string (mkS (y8 q2 q3 1)), .string (mkS (y8 q2 q3 2))], 33⟩ :: (⟨b3, #[.string (mkS (kN q2 q3 0)), .string (mkS (kN q2 q3 1)), .string (mkS (kN q2 q3 2))], 33⟩ :: (⟨b2, (pfV q2).cells, 33⟩ :: (⟨b1, #[.slice V1 nd1.length c1], 25⟩ :: (o1))))) (by rw [hk3, show (⟨b3, #[.string (mkS (qU q2 q3 3 0)), .string (mkS (qU q2 q3 3 1)), .string (mkS (qU q2 q3 3 2))], 33⟩ : Blk) = ⟨b3, #[.string (mkS (kN q2 q3 0)), .string (mkS (kN q2 q3 1)), .string (mkS (kN q2 q3 2))], 33⟩ from by rw [fU 0 (by decide), fU 1 (by decide), fU 2 (by decide)]]) ?_)))))))))
    refine z7 (Zl 3 ⟨b1, #[.slice V1 nd1.length c1], 25⟩ (off := 0) (.agg #[.slice V1 nd1.length c1]) (Zl 2 ⟨b2, (pfV q2).cells, 33⟩ (off := 0) (pfV q2) (zO (k := 16) (args := #[.agg #[.slice V1 nd1.length c1], pfV q2]) (fun v' L' => ∃ sv ob', v' = .tuple #[.agg #[sv], .int .i64 (zL nd1 q2)] ∧ L' = ob' ++ (⟨b4, #[.string (mkS (y8 q2 q3 0)), .string (mkS (y8 q2 q3 1)), .string (mkS (y8 q2 q3 2))], 33⟩ :: (⟨b3, #[.string (mkS (kN q2 q3 0)), .string (mkS (kN q2 q3 1)), .string (mkS (kN q2 q3 2))], 33⟩ :: (⟨b2, (pfV q2).cells, 33⟩ :: (⟨b1, #[.slice V1 nd1.length c1], 25⟩ :: (o1))))) ∧ SlN sv (zN nd1 q2) ob') (by kernel_rfl) (fun _ => by kernel_rfl) (fun w hO => (qY V1 c1 nd1 q2 w (Sl.reads hN1 rfl hO (fun x hx => by simp [hx])) hG1.few hG1.short hQ2.short (hK.on hO.below)).mono fun e w' ⟨v', ob', k1, k2, k3⟩ => ⟨_, _, k1, ⟨v', ob', rfl, rfl, k2⟩, Own.joinN hO k3⟩) (fun vt4 L4 hv4 => ?_))))
    obtain ⟨sv4, o4, rfl, rfl, hN4⟩ := hv4
    obtain ⟨V4, c4, rfl⟩ := Sl.form hN4
    refine Zv (.tuple #[.agg #[.slice V4 ((zN nd1 q2).length) c4], .int .i64 (zL nd1 q2)]) (Zv (.agg #[.slice V4 ((zN nd1 q2).length) c4]) (Zv (.int .i64 (zL nd1 q2)) (Za (.agg #[.slice none 0 0]) (fun b5 => Zs 0 ⟨b5, #[.slice none 0 0], 25⟩ (off := 0) (.agg #[.slice V4 ((zN nd1 q2).length) c4]) (Zv (.int .i64 (zL nd1 q2)) (ZN (zF (ZO (Zv (.int .i64 0) ?_)))))))))
    refine ZN (zP (yB (L' := (⟨b5, #[.slice V4 ((zN nd1 q2).length) c4], 25⟩ :: (o4 ++ (⟨b4, #[.string (mkS (y8 q2 q3 0)), .string (mkS (y8 q2 q3 1)), .string (mkS (y8 q2 q3 2))], 33⟩ :: (⟨b3, #[.string (mkS (kN q2 q3 0)), .string (mkS (kN q2 q3 1)), .string (mkS (kN q2 q3 2))], 33⟩ :: (⟨b2, (pfV q2).cells, 33⟩ :: (⟨b1, #[.slice V1 nd1.length c1], 25⟩ :: (o1))))))) ++ ([] : List Blk)) (by rw [List.append_nil]; kernel_rfl) ?_))
    have hun := g7 (l := nd1) (e := q2) hG1.few
    refine xT (fun L f m => ∃ (i : Nat) (j : Nat → Value), (i ≤ (zN nd1 q2).length) ∧ L = (⟨b5, #[.slice V4 ((zN nd1 q2).length) c4], 25⟩ :: (o4 ++ (⟨b4, #[.string (mkS (y8 q2 q3 0)), .string (mkS (y8 q2 q3 1)), .string (mkS (y8 q2 q3 2))], 33⟩ :: (⟨b3, #[.string (mkS (kN q2 q3 0)), .string (mkS (kN q2 q3 1)), .string (mkS (kN q2 q3 2))], 33⟩ :: (⟨b2, (pfV q2).cells, 33⟩ :: (⟨b1, #[.slice V1 nd1.length c1], 25⟩ :: (o1))))))) ++ ([] : List Blk) ∧ f = qT j [(0, v), (3, .pointer (some ⟨b1, 0, none⟩)), (4, .pointer (some ⟨b2, 0, none⟩)), (5, .pointer (some ⟨b3, 0, none⟩)), (6, .pointer (some ⟨b4, 0, none⟩)), (8, .pointer (some ⟨b5, 0, none⟩)), (9, .int .i64 (zL nd1 q2)), (10, .int .i64 (i : Int))] ∧ m = (zN nd1 q2).length - i) ((zN nd1 q2).length - 0) ⟨0, _, Nat.zero_le _, rfl, ZU, rfl⟩ ?_
    rintro L f m ⟨i, j, hrel, rfl, rfl, rfl⟩
    have hi6 := hrel; refine yB (L' := ⟨b5, #[.slice V4 ((zN nd1 q2).length) c4], 25⟩ :: (o4 ++ (⟨b4, #[.string (mkS (y8 q2 q3 0)), .string (mkS (y8 q2 q3 1)), .string (mkS (y8 q2 q3 2))], 33⟩ :: (⟨b3, #[.string (mkS (kN q2 q3 0)), .string (mkS (kN q2 q3 1)), .string (mkS (kN q2 q3 2))], 33⟩ :: (⟨b2, (pfV q2).cells, 33⟩ :: (⟨b1, #[.slice V1 nd1.length c1], 25⟩ :: (o1))))))) (by simp) ?_
    refine zF (ZO (Zv (.int .i64 (i : Int)) (Zv (.pointer (some ⟨b5, 0, none⟩)) (Zl 0 ⟨b5, #[.slice V4 ((zN nd1 q2).length) c4], 25⟩ (off := 0) (.slice V4 ((zN nd1 q2).length) c4) (Zv (.int .i64 ((zN nd1 q2).length : Int)) ?_)))))
    by_cases h4 : (i : Int) < ((zN nd1 q2).length : Int)
    · have hil : i < (zN nd1 q2).length := by omega
      obtain ⟨gb, hgb, hcb⟩ := Sl.at0 hN4 (by omega)
      obtain ⟨n, hn⟩ : ∃ n, (zN nd1 q2)[i] = n := ⟨_, rfl⟩
      have hask := under_asks n (hn ▸ List.getElem_mem hil)
      refine Zd (p := (i : Int) < ((zN nd1 q2).length : Int)) true (decide_eq_true (h4)) (ZY (ZB (zF (zP (ZO (Zv (.pointer (some ⟨b5, 0, none⟩)) (Zl 0 ⟨b5, #[.slice V4 ((zN nd1 q2).length) c4], 25⟩ (off := 0) (.slice V4 ((zN nd1 q2).length) c4) ?_)))))))
      refine Zv (.int .i64 (i : Int)) (zM (.pointer (some ⟨gb, 0 + i * 5, none⟩)) (by kernel_rfl) (xY (b := gb) (off := 0) (c := c4) (n := (zN nd1 q2).length) (k := .i64) (j := (i : Int)) (e := 48) (sz := 5) rfl (by kernel_rfl) hgb (by kernel_rfl) (by kernel_rfl) (by kernel_rfl) (by omega) (by omega) (by omega)) (Zo (ndV n) (a := ⟨gb, 0 + i * 5, none⟩) (fun w hO => Reads.load yX (Sl.reads hN4 rfl hO (fun x hx => by simp [hx])) hgb i 0 hil (by omega) _ (by rw [hn]; kernel_rfl)) (Za (.agg #[.int .i64 0, .int .i64 0, .int .i64 0, .int .i64 0, .string ⟨#[]⟩]) (fun b6 => Zs 0 ⟨b6, #[.int .i64 0, .int .i64 0, .int .i64 0, .int .i64 0, .string ⟨#[]⟩], 48⟩ (off := 0) (ndV n) (ZR (Zv (.pointer (some ⟨b6, 0, none⟩)) (Zl 0 ⟨b6, (ndV n).cells, 48⟩ (off := 0) (.int .i64 n.op) ?_)))))))
      by_cases h5 : (n.op : Int) = 1
      · obtain ⟨ky, hky, hky3, hqe⟩ := hask h5
        refine Zd (p := (n.op : Int) = 1) true (decide_eq_true (h5)) (Zv (.bool true) (Zv (.pointer (some ⟨b6, 3, none⟩)) (Zl 0 ⟨b6, (ndV n).cells, 48⟩ (off := 3) (.int .i64 n.key) (Zd (p := (n.key : Int) < 0) false (decide_eq_false (by omega)) (Zv (.bool false) (Zv (.pointer (some ⟨b6, 3, none⟩)) (Zl 0 ⟨b6, (ndV n).cells, 48⟩ (off := 3) (.int .i64 n.key) (Zd (p := (3 : Int) ≤ n.key) false (decide_eq_false (by omega)) (Zv (.bool false) (Zv (.bool false) (Zv (.pointer (some ⟨b6, 3, none⟩)) ?_)))))))))))
        refine Zl 0 ⟨b6, (ndV n).cells, 48⟩ (off := 3) (.int .i64 n.key) (Zv (.pointer (some ⟨b2, 0, none⟩)) (zM (.pointer (some ⟨b2, ky, none⟩)) (by kernel_rfl) (xK (b := b2) (off := 0) (k := .i64) (j := n.key) (n := 3) (e := 9) (sz := 1) rfl (by kernel_rfl) (by kernel_rfl) (by kernel_rfl) (by kernel_rfl) (by omega) (by omega) (by omega)) (zX ⟨b2, (pfV q2).cells, 33⟩ (off := ky) (.string (mkS (q2 ky))) (by kernel_rfl) rfl (by simp) (by kernel_rfl) (wW (q2) ky hky3) (zM (.bool false) (by kernel_rfl) (xJ (a := (q2 ky)) (b := ([])) rfl (by kernel_rfl) (by kernel_rfl) (decide_eq_true (hqe))) (Zv (.bool false) (Zv (.bool false) (ZX (x6 (zJ ?_)))))))))
        exact z8 (z7 (Zv (.int .i64 (i : Int)) (Zu (k := .i64) (((i + 1 : Nat) : Int)) (IntWalk.i64_in _ (by omega)) (Zv (.int .i64 ((i + 1 : Nat) : Int)) (zK (xF (L' := (⟨b5, #[.slice V4 ((zN nd1 q2).length) c4], 25⟩ :: (o4 ++ (⟨b4, #[.string (mkS (y8 q2 q3 0)), .string (mkS (y8 q2 q3 1)), .string (mkS (y8 q2 q3 2))], 33⟩ :: (⟨b3, #[.string (mkS (kN q2 q3 0)), .string (mkS (kN q2 q3 1)), .string (mkS (kN q2 q3 2))], 33⟩ :: (⟨b2, (pfV q2).cells, 33⟩ :: (⟨b1, #[.slice V1 nd1.length c1], 25⟩ :: (o1))))))) ++ ([] : List Blk)) (fun w hO => hO.sublist (by simp)) (zS (m' := (zN nd1 q2).length - (i + 1)) (by omega) ⟨i + 1, _, by omega, rfl, ZU, rfl⟩)))))))
      refine Zd (p := (n.op : Int) = 1) false (decide_eq_false (h5)) (Zv (.bool false) (Zk (Zk (Zk (Zk (Zk (Zk (Zk (Zk (Zk (Zk ?_)))))))))))
      refine Zk (Zk (Zk (Zk (Zk (Zk (Zv (.bool false) (ZX (x6 (zJ ?_)))))))))
      exact z8 (z7 (Zv (.int .i64 (i : Int)) (Zu (k := .i64) (((i + 1 : Nat) : Int)) (IntWalk.i64_in _ (by omega)) (Zv (.int .i64 ((i + 1 : Nat) : Int)) (zK (xF (L' := (⟨b5, #[.slice V4 ((zN nd1 q2).length) c4], 25⟩ :: (o4 ++ (⟨b4, #[.string (mkS (y8 q2 q3 0)), .string (mkS (y8 q2 q3 1)), .string (mkS (y8 q2 q3 2))], 33⟩ :: (⟨b3, #[.string (mkS (kN q2 q3 0)), .string (mkS (kN q2 q3 1)), .string (mkS (kN q2 q3 2))], 33⟩ :: (⟨b2, (pfV q2).cells, 33⟩ :: (⟨b1, #[.slice V1 nd1.length c1], 25⟩ :: (o1))))))) ++ ([] : List Blk)) (fun w hO => hO.sublist (by simp)) (zS (m' := (zN nd1 q2).length - (i + 1)) (by omega) ⟨i + 1, _, by omega, rfl, ZU, rfl⟩)))))))
    refine Zd (p := (i : Int) < ((zN nd1 q2).length : Int)) false (decide_eq_false (h4)) (ZX (xN (yG (zY (zZ (z8 (zF (zF (z7 ?_)))))))))
    refine Zv (.int .i64 (zL nd1 q2)) ?_
    by_cases h6 : (zL nd1 q2 : Int) = 1
    · refine dE (p := (zL nd1 q2 : Int) = 1) true (by kernel_rfl) (fun _ => by kernel_rfl) (decide_eq_true (h6)) ?_
      refine ZX (ZB (zF (xU (by kernel_rfl) (by kernel_rfl) (Zq (k := 10) (args := #[]) (.bool true) (fun w hO => yN w (hK.on hO.below)) (Zw (.bool true) (Zm 0 ⟨b5, #[.slice V4 ((zN nd1 q2).length) c4], 25⟩ (off := 0) (.agg #[.slice V4 ((zN nd1 q2).length) c4]) (Zq (k := 19) (args := #[.agg #[.slice V4 ((zN nd1 q2).length) c4]]) (.bool true) (fun w hO => hZ (under_may h6) (gC V4 c4 (zN nd1 q2) w (Sl.reads hN4 rfl hO (fun x hx => by simp [hx])) (g7 (l := nd1) (e := q2) hG1.few) (wG (l := nd1) (e := q2) hG1.short) (hK.on hO.below))) (Zw (.bool true) ?_))))))))
      refine Zw (.bool true) (Zm 0 ⟨b5, #[.slice V4 ((zN nd1 q2).length) c4], 25⟩ (off := 0) (.agg #[.slice V4 ((zN nd1 q2).length) c4]) (gX ⟨b3, #[.string (mkS (kN q2 q3 0)), .string (mkS (kN q2 q3 1)), .string (mkS (kN q2 q3 2))], 33⟩ (off := 0) (.agg #[.string (mkS (kN q2 q3 0)), .string (mkS (kN q2 q3 1)), .string (mkS (kN q2 q3 2))]) (by kernel_rfl) rfl (by simp) (by kernel_rfl) (by kernel_rfl) (Zq (k := 24) (args := #[.agg #[.slice V4 ((zN nd1 q2).length) c4], .agg #[.string (mkS (kN q2 q3 0)), .string (mkS (kN q2 q3 1)), .string (mkS (kN q2 q3 2))]]) (.int .i64 (zL (zN nd1 q2) (kN q2 q3))) (fun w hO => x2 V4 c4 (zN nd1 q2) (kN q2 q3) w (Sl.reads hN4 rfl hO (fun x hx => by simp [hx])) (g7 (l := nd1) (e := q2) hG1.few) (wG (l := nd1) (e := q2) hG1.short) hQ3.off.short (hK.on hO.below)) (gX ⟨b1, #[.slice V1 nd1.length c1], 25⟩ (off := 0) (.agg #[.slice V1 nd1.length c1]) (by kernel_rfl) rfl (by simp) (by kernel_rfl) (by kernel_rfl) (gX ⟨b4, #[.string (mkS (y8 q2 q3 0)), .string (mkS (y8 q2 q3 1)), .string (mkS (y8 q2 q3 2))], 33⟩ (off := 0) (.agg #[.string (mkS (y8 q2 q3 0)), .string (mkS (y8 q2 q3 1)), .string (mkS (y8 q2 q3 2))]) (by kernel_rfl) rfl (by simp) (by kernel_rfl) (by kernel_rfl) (Zq (k := 24) (args := #[.agg #[.slice V1 nd1.length c1], .agg #[.string (mkS (y8 q2 q3 0)), .string (mkS (y8 q2 q3 1)), .string (mkS (y8 q2 q3 2))]]) (.int .i64 (zL nd1 (y8 q2 q3))) (fun w hO => x2 V1 c1 nd1 (y8 q2 q3) w (Sl.reads hN1 rfl hO (fun x hx => by simp [hx])) hG1.few hG1.short (hQ2.all hQ3).short (hK.on hO.below)) (Ze (p := (zL (zN nd1 q2) (kN q2 q3) : Int) = zL nd1 (y8 q2 q3)) true (decide_eq_true (under_off h6 (hQ2.all hQ3).ok hQ3.off.ok)) (Zw (.bool true) (Zw (.bool true) (yU (z8 ?_)))))))))))
      exact zG (ZF (.bool true) Tryd.results7 (fun w hO => ⟨rfl, hO.below⟩))
    refine Zn (p := (zL nd1 q2 : Int) = 1) false (decide_eq_false (h6)) (ZY (ZO (Zc (k := 10) (args := #[]) (.bool true) (fun w hO => yN w (hK.on hO.below)) (Zv (.bool true) (zX ⟨b1, #[.slice V1 nd1.length c1], 25⟩ (off := 0) (.agg #[.slice V1 nd1.length c1]) (by kernel_rfl) rfl (by simp) (by kernel_rfl) (by kernel_rfl) (zX ⟨b4, #[.string (mkS (y8 q2 q3 0)), .string (mkS (y8 q2 q3 1)), .string (mkS (y8 q2 q3 2))], 33⟩ (off := 0) (.agg #[.string (mkS (y8 q2 q3 0)), .string (mkS (y8 q2 q3 1)), .string (mkS (y8 q2 q3 2))]) (by kernel_rfl) rfl (by simp) (by kernel_rfl) (by kernel_rfl) (Zc (k := 24) (args := #[.agg #[.slice V1 nd1.length c1], .agg #[.string (mkS (y8 q2 q3 0)), .string (mkS (y8 q2 q3 1)), .string (mkS (y8 q2 q3 2))]]) (.int .i64 (zL nd1 (y8 q2 q3))) (fun w hO => x2 V1 c1 nd1 (y8 q2 q3) w (Sl.reads hN1 rfl hO (fun x hx => by simp [hx])) hG1.few hG1.short (hQ2.all hQ3).short (hK.on hO.below)) (Zv (.int .i64 (zL nd1 q2)) ?_))))))))
    refine Zd (p := (zL nd1 (y8 q2 q3) : Int) = zL nd1 q2) true (decide_eq_true (nD hQ2.ok (hQ2.all hQ3).ok (bR q2 q3) h6)) (Zv (.bool true) (Zv (.bool true) (Zv (.pointer (some ⟨b5, 0, none⟩)) (Zl 0 ⟨b5, #[.slice V4 ((zN nd1 q2).length) c4], 25⟩ (off := 0) (.slice V4 ((zN nd1 q2).length) c4) (Zv (.int .i64 ((zN nd1 q2).length : Int)) (Zd (p := ((zN nd1 q2).length : Int) = 0) true (decide_eq_true (by rw [gR h6]; rfl)) (Zv (.bool true) (Zv (.bool true) (ZN (zG ?_))))))))))
    exact z5 (ZF (.bool true) Tryd.results7 (fun w hO => ⟨rfl, hO.below⟩))
  | false =>
    refine Zv (.bool true) (ZY (ZO (Zc (k := 10) (args := #[]) (.bool true) (fun w hO => yN w (hK.on hO.below)) (Zv (.bool true) (ZN (zG (z5 ?_)))))))
    exact ZF (.bool true) Tryd.results7 (fun w hO => ⟨rfl, hO.below⟩)
theorem markTwice.law (v : Value) (l : List Int) (W : World) (hv : ReadsI W W.heap.size v l) (hl : l.length ≤ 9223372036854775807) (hK : MkLib W) : Calls Tryd.prog 9 #[v] W fun e w' => e = .returned (.bool true) ∧ Below W.heap.size W w' := by
  refine zU (n := 84) Tryd.func9 rfl (by kernel_rfl) (by kernel_rfl) (ZO (Zv (.bool false) (ZR (Zv (v) (zO (k := 18) (args := #[v, .int .i64 0]) (fun v' L' => ∃ nd sv ob', v' = .agg #[sv] ∧ L' = ob' ++ (([] : List Blk)) ∧ SlN sv nd ob' ∧ MkG nd) (by kernel_rfl) (fun _ => by kernel_rfl) (fun w hO => (jV v l 0 w ((hv.below hO.below).more hO.below.size) hl (by decide)).mono fun e w' ⟨nd, v', ob', k1, k2, k3, k4⟩ => ⟨_, _, k1, ⟨nd, v', ob', rfl, rfl, k2, k3⟩, Own.joinN hO k4⟩) (fun vt1 L1 hv1 => ?_))))))
  obtain ⟨nd1, sv1, o1, rfl, rfl, hN1, hG1⟩ := hv1
  obtain ⟨V1, c1, rfl⟩ := Sl.form hN1
  refine zH (L' := o1) (List.append_nil _) (Zv (v) (zO (k := 21) (args := #[v, .int .i64 15]) (fun v' L' => ∃ q : Pf, v' = pfV q ∧ L' = o1 ∧ PfG q) (by kernel_rfl) (fun _ => by kernel_rfl) (fun w hO => (bO v l 15 w ((hv.below hO.below).more hO.below.size) hl (by decide)).mono fun e w' ⟨q, k1, k2, k3⟩ => ⟨_, _, k1, ⟨q, rfl, rfl, k2⟩, hO.on k3⟩) (fun vt2 L2 hv2 => ?_)))
  obtain ⟨q2, rfl, hLe2, hQ2⟩ := hv2
  refine zH hLe2 (Zv (v) (zO (k := 21) (args := #[v, .int .i64 18]) (fun v' L' => ∃ q : Pf, v' = pfV q ∧ L' = o1 ∧ PfG q) (by kernel_rfl) (fun _ => by kernel_rfl) (fun w hO => (bO v l 18 w ((hv.below hO.below).more hO.below.size) hl (by decide)).mono fun e w' ⟨q, k1, k2, k3⟩ => ⟨_, _, k1, ⟨q, rfl, rfl, k2⟩, hO.on k3⟩) (fun vt3 L3 hv3 => ?_)))
  obtain ⟨q3, rfl, hLe3, hQ3⟩ := hv3
  refine zH hLe3 (Za (.agg #[.slice none 0 0]) (fun b1 => Za (.agg #[.string ⟨#[]⟩, .string ⟨#[]⟩, .string ⟨#[]⟩]) (fun b2 => Za (.agg #[.string ⟨#[]⟩, .string ⟨#[]⟩, .string ⟨#[]⟩]) (fun b3 => Zs 2 ⟨b1, #[.slice none 0 0], 25⟩ (off := 0) (.agg #[.slice V1 nd1.length c1]) (Zs 1 ⟨b2, #[.string ⟨#[]⟩, .string ⟨#[]⟩, .string ⟨#[]⟩], 33⟩ (off := 0) (pfV q2) (Zs 0 ⟨b3, #[.string ⟨#[]⟩, .string ⟨#[]⟩, .string ⟨#[]⟩], 33⟩ (off := 0) (pfV q3) (ZN (zF (zF (z7 ?_))))))))))
  refine Zl 2 ⟨b1, #[.slice V1 nd1.length c1], 25⟩ (off := 0) (.agg #[.slice V1 nd1.length c1]) (Zc (k := 19) (args := #[.agg #[.slice V1 nd1.length c1]]) (.bool (kB nd1)) (fun w hO => gC V1 c1 nd1 w (Sl.reads hN1 rfl hO (fun x hx => by simp [hx])) hG1.few hG1.short (hK.on hO.below)) ?_)
  cases h1 : kB nd1 with
  | true =>
    have hnl := hG1.few
    refine Zv (.bool false) (ZX (ZB (ZO (Zl 1 ⟨b2, (pfV q2).cells, 33⟩ (off := 0) (pfV q2) (Za (.agg #[.string ⟨#[]⟩, .string ⟨#[]⟩, .string ⟨#[]⟩]) (fun b4 => Zs 0 ⟨b4, #[.string ⟨#[]⟩, .string ⟨#[]⟩, .string ⟨#[]⟩], 33⟩ (off := 0) (pfV q2) (zK ?_)))))))
    refine z8 (zF (ZO (Zv (.int .i64 0) (ZN (zP (yB (L' := ⟨b4, #[.string (mkS (qA q2 q3 0 0)), .string (mkS (qA q2 q3 0 1)), .string (mkS (qA q2 q3 0 2))], 33⟩ :: (⟨b3, (pfV q3).cells, 33⟩ :: (⟨b2, (pfV q2).cells, 33⟩ :: (⟨b1, #[.slice V1 nd1.length c1], 25⟩ :: (o1))))) (by rfl) (xT (fun L f m => ∃ (k : Nat) (j : Nat → Value), (k ≤ 3) ∧ L = ⟨b4, #[.string (mkS (qA q2 q3 k 0)), .string (mkS (qA q2 q3 k 1)), .string (mkS (qA q2 q3 k 2))], 33⟩ :: (⟨b3, (pfV q3).cells, 33⟩ :: (⟨b2, (pfV q2).cells, 33⟩ :: (⟨b1, #[.slice V1 nd1.length c1], 25⟩ :: (o1)))) ∧ f = qT j [(0, v), (3, .pointer (some ⟨b1, 0, none⟩)), (4, .pointer (some ⟨b2, 0, none⟩)), (5, .pointer (some ⟨b3, 0, none⟩)), (6, .pointer (some ⟨b4, 0, none⟩)), (7, .int .i64 (k : Int))] ∧ m = 3 - k) (3 - 0) ⟨0, _, by omega, rfl, ZU, rfl⟩ ?_)))))))
    rintro L f m ⟨k, j, hrel, rfl, rfl, rfl⟩
    have hk6 := hrel
    refine zF (ZO (Zv (.int .i64 (k : Int)) ?_))
    by_cases h2 : (k : Int) < 3
    · have hk3 : k < 3 := by omega
      refine Zd (p := (k : Int) < 3) true (decide_eq_true (h2)) (ZY (ZB (zF (zP (ZO (Zv (.int .i64 (k : Int)) (Zv (.pointer (some ⟨b4, 0, none⟩)) ?_)))))))
      refine zM (.pointer (some ⟨b4, k, none⟩)) (by kernel_rfl) (xK (b := b4) (off := 0) (k := .i64) (j := (k : Int)) (n := 3) (e := 9) (sz := 1) rfl (by kernel_rfl) (by kernel_rfl) (by kernel_rfl) (by kernel_rfl) (by omega) (by omega) (by omega)) (qH 0 ⟨b4, #[.string (mkS (qA q2 q3 k 0)), .string (mkS (qA q2 q3 k 1)), .string (mkS (qA q2 q3 k 2))], 33⟩ (off := k) (.string (mkS (qA q2 q3 k k))) (by kernel_rfl) rfl (by kernel_rfl) (by kernel_rfl) (wW (qA q2 q3 k) k hk3) ?_)
      by_cases h3 : ((qA q2 q3 k k) : List UInt8) = []
      · have hem := h3
        rw [t8] at hem
        refine zM (.bool true) (by kernel_rfl) (zV (a := (qA q2 q3 k k)) (b := ([])) rfl (by kernel_rfl) (by kernel_rfl) (decide_eq_true (h3))) (ZY (z7 (Zv (.int .i64 (k : Int)) (Zv (.int .i64 (k : Int)) (Zv (.pointer (some ⟨b3, 0, none⟩)) (zM (.pointer (some ⟨b3, k, none⟩)) (by kernel_rfl) (xK (b := b3) (off := 0) (k := .i64) (j := (k : Int)) (n := 3) (e := 9) (sz := 1) rfl (by kernel_rfl) (by kernel_rfl) (by kernel_rfl) (by kernel_rfl) (by omega) (by omega) (by omega)) (qH 1 ⟨b3, (pfV q3).cells, 33⟩ (off := k) (.string (mkS (q3 k))) (by kernel_rfl) rfl (by kernel_rfl) (by kernel_rfl) (wW (q3) k hk3) (Zv (.pointer (some ⟨b4, 0, none⟩)) (zM (.pointer (some ⟨b4, k, none⟩)) (by kernel_rfl) (xK (b := b4) (off := 0) (k := .i64) (j := (k : Int)) (n := 3) (e := 9) (sz := 1) rfl (by kernel_rfl) (by kernel_rfl) (by kernel_rfl) (by kernel_rfl) (by omega) (by omega) (by omega)) ?_)))))))))
        exact kV 0 ⟨b4, #[.string (mkS (qA q2 q3 k 0)), .string (mkS (qA q2 q3 k 1)), .string (mkS (qA q2 q3 k 2))], 33⟩ (off := k) (.string (mkS (q3 k))) 1 (by kernel_rfl) rfl rfl (by kernel_rfl) (by kernel_rfl) (by kernel_rfl) (by kernel_rfl) (by kernel_rfl) (by show k + 1 ≤ 3; omega) (by kernel_rfl) (zH (L' := ⟨b4, #[.string (mkS (qA q2 q3 (k + 1) 0)), .string (mkS (qA q2 q3 (k + 1) 1)), .string (mkS (qA q2 q3 (k + 1) 2))], 33⟩ :: (⟨b3, (pfV q3).cells, 33⟩ :: (⟨b2, (pfV q2).cells, 33⟩ :: (⟨b1, #[.slice V1 nd1.length c1], 25⟩ :: (o1))))) (by rw [show (⟨b4, #[.string (mkS (qA q2 q3 (k + 1) 0)), .string (mkS (qA q2 q3 (k + 1) 1)), .string (mkS (qA q2 q3 (k + 1) 2))], 33⟩ : Blk) = ⟨b4, xX _ _ _, _⟩ from congrArg (fun z => (⟨b4, z, 33⟩ : Blk)) (by rw [← add_step hem]; exact (wZ (qA q2 q3 k) _ k hk3).symm)]; rfl) (zK (zJ (z8 (z7 (Zv (.int .i64 (k : Int)) (Zu (k := .i64) (((k + 1 : Nat) : Int)) (IntWalk.i64_in _ (by omega)) (Zv (.int .i64 ((k + 1 : Nat) : Int)) (zK (zS (m' := 3 - (k + 1)) (by omega) ⟨k + 1, _, by omega, rfl, ZU, rfl⟩))))))))))
      have hne := h3
      rw [t8] at hne
      refine zM (.bool false) (by kernel_rfl) (zV (a := (qA q2 q3 k k)) (b := ([])) rfl (by kernel_rfl) (by kernel_rfl) (decide_eq_false (h3))) (ZX (x6 (zJ (z8 (z7 (Zv (.int .i64 (k : Int)) (Zu (k := .i64) (((k + 1 : Nat) : Int)) (IntWalk.i64_in _ (by omega)) (Zv (.int .i64 ((k + 1 : Nat) : Int)) (zK ?_)))))))))
      rw [add_same (fun e9 => h3 (by rw [t8]; exact e9))]
      exact zS (m' := 3 - (k + 1)) (by omega) ⟨k + 1, _, by omega, rfl, ZU, rfl⟩
    have hk3 : k = 3 := by omega
    refine Zd (p := (k : Int) < 3) false (decide_eq_false (h2)) (ZX (xN (yG (zY (zZ (z8 (zF (yB (L' := ⟨b4, #[.string (mkS (y8 q2 q3 0)), .string (mkS (y8 q2 q3 1)), .string (mkS (y8 q2 q3 2))], 33⟩ :: (⟨b3, (pfV q3).cells, 33⟩ :: (⟨b2, (pfV q2).cells, 33⟩ :: (⟨b1, #[.slice V1 nd1.length c1], 25⟩ :: (o1))))) (by rw [hk3, show (⟨b4, #[.string (mkS (qA q2 q3 3 0)), .string (mkS (qA q2 q3 3 1)), .string (mkS (qA q2 q3 3 2))], 33⟩ : Blk) = ⟨b4, #[.string (mkS (y8 q2 q3 0)), .string (mkS (y8 q2 q3 1)), .string (mkS (y8 q2 q3 2))], 33⟩ from by rw [hN 0 (by decide), hN 1 (by decide), hN 2 (by decide)]]) (z7 ?_)))))))))
    refine Zl 3 ⟨b1, #[.slice V1 nd1.length c1], 25⟩ (off := 0) (.agg #[.slice V1 nd1.length c1]) (Zl 2 ⟨b2, (pfV q2).cells, 33⟩ (off := 0) (pfV q2) (zO (k := 16) (args := #[.agg #[.slice V1 nd1.length c1], pfV q2]) (fun v' L' => ∃ sv ob', v' = .tuple #[.agg #[sv], .int .i64 (zL nd1 q2)] ∧ L' = ob' ++ (⟨b4, #[.string (mkS (y8 q2 q3 0)), .string (mkS (y8 q2 q3 1)), .string (mkS (y8 q2 q3 2))], 33⟩ :: (⟨b3, (pfV q3).cells, 33⟩ :: (⟨b2, (pfV q2).cells, 33⟩ :: (⟨b1, #[.slice V1 nd1.length c1], 25⟩ :: (o1))))) ∧ SlN sv (zN nd1 q2) ob') (by kernel_rfl) (fun _ => by kernel_rfl) (fun w hO => (qY V1 c1 nd1 q2 w (Sl.reads hN1 rfl hO (fun x hx => by simp [hx])) hG1.few hG1.short hQ2.short (hK.on hO.below)).mono fun e w' ⟨v', ob', k1, k2, k3⟩ => ⟨_, _, k1, ⟨v', ob', rfl, rfl, k2⟩, Own.joinN hO k3⟩) (fun vt4 L4 hv4 => ?_)))
    obtain ⟨sv4, o4, rfl, rfl, hN4⟩ := hv4
    obtain ⟨V4, c4, rfl⟩ := Sl.form hN4
    refine Zv (.tuple #[.agg #[.slice V4 ((zN nd1 q2).length) c4], .int .i64 (zL nd1 q2)]) (Zv (.agg #[.slice V4 ((zN nd1 q2).length) c4]) (Zv (.int .i64 (zL nd1 q2)) (Za (.agg #[.slice none 0 0]) (fun b5 => Zs 0 ⟨b5, #[.slice none 0 0], 25⟩ (off := 0) (.agg #[.slice V4 ((zN nd1 q2).length) c4]) (Zv (.int .i64 (zL nd1 q2)) (ZR (zX ⟨b1, #[.slice V1 nd1.length c1], 25⟩ (off := 0) (.agg #[.slice V1 nd1.length c1]) (by kernel_rfl) rfl (by simp) (by kernel_rfl) (by kernel_rfl) (zX ⟨b4, #[.string (mkS (y8 q2 q3 0)), .string (mkS (y8 q2 q3 1)), .string (mkS (y8 q2 q3 2))], 33⟩ (off := 0) (.agg #[.string (mkS (y8 q2 q3 0)), .string (mkS (y8 q2 q3 1)), .string (mkS (y8 q2 q3 2))]) (by kernel_rfl) rfl (by simp) (by kernel_rfl) (by kernel_rfl) ?_))))))))
    refine zO (k := 16) (args := #[.agg #[.slice V1 nd1.length c1], .agg #[.string (mkS (y8 q2 q3 0)), .string (mkS (y8 q2 q3 1)), .string (mkS (y8 q2 q3 2))]]) (fun v' L' => ∃ sv ob', v' = .tuple #[.agg #[sv], .int .i64 (zL nd1 (y8 q2 q3))] ∧ L' = ob' ++ (⟨b5, #[.slice V4 ((zN nd1 q2).length) c4], 25⟩ :: (o4 ++ (⟨b4, #[.string (mkS (y8 q2 q3 0)), .string (mkS (y8 q2 q3 1)), .string (mkS (y8 q2 q3 2))], 33⟩ :: (⟨b3, (pfV q3).cells, 33⟩ :: (⟨b2, (pfV q2).cells, 33⟩ :: (⟨b1, #[.slice V1 nd1.length c1], 25⟩ :: (o1))))))) ∧ SlN sv (zN nd1 (y8 q2 q3)) ob') (by kernel_rfl) (fun _ => by kernel_rfl) (fun w hO => (qY V1 c1 nd1 (y8 q2 q3) w (Sl.reads hN1 rfl hO (fun x hx => by simp [hx])) hG1.few hG1.short (hQ2.all hQ3).short (hK.on hO.below)).mono fun e w' ⟨v', ob', k1, k2, k3⟩ => ⟨_, _, k1, ⟨v', ob', rfl, rfl, k2⟩, Own.joinN hO k3⟩) (fun vt5 L5 hv5 => ?_)
    obtain ⟨sv5, o5, rfl, rfl, hN5⟩ := hv5
    obtain ⟨V5, c5, rfl⟩ := Sl.form hN5
    refine Zv (.tuple #[.agg #[.slice V5 ((zN nd1 (y8 q2 q3)).length) c5], .int .i64 (zL nd1 (y8 q2 q3))]) (Zv (.agg #[.slice V5 ((zN nd1 (y8 q2 q3)).length) c5]) (Zv (.int .i64 (zL nd1 (y8 q2 q3))) (Za (.agg #[.slice none 0 0]) (fun b6 => Zs 0 ⟨b6, #[.slice none 0 0], 25⟩ (off := 0) (.agg #[.slice V5 ((zN nd1 (y8 q2 q3)).length) c5]) (Zv (.int .i64 (zL nd1 (y8 q2 q3))) (ZN (zF (ZO (Zv (.int .i64 (zL nd1 q2)) ?_)))))))))
    by_cases h4 : (zL nd1 q2 : Int) = 1
    · refine dE (p := (zL nd1 q2 : Int) = 1) true (by kernel_rfl) (fun _ => by kernel_rfl) (decide_eq_true (h4)) ?_
      refine ZX (ZB (ZO (zX ⟨b5, #[.slice V4 ((zN nd1 q2).length) c4], 25⟩ (off := 0) (.agg #[.slice V4 ((zN nd1 q2).length) c4]) (by kernel_rfl) rfl (by simp) (by kernel_rfl) (by kernel_rfl) (zX ⟨b4, #[.string (mkS (y8 q2 q3 0)), .string (mkS (y8 q2 q3 1)), .string (mkS (y8 q2 q3 2))], 33⟩ (off := 0) (.agg #[.string (mkS (y8 q2 q3 0)), .string (mkS (y8 q2 q3 1)), .string (mkS (y8 q2 q3 2))]) (by kernel_rfl) rfl (by simp) (by kernel_rfl) (by kernel_rfl) (zO (k := 16) (args := #[.agg #[.slice V4 ((zN nd1 q2).length) c4], .agg #[.string (mkS (y8 q2 q3 0)), .string (mkS (y8 q2 q3 1)), .string (mkS (y8 q2 q3 2))]]) (fun v' L' => ∃ sv ob', v' = .tuple #[.agg #[sv], .int .i64 (zL (zN nd1 q2) (y8 q2 q3))] ∧ L' = ob' ++ (⟨b6, #[.slice V5 ((zN nd1 (y8 q2 q3)).length) c5], 25⟩ :: (o5 ++ (⟨b5, #[.slice V4 ((zN nd1 q2).length) c4], 25⟩ :: (o4 ++ (⟨b4, #[.string (mkS (y8 q2 q3 0)), .string (mkS (y8 q2 q3 1)), .string (mkS (y8 q2 q3 2))], 33⟩ :: (⟨b3, (pfV q3).cells, 33⟩ :: (⟨b2, (pfV q2).cells, 33⟩ :: (⟨b1, #[.slice V1 nd1.length c1], 25⟩ :: (o1))))))))) ∧ SlN sv (zN (zN nd1 q2) (y8 q2 q3)) ob') (by kernel_rfl) (fun _ => by kernel_rfl) (fun w hO => (qY V4 c4 (zN nd1 q2) (y8 q2 q3) w (Sl.reads hN4 rfl hO (fun x hx => by simp [hx])) (g7 (l := nd1) (e := q2) hG1.few) (wG (l := nd1) (e := q2) hG1.short) (hQ2.all hQ3).short (hK.on hO.below)).mono fun e w' ⟨v', ob', k1, k2, k3⟩ => ⟨_, _, k1, ⟨v', ob', rfl, rfl, k2⟩, Own.joinN hO k3⟩) (fun vt6 L6 hv6 => ?_))))))
      obtain ⟨sv6, o6, rfl, rfl, hN6⟩ := hv6
      obtain ⟨V6, c6, rfl⟩ := Sl.form hN6
      refine Zv (.tuple #[.agg #[.slice V6 ((zN (zN nd1 q2) (y8 q2 q3)).length) c6], .int .i64 (zL (zN nd1 q2) (y8 q2 q3))]) (Zv (.agg #[.slice V6 ((zN (zN nd1 q2) (y8 q2 q3)).length) c6]) (Zv (.int .i64 (zL (zN nd1 q2) (y8 q2 q3))) (Za (.agg #[.slice none 0 0]) (fun b7 => Zs 0 ⟨b7, #[.slice none 0 0], 25⟩ (off := 0) (.agg #[.slice V6 ((zN (zN nd1 q2) (y8 q2 q3)).length) c6]) (Zv (.int .i64 (zL (zN nd1 q2) (y8 q2 q3))) (ZR (Zc (k := 10) (args := #[]) (.bool true) (fun w hO => yN w (hK.on hO.below)) (Zv (.bool true) ?_))))))))
      refine Zv (.int .i64 (zL (zN nd1 q2) (y8 q2 q3))) (Zv (.int .i64 (zL nd1 (y8 q2 q3))) (Zd (p := (zL (zN nd1 q2) (y8 q2 q3) : Int) = zL nd1 (y8 q2 q3)) true (decide_eq_true (dB h4 (hQ2.all hQ3).ok (bR q2 q3))) (Zv (.bool true) (Zv (.bool true) (zX ⟨b6, #[.slice V5 ((zN nd1 (y8 q2 q3)).length) c5], 25⟩ (off := 0) (.agg #[.slice V5 ((zN nd1 (y8 q2 q3)).length) c5]) (by kernel_rfl) rfl (by simp) (by kernel_rfl) (by kernel_rfl) (Zl 0 ⟨b7, #[.slice V6 ((zN (zN nd1 q2) (y8 q2 q3)).length) c6], 25⟩ (off := 0) (.agg #[.slice V6 ((zN (zN nd1 q2) (y8 q2 q3)).length) c6]) (Zc (k := 13) (args := #[.agg #[.slice V5 ((zN nd1 (y8 q2 q3)).length) c5], .agg #[.slice V6 ((zN (zN nd1 q2) (y8 q2 q3)).length) c6]]) (.bool true) (fun w hO => hZ (decide_eq_true (tD h4 (hQ2.all hQ3).ok (bR q2 q3))) (qQ V5 V6 c5 c6 (zN nd1 (y8 q2 q3)) (zN (zN nd1 q2) (y8 q2 q3)) w (Sl.reads hN5 rfl hO (fun x hx => by simp [hx])) (Sl.reads hN6 rfl hO (fun x hx => by simp [hx])) (by have := (g7 (l := nd1) (e := (y8 q2 q3)) hG1.few); omega) (by have := (g7 (l := zN nd1 q2) (e := (y8 q2 q3)) (g7 (l := nd1) (e := q2) hG1.few)); omega))) (Zv (.bool true) (Zv (.bool true) (zK (z8 ?_)))))))))))
      exact zG (ZF (.bool true) Tryd.results9 (fun w hO => ⟨rfl, hO.below⟩))
    refine Zn (p := (zL nd1 q2 : Int) = 1) false (decide_eq_false (h4)) (ZY (ZO (Zc (k := 10) (args := #[]) (.bool true) (fun w hO => yN w (hK.on hO.below)) (Zv (.bool true) (Zv (.int .i64 (zL nd1 (y8 q2 q3))) (Zv (.int .i64 (zL nd1 q2)) (Zd (p := (zL nd1 (y8 q2 q3) : Int) = zL nd1 q2) true (decide_eq_true (nD hQ2.ok (hQ2.all hQ3).ok (bR q2 q3) h4)) (Zv (.bool true) ?_))))))))
    refine Zv (.bool true) (Zv (.pointer (some ⟨b6, 0, none⟩)) (Zl 0 ⟨b6, #[.slice V5 ((zN nd1 (y8 q2 q3)).length) c5], 25⟩ (off := 0) (.slice V5 ((zN nd1 (y8 q2 q3)).length) c5) (Zv (.int .i64 ((zN nd1 (y8 q2 q3)).length : Int)) (Zd (p := ((zN nd1 (y8 q2 q3)).length : Int) = 0) true (decide_eq_true (by rw [gR (by rw [nD hQ2.ok (hQ2.all hQ3).ok (bR q2 q3) h4]; exact h4)]; rfl)) (Zv (.bool true) (Zv (.bool true) (ZN (zG (z5 (ZF (.bool true) Tryd.results9 ?_))))))))))
    exact fun w hO => ⟨rfl, hO.below⟩
  | false =>
    refine Zv (.bool true) (ZY (ZO (Zc (k := 10) (args := #[]) (.bool true) (fun w hO => yN w (hK.on hO.below)) (Zv (.bool true) (ZN (zG (z5 ?_)))))))
    exact ZF (.bool true) Tryd.results9 (fun w hO => ⟨rfl, hO.below⟩)
end
section
theorem gM (b : UInt8) (x : List UInt8) {y : List (List UInt8)} (h : y ≠ []) : x1 b (x :: y) = x ++ b :: x1 b y := by
  cases y with
  | nil => exact absurd rfl h
  | cons c r => rfl
def brT (t : Tr) (r : List Tok) : List Tok := yP :: (t.tok ++ yC :: r)
theorem hC (t : Tr) (r : List Tok) : brT t r ≠ [] := by unfold brT; simp
theorem fI (t : Tr) {r : List Tok} (h : r ≠ []) : x1 32 (brT t r) = [40, 32] ++ t.text ++ [32, 41, 32] ++ x1 32 r := by
  unfold brT
  rw [gM 32 _ (by simp), gI 32 t.tok _ t.tok_ne (by simp), gM 32 _ h]
  simp [yP, yC, Tr.text]
theorem brT_last (t : Tr) : x1 32 (brT t []) = [40, 32] ++ t.text ++ [32, 41] := by
  unfold brT
  rw [gM 32 _ (by simp), gI 32 t.tok _ t.tok_ne (by simp)]
  simp [x1, yP, yC, Tr.text]
theorem wC {t : Tr} (h : t.ok = true) {r : List Tok} (hr : ∀ x ∈ r, (32 : UInt8) ∉ x) : ∀ x ∈ brT t r, (32 : UInt8) ∉ x := fun x hx => by
  unfold brT at hx
  rcases List.mem_cons.1 hx with rfl | hx
  · decide
  · rcases List.mem_append.1 hx with hx | hx
    · exact qD t h x hx
    · rcases List.mem_cons.1 hx with rfl | hx
      · decide
      · exact hr x hx
theorem qS {c : Tok} {r : List Tok} (hc : (32 : UInt8) ∉ c) (hr : ∀ x ∈ r, (32 : UInt8) ∉ x) : ∀ x ∈ c :: r, (32 : UInt8) ∉ x := fun x hx => by
  rcases List.mem_cons.1 hx with rfl | hx
  · exact hc
  · exact hr x hx
theorem n9 : ∀ x ∈ ([] : List Tok), (32 : UInt8) ∉ x := fun x hx => by cases hx
theorem t7 {t : Tr} (h : t.ok = true) {n : Nat} {r : List Tok} (hn : (brT t r).length ≤ n) : xO n (brT t r) = some (t, r) := fF h n r hn
theorem mB (t : Tr) (r : List Tok) : (brT t r).length = t.tok.length + r.length + 2 := by unfold brT; simp; omega
theorem and_two {a b : Tr} (ha : a.ok = true) (hb : b.ok = true) {n : Nat} {r : List Tok} (hn : (brT a (xB :: brT b r)).length ≤ n) (hr : r.head? ≠ some xB) : qK n (brT a (xB :: brT b r)) = some (.both a b, r) := by
  unfold qK x9
  rw [t7 ha hn]
  show kL (xO n) xB .both (xB :: brT b r).length a (xB :: brT b r) = _
  rw [List.length_cons, kL, if_pos rfl, t7 hb (by rw [mB, List.length_cons] at hn; omega)]
  exact kF _ _ _ _ _ _ hr
theorem or_two {a b : Tr} (ha : a.ok = true) (hb : b.ok = true) {n : Nat} {r : List Tok} (hn : (brT a (xB :: brT b r)).length ≤ n) (hr : r.head? ≠ some xB) (ho : r.head? ≠ some tOr) : pOr n (brT a (xB :: brT b r)) = some (.both a b, r) := by
  unfold pOr x9
  rw [and_two ha hb hn hr]
  exact kF _ _ _ _ _ _ ho
theorem no_fac {t : Tr} (h : t.ok = true) {n : Nat} {r : List Tok} (hn : (yZ :: brT t r).length ≤ n) : xO n (yZ :: brT t r) = some (.no t, r) := by
  match n, hn with
  | 0, hn => simp at hn
  | n + 1, hn =>
    rw [vT, t7 h (by simpa using hn)]; rfl
theorem no_and {t : Tr} (h : t.ok = true) {n : Nat} {r : List Tok} (hn : (yZ :: brT t r).length ≤ n) (hr : r.head? ≠ some xB) : qK n (yZ :: brT t r) = some (.no t, r) := by
  unfold qK x9
  rw [no_fac h hn]
  exact kF _ _ _ _ _ _ hr
def dX (a b : Tr) : List Tok := yZ :: yP :: brT a (xB :: brT b [yC])
def dY (a b : Tr) : List Tok := yZ :: brT a (tOr :: yZ :: brT b [])
def dZ (a b : Tr) : List Tok := brT b (xB :: brT a [])
theorem dX_reads {a b : Tr} (ha : a.ok = true) (hb : b.ok = true) : pOr (dX a b).length (dX a b) = some (.no (.both a b), []) := by
  have hf : xO (dX a b).length (dX a b) = some (.no (.both a b), []) := by
    unfold dX
    rw [List.length_cons, List.length_cons, vT, qR, or_two ha hb (Nat.le_refl _) (by decide) (by decide)]; rfl
  unfold pOr x9 qK x9
  rw [hf]; rfl
theorem dY_reads {a b : Tr} (ha : a.ok = true) (hb : b.ok = true) : pOr (dY a b).length (dY a b) = some (.one (.no a) (.no b), []) := by
  unfold pOr x9
  have h1 : qK (dY a b).length (dY a b) = some (.no a, tOr :: yZ :: brT b []) := no_and ha (Nat.le_refl _) (by simp [tOr, xB])
  rw [h1]
  show kL (qK (dY a b).length) tOr .one (tOr :: yZ :: brT b []).length (.no a) (tOr :: yZ :: brT b []) = _
  rw [List.length_cons, kL, if_pos rfl, no_and hb (by unfold dY; rw [List.length_cons, List.length_cons, mB, mB, List.length_cons, List.length_cons, mB]; omega) (by simp)]
  rfl
theorem dZ_reads {a b : Tr} (ha : a.ok = true) (hb : b.ok = true) : pOr (dZ a b).length (dZ a b) = some (.both b a, []) := or_two hb ha (Nat.le_refl _) (by simp) (by simp)
def tX (a b : List UInt8) : List UInt8 := [110, 111, 116, 32, 40, 32] ++ ([40, 32] ++ a ++ [32, 41, 32] ++ [97, 110, 100] ++ [32, 40, 32] ++ b ++ [32, 41]) ++ [32, 41]
def tY (a b : List UInt8) : List UInt8 := [110, 111, 116, 32, 40, 32] ++ a ++ [32, 41, 32, 111, 114, 32, 110, 111, 116, 32, 40, 32] ++ b ++ [32, 41]
def tZ (a b : List UInt8) : List UInt8 := [40, 32] ++ b ++ [32, 41, 32] ++ [97, 110, 100] ++ [32, 40, 32] ++ a ++ [32, 41]
theorem tX_words {a b : Tr} (ha : a.ok = true) (hb : b.ok = true) : zT (tX a.text b.text) = dX a b := by
  have e : tX a.text b.text = x1 32 (dX a b) := by
    unfold dX tX
    rw [gM 32 _ (by simp), gM 32 _ (hC _ _), fI a (by simp), gM 32 _ (hC _ _), fI b (by simp)]
    simp [x1, yZ, yP, yC, xB]
  rw [e]
  exact gW 32 _ (by unfold dX; simp) (qS (by decide) (qS (by decide) (wC ha (qS (by decide) (wC hb (qS (by decide) n9))))))
theorem tY_words {a b : Tr} (ha : a.ok = true) (hb : b.ok = true) : zT (tY a.text b.text) = dY a b := by
  have e : tY a.text b.text = x1 32 (dY a b) := by
    unfold dY tY
    rw [gM 32 _ (hC _ _), fI a (by simp), gM 32 _ (by simp), gM 32 _ (hC _ _), brT_last b]
    simp [yZ, tOr]
  rw [e]
  exact gW 32 _ (by unfold dY; simp) (qS (by decide) (wC ha (qS (by decide) (qS (by decide) (wC hb n9)))))
theorem tZ_words {a b : Tr} (ha : a.ok = true) (hb : b.ok = true) : zT (tZ a.text b.text) = dZ a b := by
  have e : tZ a.text b.text = x1 32 (dZ a b) := by
    unfold dZ tZ
    rw [fI b (by simp), gM 32 _ (hC _ _), brT_last a]
    simp [xB]
  rw [e]
  exact gW 32 _ (by unfold dZ; exact hC _ _) (wC hb (qS (by decide) (wC ha n9)))
theorem mV {s : List UInt8} {w : List Tok} {t : Tr} (hw : zT s = w) (hp : pOr w.length w = some (t, [])) (hf : t.fit = true) (hl : s.length ≤ 96) (hn : s ≠ []) : yY s = 0 ∧ y7 s = t.enc 0 := by
  have hr : xV s = some t := by unfold xV; rw [hw, hp]; simp [hf]
  unfold yY y7
  have h96 : ¬ 96 < s.length := by omega
  simp only [if_neg h96, if_neg hn, hr]
  exact ⟨trivial, trivial⟩
theorem fit_of {t : Tr} (h1 : t.sz ≤ 15) (h2 : t.w ≤ 97) : t.fit = true := by
  unfold Tr.fit
  have := t.text_w
  simp; omega
theorem fG {a b : Tr} (h1 : a.text.length ≤ 30) (h2 : b.text.length ≤ 30) (h3 : a.sz + b.sz ≤ 12) : (Tr.no (.both a b)).fit = true ∧ (Tr.one (.no a) (.no b)).fit = true ∧ (Tr.both b a).fit = true := by
  have a0 := a.text_w
  have b0 := b.text_w
  have a1 := a.w_le
  have b1 := b.w_le
  have n1 := (w_no (.both a b)).1
  have n2 := (w_no a).1
  have n3 := (w_no b).1
  have c1 := fM a b
  have c2 := fM b a
  have c3 := tC (.no a) (.no b)
  have c4 := (Tr.both a b).w_le
  have c5 := (Tr.no b).w_le
  refine ⟨fit_of ?_ (by omega), fit_of ?_ (by omega), fit_of ?_ (by omega)⟩
  · show a.sz + b.sz + 1 + 1 ≤ 15; omega
  · show a.sz + 1 + (b.sz + 1) + 1 ≤ 15; omega
  · show b.sz + a.sz + 1 ≤ 15; omega
theorem tX_parse {a b : Tr} (ha : a.ok = true) (hb : b.ok = true) (h1 : a.text.length ≤ 30) (h2 : b.text.length ≤ 30) (h3 : a.sz + b.sz ≤ 12) : yY (tX a.text b.text) = 0 ∧ y7 (tX a.text b.text) = (Tr.no (.both a b)).enc 0 :=
  mV (tX_words ha hb) (dX_reads ha hb) (fG h1 h2 h3).1 (by unfold tX; simp; omega) (by unfold tX; simp)
theorem tY_parse {a b : Tr} (ha : a.ok = true) (hb : b.ok = true) (h1 : a.text.length ≤ 30) (h2 : b.text.length ≤ 30) (h3 : a.sz + b.sz ≤ 12) : yY (tY a.text b.text) = 0 ∧ y7 (tY a.text b.text) = (Tr.one (.no a) (.no b)).enc 0 :=
  mV (tY_words ha hb) (dY_reads ha hb) (fG h1 h2 h3).2.1 (by unfold tY; simp; omega) (by unfold tY; simp)
theorem tZ_parse {a b : Tr} (ha : a.ok = true) (hb : b.ok = true) (h1 : a.text.length ≤ 30) (h2 : b.text.length ≤ 30) (h3 : a.sz + b.sz ≤ 12) : yY (tZ a.text b.text) = 0 ∧ y7 (tZ a.text b.text) = (Tr.both b a).enc 0 :=
  mV (tZ_words ha hb) (dZ_reads ha hb) (fG h1 h2 h3).2.2 (by unfold tZ; simp; omega) (by unfold tZ; simp)
theorem fW (e : Pf) (a b : Tr) : evT e (.no (.both a b)) = evT e (.one (.no a) (.no b)) ∧ evT e (.no (.both a b)) = 2 - evT e (.both b a) ∧ evT e (.both b a) = min (evT e a) (evT e b) := by
  have h1 := xS e a
  have h2 := xS e b
  refine ⟨?_, ?_, ?_⟩
  · show 2 - min (evT e a) (evT e b) = max (2 - evT e a) (2 - evT e b); omega
  · show 2 - min (evT e a) (evT e b) = 2 - min (evT e b) (evT e a); omega
  · show min (evT e b) (evT e a) = min (evT e a) (evT e b); omega
theorem mU {l : List Nd} (h : ¬ z6 l = []) : ∃ t : Tr, t.ok = true ∧ t.fit = true ∧ l = t.enc 0 ∧ z6 l = t.text := by
  cases hm : kB l with
  | false => exact absurd (by unfold z6; rw [hm]; rfl) h
  | true =>
    rcases kG hm with rfl | ⟨t, ho, hl, hsz, htx⟩
    · exact absurd (by unfold z6; rw [dC]; simp) h
    · have hf : t.fit = true := by unfold Tr.fit; simp; omega
      exact ⟨t, ho, hf, hl, by rw [hl]; exact dJ ho hf⟩
end
section
set_option linter.unnecessarySimpa false
theorem n7 (a c b : List UInt8) (W : World) (ha : a.length ≤ 1000) (hc : c.length ≤ 1000) (hb : b.length ≤ 1000) : Calls Tryd.prog 25 #[.string (mkS a), .string (mkS c), .string (mkS b)] W fun e w' => e = .returned (.string (mkS ([40, 32] ++ a ++ [32, 41, 32] ++ c ++ [32, 40, 32] ++ b ++ [32, 41]))) ∧ Below W.heap.size W w' := by
  refine zU (n := 16) Tryd.func25 rfl (by kernel_rfl) (by kernel_rfl) (ZO (Zv (.string ⟨#[]⟩) (ZR (Zv (.string (mkS a)) (zM (.string (mkS ([40, 32] ++ a))) (by kernel_rfl) (y9 (a := [40, 32]) (b := a) rfl (by kernel_rfl) (by kernel_rfl) (by first | omega | (simp only [List.length_append, List.length_cons, List.length_nil]; omega))) (zM (.string (mkS (([40, 32] ++ a) ++ [32, 41, 32]))) (by kernel_rfl) (y9 (a := ([40, 32] ++ a)) (b := [32, 41, 32]) rfl (by kernel_rfl) (by kernel_rfl) (by first | omega | (simp only [List.length_append, List.length_cons, List.length_nil]; omega))) (Zv (.string (mkS c)) ?_)))))))
  exact zM (.string (mkS ((([40, 32] ++ a) ++ [32, 41, 32]) ++ c))) (by kernel_rfl) (y9 (a := (([40, 32] ++ a) ++ [32, 41, 32])) (b := c) rfl (by kernel_rfl) (by kernel_rfl) (by first | omega | (simp only [List.length_append, List.length_cons, List.length_nil]; omega))) (zM (.string (mkS (((([40, 32] ++ a) ++ [32, 41, 32]) ++ c) ++ [32, 40, 32]))) (by kernel_rfl) (y9 (a := ((([40, 32] ++ a) ++ [32, 41, 32]) ++ c)) (b := [32, 40, 32]) rfl (by kernel_rfl) (by kernel_rfl) (by first | omega | (simp only [List.length_append, List.length_cons, List.length_nil]; omega))) (Zv (.string (mkS b)) (zM (.string (mkS ((((([40, 32] ++ a) ++ [32, 41, 32]) ++ c) ++ [32, 40, 32]) ++ b))) (by kernel_rfl) (y9 (a := (((([40, 32] ++ a) ++ [32, 41, 32]) ++ c) ++ [32, 40, 32])) (b := b) rfl (by kernel_rfl) (by kernel_rfl) (by first | omega | (simp only [List.length_append, List.length_cons, List.length_nil]; omega))) (zM (.string (mkS (((((([40, 32] ++ a) ++ [32, 41, 32]) ++ c) ++ [32, 40, 32]) ++ b) ++ [32, 41]))) (by kernel_rfl) (y9 (a := ((((([40, 32] ++ a) ++ [32, 41, 32]) ++ c) ++ [32, 40, 32]) ++ b)) (b := [32, 41]) rfl (by kernel_rfl) (by kernel_rfl) (by first | omega | (simp only [List.length_append, List.length_cons, List.length_nil]; omega))) (Zv (.string (mkS (((((([40, 32] ++ a) ++ [32, 41, 32]) ++ c) ++ [32, 40, 32]) ++ b) ++ [32, 41]))) (ZN (zG (ZF (.string (mkS (((((([40, 32] ++ a) ++ [32, 41, 32]) ++ c) ++ [32, 40, 32]) ++ b) ++ [32, 41]))) Tryd.results25 (fun w hO => ⟨rfl, hO.below⟩)))))))))
theorem mark_dual {e : Pf} {a b : Tr} {l1 l2 p q r : List Nd} (he : vQ e = true) (ha : a.ok = true) (hb : b.ok = true) (fa : a.fit = true) (fb : b.fit = true) (fx : (Tr.no (.both a b)).fit = true) (fy : (Tr.one (.no a) (.no b)).fit = true) (fz : (Tr.both b a).fit = true) (h1 : l1 = a.enc 0) (h2 : l2 = b.enc 0) (hx : p = (Tr.no (.both a b)).enc 0) (hy : q = (Tr.one (.no a) (.no b)).enc 0) (hz : r = (Tr.both b a).enc 0) :
    zL p e = zL q e ∧ zL p e = 2 - zL r e ∧ zL r e = min (zL l1 e) (zL l2 e) ∧ 0 ≤ zL r e ∧ zL r e ≤ 2 := by
  have hab : (Tr.both a b).ok = true := bQ ha hb
  have hn : (Tr.one (.no a) (.no b)).ok = true := fT (a := .no a) (b := .no b) ha hb
  have hnx : (Tr.no (.both a b)).ok = true := hab
  rw [h1, h2, hx, hy, hz, xM hnx fx he, xM hn fy he, xM (bQ hb ha) fz he, xM ha fa he, xM hb fb he]
  exact ⟨(fW e a b).1, (fW e a b).2.1, (fW e a b).2.2, xS e _⟩
theorem markDual.law (v : Value) (l : List Int) (W : World) (hv : ReadsI W W.heap.size v l) (hl : l.length ≤ 9223372036854775807) (hK : MkLib W) : Calls Tryd.prog 8 #[v] W fun e w' => e = .returned (.bool true) ∧ Below W.heap.size W w' := by
  refine zU (n := 120) Tryd.func8 rfl (by kernel_rfl) (by kernel_rfl) (ZO (Zv (.bool false) (ZR (Zv (v) (zO (k := 18) (args := #[v, .int .i64 0]) (fun v' L' => ∃ nd sv ob', v' = .agg #[sv] ∧ L' = ob' ++ (([] : List Blk)) ∧ SlN sv nd ob' ∧ MkG nd) (by kernel_rfl) (fun _ => by kernel_rfl) (fun w hO => (jV v l 0 w ((hv.below hO.below).more hO.below.size) hl (by decide)).mono fun e w' ⟨nd, v', ob', k1, k2, k3, k4⟩ => ⟨_, _, k1, ⟨nd, v', ob', rfl, rfl, k2, k3⟩, Own.joinN hO k4⟩) (fun vt1 L1 hv1 => ?_))))))
  obtain ⟨nd1, sv1, o1, rfl, rfl, hN1, hG1⟩ := hv1
  obtain ⟨V1, c1, rfl⟩ := Sl.form hN1
  refine zH (L' := o1) (List.append_nil _) (Zv (v) (zO (k := 18) (args := #[v, .int .i64 15]) (fun v' L' => ∃ nd sv ob', v' = .agg #[sv] ∧ L' = ob' ++ (o1) ∧ SlN sv nd ob' ∧ MkG nd) (by kernel_rfl) (fun _ => by kernel_rfl) (fun w hO => (jV v l 15 w ((hv.below hO.below).more hO.below.size) hl (by decide)).mono fun e w' ⟨nd, v', ob', k1, k2, k3, k4⟩ => ⟨_, _, k1, ⟨nd, v', ob', rfl, rfl, k2, k3⟩, Own.joinN hO k4⟩) (fun vt2 L2 hv2 => ?_)))
  obtain ⟨nd2, sv2, o2, rfl, rfl, hN2, hG2⟩ := hv2
  obtain ⟨V2, c2, rfl⟩ := Sl.form hN2
  refine Zv (v) (zO (k := 21) (args := #[v, .int .i64 30]) (fun v' L' => ∃ q : Pf, v' = pfV q ∧ L' = o2 ++ (o1) ∧ PfG q) (by kernel_rfl) (fun _ => by kernel_rfl) (fun w hO => (bO v l 30 w ((hv.below hO.below).more hO.below.size) hl (by decide)).mono fun e w' ⟨q, k1, k2, k3⟩ => ⟨_, _, k1, ⟨q, rfl, rfl, k2⟩, hO.on k3⟩) (fun vt3 L3 hv3 => ?_))
  obtain ⟨q3, rfl, hLe3, hQ3⟩ := hv3
  refine zH hLe3 (Za (.agg #[.slice none 0 0]) (fun b1 => Za (.agg #[.slice none 0 0]) (fun b2 => Za (.agg #[.string ⟨#[]⟩, .string ⟨#[]⟩, .string ⟨#[]⟩]) (fun b3 => Zs 2 ⟨b1, #[.slice none 0 0], 25⟩ (off := 0) (.agg #[.slice V1 nd1.length c1]) (Zs 1 ⟨b2, #[.slice none 0 0], 25⟩ (off := 0) (.agg #[.slice V2 nd2.length c2]) (Zs 0 ⟨b3, #[.string ⟨#[]⟩, .string ⟨#[]⟩, .string ⟨#[]⟩], 33⟩ (off := 0) (pfV q3) (ZN (zF (xU (by kernel_rfl) (by kernel_rfl) (Zm 2 ⟨b1, #[.slice V1 nd1.length c1], 25⟩ (off := 0) (.agg #[.slice V1 nd1.length c1]) ?_))))))))))
  refine Zq (k := 20) (args := #[.agg #[.slice V1 nd1.length c1]]) (.string (mkS (z6 nd1))) (fun w hO => gY V1 c1 nd1 w (Sl.reads hN1 rfl hO (fun x hx => by simp [hx])) hG1.few hG1.short (hK.on hO.below)) (Zm 1 ⟨b2, #[.slice V2 nd2.length c2], 25⟩ (off := 0) (.agg #[.slice V2 nd2.length c2]) (Zq (k := 20) (args := #[.agg #[.slice V2 nd2.length c2]]) (.string (mkS (z6 nd2))) (fun w hO => gY V2 c2 nd2 w (Sl.reads hN2 rfl hO (fun x hx => by simp [hx])) hG2.few hG2.short (hK.on hO.below)) (Zw (.string (mkS (z6 nd1))) (Zw (.string (mkS (z6 nd2))) (yU (z8 (zF (ZO (Zv (.string (mkS (z6 nd1))) (Zv (.int .i64 ((mkS (z6 nd1)).size)) ?_))))))))))
  by_cases h1 : (30 : Int) < (mkS (z6 nd1)).size
  · refine x8 (p := (30 : Int) < (mkS (z6 nd1)).size) true (by kernel_rfl) (fun _ => by kernel_rfl) (decide_eq_true (h1)) ?_
    refine Zv (.bool true) (Zk (Zk (Zk (Zv (.bool true) (Zv (.bool true) (Zk (Zk (Zv (.bool true) (Zv (.bool true) (Zk (Zk ?_)))))))))))
    refine Zv (.bool true) (Zv (.bool true) (Zk (Zk (Zk (Zk (Zk (Zk (Zk (Zk (Zv (.bool true) (zK ?_)))))))))))
    exact z8 (Zt (ZO (Zc (k := 10) (args := #[]) (.bool true) (fun w hO => yN w (hK.on hO.below)) (Zv (.bool true) (ZN (zG (z5 (ZF (.bool true) Tryd.results8 (fun w hO => ⟨rfl, hO.below⟩)))))))))
  have ha30 : (z6 nd1).length ≤ 30 := by have := k0 (z6 nd1); omega
  refine Zd (p := (30 : Int) < (mkS (z6 nd1)).size) false (decide_eq_false (h1)) (Zv (.bool false) (Zv (.string (mkS (z6 nd2))) (Zv (.int .i64 ((mkS (z6 nd2)).size)) ?_)))
  by_cases h2 : (30 : Int) < (mkS (z6 nd2)).size
  · refine x8 (p := (30 : Int) < (mkS (z6 nd2)).size) true (by kernel_rfl) (fun _ => by kernel_rfl) (decide_eq_true (h2)) ?_
    refine Zv (.bool true) (Zv (.bool true) (Zk (Zk (Zv (.bool true) (Zv (.bool true) (Zk (Zk (Zv (.bool true) (Zv (.bool true) (Zk (Zk ?_)))))))))))
    refine Zk (Zk (Zk (Zk (Zk (Zk (Zv (.bool true) (ZY (zF (z7 ?_)))))))))
    exact Zc (k := 10) (args := #[]) (.bool true) (fun w hO => yN w (hK.on hO.below)) (Zv (.bool true) (ZN (zG (z5 (ZF (.bool true) Tryd.results8 (fun w hO => ⟨rfl, hO.below⟩))))))
  have hb30 : (z6 nd2).length ≤ 30 := by have := k0 (z6 nd2); omega
  refine Zd (p := (30 : Int) < (mkS (z6 nd2)).size) false (decide_eq_false (h2)) (Zv (.bool false) (Zv (.bool false) (Zv (.string (mkS (z6 nd1))) ?_)))
  by_cases h3 : ((z6 nd1) : List UInt8) = []
  · refine zM (.bool true) (by kernel_rfl) (zV (a := (z6 nd1)) (b := ([])) rfl (by kernel_rfl) (by kernel_rfl) (decide_eq_true (h3))) ?_
    refine Zv (.bool true) (Zv (.bool true) (Zk (Zk (Zv (.bool true) (Zv (.bool true) (Zk (Zk (Zk (Zk (Zk (Zk ?_)))))))))))
    refine Zk (Zk (Zv (.bool true) (ZY (ZO (Zc (k := 10) (args := #[]) (.bool true) (fun w hO => yN w (hK.on hO.below)) (Zv (.bool true) (zK (z8 ?_))))))))
    exact zG (z5 (ZF (.bool true) Tryd.results8 (fun w hO => ⟨rfl, hO.below⟩)))
  obtain ⟨ta, hoa, hfa, hna, hpa⟩ := mU h3
  refine zM (.bool false) (by kernel_rfl) (zV (a := (z6 nd1)) (b := ([])) rfl (by kernel_rfl) (by kernel_rfl) (decide_eq_false (h3))) (Zv (.bool false) (Zv (.bool false) (Zv (.string (mkS (z6 nd2))) ?_)))
  by_cases h4 : ((z6 nd2) : List UInt8) = []
  · refine zM (.bool true) (by kernel_rfl) (zV (a := (z6 nd2)) (b := ([])) rfl (by kernel_rfl) (by kernel_rfl) (decide_eq_true (h4))) ?_
    refine Zv (.bool true) (Zv (.bool true) (Zk (Zk (Zk (Zk (Zk (Zk (Zk (Zk (Zv (.bool true) (zK ?_)))))))))))
    exact z8 (Zt (ZO (Zc (k := 10) (args := #[]) (.bool true) (fun w hO => yN w (hK.on hO.below)) (Zv (.bool true) (ZN (zG (z5 (ZF (.bool true) Tryd.results8 (fun w hO => ⟨rfl, hO.below⟩)))))))))
  obtain ⟨tb, hob, hfb, hnb, hpb⟩ := mU h4
  have hG1l := hG1.few; have hG2l := hG2.few
  refine zM (.bool false) (by kernel_rfl) (zV (a := (z6 nd2)) (b := ([])) rfl (by kernel_rfl) (by kernel_rfl) (decide_eq_false (h4))) (Zv (.bool false) (Zv (.bool false) (Zv (.pointer (some ⟨b1, 0, none⟩)) (Zl 2 ⟨b1, #[.slice V1 nd1.length c1], 25⟩ (off := 0) (.slice V1 nd1.length c1) (Zv (.int .i64 (nd1.length : Int)) (Zv (.pointer (some ⟨b2, 0, none⟩)) (Zl 1 ⟨b2, #[.slice V2 nd2.length c2], 25⟩ (off := 0) (.slice V2 nd2.length c2) (Zv (.int .i64 (nd2.length : Int)) (Zu (k := .i64) (((nd1.length : Int) : Int) + (nd2.length : Int)) (IntWalk.i64_in _ (by omega)) ?_)))))))))
  by_cases h5 : (12 : Int) < ((nd1.length : Int) : Int) + (nd2.length : Int)
  · refine x8 (p := (12 : Int) < ((nd1.length : Int) : Int) + (nd2.length : Int)) true (by kernel_rfl) (fun _ => by kernel_rfl) (decide_eq_true (h5)) ?_
    refine Zv (.bool true) (ZY (ZO (Zc (k := 10) (args := #[]) (.bool true) (fun w hO => yN w (hK.on hO.below)) (Zv (.bool true) (ZN (zG (z5 ?_)))))))
    exact ZF (.bool true) Tryd.results8 (fun w hO => ⟨rfl, hO.below⟩)
  have hsz : ta.sz + tb.sz ≤ 12 := by rw [hna, hnb, Tr.enc_len, Tr.enc_len] at h5; omega
  have hla : ta.text.length ≤ 30 := by rw [← hpa]; exact ha30
  have hlb : tb.text.length ≤ 30 := by rw [← hpb]; exact hb30
  obtain ⟨fx, fy, fz⟩ := fG hla hlb hsz
  obtain ⟨px, nx⟩ := tX_parse hoa hob hla hlb hsz
  obtain ⟨py, ny⟩ := tY_parse hoa hob hla hlb hsz
  obtain ⟨pz, nz⟩ := tZ_parse hoa hob hla hlb hsz
  rw [← hpa, ← hpb] at px nx py ny pz nz
  obtain ⟨d1, d2, d3, d4⟩ := mark_dual hQ3.ok hoa hob hfa hfb fx fy fz hna hnb nx ny nz
  unfold tZ at d4
  refine Zd (p := (12 : Int) < ((nd1.length : Int) : Int) + (nd2.length : Int)) false (decide_eq_false (h5)) (Zv (.bool false) (ZX (ZB (ZO (Zv (.string (mkS (z6 nd1))) (Zv (.string (mkS (z6 nd2))) (Zc (k := 25) (args := #[.string (mkS (z6 nd1)), .string ⟨#[97, 110, 100]⟩, .string (mkS (z6 nd2))]) (.string (mkS ([40, 32] ++ (z6 nd1) ++ [32, 41, 32] ++ [97, 110, 100] ++ [32, 40, 32] ++ (z6 nd2) ++ [32, 41]))) (fun w hO => n7 (z6 nd1) [97, 110, 100] (z6 nd2) w (by first | omega | simp) (by first | omega | simp) (by first | omega | simp)) ?_)))))))
  refine zM (.string (mkS ([110, 111, 116, 32, 40, 32] ++ ([40, 32] ++ (z6 nd1) ++ [32, 41, 32] ++ [97, 110, 100] ++ [32, 40, 32] ++ (z6 nd2) ++ [32, 41])))) (by kernel_rfl) (y9 (a := [110, 111, 116, 32, 40, 32]) (b := ([40, 32] ++ (z6 nd1) ++ [32, 41, 32] ++ [97, 110, 100] ++ [32, 40, 32] ++ (z6 nd2) ++ [32, 41])) rfl (by kernel_rfl) (by kernel_rfl) (by first | omega | (simp only [List.length_append, List.length_cons, List.length_nil]; omega))) (zM (.string (mkS (([110, 111, 116, 32, 40, 32] ++ ([40, 32] ++ (z6 nd1) ++ [32, 41, 32] ++ [97, 110, 100] ++ [32, 40, 32] ++ (z6 nd2) ++ [32, 41])) ++ [32, 41]))) (by kernel_rfl) (y9 (a := ([110, 111, 116, 32, 40, 32] ++ ([40, 32] ++ (z6 nd1) ++ [32, 41, 32] ++ [97, 110, 100] ++ [32, 40, 32] ++ (z6 nd2) ++ [32, 41]))) (b := [32, 41]) rfl (by kernel_rfl) (by kernel_rfl) (by first | omega | (simp only [List.length_append, List.length_cons, List.length_nil]; omega))) (zO (k := 11) (args := #[.string (mkS (([110, 111, 116, 32, 40, 32] ++ ([40, 32] ++ (z6 nd1) ++ [32, 41, 32] ++ [97, 110, 100] ++ [32, 40, 32] ++ (z6 nd2) ++ [32, 41])) ++ [32, 41]))]) (fun v' L' => ∃ sv ob', v' = .tuple #[.agg #[sv], .int .i64 (yY (([110, 111, 116, 32, 40, 32] ++ ([40, 32] ++ (z6 nd1) ++ [32, 41, 32] ++ [97, 110, 100] ++ [32, 40, 32] ++ (z6 nd2) ++ [32, 41])) ++ [32, 41]))] ∧ L' = ob' ++ (⟨b3, (pfV q3).cells, 33⟩ :: (⟨b2, #[.slice V2 nd2.length c2], 25⟩ :: (⟨b1, #[.slice V1 nd1.length c1], 25⟩ :: (o2 ++ (o1))))) ∧ SlN sv (y7 (([110, 111, 116, 32, 40, 32] ++ ([40, 32] ++ (z6 nd1) ++ [32, 41, 32] ++ [97, 110, 100] ++ [32, 40, 32] ++ (z6 nd2) ++ [32, 41])) ++ [32, 41])) ob') (by kernel_rfl) (fun _ => by kernel_rfl) (fun w hO => (kC (([110, 111, 116, 32, 40, 32] ++ ([40, 32] ++ (z6 nd1) ++ [32, 41, 32] ++ [97, 110, 100] ++ [32, 40, 32] ++ (z6 nd2) ++ [32, 41])) ++ [32, 41]) w (by first | omega | (simp; done) | (simp; omega) | decide) (hK.on hO.below)).mono fun e w' ⟨v', ob', k1, k2, k3⟩ => ⟨_, _, k1, ⟨v', ob', rfl, rfl, k2⟩, Own.joinN hO k3⟩) (fun vt4 L4 hv4 => ?_)))
  obtain ⟨sv4, o4, rfl, rfl, hN4⟩ := hv4
  obtain ⟨V4, c4, rfl⟩ := Sl.form hN4
  refine Zv (.tuple #[.agg #[.slice V4 ((y7 (([110, 111, 116, 32, 40, 32] ++ ([40, 32] ++ (z6 nd1) ++ [32, 41, 32] ++ [97, 110, 100] ++ [32, 40, 32] ++ (z6 nd2) ++ [32, 41])) ++ [32, 41])).length) c4], .int .i64 (yY (([110, 111, 116, 32, 40, 32] ++ ([40, 32] ++ (z6 nd1) ++ [32, 41, 32] ++ [97, 110, 100] ++ [32, 40, 32] ++ (z6 nd2) ++ [32, 41])) ++ [32, 41]))]) (Zv (.agg #[.slice V4 ((y7 (([110, 111, 116, 32, 40, 32] ++ ([40, 32] ++ (z6 nd1) ++ [32, 41, 32] ++ [97, 110, 100] ++ [32, 40, 32] ++ (z6 nd2) ++ [32, 41])) ++ [32, 41])).length) c4]) (Zv (.int .i64 (yY (([110, 111, 116, 32, 40, 32] ++ ([40, 32] ++ (z6 nd1) ++ [32, 41, 32] ++ [97, 110, 100] ++ [32, 40, 32] ++ (z6 nd2) ++ [32, 41])) ++ [32, 41]))) (Za (.agg #[.slice none 0 0]) (fun b4 => Zs 0 ⟨b4, #[.slice none 0 0], 25⟩ (off := 0) (.agg #[.slice V4 ((y7 (([110, 111, 116, 32, 40, 32] ++ ([40, 32] ++ (z6 nd1) ++ [32, 41, 32] ++ [97, 110, 100] ++ [32, 40, 32] ++ (z6 nd2) ++ [32, 41])) ++ [32, 41])).length) c4]) (Zv (.int .i64 (yY (([110, 111, 116, 32, 40, 32] ++ ([40, 32] ++ (z6 nd1) ++ [32, 41, 32] ++ [97, 110, 100] ++ [32, 40, 32] ++ (z6 nd2) ++ [32, 41])) ++ [32, 41]))) (ZR (Zv (.string (mkS (z6 nd1))) (zM (.string (mkS ([110, 111, 116, 32, 40, 32] ++ (z6 nd1)))) (by kernel_rfl) (y9 (a := [110, 111, 116, 32, 40, 32]) (b := (z6 nd1)) rfl (by kernel_rfl) (by kernel_rfl) (by first | omega | (simp only [List.length_append, List.length_cons, List.length_nil]; omega))) ?_))))))))
  refine zM (.string (mkS (([110, 111, 116, 32, 40, 32] ++ (z6 nd1)) ++ [32, 41, 32, 111, 114, 32, 110, 111, 116, 32, 40, 32]))) (by kernel_rfl) (y9 (a := ([110, 111, 116, 32, 40, 32] ++ (z6 nd1))) (b := [32, 41, 32, 111, 114, 32, 110, 111, 116, 32, 40, 32]) rfl (by kernel_rfl) (by kernel_rfl) (by first | omega | (simp only [List.length_append, List.length_cons, List.length_nil]; omega))) (Zv (.string (mkS (z6 nd2))) (zM (.string (mkS ((([110, 111, 116, 32, 40, 32] ++ (z6 nd1)) ++ [32, 41, 32, 111, 114, 32, 110, 111, 116, 32, 40, 32]) ++ (z6 nd2)))) (by kernel_rfl) (y9 (a := (([110, 111, 116, 32, 40, 32] ++ (z6 nd1)) ++ [32, 41, 32, 111, 114, 32, 110, 111, 116, 32, 40, 32])) (b := (z6 nd2)) rfl (by kernel_rfl) (by kernel_rfl) (by first | omega | (simp only [List.length_append, List.length_cons, List.length_nil]; omega))) (zM (.string (mkS (((([110, 111, 116, 32, 40, 32] ++ (z6 nd1)) ++ [32, 41, 32, 111, 114, 32, 110, 111, 116, 32, 40, 32]) ++ (z6 nd2)) ++ [32, 41]))) (by kernel_rfl) (y9 (a := ((([110, 111, 116, 32, 40, 32] ++ (z6 nd1)) ++ [32, 41, 32, 111, 114, 32, 110, 111, 116, 32, 40, 32]) ++ (z6 nd2))) (b := [32, 41]) rfl (by kernel_rfl) (by kernel_rfl) (by first | omega | (simp only [List.length_append, List.length_cons, List.length_nil]; omega))) (zO (k := 11) (args := #[.string (mkS (((([110, 111, 116, 32, 40, 32] ++ (z6 nd1)) ++ [32, 41, 32, 111, 114, 32, 110, 111, 116, 32, 40, 32]) ++ (z6 nd2)) ++ [32, 41]))]) (fun v' L' => ∃ sv ob', v' = .tuple #[.agg #[sv], .int .i64 (yY (((([110, 111, 116, 32, 40, 32] ++ (z6 nd1)) ++ [32, 41, 32, 111, 114, 32, 110, 111, 116, 32, 40, 32]) ++ (z6 nd2)) ++ [32, 41]))] ∧ L' = ob' ++ (⟨b4, #[.slice V4 ((y7 (([110, 111, 116, 32, 40, 32] ++ ([40, 32] ++ (z6 nd1) ++ [32, 41, 32] ++ [97, 110, 100] ++ [32, 40, 32] ++ (z6 nd2) ++ [32, 41])) ++ [32, 41])).length) c4], 25⟩ :: (o4 ++ (⟨b3, (pfV q3).cells, 33⟩ :: (⟨b2, #[.slice V2 nd2.length c2], 25⟩ :: (⟨b1, #[.slice V1 nd1.length c1], 25⟩ :: (o2 ++ (o1))))))) ∧ SlN sv (y7 (((([110, 111, 116, 32, 40, 32] ++ (z6 nd1)) ++ [32, 41, 32, 111, 114, 32, 110, 111, 116, 32, 40, 32]) ++ (z6 nd2)) ++ [32, 41])) ob') (by kernel_rfl) (fun _ => by kernel_rfl) (fun w hO => (kC (((([110, 111, 116, 32, 40, 32] ++ (z6 nd1)) ++ [32, 41, 32, 111, 114, 32, 110, 111, 116, 32, 40, 32]) ++ (z6 nd2)) ++ [32, 41]) w (by first | omega | (simp; done) | (simp; omega) | decide) (hK.on hO.below)).mono fun e w' ⟨v', ob', k1, k2, k3⟩ => ⟨_, _, k1, ⟨v', ob', rfl, rfl, k2⟩, Own.joinN hO k3⟩) (fun vt5 L5 hv5 => ?_)))))
  obtain ⟨sv5, o5, rfl, rfl, hN5⟩ := hv5
  obtain ⟨V5, c5, rfl⟩ := Sl.form hN5
  refine Zv (.tuple #[.agg #[.slice V5 ((y7 (((([110, 111, 116, 32, 40, 32] ++ (z6 nd1)) ++ [32, 41, 32, 111, 114, 32, 110, 111, 116, 32, 40, 32]) ++ (z6 nd2)) ++ [32, 41])).length) c5], .int .i64 (yY (((([110, 111, 116, 32, 40, 32] ++ (z6 nd1)) ++ [32, 41, 32, 111, 114, 32, 110, 111, 116, 32, 40, 32]) ++ (z6 nd2)) ++ [32, 41]))]) (Zv (.agg #[.slice V5 ((y7 (((([110, 111, 116, 32, 40, 32] ++ (z6 nd1)) ++ [32, 41, 32, 111, 114, 32, 110, 111, 116, 32, 40, 32]) ++ (z6 nd2)) ++ [32, 41])).length) c5]) (Zv (.int .i64 (yY (((([110, 111, 116, 32, 40, 32] ++ (z6 nd1)) ++ [32, 41, 32, 111, 114, 32, 110, 111, 116, 32, 40, 32]) ++ (z6 nd2)) ++ [32, 41]))) (Za (.agg #[.slice none 0 0]) (fun b5 => Zs 0 ⟨b5, #[.slice none 0 0], 25⟩ (off := 0) (.agg #[.slice V5 ((y7 (((([110, 111, 116, 32, 40, 32] ++ (z6 nd1)) ++ [32, 41, 32, 111, 114, 32, 110, 111, 116, 32, 40, 32]) ++ (z6 nd2)) ++ [32, 41])).length) c5]) (Zv (.int .i64 (yY (((([110, 111, 116, 32, 40, 32] ++ (z6 nd1)) ++ [32, 41, 32, 111, 114, 32, 110, 111, 116, 32, 40, 32]) ++ (z6 nd2)) ++ [32, 41]))) (ZR (Zv (.string (mkS (z6 nd2))) (Zv (.string (mkS (z6 nd1))) ?_))))))))
  refine Zc (k := 25) (args := #[.string (mkS (z6 nd2)), .string ⟨#[97, 110, 100]⟩, .string (mkS (z6 nd1))]) (.string (mkS ([40, 32] ++ (z6 nd2) ++ [32, 41, 32] ++ [97, 110, 100] ++ [32, 40, 32] ++ (z6 nd1) ++ [32, 41]))) (fun w hO => n7 (z6 nd2) [97, 110, 100] (z6 nd1) w (by first | omega | simp) (by first | omega | simp) (by first | omega | simp)) (zO (k := 11) (args := #[.string (mkS ([40, 32] ++ (z6 nd2) ++ [32, 41, 32] ++ [97, 110, 100] ++ [32, 40, 32] ++ (z6 nd1) ++ [32, 41]))]) (fun v' L' => ∃ sv ob', v' = .tuple #[.agg #[sv], .int .i64 (yY ([40, 32] ++ (z6 nd2) ++ [32, 41, 32] ++ [97, 110, 100] ++ [32, 40, 32] ++ (z6 nd1) ++ [32, 41]))] ∧ L' = ob' ++ (⟨b5, #[.slice V5 ((y7 (((([110, 111, 116, 32, 40, 32] ++ (z6 nd1)) ++ [32, 41, 32, 111, 114, 32, 110, 111, 116, 32, 40, 32]) ++ (z6 nd2)) ++ [32, 41])).length) c5], 25⟩ :: (o5 ++ (⟨b4, #[.slice V4 ((y7 (([110, 111, 116, 32, 40, 32] ++ ([40, 32] ++ (z6 nd1) ++ [32, 41, 32] ++ [97, 110, 100] ++ [32, 40, 32] ++ (z6 nd2) ++ [32, 41])) ++ [32, 41])).length) c4], 25⟩ :: (o4 ++ (⟨b3, (pfV q3).cells, 33⟩ :: (⟨b2, #[.slice V2 nd2.length c2], 25⟩ :: (⟨b1, #[.slice V1 nd1.length c1], 25⟩ :: (o2 ++ (o1))))))))) ∧ SlN sv (y7 ([40, 32] ++ (z6 nd2) ++ [32, 41, 32] ++ [97, 110, 100] ++ [32, 40, 32] ++ (z6 nd1) ++ [32, 41])) ob') (by kernel_rfl) (fun _ => by kernel_rfl) (fun w hO => (kC ([40, 32] ++ (z6 nd2) ++ [32, 41, 32] ++ [97, 110, 100] ++ [32, 40, 32] ++ (z6 nd1) ++ [32, 41]) w (by first | omega | (simp; done) | (simp; omega) | decide) (hK.on hO.below)).mono fun e w' ⟨v', ob', k1, k2, k3⟩ => ⟨_, _, k1, ⟨v', ob', rfl, rfl, k2⟩, Own.joinN hO k3⟩) (fun vt6 L6 hv6 => ?_))
  obtain ⟨sv6, o6, rfl, rfl, hN6⟩ := hv6
  obtain ⟨V6, c6, rfl⟩ := Sl.form hN6
  refine Zv (.tuple #[.agg #[.slice V6 ((y7 ([40, 32] ++ (z6 nd2) ++ [32, 41, 32] ++ [97, 110, 100] ++ [32, 40, 32] ++ (z6 nd1) ++ [32, 41])).length) c6], .int .i64 (yY ([40, 32] ++ (z6 nd2) ++ [32, 41, 32] ++ [97, 110, 100] ++ [32, 40, 32] ++ (z6 nd1) ++ [32, 41]))]) (Zv (.agg #[.slice V6 ((y7 ([40, 32] ++ (z6 nd2) ++ [32, 41, 32] ++ [97, 110, 100] ++ [32, 40, 32] ++ (z6 nd1) ++ [32, 41])).length) c6]) (Zv (.int .i64 (yY ([40, 32] ++ (z6 nd2) ++ [32, 41, 32] ++ [97, 110, 100] ++ [32, 40, 32] ++ (z6 nd1) ++ [32, 41]))) (Za (.agg #[.slice none 0 0]) (fun b6 => Zs 0 ⟨b6, #[.slice none 0 0], 25⟩ (off := 0) (.agg #[.slice V6 ((y7 ([40, 32] ++ (z6 nd2) ++ [32, 41, 32] ++ [97, 110, 100] ++ [32, 40, 32] ++ (z6 nd1) ++ [32, 41])).length) c6]) (Zv (.int .i64 (yY ([40, 32] ++ (z6 nd2) ++ [32, 41, 32] ++ [97, 110, 100] ++ [32, 40, 32] ++ (z6 nd1) ++ [32, 41]))) (ZN (zF (ZO (Zv (.int .i64 (yY (([110, 111, 116, 32, 40, 32] ++ ([40, 32] ++ (z6 nd1) ++ [32, 41, 32] ++ [97, 110, 100] ++ [32, 40, 32] ++ (z6 nd2) ++ [32, 41])) ++ [32, 41]))) ?_)))))))))
  refine Zn (p := (yY (([110, 111, 116, 32, 40, 32] ++ ([40, 32] ++ (z6 nd1) ++ [32, 41, 32] ++ [97, 110, 100] ++ [32, 40, 32] ++ (z6 nd2) ++ [32, 41])) ++ [32, 41]) : Int) = 0) true (decide_eq_true (by first | exact px | exact py | exact pz)) (Zv (.bool false) (Zv (.int .i64 (yY (((([110, 111, 116, 32, 40, 32] ++ (z6 nd1)) ++ [32, 41, 32, 111, 114, 32, 110, 111, 116, 32, 40, 32]) ++ (z6 nd2)) ++ [32, 41]))) (Zn (p := (yY (((([110, 111, 116, 32, 40, 32] ++ (z6 nd1)) ++ [32, 41, 32, 111, 114, 32, 110, 111, 116, 32, 40, 32]) ++ (z6 nd2)) ++ [32, 41]) : Int) = 0) true (decide_eq_true (by first | exact px | exact py | exact pz)) (Zv (.bool false) (Zv (.bool false) (Zv (.int .i64 (yY ([40, 32] ++ (z6 nd2) ++ [32, 41, 32] ++ [97, 110, 100] ++ [32, 40, 32] ++ (z6 nd1) ++ [32, 41]))) (Zn (p := (yY ([40, 32] ++ (z6 nd2) ++ [32, 41, 32] ++ [97, 110, 100] ++ [32, 40, 32] ++ (z6 nd1) ++ [32, 41]) : Int) = 0) true (decide_eq_true (by first | exact px | exact py | exact pz)) (Zv (.bool false) (ZN (Zf ?_))))))))))
  refine ZB (ZO (Zl 0 ⟨b6, #[.slice V6 ((y7 ([40, 32] ++ (z6 nd2) ++ [32, 41, 32] ++ [97, 110, 100] ++ [32, 40, 32] ++ (z6 nd1) ++ [32, 41])).length) c6], 25⟩ (off := 0) (.agg #[.slice V6 ((y7 ([40, 32] ++ (z6 nd2) ++ [32, 41, 32] ++ [97, 110, 100] ++ [32, 40, 32] ++ (z6 nd1) ++ [32, 41])).length) c6]) (zX ⟨b3, (pfV q3).cells, 33⟩ (off := 0) (pfV q3) (by kernel_rfl) rfl (by simp) (by kernel_rfl) (by kernel_rfl) (Zc (k := 24) (args := #[.agg #[.slice V6 ((y7 ([40, 32] ++ (z6 nd2) ++ [32, 41, 32] ++ [97, 110, 100] ++ [32, 40, 32] ++ (z6 nd1) ++ [32, 41])).length) c6], pfV q3]) (.int .i64 (zL (y7 ([40, 32] ++ (z6 nd2) ++ [32, 41, 32] ++ [97, 110, 100] ++ [32, 40, 32] ++ (z6 nd1) ++ [32, 41])) q3)) (fun w hO => x2 V6 c6 (y7 ([40, 32] ++ (z6 nd2) ++ [32, 41, 32] ++ [97, 110, 100] ++ [32, 40, 32] ++ (z6 nd1) ++ [32, 41])) q3 w (Sl.reads hN6 rfl hO (fun x hx => by simp [hx])) (gH ([40, 32] ++ (z6 nd2) ++ [32, 41, 32] ++ [97, 110, 100] ++ [32, 40, 32] ++ (z6 nd1) ++ [32, 41])) (qL ([40, 32] ++ (z6 nd2) ++ [32, 41, 32] ++ [97, 110, 100] ++ [32, 40, 32] ++ (z6 nd1) ++ [32, 41])) hQ3.short (hK.on hO.below)) (Zv (.int .i64 (zL (y7 ([40, 32] ++ (z6 nd2) ++ [32, 41, 32] ++ [97, 110, 100] ++ [32, 40, 32] ++ (z6 nd1) ++ [32, 41])) q3)) (ZN (zF (xU (by kernel_rfl) (by kernel_rfl) ?_))))))))
  refine Zq (k := 10) (args := #[]) (.bool true) (fun w hO => yN w (hK.on hO.below)) (Zw (.bool true) (gX ⟨b4, #[.slice V4 ((y7 (([110, 111, 116, 32, 40, 32] ++ ([40, 32] ++ (z6 nd1) ++ [32, 41, 32] ++ [97, 110, 100] ++ [32, 40, 32] ++ (z6 nd2) ++ [32, 41])) ++ [32, 41])).length) c4], 25⟩ (off := 0) (.agg #[.slice V4 ((y7 (([110, 111, 116, 32, 40, 32] ++ ([40, 32] ++ (z6 nd1) ++ [32, 41, 32] ++ [97, 110, 100] ++ [32, 40, 32] ++ (z6 nd2) ++ [32, 41])) ++ [32, 41])).length) c4]) (by kernel_rfl) rfl (by simp) (by kernel_rfl) (by kernel_rfl) (gX ⟨b3, (pfV q3).cells, 33⟩ (off := 0) (pfV q3) (by kernel_rfl) rfl (by simp) (by kernel_rfl) (by kernel_rfl) (Zq (k := 24) (args := #[.agg #[.slice V4 ((y7 (([110, 111, 116, 32, 40, 32] ++ ([40, 32] ++ (z6 nd1) ++ [32, 41, 32] ++ [97, 110, 100] ++ [32, 40, 32] ++ (z6 nd2) ++ [32, 41])) ++ [32, 41])).length) c4], pfV q3]) (.int .i64 (zL (y7 (([110, 111, 116, 32, 40, 32] ++ ([40, 32] ++ (z6 nd1) ++ [32, 41, 32] ++ [97, 110, 100] ++ [32, 40, 32] ++ (z6 nd2) ++ [32, 41])) ++ [32, 41])) q3)) (fun w hO => x2 V4 c4 (y7 (([110, 111, 116, 32, 40, 32] ++ ([40, 32] ++ (z6 nd1) ++ [32, 41, 32] ++ [97, 110, 100] ++ [32, 40, 32] ++ (z6 nd2) ++ [32, 41])) ++ [32, 41])) q3 w (Sl.reads hN4 rfl hO (fun x hx => by simp [hx])) (gH (([110, 111, 116, 32, 40, 32] ++ ([40, 32] ++ (z6 nd1) ++ [32, 41, 32] ++ [97, 110, 100] ++ [32, 40, 32] ++ (z6 nd2) ++ [32, 41])) ++ [32, 41])) (qL (([110, 111, 116, 32, 40, 32] ++ ([40, 32] ++ (z6 nd1) ++ [32, 41, 32] ++ [97, 110, 100] ++ [32, 40, 32] ++ (z6 nd2) ++ [32, 41])) ++ [32, 41])) hQ3.short (hK.on hO.below)) (gX ⟨b5, #[.slice V5 ((y7 (((([110, 111, 116, 32, 40, 32] ++ (z6 nd1)) ++ [32, 41, 32, 111, 114, 32, 110, 111, 116, 32, 40, 32]) ++ (z6 nd2)) ++ [32, 41])).length) c5], 25⟩ (off := 0) (.agg #[.slice V5 ((y7 (((([110, 111, 116, 32, 40, 32] ++ (z6 nd1)) ++ [32, 41, 32, 111, 114, 32, 110, 111, 116, 32, 40, 32]) ++ (z6 nd2)) ++ [32, 41])).length) c5]) (by kernel_rfl) rfl (by simp) (by kernel_rfl) (by kernel_rfl) (gX ⟨b3, (pfV q3).cells, 33⟩ (off := 0) (pfV q3) (by kernel_rfl) rfl (by simp) (by kernel_rfl) (by kernel_rfl) (Zq (k := 24) (args := #[.agg #[.slice V5 ((y7 (((([110, 111, 116, 32, 40, 32] ++ (z6 nd1)) ++ [32, 41, 32, 111, 114, 32, 110, 111, 116, 32, 40, 32]) ++ (z6 nd2)) ++ [32, 41])).length) c5], pfV q3]) (.int .i64 (zL (y7 (((([110, 111, 116, 32, 40, 32] ++ (z6 nd1)) ++ [32, 41, 32, 111, 114, 32, 110, 111, 116, 32, 40, 32]) ++ (z6 nd2)) ++ [32, 41])) q3)) (fun w hO => x2 V5 c5 (y7 (((([110, 111, 116, 32, 40, 32] ++ (z6 nd1)) ++ [32, 41, 32, 111, 114, 32, 110, 111, 116, 32, 40, 32]) ++ (z6 nd2)) ++ [32, 41])) q3 w (Sl.reads hN5 rfl hO (fun x hx => by simp [hx])) (gH (((([110, 111, 116, 32, 40, 32] ++ (z6 nd1)) ++ [32, 41, 32, 111, 114, 32, 110, 111, 116, 32, 40, 32]) ++ (z6 nd2)) ++ [32, 41])) (qL (((([110, 111, 116, 32, 40, 32] ++ (z6 nd1)) ++ [32, 41, 32, 111, 114, 32, 110, 111, 116, 32, 40, 32]) ++ (z6 nd2)) ++ [32, 41])) hQ3.short (hK.on hO.below)) (Ze (p := (zL (y7 (([110, 111, 116, 32, 40, 32] ++ ([40, 32] ++ (z6 nd1) ++ [32, 41, 32] ++ [97, 110, 100] ++ [32, 40, 32] ++ (z6 nd2) ++ [32, 41])) ++ [32, 41])) q3 : Int) = zL (y7 (((([110, 111, 116, 32, 40, 32] ++ (z6 nd1)) ++ [32, 41, 32, 111, 114, 32, 110, 111, 116, 32, 40, 32]) ++ (z6 nd2)) ++ [32, 41])) q3) true (decide_eq_true (by exact d1)) (Zw (.bool true) (Zw (.bool true) (gX ⟨b4, #[.slice V4 ((y7 (([110, 111, 116, 32, 40, 32] ++ ([40, 32] ++ (z6 nd1) ++ [32, 41, 32] ++ [97, 110, 100] ++ [32, 40, 32] ++ (z6 nd2) ++ [32, 41])) ++ [32, 41])).length) c4], 25⟩ (off := 0) (.agg #[.slice V4 ((y7 (([110, 111, 116, 32, 40, 32] ++ ([40, 32] ++ (z6 nd1) ++ [32, 41, 32] ++ [97, 110, 100] ++ [32, 40, 32] ++ (z6 nd2) ++ [32, 41])) ++ [32, 41])).length) c4]) (by kernel_rfl) rfl (by simp) (by kernel_rfl) (by kernel_rfl) ?_)))))))))))
  refine gX ⟨b3, (pfV q3).cells, 33⟩ (off := 0) (pfV q3) (by kernel_rfl) rfl (by simp) (by kernel_rfl) (by kernel_rfl) (Zq (k := 24) (args := #[.agg #[.slice V4 ((y7 (([110, 111, 116, 32, 40, 32] ++ ([40, 32] ++ (z6 nd1) ++ [32, 41, 32] ++ [97, 110, 100] ++ [32, 40, 32] ++ (z6 nd2) ++ [32, 41])) ++ [32, 41])).length) c4], pfV q3]) (.int .i64 (zL (y7 (([110, 111, 116, 32, 40, 32] ++ ([40, 32] ++ (z6 nd1) ++ [32, 41, 32] ++ [97, 110, 100] ++ [32, 40, 32] ++ (z6 nd2) ++ [32, 41])) ++ [32, 41])) q3)) (fun w hO => x2 V4 c4 (y7 (([110, 111, 116, 32, 40, 32] ++ ([40, 32] ++ (z6 nd1) ++ [32, 41, 32] ++ [97, 110, 100] ++ [32, 40, 32] ++ (z6 nd2) ++ [32, 41])) ++ [32, 41])) q3 w (Sl.reads hN4 rfl hO (fun x hx => by simp [hx])) (gH (([110, 111, 116, 32, 40, 32] ++ ([40, 32] ++ (z6 nd1) ++ [32, 41, 32] ++ [97, 110, 100] ++ [32, 40, 32] ++ (z6 nd2) ++ [32, 41])) ++ [32, 41])) (qL (([110, 111, 116, 32, 40, 32] ++ ([40, 32] ++ (z6 nd1) ++ [32, 41, 32] ++ [97, 110, 100] ++ [32, 40, 32] ++ (z6 nd2) ++ [32, 41])) ++ [32, 41])) hQ3.short (hK.on hO.below)) (Zw (.int .i64 (zL (y7 ([40, 32] ++ (z6 nd2) ++ [32, 41, 32] ++ [97, 110, 100] ++ [32, 40, 32] ++ (z6 nd1) ++ [32, 41])) q3)) (j7 (k := .i64) ((2 : Int) - (zL (y7 ([40, 32] ++ (z6 nd2) ++ [32, 41, 32] ++ [97, 110, 100] ++ [32, 40, 32] ++ (z6 nd1) ++ [32, 41])) q3)) (by kernel_rfl) (fun _ => by kernel_rfl) (IntWalk.i64_in _ (by omega)) (Ze (p := (zL (y7 (([110, 111, 116, 32, 40, 32] ++ ([40, 32] ++ (z6 nd1) ++ [32, 41, 32] ++ [97, 110, 100] ++ [32, 40, 32] ++ (z6 nd2) ++ [32, 41])) ++ [32, 41])) q3 : Int) = (2 : Int) - (zL (y7 ([40, 32] ++ (z6 nd2) ++ [32, 41, 32] ++ [97, 110, 100] ++ [32, 40, 32] ++ (z6 nd1) ++ [32, 41])) q3)) true (decide_eq_true (by exact d2)) (Zw (.bool true) (Zw (.bool true) (Zw (.int .i64 (zL (y7 ([40, 32] ++ (z6 nd2) ++ [32, 41, 32] ++ [97, 110, 100] ++ [32, 40, 32] ++ (z6 nd1) ++ [32, 41])) q3)) (gX ⟨b1, #[.slice V1 nd1.length c1], 25⟩ (off := 0) (.agg #[.slice V1 nd1.length c1]) (by kernel_rfl) rfl (by simp) (by kernel_rfl) (by kernel_rfl) (gX ⟨b3, (pfV q3).cells, 33⟩ (off := 0) (pfV q3) (by kernel_rfl) rfl (by simp) (by kernel_rfl) (by kernel_rfl) (Zq (k := 24) (args := #[.agg #[.slice V1 nd1.length c1], pfV q3]) (.int .i64 (zL nd1 q3)) (fun w hO => x2 V1 c1 nd1 q3 w (Sl.reads hN1 rfl hO (fun x hx => by simp [hx])) hG1.few hG1.short hQ3.short (hK.on hO.below)) (gX ⟨b2, #[.slice V2 nd2.length c2], 25⟩ (off := 0) (.agg #[.slice V2 nd2.length c2]) (by kernel_rfl) rfl (by simp) (by kernel_rfl) (by kernel_rfl) ?_)))))))))))
  exact gX ⟨b3, (pfV q3).cells, 33⟩ (off := 0) (pfV q3) (by kernel_rfl) rfl (by simp) (by kernel_rfl) (by kernel_rfl) (Zq (k := 24) (args := #[.agg #[.slice V2 nd2.length c2], pfV q3]) (.int .i64 (zL nd2 q3)) (fun w hO => x2 V2 c2 nd2 q3 w (Sl.reads hN2 rfl hO (fun x hx => by simp [hx])) hG2.few hG2.short hQ3.short (hK.on hO.below)) (yQ (.int .i64 (min (zL nd1 q3) (zL nd2 q3 : Int))) (by kernel_rfl) (mP (k := .i64) (q := .i64) (i := zL nd1 q3) (j := zL nd2 q3) rfl (by kernel_rfl) (by kernel_rfl)) (Ze (p := (zL (y7 ([40, 32] ++ (z6 nd2) ++ [32, 41, 32] ++ [97, 110, 100] ++ [32, 40, 32] ++ (z6 nd1) ++ [32, 41])) q3 : Int) = min (zL nd1 q3) (zL nd2 q3 : Int)) true (decide_eq_true (by exact d3)) (Zw (.bool true) (Zw (.bool true) (yU (z8 (zG (ZF (.bool true) Tryd.results8 (fun w hO => ⟨rfl, hO.below⟩))))))))))
end
end Go.Proofs.YthanpjfmlipdnaaDoor
