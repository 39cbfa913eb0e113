/-
  What the statement's proof leans on: the ways of walking, tI mathematics, and what the program's functions return; each theorem says on what conditions.
-/
import Derived.Below
import Derived.ChangeSame
import Derived.ProofKit
import Derived.OpenShut
import Derived.LaidSub
import Derived.Carry
import Derived.SliceStrings
import Derived.Lib.LaidTab
import Derived.Deep.DeepHandedRow
import Derived.ChangeSlices
import Derived.Test.YtkljdpiaghepfaaGreatDoorME7
set_option maxRecDepth 1000000
set_option maxHeartbeats 8000000
set_option linter.unusedVariables false
set_option linter.unusedSimpArgs false
namespace Go.Proofs.YtkljdpiaghepfaaGreatDoor
open Go.RowKit

section
theorem fewR_text {r : List (List Co)} (h : r ≠ []) {t : List UInt8} (ht : wT r = t) : (t = [] → fewR r = false) ∧ (¬ t = [] → fewR r = true ∧ kG r = t) := by
  refine ⟨fun q => textR_nil.1 (ht.trans q), fun q => ?_⟩
  cases hf : fewR r with
  | false => exact absurd (ht.symm.trans (textR_nil.2 hf)) q
  | true => refine ⟨rfl, ?_⟩; unfold wT at ht; rw [hf] at ht; exact ht
theorem all_ne {s : List UInt8} {r : List (List Co)} (h : qQ s = some r) : r ≠ [] := fun e => by
  have h2 := dJ h
  rw [e] at h2
  exact altsL_ne s [] (List.eq_nil_of_length_eq_zero h2.symm)
theorem pL (s : List UInt8) (W : World) (hs : s.length ≤ 1000000) (ht : HasLib W) : Calls Tryz.prog 12 #[.string (mkS s)] W fun e w' => ∃ v' ob', e = .returned (.tuple #[v', .int .i64 (jF s)]) ∧ RgO v' ((kC s).getD []) ob' ∧ Own [] W w' ob' := by
  have hsz := xR s
  refine zQ (n := 62) Tryz.func12 rfl (by kernel_rfl) (by kernel_rfl) (ZO (Za (.agg #[.slice none 0 0]) (fun b1 => Zv (.int .i64 0) (ZN (z6 (ZO (Zv (.string (mkS s)) (Zv (.int .i64 ((mkS s).size)) ?_))))))))
  by_cases h1 : (96 : Int) < (mkS s).size
  · refine zW (p := (96 : Int) < (mkS s).size) true (by kernel_rfl) (fun _ => by kernel_rfl) (decide_eq_true (h1)) ?_
    refine ZY (ZO (Zv (.agg #[.slice none 0 0]) (Zs 0 ⟨b1, #[.slice none 0 0], 25⟩ (off := 0) (.agg #[.slice none 0 0]) (Zv (.int .i64 3) (ZN (zC (z8 ?_)))))))
    exact ZD 0 ⟨b1, #[.slice none 0 0], 25⟩ (off := 0) (.agg #[.slice none 0 0]) (.int .i64 3) Tryz.results12 (fun w hO => ⟨.agg #[.slice none 0 0], [], by rw [(errG_long (s := s) (by omega)).1], by rw [(errG_long (s := s) (by omega)).2]; exact RgO.nil, qA hO⟩)
  have hs6 : s.length ≤ 96 := by omega
  refine Zd (p := (96 : Int) < (mkS s).size) false (decide_eq_false (h1)) (ZX (ZB (ZO (Za (.agg #[.slice none 0 0]) (fun b2 => ZN (z6 ?_))))))
  refine ZO (Zv (.string (mkS s)) (yK (k := 36) (args := #[.string (mkS s), .string ⟨#[124, 124]⟩]) (fun v' L' => ∃ ob', L' = ob' ++ ([⟨b2, #[.slice none 0 0], 25⟩, ⟨b1, #[.slice none 0 0], 25⟩]) ∧ SlT v' (gH [] s) ob') (by kernel_rfl) (fun _ => by kernel_rfl) (fun w hO => (split_bars s w hs (ht.on hO.below)).mono fun e w' ⟨v', ob', k1, k2, k3⟩ => ⟨v', _, k1, ⟨ob', rfl, k2⟩, Own.joinN hO k3⟩) (fun lv L2 hv2 => ?_)))
  obtain ⟨ol, rfl, hol⟩ := hv2
  obtain ⟨l, hll⟩ : ∃ l, l = gH [] s := ⟨_, rfl⟩
  rw [← hll] at hol
  have hln : l.length ≤ 97 := by rw [hll]; have := pW s []; omega
  have hlm : ∀ x ∈ l, x.length ≤ 96 := fun x hx => by have := altsL_le s [] x (hll ▸ hx); simp at this; omega
  obtain ⟨g, cur, lcap, rfl, rfl, hcur⟩ := SlT.blk hol (by rw [hll]; exact altsL_ne s [])
  refine Zv (.int .i64 (l.length : Int)) (Zv (.int .i64 0) (ZN (zK (gN (L' := ⟨g, cur, 9⟩ :: ⟨b2, #[.slice none 0 0], 25⟩ :: ⟨b1, #[.slice none 0 0], 25⟩ :: ([] ++ [])) rfl (yP (fun L f m => ∃ (i : Nat) (A : Option Addr) (cap : Nat) (xs : List Al) (o1 : List Blk) (o2 : List Blk) (j : Nat → Value), (i ≤ l.length ∧ RgA (.slice A xs.length cap) xs o1 o2 ∧ w0 parseA (l.take i) = some (xA xs)) ∧ L = ⟨g, cur, 9⟩ :: ⟨b2, #[.slice A xs.length cap], 25⟩ :: ⟨b1, #[.slice none 0 0], 25⟩ :: (o1 ++ o2) ∧ f = kA j [(2, .pointer (some ⟨b1, 0, none⟩)), (4, .pointer (some ⟨b2, 0, none⟩)), (18, .slice (some ⟨g, 0, none⟩) l.length lcap), (19, .int .i64 (l.length : Int)), (20, .int .i64 (i : Int))] ∧ m = l.length - i) (l.length - 0) ⟨0, none, 0, [], [], [], _, ⟨Nat.zero_le _, RgA.nil, rfl⟩, rfl, ZU, rfl⟩ ?_)))))
  rintro L f m ⟨i, A, cap, xs, o1, o2, j, hrel, rfl, rfl, rfl⟩
  have hrel0 := hrel; have hra := hrel.2.1; have hil := hrel.1
  refine z6 (z7 ?_)
  by_cases h2 : (i : Int) < (l.length : Int)
  · have hi : i < l.length := by omega
    obtain ⟨y, hy⟩ : ∃ y, l[i] = y := ⟨_, rfl⟩
    have hyl : y.length ≤ 96 := hlm y (hy ▸ List.getElem_mem hi)
    refine Zd (p := (i : Int) < (l.length : Int)) true (decide_eq_true (h2)) (ZN (z6 (Zt (ZB (z6 (zK (ZO (zX (.pointer (some ⟨g, i * 1, none⟩)) (by kernel_rfl) (ZV (b := g) (off := 0) (n := l.length) (c := lcap) (k := .i64) (j := (i : Int)) (e := 9) (sz := 1)) ?_))))))))
    refine jI 0 ⟨g, cur, 9⟩ (off := i * 1) (.string (mkS y)) (by kernel_rfl) rfl (by kernel_rfl) (by kernel_rfl) (xT bQ hcur i 0 (by omega) (by omega) _ (by rw [hy]; kernel_rfl)) (Zv (.string (mkS y)) (ZR (Zv (.slice none 0 0) (ZN (z6 (z6 (z7 ?_)))))))
    refine Zv (.string (mkS y)) (yK (k := 36) (args := #[.string (mkS y), .string ⟨#[44]⟩]) (fun v' L' => ∃ ob', L' = ob' ++ (⟨g, cur, 9⟩ :: (⟨b2, #[.slice A xs.length cap], 25⟩ :: (⟨b1, #[.slice none 0 0], 25⟩ :: ((o1 ++ o2))))) ∧ SlT v' (yU 44 [] y) ob') (by kernel_rfl) (fun _ => by kernel_rfl) (fun w hO => (split_comma y w (by omega) (ht.on hO.below)).mono fun e w' ⟨v', ob', k1, k2, k3⟩ => ⟨v', _, k1, ⟨ob', rfl, k2⟩, Own.joinN hO k3⟩) (fun mv L2 hv2 => ?_))
    obtain ⟨om, rfl, hom⟩ := hv2
    obtain ⟨m', hml⟩ : ∃ m', m' = yU 44 [] y := ⟨_, rfl⟩
    rw [← hml] at hom
    have hmn : m'.length ≤ 97 := by rw [hml]; exact (pieces_len hyl).1
    have hmm : ∀ x ∈ m', x.length ≤ 96 := fun x hx => (pieces_len hyl).2 x (hml ▸ hx)
    obtain ⟨g2, cur2, mcap, rfl, rfl, hcur2⟩ := SlT.blk hom (by rw [hml]; exact wB 44 y [])
    refine Zv (.int .i64 (m'.length : Int)) (Zv (.int .i64 0) (ZN (zK (gN (L' := ⟨g2, cur2, 9⟩ :: ⟨g, cur, 9⟩ :: ⟨b2, #[.slice A xs.length cap], 25⟩ :: ⟨b1, #[.slice none 0 0], 25⟩ :: ([] ++ (o1 ++ o2))) rfl (yP (fun L f m => ∃ (k : Nat) (B : Option Addr) (cb : Nat) (a : List Co) (oa : List Blk) (j : Nat → Value), (k ≤ m'.length ∧ SlCo (.slice B a.length cb) a oa ∧ w0 parseP (m'.take k) = some a) ∧ L = ⟨g2, cur2, 9⟩ :: ⟨g, cur, 9⟩ :: ⟨b2, #[.slice A xs.length cap], 25⟩ :: ⟨b1, #[.slice none 0 0], 25⟩ :: (oa ++ (o1 ++ o2)) ∧ f = kA j [(2, .pointer (some ⟨b1, 0, none⟩)), (4, .pointer (some ⟨b2, 0, none⟩)), (18, .slice (some ⟨g, 0, none⟩) l.length lcap), (19, .int .i64 (l.length : Int)), (20, .int .i64 (i : Int)), (7, .slice B a.length cb), (25, .slice (some ⟨g2, 0, none⟩) m'.length mcap), (26, .int .i64 (m'.length : Int)), (27, .int .i64 (k : Int))] ∧ m = m'.length - k) (m'.length - 0) ⟨0, none, 0, [], [], _, ⟨Nat.zero_le _, Sl.nil _ _, rfl⟩, rfl, ZU, rfl⟩ ?_)))))
    rintro L f m ⟨k, B, cb, a, oa, j, hrel, rfl, rfl, rfl⟩
    have hkl := hrel.1
    refine z6 (z7 ?_)
    by_cases h3 : (k : Int) < (m'.length : Int)
    · have hk : k < m'.length := by omega
      obtain ⟨z, hz⟩ : ∃ z, m'[k] = z := ⟨_, rfl⟩
      have hzl : z.length ≤ 96 := hmm z (hz ▸ List.getElem_mem hk)
      have hbz := bareL_len z
      refine Zd (p := (k : Int) < (m'.length : Int)) true (decide_eq_true (h3)) (ZN (z6 (Zt (ZB (z6 (zK (ZO (zX (.pointer (some ⟨g2, k * 1, none⟩)) (by kernel_rfl) (ZV (b := g2) (off := 0) (n := m'.length) (c := mcap) (k := .i64) (j := (k : Int)) (e := 9) (sz := 1)) ?_))))))))
      refine jI 0 ⟨g2, cur2, 9⟩ (off := k * 1) (.string (mkS z)) (by kernel_rfl) rfl (by kernel_rfl) (by kernel_rfl) (xT bQ hcur2 k 0 (by omega) (by omega) _ (by rw [hz]; kernel_rfl)) (Zv (.string (mkS z)) (ZR (Zv (.string (mkS z)) (Zc (k := 38) (args := #[.string (mkS z), .string ⟨#[32]⟩]) (.string (mkS (kD z))) (fun w _ => trim_any z w (by omega)) (Zc (k := 37) (args := #[.string (mkS (kD z))]) (.tuple #[coV (pcV (kD z)), .int .i64 (pcE (kD z))]) (fun w hO => cParse_any (kD z) w (by omega) (ht.tab.on hO.below)) (Zv (.tuple #[coV (pcV (kD z)), .int .i64 (pcE (kD z))]) (Zv (coV (pcV (kD z))) (Zv (.int .i64 (pcE (kD z))) ?_))))))))
      refine Za (.agg #[.int .i64 0, .int .i64 0, .int .i64 0, .int .i64 0, .int .i64 0, .string ⟨#[]⟩, .string ⟨#[]⟩]) (fun b3 => Zs 0 ⟨b3, #[.int .i64 0, .int .i64 0, .int .i64 0, .int .i64 0, .int .i64 0, .string ⟨#[]⟩, .string ⟨#[]⟩], 51⟩ (off := 0) (coV (pcV (kD z))) (Zv (.int .i64 (pcE (kD z))) (ZN (z6 (ZO (Zv (.int .i64 (pcE (kD z))) ?_))))))
      by_cases h4 : ((pcE (kD z)) : Int) = 0
      · refine uN (p := ((pcE (kD z)) : Int) = 0) true (by kernel_rfl) (fun _ => by kernel_rfl) (decide_eq_true (h4)) ?_
        refine ZX (ZB (z7 (Zv (.slice B a.length cb) (Zl 0 ⟨b3, (coV (pcV (kD z))).cells, 51⟩ (off := 0) (coV (pcV (kD z))) (v6 51 #[.int .i64 ((pcV (kD z)).op), .int .i64 ((pcV (kD z)).parts), .int .i64 ((pcV (kD z)).v.maj), .int .i64 ((pcV (kD z)).v.min), .int .i64 ((pcV (kD z)).v.pat), .string (mkS (pcV (kD z)).v.pre), .string (mkS (pcV (kD z)).v.build)] (by kernel_rfl) rfl (fun _ => by kernel_rfl) (fun b4 => ?_))))))
        obtain ⟨i0, z0, e1, e2, e3, e4, e5⟩ := co_info
        have hal : a.length ≤ 97 := by have q := dJ hrel.2.2; rw [List.length_take] at q; omega
        refine kK (L' := [⟨b4, #[.int .i64 ((pcV (kD z)).op), .int .i64 ((pcV (kD z)).parts), .int .i64 ((pcV (kD z)).v.maj), .int .i64 ((pcV (kD z)).v.min), .int .i64 ((pcV (kD z)).v.pat), .string (mkS (pcV (kD z)).v.pre), .string (mkS (pcV (kD z)).v.build)], 51⟩, ⟨b3, (coV (pcV (kD z))).cells, 51⟩, ⟨g2, cur2, 9⟩, ⟨g, cur, 9⟩, ⟨b2, #[.slice A xs.length cap], 25⟩, ⟨b1, #[.slice none 0 0], 25⟩] ++ oa ++ (o1 ++ o2)) (by rw [List.append_assoc]; kernel_rfl) (gJ (sz := 7) (by kernel_rfl) rfl Tryz.underlying47 e1 e2 e3 e4 (by kernel_rfl) hrel.2.1 (a := ⟨b4, 0, none⟩) (m := 1) (c := 1) (news := coC (pcV (kD z))) (by kernel_rfl) rfl (fun w hO j u hj => ?_) (co_cells _) (by unfold maxLen; omega) (by rw [e5]; omega) (fun u2 ob2 hu2 => ?_))
        · rw [yQ, cell_of_row w b4 (0 + j) (coC (pcV (kD z))).toArray 51 _ (hO.held ⟨b4, (coC (pcV (kD z))).toArray, 51⟩ (List.mem_append_left _ (List.mem_append_left _ (List.mem_cons_self ..))))]; simpa using hj
        have hu3 : SlCo u2 (a ++ [(pcV (kD z))]) ob2 := hu2.to (by simp) (by simp)
        obtain ⟨B2, cb2, rfl⟩ := Sl.form hu3
        exact vY (L' := ⟨g2, cur2, 9⟩ :: (⟨g, cur, 9⟩ :: (⟨b2, #[.slice A xs.length cap], 25⟩ :: (⟨b1, #[.slice none 0 0], 25⟩ :: (ob2 ++ ((o1 ++ o2))))))) (fun w hO => own_two (by simpa using hO)) (Zv (.slice B2 ((a ++ [(pcV (kD z))]).length) cb2) (zP (zS (zB (z7 (Zu (k := .i64) (((k + 1 : Nat) : Int)) (IntWalk.i64_in _ (by omega)) (Zv (.int .i64 ((k + 1 : Nat) : Int)) (zP (zU (m' := m'.length - (k + 1)) (by omega) ⟨k + 1, B2, cb2, _, ob2, _, ⟨by omega, hu3, allO_next hk hz hrel.2.2 (pc_ok (by assumption))⟩, rfl, ZU, rfl⟩)))))))))
      refine Zn (p := ((pcE (kD z)) : Int) = 0) false (decide_eq_false (h4)) (ZY (ZO (Zv (.agg #[.slice none 0 0]) (Zs 4 ⟨b1, #[.slice none 0 0], 25⟩ (off := 0) (.agg #[.slice none 0 0]) (Zv (.int .i64 6) (ZN (zC ?_)))))))
      refine z8 (zF (z8 (yC (zF (z8 (zF (z8 (yC (zF (z8 (ZD 4 ⟨b1, #[.slice none 0 0], 25⟩ (off := 0) (.agg #[.slice none 0 0]) (.int .i64 6) Tryz.results12 ?_)))))))))))
      exact fun w hO => ⟨.agg #[.slice none 0 0], [], by rw [(errG_none hs6 (all_fails hll hi hy hml hk hz (by assumption))).1], by rw [(errG_none hs6 (all_fails hll hi hy hml hk hz (by assumption))).2]; exact RgO.nil, qA hO⟩
    refine Zd (p := (k : Int) < (m'.length : Int)) false (decide_eq_false (h3)) (ZN (z6 (Zf (y8 (zD (zN (zI (zB (z7 (Zv (.pointer (some ⟨b2, 0, none⟩)) ?_))))))))))
    refine Zl 2 ⟨b2, #[.slice A xs.length cap], 25⟩ (off := 0) (.slice A xs.length cap) (Zv (.slice B a.length cb) (v6 47 #[.slice B a.length cb] (by kernel_rfl) rfl (fun _ => by kernel_rfl) (fun b3 => ?_)))
    obtain ⟨i0, z0, e1, e2, e3, e4, e5⟩ := al_info
    have hal : xs.length ≤ 97 := by have q := dJ hrel0.2.2; rw [List.length_take, kB] at q; omega
    refine kK (L' := ([⟨b3, #[.slice B a.length cb], 47⟩, ⟨g2, cur2, 9⟩, ⟨g, cur, 9⟩, ⟨b2, #[.slice A xs.length cap], 25⟩, ⟨b1, #[.slice none 0 0], 25⟩] ++ oa) ++ o1 ++ o2) (by rw [List.append_assoc, List.append_assoc]; kernel_rfl) (gJ (sz := 1) (by kernel_rfl) rfl Tryz.underlying23 e1 e2 e3 e4 (by kernel_rfl) hra.top (a := ⟨b3, 0, none⟩) (m := 1) (c := 1) (news := alC (Al.mk B a cb)) (by kernel_rfl) rfl (fun w hO j u hj => ?_) (al_cells _) (by unfold maxLen; omega) (by rw [e5]; omega) (fun u2 ob2 hu2 => ?_))
    · rw [yQ, cell_of_row w b3 (0 + j) (alC (Al.mk B a cb)).toArray 47 _ (hO.held ⟨b3, (alC (Al.mk B a cb)).toArray, 47⟩ (by simp [alC]))]; simpa using hj
    have hra2 := hra.add hu2 hrel.2.1
    obtain ⟨A2, cap2, rfl⟩ := Sl.form hra2.top
    exact vY (L' := ⟨g, cur, 9⟩ :: (⟨b2, #[.slice A xs.length cap], 25⟩ :: (⟨b1, #[.slice none 0 0], 25⟩ :: ((ob2 ++ (oa ++ o2)))))) (fun w hO => own_turn hO) (Zv (.pointer (some ⟨b2, 0, none⟩)) (Zs 1 ⟨b2, #[.slice A xs.length cap], 25⟩ (off := 0) (.slice A2 ((xs ++ [(Al.mk B a cb)]).length) cap2) (zP (zS (zB (z7 (Zu (k := .i64) (((i + 1 : Nat) : Int)) (IntWalk.i64_in _ (by omega)) (Zv (.int .i64 ((i + 1 : Nat) : Int)) (zP (zU (m' := l.length - (i + 1)) (by omega) ⟨i + 1, A2, cap2, _, ob2, (oa ++ o2), _, ⟨by omega, hra2, by rw [show xA (xs ++ [Al.mk B a cb]) = xA xs ++ [a] from by simp [xA]]; exact allO_next hi hy hrel0.2.2 (by have q := hrel.2.2; rw [List.take_of_length_le (by omega), hml] at q; exact q)⟩, rfl, ZU, rfl⟩))))))))))
  have hall : qQ s = some (xA xs) := by have q := hrel0.2.2; rw [List.take_of_length_le (by omega), hll] at q; exact q
  have hfine : FineR (xA xs) := fine_part hs6 (fun x hx => hll ▸ hx) hln (by rw [hll]; exact hall)
  obtain ⟨t, et⟩ : ∃ t, wT (xA xs) = t := ⟨_, rfl⟩
  obtain ⟨htn, hty⟩ := fewR_text (all_ne hall) et
  have htz := xR t
  refine Zd (p := (i : Int) < (l.length : Int)) false (decide_eq_false (h2)) (ZN (z6 (Zf (y8 (zD (zN (zI (zB (z6 (z7 ?_))))))))))
  refine Zl 1 ⟨b2, #[.slice A xs.length cap], 25⟩ (off := 0) (.agg #[.slice A xs.length cap]) (Zc (k := 39) (args := #[.agg #[.slice A xs.length cap]]) (.string (mkS t)) (fun w hO => wZ (by rw [et]) (gtext_any A cap xs w (hra.inn rfl hO (fun x hx => by simp [hx]) (fun x hx => by simp [hx]) hfine) (ht.on hO.below))) (Zv (.string (mkS t)) (ZN (z6 (ZO (Zv (.string (mkS t)) ?_))))))
  by_cases h5 : (t : List UInt8) = []
  · refine zX (.bool true) (by kernel_rfl) (yV (a := t) (b := ([])) rfl (by kernel_rfl) (by kernel_rfl) (decide_eq_true (h5))) ?_
    refine ZY (ZO (Zv (.agg #[.slice none 0 0]) (Zs 2 ⟨b1, #[.slice none 0 0], 25⟩ (off := 0) (.agg #[.slice none 0 0]) (Zv (.int .i64 6) (ZN (zC (z8 ?_)))))))
    exact ZD 2 ⟨b1, #[.slice none 0 0], 25⟩ (off := 0) (.agg #[.slice none 0 0]) (.int .i64 6) Tryz.results12 (fun w hO => ⟨.agg #[.slice none 0 0], [], by rw [(errG_few hs6 hall (htn (by assumption))).1], by rw [(errG_few hs6 hall (htn (by assumption))).2]; exact RgO.nil, qA hO⟩)
  obtain ⟨hfw, htx⟩ := hty h5
  refine zX (.bool false) (by kernel_rfl) (yV (a := t) (b := ([])) rfl (by kernel_rfl) (by kernel_rfl) (decide_eq_false (h5))) (ZX (ZB (z6 (ZO (Zv (.string (mkS t)) (Zv (.int .i64 ((mkS t).size)) ?_))))))
  by_cases h6 : (96 : Int) < (mkS t).size
  · refine zW (p := (96 : Int) < (mkS t).size) true (by kernel_rfl) (fun _ => by kernel_rfl) (decide_eq_true (h6)) ?_
    refine ZY (ZO (Zv (.agg #[.slice none 0 0]) (Zs 2 ⟨b1, #[.slice none 0 0], 25⟩ (off := 0) (.agg #[.slice none 0 0]) (Zv (.int .i64 3) (ZN (zC (z8 ?_)))))))
    exact ZD 2 ⟨b1, #[.slice none 0 0], 25⟩ (off := 0) (.agg #[.slice none 0 0]) (.int .i64 3) Tryz.results12 (fun w hO => ⟨.agg #[.slice none 0 0], [], by rw [(errG_big hs6 hall hfw (by rw [htx]; omega)).1], by rw [(errG_big hs6 hall hfw (by rw [htx]; omega)).2]; exact RgO.nil, qA hO⟩)
  refine Zd (p := (96 : Int) < (mkS t).size) false (decide_eq_false (h6)) (ZX (ZB (ZO (Zl 1 ⟨b2, #[.slice A xs.length cap], 25⟩ (off := 0) (.agg #[.slice A xs.length cap]) (Zs 2 ⟨b1, #[.slice none 0 0], 25⟩ (off := 0) (.agg #[.slice A xs.length cap]) (Zv (.int .i64 0) (zP ?_)))))))
  exact zB (zC (ZD 2 ⟨b1, #[.slice A xs.length cap], 25⟩ (off := 0) (.agg #[.slice A xs.length cap]) (.int .i64 0) Tryz.results12 (fun w hO => ⟨.agg #[.slice A xs.length cap], o1 ++ o2, by rw [(errG_fine hs6 hall hfw (by rw [htx]; omega)).1], by rw [(errG_fine hs6 hall hfw (by rw [htx]; omega)).2]; exact ⟨xs, _, o1, o2, rfl, rfl, rfl, hra⟩, Own.sub [_, _, _] hO⟩)))
theorem fine_allP (s : List UInt8) : FineR ((kC s).getD []) := by
  cases h : kC s with
  | none => exact ⟨Nat.zero_le _, fun a ha => by simp at ha⟩
  | some r =>
    have := fine_get (hY h).1
    rwa [h] at this
theorem own_of {M : List Nat} {W w : World} {x y : Blk} {A B : List Blk} (h : Own M W w (A ++ (x :: (B ++ [y])))) : Own M W w (y :: A) := by
  have h1 : Own M W w (A ++ [y]) := h.sublist (List.Sublist.append (List.Sublist.refl A) ((List.sublist_append_right B [y]).trans (List.sublist_cons_self x _)))
  exact h1.perm List.perm_append_comm
theorem gOf_any (s : List UInt8) (W : World) (hs : s.length ≤ 1000000) (ht : HasLib W) : Calls Tryz.prog 14 #[.string (mkS s)] W fun e w' => ∃ v' ob', e = .returned (.tuple #[v', .int .i64 (jF s)]) ∧ SetO v' (xB ((kC s).getD [])) ob' ∧ Own [] W w' ob' := by
  refine zQ (n := 14) Tryz.func14 rfl (by kernel_rfl) (by kernel_rfl) (ZO (Za (.agg #[.slice none 0 0, .slice none 0 0]) (fun b1 => Zv (.int .i64 0) (ZR (Zv (.string (mkS s)) (yK (k := 12) (args := #[.string (mkS s)]) (fun v' L' => ∃ ob', L' = ob' ++ ([⟨b1, #[.slice none 0 0, .slice none 0 0], 31⟩]) ∧ ∃ rv, v' = .tuple #[rv, .int .i64 (jF s)] ∧ RgO rv ((kC s).getD []) ob') (by kernel_rfl) (fun _ => by kernel_rfl) (fun w hO => (pL s w hs (ht.on hO.below)).mono fun e w' ⟨v', ob', k1, k2, k3⟩ => ⟨Value.tuple #[v', .int .i64 (jF s)], _, k1, ⟨ob', rfl, ⟨v', rfl, k2⟩⟩, Own.joinN hO k3⟩) (fun vp Lx1 hvx1 => ?_)))))))
  obtain ⟨op, rfl, hp0⟩ := hvx1
  obtain ⟨rv, rfl, hp⟩ := hp0
  obtain ⟨xs, u, o1, o2, rfl, rfl, hxs, hra⟩ := hp
  obtain ⟨A, cap, rfl⟩ := Sl.form hra.top
  refine Zv (.tuple #[.agg #[.slice A xs.length cap], .int .i64 (jF s)]) (Zv (.agg #[.slice A xs.length cap]) (Zv (.int .i64 (jF s)) (Za (.agg #[.slice none 0 0]) (fun b2 => Zs 0 ⟨b2, #[.slice none 0 0], 25⟩ (off := 0) (.agg #[.slice A xs.length cap]) (Zv (.int .i64 (jF s)) (ZR (Zl 0 ⟨b2, #[.slice A xs.length cap], 25⟩ (off := 0) (.agg #[.slice A xs.length cap]) (yK (k := 23) (args := #[.agg #[.slice A xs.length cap]]) (fun v' L' => ∃ ob', L' = ob' ++ (⟨b2, #[.slice A xs.length cap], 25⟩ :: ((o1 ++ o2) ++ ([⟨b1, #[.slice none 0 0, .slice none 0 0], 31⟩]))) ∧ SetO v' (xB (xA xs)) ob') (by kernel_rfl) (fun _ => by kernel_rfl) (fun w hO => (gSet_any A cap xs w (hra.inn rfl hO (fun x hx => by simp [hx]) (fun x hx => by simp [hx]) (by rw [hxs]; exact fine_allP s)) (ht.on hO.below)).mono fun e w' ⟨v', ob', k1, k2, k3⟩ => ⟨v', _, k1, ⟨ob', rfl, k2⟩, Own.joinN hO k3⟩) (fun vs Lx2 hvx2 => ?_)))))))))
  obtain ⟨oS, rfl, hS⟩ := hvx2
  obtain ⟨VS, US, cS, dS, rfl⟩ := hS.form
  exact Zv (.int .i64 (jF s)) (vY (L' := ⟨b1, #[.slice none 0 0, .slice none 0 0], 31⟩ :: (oS)) (fun w hO => own_of hO) (Zs 0 ⟨b1, #[.slice none 0 0, .slice none 0 0], 31⟩ (off := 0) (.agg #[.slice VS ((xB (xA xs)).rel.length) cS, .slice US ((xB (xA xs)).pre.length) dS]) (Zv (.int .i64 (jF s)) (ZN (zC (ZD 0 ⟨b1, #[.slice VS ((xB (xA xs)).rel.length) cS, .slice US ((xB (xA xs)).pre.length) dS], 31⟩ (off := 0) (.agg #[.slice VS ((xB (xA xs)).rel.length) cS, .slice US ((xB (xA xs)).pre.length) dS]) (.int .i64 (jF s)) Tryz.results14 (fun w hO => ⟨_, oS, rfl, by rw [← hxs]; exact hS, Own.sub [_] hO⟩)))))))
end
section
open Go.ChangeShapes Go.WideShapes Go.ChangeAt Go.RowKit
theorem own : ownKnob Tryz.prog.godebug = none := by kernel_rfl
theorem nF {H : Type} {enc : TypeId × Value → H} {P : Program} (hl : laidOutB P = true) {W W' : World} (hb : Below W.heap.size W W') :
    ∀ (ts : List TypeId), (∀ t ∈ ts, P.readableRec t = true ∧ t < P.types.size) → ∀ (vs : List Value) (ds : List (DataW H)) (ps : List MemPlace), DataW.TrodAll enc P W 0 (fun _ => true) true ts vs ds ps → (∀ p ∈ ps, p.block < W.heap.size) →
      DataW.TrodAll enc P W' 0 (fun b => decide (b < W.heap.size)) true ts vs ds ps
  | [], _, vs, ds, ps, h, _ => by
    obtain ⟨rfl, rfl, rfl⟩ := trodAll_nil h
    exact trodAll_mk0
  | t :: ts, hr, vs, ds, ps, h, hlt => by
    obtain ⟨v, vs', d, ds', p, q, rfl, rfl, rfl, hd, hrest⟩ := trodAll_cons h
    exact ⟨p, q, Go.RowKit.Below.trod hl (hr t (by simp)).1 (hr t (by simp)).2 hd hb.old (fun x hx => hlt x (by simp [hx])), nF hl hb ts (fun t' ht' => hr t' (by simp [ht'])) vs' ds' q hrest (fun x hx => hlt x (by simp [hx])), rfl⟩
theorem law_end {H : Type} {enc : TypeId × Value → H} {P : Program} {f : Func} {s : ChangeSpec} {W W' : World} {args : Array Value} {ds gs : List (DataW H)} {before : List MemPlace} {T : TypeId}
    (hl : laidOutB P = true) (hr : ∀ t ∈ f.params.toList, P.readableRec t = true ∧ t < P.types.size) (hv : s.vars = []) (hT : f.resultTypes = #[T]) (hB : P.underlying T = some .bool)
    (hW : DataW.Whole enc P f.params.toList s.vars false W args.toList ds gs before) (hf : s.fn H (ds ++ gs) = { results := [.lit (.bool true)], args := ds }) (hb : Below W.heap.size W W') :
    s.post enc P f false true false false W args (.bool true) W' := by
  have hlt : ∀ p ∈ before, p.block < W.heap.size := fun p hp => hW.lt p hp
  have hW' := hW
  obtain ⟨p, q, hA, hV, rfl, _, _⟩ := hW
  rw [hv] at hV
  obtain ⟨rfl, rfl⟩ := trodVars_none hV
  have h2 := nF hl hb _ hr _ _ _ hA (fun x hx => hlt x (by simp [hx]))
  refine ⟨ds, [], p ++ [], [], p, [], hW', ?_, ?_, ?_, World.keptBut_mono (fun x hx => ⟨hx, Or.inr (Or.inl (by simpa using hx))⟩) (hb.frame (· ∈ p ++ [])), fun h => by cases h⟩
  · rw [hf, hT]
    exact trodAll_cons_mk (shut_bool hB true) trodAll_mk0
  · rw [hf]; exact h2
  · rw [hf, hv]; rfl
theorem laidOut : laidOutB Tryz.prog = true := by kernel_rfl
theorem cell_lt {W : World} {a : Addr} {v : Value} (h : W.cell? a = some v) : a.block < W.heap.size := by
  rcases Nat.lt_or_ge a.block W.heap.size with h1 | h1
  · exact h1
  · unfold World.cell? at h
    rw [Array.getElem?_eq_none h1] at h
    simp at h
theorem strCells1 : Tryz.prog.cellsOf 9 = 1 := by kernel_rfl
theorem open_texts {H : Type} {enc : TypeId × Value → H} {W : World} {base : Nat} {v : Value} {d : DataW H} {ps : List MemPlace} (hval : Value.okWide Tryz.prog W .any base 58 v)
    (h : DataW.Trod enc Tryz.prog W 0 (fun _ => true) true 58 v d ps) : ∃ l : List (List UInt8), ReadsT W W.heap.size v l ∧ l.length ≤ maxLen ∧ ∀ x ∈ l, x.length ≤ maxLen := by
  obtain ⟨A, len, cap, rfl⟩ := okWide_slice Tryz.underlying58 hval
  obtain ⟨fuel, hf⟩ := h
  rcases open_strings Tryz.underlying58 Tryz.underlying9 strCells1 hf with ⟨hcs, _⟩ | ⟨a, len', cap', ss, hcs, _, hl, hm, hz, _, hcell, hws⟩
  · simp [Value.cells] at hcs
    obtain ⟨rfl, rfl, rfl⟩ := hcs
    exact ⟨[], ⟨none, 0, rfl, fun h => by cases h⟩, by simp, by simp⟩
  · simp [Value.cells] at hcs
    obtain ⟨rfl, rfl, rfl⟩ := hcs
    simp only [if_true] at hz
    have hlen : ((ss.take len).map (·.data.toList)).length = len := by rw [List.length_map, List.length_take]; omega
    refine ⟨(ss.take len).map (·.data.toList), ⟨some a, cap, by rw [hlen], fun h0 => ⟨a, rfl, ?_, fun j hj => ?_⟩⟩, by rw [hlen]; omega, fun x hx => ?_⟩
    · have := cell_lt (hcell 0 (by omega))
      rwa [fE] at this
    · have hj2 : j < ss.length := by omega
      rw [hcell j hj2, List.getElem_map, List.getElem_take]
      simp only [List.getD, List.getElem?_eq_getElem hj2, Option.getD_some]
      rfl
    · obtain ⟨s, hs, rfl⟩ := List.mem_map.1 hx
      have := hws s (List.mem_of_mem_take hs)
      rw [vE]; exact this
def litCells : DataW Unit → List Value
  | .lit (.int k n) => [Value.int k n]
  | .agg l => l.flatMap fun d => match d with | .lit (.int k n) => [Value.int k n] | _ => []
  | _ => []
def tabCells : DataW Unit → Array Value
  | .agg l => (l.flatMap litCells).toArray
  | _ => #[]
def layAt (h : Array Obj) (g : Nat) (d : DataW Unit) : Array Obj := h.modify g fun
  | .cells _ t frozen => .cells (tabCells d) t frozen
  | o => o
theorem powType : (Tryz.prog.globals[3]?).map (·.type) = some 222 := by kernel_rfl
theorem powNamed : Tryz.prog.globalNamed "internal/strconv.uint64pow10" = some 3 := by kernel_rfl
theorem powCells : Tryz.prog.cellsOf 222 = 20 := by kernel_rfl
theorem u64Cells : Tryz.prog.cellsOf 190 = 1 := by kernel_rfl
theorem hasTab_of {W : World} {l : List (String × DataW Unit)} (h : laidMetH Tryz.prog l W) (e : (l.filter fun x => x.1 == "internal/strconv.uint64pow10") = [("internal/strconv.uint64pow10", Lib.tabData .u64 Lib.pow10Tab)]) : HasTab W := by
  have h2 := h.filter (fun x => x.1 == "internal/strconv.uint64pow10")
  rw [e] at h2
  exact Lib.tabBelow_of_tabIs (Lib.tabIs_of_head (rest := []) powNamed powType Tryz.underlying222 Tryz.underlying190 u64Cells powCells h2)
end
section
theorem fine_all (s : List UInt8) : FineR ((kC s).getD []) := by
  cases h : kC s with
  | none => exact ⟨Nat.zero_le _, fun a ha => by simp at ha⟩
  | some r =>
    have := fine_get (hY h).1
    rwa [h] at this
def aRg : List (List Co) := [[⟨7, 2, ⟨1, 2, 0, [], []⟩⟩, ⟨2, 3, ⟨1, 3, 0, [], []⟩⟩], [⟨8, 1, ⟨2, 0, 0, [], []⟩⟩]]
theorem aG1 : kC [94, 49, 46, 50, 44, 33, 61, 49, 46, 51, 46, 48, 124, 124, 126, 50] = some aRg := by decide +kernel
theorem aG2 : kC [94, 49, 46, 50, 44, 32, 33, 61, 49, 46, 51, 46, 48, 32, 124, 124, 32, 126, 50] = some aRg := by decide +kernel
theorem aG3 : jF [94, 49, 46, 50, 44] = 6 := by decide +kernel
theorem aMay7 : rgMay aRg = true := by decide +kernel
theorem aPr7 : dP aRg = [94, 49, 46, 50, 44, 32, 33, 61, 49, 46, 51, 46, 48, 32, 124, 124, 32, 126, 50] := by decide +kernel
theorem aHas1 : q7 (xB aRg) ⟨2, 9, 0, [], []⟩ = true := by rw [rgSet_has aMay7 (by decide +kernel)]; decide +kernel
theorem aHas2 : q7 (xB aRg) ⟨1, 3, 0, [], []⟩ = false := by rw [rgSet_has aMay7 (by decide +kernel)]; decide +kernel
theorem aD1 : (kC [94, 49, 46, 50, 44, 33, 61, 49, 46, 51, 46, 48, 124, 124, 126, 50]).getD [] = aRg := by rw [aG1]; rfl
theorem aD2 : (kC [94, 49, 46, 50, 44, 32, 33, 61, 49, 46, 51, 46, 48, 32, 124, 124, 32, 126, 50]).getD [] = aRg := by rw [aG2]; rfl
theorem awake7_any (W : World) (ht : HasLib W) : Calls Tryz.prog 11 #[] W fun e w' => e = .returned (.bool true) ∧ Below W.heap.size W w' := by
  refine zQ (n := 45) Tryz.func11 rfl (by kernel_rfl) (by kernel_rfl) (ZO (Zv (.bool false) (ZR (yK (k := 12) (args := #[.string ⟨#[94, 49, 46, 50, 44, 33, 61, 49, 46, 51, 46, 48, 124, 124, 126, 50]⟩]) (fun v' L' => ∃ sv ob', v' = .tuple #[sv, .int .i64 0] ∧ L' = ob' ++ ([]) ∧ RgO sv (aRg) ob') (by kernel_rfl) (fun _ => by kernel_rfl) (fun w hO => (pL ([94, 49, 46, 50, 44, 33, 61, 49, 46, 51, 46, 48, 124, 124, 126, 50]) w (by decide) (ht.on hO.below)).mono fun e w' ⟨v', ob', k1, k2, k3⟩ => ⟨.tuple #[v', .int .i64 0], _, k1.trans (by rw [show jF ([94, 49, 46, 50, 44, 33, 61, 49, 46, 51, 46, 48, 124, 124, 126, 50]) = 0 from (hY aG1).1]), ⟨v', ob', rfl, rfl, by rw [show (kC ([94, 49, 46, 50, 44, 33, 61, 49, 46, 51, 46, 48, 124, 124, 126, 50])).getD [] = aRg from aD1] at k2; exact k2⟩, Own.joinN hO k3⟩) (fun tv L1 hv1 => ?_)))))
  obtain ⟨sv1, o1, rfl, rfl, hr1⟩ := hv1
  obtain ⟨xs1, u1, p1, q1, rfl, rfl, hx1, ha1⟩ := hr1
  obtain ⟨A1, c1, rfl⟩ := Sl.form ha1.top
  refine kK (L' := p1 ++ q1) (List.append_nil _) (Zv (.tuple #[.agg #[.slice A1 xs1.length c1], .int .i64 0]) (Zv (.agg #[.slice A1 xs1.length c1]) (Zv (.int .i64 0) (Za (.agg #[.slice none 0 0]) (fun b1 => Zs 0 ⟨b1, #[.slice none 0 0], 25⟩ (off := 0) (.agg #[.slice A1 xs1.length c1]) (Zv (.int .i64 0) (ZR (yK (k := 14) (args := #[.string ⟨#[94, 49, 46, 50, 44, 32, 33, 61, 49, 46, 51, 46, 48, 32, 124, 124, 32, 126, 50]⟩]) (fun v' L' => ∃ sv ob', v' = .tuple #[sv, .int .i64 0] ∧ L' = ob' ++ (⟨b1, #[.slice A1 xs1.length c1], 25⟩ :: ((p1 ++ q1))) ∧ SetO sv (xB (aRg)) ob') (by kernel_rfl) (fun _ => by kernel_rfl) (fun w hO => (gOf_any ([94, 49, 46, 50, 44, 32, 33, 61, 49, 46, 51, 46, 48, 32, 124, 124, 32, 126, 50]) w (by decide) (ht.on hO.below)).mono fun e w' ⟨v', ob', k1, k2, k3⟩ => ⟨.tuple #[v', .int .i64 0], _, k1.trans (by rw [show jF ([94, 49, 46, 50, 44, 32, 33, 61, 49, 46, 51, 46, 48, 32, 124, 124, 32, 126, 50]) = 0 from (hY aG2).1]), ⟨v', ob', rfl, rfl, by rw [show (kC ([94, 49, 46, 50, 44, 32, 33, 61, 49, 46, 51, 46, 48, 32, 124, 124, 32, 126, 50])).getD [] = aRg from aD2] at k2; exact k2⟩, Own.joinN hO k3⟩) (fun tv L2 hv2 => ?_)))))))))
  obtain ⟨sv2, o2, rfl, rfl, hr2⟩ := hv2
  obtain ⟨V2, U2, c2, d2, rfl⟩ := hr2.form
  refine Zv (.tuple #[.agg #[.slice V2 ((xB (aRg)).rel.length) c2, .slice U2 ((xB (aRg)).pre.length) d2], .int .i64 0]) (Zv (.agg #[.slice V2 ((xB (aRg)).rel.length) c2, .slice U2 ((xB (aRg)).pre.length) d2]) (Zv (.int .i64 0) (Za (.agg #[.slice none 0 0, .slice none 0 0]) (fun b2 => Zs 0 ⟨b2, #[.slice none 0 0, .slice none 0 0], 31⟩ (off := 0) (.agg #[.slice V2 ((xB (aRg)).rel.length) c2, .slice U2 ((xB (aRg)).pre.length) d2]) (Zv (.int .i64 0) (ZR (yK (k := 12) (args := #[.string ⟨#[94, 49, 46, 50, 44]⟩]) (fun v' L' => ∃ sv ob', v' = .tuple #[sv, .int .i64 6] ∧ L' = ob' ++ (⟨b2, #[.slice V2 ((xB (aRg)).rel.length) c2, .slice U2 ((xB (aRg)).pre.length) d2], 31⟩ :: (o2 ++ (⟨b1, #[.slice A1 xs1.length c1], 25⟩ :: ((p1 ++ q1))))) ∧ RgO sv ((kC [94, 49, 46, 50, 44]).getD []) ob') (by kernel_rfl) (fun _ => by kernel_rfl) (fun w hO => (pL ([94, 49, 46, 50, 44]) w (by decide) (ht.on hO.below)).mono fun e w' ⟨v', ob', k1, k2, k3⟩ => ⟨.tuple #[v', .int .i64 6], _, k1.trans (by rw [show jF ([94, 49, 46, 50, 44]) = 6 from aG3]), ⟨v', ob', rfl, rfl, by rw [show (kC ([94, 49, 46, 50, 44])).getD [] = (kC [94, 49, 46, 50, 44]).getD [] from rfl] at k2; exact k2⟩, Own.joinN hO k3⟩) (fun tv L3 hv3 => ?_))))))))
  obtain ⟨sv3, o3, rfl, rfl, hr3⟩ := hv3
  obtain ⟨xs3, u3, p3, q3, rfl, rfl, hx3, ha3⟩ := hr3
  obtain ⟨A3, c3, rfl⟩ := Sl.form ha3.top
  refine Zv (.tuple #[.agg #[.slice A3 xs3.length c3], .int .i64 6]) (Zv (.agg #[.slice A3 xs3.length c3]) (Zv (.int .i64 6) (Za (.agg #[.slice none 0 0]) (fun b3 => Zs 0 ⟨b3, #[.slice none 0 0], 25⟩ (off := 0) (.agg #[.slice A3 xs3.length c3]) (Zv (.int .i64 6) (ZR (Zv (.int .i64 0) (Zv (.bool true) ?_))))))))
  refine Zv (.bool true) (Zv (.int .i64 0) (Zv (.bool true) (Zv (.bool true) (Zv (.bool true) (mJ ⟨b1, #[.slice A1 xs1.length c1], 25⟩ (off := 0) (.agg #[.slice A1 xs1.length c1]) (by kernel_rfl) rfl (by simp) (by kernel_rfl) (by kernel_rfl) (Zc (k := 21) (args := #[.agg #[.slice A1 xs1.length c1]]) (.string (mkS [94, 49, 46, 50, 44, 32, 33, 61, 49, 46, 51, 46, 48, 32, 124, 124, 32, 126, 50])) (fun w hO => wZ (by rw [hx1, aPr7]) (gPrint_any A1 c1 xs1 w (RgA.inn ha1 rfl hO (fun x hx => by simp [hx]) (fun x hx => by simp [hx]) (by rw [hx1]; exact (aD1 ▸ fine_all ([94, 49, 46, 50, 44, 33, 61, 49, 46, 51, 46, 48, 124, 124, 126, 50])))) (ht.on hO.below))) (zX (.bool true) (by kernel_rfl) (yV (a := ([94, 49, 46, 50, 44, 32, 33, 61, 49, 46, 51, 46, 48, 32, 124, 124, 32, 126, 50])) (b := ([94, 49, 46, 50, 44, 32, 33, 61, 49, 46, 51, 46, 48, 32, 124, 124, 32, 126, 50])) rfl (by kernel_rfl) (by kernel_rfl) (decide_eq_true (rfl))) (Zv (.bool true) (Zv (.bool true) (Zv (.int .i64 6) (Zv (.bool true) ?_)))))))))))
  refine Zv (.bool true) (Zv (.bool true) (mJ ⟨b2, #[.slice V2 ((xB (aRg)).rel.length) c2, .slice U2 ((xB (aRg)).pre.length) d2], 31⟩ (off := 0) (.agg #[.slice V2 ((xB (aRg)).rel.length) c2, .slice U2 ((xB (aRg)).pre.length) d2]) (by kernel_rfl) rfl (by simp) (by kernel_rfl) (by kernel_rfl) (Zv (.agg #[.int .i64 2, .int .i64 9, .int .i64 0, .string ⟨#[]⟩, .string ⟨#[]⟩]) (Zc (k := 30) (args := #[.agg #[.slice V2 ((xB (aRg)).rel.length) c2, .slice U2 ((xB (aRg)).pre.length) d2], .agg #[.int .i64 2, .int .i64 9, .int .i64 0, .string ⟨#[]⟩, .string ⟨#[]⟩]]) (.bool true) (fun w hO => ret_b (aHas1) (fN V2 U2 c2 d2 (xB (aRg)) ⟨2, 9, 0, [], []⟩ w (SetO.inn hr2 hO (fun x hx => by simp [hx]) ((fQ (aRg))) (by decide)) ⟨by decide, by decide⟩)) (Zv (.bool true) (Zv (.bool true) (mJ ⟨b2, #[.slice V2 ((xB (aRg)).rel.length) c2, .slice U2 ((xB (aRg)).pre.length) d2], 31⟩ (off := 0) (.agg #[.slice V2 ((xB (aRg)).rel.length) c2, .slice U2 ((xB (aRg)).pre.length) d2]) (by kernel_rfl) rfl (by simp) (by kernel_rfl) (by kernel_rfl) (Zv (.agg #[.int .i64 1, .int .i64 3, .int .i64 0, .string ⟨#[]⟩, .string ⟨#[]⟩]) (Zc (k := 30) (args := #[.agg #[.slice V2 ((xB (aRg)).rel.length) c2, .slice U2 ((xB (aRg)).pre.length) d2], .agg #[.int .i64 1, .int .i64 3, .int .i64 0, .string ⟨#[]⟩, .string ⟨#[]⟩]]) (.bool false) (fun w hO => ret_b (aHas2) (fN V2 U2 c2 d2 (xB (aRg)) ⟨1, 3, 0, [], []⟩ w (SetO.inn hr2 hO (fun x hx => by simp [hx]) ((fQ (aRg))) (by decide)) ⟨by decide, by decide⟩)) (Zv (.bool true) (Zv (.bool true) ?_)))))))))))
  exact Zv (.bool true) (ZN (zC (ZF (.bool true) Tryz.results11 (fun w hO => ⟨rfl, hO.below⟩))))
end
section
theorem genCo_any (v : Value) (l : List Int) (i : Nat) (W : World) (hv : ReadsI W W.heap.size v l) (hl : l.length ≤ 9223372036854775807) (hi : i ≤ 100000) :
    Calls Tryz.prog 31 #[v, .int .i64 (i : Int)] W fun e w' => e = .returned (coV (xP l i)) ∧ Below W.heap.size W w' := by
  obtain ⟨k5, e5, q5⟩ := jL (atL l (i + 5)) 9 (by omega)
  have f5 := uX hv hl (i + 5) 9 (by omega) (by omega) (by omega) e5
  obtain ⟨k6, e6, q6⟩ := jL (atL l (i + 6)) 3 (by omega)
  have f6 := uX hv hl (i + 6) 3 (by omega) (by omega) (by omega) e6
  have hk6 : k6 = 0 ∨ k6 = 1 ∨ k6 = 2 := by omega
  rcases hk6 with rfl | rfl | rfl
  · refine zQ (n := 47) Tryz.func31 rfl (by kernel_rfl) (by kernel_rfl) ?_
    refine ZO (Za (.agg #[.int .i64 0, .int .i64 0, .int .i64 0, .int .i64 0, .int .i64 0, .string ⟨#[]⟩, .string ⟨#[]⟩]) (fun b1 => ZR (Zv (v) (Zv (.int .i64 ((i : Nat) : Int)) (Zu (k := .i64) (((i + 5 : Nat) : Int)) (IntWalk.i64_in _ (by omega)) (Zc (k := 51) (args := #[v, .int .i64 ((i + 5 : Nat) : Int), .int .i64 9]) (.int .i64 (k5 : Int)) (fun w hO => f5 w hO.below) (Zu (k := .i64) ((1 : Int) + (k5 : Int)) (IntWalk.i64_in _ (by omega)) ?_)))))))
    refine Zv (v) (Zv (.int .i64 ((i : Nat) : Int)) (Zu (k := .i64) (((i + 6 : Nat) : Int)) (IntWalk.i64_in _ (by omega)) (Zc (k := 51) (args := #[v, .int .i64 ((i + 6 : Nat) : Int), .int .i64 3]) (.int .i64 0) (fun w hO => f6 w hO.below) (Zv (.int .i64 1) (Zv (v) (Zv (.int .i64 ((i : Nat) : Int)) (Zc (k := 26) (args := #[v, .int .i64 ((i : Nat) : Int)]) (y5 (zR l i)) (fun w hO => gen_any v l i w ((hv.below hO.below).more hO.below.size) hl (by omega)) (Zv (.agg #[.int .i64 ((1 : Int) + (k5 : Int)), .int .i64 1, .int .i64 ((zR l i).maj), .int .i64 ((zR l i).min), .int .i64 ((zR l i).pat), .string (mkS (zR l i).pre), .string (mkS (zR l i).build)]) (Za (.agg #[.int .i64 0, .int .i64 0, .int .i64 0, .int .i64 0, .int .i64 0, .string ⟨#[]⟩, .string ⟨#[]⟩]) (fun b2 => Zs 0 ⟨b2, #[.int .i64 0, .int .i64 0, .int .i64 0, .int .i64 0, .int .i64 0, .string ⟨#[]⟩, .string ⟨#[]⟩], 51⟩ (off := 0) (.agg #[.int .i64 ((1 : Int) + (k5 : Int)), .int .i64 1, .int .i64 ((zR l i).maj), .int .i64 ((zR l i).min), .int .i64 ((zR l i).pat), .string (mkS (zR l i).pre), .string (mkS (zR l i).build)]) (zP ?_)))))))))))
    refine zB (z6 (ZO (Zv (.pointer (some ⟨b2, 0, none⟩)) (Zl 0 ⟨b2, #[.int .i64 ((1 : Int) + (k5 : Int)), .int .i64 1, .int .i64 ((zR l i).maj), .int .i64 ((zR l i).min), .int .i64 ((zR l i).pat), .string (mkS (zR l i).pre), .string (mkS (zR l i).build)], 51⟩ (off := 0) (.int .i64 ((1 : Int) + (k5 : Int))) ?_))))
    by_cases h1 : ((1 : Int) + (k5 : Int) : Int) = 9
    · refine zW (p := ((1 : Int) + (k5 : Int) : Int) = 9) true (by kernel_rfl) (fun _ => by kernel_rfl) (decide_eq_true (h1)) ?_
      refine ZY (z7 (Zv (.pointer (some ⟨b2, 1, none⟩)) (Zl 0 ⟨b2, #[.int .i64 ((1 : Int) + (k5 : Int)), .int .i64 1, .int .i64 ((zR l i).maj), .int .i64 ((zR l i).min), .int .i64 ((zR l i).pat), .string (mkS (zR l i).pre), .string (mkS (zR l i).build)], 51⟩ (off := 1) (.int .i64 1) (Zv (.int .i64 0) (Zv (.pointer (some ⟨b2, 1, none⟩)) (Zs 0 ⟨b2, #[.int .i64 ((1 : Int) + (k5 : Int)), .int .i64 1, .int .i64 ((zR l i).maj), .int .i64 ((zR l i).min), .int .i64 ((zR l i).pat), .string (mkS (zR l i).pre), .string (mkS (zR l i).build)], 51⟩ (off := 1) (.int .i64 0) (ZN (z6 ?_))))))))
      refine z7 (Zv (.pointer (some ⟨b2, 2, none⟩)) (Zv (.pointer (some ⟨b2, 6, none⟩)) (Zs 0 ⟨b2, #[.int .i64 ((1 : Int) + (k5 : Int)), .int .i64 0, .int .i64 ((zR l i).maj), .int .i64 ((zR l i).min), .int .i64 ((zR l i).pat), .string (mkS (zR l i).pre), .string (mkS (zR l i).build)], 51⟩ (off := 6) (.string ⟨#[]⟩) (ZN (z6 (ZO (Zv (.pointer (some ⟨b2, 1, none⟩)) (Zl 0 ⟨b2, #[.int .i64 ((1 : Int) + (k5 : Int)), .int .i64 0, .int .i64 ((zR l i).maj), .int .i64 ((zR l i).min), .int .i64 ((zR l i).pat), .string (mkS (zR l i).pre), .string ⟨#[]⟩], 51⟩ (off := 1) (.int .i64 0) (Zv (.bool true) ?_)))))))))
      refine ZY (ZO (Zv (.pointer (some ⟨b2, 2, none⟩)) (Zv (.pointer (some ⟨b2, 5, none⟩)) (Zs 0 ⟨b2, #[.int .i64 ((1 : Int) + (k5 : Int)), .int .i64 0, .int .i64 ((zR l i).maj), .int .i64 ((zR l i).min), .int .i64 ((zR l i).pat), .string (mkS (zR l i).pre), .string ⟨#[]⟩], 51⟩ (off := 5) (.string ⟨#[]⟩) (ZN (z7 (Zv (.pointer (some ⟨b2, 2, none⟩)) ?_)))))))
      refine Zv (.pointer (some ⟨b2, 4, none⟩)) (Zs 0 ⟨b2, #[.int .i64 ((1 : Int) + (k5 : Int)), .int .i64 0, .int .i64 ((zR l i).maj), .int .i64 ((zR l i).min), .int .i64 ((zR l i).pat), .string ⟨#[]⟩, .string ⟨#[]⟩], 51⟩ (off := 4) (.int .i64 0) (ZN (z6 (ZO (Zv (.pointer (some ⟨b2, 1, none⟩)) (Zl 0 ⟨b2, #[.int .i64 ((1 : Int) + (k5 : Int)), .int .i64 0, .int .i64 ((zR l i).maj), .int .i64 ((zR l i).min), .int .i64 0, .string ⟨#[]⟩, .string ⟨#[]⟩], 51⟩ (off := 1) (.int .i64 0) (Zv (.bool true) (zP (zB ?_)))))))))
      refine Zt (z7 (Zv (.pointer (some ⟨b2, 2, none⟩)) (Zv (.pointer (some ⟨b2, 3, none⟩)) (Zs 0 ⟨b2, #[.int .i64 ((1 : Int) + (k5 : Int)), .int .i64 0, .int .i64 ((zR l i).maj), .int .i64 ((zR l i).min), .int .i64 0, .string ⟨#[]⟩, .string ⟨#[]⟩], 51⟩ (off := 3) (.int .i64 0) (ZN (z6 (ZO (Zv (.pointer (some ⟨b2, 1, none⟩)) (Zl 0 ⟨b2, #[.int .i64 ((1 : Int) + (k5 : Int)), .int .i64 0, .int .i64 ((zR l i).maj), .int .i64 0, .int .i64 0, .string ⟨#[]⟩, .string ⟨#[]⟩], 51⟩ (off := 1) (.int .i64 0) ?_)))))))))
      refine Zv (.bool true) (ZY (z7 (Zv (.pointer (some ⟨b2, 2, none⟩)) (Zv (.pointer (some ⟨b2, 2, none⟩)) (Zs 0 ⟨b2, #[.int .i64 ((1 : Int) + (k5 : Int)), .int .i64 0, .int .i64 ((zR l i).maj), .int .i64 0, .int .i64 0, .string ⟨#[]⟩, .string ⟨#[]⟩], 51⟩ (off := 2) (.int .i64 0) (ZN (z6 (z7 ?_))))))))
      exact Zl 0 ⟨b2, #[.int .i64 ((1 : Int) + (k5 : Int)), .int .i64 0, .int .i64 0, .int .i64 0, .int .i64 0, .string ⟨#[]⟩, .string ⟨#[]⟩], 51⟩ (off := 0) (.agg #[.int .i64 ((1 : Int) + (k5 : Int)), .int .i64 0, .int .i64 0, .int .i64 0, .int .i64 0, .string ⟨#[]⟩, .string ⟨#[]⟩]) (Zs 1 ⟨b1, #[.int .i64 0, .int .i64 0, .int .i64 0, .int .i64 0, .int .i64 0, .string ⟨#[]⟩, .string ⟨#[]⟩], 51⟩ (off := 0) (.agg #[.int .i64 ((1 : Int) + (k5 : Int)), .int .i64 0, .int .i64 0, .int .i64 0, .int .i64 0, .string ⟨#[]⟩, .string ⟨#[]⟩]) (ZN (zC (ZC 1 ⟨b1, #[.int .i64 ((1 : Int) + (k5 : Int)), .int .i64 0, .int .i64 0, .int .i64 0, .int .i64 0, .string ⟨#[]⟩, .string ⟨#[]⟩], 51⟩ (off := 0) (.agg #[.int .i64 ((1 : Int) + (k5 : Int)), .int .i64 0, .int .i64 0, .int .i64 0, .int .i64 0, .string ⟨#[]⟩, .string ⟨#[]⟩]) Tryz.results31 (fun w hO => ⟨by rw [show coV (xP l i) = .agg #[.int .i64 ((1 : Int) + (k5 : Int)), .int .i64 0, .int .i64 0, .int .i64 0, .int .i64 0, .string ⟨#[]⟩, .string ⟨#[]⟩] from by unfold xP wS coV; rw [show plc (atL l (i + 5)) 9 = _ from e5, show plc (atL l (i + 6)) 3 = _ from e6]; simp [h1]; try rfl], hO.below⟩)))))
    refine Zd (p := ((1 : Int) + (k5 : Int) : Int) = 9) false (decide_eq_false (h1)) (ZX (ZB (ZO (Zv (.pointer (some ⟨b2, 2, none⟩)) (Zv (.pointer (some ⟨b2, 6, none⟩)) (Zs 0 ⟨b2, #[.int .i64 ((1 : Int) + (k5 : Int)), .int .i64 1, .int .i64 ((zR l i).maj), .int .i64 ((zR l i).min), .int .i64 ((zR l i).pat), .string (mkS (zR l i).pre), .string (mkS (zR l i).build)], 51⟩ (off := 6) (.string ⟨#[]⟩) (zP ?_)))))))
    refine zB (z6 (ZO (Zv (.pointer (some ⟨b2, 1, none⟩)) (Zl 0 ⟨b2, #[.int .i64 ((1 : Int) + (k5 : Int)), .int .i64 1, .int .i64 ((zR l i).maj), .int .i64 ((zR l i).min), .int .i64 ((zR l i).pat), .string (mkS (zR l i).pre), .string ⟨#[]⟩], 51⟩ (off := 1) (.int .i64 1) (Zv (.bool true) (ZY (z6 (z7 ?_))))))))
    refine Zv (.pointer (some ⟨b2, 2, none⟩)) (Zv (.pointer (some ⟨b2, 5, none⟩)) (Zs 0 ⟨b2, #[.int .i64 ((1 : Int) + (k5 : Int)), .int .i64 1, .int .i64 ((zR l i).maj), .int .i64 ((zR l i).min), .int .i64 ((zR l i).pat), .string (mkS (zR l i).pre), .string ⟨#[]⟩], 51⟩ (off := 5) (.string ⟨#[]⟩) (ZN (z7 (Zv (.pointer (some ⟨b2, 2, none⟩)) (Zv (.pointer (some ⟨b2, 4, none⟩)) (Zs 0 ⟨b2, #[.int .i64 ((1 : Int) + (k5 : Int)), .int .i64 1, .int .i64 ((zR l i).maj), .int .i64 ((zR l i).min), .int .i64 ((zR l i).pat), .string ⟨#[]⟩, .string ⟨#[]⟩], 51⟩ (off := 4) (.int .i64 0) (ZN (z6 ?_)))))))))
    refine ZO (Zv (.pointer (some ⟨b2, 1, none⟩)) (Zl 0 ⟨b2, #[.int .i64 ((1 : Int) + (k5 : Int)), .int .i64 1, .int .i64 ((zR l i).maj), .int .i64 ((zR l i).min), .int .i64 0, .string ⟨#[]⟩, .string ⟨#[]⟩], 51⟩ (off := 1) (.int .i64 1) (Zv (.bool true) (ZY (z7 (Zv (.pointer (some ⟨b2, 2, none⟩)) (Zv (.pointer (some ⟨b2, 3, none⟩)) (Zs 0 ⟨b2, #[.int .i64 ((1 : Int) + (k5 : Int)), .int .i64 1, .int .i64 ((zR l i).maj), .int .i64 ((zR l i).min), .int .i64 0, .string ⟨#[]⟩, .string ⟨#[]⟩], 51⟩ (off := 3) (.int .i64 0) ?_))))))))
    refine ZN (z6 (ZO (Zv (.pointer (some ⟨b2, 1, none⟩)) (Zl 0 ⟨b2, #[.int .i64 ((1 : Int) + (k5 : Int)), .int .i64 1, .int .i64 ((zR l i).maj), .int .i64 0, .int .i64 0, .string ⟨#[]⟩, .string ⟨#[]⟩], 51⟩ (off := 1) (.int .i64 1) (Zv (.bool false) (ZX (yS ?_)))))))
    exact zB (ZO (Zl 0 ⟨b2, #[.int .i64 ((1 : Int) + (k5 : Int)), .int .i64 1, .int .i64 ((zR l i).maj), .int .i64 0, .int .i64 0, .string ⟨#[]⟩, .string ⟨#[]⟩], 51⟩ (off := 0) (.agg #[.int .i64 ((1 : Int) + (k5 : Int)), .int .i64 1, .int .i64 ((zR l i).maj), .int .i64 0, .int .i64 0, .string ⟨#[]⟩, .string ⟨#[]⟩]) (Zs 1 ⟨b1, #[.int .i64 0, .int .i64 0, .int .i64 0, .int .i64 0, .int .i64 0, .string ⟨#[]⟩, .string ⟨#[]⟩], 51⟩ (off := 0) (.agg #[.int .i64 ((1 : Int) + (k5 : Int)), .int .i64 1, .int .i64 ((zR l i).maj), .int .i64 0, .int .i64 0, .string ⟨#[]⟩, .string ⟨#[]⟩]) (ZN (zC (ZC 1 ⟨b1, #[.int .i64 ((1 : Int) + (k5 : Int)), .int .i64 1, .int .i64 ((zR l i).maj), .int .i64 0, .int .i64 0, .string ⟨#[]⟩, .string ⟨#[]⟩], 51⟩ (off := 0) (.agg #[.int .i64 ((1 : Int) + (k5 : Int)), .int .i64 1, .int .i64 ((zR l i).maj), .int .i64 0, .int .i64 0, .string ⟨#[]⟩, .string ⟨#[]⟩]) Tryz.results31 (fun w hO => ⟨by rw [show coV (xP l i) = .agg #[.int .i64 ((1 : Int) + (k5 : Int)), .int .i64 1, .int .i64 ((zR l i).maj), .int .i64 0, .int .i64 0, .string ⟨#[]⟩, .string ⟨#[]⟩] from by unfold xP wS coV; rw [show plc (atL l (i + 5)) 9 = _ from e5, show plc (atL l (i + 6)) 3 = _ from e6]; simp [h1]; try rfl], hO.below⟩)))))))
  · refine zQ (n := 47) Tryz.func31 rfl (by kernel_rfl) (by kernel_rfl) ?_
    refine ZO (Za (.agg #[.int .i64 0, .int .i64 0, .int .i64 0, .int .i64 0, .int .i64 0, .string ⟨#[]⟩, .string ⟨#[]⟩]) (fun b1 => ZR (Zv (v) (Zv (.int .i64 ((i : Nat) : Int)) (Zu (k := .i64) (((i + 5 : Nat) : Int)) (IntWalk.i64_in _ (by omega)) (Zc (k := 51) (args := #[v, .int .i64 ((i + 5 : Nat) : Int), .int .i64 9]) (.int .i64 (k5 : Int)) (fun w hO => f5 w hO.below) (Zu (k := .i64) ((1 : Int) + (k5 : Int)) (IntWalk.i64_in _ (by omega)) ?_)))))))
    refine Zv (v) (Zv (.int .i64 ((i : Nat) : Int)) (Zu (k := .i64) (((i + 6 : Nat) : Int)) (IntWalk.i64_in _ (by omega)) (Zc (k := 51) (args := #[v, .int .i64 ((i + 6 : Nat) : Int), .int .i64 3]) (.int .i64 1) (fun w hO => f6 w hO.below) (Zv (.int .i64 2) (Zv (v) (Zv (.int .i64 ((i : Nat) : Int)) (Zc (k := 26) (args := #[v, .int .i64 ((i : Nat) : Int)]) (y5 (zR l i)) (fun w hO => gen_any v l i w ((hv.below hO.below).more hO.below.size) hl (by omega)) (Zv (.agg #[.int .i64 ((1 : Int) + (k5 : Int)), .int .i64 2, .int .i64 ((zR l i).maj), .int .i64 ((zR l i).min), .int .i64 ((zR l i).pat), .string (mkS (zR l i).pre), .string (mkS (zR l i).build)]) (Za (.agg #[.int .i64 0, .int .i64 0, .int .i64 0, .int .i64 0, .int .i64 0, .string ⟨#[]⟩, .string ⟨#[]⟩]) (fun b2 => Zs 0 ⟨b2, #[.int .i64 0, .int .i64 0, .int .i64 0, .int .i64 0, .int .i64 0, .string ⟨#[]⟩, .string ⟨#[]⟩], 51⟩ (off := 0) (.agg #[.int .i64 ((1 : Int) + (k5 : Int)), .int .i64 2, .int .i64 ((zR l i).maj), .int .i64 ((zR l i).min), .int .i64 ((zR l i).pat), .string (mkS (zR l i).pre), .string (mkS (zR l i).build)]) (zP ?_)))))))))))
    refine zB (z6 (ZO (Zv (.pointer (some ⟨b2, 0, none⟩)) (Zl 0 ⟨b2, #[.int .i64 ((1 : Int) + (k5 : Int)), .int .i64 2, .int .i64 ((zR l i).maj), .int .i64 ((zR l i).min), .int .i64 ((zR l i).pat), .string (mkS (zR l i).pre), .string (mkS (zR l i).build)], 51⟩ (off := 0) (.int .i64 ((1 : Int) + (k5 : Int))) ?_))))
    by_cases h1 : ((1 : Int) + (k5 : Int) : Int) = 9
    · refine zW (p := ((1 : Int) + (k5 : Int) : Int) = 9) true (by kernel_rfl) (fun _ => by kernel_rfl) (decide_eq_true (h1)) ?_
      refine ZY (z7 (Zv (.pointer (some ⟨b2, 1, none⟩)) (Zl 0 ⟨b2, #[.int .i64 ((1 : Int) + (k5 : Int)), .int .i64 2, .int .i64 ((zR l i).maj), .int .i64 ((zR l i).min), .int .i64 ((zR l i).pat), .string (mkS (zR l i).pre), .string (mkS (zR l i).build)], 51⟩ (off := 1) (.int .i64 2) (Zv (.int .i64 1) (Zv (.pointer (some ⟨b2, 1, none⟩)) (Zs 0 ⟨b2, #[.int .i64 ((1 : Int) + (k5 : Int)), .int .i64 2, .int .i64 ((zR l i).maj), .int .i64 ((zR l i).min), .int .i64 ((zR l i).pat), .string (mkS (zR l i).pre), .string (mkS (zR l i).build)], 51⟩ (off := 1) (.int .i64 1) (ZN (z6 ?_))))))))
      refine z7 (Zv (.pointer (some ⟨b2, 2, none⟩)) (Zv (.pointer (some ⟨b2, 6, none⟩)) (Zs 0 ⟨b2, #[.int .i64 ((1 : Int) + (k5 : Int)), .int .i64 1, .int .i64 ((zR l i).maj), .int .i64 ((zR l i).min), .int .i64 ((zR l i).pat), .string (mkS (zR l i).pre), .string (mkS (zR l i).build)], 51⟩ (off := 6) (.string ⟨#[]⟩) (ZN (z6 (ZO (Zv (.pointer (some ⟨b2, 1, none⟩)) (Zl 0 ⟨b2, #[.int .i64 ((1 : Int) + (k5 : Int)), .int .i64 1, .int .i64 ((zR l i).maj), .int .i64 ((zR l i).min), .int .i64 ((zR l i).pat), .string (mkS (zR l i).pre), .string ⟨#[]⟩], 51⟩ (off := 1) (.int .i64 1) (Zv (.bool true) ?_)))))))))
      refine ZY (ZO (Zv (.pointer (some ⟨b2, 2, none⟩)) (Zv (.pointer (some ⟨b2, 5, none⟩)) (Zs 0 ⟨b2, #[.int .i64 ((1 : Int) + (k5 : Int)), .int .i64 1, .int .i64 ((zR l i).maj), .int .i64 ((zR l i).min), .int .i64 ((zR l i).pat), .string (mkS (zR l i).pre), .string ⟨#[]⟩], 51⟩ (off := 5) (.string ⟨#[]⟩) (ZN (z7 (Zv (.pointer (some ⟨b2, 2, none⟩)) ?_)))))))
      refine Zv (.pointer (some ⟨b2, 4, none⟩)) (Zs 0 ⟨b2, #[.int .i64 ((1 : Int) + (k5 : Int)), .int .i64 1, .int .i64 ((zR l i).maj), .int .i64 ((zR l i).min), .int .i64 ((zR l i).pat), .string ⟨#[]⟩, .string ⟨#[]⟩], 51⟩ (off := 4) (.int .i64 0) (ZN (z6 (ZO (Zv (.pointer (some ⟨b2, 1, none⟩)) (Zl 0 ⟨b2, #[.int .i64 ((1 : Int) + (k5 : Int)), .int .i64 1, .int .i64 ((zR l i).maj), .int .i64 ((zR l i).min), .int .i64 0, .string ⟨#[]⟩, .string ⟨#[]⟩], 51⟩ (off := 1) (.int .i64 1) (Zv (.bool true) (zP (zB ?_)))))))))
      refine Zt (z7 (Zv (.pointer (some ⟨b2, 2, none⟩)) (Zv (.pointer (some ⟨b2, 3, none⟩)) (Zs 0 ⟨b2, #[.int .i64 ((1 : Int) + (k5 : Int)), .int .i64 1, .int .i64 ((zR l i).maj), .int .i64 ((zR l i).min), .int .i64 0, .string ⟨#[]⟩, .string ⟨#[]⟩], 51⟩ (off := 3) (.int .i64 0) (ZN (z6 (ZO (Zv (.pointer (some ⟨b2, 1, none⟩)) (Zl 0 ⟨b2, #[.int .i64 ((1 : Int) + (k5 : Int)), .int .i64 1, .int .i64 ((zR l i).maj), .int .i64 0, .int .i64 0, .string ⟨#[]⟩, .string ⟨#[]⟩], 51⟩ (off := 1) (.int .i64 1) ?_)))))))))
      refine Zv (.bool false) (ZX (ZB (ZO (Zl 0 ⟨b2, #[.int .i64 ((1 : Int) + (k5 : Int)), .int .i64 1, .int .i64 ((zR l i).maj), .int .i64 0, .int .i64 0, .string ⟨#[]⟩, .string ⟨#[]⟩], 51⟩ (off := 0) (.agg #[.int .i64 ((1 : Int) + (k5 : Int)), .int .i64 1, .int .i64 ((zR l i).maj), .int .i64 0, .int .i64 0, .string ⟨#[]⟩, .string ⟨#[]⟩]) (Zs 1 ⟨b1, #[.int .i64 0, .int .i64 0, .int .i64 0, .int .i64 0, .int .i64 0, .string ⟨#[]⟩, .string ⟨#[]⟩], 51⟩ (off := 0) (.agg #[.int .i64 ((1 : Int) + (k5 : Int)), .int .i64 1, .int .i64 ((zR l i).maj), .int .i64 0, .int .i64 0, .string ⟨#[]⟩, .string ⟨#[]⟩]) (zP (zB ?_)))))))
      exact zC (ZC 1 ⟨b1, #[.int .i64 ((1 : Int) + (k5 : Int)), .int .i64 1, .int .i64 ((zR l i).maj), .int .i64 0, .int .i64 0, .string ⟨#[]⟩, .string ⟨#[]⟩], 51⟩ (off := 0) (.agg #[.int .i64 ((1 : Int) + (k5 : Int)), .int .i64 1, .int .i64 ((zR l i).maj), .int .i64 0, .int .i64 0, .string ⟨#[]⟩, .string ⟨#[]⟩]) Tryz.results31 (fun w hO => ⟨by rw [show coV (xP l i) = .agg #[.int .i64 ((1 : Int) + (k5 : Int)), .int .i64 1, .int .i64 ((zR l i).maj), .int .i64 0, .int .i64 0, .string ⟨#[]⟩, .string ⟨#[]⟩] from by unfold xP wS coV; rw [show plc (atL l (i + 5)) 9 = _ from e5, show plc (atL l (i + 6)) 3 = _ from e6]; simp [h1]; try rfl], hO.below⟩))
    refine Zd (p := ((1 : Int) + (k5 : Int) : Int) = 9) false (decide_eq_false (h1)) (ZX (ZB (ZO (Zv (.pointer (some ⟨b2, 2, none⟩)) (Zv (.pointer (some ⟨b2, 6, none⟩)) (Zs 0 ⟨b2, #[.int .i64 ((1 : Int) + (k5 : Int)), .int .i64 2, .int .i64 ((zR l i).maj), .int .i64 ((zR l i).min), .int .i64 ((zR l i).pat), .string (mkS (zR l i).pre), .string (mkS (zR l i).build)], 51⟩ (off := 6) (.string ⟨#[]⟩) (zP ?_)))))))
    refine zB (z6 (ZO (Zv (.pointer (some ⟨b2, 1, none⟩)) (Zl 0 ⟨b2, #[.int .i64 ((1 : Int) + (k5 : Int)), .int .i64 2, .int .i64 ((zR l i).maj), .int .i64 ((zR l i).min), .int .i64 ((zR l i).pat), .string (mkS (zR l i).pre), .string ⟨#[]⟩], 51⟩ (off := 1) (.int .i64 2) (Zv (.bool true) (ZY (z6 (z7 ?_))))))))
    refine Zv (.pointer (some ⟨b2, 2, none⟩)) (Zv (.pointer (some ⟨b2, 5, none⟩)) (Zs 0 ⟨b2, #[.int .i64 ((1 : Int) + (k5 : Int)), .int .i64 2, .int .i64 ((zR l i).maj), .int .i64 ((zR l i).min), .int .i64 ((zR l i).pat), .string (mkS (zR l i).pre), .string ⟨#[]⟩], 51⟩ (off := 5) (.string ⟨#[]⟩) (ZN (z7 (Zv (.pointer (some ⟨b2, 2, none⟩)) (Zv (.pointer (some ⟨b2, 4, none⟩)) (Zs 0 ⟨b2, #[.int .i64 ((1 : Int) + (k5 : Int)), .int .i64 2, .int .i64 ((zR l i).maj), .int .i64 ((zR l i).min), .int .i64 ((zR l i).pat), .string ⟨#[]⟩, .string ⟨#[]⟩], 51⟩ (off := 4) (.int .i64 0) (ZN (z6 ?_)))))))))
    refine ZO (Zv (.pointer (some ⟨b2, 1, none⟩)) (Zl 0 ⟨b2, #[.int .i64 ((1 : Int) + (k5 : Int)), .int .i64 2, .int .i64 ((zR l i).maj), .int .i64 ((zR l i).min), .int .i64 0, .string ⟨#[]⟩, .string ⟨#[]⟩], 51⟩ (off := 1) (.int .i64 2) (Zv (.bool false) (ZX (ZB (z6 (z6 ?_)))))))
    refine z7 (Zv (.pointer (some ⟨b2, 1, none⟩)) (Zl 0 ⟨b2, #[.int .i64 ((1 : Int) + (k5 : Int)), .int .i64 2, .int .i64 ((zR l i).maj), .int .i64 ((zR l i).min), .int .i64 0, .string ⟨#[]⟩, .string ⟨#[]⟩], 51⟩ (off := 1) (.int .i64 2) (Zv (.bool false) (ZX (ZB (ZO (Zl 0 ⟨b2, #[.int .i64 ((1 : Int) + (k5 : Int)), .int .i64 2, .int .i64 ((zR l i).maj), .int .i64 ((zR l i).min), .int .i64 0, .string ⟨#[]⟩, .string ⟨#[]⟩], 51⟩ (off := 0) (.agg #[.int .i64 ((1 : Int) + (k5 : Int)), .int .i64 2, .int .i64 ((zR l i).maj), .int .i64 ((zR l i).min), .int .i64 0, .string ⟨#[]⟩, .string ⟨#[]⟩]) ?_)))))))
    exact Zs 1 ⟨b1, #[.int .i64 0, .int .i64 0, .int .i64 0, .int .i64 0, .int .i64 0, .string ⟨#[]⟩, .string ⟨#[]⟩], 51⟩ (off := 0) (.agg #[.int .i64 ((1 : Int) + (k5 : Int)), .int .i64 2, .int .i64 ((zR l i).maj), .int .i64 ((zR l i).min), .int .i64 0, .string ⟨#[]⟩, .string ⟨#[]⟩]) (ZN (zC (ZC 1 ⟨b1, #[.int .i64 ((1 : Int) + (k5 : Int)), .int .i64 2, .int .i64 ((zR l i).maj), .int .i64 ((zR l i).min), .int .i64 0, .string ⟨#[]⟩, .string ⟨#[]⟩], 51⟩ (off := 0) (.agg #[.int .i64 ((1 : Int) + (k5 : Int)), .int .i64 2, .int .i64 ((zR l i).maj), .int .i64 ((zR l i).min), .int .i64 0, .string ⟨#[]⟩, .string ⟨#[]⟩]) Tryz.results31 (fun w hO => ⟨by rw [show coV (xP l i) = .agg #[.int .i64 ((1 : Int) + (k5 : Int)), .int .i64 2, .int .i64 ((zR l i).maj), .int .i64 ((zR l i).min), .int .i64 0, .string ⟨#[]⟩, .string ⟨#[]⟩] from by unfold xP wS coV; rw [show plc (atL l (i + 5)) 9 = _ from e5, show plc (atL l (i + 6)) 3 = _ from e6]; simp [h1]; try rfl], hO.below⟩))))
  refine zQ (n := 47) Tryz.func31 rfl (by kernel_rfl) (by kernel_rfl) (ZO (Za (.agg #[.int .i64 0, .int .i64 0, .int .i64 0, .int .i64 0, .int .i64 0, .string ⟨#[]⟩, .string ⟨#[]⟩]) (fun b1 => ZR (Zv (v) (Zv (.int .i64 ((i : Nat) : Int)) (Zu (k := .i64) (((i + 5 : Nat) : Int)) (IntWalk.i64_in _ (by omega)) (Zc (k := 51) (args := #[v, .int .i64 ((i + 5 : Nat) : Int), .int .i64 9]) (.int .i64 (k5 : Int)) (fun w hO => f5 w hO.below) ?_)))))))
  refine Zu (k := .i64) ((1 : Int) + (k5 : Int)) (IntWalk.i64_in _ (by omega)) (Zv (v) (Zv (.int .i64 ((i : Nat) : Int)) (Zu (k := .i64) (((i + 6 : Nat) : Int)) (IntWalk.i64_in _ (by omega)) (Zc (k := 51) (args := #[v, .int .i64 ((i + 6 : Nat) : Int), .int .i64 3]) (.int .i64 2) (fun w hO => f6 w hO.below) (Zv (.int .i64 3) (Zv (v) (Zv (.int .i64 ((i : Nat) : Int)) (Zc (k := 26) (args := #[v, .int .i64 ((i : Nat) : Int)]) (y5 (zR l i)) (fun w hO => gen_any v l i w ((hv.below hO.below).more hO.below.size) hl (by omega)) (Zv (.agg #[.int .i64 ((1 : Int) + (k5 : Int)), .int .i64 3, .int .i64 ((zR l i).maj), .int .i64 ((zR l i).min), .int .i64 ((zR l i).pat), .string (mkS (zR l i).pre), .string (mkS (zR l i).build)]) (Za (.agg #[.int .i64 0, .int .i64 0, .int .i64 0, .int .i64 0, .int .i64 0, .string ⟨#[]⟩, .string ⟨#[]⟩]) (fun b2 => Zs 0 ⟨b2, #[.int .i64 0, .int .i64 0, .int .i64 0, .int .i64 0, .int .i64 0, .string ⟨#[]⟩, .string ⟨#[]⟩], 51⟩ (off := 0) (.agg #[.int .i64 ((1 : Int) + (k5 : Int)), .int .i64 3, .int .i64 ((zR l i).maj), .int .i64 ((zR l i).min), .int .i64 ((zR l i).pat), .string (mkS (zR l i).pre), .string (mkS (zR l i).build)]) ?_)))))))))))
  refine ZN (z6 (ZO (Zv (.pointer (some ⟨b2, 0, none⟩)) (Zl 0 ⟨b2, #[.int .i64 ((1 : Int) + (k5 : Int)), .int .i64 3, .int .i64 ((zR l i).maj), .int .i64 ((zR l i).min), .int .i64 ((zR l i).pat), .string (mkS (zR l i).pre), .string (mkS (zR l i).build)], 51⟩ (off := 0) (.int .i64 ((1 : Int) + (k5 : Int))) ?_))))
  by_cases h1 : ((1 : Int) + (k5 : Int) : Int) = 9
  · refine zW (p := ((1 : Int) + (k5 : Int) : Int) = 9) true (by kernel_rfl) (fun _ => by kernel_rfl) (decide_eq_true (h1)) ?_
    refine ZY (z7 (Zv (.pointer (some ⟨b2, 1, none⟩)) (Zl 0 ⟨b2, #[.int .i64 ((1 : Int) + (k5 : Int)), .int .i64 3, .int .i64 ((zR l i).maj), .int .i64 ((zR l i).min), .int .i64 ((zR l i).pat), .string (mkS (zR l i).pre), .string (mkS (zR l i).build)], 51⟩ (off := 1) (.int .i64 3) (Zv (.int .i64 2) (Zv (.pointer (some ⟨b2, 1, none⟩)) (Zs 0 ⟨b2, #[.int .i64 ((1 : Int) + (k5 : Int)), .int .i64 3, .int .i64 ((zR l i).maj), .int .i64 ((zR l i).min), .int .i64 ((zR l i).pat), .string (mkS (zR l i).pre), .string (mkS (zR l i).build)], 51⟩ (off := 1) (.int .i64 2) (ZN (z6 ?_))))))))
    refine z7 (Zv (.pointer (some ⟨b2, 2, none⟩)) (Zv (.pointer (some ⟨b2, 6, none⟩)) (Zs 0 ⟨b2, #[.int .i64 ((1 : Int) + (k5 : Int)), .int .i64 2, .int .i64 ((zR l i).maj), .int .i64 ((zR l i).min), .int .i64 ((zR l i).pat), .string (mkS (zR l i).pre), .string (mkS (zR l i).build)], 51⟩ (off := 6) (.string ⟨#[]⟩) (ZN (z6 (ZO (Zv (.pointer (some ⟨b2, 1, none⟩)) (Zl 0 ⟨b2, #[.int .i64 ((1 : Int) + (k5 : Int)), .int .i64 2, .int .i64 ((zR l i).maj), .int .i64 ((zR l i).min), .int .i64 ((zR l i).pat), .string (mkS (zR l i).pre), .string ⟨#[]⟩], 51⟩ (off := 1) (.int .i64 2) (Zv (.bool true) ?_)))))))))
    refine ZY (ZO (Zv (.pointer (some ⟨b2, 2, none⟩)) (Zv (.pointer (some ⟨b2, 5, none⟩)) (Zs 0 ⟨b2, #[.int .i64 ((1 : Int) + (k5 : Int)), .int .i64 2, .int .i64 ((zR l i).maj), .int .i64 ((zR l i).min), .int .i64 ((zR l i).pat), .string (mkS (zR l i).pre), .string ⟨#[]⟩], 51⟩ (off := 5) (.string ⟨#[]⟩) (ZN (z7 (Zv (.pointer (some ⟨b2, 2, none⟩)) ?_)))))))
    refine Zv (.pointer (some ⟨b2, 4, none⟩)) (Zs 0 ⟨b2, #[.int .i64 ((1 : Int) + (k5 : Int)), .int .i64 2, .int .i64 ((zR l i).maj), .int .i64 ((zR l i).min), .int .i64 ((zR l i).pat), .string ⟨#[]⟩, .string ⟨#[]⟩], 51⟩ (off := 4) (.int .i64 0) (ZN (z6 (ZO (Zv (.pointer (some ⟨b2, 1, none⟩)) (Zl 0 ⟨b2, #[.int .i64 ((1 : Int) + (k5 : Int)), .int .i64 2, .int .i64 ((zR l i).maj), .int .i64 ((zR l i).min), .int .i64 0, .string ⟨#[]⟩, .string ⟨#[]⟩], 51⟩ (off := 1) (.int .i64 2) (Zv (.bool false) (zP (zB ?_)))))))))
    refine Zf (ZB (z6 (ZO (Zv (.pointer (some ⟨b2, 1, none⟩)) (Zl 0 ⟨b2, #[.int .i64 ((1 : Int) + (k5 : Int)), .int .i64 2, .int .i64 ((zR l i).maj), .int .i64 ((zR l i).min), .int .i64 0, .string ⟨#[]⟩, .string ⟨#[]⟩], 51⟩ (off := 1) (.int .i64 2) (Zv (.bool false) (ZN (Zf ?_))))))))
    exact ZB (ZO (Zl 0 ⟨b2, #[.int .i64 ((1 : Int) + (k5 : Int)), .int .i64 2, .int .i64 ((zR l i).maj), .int .i64 ((zR l i).min), .int .i64 0, .string ⟨#[]⟩, .string ⟨#[]⟩], 51⟩ (off := 0) (.agg #[.int .i64 ((1 : Int) + (k5 : Int)), .int .i64 2, .int .i64 ((zR l i).maj), .int .i64 ((zR l i).min), .int .i64 0, .string ⟨#[]⟩, .string ⟨#[]⟩]) (Zs 1 ⟨b1, #[.int .i64 0, .int .i64 0, .int .i64 0, .int .i64 0, .int .i64 0, .string ⟨#[]⟩, .string ⟨#[]⟩], 51⟩ (off := 0) (.agg #[.int .i64 ((1 : Int) + (k5 : Int)), .int .i64 2, .int .i64 ((zR l i).maj), .int .i64 ((zR l i).min), .int .i64 0, .string ⟨#[]⟩, .string ⟨#[]⟩]) (ZN (zC (ZC 1 ⟨b1, #[.int .i64 ((1 : Int) + (k5 : Int)), .int .i64 2, .int .i64 ((zR l i).maj), .int .i64 ((zR l i).min), .int .i64 0, .string ⟨#[]⟩, .string ⟨#[]⟩], 51⟩ (off := 0) (.agg #[.int .i64 ((1 : Int) + (k5 : Int)), .int .i64 2, .int .i64 ((zR l i).maj), .int .i64 ((zR l i).min), .int .i64 0, .string ⟨#[]⟩, .string ⟨#[]⟩]) Tryz.results31 (fun w hO => ⟨by rw [show coV (xP l i) = .agg #[.int .i64 ((1 : Int) + (k5 : Int)), .int .i64 2, .int .i64 ((zR l i).maj), .int .i64 ((zR l i).min), .int .i64 0, .string ⟨#[]⟩, .string ⟨#[]⟩] from by unfold xP wS coV; rw [show plc (atL l (i + 5)) 9 = _ from e5, show plc (atL l (i + 6)) 3 = _ from e6]; simp [h1]; try rfl], hO.below⟩)))))))
  refine Zd (p := ((1 : Int) + (k5 : Int) : Int) = 9) false (decide_eq_false (h1)) (ZX (ZB (ZO (Zv (.pointer (some ⟨b2, 2, none⟩)) (Zv (.pointer (some ⟨b2, 6, none⟩)) (Zs 0 ⟨b2, #[.int .i64 ((1 : Int) + (k5 : Int)), .int .i64 3, .int .i64 ((zR l i).maj), .int .i64 ((zR l i).min), .int .i64 ((zR l i).pat), .string (mkS (zR l i).pre), .string (mkS (zR l i).build)], 51⟩ (off := 6) (.string ⟨#[]⟩) (zP ?_)))))))
  refine zB (z6 (ZO (Zv (.pointer (some ⟨b2, 1, none⟩)) (Zl 0 ⟨b2, #[.int .i64 ((1 : Int) + (k5 : Int)), .int .i64 3, .int .i64 ((zR l i).maj), .int .i64 ((zR l i).min), .int .i64 ((zR l i).pat), .string (mkS (zR l i).pre), .string ⟨#[]⟩], 51⟩ (off := 1) (.int .i64 3) (Zv (.bool false) (ZX (yS (zB ?_))))))))
  refine z6 (ZO (Zv (.pointer (some ⟨b2, 1, none⟩)) (Zl 0 ⟨b2, #[.int .i64 ((1 : Int) + (k5 : Int)), .int .i64 3, .int .i64 ((zR l i).maj), .int .i64 ((zR l i).min), .int .i64 ((zR l i).pat), .string (mkS (zR l i).pre), .string ⟨#[]⟩], 51⟩ (off := 1) (.int .i64 3) (Zv (.bool false) (ZX (ZB (z6 ?_)))))))
  refine ZO (Zv (.pointer (some ⟨b2, 1, none⟩)) (Zl 0 ⟨b2, #[.int .i64 ((1 : Int) + (k5 : Int)), .int .i64 3, .int .i64 ((zR l i).maj), .int .i64 ((zR l i).min), .int .i64 ((zR l i).pat), .string (mkS (zR l i).pre), .string ⟨#[]⟩], 51⟩ (off := 1) (.int .i64 3) (Zv (.bool false) (ZX (ZB (z6 (z7 ?_)))))))
  exact Zl 0 ⟨b2, #[.int .i64 ((1 : Int) + (k5 : Int)), .int .i64 3, .int .i64 ((zR l i).maj), .int .i64 ((zR l i).min), .int .i64 ((zR l i).pat), .string (mkS (zR l i).pre), .string ⟨#[]⟩], 51⟩ (off := 0) (.agg #[.int .i64 ((1 : Int) + (k5 : Int)), .int .i64 3, .int .i64 ((zR l i).maj), .int .i64 ((zR l i).min), .int .i64 ((zR l i).pat), .string (mkS (zR l i).pre), .string ⟨#[]⟩]) (Zs 1 ⟨b1, #[.int .i64 0, .int .i64 0, .int .i64 0, .int .i64 0, .int .i64 0, .string ⟨#[]⟩, .string ⟨#[]⟩], 51⟩ (off := 0) (.agg #[.int .i64 ((1 : Int) + (k5 : Int)), .int .i64 3, .int .i64 ((zR l i).maj), .int .i64 ((zR l i).min), .int .i64 ((zR l i).pat), .string (mkS (zR l i).pre), .string ⟨#[]⟩]) (ZN (zC (ZC 1 ⟨b1, #[.int .i64 ((1 : Int) + (k5 : Int)), .int .i64 3, .int .i64 ((zR l i).maj), .int .i64 ((zR l i).min), .int .i64 ((zR l i).pat), .string (mkS (zR l i).pre), .string ⟨#[]⟩], 51⟩ (off := 0) (.agg #[.int .i64 ((1 : Int) + (k5 : Int)), .int .i64 3, .int .i64 ((zR l i).maj), .int .i64 ((zR l i).min), .int .i64 ((zR l i).pat), .string (mkS (zR l i).pre), .string ⟨#[]⟩]) Tryz.results31 (fun w hO => ⟨by rw [show coV (xP l i) = .agg #[.int .i64 ((1 : Int) + (k5 : Int)), .int .i64 3, .int .i64 ((zR l i).maj), .int .i64 ((zR l i).min), .int .i64 ((zR l i).pat), .string (mkS (zR l i).pre), .string ⟨#[]⟩] from by unfold xP wS coV; rw [show plc (atL l (i + 5)) 9 = _ from e5, show plc (atL l (i + 6)) 3 = _ from e6]; simp [h1]; try rfl], hO.below⟩)))))
end
section
theorem genA_step {l : List Int} {i a k : Nat} (hk : k < (uP l i a).length) : (uP l i a).take (k + 1) = (uP l i a).take k ++ [xP l (i + 4 + 21 * a + 7 * k)] := by
  have e : (uP l i a)[k] = xP l (i + 4 + 21 * a + 7 * k) := by simp [uP]
  rw [List.take_succ_eq_append_getElem hk, e]
theorem genR0_step {l : List Int} {i a : Nat} (ha : a < (uS l i).length) : (uS l i).take (a + 1) = (uS l i).take a ++ [uP l i a] := by
  have e : (uS l i)[a] = uP l i a := by simp [uS]
  rw [List.take_succ_eq_append_getElem ha, e]
theorem genA_mem {l : List Int} {i a : Nat} {c : Co} (h : c ∈ uP l i a) : c.may = true ∧ c.short := by
  unfold uP at h
  obtain ⟨k, _, rfl⟩ := List.mem_map.1 h
  exact ⟨genCo_may l _, genCo_short l _⟩
theorem genR0_fine (l : List Int) (i : Nat) : FineR (uS l i) := by
  have hp := plc_in (atL l i) 3 (by decide)
  refine ⟨by rw [genR0_len]; omega, fun a ha => ?_⟩
  unfold uS at ha
  obtain ⟨k, _, rfl⟩ := List.mem_map.1 ha
  have hq := plc_in (atL l (i + 1 + k)) 3 (by decide)
  exact ⟨by rw [genA_len]; omega, fun c hc => (genA_mem hc).2⟩
theorem own_in {M : List Nat} {W w : World} {x y z : Blk} {A B C : List Blk} (h : Own M W w ([x, y, z] ++ A ++ (B ++ C))) : Own M W w (y :: z :: (A ++ (B ++ C))) := h.sublist (by rw [List.append_assoc]; exact List.sublist_append_right [x] _)
theorem own_rg {M : List Nat} {W w : World} {x g r : Blk} {A B C : List Blk} (h : Own M W w (x :: g :: r :: (A ++ (B ++ C)))) : Own M W w (g :: r :: (B ++ (A ++ C))) :=
  (h.sublist (List.sublist_cons_self x _)).perm (List.Perm.cons g (List.Perm.cons r (List.perm_append_comm_assoc A B C)))
theorem slco_one (c : Co) (b : Nat) (cur : Array Value) (h : cur.toList = coC c) : SlCo (.slice (some ⟨b, 0, none⟩) 1 1) [c] [⟨b, cur, 51⟩] := by
  have e : ([c] : List Co).flatMap coC = coC c := List.append_nil _
  have hc : cur.toList.length = 7 := by rw [h]; rfl
  refine ⟨by rw [e]; rfl, .inr ⟨b, 1, cur, rfl, rfl, Nat.le_refl _, by decide, by rw [← Array.length_toList, hc], ?_⟩⟩
  rw [e, h]
  exact List.take_of_length_le (Nat.le_refl 7)
theorem rgo_one {v : Value} {c : Co} {b : Nat} {o : List Blk} {A : Option Addr} (h : SlCo (.slice A 1 1) [c] o) (hv : v = .agg #[.slice (some ⟨b, 0, none⟩) 1 1]) : RgO v [[c]] ([⟨b, #[.slice A 1 1], 47⟩] ++ o) :=
  ⟨[⟨A, [c], 1⟩], _, [⟨b, #[.slice A 1 1], 47⟩], o, hv, rfl, rfl, ⟨⟨rfl, .inr ⟨b, 1, #[.slice A 1 1], rfl, rfl, Nat.le_refl _, by decide, rfl, rfl⟩⟩, fun x hx => by
    rw [List.mem_singleton.1 hx]; exact ⟨o, fun b hb => hb, h⟩⟩⟩
theorem genRg_any (v : Value) (l : List Int) (i : Nat) (W : World) (hv : ReadsI W W.heap.size v l) (hl : l.length ≤ 9223372036854775807) (hi : i ≤ 10000) :
    Calls Tryz.prog 25 #[v, .int .i64 (i : Int)] W fun e w' => ∃ v' ob', e = .returned v' ∧ RgO v' (genRg l i) ob' ∧ Own [] W w' ob' := by
  obtain ⟨k0, e0, q0⟩ := jL (atL l i) 3 (by omega)
  have f0 := uX hv hl i 3 (by omega) (by omega) (by omega) e0
  have e02 : plc (atL l i) 3 = (k0 : Int) := e0
  refine zQ (n := 56) Tryz.func25 rfl (by kernel_rfl) (by kernel_rfl) (ZO (Za (.agg #[.slice none 0 0]) (fun b1 => ZR (Za (.agg #[.slice none 0 0]) (fun b2 => ZN (z6 ?_))))))
  refine ZO (Zv (.int .i64 0) (ZN (zK (gN (L' := ⟨b2, #[.slice none 0 0], 25⟩ :: ⟨b1, #[.slice none 0 0], 25⟩ :: ([] ++ [])) rfl (yP (fun L f m => ∃ (a : Nat) (U : Option Addr) (n : Nat) (cu : Nat) (xs : List Al) (o1 : List Blk) (o2 : List Blk) (j : Nat → Value), (a ≤ k0 + 1 ∧ (n = xs.length ∧ RgA (.slice U n cu) xs o1 o2) ∧ xA xs = (uS l i).take a) ∧ L = ⟨b2, #[.slice U n cu], 25⟩ :: ⟨b1, #[.slice none 0 0], 25⟩ :: (o1 ++ o2) ∧ f = kA j [(0, v), (1, .int .i64 ((i : Nat) : Int)), (4, .pointer (some ⟨b1, 0, none⟩)), (5, .pointer (some ⟨b2, 0, none⟩)), (6, .int .i64 (a : Int))] ∧ m = k0 + 1 - a) (k0 + 1 - 0) ⟨0, none, 0, 0, [], [], [], _, ⟨Nat.zero_le _, ⟨rfl, RgA.nil⟩, rfl⟩, rfl, ZU, rfl⟩ ?_)))))
  rintro L f m ⟨a, U, n, cu, xs, o1, o2, j, hrel, rfl, rfl, rfl⟩
  have hrel0 := hrel; have hal := hrel.1
  refine z6 (ZO (Zv (.int .i64 (a : Int)) (Zv (v) (Zv (.int .i64 ((i : Nat) : Int)) (Zc (k := 51) (args := #[v, .int .i64 ((i : Nat) : Int), .int .i64 3]) (.int .i64 (k0 : Int)) (fun w hO => f0 w hO.below) ?_)))))
  by_cases h1 : (a : Int) ≤ (k0 : Int)
  · have haN : a < (uS l i).length := by rw [genR0_len, e02, Int.toNat_natCast]; omega
    obtain ⟨ka, eka, qka⟩ := jL (atL l (i + 1 + a)) 3 (by omega)
    have fa := uX hv hl (i + 1 + a) 3 (by omega) (by omega) (by omega) eka
    have eka2 : plc (atL l (i + 1 + a)) 3 = (ka : Int) := eka
    have hla : (uP l i a).length = ka + 1 := by rw [genA_len, eka2, Int.toNat_natCast]
    refine Zd (p := (a : Int) ≤ (k0 : Int)) true (decide_eq_true (h1)) (ZY (ZB (z6 (zK (ZO (Zv (.slice none 0 0) (zP ?_)))))))
    refine zB (z6 (ZO (Zv (.int .i64 0) (ZN (zK (gN (L' := ⟨b2, #[.slice U n cu], 25⟩ :: ⟨b1, #[.slice none 0 0], 25⟩ :: ([] ++ (o1 ++ o2))) rfl (yP (fun L f m => ∃ (k : Nat) (Va : Option Addr) (ma : Nat) (cv : Nat) (oa : List Blk) (j : Nat → Value), (k ≤ ka + 1 ∧ SlCo (.slice Va ma cv) ((uP l i a).take k) oa) ∧ L = ⟨b2, #[.slice U n cu], 25⟩ :: ⟨b1, #[.slice none 0 0], 25⟩ :: (oa ++ (o1 ++ o2)) ∧ f = kA j [(0, v), (1, .int .i64 ((i : Nat) : Int)), (4, .pointer (some ⟨b1, 0, none⟩)), (5, .pointer (some ⟨b2, 0, none⟩)), (6, .int .i64 (a : Int)), (7, .slice Va ma cv), (8, .int .i64 (k : Int))] ∧ m = ka + 1 - k) (ka + 1 - 0) ⟨0, none, 0, 0, [], _, ⟨Nat.zero_le _, Sl.nil _ _⟩, rfl, ZU, rfl⟩ ?_)))))))
    rintro L f m ⟨k, Va, ma, cv, oa, j, hrel, rfl, rfl, rfl⟩
    have hkl := hrel.1
    refine z6 (ZO (Zv (.int .i64 (k : Int)) (Zv (v) (Zv (.int .i64 ((i : Nat) : Int)) (Zu (k := .i64) (((i + 1 : Nat) : Int)) (IntWalk.i64_in _ (by omega)) (Zv (.int .i64 (a : Int)) (Zu (k := .i64) (((i + 1 + a : Nat) : Int)) (IntWalk.i64_in _ (by omega)) (Zc (k := 51) (args := #[v, .int .i64 ((i + 1 + a : Nat) : Int), .int .i64 3]) (.int .i64 (ka : Int)) (fun w hO => fa w hO.below) ?_))))))))
    by_cases h2 : (k : Int) ≤ (ka : Int)
    · have hkN : k < (uP l i a).length := by omega
      refine Zd (p := (k : Int) ≤ (ka : Int)) true (decide_eq_true (h2)) (ZY (ZB (z6 (zK (z7 (Zv (.slice Va ma cv) (Zv (v) (Zv (.int .i64 ((i : Nat) : Int)) ?_))))))))
      refine Zu (k := .i64) (((i + 4 : Nat) : Int)) (IntWalk.i64_in _ (by omega)) (Zv (.int .i64 (a : Int)) (Zu (k := .i64) (((21 * a : Nat) : Int)) (IntWalk.i64_in _ (by omega)) (Zu (k := .i64) (((i + 4 + 21 * a : Nat) : Int)) (IntWalk.i64_in _ (by omega)) (Zv (.int .i64 (k : Int)) (Zu (k := .i64) (((7 * k : Nat) : Int)) (IntWalk.i64_in _ (by omega)) (Zu (k := .i64) (((i + 4 + 21 * a + 7 * k : Nat) : Int)) (IntWalk.i64_in _ (by omega)) (Zc (k := 31) (args := #[v, .int .i64 ((i + 4 + 21 * a + 7 * k : Nat) : Int)]) (coV (xP l (i + 4 + 21 * a + 7 * k))) (fun w hO => genCo_any v l (i + 4 + 21 * a + 7 * k) w ((hv.below hO.below).more hO.below.size) hl (by omega)) (v6 51 #[.int .i64 ((xP l (i + 4 + 21 * a + 7 * k)).op), .int .i64 ((xP l (i + 4 + 21 * a + 7 * k)).parts), .int .i64 ((xP l (i + 4 + 21 * a + 7 * k)).v.maj), .int .i64 ((xP l (i + 4 + 21 * a + 7 * k)).v.min), .int .i64 ((xP l (i + 4 + 21 * a + 7 * k)).v.pat), .string (mkS (xP l (i + 4 + 21 * a + 7 * k)).v.pre), .string (mkS (xP l (i + 4 + 21 * a + 7 * k)).v.build)] (by kernel_rfl) rfl (fun _ => by kernel_rfl) (fun b3 => ?_)))))))))
      obtain ⟨i1, z1, e1, e2, e3, e4, e5⟩ := co_info
      have hlk : ((uP l i a).take k).length ≤ 3 := by rw [List.length_take]; omega
      refine kK (L' := [⟨b3, #[.int .i64 ((xP l (i + 4 + 21 * a + 7 * k)).op), .int .i64 ((xP l (i + 4 + 21 * a + 7 * k)).parts), .int .i64 ((xP l (i + 4 + 21 * a + 7 * k)).v.maj), .int .i64 ((xP l (i + 4 + 21 * a + 7 * k)).v.min), .int .i64 ((xP l (i + 4 + 21 * a + 7 * k)).v.pat), .string (mkS (xP l (i + 4 + 21 * a + 7 * k)).v.pre), .string (mkS (xP l (i + 4 + 21 * a + 7 * k)).v.build)], 51⟩, ⟨b2, #[.slice U n cu], 25⟩, ⟨b1, #[.slice none 0 0], 25⟩] ++ oa ++ (o1 ++ o2)) (by simp) (gJ (sz := 7) (by kernel_rfl) rfl Tryz.underlying47 e1 e2 e3 e4 (by kernel_rfl) hrel.2 (a := ⟨b3, 0, none⟩) (m := 1) (c := 1) (news := coC (xP l (i + 4 + 21 * a + 7 * k))) (by kernel_rfl) rfl (fun w hO j u hj => ?_) (co_cells _) (by unfold maxLen; omega) (by rw [e5]; omega) (fun va2 oa2 hva0 => ?_))
      · rw [yQ, cell_of_row w b3 (0 + j) (coC (xP l (i + 4 + 21 * a + 7 * k))).toArray 51 _ (hO.held ⟨b3, (coC (xP l (i + 4 + 21 * a + 7 * k))).toArray, 51⟩ (List.mem_append_left _ (List.mem_append_left _ (List.mem_cons_self ..))))]; simpa using hj
      have hva2 : SlCo va2 ((uP l i a).take (k + 1)) oa2 := hva0.to (by rw [genA_step hkN, List.length_append]; rfl) (by rw [genA_step hkN, List.flatMap_append]; simp)
      obtain ⟨Va2, cv2, rfl⟩ := Sl.form hva0
      exact Zv (.slice Va2 (((uP l i a).take k).length + 1) cv2) (zP (zS (zB (z7 (Zv (.int .i64 (k : Int)) (Zu (k := .i64) (((k + 1 : Nat) : Int)) (IntWalk.i64_in _ (by omega)) (Zv (.int .i64 ((k + 1 : Nat) : Int)) (zP (xG (fun w hO => own_in hO) (zU (m' := ka + 1 - (k + 1)) (by omega) ⟨k + 1, Va2, ((uP l i a).take k).length + 1, cv2, oa2, _, ⟨by omega, hva2⟩, rfl, ZU, rfl⟩))))))))))
    have hva : SlCo (.slice Va ma cv) (uP l i a) oa := by have q0 := hrel.2; rwa [List.take_of_length_le (by omega)] at q0
    obtain ⟨Aa, ca, hVa⟩ := Sl.form hva
    have hnx : xs.length ≤ 3 := by have q0 := congrArg List.length hrel0.2.2; rw [kB, List.length_take] at q0; omega
    refine Zd (p := (k : Int) ≤ (ka : Int)) false (decide_eq_false (h2)) (ZX (y8 (zD (zN (zI (zB (z7 (Zv (.pointer (some ⟨b2, 0, none⟩)) (Zl 0 ⟨b2, #[.slice U n cu], 25⟩ (off := 0) (.slice U n cu) ?_)))))))))
    refine Zv (.slice Va ma cv) (v6 47 #[.slice Va ma cv] (by kernel_rfl) rfl (fun _ => by kernel_rfl) (fun b3 => ?_))
    obtain ⟨i1, z1, e1, e2, e3, e4, e5⟩ := al_info
    refine kK (L' := ([⟨b3, #[.slice Va ma cv], 47⟩, ⟨b2, #[.slice U n cu], 25⟩, ⟨b1, #[.slice none 0 0], 25⟩] ++ oa) ++ o1 ++ o2) (by simp) (gJ (sz := 1) (by kernel_rfl) rfl Tryz.underlying23 e1 e2 e3 e4 (by kernel_rfl) hrel0.2.1.2.top (a := ⟨b3, 0, none⟩) (m := 1) (c := 1) (news := [.slice Va ma cv]) (by kernel_rfl) rfl (fun w hO j u hj => ?_) (fun u hu => by rw [List.mem_singleton.1 hu, hVa]; rfl) (by unfold maxLen; omega) (by rw [e5]; omega) (fun u2 o3 hu0 => ?_))
    · rw [yQ, cell_of_row w b3 (0 + j) #[.slice Va ma cv] 47 _ (hO.held ⟨b3, #[.slice Va ma cv], 47⟩ (List.mem_append_left _ (List.mem_append_left _ (List.mem_append_left _ (List.mem_cons_self ..)))))]; simpa using hj
    obtain ⟨U2, cu2, rfl⟩ := Sl.form hu0
    have hrg2 := hrel0.2.1.2.add (show Sl 47 1 (.slice U2 (xs.length + 1) cu2) (xs.length + 1) (xs.flatMap alC ++ alC ⟨Aa, uP l i a, ca⟩) o3 from by rw [show alC ⟨Aa, uP l i a, ca⟩ = [.slice Va ma cv] from by rw [hVa]; rfl]; exact hu0) (hVa ▸ hva)
    refine kK (L' := ⟨b3, #[.slice Va ma cv], 47⟩ :: ⟨b2, #[.slice U n cu], 25⟩ :: ⟨b1, #[.slice none 0 0], 25⟩ :: (oa ++ (o3 ++ o2))) (by simp) (Zv (.pointer (some ⟨b2, 0, none⟩)) (Zs 1 ⟨b2, #[.slice U n cu], 25⟩ (off := 0) (.slice U2 (xs.length + 1) cu2) (zP (zS (zB (z7 (Zv (.int .i64 (a : Int)) (Zu (k := .i64) (((a + 1 : Nat) : Int)) (IntWalk.i64_in _ (by omega)) (Zv (.int .i64 ((a + 1 : Nat) : Int)) (zP (xG (fun w hO => own_rg hO) ?_)))))))))))
    exact zU (m' := k0 + 1 - (a + 1)) (by omega) ⟨a + 1, U2, xs.length + 1, cu2, xs ++ [⟨Aa, uP l i a, ca⟩], o3, (oa ++ o2), _, ⟨by omega, ⟨by simp, hrg2⟩, by rw [show xA (xs ++ [⟨Aa, uP l i a, ca⟩]) = xA xs ++ [uP l i a] from List.map_append .., hrel0.2.2, genR0_step haN]⟩, rfl, ZU, rfl⟩
  have hxs : xA xs = uS l i := by rw [hrel0.2.2, List.take_of_length_le (by rw [genR0_len, e02, Int.toNat_natCast]; omega)]
  have ha := hrel0.2.1.2
  have hn0 := hrel0.2.1.1
  refine Zd (p := (a : Int) ≤ (k0 : Int)) false (decide_eq_false (h1)) (ZX (y8 (zD (zN (zI (zB (z6 (z6 (z7 ?_)))))))))
  refine Zl 0 ⟨b2, #[.slice U n cu], 25⟩ (off := 0) (.agg #[.slice U n cu]) (Zc (k := 20) (args := #[.agg #[.slice U n cu]]) (.bool (rgMay (uS l i))) (fun w hO => by rw [hn0]; exact ret_b (by rw [hxs]) (rsMay_any U cu xs w (RgA.inn (hn0 ▸ ha) rfl hO (fun x hx => by simp [hx]) (fun x hx => by simp [hx]) (by rw [hxs]; exact genR0_fine l i)))) ?_)
  cases h3 : rgMay (uS l i) with
  | true =>
    refine Zv (.bool false) (ZX (ZB (ZO (Zl 0 ⟨b2, #[.slice U n cu], 25⟩ (off := 0) (.agg #[.slice U n cu]) (Zs 1 ⟨b1, #[.slice none 0 0], 25⟩ (off := 0) (.agg #[.slice U n cu]) (zP (zB ?_)))))))
    exact zC (ZC 1 ⟨b1, #[.slice U n cu], 25⟩ (off := 0) (.agg #[.slice U n cu]) Tryz.results25 (fun w hO => ⟨_, o1 ++ o2, rfl, ⟨xs, _, o1, o2, rfl, rfl, by rw [hxs]; exact (if_pos h3).symm, ha⟩, hO.sublist (List.sublist_append_right [_, _] _)⟩))
  | false =>
    refine Zv (.bool true) (ZY (ZO (Zv (v) (Zv (.int .i64 ((i : Nat) : Int)) (Zu (k := .i64) (((i + 4 : Nat) : Int)) (IntWalk.i64_in _ (by omega)) (Zc (k := 31) (args := #[v, .int .i64 ((i + 4 : Nat) : Int)]) (coV (xP l (i + 4))) (fun w hO => genCo_any v l (i + 4) w ((hv.below hO.below).more hO.below.size) hl (by omega)) (v6 51 #[.int .i64 ((xP l (i + 4)).op), .int .i64 ((xP l (i + 4)).parts), .int .i64 ((xP l (i + 4)).v.maj), .int .i64 ((xP l (i + 4)).v.min), .int .i64 ((xP l (i + 4)).v.pat), .string (mkS (xP l (i + 4)).v.pre), .string (mkS (xP l (i + 4)).v.build)] (by kernel_rfl) rfl (fun _ => by kernel_rfl) (fun b3 => v6 47 #[.slice (some ⟨b3, 0, none⟩) 1 1] (by kernel_rfl) rfl (fun _ => by kernel_rfl) (fun b4 => ?_)))))))))
    exact Zv (.agg #[.slice (some ⟨b4, 0, none⟩) 1 1]) (Zs 3 ⟨b1, #[.slice none 0 0], 25⟩ (off := 0) (.agg #[.slice (some ⟨b4, 0, none⟩) 1 1]) (ZN (zC (z8 (ZC 3 ⟨b1, #[.slice (some ⟨b4, 0, none⟩) 1 1], 25⟩ (off := 0) (.agg #[.slice (some ⟨b4, 0, none⟩) 1 1]) Tryz.results25 (fun w hO => ⟨_, _, rfl, by rw [show genRg l i = [[xP l (i + 4)]] from if_neg (by rw [h3]; exact Bool.false_ne_true)]; exact rgo_one (slco_one (xP l (i + 4)) b3 _ (by kernel_rfl)) rfl, hO.sublist (List.cons_sublist_cons.2 (List.cons_sublist_cons.2 (List.nil_sublist _)))⟩))))))
end
section
section
variable {M : List Nat} {P : Program} {n : Nat} {ops : Array Oper} {W : World} {L0 : List Blk} {Q : Exit → Act → World → Prop} {fuel : Nat} {listed : Array Bool} {f : Nat → Value}
end
end
section
open Go.ChangeShapes Go.WideShapes Go.ChangeAt Go.RowKit
theorem open_nums {H : Type} {enc : TypeId × Value → H} {W : World} {base : Nat} {v : Value} {d : DataW H} {ps : List MemPlace} (hval : Value.okWide Tryz.prog W .any base 40 v)
    (h : DataW.Trod enc Tryz.prog W 0 (fun _ => true) true 40 v d ps) : ∃ l : List Int, ReadsI W W.heap.size v l ∧ l.length ≤ maxLen := by
  obtain ⟨A, len, cap, rfl⟩ := okWide_slice Tryz.underlying40 hval
  obtain ⟨fuel, hf⟩ := h
  rcases open_ints Tryz.underlying40 Tryz.underlying3 (by kernel_rfl) hf with ⟨hcs, _⟩ | ⟨a, len', cap', zs, hcs, _, hl, hm, hz, _, hcell, _⟩
  · simp [Value.cells] at hcs
    obtain ⟨rfl, rfl, rfl⟩ := hcs
    exact ⟨[], ⟨none, 0, rfl, fun h => by cases h⟩, by simp⟩
  · simp [Value.cells] at hcs
    obtain ⟨rfl, rfl, rfl⟩ := hcs
    simp only [if_true] at hz
    have hlen : (zs.take len).length = len := by rw [List.length_take]; omega
    refine ⟨zs.take len, ⟨some a, cap, by rw [hlen], fun h0 => ⟨a, rfl, ?_, fun j hj => ?_⟩⟩, by rw [hlen]; omega⟩
    · have := cell_lt (hcell 0 (by omega))
      rwa [add_block] at this
    · have hj2 : j < zs.length := by omega
      rw [hcell j hj2, List.getElem_take]
      simp only [List.getD, List.getElem?_eq_getElem hj2, Option.getD_some]
end
end Go.Proofs.YtkljdpiaghepfaaGreatDoor
