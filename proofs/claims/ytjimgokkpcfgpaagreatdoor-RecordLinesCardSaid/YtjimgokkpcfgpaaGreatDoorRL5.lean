/-
 What the statement's proof leans on: the ways of walking, plain mathematics, and what the program's functions return; each theorem says on what conditions.
-/
import Derived.Laws.OwnMore
import Derived.Test.YtjimgokkpcfgpaaGreatDoorRL4
set_option maxRecDepth 1000000
set_option maxHeartbeats 8000000
set_option linter.unusedVariables false
set_option linter.unusedSimpArgs false
set_option linter.unnecessarySimpa false
namespace Go.Proofs.YtjimgokkpcfgpaaGreatDoor
open Go.RowKit

section
structure AlI (s : List UInt8) (i f : Nat) (u : Value) (P : List (List UInt8)) (ob : List Blk) : Prop where
 fi : f ≤ i + 1
 il : i ≤ s.length
 fl : f ≤ s.length
 sl : SlT u P ob
 eq : P ++ kW ((s.drop f).take (i - f)) (s.drop (max i f)) = kW [] s
 pl : P.length ≤ i
end
section
end
section
end
section
def turnL (l : List Sp) (k : Nat) : List Sp := ((l.take k).map turnS).filter (·.may)
end
section
section
variable {M : List Nat} {W w : World}
end
theorem fine_get {s : List UInt8} (h : fV s = 0) : FineR ((gR s).getD []) := by
 cases hp : gR s with
 | none => rcases err_none hp with e | e <;> rw [e] at h <;> exact absurd h (by decide)
 | some r => exact fine_few (rgMay.facts (err_some hp).2.1).1
end
section
theorem fewR_text {r : List (List Co)} (h : r ≠ []) {t : List UInt8} (ht : hZ r = t) : (t = [] → fewR r = false) ∧ (¬ t = [] → fewR r = true ∧ vU r = t) := by
 refine ⟨fun q => textR_nil.1 (ht.trans q), fun q => ?_⟩
 cases hf : fewR r with
 | false => exact absurd (ht.symm.trans (textR_nil.2 hf)) q
 | true => refine ⟨rfl, ?_⟩; unfold hZ at ht; rw [hf] at ht; exact ht
theorem all_ne {s : List UInt8} {r : List (List Co)} (h : qZ s = some r) : r ≠ [] := fun e => by
 have h2 := nG h
 rw [e] at h2
 exact altsL_ne s [] (List.eq_nil_of_length_eq_zero h2.symm)
theorem gParse_any (s : List UInt8) (W : World) (hs : s.length ≤ 1000000) (ht : HasLib W) : YC 152 #[.string (mkS s)] W fun e w' => ∃ v' ob', e = .returned (.tuple #[v', YI (fV s)]) ∧ RgO v' ((gR s).getD []) ob' ∧ Own [] W w' ob' := by
 have hsz := yB s
 refine Z2 (n := 62) Tryz.func152 rfl (ZO (Za (.agg #[.slice none 0 0]) (fun b1 => Zv (YI 0) (ZN (zI (ZO (Zv (.string (mkS s)) (Zv (YI ((mkS s).size)) ?_))))))))
 by_cases h1 : (96 : Int) < (mkS s).size
 ·refine Zg h1 (ZY (ZO (Zv (.agg #[.slice none 0 0]) (Zs 0 ⟨b1, #[.slice none 0 0], 185⟩ (off := 0) (.agg #[.slice none 0 0]) (Zv (YI 3) (ZN (zM ?_)))))))
  exact z7 (ZD 0 ⟨b1, #[.slice none 0 0], 185⟩ (off := 0) (.agg #[.slice none 0 0]) (YI 3) Tryz.results152 (fun w hO => ⟨.agg #[.slice none 0 0], [], by rw [(errG_long (s := s) Om).1], by rw [(errG_long (s := s) Om).2]; exact RgO.nil, own_nil hO⟩))
 have hs6 : s.length ≤ 96 := by omega
 refine Zh h1 (ZX (ZB (ZO (Za (.agg #[.slice none 0 0]) (fun b2 => ZN (zI ?_))))))
 refine ZO (Zv (.string (mkS s)) (Zr (k := 177) (args := #[.string (mkS s), .string ⟨#[124, 124]⟩]) (fun v' L' => ∃ ob', L' = ob' ++ ([⟨b2, #[.slice none 0 0], 185⟩, ⟨b1, #[.slice none 0 0], 185⟩]) ∧ SlT v' (kW [] s) ob') (fun w hO => (split_bars s w hs (ht.on hO.below)).mono fun e w' ⟨v', ob', k1, k2, k3⟩ => ⟨v', _, k1, ⟨ob', rfl, k2⟩, Own.joinN hO k3⟩) (fun lv L2 hv2 => ?_)))
 obtain ⟨ol, rfl, hol⟩ := hv2
 obtain ⟨l, hll⟩ : ∃ l, l = kW [] s := ⟨_, rfl⟩
 rw [← hll] at hol
 have hln : l.length ≤ 97 := by rw [hll]; have := altsL_many s []; omega
 have hlm : ∀ x ∈ l, x.length ≤ 96 := fun x hx => by have := altsL_le s [] x (hll ▸ hx); simp at this; omega
 obtain ⟨g, cur, lcap, rfl, rfl, hcur⟩ := SlT.blk hol (by rw [hll]; exact altsL_ne s [])
 refine Zv (YI (l.length : Int)) (Zv (YI 0) (ZN (yO (jG (L' := ⟨g, cur, 9⟩ :: ⟨b2, #[.slice none 0 0], 185⟩ :: ⟨b1, #[.slice none 0 0], 185⟩ :: ([] ++ [])) rfl (wW (fun L f m => ∃ (i : Nat) (A : Option Addr) (cap : Nat) (xs : List Al) (o1 : List Blk) (o2 : List Blk) (j : Nat → Value), (i ≤ l.length ∧ RgA (.slice A xs.length cap) xs o1 o2 ∧ fF parseA (l.take i) = some (gU xs)) ∧ L = ⟨g, cur, 9⟩ :: ⟨b2, #[.slice A xs.length cap], 185⟩ :: ⟨b1, #[.slice none 0 0], 185⟩ :: (o1 ++ o2) ∧ f = jZ j [(2, Zp b1 0), (4, Zp b2 0), (18, .slice (some ⟨g, 0, none⟩) l.length lcap), (19, YI (l.length : Int)), (20, YI (i : Int))] ∧ m = l.length - i) (l.length - 0) ⟨0, none, 0, [], [], [], _, ⟨Nat.zero_le _, RgA.nil, rfl⟩, rfl, ZU, rfl⟩ ?_)))))
 rintro L f m ⟨i, A, cap, xs, o1, o2, j, hrel, rfl, rfl, rfl⟩
 have hrel0 := hrel; have hra := hrel.2.1; have hil := hrel.1
 refine zI (zG ?_)
 by_cases h2 : (i : Int) < (l.length : Int)
 ·have hi : i < l.length := by omega
  obtain ⟨y, hy⟩ : ∃ y, l[i] = y := ⟨_, rfl⟩
  have hyl : y.length ≤ 96 := hlm y (hy ▸ List.getElem_mem hi)
  refine Zg h2 (ZN (zI (Zt (ZB (zI (yO (ZO (yJ (Zp g (i * 1)) Kr (ZV (b := g) (off := 0) (n := l.length) (c := lcap) (k := .i64) (j := (i : Int)) (e := 9) (sz := 1)) ?_))))))))
  refine nO 0 ⟨g, cur, 9⟩ (off := i * 1) (.string (mkS y)) Kr rfl Kr Kr (read_part y7 hcur i 0 Om Om _ (by rw [hy]; kernel_rfl)) (Zv (.string (mkS y)) (ZR (Zv (.slice none 0 0) (ZN (zI (zI (zG ?_)))))))
  refine Zv (.string (mkS y)) (Zr (k := 177) (args := #[.string (mkS y), .string ⟨#[44]⟩]) (fun v' L' => ∃ ob', L' = ob' ++ (⟨g, cur, 9⟩ :: (⟨b2, #[.slice A xs.length cap], 185⟩ :: (⟨b1, #[.slice none 0 0], 185⟩ :: ((o1 ++ o2))))) ∧ SlT v' (zA 44 [] y) ob') (fun w hO => (split_comma y w Om (ht.on hO.below)).mono fun e w' ⟨v', ob', k1, k2, k3⟩ => ⟨v', _, k1, ⟨ob', rfl, k2⟩, Own.joinN hO k3⟩) (fun mv L2 hv2 => ?_))
  obtain ⟨om, rfl, hom⟩ := hv2
  obtain ⟨m', hml⟩ : ∃ m', m' = zA 44 [] y := ⟨_, rfl⟩
  rw [← hml] at hom
  have hmn : m'.length ≤ 97 := by rw [hml]; exact (pieces_len hyl).1
  have hmm : ∀ x ∈ m', x.length ≤ 96 := fun x hx => (pieces_len hyl).2 x (hml ▸ hx)
  obtain ⟨g2, cur2, mcap, rfl, rfl, hcur2⟩ := SlT.blk hom (by rw [hml]; exact qC 44 y [])
  refine Zv (YI (m'.length : Int)) (Zv (YI 0) (ZN (yO (jG (L' := ⟨g2, cur2, 9⟩ :: ⟨g, cur, 9⟩ :: ⟨b2, #[.slice A xs.length cap], 185⟩ :: ⟨b1, #[.slice none 0 0], 185⟩ :: ([] ++ (o1 ++ o2))) rfl (wW (fun L f m => ∃ (k : Nat) (B : Option Addr) (cb : Nat) (a : List Co) (oa : List Blk) (j : Nat → Value), (k ≤ m'.length ∧ SlCo (.slice B a.length cb) a oa ∧ fF parseP (m'.take k) = some a) ∧ L = ⟨g2, cur2, 9⟩ :: ⟨g, cur, 9⟩ :: ⟨b2, #[.slice A xs.length cap], 185⟩ :: ⟨b1, #[.slice none 0 0], 185⟩ :: (oa ++ (o1 ++ o2)) ∧ f = jZ j [(2, Zp b1 0), (4, Zp b2 0), (18, .slice (some ⟨g, 0, none⟩) l.length lcap), (19, YI (l.length : Int)), (20, YI (i : Int)), (7, .slice B a.length cb), (25, .slice (some ⟨g2, 0, none⟩) m'.length mcap), (26, YI (m'.length : Int)), (27, YI (k : Int))] ∧ m = m'.length - k) (m'.length - 0) ⟨0, none, 0, [], [], _, ⟨Nat.zero_le _, Sl.nil _ _, rfl⟩, rfl, ZU, rfl⟩ ?_)))))
  rintro L f m ⟨k, B, cb, a, oa, j, hrel, rfl, rfl, rfl⟩
  have hkl := hrel.1
  refine zI (zG ?_)
  by_cases h3 : (k : Int) < (m'.length : Int)
  ·have hk : k < m'.length := by omega
   obtain ⟨z, hz⟩ : ∃ z, m'[k] = z := ⟨_, rfl⟩
   have hzl : z.length ≤ 96 := hmm z (hz ▸ List.getElem_mem hk)
   have hbz := bareL_len z
   refine Zg h3 (ZN (zI (Zt (ZB (zI (yO (ZO (yJ (Zp g2 (k * 1)) Kr (ZV (b := g2) (off := 0) (n := m'.length) (c := mcap) (k := .i64) (j := (k : Int)) (e := 9) (sz := 1)) ?_))))))))
   refine nO 0 ⟨g2, cur2, 9⟩ (off := k * 1) (.string (mkS z)) Kr rfl Kr Kr (read_part y7 hcur2 k 0 Om Om _ (by rw [hz]; kernel_rfl)) (Zv (.string (mkS z)) (ZR (Zv (.string (mkS z)) (Zc (k := 182) (args := #[.string (mkS z), .string ⟨#[32]⟩]) (.string (mkS (x5 z))) (fun w _ => trim_any z w Om) (Zc (k := 181) (args := #[.string (mkS (x5 z))]) (.tuple #[coV (pcV (x5 z)), YI (pcE (x5 z))]) (fun w hO => cParse_any (x5 z) w Om (ht.tab.on hO.below)) (Zv (.tuple #[coV (pcV (x5 z)), YI (pcE (x5 z))]) (Zv (coV (pcV (x5 z))) (Zv (YI (pcE (x5 z))) ?_))))))))
   refine Za (.agg Z0) (fun b3 => Zs 0 ⟨b3, Z0, 142⟩ (off := 0) (coV (pcV (x5 z))) (Zv (YI (pcE (x5 z))) (ZN (zI (ZO (Zv (YI (pcE (x5 z))) ?_))))))
   by_cases h4 : ((pcE (x5 z)) : Int) = 0
   ·refine Zn (p := ((pcE (x5 z)) : Int) = 0) true (decide_eq_true (h4)) (ZX (ZB (zG (Zv (.slice B a.length cb) (Zl 0 ⟨b3, (coV (pcV (x5 z))).cells, 142⟩ (off := 0) (coV (pcV (x5 z))) (s_lit 142 #[YI ((pcV (x5 z)).op), YI ((pcV (x5 z)).parts), YI ((pcV (x5 z)).v.maj), YI ((pcV (x5 z)).v.min), YI ((pcV (x5 z)).v.pat), .string (mkS (pcV (x5 z)).v.pre), .string (mkS (pcV (x5 z)).v.build)] Kr rfl (fun _ => Kr) (fun b4 => ?_)))))))
    obtain ⟨i0, z0, e1, e2, e3, e4, e5⟩ := co_info
    have hal : a.length ≤ 97 := by have q := nG hrel.2.2; rw [List.length_take] at q; omega
    refine zR (L' := [⟨b4, #[YI ((pcV (x5 z)).op), YI ((pcV (x5 z)).parts), YI ((pcV (x5 z)).v.maj), YI ((pcV (x5 z)).v.min), YI ((pcV (x5 z)).v.pat), .string (mkS (pcV (x5 z)).v.pre), .string (mkS (pcV (x5 z)).v.build)], 142⟩, ⟨b3, (coV (pcV (x5 z))).cells, 142⟩, ⟨g2, cur2, 9⟩, ⟨g, cur, 9⟩, ⟨b2, #[.slice A xs.length cap], 185⟩, ⟨b1, #[.slice none 0 0], 185⟩] ++ oa ++ (o1 ++ o2)) (by rw [List.append_assoc]; kernel_rfl) (d7 (sz := 7) Kr rfl Tryz.underlying209 e1 e2 e3 e4 Kr hrel.2.1 (a := ⟨b4, 0, none⟩) (m := 1) (c := 1) (news := coC (pcV (x5 z))) Kr rfl (fun w hO j u hj => ?_) (co_cells _) (by unfold maxLen; omega) (by rw [e5]; omega) (fun u2 ob2 hu2 => ?_))
    ·rw [x2, cell_of_row w b4 (0 + j) (coC (pcV (x5 z))).toArray 142 _ (hO.held ⟨b4, (coC (pcV (x5 z))).toArray, 142⟩ (List.mem_append_left _ (List.mem_append_left _ (List.mem_cons_self ..))))]; simpa using hj
    have hu3 : SlCo u2 (a ++ [(pcV (x5 z))]) ob2 := hu2.to (by simp) (by simp)
    obtain ⟨B2, cb2, rfl⟩ := Sl.form hu3
    exact dO (L' := ⟨g2, cur2, 9⟩ :: (⟨g, cur, 9⟩ :: (⟨b2, #[.slice A xs.length cap], 185⟩ :: (⟨b1, #[.slice none 0 0], 185⟩ :: (ob2 ++ ((o1 ++ o2))))))) (fun w hO => own_two (by simpa using hO)) (Zv (.slice B2 ((a ++ [(pcV (x5 z))]).length) cb2) (yD (y9 (zJ (zG (Zu (k := .i64) (((k + 1 : Nat) : Int)) (IntWalk.i64_in _ Om) (Zv (YI ((k + 1 : Nat) : Int)) (yD (xK (m' := m'.length - (k + 1)) Om ⟨k + 1, B2, cb2, _, ob2, _, ⟨by omega, hu3, allO_next hk hz hrel.2.2 (pc_ok (by assumption))⟩, rfl, ZU, rfl⟩)))))))))
   refine Zn (p := ((pcE (x5 z)) : Int) = 0) false (decide_eq_false (h4)) (ZY (ZO (Zv (.agg #[.slice none 0 0]) (Zs 4 ⟨b1, #[.slice none 0 0], 185⟩ (off := 0) (.agg #[.slice none 0 0]) (Zv (YI 6) (ZN (zM ?_)))))))
   refine z7 (zB (z7 (zQ (zB (z7 (zB (z7 (zQ (zB (z7 (ZD 4 ⟨b1, #[.slice none 0 0], 185⟩ (off := 0) (.agg #[.slice none 0 0]) (YI 6) Tryz.results152 ?_)))))))))))
   exact fun w hO => ⟨.agg #[.slice none 0 0], [], by rw [(errG_none hs6 (all_fails hll hi hy hml hk hz (by assumption))).1], by rw [(errG_none hs6 (all_fails hll hi hy hml hk hz (by assumption))).2]; exact RgO.nil, own_nil hO⟩
  refine Zh h3 (ZN (zI (Zf (wX (yZ (yU (yV (zJ (zG (Zv (Zp b2 0) ?_))))))))))
  refine Zl 2 ⟨b2, #[.slice A xs.length cap], 185⟩ (off := 0) (.slice A xs.length cap) (Zv (.slice B a.length cb) (s_lit 209 #[.slice B a.length cb] Kr rfl (fun _ => Kr) (fun b3 => ?_)))
  obtain ⟨i0, z0, e1, e2, e3, e4, e5⟩ := al_info
  have hal : xs.length ≤ 97 := by have q := nG hrel0.2.2; rw [List.length_take, vV] at q; omega
  refine zR (L' := ([⟨b3, #[.slice B a.length cb], 209⟩, ⟨g2, cur2, 9⟩, ⟨g, cur, 9⟩, ⟨b2, #[.slice A xs.length cap], 185⟩, ⟨b1, #[.slice none 0 0], 185⟩] ++ oa) ++ o1 ++ o2) (by rw [List.append_assoc, List.append_assoc]; kernel_rfl) (d7 (sz := 1) Kr rfl Tryz.underlying183 e1 e2 e3 e4 Kr hra.top (a := ⟨b3, 0, none⟩) (m := 1) (c := 1) (news := alC (Al.mk B a cb)) Kr rfl (fun w hO j u hj => ?_) (al_cells _) (by unfold maxLen; omega) (by rw [e5]; omega) (fun u2 ob2 hu2 => ?_))
  ·rw [x2, cell_of_row w b3 (0 + j) (alC (Al.mk B a cb)).toArray 209 _ (hO.held ⟨b3, (alC (Al.mk B a cb)).toArray, 209⟩ (by simp [alC]))]; simpa using hj
  have hra2 := hra.add hu2 hrel.2.1
  obtain ⟨A2, cap2, rfl⟩ := Sl.form hra2.top
  exact dO (L' := ⟨g, cur, 9⟩ :: (⟨b2, #[.slice A xs.length cap], 185⟩ :: (⟨b1, #[.slice none 0 0], 185⟩ :: ((ob2 ++ (oa ++ o2)))))) (fun w hO => own_turn hO) (Zv (Zp b2 0) (Zs 1 ⟨b2, #[.slice A xs.length cap], 185⟩ (off := 0) (.slice A2 ((xs ++ [(Al.mk B a cb)]).length) cap2) (yD (y9 (zJ (zG (Zu (k := .i64) (((i + 1 : Nat) : Int)) (IntWalk.i64_in _ Om) (Zv (YI ((i + 1 : Nat) : Int)) (yD (xK (m' := l.length - (i + 1)) Om ⟨i + 1, A2, cap2, _, ob2, (oa ++ o2), _, ⟨by omega, hra2, by rw [show gU (xs ++ [Al.mk B a cb]) = gU xs ++ [a] from by simp [gU]]; exact allO_next hi hy hrel0.2.2 (by have q := hrel.2.2; rw [List.take_of_length_le Om, hml] at q; exact q)⟩, rfl, ZU, rfl⟩))))))))))
 have hall : qZ s = some (gU xs) := by have q := hrel0.2.2; rw [List.take_of_length_le Om, hll] at q; exact q
 have hfine : FineR (gU xs) := fine_part hs6 (fun x hx => hll ▸ hx) hln (by rw [hll]; exact hall)
 obtain ⟨t, et⟩ : ∃ t, hZ (gU xs) = t := ⟨_, rfl⟩
 obtain ⟨htn, hty⟩ := fewR_text (all_ne hall) et
 have htz := yB t
 refine Zh h2 (ZN (zI (Zf (wX (yZ (yU (yV (zJ (zI (zG ?_))))))))))
 refine Zl 1 ⟨b2, #[.slice A xs.length cap], 185⟩ (off := 0) (.agg #[.slice A xs.length cap]) (Zc (k := 183) (args := #[.agg #[.slice A xs.length cap]]) (.string (mkS t)) (fun w hO => ret_v (by rw [et]) (gtext_any A cap xs w (hra.inn rfl hO (fun x hx => by simp [hx]) (fun x hx => by simp [hx]) hfine) (ht.on hO.below))) (Zv (.string (mkS t)) (ZN (zI (ZO (Zv (.string (mkS t)) ?_))))))
 by_cases h5 : (t : List UInt8) = []
 ·refine yJ Z4 Kr (xY (a := t) (b := ([])) rfl Kr Kr (decide_eq_true (h5))) (ZY (ZO (Zv (.agg #[.slice none 0 0]) (Zs 2 ⟨b1, #[.slice none 0 0], 185⟩ (off := 0) (.agg #[.slice none 0 0]) (Zv (YI 6) (ZN (zM ?_)))))))
  exact z7 (ZD 2 ⟨b1, #[.slice none 0 0], 185⟩ (off := 0) (.agg #[.slice none 0 0]) (YI 6) Tryz.results152 (fun w hO => ⟨.agg #[.slice none 0 0], [], by rw [(errG_few hs6 hall (htn (by assumption))).1], by rw [(errG_few hs6 hall (htn (by assumption))).2]; exact RgO.nil, own_nil hO⟩))
 obtain ⟨hfw, htx⟩ := hty h5
 refine yJ Z5 Kr (xY (a := t) (b := ([])) rfl Kr Kr (decide_eq_false (h5))) (ZX (ZB (zI (ZO (Zv (.string (mkS t)) (Zv (YI ((mkS t).size)) ?_))))))
 by_cases h6 : (96 : Int) < (mkS t).size
 ·refine Zg h6 (ZY (ZO (Zv (.agg #[.slice none 0 0]) (Zs 2 ⟨b1, #[.slice none 0 0], 185⟩ (off := 0) (.agg #[.slice none 0 0]) (Zv (YI 3) (ZN (zM ?_)))))))
  exact z7 (ZD 2 ⟨b1, #[.slice none 0 0], 185⟩ (off := 0) (.agg #[.slice none 0 0]) (YI 3) Tryz.results152 (fun w hO => ⟨.agg #[.slice none 0 0], [], by rw [(errG_big hs6 hall hfw (by rw [htx]; omega)).1], by rw [(errG_big hs6 hall hfw (by rw [htx]; omega)).2]; exact RgO.nil, own_nil hO⟩))
 refine Zh h6 (ZX (ZB (ZO (Zl 1 ⟨b2, #[.slice A xs.length cap], 185⟩ (off := 0) (.agg #[.slice A xs.length cap]) (Zs 2 ⟨b1, #[.slice none 0 0], 185⟩ (off := 0) (.agg #[.slice A xs.length cap]) (Zv (YI 0) (yD ?_)))))))
 exact zJ (zM (ZD 2 ⟨b1, #[.slice A xs.length cap], 185⟩ (off := 0) (.agg #[.slice A xs.length cap]) (YI 0) Tryz.results152 (fun w hO => ⟨.agg #[.slice A xs.length cap], o1 ++ o2, by rw [(errG_fine hs6 hall hfw (by rw [htx]; omega)).1], by rw [(errG_fine hs6 hall hfw (by rw [htx]; omega)).2]; exact ⟨xs, _, o1, o2, rfl, rfl, rfl, hra⟩, Own.sub [_, _, _] hO⟩)))
end
section
set_option linter.unnecessarySimpa false
def rt (st : List (Nat × Tr)) : List Int := (st.map fun p => ((p.1 : Nat) : Int)).reverse
def treeB (l : List Nd) : Bool := match vM 0 [] l with | some s => decide (l = []) || decide (s.length = 1) | none => false
theorem tS {i : Nat} {st s : List (Nat × Tr)} {n : Nd} {r : List Nd} (h : stp i st n = some s) : vM i st (n :: r) = vM (i + 1) s r := by rw [vM, h]
theorem kM {i : Nat} {st : List (Nat × Tr)} {n : Nd} {r : List Nd} (h : stp i st n = none) : vM i st (n :: r) = none := by rw [vM, h]
theorem stp_leaf {i : Nat} {st : List (Nat × Tr)} {n : Nd} (h : qL n = true) : stp i st n = some ((i, .is n.key.toNat n.text) :: st) := by unfold stp; rw [if_pos h]
theorem stp_not {i : Nat} {p : Nat × Tr} {st : List (Nat × Tr)} {n : Nd} (h : qL n = false) (h1 : dF (p :: st) n = true) : stp i (p :: st) n = some ((i, .no p.2) :: st) := by unfold stp; rw [if_neg (by rw [h]; simp), if_pos h1]
theorem stp_bin {i : Nat} {p q : Nat × Tr} {st : List (Nat × Tr)} {n : Nd} (h : qL n = false) (h1 : dF (p :: q :: st) n = false) (h2 : isBin (p :: q :: st) n = true) : stp i (p :: q :: st) n = some ((i, if n.op = 3 then .both q.2 p.2 else .one q.2 p.2) :: st) := by unfold stp; rw [if_neg (by rw [h]; simp), if_neg (by rw [h1]; simp), if_pos h2]
theorem stp_no {i : Nat} {st : List (Nat × Tr)} {n : Nd} (h : qL n = false) (h1 : dF st n = false) (h2 : isBin st n = false) : stp i st n = none := by unfold stp; rw [if_neg (by rw [h]; simp), if_neg (by rw [h1]; simp), if_neg (by rw [h2]; simp)]
theorem op_not {st : List (Nat × Tr)} {n : Nd} (h : ¬ n.op = 2) : dF st n = false := by cases st with | nil => rfl | cons p r => unfold dF; rw [decide_eq_false h]; rfl
theorem op_bin {st : List (Nat × Tr)} {n : Nd} (h : ¬ n.op = 3) (h2 : ¬ n.op = 4) : isBin st n = false := by
 match st with
 | [] => rfl
 | [p] => rfl
 | p :: q :: r => unfold isBin; rw [decide_eq_false h, decide_eq_false h2]; rfl
end
section
set_option linter.unnecessarySimpa false
def Tr.opc : Tr → Int
 | .is _ _ => 1
 | .no _ => 2
 | .both _ _ => 3
 | .one _ _ => 4
theorem tL : ∀ t : Tr, t.ok = true → t.w ≤ 20 * t.sz
 | .is k v, h => by
  unfold Tr.ok at h
  simp only [Bool.and_eq_true, decide_eq_true_eq] at h
  have hv := h.2
  unfold wdL at hv
  simp only [Bool.and_eq_true, decide_eq_true_eq] at hv
  rw [w_is]
  have : (xM k).length ≤ 4 := by unfold xM; split <;> (try split) <;> simp
  show _ ≤ 20; omega
 | .no x, h => by have := tL x h; have := (w_no x).1; have := x.w_le; show _ ≤ 20 * (x.sz + 1); omega
 | .both x y, h => by
  unfold Tr.ok at h; rw [Bool.and_eq_true] at h
  have := tL x h.1; have := tL y h.2; have := x.w_le; have := y.w_le
  rw [w_both]; show _ ≤ 20 * (x.sz + y.sz + 1); omega
 | .one x y, h => by
  unfold Tr.ok at h; rw [Bool.and_eq_true] at h
  have := tL x h.1; have := tL y h.2; have := x.w_le; have := y.w_le
  rw [w_one]; show _ ≤ 20 * (x.sz + y.sz + 1); omega
def TextAt (A : Option Addr) (cap : Nat) (l : List Nd) (a : Nat) (t : Tr) : Prop := ∀ W : World, Reads nC W W.heap.size A l → YC 236 #[.slice A l.length cap, YI (a : Int)] W (YR (.string (mkS t.text)) W)
theorem nW {α : Type} {l : List α} {r : Nat} {x : α} (h : l[r]? = some x) : ∃ hr : r < l.length, l[r] = x := List.getElem?_eq_some_iff.1 h
def p9 (l : List Nd) (o : Nat) (t : Tr) : Prop := ∀ i x, (t.enc o)[i]? = some x → l[o + i]? = some x
theorem d3 {l : List Nd} {o : Nat} {p q : List Nd} (h : ∀ i x, (p ++ q)[i]? = some x → l[o + i]? = some x) : ∀ i x, p[i]? = some x → l[o + i]? = some x := fun i x hi => h i x (by rw [List.getElem?_append_left (List.getElem?_eq_some_iff.1 hi).1]; exact hi)
theorem wS {l : List Nd} {o k : Nat} {p q : List Nd} (hk : p.length = k) (h : ∀ i x, (p ++ q)[i]? = some x → l[o + i]? = some x) : ∀ i x, q[i]? = some x → l[o + k + i]? = some x := fun i x hi => by
 have := h (k + i) x (by rw [List.getElem?_append_right Om, hk, Nat.add_sub_cancel_left]; exact hi)
 rw [← Nat.add_assoc] at this; exact this
theorem root_op : ∀ (t : Tr) (o : Nat), ∃ n, (t.enc o)[t.sz - 1]? = some n ∧ n.op = t.opc
 | .is k v, o => ⟨_, rfl, rfl⟩
 | .no x, o => ⟨⟨2, ((o + x.sz - 1 : Nat) : Int), 0, 0, []⟩, by rw [Tr.enc, List.getElem?_append_right (by rw [Tr.enc_len]; show x.sz ≤ x.sz + 1 - 1; omega), Tr.enc_len]; show [_][x.sz + 1 - 1 - x.sz]? = _; rw [show x.sz + 1 - 1 - x.sz = 0 by omega]; rfl, rfl⟩
 | .both x y, o => ⟨⟨3, ((o + x.sz - 1 : Nat) : Int), ((o + x.sz + y.sz - 1 : Nat) : Int), 0, []⟩, by rw [Tr.enc, List.getElem?_append_right (by rw [List.length_append, Tr.enc_len, Tr.enc_len]; show x.sz + y.sz ≤ x.sz + y.sz + 1 - 1; omega), List.length_append, Tr.enc_len, Tr.enc_len]; show [_][x.sz + y.sz + 1 - 1 - (x.sz + y.sz)]? = _; rw [show x.sz + y.sz + 1 - 1 - (x.sz + y.sz) = 0 by omega]; rfl, rfl⟩
 | .one x y, o => ⟨⟨4, ((o + x.sz - 1 : Nat) : Int), ((o + x.sz + y.sz - 1 : Nat) : Int), 0, []⟩, by rw [Tr.enc, List.getElem?_append_right (by rw [List.length_append, Tr.enc_len, Tr.enc_len]; show x.sz + y.sz ≤ x.sz + y.sz + 1 - 1; omega), List.length_append, Tr.enc_len, Tr.enc_len]; show [_][x.sz + y.sz + 1 - 1 - (x.sz + y.sz)]? = _; rw [show x.sz + y.sz + 1 - 1 - (x.sz + y.sz) = 0 by omega]; rfl, rfl⟩
theorem d2 {l : List Nd} {o : Nat} {t : Tr} (h : p9 l o t) : ∃ n, l[o + t.sz - 1]? = some n ∧ n.op = t.opc := by
 obtain ⟨n, h1, h2⟩ := root_op t o
 have hz := t.sz_pos
 have := h _ _ h1
 rw [← Nat.add_sub_assoc Om] at this
 exact ⟨n, this, h2⟩
theorem text_short {t : Tr} (h : t.ok = true) (hs : t.sz ≤ 1000) : t.text.length ≤ 100000 := by have := tL t h; have := t.text_w; omega
theorem word_short {v : List UInt8} (h : wdL v = true) : v.length ≤ 12 := by unfold wdL at h; simp only [Bool.and_eq_true, decide_eq_true_eq] at h; omega
theorem stands_self (t : Tr) : p9 (t.enc 0) 0 t := fun i x h => by rw [Nat.zero_add]; exact h
def whole10 (l : List Nd) : List UInt8 := match vQ l with | some t => t.text | none => []
end
section
set_option linter.unnecessarySimpa false
def valN (e : Pf) (n : Nd) (vs : List Int) : Int :=
 if n.op = 1 then (if e n.key.toNat = [] then 1 else if e n.key.toNat = n.text then 2 else 0)
 else if n.op = 2 then 2 - vs.getD n.a.toNat 0
 else if n.op = 3 then min (vs.getD n.a.toNat 0) (vs.getD n.b.toNat 0) else max (vs.getD n.a.toNat 0) (vs.getD n.b.toNat 0)
structure NdOk (n : Nd) (m : Nat) : Prop where
 is : n.op = 1 → 0 ≤ n.key ∧ n.key < 3
 a : n.op ≠ 1 → 0 ≤ n.a ∧ n.a < m
 b : n.op ≠ 1 → n.op ≠ 2 → 0 ≤ n.b ∧ n.b < m
end
section
set_option linter.unnecessarySimpa false
theorem Own.lentR {ob R : List Blk} {M : List Nat} {W w : World} (h : Own M W w (R ++ ob)) : Own (ob.map Blk.b) w w ob := Own.lend (h.sublist (List.sublist_append_right _ _))
end
section
set_option linter.unnecessarySimpa false
def VStands (e : Pf) (vs : List Int) (o : Nat) (t : Tr) : Prop := ∀ i z, (vlT e t)[i]? = some z → vs[o + i]? = some z
theorem nd_dec (u v : Nd) : decide (u = v) = (decide (u.op = v.op) && (decide (u.a = v.a) && (decide (u.b = v.b) && (decide (u.key = v.key) && decide (u.text = v.text))))) := by
 obtain ⟨a, b, c, d, e⟩ := u
 obtain ⟨a', b', c', d', e'⟩ := v
 simp only [Nd.mk.injEq, Bool.decide_and]
theorem eq_nd (u v : Nd) (d : Nat) (w : World) : (Op.equalIn (d + 1 + 1) 219 (ndV u) (ndV v)).run Tryz.prog w = .ok (decide (u = v)) w := by
  have h := eq_agg (P := Tryz.prog) (d := d + 1) (t := 219) (xs := (ndV u).cells) (ys := (ndV v).cells) (bs := [u.op == v.op, u.a == v.a, u.b == v.b, u.key == v.key, (mkS u.text).toList == (mkS v.text).toList]) Tryz.underlying219 Kr
    ⟨by decide, ⟨YI u.op, YI v.op, fun w => ⟨by kernel_rfl, by kernel_rfl, run_equalIn_int w d _ _ _ _ _ Tryz.underlying3⟩⟩,
     by decide, ⟨YI u.a, YI v.a, fun w => ⟨by kernel_rfl, by kernel_rfl, run_equalIn_int w d _ _ _ _ _ Tryz.underlying3⟩⟩,
     by decide, ⟨YI u.b, YI v.b, fun w => ⟨by kernel_rfl, by kernel_rfl, run_equalIn_int w d _ _ _ _ _ Tryz.underlying3⟩⟩,
     by decide, ⟨YI u.key, YI v.key, fun w => ⟨by kernel_rfl, by kernel_rfl, run_equalIn_int w d _ _ _ _ _ Tryz.underlying3⟩⟩,
     by decide, ⟨.string (mkS u.text), .string (mkS v.text), fun w => ⟨by kernel_rfl, by kernel_rfl, run_equalIn_string w d _ _ _ Tryz.underlying9⟩⟩, trivial⟩ w
  rw [all5, str_beq, int_beq, int_beq, int_beq, int_beq, ← nd_dec] at h
  exact h
theorem guard_nd : Tryz.prog.eqGuardType Tryz.prog.depth 219 = false := by kernel_rfl
theorem mZ {ρ : Operand → Value} {o : Oper} {t' : TypeId} {x y : Operand} {u v : Nd} {b : Bool} (ho : o.op = .binOp .neq 219 x y t') (hx : ρ x = ndV u) (hy : ρ y = ndV v) (hb : decide (u = v) = b) (w : World) : (execOp ρ o).run Tryz.prog w = .ok (.value (.bool (!b))) w :=
 run_ne_op ho hx hy guard_nd (fun w => hb ▸ eq_nd u v 9998 w) w
end
section
set_option linter.unnecessarySimpa false
def Rd (b : Nat) (A : Option Addr) (cap : Nat) (ws : List Tok) (ts : List Tok) (nd : List Nd) (bad : Bool) (ob : List Blk) : Prop :=
 ∃ pre C cc g, ws = pre ++ ts ∧ ob = ⟨b, #[.slice A ws.length cap, YI ((pre.length : Nat) : Int), .slice C nd.length cc, .bool bad], 229⟩ :: g ∧ SlN (.slice C nd.length cc) nd g
structure Lent (B b : Nat) (A : Option Addr) (cap : Nat) (ws ts : List Tok) (nd : List Nd) (bad : Bool) (ob : List Blk) (W : World) : Prop where
 rd : Rd b A cap ws ts nd bad ob
 own : Own (ob.map Blk.b) W W ob
 ge : ∀ x ∈ ob, B ≤ x.b
 le : B ≤ W.heap.size
 words : Reads y8 W B A ws
 short : ∀ x ∈ ws, x.length ≤ 1000000
 few : ws.length ≤ 10000
 small : nd.length + ts.length ≤ 10000
structure Back (b : Nat) (A : Option Addr) (cap : Nat) (ws ts : List Tok) (nd : List Nd) (bad : Bool) (ob ob' : List Blk) (W w' : World) : Prop where
 rd : Rd b A cap ws ts nd bad ob'
 own : Own (ob.map Blk.b) W w' ob'
def gN (x : Tok) (ts : List Tok) : Bool := decide (ts.head? = some x)
def yP (x : Tok) (ts : List Tok) : List Tok := if gN x ts then ts.tail else ts
theorem pZ (x : Tok) (ts : List Tok) : (yP x ts).length ≤ ts.length := by unfold yP; split <;> simp
theorem next_yes {x : Tok} {r : List Tok} : gN x (x :: r) = true ∧ yP x (x :: r) = r := by
 have h : gN x (x :: r) = true := by unfold gN; simp
 exact ⟨h, by unfold yP; rw [h]; rfl⟩
theorem fD {x : Tok} {ts : List Tok} (h : ts.head? ≠ some x) : gN x ts = false ∧ yP x ts = ts := by
 have h1 : gN x ts = false := decide_eq_false h
 exact ⟨h1, by unfold yP; rw [h1]; rfl⟩
end
section
set_option linter.unnecessarySimpa false
def Got (part : List Tok → Option (Tr × List Tok)) (ts : List Tok) (nd : List Nd) (z : Int) (ts' : List Tok) (nd' : List Nd) (bad' : Bool) : Prop :=
 nd'.length + ts'.length ≤ nd.length + ts.length ∧ ts'.length ≤ ts.length ∧
  match part ts with
  | some (t, r) => bad' = false ∧ ts' = r ∧ nd' = nd ++ t.enc nd.length ∧ z = ((nd.length + t.sz - 1 : Nat) : Int)
  | none => bad' = true
def ChI (part : List Tok → Option (Tr × List Tok)) (c : Tok) (mk : Tr → Tr → Tr) (ts : List Tok) (nd : List Nd) (z : Int) (tq : List Tok) (nq : List Nd) (bq : Bool) : Prop :=
 nq.length + tq.length ≤ nd.length + ts.length ∧ tq.length ≤ ts.length ∧
  (if bq = true then qS part c mk ts = none else ∃ t, qS part c mk ts = jR part c mk tq.length t tq ∧ nq = nd ++ t.enc nd.length ∧ z = ((nd.length + t.sz - 1 : Nat) : Int))
structure MkOf (op : Int) (mk : Tr → Tr → Tr) : Prop where
 enc : ∀ a b o, (mk a b).enc o = a.enc o ++ b.enc (o + a.sz) ++ [⟨op, ((o + a.sz - 1 : Nat) : Int), ((o + a.sz + b.sz - 1 : Nat) : Int), 0, []⟩]
 sz : ∀ a b, (mk a b).sz = a.sz + b.sz + 1
theorem mk_both : MkOf 3 .both := ⟨fun _ _ _ => rfl, fun _ _ => rfl⟩
theorem mk_one : MkOf 4 .one := ⟨fun _ _ _ => rfl, fun _ _ => rfl⟩
theorem fN {c : Tok} {ts : List Tok} (h : gN c ts = true) : ∃ r, ts = c :: r ∧ yP c ts = r := by
 unfold gN at h
 have := of_decide_eq_true h
 cases ts with
 | nil => cases this
 | cons d r => simp only [List.head?_cons, Option.some.injEq] at this; subst this; exact ⟨r, rfl, next_yes.2⟩
structure PartC (f : FuncId) (n : Nat) (part : List Tok → Option (Tr × List Tok)) : Prop where
 go : ∀ {B b : Nat} {A : Option Addr} {cap : Nat} {ws ts : List Tok} {nd : List Nd} {ob : List Blk} {W : World}, Lent B b A cap ws ts nd false ob W → ts.length ≤ n →
  Calls Tryz.prog f #[.pointer (some ⟨b, 0, none⟩)] W fun e w' => ∃ z ts' nd' bad' ob', e = .returned (YI z) ∧ Back b A cap ws ts' nd' bad' ob ob' W w' ∧ Got part ts nd z ts' nd' bad'
theorem pfac_atom {n : Nat} {ts : List Tok} (h1 : gN kH ts = false) (h2 : gN yR ts = false) (hn : ts.length ≤ n) : jF n ts = dU ts := by
 cases ts with
 | nil => cases n <;> rfl
 | cons c r =>
  cases n with
  | zero => simp at hn
  | succ n =>
   have q1 := of_decide_eq_false h1
   have q2 := of_decide_eq_false h2
   simp only [List.head?_cons, Option.some.injEq] at q1 q2
   rw [jF, if_neg q1, if_neg q2]
end
section
set_option linter.unnecessarySimpa false
def keyZ (c : Tok) : Nat → Int
 | 0 => -1
 | i + 1 => if xM i = c then (i : Int) else keyZ c i
end
section
set_option linter.unnecessarySimpa false
theorem fI : ∀ (t : Tr) (o : Nat), t.ok = true → ∀ n ∈ t.enc o, n.text.length ≤ 12
 | .is k v, o, h, n, hn => by
  unfold Tr.ok at h
  simp only [Bool.and_eq_true, decide_eq_true_eq] at h
  rw [Tr.enc, List.mem_singleton] at hn
  rw [hn]; exact word_short h.2
 | .no x, o, h, n, hn => by
  rw [Tr.enc] at hn
  rcases List.mem_append.1 hn with hn | hn
  ·exact fI x o h n hn
  ·rw [List.mem_singleton.1 hn]; simp
 | .both x y, o, h, n, hn => by
  unfold Tr.ok at h
  rw [Bool.and_eq_true] at h
  rw [Tr.enc] at hn
  rcases List.mem_append.1 hn with hn | hn
  ·rcases List.mem_append.1 hn with hn | hn
   ·exact fI x o h.1 n hn
   ·exact fI y _ h.2 n hn
  ·rw [List.mem_singleton.1 hn]; simp
 | .one x y, o, h, n, hn => by
  unfold Tr.ok at h
  rw [Bool.and_eq_true] at h
  rw [Tr.enc] at hn
  rcases List.mem_append.1 hn with hn | hn
  ·rcases List.mem_append.1 hn with hn | hn
   ·exact fI x o h.1 n hn
   ·exact fI y _ h.2 n hn
  ·rw [List.mem_singleton.1 hn]; simp
theorem words_short {s : List UInt8} : ∀ x ∈ kT s, x.length ≤ s.length := fun x hx => by have := mS 32 s [] x hx; simpa using this
theorem dH {s : List UInt8} (h1 : ¬ 96 < s.length) (h2 : ¬ s = []) : errM s = (match bE s with | some _ => 0 | none => 7) ∧ bM s = (match bE s with | some t => t.enc 0 | none => []) := by
 unfold errM bM
 rw [if_neg h1, if_neg h1, if_neg h2, if_neg h2]; exact ⟨rfl, rfl⟩
end
section
set_option linter.unnecessarySimpa false
def Tr.sts : Nat → Tr → List Nat
 | o, .is _ _ => [o]
 | o, .no x => x.sts o ++ [o]
 | o, .both x y => x.sts o ++ y.sts (o + x.sz) ++ [o]
 | o, .one x y => x.sts o ++ y.sts (o + x.sz) ++ [o]
theorem Tr.sts_len : ∀ (t : Tr) (o : Nat), (t.sts o).length = t.sz
 | .is _ _, _ => rfl
 | .no x, o => by rw [sts, List.length_append, sts_len x o]; rfl
 | .both x y, o => by rw [sts, List.length_append, List.length_append, sts_len x o, sts_len y _]; rfl
 | .one x y, o => by rw [sts, List.length_append, List.length_append, sts_len x o, sts_len y _]; rfl
theorem snoc_last {α : Type} (l : List α) (x : α) {k : Nat} (h : k = l.length) : (l ++ [x])[k]? = some x := by subst h; simp
theorem Tr.sts_last : ∀ (t : Tr) (o : Nat), (t.sts o)[t.sz - 1]? = some o
 | .is _ _, _ => rfl
 | .no x, o => snoc_last _ _ (by rw [sts_len]; rfl)
 | .both x y, o => snoc_last _ _ (by rw [List.length_append, sts_len, sts_len]; rfl)
 | .one x y, o => snoc_last _ _ (by rw [List.length_append, sts_len, sts_len]; rfl)
def FS : List (Nat × Tr) → Nat → List Nat → Prop
 | [], i, F => i = 0 ∧ F = []
 | p :: r, i, F => ∃ i0 F0, FS r i0 F0 ∧ i = i0 + p.2.sz ∧ p.1 = i - 1 ∧ F = F0 ++ p.2.sts i0
theorem FS.len : ∀ {st : List (Nat × Tr)} {i : Nat} {F : List Nat}, FS st i F → F.length = i
 | [], i, F, h => by obtain ⟨rfl, rfl⟩ := h; rfl
 | p :: r, i, F, h => by
  obtain ⟨i0, F0, h0, rfl, _, rfl⟩ := h
  rw [List.length_append, Tr.sts_len, h0.len]
theorem fs_last {F0 : List Nat} {t : Tr} {i0 : Nat} (h : F0.length = i0) : (F0 ++ t.sts i0)[i0 + t.sz - 1]? = some i0 := by
 have hz := t.sz_pos
 rw [List.getElem?_append_right Om, h, show i0 + t.sz - 1 - i0 = t.sz - 1 by omega, Tr.sts_last]
theorem FS.cons {st : List (Nat × Tr)} {i : Nat} {F : List Nat} (h : FS st i F) (hi : ¬ i = 0) : ∃ p r, st = p :: r := by
 cases st with
 | nil => exact absurd h.1 hi
 | cons p r => exact ⟨p, r, rfl⟩
theorem FS.top {p : Nat × Tr} {r : List (Nat × Tr)} {i : Nat} {F : List Nat} (h : FS (p :: r) i F) : ∃ i0 F0, FS r i0 F0 ∧ i = i0 + p.2.sz ∧ p.1 = i - 1 ∧ F = F0 ++ p.2.sts i0 ∧ F[i - 1]? = some i0 := by
 obtain ⟨i0, F0, h0, rfl, h1, rfl⟩ := h
 exact ⟨i0, F0, h0, rfl, h1, rfl, fs_last h0.len⟩
theorem FS.two {p : Nat × Tr} {r : List (Nat × Tr)} {i i0 : Nat} {F : List Nat} (h : FS (p :: r) i F) (hi : F[i - 1]? = some i0) (h0 : ¬ i0 = 0) : ∃ q s j, r = q :: s ∧ q.1 = i0 - 1 ∧ F[i0 - 1]? = some j ∧ ∀ t : Tr, t.sts j = q.2.sts j ++ p.2.sts i0 ++ [j] → t.sz = q.2.sz + p.2.sz + 1 → FS ((i, t) :: s) (i + 1) (F ++ [j]) := by
 obtain ⟨k, F0, h1, h2, h3, h4, h5⟩ := h.top
 rw [h5] at hi
 obtain rfl := Option.some.inj hi
 cases r with
 | nil => exact absurd h1.1 h0
 | cons q s =>
  obtain ⟨j, F1, g1, g2, g3, g4, g5⟩ := h1.top
  have hk := h1.len
  have hz := p.2.sz_pos
  refine ⟨q, s, j, rfl, g3, ?_, fun t ht hs => ⟨j, F1, g1, ?_, rfl, ?_⟩⟩
  ·have hz2 := q.2.sz_pos
   rw [h4, List.getElem?_append_left Om]; exact g5
  ·show i + 1 = j + t.sz; omega
  ·show F ++ [j] = F1 ++ t.sts j
   rw [ht, h4, g4]; simp
theorem FS.leaf {st : List (Nat × Tr)} {i : Nat} {F : List Nat} (h : FS st i F) (k : Nat) (v : List UInt8) : FS ((i, .is k v) :: st) (i + 1) (F ++ [i]) := ⟨i, F, h, rfl, rfl, rfl⟩
theorem FS.no {p : Nat × Tr} {r : List (Nat × Tr)} {i i0 : Nat} {F : List Nat} (h : FS (p :: r) i F) (hi : F[i - 1]? = some i0) : FS ((i, .no p.2) :: r) (i + 1) (F ++ [i0]) := by
 obtain ⟨k, F0, h1, h2, h3, h4, h5⟩ := h.top
 rw [h5] at hi
 obtain rfl := Option.some.inj hi
 refine ⟨k, F0, h1, ?_, rfl, ?_⟩
 ·show i + 1 = k + (p.2.sz + 1); omega
 ·show F ++ [k] = F0 ++ (p.2.sts k ++ [k]); rw [h4]; simp
def wA (l : List Nd) : Bool := decide (l.length ≤ 15) && (vQ l).isSome
theorem mB {n : Nd} (h : ¬ n.op = 1) : qL n = false := stp_bare (o := 0) (i := 0) (j := 0) (st := []) h
theorem ck_leaf {st : List (Nat × Tr)} {i : Nat} {n : Nd} {F : List Nat} (h : FS st i F) (hl : qL n = true) : ∃ s, stp i st n = some s ∧ FS s (i + 1) (F ++ [i]) := ⟨_, stp_leaf hl, h.leaf _ _⟩
theorem ck_bad {st : List (Nat × Tr)} {i : Nat} {n : Nd} (ho : n.op = 1) (hl : qL n = false) : stp i st n = none := stp_no hl (op_not Om) (op_bin Om Om)
theorem ck_else {st : List (Nat × Tr)} {i : Nat} {n : Nd} (h1 : ¬ n.op = 1) (h2 : ¬ n.op = 2) (h3 : ¬ n.op = 3) (h4 : ¬ n.op = 4) : stp i st n = none := stp_no (mB h1) (op_not h2) (op_bin h3 h4)
theorem ck_not0 {st : List (Nat × Tr)} {i : Nat} {n : Nd} {F : List Nat} (h : FS st i F) (ho : n.op = 2) (hi : i = 0) : stp i st n = none := by
 cases st with
 | nil => exact stp_no (mB Om) rfl rfl
 | cons p r => obtain ⟨k, F0, h1, h2, _⟩ := h.top; have := p.2.sz_pos; omega
theorem ck_not {st : List (Nat × Tr)} {i i0 : Nat} {n : Nd} {F : List Nat} (h : FS st i F) (ho : n.op = 2) (hi : ¬ i = 0) (hF : F[i - 1]? = some i0) (he : n = ⟨n.op, (i : Int) - 1, 0, 0, []⟩) : ∃ s, stp i st n = some s ∧ FS s (i + 1) (F ++ [i0]) := by
 obtain ⟨p, r, rfl⟩ := h.cons hi
 obtain ⟨k, F0, h1, h2, h3, _⟩ := h.top
 have hb : dF (p :: r) n = true := by
  rw [he]; unfold dF tG; simp [ho]; omega
 exact ⟨_, stp_not (mB Om) hb, h.no hF⟩
theorem ck_notno {st : List (Nat × Tr)} {i : Nat} {n : Nd} {F : List Nat} (h : FS st i F) (ho : n.op = 2) (hi : ¬ i = 0) (he : ¬ n = ⟨n.op, (i : Int) - 1, 0, 0, []⟩) : stp i st n = none := by
 obtain ⟨p, r, rfl⟩ := h.cons hi
 obtain ⟨k, F0, h1, h2, h3, _⟩ := h.top
 refine stp_no (mB Om) ?_ (op_bin Om Om)
 cases hb : dF (p :: r) n with
 | false => rfl
 | true =>
  exfalso; apply he
  unfold dF tG at hb
  simp only [Bool.and_eq_true, decide_eq_true_eq] at hb
  obtain ⟨⟨⟨q1, q2, q3⟩, q4⟩, q5⟩ := hb
  obtain ⟨op, a, b, key, text⟩ := n
  simp only at q1 q2 q3 q4 q5 ho
  subst q2; subst q3; subst q5
  rw [Nd.mk.injEq]; exact ⟨rfl, by omega, rfl, rfl, rfl⟩
theorem ck_bin0 {st : List (Nat × Tr)} {i : Nat} {n : Nd} {F : List Nat} (h : FS st i F) (ho : n.op = 3 ∨ n.op = 4) (hi : i = 0) : stp i st n = none := by
 cases st with
 | nil => exact stp_no (mB Om) rfl rfl
 | cons p r => obtain ⟨k, F0, h1, h2, _⟩ := h.top; have := p.2.sz_pos; omega
theorem ck_bin1 {st : List (Nat × Tr)} {i i0 : Nat} {n : Nd} {F : List Nat} (h : FS st i F) (ho : n.op = 3 ∨ n.op = 4) (hi : ¬ i = 0) (hF : F[i - 1]? = some i0) (h0 : i0 = 0) : stp i st n = none := by
 obtain ⟨p, r, rfl⟩ := h.cons hi
 obtain ⟨k, F0, h1, h2, h3, h4, h5⟩ := h.top
 rw [h5] at hF
 obtain rfl := Option.some.inj hF
 subst h0
 cases r with
 | nil => exact stp_no (mB Om) (op_not Om) rfl
 | cons q s => obtain ⟨j, F1, g1, g2, _⟩ := h1.top; have := q.2.sz_pos; omega
theorem ck_bin {st : List (Nat × Tr)} {i i0 : Nat} {n : Nd} {F : List Nat} (h : FS st i F) (ho : n.op = 3 ∨ n.op = 4) (hi : ¬ i = 0) (hF : F[i - 1]? = some i0) (h0 : ¬ i0 = 0) (he : n = ⟨n.op, (i0 : Int) - 1, (i : Int) - 1, 0, []⟩) : ∃ s j, stp i st n = some s ∧ F[i0 - 1]? = some j ∧ FS s (i + 1) (F ++ [j]) := by
 obtain ⟨p, r, rfl⟩ := h.cons hi
 obtain ⟨k, F0, h1, h2, h3, _, hk⟩ := h.top
 obtain ⟨q, s, j, rfl, g1, g2, g3⟩ := h.two hF h0
 have hb : isBin (p :: q :: s) n = true := by
  rw [he]; unfold isBin tG
  rcases ho with ho | ho <;> simp [ho] <;> omega
 rw [hk] at hF
 obtain rfl := Option.some.inj hF
 refine ⟨_, j, stp_bin (mB (by omega)) (op_not (by omega)) hb, g2, g3 _ ?_ ?_⟩
 ·obtain ⟨k2, F2, f1, f2, f3, f4, f5⟩ := h1.top
  have hj : k2 = j := by
   have hl := h1.len
   have hz := q.2.sz_pos
   obtain ⟨k3, F3, e1, e2, e3, e4, _⟩ := h.top
   have e5 : k3 = k := by omega
   subst e5
   have e6 : F3 = F0 := by
    have q1 := e1.len
    have q2 := hl
    have q3 : F = F0 ++ p.2.sts k3 := by assumption
    exact (List.append_inj (e4.symm.trans q3) Om).1
   subst e6
   rw [e4, List.getElem?_append_left Om, f5] at g2
   exact Option.some.inj g2
  subst hj
  have hk3 : k2 + q.2.sz = k := f2.symm
  split
  ·show q.2.sts k2 ++ p.2.sts (k2 + q.2.sz) ++ [k2] = _; rw [hk3]
  ·show q.2.sts k2 ++ p.2.sts (k2 + q.2.sz) ++ [k2] = _; rw [hk3]
 ·split <;> rfl
theorem ck_binno {st : List (Nat × Tr)} {i i0 : Nat} {n : Nd} {F : List Nat} (h : FS st i F) (ho : n.op = 3 ∨ n.op = 4) (hi : ¬ i = 0) (hF : F[i - 1]? = some i0) (h0 : ¬ i0 = 0) (he : ¬ n = ⟨n.op, (i0 : Int) - 1, (i : Int) - 1, 0, []⟩) : stp i st n = none := by
 obtain ⟨p, r, rfl⟩ := h.cons hi
 obtain ⟨k, F0, h1, h2, h3, _⟩ := h.top
 obtain ⟨q, s, j, rfl, g1, g2, g3⟩ := h.two hF h0
 refine stp_no (mB Om) (op_not Om) ?_
 cases hb : isBin (p :: q :: s) n with
 | false => rfl
 | true =>
  exfalso; apply he
  unfold isBin tG at hb
  simp only [Bool.and_eq_true, decide_eq_true_eq] at hb
  obtain ⟨⟨⟨q1, q2, q3⟩, q4⟩, q5⟩ := hb
  obtain ⟨op, a, b, key, text⟩ := n
  simp only at q1 q2 q3 q4 q5 ho
  subst q2; subst q3
  rw [Nd.mk.injEq]; exact ⟨rfl, by omega, by omega, rfl, rfl⟩
theorem ck_end {st : List (Nat × Tr)} {l : List Nd} {F : List Nat} {i0 : Nat} (h : FS st l.length F) (hr : vM 0 [] l = some st) (hl : l ≠ []) (hF : F[l.length - 1]? = some i0) : (vQ l).isSome = decide (i0 = 0) := by
 have hn : ¬ l.length = 0 := fun q => hl (List.eq_nil_of_length_eq_zero q)
 obtain ⟨p, r, rfl⟩ := h.cons hn
 obtain ⟨k, F0, h1, h2, h3, h4, h5⟩ := h.top
 rw [h5] at hF
 obtain rfl := Option.some.inj hF
 cases r with
 | nil => unfold vQ; rw [hr]; simp [h1.1]
 | cons q s =>
  obtain ⟨j, F1, g1, g2, _⟩ := h1.top
  have hz := q.2.sz_pos
  unfold vQ; rw [hr]; simp; omega
theorem vL {l : List Nd} (h : vM 0 [] l = none) : (vQ l).isSome = false := by unfold vQ; rw [h]; rfl
def bO (c : Tok) : Int := match keyN c with | some n => (n : Int) | none => -1
def Bd (nd : List Nd) (bad : Bool) : Prop := bad = true ∨ ∃ n ∈ nd, n.op = 1 ∧ qL n = false
theorem Bd.add {nd : List Nd} {bad : Bool} (h : Bd nd bad) (xs : List Nd) : Bd (nd ++ xs) bad := h.imp id fun ⟨n, h1, h2⟩ => ⟨n, List.mem_append_left _ h1, h2⟩
theorem Bd.mark (nd : List Nd) : Bd nd true := .inl rfl
theorem nD : ∀ (t : Tr) (o : Nat), t.ok = true → ∀ n ∈ t.enc o, n.op = 1 → qL n = true
 | .is k v, o, h, n, hn, h1 => by
  unfold Tr.ok at h
  simp only [Bool.and_eq_true, decide_eq_true_eq] at h
  rw [Tr.enc, List.mem_singleton] at hn
  rw [hn]; unfold qL; simp [h.2]; omega
 | .no x, o, h, n, hn, h1 => by
  rw [Tr.enc] at hn
  rcases List.mem_append.1 hn with hn | hn
  ·exact nD x o h n hn h1
  ·rw [List.mem_singleton.1 hn] at h1; simp at h1
 | .both x y, o, h, n, hn, h1 => by
  unfold Tr.ok at h
  rw [Bool.and_eq_true] at h
  rw [Tr.enc] at hn
  rcases List.mem_append.1 hn with hn | hn
  ·rcases List.mem_append.1 hn with hn | hn
   ·exact nD x o h.1 n hn h1
   ·exact nD y _ h.2 n hn h1
  ·rw [List.mem_singleton.1 hn] at h1; simp at h1
 | .one x y, o, h, n, hn, h1 => by
  unfold Tr.ok at h
  rw [Bool.and_eq_true] at h
  rw [Tr.enc] at hn
  rcases List.mem_append.1 hn with hn | hn
  ·rcases List.mem_append.1 hn with hn | hn
   ·exact nD x o h.1 n hn h1
   ·exact nD y _ h.2 n hn h1
  ·rw [List.mem_singleton.1 hn] at h1; simp at h1
theorem bd_may {nd : List Nd} (h : Bd nd false) : t7 nd = false := by
 cases hm : t7 nd with
 | false => rfl
 | true =>
  rcases h with h | ⟨n, h1, h2, h3⟩
  ·cases h
  ·rcases mayM_cases hm with rfl | ⟨t, hok, rfl, _⟩
   ·cases h1
   ·rw [nD t 0 hok n h1 h2] at h3; cases h3
def GotL (part : List Tok → Option (Tr × List Tok)) (ts : List Tok) (nd : List Nd) (bad : Bool) (ts' : List Tok) (nd' : List Nd) (bad' : Bool) : Prop :=
 nd'.length + ts'.length ≤ nd.length + ts.length ∧ ts'.length ≤ ts.length ∧ (Bd nd bad → Bd nd' bad') ∧
  match part ts with
  | some (t, r) => ts' = r ∧ nd' = nd ++ t.enc nd.length ∧ bad' = bad
  | none => Bd nd' bad'
theorem GotL.mk' {part : List Tok → Option (Tr × List Tok)} {ts ts' : List Tok} {nd nd' : List Nd} {bad bad' : Bool} (h1 : nd'.length + ts'.length ≤ nd.length + ts.length) (h2 : ts'.length ≤ ts.length) (h3 : Bd nd bad → Bd nd' bad') (hs : ∀ t r, part ts = some (t, r) → ts' = r ∧ nd' = nd ++ t.enc nd.length ∧ bad' = bad) (hn : part ts = none → Bd nd' bad') : GotL part ts nd bad ts' nd' bad' := by
 refine ⟨h1, h2, h3, ?_⟩
 cases h : part ts with
 | none => exact hn h
 | some x => exact hs x.1 x.2 h
theorem GotL.yes {part : List Tok → Option (Tr × List Tok)} {ts ts' : List Tok} {nd nd' : List Nd} {bad bad' : Bool} (h : GotL part ts nd bad ts' nd' bad') {t : Tr} {r : List Tok} (hp : part ts = some (t, r)) : ts' = r ∧ nd' = nd ++ t.enc nd.length ∧ bad' = bad := by
 have := h.2.2.2; rw [hp] at this; exact this
theorem GotL.nay {part : List Tok → Option (Tr × List Tok)} {ts ts' : List Tok} {nd nd' : List Nd} {bad bad' : Bool} (h : GotL part ts nd bad ts' nd' bad') (hp : part ts = none) : Bd nd' bad' := by
 have := h.2.2.2; rw [hp] at this; exact this
theorem gl_short {ts : List Tok} {nd : List Nd} {bad : Bool} (h : ts.length < 3) : GotL dU ts nd bad ts nd true := by
 refine GotL.mk' (Nat.le_refl _) (Nat.le_refl _) (fun _ => Bd.mark _) (fun t r hp => ?_) (fun _ => Bd.mark _)
 match ts, h, hp with
 | [], _, hp => cases hp
 | [a], _, hp => cases hp
 | [a, b], _, hp => cases hp
theorem leaf_is {k : Int} {v : Tok} : qL ⟨1, 0, 0, k, v⟩ = (decide (0 ≤ k) && decide (k < 3) && wdL v) := by unfold qL; simp
theorem atom_some {k s v : Tok} {t : Tr} (h : mH k s v = some t) : (s = tEq ∧ t = .is (bO k).toNat v ∧ 0 ≤ bO k) ∨ (s ≠ tEq ∧ s = tNe ∧ t = .no (.is (bO k).toNat v) ∧ 0 ≤ bO k) := by
 unfold mH at h
 unfold bO
 cases hk : keyN k with
 | none => rw [hk] at h; cases h
 | some n =>
  rw [hk] at h
  simp only at h ⊢
  split at h
  ·split at h
   ·rename_i e; exact .inl ⟨e, (Option.some.inj h).symm, by omega⟩
   ·rename_i e
    split at h
    ·rename_i e2; exact .inr ⟨e, e2, (Option.some.inj h).symm, by omega⟩
    ·cases h
  ·cases h
theorem atom_bad {k s v : Tok} (h : mH k s v = none) (hs : s = tEq ∨ s = tNe) : qL ⟨1, 0, 0, bO k, v⟩ = false := by
 rw [leaf_is]
 unfold mH at h
 unfold bO
 cases hk : keyN k with
 | none => simp
 | some n =>
  rw [hk] at h
  simp only at h ⊢
  split at h
  ·rcases hs with hs | hs
   ·rw [if_pos hs] at h; cases h
   ·split at h
    ·cases h
    ·first | cases h | (rw [if_pos hs] at h; cases h)
  ·rename_i hv; simp [hv]
theorem gl_eq {k s v : Tok} {r : List Tok} {nd : List Nd} {bad : Bool} (hs : s = tEq) : GotL dU (k :: s :: v :: r) nd bad r (nd ++ [⟨1, 0, 0, bO k, v⟩]) bad := by
 refine GotL.mk' (by simp; omega) (by simp; omega) (fun h => h.add _) (fun t q hp => ?_) (fun hp => ?_)
 ·rw [dU] at hp
  cases ha : mH k s v with
  | none => rw [ha] at hp; cases hp
  | some u =>
   rw [ha] at hp
   simp only [Option.some.injEq, Prod.mk.injEq] at hp
   obtain ⟨rfl, rfl⟩ := hp
   rcases atom_some ha with ⟨_, rfl, h0⟩ | ⟨h1, _⟩
   ·refine ⟨rfl, ?_, rfl⟩
    show _ = nd ++ [⟨1, 0, 0, (((bO k).toNat : Nat) : Int), v⟩]
    rw [Int.toNat_of_nonneg h0]
   ·exact absurd hs h1
 ·rw [dU] at hp
  cases ha : mH k s v with
  | none => exact .inr ⟨_, List.mem_append_right _ (List.mem_singleton.2 rfl), rfl, atom_bad ha (.inl hs)⟩
  | some u => rw [ha] at hp; cases hp
theorem gl_ne {k s v : Tok} {r : List Tok} {nd : List Nd} {bad : Bool} (h0 : ¬ s = tEq) (hs : s = tNe) : GotL dU (k :: s :: v :: r) nd bad r (nd ++ [⟨1, 0, 0, bO k, v⟩] ++ [⟨2, ((nd ++ [(⟨1, 0, 0, bO k, v⟩ : Nd)]).length : Int) - 1, 0, 0, []⟩]) bad := by
 refine GotL.mk' (by simp; omega) (by simp; omega) (fun h => (h.add _).add _) (fun t q hp => ?_) (fun hp => ?_)
 ·rw [dU] at hp
  cases ha : mH k s v with
  | none => rw [ha] at hp; cases hp
  | some u =>
   rw [ha] at hp
   simp only [Option.some.injEq, Prod.mk.injEq] at hp
   obtain ⟨rfl, rfl⟩ := hp
   rcases atom_some ha with ⟨h1, _⟩ | ⟨_, _, rfl, h2⟩
   ·exact absurd h1 h0
   ·refine ⟨rfl, ?_, rfl⟩
    show _ = nd ++ ([⟨1, 0, 0, (((bO k).toNat : Nat) : Int), v⟩] ++ [⟨2, ((nd.length + 1 - 1 : Nat) : Int), 0, 0, []⟩])
    rw [Int.toNat_of_nonneg h2, List.append_assoc, List.length_append, List.length_singleton]
    congr 4; omega
 ·rw [dU] at hp
  cases ha : mH k s v with
  | none => exact .inr ⟨_, List.mem_append_left _ (List.mem_append_right _ (List.mem_singleton.2 rfl)), rfl, atom_bad ha (.inr hs)⟩
  | some u => rw [ha] at hp; cases hp
theorem gl_sign {k s v : Tok} {r : List Tok} {nd : List Nd} {bad : Bool} (h0 : ¬ s = tEq) (hs : ¬ s = tNe) : GotL dU (k :: s :: v :: r) nd bad r (nd ++ [⟨1, 0, 0, bO k, v⟩]) true := by
 refine GotL.mk' (by simp; omega) (by simp; omega) (fun h => Bd.mark _) (fun t q hp => ?_) (fun hp => Bd.mark _)
 rw [dU] at hp
 cases ha : mH k s v with
 | none => rw [ha] at hp; cases hp
 | some u => rcases atom_some ha with ⟨h1, _⟩ | ⟨_, h1, _⟩ <;> contradiction
theorem gl_not {k : Nat} {ts r ts2 : List Tok} {nd nd2 : List Nd} {bad bad2 : Bool} (hts : ts = kH :: r) (h : GotL (jF k) r nd bad ts2 nd2 bad2) : GotL (jF (k + 1)) ts nd bad ts2 (nd2 ++ [⟨2, (nd2.length : Int) - 1, 0, 0, []⟩]) bad2 := by
 subst hts
 have g1 := h.1
 have g2 := h.2.1
 refine GotL.mk' (by simp; omega) (by simp; omega) (fun q => (h.2.2.1 q).add _) (fun t q hp => ?_) (fun hp => ?_)
 ·rw [pFac_not] at hp
  cases hq : jF k r with
  | none => rw [hq] at hp; cases hp
  | some x =>
   obtain ⟨u, r'⟩ := x
   rw [hq] at hp
   simp only [pNo, Option.some.injEq, Prod.mk.injEq] at hp
   obtain ⟨rfl, rfl⟩ := hp
   obtain ⟨rfl, e2, rfl⟩ := h.yes hq
   refine ⟨rfl, ?_, rfl⟩
   have hz := u.sz_pos
   show _ = nd ++ (u.enc nd.length ++ [⟨2, ((nd.length + u.sz - 1 : Nat) : Int), 0, 0, []⟩])
   rw [← List.append_assoc, ← e2]
   have hl : nd2.length = nd.length + u.sz := by rw [e2, List.length_append, Tr.enc_len]
   congr 3; rw [hl]; omega
 ·rw [pFac_not] at hp
  cases hq : jF k r with
  | none => exact (h.nay hq).add _
  | some x => rw [hq] at hp; cases hp
theorem gl_open {k : Nat} {ts r ts2 : List Tok} {nd nd2 : List Nd} {bad bad2 : Bool} (hts : ts = yR :: r) (h : GotL (pOr k) r nd bad ts2 nd2 bad2) (hc : gN xD ts2 = true) : GotL (jF (k + 1)) ts nd bad (yP xD ts2) nd2 bad2 := by
 subst hts
 obtain ⟨r2, rfl, hr2⟩ := fN hc
 rw [hr2]
 have g1 := h.1
 have g2 := h.2.1
 simp only [List.length_cons] at g1 g2
 refine GotL.mk' (by simp; omega) (by simp; omega) h.2.2.1 (fun t q hp => ?_) (fun hp => ?_)
 ·rw [pFac_open] at hp
  cases hq : pOr k r with
  | none => rw [hq] at hp; cases hp
  | some x =>
   obtain ⟨u, r'⟩ := x
   rw [hq] at hp
   obtain ⟨e1, e2, e3⟩ := h.yes hq
   subst e1
   rw [pClose, if_pos rfl] at hp
   simp only [Option.some.injEq, Prod.mk.injEq] at hp
   obtain ⟨rfl, rfl⟩ := hp
   exact ⟨rfl, e2, e3⟩
 ·rw [pFac_open] at hp
  cases hq : pOr k r with
  | none => exact h.nay hq
  | some x =>
   obtain ⟨u, r'⟩ := x
   rw [hq] at hp
   obtain ⟨e1, e2, e3⟩ := h.yes hq
   subst e1
   rw [pClose, if_pos rfl] at hp; cases hp
theorem gl_unclosed {k : Nat} {ts r ts2 : List Tok} {nd nd2 : List Nd} {bad bad2 : Bool} (hts : ts = yR :: r) (h : GotL (pOr k) r nd bad ts2 nd2 bad2) (hc : gN xD ts2 = false) : GotL (jF (k + 1)) ts nd bad ts2 nd2 true := by
 subst hts
 have g1 := h.1
 have g2 := h.2.1
 refine GotL.mk' (by simp; omega) (by simp; omega) (fun _ => Bd.mark _) (fun t q hp => ?_) (fun hp => Bd.mark _)
 rw [pFac_open] at hp
 cases hq : pOr k r with
 | none => rw [hq] at hp; cases hp
 | some x =>
  obtain ⟨u, r'⟩ := x
  rw [hq] at hp
  obtain ⟨e1, e2, e3⟩ := h.yes hq
  subst e1
  cases ts2 with
  | nil => cases hp
  | cons c q =>
   have := of_decide_eq_false hc
   simp only [List.head?_cons, Option.some.injEq] at this
   rw [pClose, if_neg this] at hp; cases hp
theorem gl_atom {n : Nat} {ts ts2 : List Tok} {nd nd2 : List Nd} {bad bad2 : Bool} (h1 : gN kH ts = false) (h2 : gN yR ts = false) (hn : ts.length ≤ n) (h : GotL dU ts nd bad ts2 nd2 bad2) : GotL (jF n) ts nd bad ts2 nd2 bad2 := by
 unfold GotL at h ⊢; rw [pfac_atom h1 h2 hn]; exact h
def ChL (part : List Tok → Option (Tr × List Tok)) (c : Tok) (mk : Tr → Tr → Tr) (ts : List Tok) (nd : List Nd) (bad : Bool) (tq : List Tok) (nq : List Nd) (bq : Bool) : Prop :=
 nq.length + tq.length ≤ nd.length + ts.length ∧ tq.length ≤ ts.length ∧ (Bd nd bad → Bd nq bq) ∧
  ((qS part c mk ts = none ∧ Bd nq bq) ∨ ∃ t, qS part c mk ts = jR part c mk tq.length t tq ∧ nq = nd ++ t.enc nd.length ∧ bq = bad)
theorem cl_start {part : List Tok → Option (Tr × List Tok)} {c : Tok} {mk : Tr → Tr → Tr} {ts ts' : List Tok} {nd nd' : List Nd} {bad bad' : Bool} (h : GotL part ts nd bad ts' nd' bad') : ChL part c mk ts nd bad ts' nd' bad' := by
 refine ⟨h.1, h.2.1, h.2.2.1, ?_⟩
 cases hp : part ts with
 | none => exact .inl ⟨by unfold qS; rw [hp], h.nay hp⟩
 | some x =>
  obtain ⟨t, r⟩ := x
  obtain ⟨e1, e2, e3⟩ := h.yes hp
  exact .inr ⟨t, by unfold qS; rw [hp, e1], e2, e3⟩
theorem cl_stop {part : List Tok → Option (Tr × List Tok)} {c : Tok} {mk : Tr → Tr → Tr} {ts tq : List Tok} {nd nq : List Nd} {bad bq : Bool} (h : ChL part c mk ts nd bad tq nq bq) (hc : gN c tq = false) : GotL (qS part c mk) ts nd bad tq nq bq := by
 obtain ⟨h1, h2, h3, h4⟩ := h
 refine GotL.mk' h1 h2 h3 (fun t r hp => ?_) (fun hp => ?_)
 ·rcases h4 with ⟨q, _⟩ | ⟨u, q, e2, e3⟩
  ·rw [hp] at q; cases q
  ·rw [pLoop_stop _ _ _ _ _ _ (of_decide_eq_false hc)] at q
   rw [hp] at q
   simp only [Option.some.injEq, Prod.mk.injEq] at q
   obtain ⟨rfl, rfl⟩ := q
   exact ⟨rfl, e2, e3⟩
 ·rcases h4 with ⟨_, q⟩ | ⟨u, q, e2, e3⟩
  ·exact q
  ·rw [pLoop_stop _ _ _ _ _ _ (of_decide_eq_false hc), hp] at q; cases q
theorem cl_step {part : List Tok → Option (Tr × List Tok)} (hp : Eats part) {op : Int} {c : Tok} {mk : Tr → Tr → Tr} (hmk : MkOf op mk) {ts tq r ts2 : List Tok} {nd nq nd2 : List Nd} {bad bq bad2 : Bool} (h : ChL part c mk ts nd bad tq nq bq) (htq : tq = c :: r) (h2 : GotL part r nq bq ts2 nd2 bad2) :
  ChL part c mk ts nd bad ts2 (nd2 ++ [⟨op, (nq.length : Int) - 1, (nd2.length : Int) - 1, 0, []⟩]) bad2 := by
 obtain ⟨h1, h3, h4, h5⟩ := h
 have g1 := h2.1
 have g2 := h2.2.1
 subst htq
 simp only [List.length_cons] at h1 h3
 refine ⟨by rw [List.length_append, List.length_singleton]; omega, by omega, fun q => (h2.2.2.1 (h4 q)).add _, ?_⟩
 rcases h5 with ⟨e, hb⟩ | ⟨t, e, hn, hb⟩
 ·exact .inl ⟨e, (h2.2.2.1 hb).add _⟩
 ·rw [List.length_cons, jR, if_pos rfl] at e
  cases hq : part r with
  | none =>
   rw [hq] at e
   exact .inl ⟨e, (h2.nay hq).add _⟩
  | some y =>
   obtain ⟨u, r'⟩ := y
   rw [hq] at e
   obtain ⟨rfl, e2, e3⟩ := h2.yes hq
   have hl := hp _ _ _ hq
   have hz1 := t.sz_pos
   have hz3 := u.sz_pos
   have hnl : nq.length = nd.length + t.sz := by rw [hn, List.length_append, Tr.enc_len]
   have hnl2 : nd2.length = nd.length + t.sz + u.sz := by rw [e2, List.length_append, Tr.enc_len, hnl]
   refine .inr ⟨mk t u, ?_, ?_, e3.trans hb⟩
   ·rw [e]; exact pLoop_fuel hp _ _ _ _ _ _ Om (Nat.le_refl _)
   ·rw [hmk.enc, hnl2, hnl, e2, hnl, hn]
    rw [show ((nd.length + t.sz : Nat) : Int) - 1 = ((nd.length + t.sz - 1 : Nat) : Int) by omega, show ((nd.length + t.sz + u.sz : Nat) : Int) - 1 = ((nd.length + t.sz + u.sz - 1 : Nat) : Int) by omega]
    simp
theorem gl_none {s : List UInt8} {ts' : List Tok} {nd' : List Nd} {bad' : Bool} (h : GotL (pOr (kT s).length) (kT s) [] false ts' nd' bad') (hb : bad' = true ∨ ts' ≠ [] ∨ t7 nd' = false) : bE s = none := by
 unfold bE
 cases hp : pOr (kT s).length (kT s) with
 | none => rfl
 | some x =>
  obtain ⟨t, r⟩ := x
  obtain ⟨e1, e2, e3⟩ := h.yes hp
  subst e1; subst e3
  rcases hb with hb | hb | hb
  ·cases hb
  ·cases ts' with
   | nil => exact absurd rfl hb
   | cons c q => rfl
  ·cases ts' with
   | cons c q => rfl
   | nil =>
    have hok := pOr_ok _ _ _ _ hp
    rw [e2, show ([] : List Nd) ++ t.enc ([] : List Nd).length = t.enc 0 from rfl, fit_may hok] at hb
    simp [hb]
theorem gl_some {s : List UInt8} {nd' : List Nd} (h : GotL (pOr (kT s).length) (kT s) [] false [] nd' false) (hm : t7 nd' = true) : ∃ t : Tr, t.ok = true ∧ nd' = t.enc 0 ∧ bE s = some t := by
 unfold bE
 cases hp : pOr (kT s).length (kT s) with
 | none => have := bd_may (h.nay hp); rw [hm] at this; cases this
 | some x =>
  obtain ⟨t, r⟩ := x
  obtain ⟨e1, e2, _⟩ := h.yes hp
  subst e1
  have hok := pOr_ok _ _ _ _ hp
  have e3 : nd' = t.enc 0 := e2
  refine ⟨t, hok, e3, ?_⟩
  rw [e3, fit_may hok] at hm
  simp [hm]
theorem print_no {l : List Nd} (h : wA l = false) : vG l = [] := by
 unfold vG
 cases hm : t7 l with
 | false => rfl
 | true =>
  rcases mayM_cases hm with rfl | ⟨t, hok, rfl, hs, _⟩
  ·rfl
  ·unfold wA at h
   rw [nI hok, Tr.enc_len, decide_eq_true hs] at h; cases h
theorem treeOk_yes {l : List Nd} (h : wA l = true) : ∃ t : Tr, t.ok = true ∧ l = t.enc 0 ∧ t.sz ≤ 15 := by
 unfold wA at h
 rw [Bool.and_eq_true, decide_eq_true_eq] at h
 obtain ⟨t, ht⟩ := Option.isSome_iff_exists.1 h.2
 obtain ⟨h1, h2⟩ := treeOf_iff.1 ht
 exact ⟨t, h1, h2, by rw [h2, Tr.enc_len] at h; exact h.1⟩
theorem print_long {t : Tr} (h : t.ok = true) (hl : 96 < t.text.length) : vG (t.enc 0) = [] := by
 unfold vG
 rw [mayM_enc h, decide_eq_false (p := t.text.length ≤ 96) Om]; simp
theorem print_yes {t : Tr} (h : t.ok = true) (hs : t.sz ≤ 15) (hl : ¬ 96 < t.text.length) : vG (t.enc 0) = t.text := printM_enc h (by unfold Tr.fit; rw [decide_eq_true hs, decide_eq_true Om]; rfl)
theorem may_print {l : List Nd} (h : ¬ l = []) : t7 l = !decide (vG l = []) := by
 unfold vG
 cases hm : t7 l with
 | false => simp
 | true =>
  rcases mayM_cases hm with rfl | ⟨t, hok, rfl, _⟩
  ·exact absurd rfl h
  ·rw [nI hok]; simp [text10_ne]
end
section
set_option linter.unnecessarySimpa false
theorem run_idx10 {P : Program} {ρ : Operand → Value} {o : Oper} {t e : TypeId} {x y : Operand} {n k : Nat} {vals : Array Value} (g : Nat → List UInt8) (hk : k < n) (ho : o.op = .index t x y) (hx : ρ x = .agg vals) (hy : ρ y = YI (k : Int))
  (hu : P.underlying t = some (.array n e)) (hp : ∀ i, i < n → ∀ w, (part e vals i).run P w = .ok (.string (mkS (g i))) w) (hs : (P.info? e).map (·.size) = some 1) (w : World) : (execOp ρ o).run P w = .ok (.value (.string (mkS (g k)))) w := by
 cases he : P.info? e with
 | none => rw [he] at hs; cases hs
 | some i =>
  rw [he] at hs
  have hs1 : i.size = 1 := Option.some.inj hs
  unfold execOp
  have h2 := hp k hk
  have hkn : ¬ n ≤ k := by omega
  simp [ho, hx, hy, Instr.index, Sem.run_bind, asIntOf, run_underlying hu, sizeOf, typeInfo, he, hs1, h2, hk, hkn]
structure MkAt (B : Nat) (W : World) : Prop where
 lt : 2 < B
 held : ∃ T, W.heap[(2 : Nat)]? = some (.cells #[.string ⟨#[111, 115]⟩, .string ⟨#[97, 114, 99, 104]⟩, .string ⟨#[97, 98, 105]⟩] T)
def MkLib (W : World) : Prop := MkAt W.heap.size W
theorem MkAt.on {B B' : Nat} {W w : World} (h : MkAt B W) (hb : Below B W w) (hB : B ≤ B') : MkAt B' w :=
 ⟨Nat.lt_of_lt_of_le h.lt hB, by obtain ⟨T, q⟩ := h.held; exact ⟨T, by rw [hb.block _ h.lt]; exact q⟩⟩
theorem MkLib.on {W w : World} (h : MkLib W) (hb : Below W.heap.size W w) : MkLib w := MkAt.on h hb hb.size
theorem MkAt.all {B : Nat} {W : World} (h : MkAt B W) : (loadVar 144 ⟨2, 0, none⟩).run Tryz.prog W = .ok (.agg #[.string ⟨#[111, 115]⟩, .string ⟨#[97, 114, 99, 104]⟩, .string ⟨#[97, 98, 105]⟩]) W := by
 obtain ⟨T, q⟩ := h.held
 exact yT Kr q
theorem MkAt.one {B : Nat} {W : World} (h : MkAt B W) (k : Nat) (hk : k < 3) : (loadVar 9 ⟨2, 0 + k * 1, none⟩).run Tryz.prog W = .ok (.string (mkS (xM k))) W := by
 obtain ⟨T, q⟩ := h.held
 exact yT (rd_key k hk) q
theorem key_part : ∀ (i : Nat), i < 3 → ∀ w, (part 9 #[.string ⟨#[111, 115]⟩, .string ⟨#[97, 114, 99, 104]⟩, .string ⟨#[97, 98, 105]⟩] i).run Tryz.prog w = .ok (.string (mkS (xM i))) w
 | 0, _, w => by kernel_rfl
 | 1, _, w => by kernel_rfl
 | 2, _, w => by kernel_rfl
theorem word10_any (s : List UInt8) (W : World) (hs : s.length ≤ 1000000) : YC 68 #[.string (mkS s)] W (YR (.bool (wdL s)) W) :=
 ret_b (wd_mk s) (word_any (mkS s) W (by rw [yB]; unfold maxLen; omega))
theorem key_at {c : Tok} {k : Nat} (hk : k < 3) (h : ∀ i, i < k → xM i ≠ c) (e : xM k = c) : bO c = (k : Int) := by
 unfold bO keyN
 match k, hk with
 | 0, _ => rw [if_pos e.symm]
 | 1, _ => rw [if_neg (fun q => h 0 Om q.symm), if_pos e.symm]
 | 2, _ => rw [if_neg (fun q => h 0 Om q.symm), if_neg (fun q => h 1 Om q.symm), if_pos e.symm]
theorem key_not {c : Tok} (h : ∀ i, i < 3 → xM i ≠ c) : bO c = -1 := by
 unfold bO keyN
 rw [if_neg (fun q => h 0 Om q.symm), if_neg (fun q => h 1 Om q.symm), if_neg (fun q => h 2 Om q.symm)]
theorem keyOf_any (c : List UInt8) (B : Nat) (W : World) (hK : MkAt B W) (hB : B ≤ W.heap.size) : YC 266 #[.string (mkS c)] W fun x w' => x = .returned (YI (bO c)) ∧ Below W.heap.size W w' := by
 have hK : MkAt W.heap.size W := ⟨Nat.lt_of_lt_of_le hK.lt hB, hK.held⟩
 refine Z2 (n := 15) Tryz.func266 rfl (ZO (Zv (YI 0) (ZN (zI (ZO (Zo (.agg #[.string ⟨#[111, 115]⟩, .string ⟨#[97, 114, 99, 104]⟩, .string ⟨#[97, 98, 105]⟩]) (a := ⟨2, 0, none⟩) (fun w hO => (hK.on hO.below hO.size).all) (Zv (YI 0) (yD ?_))))))))
 refine zJ (yO (wW (fun L f m => ∃ (k : Nat) (j : Nat → Value), (k ≤ 3 ∧ ∀ i, i < k → xM i ≠ c) ∧ L = [] ∧ f = jZ j [(0, .string (mkS c)), (5, .agg #[.string ⟨#[111, 115]⟩, .string ⟨#[97, 114, 99, 104]⟩, .string ⟨#[97, 98, 105]⟩]), (6, YI (k : Int))] ∧ m = 3 - k) (3 - 0) ⟨0, _, ⟨by omega, fun i hi => absurd hi (Nat.not_lt_zero _)⟩, rfl, ZU, rfl⟩ ?_))
 rintro L f m ⟨k, j, hrel, rfl, rfl, rfl⟩
 have hk6 := hrel.1
 refine zI (zG ?_)
 by_cases h1 : (k : Int) < 3
 ·have hk3 : k < 3 := by omega
  refine Zg h1 (ZN (zI (Zt (ZB (zI (yO (ZO (Zv (YI (k : Int)) ?_))))))))
  refine yJ (.string (mkS (xM k))) Kr (run_idx10 xM hk3 rfl Kr Kr Tryz.underlying144 key_part Kr) (Zv (YI (k : Int)) (Zv (.string (mkS (xM k))) (ZR (Zv (.string (mkS (xM k))) (Zv (.string (mkS c)) ?_)))))
  by_cases h2 : ((xM k) : List UInt8) = c
  ·refine yJ Z4 Kr (xY (a := (xM k)) (b := c) rfl Kr Kr (decide_eq_true (h2))) (ZY (ZO (Zv (YI (k : Int)) (Zv (YI (k : Int)) (ZN (zM (zB ?_)))))))
   exact z7 (zQ (zB (z7 (ZF (YI (k : Int)) Tryz.results266 (fun w hO => ⟨by rw [key_at hk3 hrel.2 h2], hO.below⟩)))))
  exact yJ Z5 Kr (xY (a := (xM k)) (b := c) rfl Kr Kr (decide_eq_false (h2))) (ZX (nV (y9 (zJ (zG (Zu (k := .i64) (((k + 1 : Nat) : Int)) (IntWalk.i64_in _ Om) (Zv (YI ((k + 1 : Nat) : Int)) (yD (xK (m' := 3 - (k + 1)) Om ⟨k + 1, _, ⟨by omega, fun i hi => by rcases Nat.lt_succ_iff_lt_or_eq.1 hi with q | rfl; exact hrel.2 i q; exact h2⟩, rfl, ZU, rfl⟩)))))))))
 refine Zh h1 (ZN (zI (Zf (wX (yZ (yU (yV (zJ (zI (zG ?_))))))))))
 exact Zv (YI (-1)) (ZN (zM (ZF (YI (-1)) Tryz.results266 (fun w hO => ⟨by rw [key_not fun i hi => hrel.2 i Om], hO.below⟩))))
end
section
set_option linter.unnecessarySimpa false
def vH (zs : List Int) : Array Value := (zs.flatMap zC).toArray
theorem z_flat (zs : List Int) : zs.flatMap zC = zs.map fun z => Value.int .i64 z := by
 induction zs with
 | nil => rfl
 | cons a l ih => rw [List.flatMap_cons, ih]; rfl
theorem intA_size (zs : List Int) : (vH zs).size = zs.length := by unfold vH; rw [z_flat]; simp
theorem intA_set {zs : List Int} {k : Nat} (hk : k < zs.length) (z : Int) : zX (vH zs) k (Value.int .i64 z).cells = vH (zs.set k z) := by
 unfold zX vH
 rw [z_flat, z_flat, List.map_set, List.set_eq_take_append_cons_drop, if_pos (by rw [List.length_map]; exact hk)]
 simp [Value.cells]
theorem intA_made (n : Nat) : madeCells #[YI 0] n = vH (List.replicate n 0) := by
 apply Array.toList_inj.1
 rw [toList_madeCells_one]
 unfold vH
 rw [z_flat]; simp
theorem pT {zs : List Int} {k : Nat} {z : Int} (h : zs[k]? = some z) : yL Tryz.prog 3 (vH zs) k = some (YI z) := by
 show (vH zs)[k]? = _
 unfold vH
 rw [z_flat]; simp [h]
theorem int_made : ∃ i, Tryz.prog.info? 3 = some i ∧ i.zero = some (YI 0) ∧ i.size = 1 ∧ i.bytes = 8 := by
 have h : (Tryz.prog.info? 3).map (fun i => (i.zero, i.size, i.bytes)) = some (some (YI 0), 1, 8) := by kernel_rfl
 cases hi : Tryz.prog.info? 3 with
 | none => rw [hi] at h; cases h
 | some i =>
  rw [hi] at h
  simp only [Option.map_some, Option.some.injEq, Prod.mk.injEq] at h
  exact ⟨i, rfl, h.1, h.2.1, h.2.2⟩
def wC (F : List Nat) (n : Nat) : List Int := F.map (fun (k : Nat) => (k : Int)) ++ List.replicate (n - F.length) 0
theorem dA {F : List Nat} {n : Nat} (h : F.length ≤ n) : (wC F n).length = n := by unfold wC; simp; omega
theorem padF_set {F : List Nat} {n : Nat} (h : F.length < n) (k : Nat) : (wC F n).set F.length (k : Int) = wC (F ++ [k]) n := by
 unfold wC
 obtain ⟨m, hm⟩ : ∃ m, n - F.length = m + 1 := ⟨n - F.length - 1, by omega⟩
 rw [hm, List.length_append, List.length_singleton, show n - (F.length + 1) = m by omega, List.set_append_right _ _ (by simp)]
 simp [List.replicate_succ]
theorem m9 {F : List Nat} {n j k : Nat} (h : F[j]? = some k) : (wC F n)[j]? = some (k : Int) := by
 unfold wC
 rw [List.getElem?_append_left (by rw [List.length_map]; exact (List.getElem?_eq_some_iff.1 h).1), List.getElem?_map, h]; rfl
theorem fs_lt {st : List (Nat × Tr)} {i i0 : Nat} {F : List Nat} (h : FS st i F) (hi : ¬ i = 0) (hF : F[i - 1]? = some i0) : i0 < i := by
 obtain ⟨p, r, rfl⟩ := h.cons hi
 obtain ⟨k, F0, h1, h2, h3, h4, h5⟩ := h.top
 rw [h5] at hF
 have := Option.some.inj hF
 have := p.2.sz_pos
 omega
theorem mA {l : List Nd} (h : (vQ l).isSome = false) : wA l = false := by unfold wA; rw [h]; simp
theorem tree10_any (A : Option Addr) (cap0 : Nat) (l : List Nd) (W : World) (hv : Reads nC W W.heap.size A l) (hne : l ≠ []) (hn0 : l.length ≤ 1000) (ht : ∀ n ∈ l, n.text.length ≤ 1000000) : YC 157 #[.slice A l.length cap0] W (YR (.bool (wA l)) W) := by
 have hlp : 0 < l.length := List.length_pos_iff.2 hne
 refine Z2 (n := 116) Tryz.func157 rfl (ZO (Zv Z5 (ZN (zI (ZO (Zv (.slice A l.length cap0) (Zv (YI (l.length : Int)) ?_)))))))
 by_cases h1 : (15 : Int) < (l.length : Int)
 ·refine Zg h1 (ZY (ZO (Zv Z5 (ZN (zM (z7 (ZF Z5 Tryz.results157 ?_)))))))
  exact fun w hO => ⟨by rw [show wA l = false from by unfold wA; rw [decide_eq_false Om]; rfl], hO.below⟩
 have hl15 : l.length ≤ 15 := by omega
 refine Zh h1 (ZX (ZB (ZO (Zv (.slice A l.length cap0) (Zv (YI (l.length : Int)) ?_)))))
 obtain ⟨ii, e1, e2, e3, e4⟩ := int_made
 refine s_make (kl := .i64) (kc := .i64) (l := (l.length : Int)) (c := (l.length : Int)) Kr rfl Kr Kr Tryz.underlying43 e1 e2 Om Om (by rw [e4]; omega) Om (fun b => ?_)
 rw [show ((l.length : Nat) : Int).toNat = l.length from rfl, e3, Nat.mul_one]
 rw [show (Value.int .i64 0).cells = #[YI 0] from rfl, intA_made]
 refine zR (L' := [⟨b, vH (List.replicate l.length 0), 3⟩]) rfl (Zv (.slice (some ⟨b, 0, none⟩) l.length l.length) (ZN (zI (ZO (Zv (.slice A l.length cap0) (Zv (YI (l.length : Int)) (Zv (YI 0) (yD (zJ ?_)))))))))
 refine yO (jG (L' := [⟨b, vH (wC [] l.length), 3⟩]) rfl (wW (fun L f m => ∃ (i : Nat) (st : List (Nat × Tr)) (F : List Nat) (j : Nat → Value), (i ≤ l.length ∧ vM 0 [] l = vM i st (l.drop i) ∧ FS st i F) ∧ L = [⟨b, vH (wC F l.length), 3⟩] ∧ f = jZ j [(0, .slice A l.length cap0), (3, .slice (some ⟨b, 0, none⟩) l.length l.length), (12, .slice A l.length cap0), (13, YI (l.length : Int)), (14, YI (i : Int))] ∧ m = l.length - i) (l.length - 0) ⟨0, [], [], _, ⟨Nat.zero_le _, rfl, rfl, rfl⟩, rfl, ZU, rfl⟩ ?_))
 rintro L f m ⟨i, st, F, j, hrel, rfl, rfl, rfl⟩
 obtain ⟨hi6, hrun, hfs⟩ := hrel; have hFl := hfs.len
 refine zI (zG ?_)
 by_cases h2 : (i : Int) < (l.length : Int)
 ·have hil : i < l.length := by omega
  obtain ⟨bp, off, hA, hlt, hcell⟩ := hv Om
  obtain ⟨n, hn⟩ : ∃ n, l[i] = n := ⟨_, rfl⟩
  have hnt := hn ▸ ht l[i] (List.getElem_mem hil)
  have hdr : l.drop i = n :: l.drop (i + 1) := by rw [← hn]; exact List.drop_eq_getElem_cons hil
  have hset : ∀ k : Nat, (wC F l.length).set i (k : Int) = wC (F ++ [k]) l.length := fun k => by have q := padF_set (F := F) (n := l.length) Om k; rw [hFl] at q; exact q
  refine Zg h2 (ZN (zI (Zt (ZB (zI (yO (ZO (Zv (YI (i : Int)) ?_))))))))
  refine yJ (Zp bp (off + i * 5)) Kr (ZA (b := bp) (off := off) (c := cap0) (n := l.length) (k := .i64) (j := (i : Int)) (e := 219) (sz := 5) hA) (Zo (ndV n) (a := ⟨bp, off + i * 5, none⟩) (fun w hO => Reads.load mL (hv.on hO.below hO.size) hA i 0 hil Om _ (by rw [hn]; kernel_rfl)) (Za (.agg #[YI 0, YI 0, YI 0, YI 0, .string ⟨#[]⟩]) (fun b1 => Zv (YI (i : Int)) (Zs 0 ⟨b1, #[YI 0, YI 0, YI 0, YI 0, .string ⟨#[]⟩], 219⟩ (off := 0) (ndV n) (ZR (Zv (Zp b1 0) (Zl 0 ⟨b1, (ndV n).cells, 219⟩ (off := 0) (YI n.op) (yD ?_))))))))
  refine zJ (yO (zI (zG ?_)))
  by_cases h3 : (n.op : Int) = 1
  ·refine Zg h3 (Zv Z4 (ZY (zI (ZO (Zv (Zp b1 3) (Zl 0 ⟨b1, (ndV n).cells, 219⟩ (off := 3) (YI n.key) ?_))))))
   by_cases h4 : (n.key : Int) < 0
   ·refine Zg h4 (Zv Z4 (Zk (Zk (Zk (Zv Z4 (Zv Z4 (Zk (Zk (Zk (Zv Z4 (Zv Z4 ?_)))))))))))
    refine Zk (Zk (Zk (Zv Z4 (Zv Z4 (Zk (Zk (Zk (Zk (Zv Z4 (yD (zJ ?_)))))))))))
    refine Zt (ZO (Zv Z5 (ZN (zM (z7 (zB (zB (z7 (zQ ?_)))))))))
    exact zB (z7 (ZF Z5 Tryz.results157 (fun w hO => ⟨by rw [mA (vL (by rw [hrun, hdr, kM (ck_bad h3 (by unfold qL; simp [h3, h4]; try omega))]))], hO.below⟩)))
   refine Zh h4 (Zv Z5 (Zv (Zp b1 3) (Zl 0 ⟨b1, (ndV n).cells, 219⟩ (off := 3) (YI n.key) ?_)))
   by_cases h5 : (3 : Int) ≤ n.key
   ·refine Zg h5 (Zv Z4 (Zv Z4 (Zk (Zk (Zk (Zv Z4 (Zv Z4 (Zk (Zk (Zk (Zv Z4 ?_)))))))))))
    refine Zv Z4 (Zk (Zk (Zk (Zk (Zv Z4 (ZY (ZO (Zv Z5 ?_))))))))
    exact ZN (zM (z7 (zB (zB (z7 (zQ (zB (z7 (ZF Z5 Tryz.results157 (fun w hO => ⟨by rw [mA (vL (by rw [hrun, hdr, kM (ck_bad h3 (by unfold qL; simp [h3, h4, h5]; try omega))]))], hO.below⟩))))))))))
   refine Zh h5 (Zv Z5 (Zv Z5 (Zv (Zp b1 1) (Zl 0 ⟨b1, (ndV n).cells, 219⟩ (off := 1) (YI n.a) ?_))))
   by_cases h6 : (n.a : Int) = 0
   ·refine Zn (p := (n.a : Int) = 0) true (decide_eq_true (h6)) (Zv Z5 (Zv Z5 (Zv (Zp b1 2) (Zl 0 ⟨b1, (ndV n).cells, 219⟩ (off := 2) (YI n.b) ?_))))
    by_cases h7 : (n.b : Int) = 0
    ·refine Zn (p := (n.b : Int) = 0) true (decide_eq_true (h7)) (Zv Z5 (Zv Z5 (Zv (Zp b1 4) (Zl 0 ⟨b1, (ndV n).cells, 219⟩ (off := 4) (.string (mkS n.text)) (Zc (k := 68) (args := #[.string (mkS n.text)]) (.bool (wdL n.text)) (fun w _ => word10_any n.text w hnt) ?_)))))
     cases h8 : wdL n.text with
     | true =>
      have hlf : qL n = true := by unfold qL; simp [h1, h2, h3, h4, h5, h6, h7, h8]; omega
      obtain ⟨s9, hstp, hfs9⟩ := ck_leaf hfs hlf
      refine Zv Z5 (Zv Z5 (ZX (ZB (zG (Zv (.slice (some ⟨b, 0, none⟩) l.length l.length) (Zv (YI (i : Int)) (Zv (YI (i : Int)) (yJ (Zp b i) Kr (ZA (b := b) (off := 0) (c := l.length) (n := l.length) (k := .i64) (j := (i : Int)) (e := 3) (sz := 1) rfl) ?_))))))))
      exact pR 1 ⟨b, vH (wC F l.length), 3⟩ (off := i) (YI (i : Int)) 1 Kr rfl rfl Kr Kr Kr Kr Kr (by show _ + 1 ≤ (vH _).size; rw [intA_size, dA Om]; omega) Kr (zR (L' := [⟨b1, (ndV n).cells, 219⟩, ⟨b, vH (wC (F ++ [i]) l.length), 3⟩]) (by rw [← hset i, ← intA_set (by rw [dA Om]; omega)]; rfl) (yD (y9 (y9 (zJ (zG (Zu (k := .i64) (((i + 1 : Nat) : Int)) (IntWalk.i64_in _ Om) (Zv (YI ((i + 1 : Nat) : Int)) (yD (jU (L' := [⟨b, vH (wC (F ++ [i]) l.length), 3⟩]) (fun w hO => hO.sublist (by simp)) (xK (m' := l.length - (i + 1)) Om ⟨i + 1, s9, (F ++ [i]), _, ⟨by omega, by rw [hrun, hdr, tS hstp], hfs9⟩, rfl, ZU, rfl⟩)))))))))))
     | false =>
      refine Zv Z4 (Zv Z4 (ZY (ZO (Zv Z5 (ZN (zM (z7 ?_)))))))
      exact zB (zB (z7 (zQ (zB (z7 (ZF Z5 Tryz.results157 (fun w hO => ⟨by rw [mA (vL (by rw [hrun, hdr, kM (ck_bad h3 (by unfold qL; simp [h3, h4, h5, h6, h7, h8]; try omega))]))], hO.below⟩)))))))
    refine Zn (p := (n.b : Int) = 0) false (decide_eq_false (h7)) (Zv Z4 (Zv Z4 (Zk (Zk (Zk (Zk (Zv Z4 (ZY (zI ?_)))))))))
    refine zG (Zv Z5 (ZN (zM (z7 (zB (zB (z7 (zQ (zB (z7 ?_))))))))))
    exact ZF Z5 Tryz.results157 (fun w hO => ⟨by rw [mA (vL (by rw [hrun, hdr, kM (ck_bad h3 (by unfold qL; simp [h3, h4, h5, h6, h7]; try omega))]))], hO.below⟩)
   refine Zn (p := (n.a : Int) = 0) false (decide_eq_false (h6)) (Zv Z4 (Zv Z4 (Zk (Zk (Zk (Zv Z4 (Zv Z4 (Zk (Zk (Zk (Zk ?_)))))))))))
   refine Zv Z4 (ZY (ZO (Zv Z5 (ZN (zM (z7 (zB ?_)))))))
   exact zB (z7 (zQ (zB (z7 (ZF Z5 Tryz.results157 (fun w hO => ⟨by rw [mA (vL (by rw [hrun, hdr, kM (ck_bad h3 (by unfold qL; simp [h3, h4, h5, h6]; try omega))]))], hO.below⟩))))))
  refine Zh h3 (Zv Z5 (ZX (zI (zG ?_))))
  by_cases h9 : (n.op : Int) = 2
  ·refine Zg h9 (Zv Z4 (ZY (zI (ZO (Zv (YI (i : Int)) ?_)))))
   by_cases h10 : (i : Int) = 0
   ·have hi0 : i = 0 := by omega
    refine Zg h10 (Zv Z4 (Zk (Zk (Zk (Zk (Zk (Zk (Zk (Zv Z4 (yD (zJ ?_)))))))))))
    refine Zt (ZO (Zv Z5 (ZN (zM (z7 (zB (zB (z7 (zQ ?_)))))))))
    exact zB (z7 (ZF Z5 Tryz.results157 (fun w hO => ⟨by rw [mA (vL (by rw [hrun, hdr, kM (ck_not0 hfs h9 hi0)]))], hO.below⟩)))
   have hi0 : ¬ i = 0 := by omega
   obtain ⟨i0, hF0⟩ : ∃ i0, F[i - 1]? = some i0 := ⟨_, List.getElem?_eq_getElem Om⟩
   have hi0l := fs_lt hfs hi0 hF0
   refine Zh h10 (Zv Z5 (Zl 0 ⟨b1, (ndV n).cells, 219⟩ (off := 0) (ndV n) (Zv (Zp b1 0) (Zl 0 ⟨b1, (ndV n).cells, 219⟩ (off := 0) (YI n.op) (Zv (YI (i : Int)) (Zu (k := .i64) ((i : Int) - 1) (IntWalk.i64_in _ Om) (Zv (ndV (⟨n.op, (i : Int) - 1, 0, 0, []⟩ : Nd)) ?_)))))))
   by_cases h11 : n = (⟨n.op, (i : Int) - 1, 0, 0, []⟩ : Nd)
   ·have hna : n.a = (i : Int) - 1 := congrArg Nd.a h11
    obtain ⟨s9, hstp, hfs9⟩ := ck_not hfs h9 hi0 hF0 h11
    refine yJ Z5 Kr (mZ (u := n) (v := (⟨n.op, (i : Int) - 1, 0, 0, []⟩ : Nd)) rfl Kr Kr (decide_eq_true (h11))) (Zv Z5 (ZX (ZB (zG (Zv (.slice (some ⟨b, 0, none⟩) l.length l.length) (Zv (YI (i : Int)) (Zv (.slice (some ⟨b, 0, none⟩) l.length l.length) (Zv (Zp b1 1) ?_))))))))
    refine Zl 0 ⟨b1, (ndV n).cells, 219⟩ (off := 1) (YI n.a) (yJ (Zp b (i - 1)) Kr (ZA (b := b) (off := 0) (c := l.length) (n := l.length) (k := .i64) (j := n.a) (e := 3) (sz := 1) rfl) (nO 1 ⟨b, vH (wC F l.length), 3⟩ (off := (i - 1)) (YI (i0 : Int)) Kr rfl Kr Kr (pT (m9 hF0)) (yJ (Zp b i) Kr (ZA (b := b) (off := 0) (c := l.length) (n := l.length) (k := .i64) (j := (i : Int)) (e := 3) (sz := 1) rfl) (pR 1 ⟨b, vH (wC F l.length), 3⟩ (off := i) (YI (i0 : Int)) 1 Kr rfl rfl Kr Kr Kr Kr Kr (by show _ + 1 ≤ (vH _).size; rw [intA_size, dA Om]; omega) Kr (zR (L' := [⟨b1, (ndV n).cells, 219⟩, ⟨b, vH (wC (F ++ [i0]) l.length), 3⟩]) (by rw [← hset i0, ← intA_set (by rw [dA Om]; omega)]; rfl) (yD (y9 (y9 (zJ (zG (Zu (k := .i64) (((i + 1 : Nat) : Int)) (IntWalk.i64_in _ Om) ?_)))))))))))
    exact Zv (YI ((i + 1 : Nat) : Int)) (yD (jU (L' := [⟨b, vH (wC (F ++ [i0]) l.length), 3⟩]) (fun w hO => hO.sublist (by simp)) (xK (m' := l.length - (i + 1)) Om ⟨i + 1, s9, (F ++ [i0]), _, ⟨by omega, by rw [hrun, hdr, tS hstp], hfs9⟩, rfl, ZU, rfl⟩)))
   refine yJ Z4 Kr (mZ (u := n) (v := (⟨n.op, (i : Int) - 1, 0, 0, []⟩ : Nd)) rfl Kr Kr (decide_eq_false (h11))) (Zv Z4 (ZY (ZO (Zv Z5 (ZN (zM (z7 ?_)))))))
   exact zB (zB (z7 (zQ (zB (z7 (ZF Z5 Tryz.results157 (fun w hO => ⟨by rw [mA (vL (by rw [hrun, hdr, kM (ck_notno hfs h9 hi0 h11)]))], hO.below⟩)))))))
  refine Zh h9 (Zv Z5 (ZX (zI (zI (zG ?_)))))
  by_cases h12 : (n.op : Int) = 3
  ·refine Zg h12 (Zv Z4 (ZY (ZB (Zt (zI (zI (ok_draw Kr Kr (Zw (YI (i : Int)) ?_))))))))
   by_cases h13 : (i : Int) = 0
   ·have hi0 : i = 0 := by omega
    refine Zi h13 (Zw Z4 (Zj (Zj (Zj (Zj (Zj (Zj (Zw Z4 (Zw Z4 (Zj (Zj ?_)))))))))))
    refine Zj (Zj (Zj (Zj (Zj (Zj (Zj (Zj (Zj (Zj (Zj (Zw Z4 ?_)))))))))))
    refine pV (zJ (Zt (ZO (Zv Z5 (ZN (zM (z7 (zB (zB ?_)))))))))
    exact z7 (zQ (zB (z7 (ZF Z5 Tryz.results157 (fun w hO => ⟨by rw [mA (vL (by rw [hrun, hdr, kM (ck_bin0 hfs (.inl h12) hi0)]))], hO.below⟩)))))
   have hi0 : ¬ i = 0 := by omega
   obtain ⟨i0, hF0⟩ : ∃ i0, F[i - 1]? = some i0 := ⟨_, List.getElem?_eq_getElem Om⟩
   have hi0l := fs_lt hfs hi0 hF0
   refine ZI h13 (Zw Z5 (Zw (.slice (some ⟨b, 0, none⟩) l.length l.length) (Zw (YI (i : Int)) (pU (k := .i64) ((i : Int) - 1) Kr (fun _ => Kr) (IntWalk.i64_in _ Om) (wI (Zp b (i - 1)) Kr (ZA (b := b) (off := 0) (c := l.length) (n := l.length) (k := .i64) (j := (i : Int) - 1) (e := 3) (sz := 1) rfl) (q_load 1 ⟨b, vH (wC F l.length), 3⟩ (off := (i - 1)) (YI (i0 : Int)) Kr rfl Kr Kr (pT (m9 hF0)) ?_))))))
   by_cases h14 : (i0 : Int) = 0
   ·have hz0 : i0 = 0 := by omega
    refine Zi h14 (Zw Z4 (Zw Z4 (Zj (Zj (Zj (Zj (Zj (Zj (Zj (Zj (Zj ?_)))))))))))
    refine Zj (Zj (Zj (Zj (Zw Z4 (pV (zJ (Zt (ZO (Zv Z5 (yD ?_))))))))))
    exact zJ (zM (z7 (zB (zB (z7 (zQ (zB (z7 (ZF Z5 Tryz.results157 (fun w hO => ⟨by rw [mA (vL (by rw [hrun, hdr, kM (ck_bin1 hfs (.inl h12) hi0 hF0 hz0)]))], hO.below⟩))))))))))
   have hz0 : ¬ i0 = 0 := by omega
   refine ZI h14 (Zw Z5 (Zw Z5 (Zm 0 ⟨b1, (ndV n).cells, 219⟩ (off := 0) (ndV n) (Zw (Zp b1 0) (Zm 0 ⟨b1, (ndV n).cells, 219⟩ (off := 0) (YI n.op) (Zw (.slice (some ⟨b, 0, none⟩) l.length l.length) (Zw (YI (i : Int)) (pU (k := .i64) ((i : Int) - 1) Kr (fun _ => Kr) (IntWalk.i64_in _ Om) (wI (Zp b (i - 1)) Kr (ZA (b := b) (off := 0) (c := l.length) (n := l.length) (k := .i64) (j := (i : Int) - 1) (e := 3) (sz := 1) rfl) (q_load 1 ⟨b, vH (wC F l.length), 3⟩ (off := (i - 1)) (YI (i0 : Int)) Kr rfl Kr Kr (pT (m9 hF0)) (pU (k := .i64) ((i0 : Int) - 1) Kr (fun _ => Kr) (IntWalk.i64_in _ Om) ?_)))))))))))
   refine Zw (YI (i : Int)) (pU (k := .i64) ((i : Int) - 1) Kr (fun _ => Kr) (IntWalk.i64_in _ Om) (Zw (ndV (⟨n.op, (i0 : Int) - 1, (i : Int) - 1, 0, []⟩ : Nd)) ?_))
   by_cases h15 : n = (⟨n.op, (i0 : Int) - 1, (i : Int) - 1, 0, []⟩ : Nd)
   ·have hna : n.a = (i0 : Int) - 1 := congrArg Nd.a h15
    obtain ⟨s9, j9, hstp, hj9, hfs9⟩ := ck_bin hfs (.inl h12) hi0 hF0 hz0 h15
    refine wI Z5 Kr (mZ (u := n) (v := (⟨n.op, (i0 : Int) - 1, (i : Int) - 1, 0, []⟩ : Nd)) rfl Kr Kr (decide_eq_true (h15))) (Zw Z5 (pV (zJ (Zf (ZB (zG (Zv (.slice (some ⟨b, 0, none⟩) l.length l.length) (Zv (YI (i : Int)) (Zv (.slice (some ⟨b, 0, none⟩) l.length l.length) (Zv (Zp b1 1) ?_))))))))))
    refine Zl 0 ⟨b1, (ndV n).cells, 219⟩ (off := 1) (YI n.a) (yJ (Zp b (i0 - 1)) Kr (ZA (b := b) (off := 0) (c := l.length) (n := l.length) (k := .i64) (j := n.a) (e := 3) (sz := 1) rfl) (nO 1 ⟨b, vH (wC F l.length), 3⟩ (off := (i0 - 1)) (YI (j9 : Int)) Kr rfl Kr Kr (pT (m9 hj9)) (yJ (Zp b i) Kr (ZA (b := b) (off := 0) (c := l.length) (n := l.length) (k := .i64) (j := (i : Int)) (e := 3) (sz := 1) rfl) (pR 1 ⟨b, vH (wC F l.length), 3⟩ (off := i) (YI (j9 : Int)) 1 Kr rfl rfl Kr Kr Kr Kr Kr (by show _ + 1 ≤ (vH _).size; rw [intA_size, dA Om]; omega) Kr (zR (L' := [⟨b1, (ndV n).cells, 219⟩, ⟨b, vH (wC (F ++ [j9]) l.length), 3⟩]) (by rw [← hset j9, ← intA_set (by rw [dA Om]; omega)]; rfl) (yD (y9 (y9 (zJ (zG (Zu (k := .i64) (((i + 1 : Nat) : Int)) (IntWalk.i64_in _ Om) ?_)))))))))))
    exact Zv (YI ((i + 1 : Nat) : Int)) (yD (jU (L' := [⟨b, vH (wC (F ++ [j9]) l.length), 3⟩]) (fun w hO => hO.sublist (by simp)) (xK (m' := l.length - (i + 1)) Om ⟨i + 1, s9, (F ++ [j9]), _, ⟨by omega, by rw [hrun, hdr, tS hstp], hfs9⟩, rfl, ZU, rfl⟩)))
   refine wI Z4 Kr (mZ (u := n) (v := (⟨n.op, (i0 : Int) - 1, (i : Int) - 1, 0, []⟩ : Nd)) rfl Kr Kr (decide_eq_false (h15))) (Zw Z4 (pV (zJ (Zt (ZO (Zv Z5 (ZN (zM (z7 ?_)))))))))
   exact zB (zB (z7 (zQ (zB (z7 (ZF Z5 Tryz.results157 (fun w hO => ⟨by rw [mA (vL (by rw [hrun, hdr, kM (ck_binno hfs (.inl h12) hi0 hF0 hz0 h15)]))], hO.below⟩)))))))
  refine Zh h12 (Zv Z5 (ZX (zG ?_)))
  by_cases h16 : (n.op : Int) = 4
  ·refine Zg h16 (Zv Z4 (ZY (zI (zI (ok_draw Kr Kr (Zw (YI (i : Int)) ?_))))))
   by_cases h17 : (i : Int) = 0
   ·have hi0 : i = 0 := by omega
    refine Zi h17 (Zw Z4 (Zj (Zj (Zj (Zj (Zj (Zj (Zw Z4 (Zw Z4 (Zj (Zj ?_)))))))))))
    refine Zj (Zj (Zj (Zj (Zj (Zj (Zj (Zj (Zj (Zj (Zj (Zw Z4 ?_)))))))))))
    refine pV (zJ (Zt (ZO (Zv Z5 (ZN (zM (z7 (zB (zB ?_)))))))))
    exact z7 (zQ (zB (z7 (ZF Z5 Tryz.results157 (fun w hO => ⟨by rw [mA (vL (by rw [hrun, hdr, kM (ck_bin0 hfs (.inr h16) hi0)]))], hO.below⟩)))))
   have hi0 : ¬ i = 0 := by omega
   obtain ⟨i0, hF0⟩ : ∃ i0, F[i - 1]? = some i0 := ⟨_, List.getElem?_eq_getElem Om⟩
   have hi0l := fs_lt hfs hi0 hF0
   refine ZI h17 (Zw Z5 (Zw (.slice (some ⟨b, 0, none⟩) l.length l.length) (Zw (YI (i : Int)) (pU (k := .i64) ((i : Int) - 1) Kr (fun _ => Kr) (IntWalk.i64_in _ Om) (wI (Zp b (i - 1)) Kr (ZA (b := b) (off := 0) (c := l.length) (n := l.length) (k := .i64) (j := (i : Int) - 1) (e := 3) (sz := 1) rfl) (q_load 1 ⟨b, vH (wC F l.length), 3⟩ (off := (i - 1)) (YI (i0 : Int)) Kr rfl Kr Kr (pT (m9 hF0)) ?_))))))
   by_cases h18 : (i0 : Int) = 0
   ·have hz0 : i0 = 0 := by omega
    refine Zi h18 (Zw Z4 (Zw Z4 (Zj (Zj (Zj (Zj (Zj (Zj (Zj (Zj (Zj ?_)))))))))))
    refine Zj (Zj (Zj (Zj (Zw Z4 (pV (zJ (Zt (ZO (Zv Z5 (yD ?_))))))))))
    exact zJ (zM (z7 (zB (zB (z7 (zQ (zB (z7 (ZF Z5 Tryz.results157 (fun w hO => ⟨by rw [mA (vL (by rw [hrun, hdr, kM (ck_bin1 hfs (.inr h16) hi0 hF0 hz0)]))], hO.below⟩))))))))))
   have hz0 : ¬ i0 = 0 := by omega
   refine ZI h18 (Zw Z5 (Zw Z5 (Zm 0 ⟨b1, (ndV n).cells, 219⟩ (off := 0) (ndV n) (Zw (Zp b1 0) (Zm 0 ⟨b1, (ndV n).cells, 219⟩ (off := 0) (YI n.op) (Zw (.slice (some ⟨b, 0, none⟩) l.length l.length) (Zw (YI (i : Int)) (pU (k := .i64) ((i : Int) - 1) Kr (fun _ => Kr) (IntWalk.i64_in _ Om) (wI (Zp b (i - 1)) Kr (ZA (b := b) (off := 0) (c := l.length) (n := l.length) (k := .i64) (j := (i : Int) - 1) (e := 3) (sz := 1) rfl) (q_load 1 ⟨b, vH (wC F l.length), 3⟩ (off := (i - 1)) (YI (i0 : Int)) Kr rfl Kr Kr (pT (m9 hF0)) (pU (k := .i64) ((i0 : Int) - 1) Kr (fun _ => Kr) (IntWalk.i64_in _ Om) ?_)))))))))))
   refine Zw (YI (i : Int)) (pU (k := .i64) ((i : Int) - 1) Kr (fun _ => Kr) (IntWalk.i64_in _ Om) (Zw (ndV (⟨n.op, (i0 : Int) - 1, (i : Int) - 1, 0, []⟩ : Nd)) ?_))
   by_cases h19 : n = (⟨n.op, (i0 : Int) - 1, (i : Int) - 1, 0, []⟩ : Nd)
   ·have hna : n.a = (i0 : Int) - 1 := congrArg Nd.a h19
    obtain ⟨s9, j9, hstp, hj9, hfs9⟩ := ck_bin hfs (.inr h16) hi0 hF0 hz0 h19
    refine wI Z5 Kr (mZ (u := n) (v := (⟨n.op, (i0 : Int) - 1, (i : Int) - 1, 0, []⟩ : Nd)) rfl Kr Kr (decide_eq_true (h19))) (Zw Z5 (pV (zJ (Zf (ZB (zG (Zv (.slice (some ⟨b, 0, none⟩) l.length l.length) (Zv (YI (i : Int)) (Zv (.slice (some ⟨b, 0, none⟩) l.length l.length) (Zv (Zp b1 1) ?_))))))))))
    refine Zl 0 ⟨b1, (ndV n).cells, 219⟩ (off := 1) (YI n.a) (yJ (Zp b (i0 - 1)) Kr (ZA (b := b) (off := 0) (c := l.length) (n := l.length) (k := .i64) (j := n.a) (e := 3) (sz := 1) rfl) (nO 1 ⟨b, vH (wC F l.length), 3⟩ (off := (i0 - 1)) (YI (j9 : Int)) Kr rfl Kr Kr (pT (m9 hj9)) (yJ (Zp b i) Kr (ZA (b := b) (off := 0) (c := l.length) (n := l.length) (k := .i64) (j := (i : Int)) (e := 3) (sz := 1) rfl) (pR 1 ⟨b, vH (wC F l.length), 3⟩ (off := i) (YI (j9 : Int)) 1 Kr rfl rfl Kr Kr Kr Kr Kr (by show _ + 1 ≤ (vH _).size; rw [intA_size, dA Om]; omega) Kr (zR (L' := [⟨b1, (ndV n).cells, 219⟩, ⟨b, vH (wC (F ++ [j9]) l.length), 3⟩]) (by rw [← hset j9, ← intA_set (by rw [dA Om]; omega)]; rfl) (yD (y9 (y9 (zJ (zG (Zu (k := .i64) (((i + 1 : Nat) : Int)) (IntWalk.i64_in _ Om) ?_)))))))))))
    exact Zv (YI ((i + 1 : Nat) : Int)) (yD (jU (L' := [⟨b, vH (wC (F ++ [j9]) l.length), 3⟩]) (fun w hO => hO.sublist (by simp)) (xK (m' := l.length - (i + 1)) Om ⟨i + 1, s9, (F ++ [j9]), _, ⟨by omega, by rw [hrun, hdr, tS hstp], hfs9⟩, rfl, ZU, rfl⟩)))
   refine wI Z4 Kr (mZ (u := n) (v := (⟨n.op, (i0 : Int) - 1, (i : Int) - 1, 0, []⟩ : Nd)) rfl Kr Kr (decide_eq_false (h19))) (Zw Z4 (pV (zJ (Zt (ZO (Zv Z5 (ZN (zM (z7 ?_)))))))))
   exact zB (zB (z7 (zQ (zB (z7 (ZF Z5 Tryz.results157 (fun w hO => ⟨by rw [mA (vL (by rw [hrun, hdr, kM (ck_binno hfs (.inr h16) hi0 hF0 hz0 h19)]))], hO.below⟩)))))))
  refine Zh h16 (Zv Z5 (ZX (ZO (Zv Z5 (ZN (zM (zB ?_)))))))
  exact zB (z7 (zQ (zB (z7 (ZF Z5 Tryz.results157 (fun w hO => ⟨by rw [mA (vL (by rw [hrun, hdr, kM (ck_else h3 h9 h12 h16)]))], hO.below⟩))))))
 have hil : i = l.length := by omega
 rw [List.drop_of_length_le Om, hil] at hrun
 rw [hil] at hfs
 obtain ⟨i0, hF0⟩ : ∃ i0, F[l.length - 1]? = some i0 := ⟨_, List.getElem?_eq_getElem Om⟩
 have hend := ck_end hfs hrun hne hF0
 refine Zh h2 (ZN (zI (Zf (wX (yZ (yU (yV (zJ (zI (zG ?_))))))))))
 refine Zv (.slice (some ⟨b, 0, none⟩) l.length l.length) (Zv (.slice A l.length cap0) (Zv (YI (l.length : Int)) (Zu (k := .i64) ((l.length : Int) - 1) (IntWalk.i64_in _ Om) (yJ (Zp b (l.length - 1)) Kr (ZA (b := b) (off := 0) (c := l.length) (n := l.length) (k := .i64) (j := (l.length : Int) - 1) (e := 3) (sz := 1) rfl) (nO 0 ⟨b, vH (wC F l.length), 3⟩ (off := (l.length - 1)) (YI (i0 : Int)) Kr rfl Kr Kr (pT (m9 hF0)) ?_)))))
 by_cases h20 : (i0 : Int) = 0
 ·have hz0 : i0 = 0 := by omega
  exact Zg h20 (Zv Z4 (ZN (zM (ZF Z4 Tryz.results157 (fun w hO => ⟨by rw [show wA l = true from by unfold wA; rw [hend, decide_eq_true hl15]; simp; omega], hO.below⟩)))))
 have hz0 : ¬ i0 = 0 := by omega
 exact Zh h20 (Zv Z5 (ZN (zM (ZF Z5 Tryz.results157 (fun w hO => ⟨by rw [show wA l = false from by unfold wA; rw [hend, decide_eq_true hl15]; simp; omega], hO.below⟩)))))
end
section
set_option linter.unnecessarySimpa false
def Nb (b : Nat) (nd : List Nd) (ob : List Blk) : Prop := ∃ C cc g, ob = ⟨b, #[.slice C nd.length cc], 190⟩ :: g ∧ SlN (.slice C nd.length cc) nd g
def Rb (b : Nat) (A : Option Addr) (m cap : Nat) (bad : Bool) (nd : List Nd) (ob : List Blk) : Prop := ∃ C cc g, ob = ⟨b, #[.slice C nd.length cc, .slice A m cap, .bool bad], 192⟩ :: g ∧ SlN (.slice C nd.length cc) nd g
theorem fP {b n cc : Nat} {C : Option Addr} {cs : Array Value} {T : TypeId} (W : World) (hb : W.heap[b]? = some (.cells cs T)) (hc : yL Tryz.prog 152 cs 0 = some (.slice C n cc)) (hn : n ≤ 1000000) : YC 228 #[.pointer (some ⟨b, 0, none⟩)] W (YR (YI ((n : Int) - 1)) W) := by
 refine Z2 (n := 9) Tryz.func228 rfl (ZO (Zv (YI 0) (ZR (Zv (Zp b 0) (Zv (Zp b 0) (Zv (Zp b 0) (Zo (.slice C n cc) (a := ⟨b, 0, none⟩) (fun w hO => yT hc ((hO.below.block b (Array.getElem?_eq_some_iff.1 hb).1).trans hb)) ?_)))))))
 exact Zv (YI (n : Int)) (Zu (k := .i64) (((n : Int) : Int) - 1) (IntWalk.i64_in _ Om) (Zv (YI (((n : Int) : Int) - 1)) (ZN (zM (ZF (YI (((n : Int) : Int) - 1)) Tryz.results228 (fun w hO => ⟨rfl, hO.below⟩))))))
theorem nis10_any {b : Nat} {nd : List Nd} {ob : List Blk} {W : World} (hb : Nb b nd ob) (hO : Own (ob.map Blk.b) W W ob) (hn9 : nd.length ≤ 999999) (k : Int) (v : List UInt8) : YC 265 #[.pointer (some ⟨b, 0, none⟩), YI k, .string (mkS v)] W fun e w' => ∃ ob', e = .returned (.tuple #[]) ∧ Nb b (nd ++ [(⟨1, 0, 0, k, v⟩ : Nd)]) ob' ∧ Own (ob.map Blk.b) W w' ob' := by
 obtain ⟨C, cc, g, rfl, hsl⟩ := hb
 have hnl : (nd ++ [(⟨1, 0, 0, k, v⟩ : Nd)]).length = nd.length + 1 := by simp
 refine yI hO Tryz.func265 (wN [0] 1 219 #[YI 1, YI 0, YI 0, YI k, .string (mkS v)] fun b1 => pK (m := 1) (cp := 1) [] [⟨b1, #[YI 1, YI 0, YI 0, YI k, .string (mkS v)], 219⟩, ⟨b, #[.slice C nd.length cc], 190⟩] g [] 0 (⟨b1, #[YI 1, YI 0, YI 0, YI k, .string (mkS v)], 219⟩ :: ⟨b, #[.slice C nd.length cc], 190⟩ :: g) (fun w hO => (hO.cast (by simp))) hsl Om fun v' ob' h => ?_)
 obtain ⟨B2, cb2, rfl⟩ := h.form
 refine vF [1] fun w hO => ⟨⟨b, #[.slice B2 (nd ++ [(⟨1, 0, 0, k, v⟩ : Nd)]).length cb2], 190⟩ :: ob', rfl, ⟨B2, cb2, ob', rfl, by rw [hnl]; exact SlN.add h⟩, ?_⟩
 rw [hnl]; exact (hO.past 1 (⟨b, #[.slice B2 (nd.length + 1) cb2], 190⟩ :: (ob' ++ []))).cast (by simp)
theorem nnot10_any {b : Nat} {nd : List Nd} {ob : List Blk} {W : World} (hb : Nb b nd ob) (hO : Own (ob.map Blk.b) W W ob) (hn9 : nd.length ≤ 999999) : YC 250 #[.pointer (some ⟨b, 0, none⟩)] W fun e w' => ∃ ob', e = .returned (.tuple #[]) ∧ Nb b (nd ++ [(⟨2, (nd.length : Int) - 1, 0, 0, []⟩ : Nd)]) ob' ∧ Own (ob.map Blk.b) W w' ob' := by
 obtain ⟨C, cc, g, rfl, hsl⟩ := hb
 have hnl : (nd ++ [(⟨2, (nd.length : Int) - 1, 0, 0, []⟩ : Nd)]).length = nd.length + 1 := by simp
 have hlast : ∀ w, Own ((⟨b, #[.slice C nd.length cc], 190⟩ :: g).map Blk.b) W w [⟨b, #[.slice C nd.length cc], 190⟩] → YC 228 #[.pointer (some ⟨b, 0, none⟩)] w (YR (YI ((nd.length : Int) - 1)) w) := fun w hO => fP (C := C) (cc := cc) w (hO.held ⟨b, #[.slice C nd.length cc], 190⟩ (by simp)) Kr Om
 refine yI hO Tryz.func250 (x8 10 [] [⟨b, #[.slice C nd.length cc], 190⟩] (fun w hO => Own.nth 0 ⟨b, #[.slice C nd.length cc], 190⟩ hO) (yG [0] 6 (zE (v := YI ((nd.length : Int) - 1)) [] (fun w hO => hlast w (Own.nth 0 ⟨b, #[.slice C nd.length cc], 190⟩ hO)) (yG [] 8 (gX 1 219 #[YI 2, YI ((nd.length : Int) - 1), YI 0, YI 0, .string (mkS [])] fun b1 => yG [] 9 (qN (m := 1) (cp := 1) [⟨b1, #[YI 2, YI ((nd.length : Int) - 1), YI 0, YI 0, .string (mkS [])], 219⟩, ⟨b, #[.slice C nd.length cc], 190⟩] g [] 0 (⟨b1, #[YI 2, YI ((nd.length : Int) - 1), YI 0, YI 0, .string (mkS [])], 219⟩ :: ⟨b, #[.slice C nd.length cc], 190⟩ :: g) [⟨b, #[.slice C nd.length cc], 190⟩] (fun w hO => (hO.cast (by simp))) (fun o w hO => hO.take (fun y hy => by rw [List.mem_singleton.1 hy]; simp) (by simp)) hsl Om fun v' ob' h => ?_))))))
 obtain ⟨B2, cb2, rfl⟩ := h.form
 refine vF [1] fun w hO => ⟨⟨b, #[.slice B2 (nd ++ [(⟨2, (nd.length : Int) - 1, 0, 0, []⟩ : Nd)]).length cb2], 190⟩ :: ob', rfl, ⟨B2, cb2, ob', rfl, by rw [hnl]; exact SlN.add h⟩, ?_⟩
 rw [hnl]; exact (hO.past 1 (⟨b, #[.slice B2 (nd.length + 1) cb2], 190⟩ :: (ob' ++ []))).cast (by simp)
theorem njoin10_any {b : Nat} {nd : List Nd} {ob : List Blk} {W : World} (hb : Nb b nd ob) (hO : Own (ob.map Blk.b) W W ob) (hn9 : nd.length ≤ 999999) (op a : Int) : YC 229 #[.pointer (some ⟨b, 0, none⟩), YI op, YI a] W fun e w' => ∃ ob', e = .returned (.tuple #[]) ∧ Nb b (nd ++ [(⟨op, a, (nd.length : Int) - 1, 0, []⟩ : Nd)]) ob' ∧ Own (ob.map Blk.b) W w' ob' := by
 obtain ⟨C, cc, g, rfl, hsl⟩ := hb
 have hnl : (nd ++ [(⟨op, a, (nd.length : Int) - 1, 0, []⟩ : Nd)]).length = nd.length + 1 := by simp
 have hlast : ∀ w, Own ((⟨b, #[.slice C nd.length cc], 190⟩ :: g).map Blk.b) W w [⟨b, #[.slice C nd.length cc], 190⟩] → YC 228 #[.pointer (some ⟨b, 0, none⟩)] w (YR (YI ((nd.length : Int) - 1)) w) := fun w hO => fP (C := C) (cc := cc) w (hO.held ⟨b, #[.slice C nd.length cc], 190⟩ (by simp)) Kr Om
 refine yI hO Tryz.func229 (x8 12 [] [⟨b, #[.slice C nd.length cc], 190⟩] (fun w hO => Own.nth 0 ⟨b, #[.slice C nd.length cc], 190⟩ hO) (yG [0] 8 (zE (v := YI ((nd.length : Int) - 1)) [] (fun w hO => hlast w (Own.nth 0 ⟨b, #[.slice C nd.length cc], 190⟩ hO)) (yG [] 10 (gX 1 219 #[YI op, YI a, YI ((nd.length : Int) - 1), YI 0, .string (mkS [])] fun b1 => yG [] 11 (qN (m := 1) (cp := 1) [⟨b1, #[YI op, YI a, YI ((nd.length : Int) - 1), YI 0, .string (mkS [])], 219⟩, ⟨b, #[.slice C nd.length cc], 190⟩] g [] 0 (⟨b1, #[YI op, YI a, YI ((nd.length : Int) - 1), YI 0, .string (mkS [])], 219⟩ :: ⟨b, #[.slice C nd.length cc], 190⟩ :: g) [⟨b, #[.slice C nd.length cc], 190⟩] (fun w hO => (hO.cast (by simp))) (fun o w hO => hO.take (fun y hy => by rw [List.mem_singleton.1 hy]; simp) (by simp)) hsl Om fun v' ob' h => ?_))))))
 obtain ⟨B2, cb2, rfl⟩ := h.form
 refine vF [1] fun w hO => ⟨⟨b, #[.slice B2 (nd ++ [(⟨op, a, (nd.length : Int) - 1, 0, []⟩ : Nd)]).length cb2], 190⟩ :: ob', rfl, ⟨B2, cb2, ob', rfl, by rw [hnl]; exact SlN.add h⟩, ?_⟩
 rw [hnl]; exact (hO.past 1 (⟨b, #[.slice B2 (nd.length + 1) cb2], 190⟩ :: (ob' ++ []))).cast (by simp)
theorem ris10_any {b m cap : Nat} {A : Option Addr} {bad : Bool} {nd : List Nd} {ob : List Blk} {W : World} (hb : Rb b A m cap bad nd ob) (hO : Own (ob.map Blk.b) W W ob) (hn9 : nd.length ≤ 999999) (k : Int) (v : List UInt8) : YC 265 #[.pointer (some ⟨b, 0, none⟩), YI k, .string (mkS v)] W fun e w' => ∃ ob', e = .returned (.tuple #[]) ∧ Rb b A m cap bad (nd ++ [(⟨1, 0, 0, k, v⟩ : Nd)]) ob' ∧ Own (ob.map Blk.b) W w' ob' := by
 obtain ⟨C, cc, g, rfl, hsl⟩ := hb
 have hnl : (nd ++ [(⟨1, 0, 0, k, v⟩ : Nd)]).length = nd.length + 1 := by simp
 refine yI hO Tryz.func265 (wN [0] 1 219 #[YI 1, YI 0, YI 0, YI k, .string (mkS v)] fun b1 => pK (m := 1) (cp := 1) [] [⟨b1, #[YI 1, YI 0, YI 0, YI k, .string (mkS v)], 219⟩, ⟨b, #[.slice C nd.length cc, .slice A m cap, .bool bad], 192⟩] g [] 0 (⟨b1, #[YI 1, YI 0, YI 0, YI k, .string (mkS v)], 219⟩ :: ⟨b, #[.slice C nd.length cc, .slice A m cap, .bool bad], 192⟩ :: g) (fun w hO => (hO.cast (by simp))) hsl Om fun v' ob' h => ?_)
 obtain ⟨B2, cb2, rfl⟩ := h.form
 refine vF [1] fun w hO => ⟨⟨b, #[.slice B2 (nd ++ [(⟨1, 0, 0, k, v⟩ : Nd)]).length cb2, .slice A m cap, .bool bad], 192⟩ :: ob', rfl, ⟨B2, cb2, ob', rfl, by rw [hnl]; exact SlN.add h⟩, ?_⟩
 rw [hnl]; exact (hO.past 1 (⟨b, #[.slice B2 (nd.length + 1) cb2, .slice A m cap, .bool bad], 192⟩ :: (ob' ++ []))).cast (by simp)
theorem rnot10_any {b m cap : Nat} {A : Option Addr} {bad : Bool} {nd : List Nd} {ob : List Blk} {W : World} (hb : Rb b A m cap bad nd ob) (hO : Own (ob.map Blk.b) W W ob) (hn9 : nd.length ≤ 999999) : YC 250 #[.pointer (some ⟨b, 0, none⟩)] W fun e w' => ∃ ob', e = .returned (.tuple #[]) ∧ Rb b A m cap bad (nd ++ [(⟨2, (nd.length : Int) - 1, 0, 0, []⟩ : Nd)]) ob' ∧ Own (ob.map Blk.b) W w' ob' := by
 obtain ⟨C, cc, g, rfl, hsl⟩ := hb
 have hnl : (nd ++ [(⟨2, (nd.length : Int) - 1, 0, 0, []⟩ : Nd)]).length = nd.length + 1 := by simp
 have hlast : ∀ w, Own ((⟨b, #[.slice C nd.length cc, .slice A m cap, .bool bad], 192⟩ :: g).map Blk.b) W w [⟨b, #[.slice C nd.length cc, .slice A m cap, .bool bad], 192⟩] → YC 228 #[.pointer (some ⟨b, 0, none⟩)] w (YR (YI ((nd.length : Int) - 1)) w) := fun w hO => fP (C := C) (cc := cc) w (hO.held ⟨b, #[.slice C nd.length cc, .slice A m cap, .bool bad], 192⟩ (by simp)) Kr Om
 refine yI hO Tryz.func250 (x8 10 [] [⟨b, #[.slice C nd.length cc, .slice A m cap, .bool bad], 192⟩] (fun w hO => Own.nth 0 ⟨b, #[.slice C nd.length cc, .slice A m cap, .bool bad], 192⟩ hO) (yG [0] 6 (zE (v := YI ((nd.length : Int) - 1)) [] (fun w hO => hlast w (Own.nth 0 ⟨b, #[.slice C nd.length cc, .slice A m cap, .bool bad], 192⟩ hO)) (yG [] 8 (gX 1 219 #[YI 2, YI ((nd.length : Int) - 1), YI 0, YI 0, .string (mkS [])] fun b1 => yG [] 9 (qN (m := 1) (cp := 1) [⟨b1, #[YI 2, YI ((nd.length : Int) - 1), YI 0, YI 0, .string (mkS [])], 219⟩, ⟨b, #[.slice C nd.length cc, .slice A m cap, .bool bad], 192⟩] g [] 0 (⟨b1, #[YI 2, YI ((nd.length : Int) - 1), YI 0, YI 0, .string (mkS [])], 219⟩ :: ⟨b, #[.slice C nd.length cc, .slice A m cap, .bool bad], 192⟩ :: g) [⟨b, #[.slice C nd.length cc, .slice A m cap, .bool bad], 192⟩] (fun w hO => (hO.cast (by simp))) (fun o w hO => hO.take (fun y hy => by rw [List.mem_singleton.1 hy]; simp) (by simp)) hsl Om fun v' ob' h => ?_))))))
 obtain ⟨B2, cb2, rfl⟩ := h.form
 refine vF [1] fun w hO => ⟨⟨b, #[.slice B2 (nd ++ [(⟨2, (nd.length : Int) - 1, 0, 0, []⟩ : Nd)]).length cb2, .slice A m cap, .bool bad], 192⟩ :: ob', rfl, ⟨B2, cb2, ob', rfl, by rw [hnl]; exact SlN.add h⟩, ?_⟩
 rw [hnl]; exact (hO.past 1 (⟨b, #[.slice B2 (nd.length + 1) cb2, .slice A m cap, .bool bad], 192⟩ :: (ob' ++ []))).cast (by simp)
theorem rjoin10_any {b m cap : Nat} {A : Option Addr} {bad : Bool} {nd : List Nd} {ob : List Blk} {W : World} (hb : Rb b A m cap bad nd ob) (hO : Own (ob.map Blk.b) W W ob) (hn9 : nd.length ≤ 999999) (op a : Int) : YC 229 #[.pointer (some ⟨b, 0, none⟩), YI op, YI a] W fun e w' => ∃ ob', e = .returned (.tuple #[]) ∧ Rb b A m cap bad (nd ++ [(⟨op, a, (nd.length : Int) - 1, 0, []⟩ : Nd)]) ob' ∧ Own (ob.map Blk.b) W w' ob' := by
 obtain ⟨C, cc, g, rfl, hsl⟩ := hb
 have hnl : (nd ++ [(⟨op, a, (nd.length : Int) - 1, 0, []⟩ : Nd)]).length = nd.length + 1 := by simp
 have hlast : ∀ w, Own ((⟨b, #[.slice C nd.length cc, .slice A m cap, .bool bad], 192⟩ :: g).map Blk.b) W w [⟨b, #[.slice C nd.length cc, .slice A m cap, .bool bad], 192⟩] → YC 228 #[.pointer (some ⟨b, 0, none⟩)] w (YR (YI ((nd.length : Int) - 1)) w) := fun w hO => fP (C := C) (cc := cc) w (hO.held ⟨b, #[.slice C nd.length cc, .slice A m cap, .bool bad], 192⟩ (by simp)) Kr Om
 refine yI hO Tryz.func229 (x8 12 [] [⟨b, #[.slice C nd.length cc, .slice A m cap, .bool bad], 192⟩] (fun w hO => Own.nth 0 ⟨b, #[.slice C nd.length cc, .slice A m cap, .bool bad], 192⟩ hO) (yG [0] 8 (zE (v := YI ((nd.length : Int) - 1)) [] (fun w hO => hlast w (Own.nth 0 ⟨b, #[.slice C nd.length cc, .slice A m cap, .bool bad], 192⟩ hO)) (yG [] 10 (gX 1 219 #[YI op, YI a, YI ((nd.length : Int) - 1), YI 0, .string (mkS [])] fun b1 => yG [] 11 (qN (m := 1) (cp := 1) [⟨b1, #[YI op, YI a, YI ((nd.length : Int) - 1), YI 0, .string (mkS [])], 219⟩, ⟨b, #[.slice C nd.length cc, .slice A m cap, .bool bad], 192⟩] g [] 0 (⟨b1, #[YI op, YI a, YI ((nd.length : Int) - 1), YI 0, .string (mkS [])], 219⟩ :: ⟨b, #[.slice C nd.length cc, .slice A m cap, .bool bad], 192⟩ :: g) [⟨b, #[.slice C nd.length cc, .slice A m cap, .bool bad], 192⟩] (fun w hO => (hO.cast (by simp))) (fun o w hO => hO.take (fun y hy => by rw [List.mem_singleton.1 hy]; simp) (by simp)) hsl Om fun v' ob' h => ?_))))))
 obtain ⟨B2, cb2, rfl⟩ := h.form
 refine vF [1] fun w hO => ⟨⟨b, #[.slice B2 (nd ++ [(⟨op, a, (nd.length : Int) - 1, 0, []⟩ : Nd)]).length cb2, .slice A m cap, .bool bad], 192⟩ :: ob', rfl, ⟨B2, cb2, ob', rfl, by rw [hnl]; exact SlN.add h⟩, ?_⟩
 rw [hnl]; exact (hO.past 1 (⟨b, #[.slice B2 (nd.length + 1) cb2, .slice A m cap, .bool bad], 192⟩ :: (ob' ++ []))).cast (by simp)
end
section
set_option linter.unnecessarySimpa false
theorem flat_len10 {α : Type} {g : α → List Value} {sz : Nat} (hg : ∀ x, (g x).length = sz) : ∀ l : List α, (l.flatMap g).length = l.length * sz
 | [] => by simp
 | a :: l => by rw [List.flatMap_cons, List.length_append, flat_len10 hg l, hg, List.length_cons, Nat.succ_mul]; omega
theorem Reads.from_ {α : Type} {g : α → List Value} {sz : Nat} (hg : ∀ x, (g x).length = sz) {w : World} {B b off c : Nat} {l : List α} (h : Reads g w B (some ⟨b, off, none⟩) l) (hc : l.length ≤ c) (k : Nat) : Reads g w B (some ⟨b, off + (if c = k then 0 else k * sz), none⟩) (l.drop k) := fun h0 => by
 rw [List.length_drop] at h0
 obtain ⟨b', off', e, hlt, hcell⟩ := h Om
 obtain ⟨rfl, rfl⟩ : b = b' ∧ off = off' := by simp at e; exact e
 refine ⟨b, _, rfl, hlt, fun j u hj => ?_⟩
 rw [if_neg Om]
 have e2 : l.flatMap g = (l.take k).flatMap g ++ (l.drop k).flatMap g := by rw [← List.flatMap_append, List.take_append_drop]
 have hl : ((l.take k).flatMap g).length = k * sz := by rw [flat_len10 hg, List.length_take, Nat.min_eq_left Om]
 have := hcell (k * sz + j) u (by rw [e2, List.getElem?_append_right Om, hl, Nat.add_sub_cancel_left]; exact hj)
 rw [← Nat.add_assoc] at this; exact this
theorem Reads.back {α : Type} {g : α → List Value} {w w' : World} {B : Nat} {A : Option Addr} {l : List α} (h : Reads g w' B A l) (hb : Below B w w') : Reads g w B A l := fun h0 => by
 obtain ⟨b, off, e, hlt, hc⟩ := h h0
 exact ⟨b, off, e, hlt, fun k u hk => (hb.cell (p := ⟨b, off + k, none⟩) hlt).symm.trans (hc k u hk)⟩
def Rdr (W : World) (B b : Nat) (ts : List Tok) (nd : List Nd) (bad : Bool) (ob : List Blk) : Prop := ∃ A cap, Reads y8 W B A ts ∧ ts.length ≤ cap ∧ Rb b A ts.length cap bad nd ob
structure LentL (B b : Nat) (ts : List Tok) (nd : List Nd) (bad : Bool) (ob : List Blk) (W : World) : Prop where
 rd : Rdr W B b ts nd bad ob
 own : Own (ob.map Blk.b) W W ob
 ge : ∀ x ∈ ob, B ≤ x.b
 le : B ≤ W.heap.size
 short : ∀ x ∈ ts, x.length ≤ 1000000
 texts : ∀ n ∈ nd, n.text.length ≤ 1000000
 small : nd.length + ts.length ≤ 10000
 lib : MkAt B W
structure BackL (B b : Nat) (ts : List Tok) (nd : List Nd) (bad : Bool) (ob ob' : List Blk) (W w' : World) : Prop where
 rd : Rdr W B b ts nd bad ob'
 own : Own (ob.map Blk.b) W w' ob'
 short : ∀ x ∈ ts, x.length ≤ 1000000
 texts : ∀ n ∈ nd, n.text.length ≤ 1000000
theorem Rdr.on {W w : World} {B b : Nat} {ts : List Tok} {nd : List Nd} {bad : Bool} {ob : List Blk} (h : Rdr W B b ts nd bad ob) (hb : Below B W w) : Rdr w B b ts nd bad ob := by
 obtain ⟨A, cap, h1, h2, h3⟩ := h
 exact ⟨A, cap, h1.on hb (Nat.le_refl _), h2, h3⟩
theorem Rdr.back {W w : World} {B b : Nat} {ts : List Tok} {nd : List Nd} {bad : Bool} {ob : List Blk} (h : Rdr w B b ts nd bad ob) (hb : Below B W w) : Rdr W B b ts nd bad ob := by
 obtain ⟨A, cap, h1, h2, h3⟩ := h
 exact ⟨A, cap, h1.back hb, h2, h3⟩
theorem LentL.at {B b : Nat} {ts ts' : List Tok} {nd nd' : List Nd} {bad bad' : Bool} {ob ob' R : List Blk} {W w : World} (h : LentL B b ts nd bad ob W) (hR : Rdr W B b ts' nd' bad' ob') (hx : (∀ x ∈ ts', x.length ≤ 1000000) ∧ ∀ n ∈ nd', n.text.length ≤ 1000000) (hs : nd'.length + ts'.length ≤ 10000) (hO : Own (ob.map Blk.b) W w (ob' ++ R)) : LentL B b ts' nd' bad' ob' w :=
 ⟨hR.on (hO.belowB (gG h.ge) h.le), Own.lent hO, fun x hx => hO.allB (gG h.ge) h.le x (List.mem_append_left _ hx), Nat.le_trans h.le hO.size, hx.1, hx.2, hs, h.lib.on (hO.belowB (gG h.ge) h.le) (Nat.le_refl _)⟩
theorem rlast10 {W w : World} {B b : Nat} {ts : List Tok} {nd : List Nd} {bad : Bool} {ob L : List Blk} {M : List Nat} {W0 : World} (h : Rdr W B b ts nd bad ob) (hO : Own M W0 w L) (hs : ∀ x ∈ ob, x ∈ L) (hn : nd.length ≤ 1000000) : YC 228 #[.pointer (some ⟨b, 0, none⟩)] w (YR (YI ((nd.length : Int) - 1)) w) := by
 obtain ⟨A, cap, h1, h2, C, cc, g, rfl, hsl⟩ := h
 exact fP (C := C) (cc := cc) w (hO.held _ (hs _ (List.mem_cons_self ..))) Kr hn
theorem tN {nd : List Nd} {n : Nd} (h : ∀ x ∈ nd, x.text.length ≤ 1000000) (hn : n.text.length ≤ 1000000) : ∀ x ∈ nd ++ [n], x.text.length ≤ 1000000 := fun x hx => by
 rcases List.mem_append.1 hx with q | q
 ·exact h x q
 ·rw [List.mem_singleton.1 q]; exact hn
theorem skip_tail {x : Tok} {ts : List Tok} (h : ∀ y ∈ ts, y.length ≤ 1000000) : ∀ y ∈ yP x ts, y.length ≤ 1000000 := fun y hy => by
 unfold yP at hy
 split at hy
 ·exact h y (List.mem_of_mem_tail hy)
 ·exact h y hy
theorem fK {B b : Nat} {ts : List Tok} {nd : List Nd} {bad : Bool} {ob : List Blk} {W : World} (hL : LentL B b ts nd bad ob W) (x : Tok) : YC 227 #[.pointer (some ⟨b, 0, none⟩), .string (mkS x)] W fun e w' => ∃ ob', e = .returned (.bool (gN x ts)) ∧ BackL B b (yP x ts) nd bad ob ob' W w' := by
 have hO0 := hL.own
 have hM' := gG hL.ge
 have hBW := hL.le
 have hsh := hL.short
 have hsm := hL.small
 obtain ⟨A, cap, hw, hcap, C, cc, g, rfl, hsl⟩ := hL.rd
 have hO := hO0
 refine vE (n := 29) hO Tryz.func227 rfl Kr Kr (ZO (Zv Z5 (ZN (zI (ZO (Zv (Zp b 0) (Zv (Zp b 0) (Zv (Zp b 1) ?_))))))))
 refine Zl 0 ⟨b, #[.slice C nd.length cc, .slice A ts.length cap, .bool bad], 192⟩ (off := 1) (.slice A ts.length cap) (Zv (YI (ts.length : Int)) ?_)
 by_cases h1 : (ts.length : Int) = 0
 ·have hts : ts = [] := List.eq_nil_of_length_eq_zero Om
  refine Zg h1 (Zv Z4 (Zk (Zk (Zk (Zk (Zk (Zk (Zk (Zk (Zv Z4 (yD ?_)))))))))))
  exact zJ (Zt (ZO (Zv Z5 (ZN (zM (z7 (ZF Z5 Tryz.results227 (fun w hO => ⟨_, congrArg (fun z => Ending.returned (.bool z)) (fD (x := x) (ts := ts) (by rw [hts]; simp)).1.symm, ⟨by rw [(fD (x := x) (ts := ts) (by rw [hts]; simp)).2]; exact ⟨A, cap, hw, hcap, C, cc, g, rfl, hsl⟩, hO, skip_tail hL.short, hL.texts⟩⟩))))))))
 obtain ⟨c, r, hts⟩ : ∃ c r, ts = c :: r := by cases ts with | nil => exact absurd rfl h1 | cons c r => exact ⟨c, r, rfl⟩
 obtain ⟨bp, off, hA, hlt, hcell⟩ := hw Om
 have hws0 : ∀ h : 0 < ts.length, ts[0] = c := by rw [hts]; intro h; rfl
 have htl : ts.length = r.length + 1 := by rw [hts]; rfl
 refine Zh h1 (Zv Z5 (Zv (Zp b 0) (Zv (Zp b 0) (Zv (Zp b 1) (Zl 0 ⟨b, #[.slice C nd.length cc, .slice A ts.length cap, .bool bad], 192⟩ (off := 1) (.slice A ts.length cap) (yJ (Zp bp (off + 0 * 1)) Kr (ZA (b := bp) (off := off) (c := cap) (n := ts.length) (k := .i64) (j := 0) (e := 9) (sz := 1) hA) (Zo (.string (mkS c)) (a := ⟨bp, off + 0 * 1, none⟩) (fun w hO => Reads.load y7 (hw.on (hO.belowB hM' hBW) (Nat.le_refl _)) hA 0 0 Om Om _ (by rw [hws0]; kernel_rfl)) (Zv (.string (mkS x)) ?_))))))))
 by_cases h2 : (c : List UInt8) = x
 ·refine yJ Z5 Kr (kX (a := c) (b := x) rfl Kr Kr (decide_eq_true (h2))) (Zv Z5 (ZX (ZB (ZO (Zv (Zp b 0) (Zv (Zp b 0) (Zv (Zp b 0) ?_)))))))
  refine Zv (Zp b 1) (Zl 0 ⟨b, #[.slice C nd.length cc, .slice A ts.length cap, .bool bad], 192⟩ (off := 1) (.slice A ts.length cap) (yJ (.slice (some ⟨bp, off + (if cap = (1 : Int).toNat then 0 else (1 : Int).toNat * 1), none⟩) (ts.length - (1 : Int).toNat) (cap - (1 : Int).toNat)) Kr (run_sllA (b := bp) (off := off) (n := ts.length) (c := cap) (k := .i64) (j := 1) (e := 9) (sz := 1) rfl Kr hA Kr Kr Kr Om Om) (Zv (Zp b 0) (Zv (Zp b 1) (Zs 0 ⟨b, #[.slice C nd.length cc, .slice A ts.length cap, .bool bad], 192⟩ (off := 1) (.slice (some ⟨bp, off + (if cap = (1 : Int).toNat then 0 else (1 : Int).toNat * 1), none⟩) (ts.length - (1 : Int).toNat) (cap - (1 : Int).toNat)) (ZR (Zv Z4 (yD ?_))))))))
  refine zJ (zM ?_)
  have hnx : gN x ts = true ∧ yP x ts = r := by rw [hts, h2]; exact next_yes
  exact ZF Z4 Tryz.results227 (fun w hO => ⟨_, by rw [hnx.1], ⟨by rw [hnx.2]; exact ⟨_, cap - (1 : Int).toNat, by have q9 := Reads.from_ y7 (hA ▸ hw) hcap (1 : Int).toNat; rw [show ts.drop (1 : Int).toNat = r from by rw [hts]; rfl] at q9; exact q9, (by show r.length ≤ cap - 1; omega), C, cc, g, by rw [show r.length = ts.length - (1 : Int).toNat from by show _ = ts.length - 1; omega]; rfl, hsl⟩, hO, skip_tail hL.short, hL.texts⟩⟩)
 refine yJ Z4 Kr (kX (a := c) (b := x) rfl Kr Kr (decide_eq_false (h2))) (Zv Z4 (ZY (ZO (Zv Z5 (ZN (zM (z7 ?_)))))))
 exact ZF Z5 Tryz.results227 (fun w hO => ⟨_, congrArg (fun z => Ending.returned (.bool z)) (fD (x := x) (ts := ts) (by rw [hts]; simp; exact h2)).1.symm, ⟨by rw [(fD (x := x) (ts := ts) (by rw [hts]; simp; exact h2)).2]; exact ⟨A, cap, hw, hcap, C, cc, g, rfl, hsl⟩, hO, skip_tail hL.short, hL.texts⟩⟩)
structure pI (f : FuncId) (n : Nat) (part : List Tok → Option (Tr × List Tok)) : Prop where
 go : ∀ {B b : Nat} {ts : List Tok} {nd : List Nd} {bad : Bool} {ob : List Blk} {W : World}, LentL B b ts nd bad ob W → ts.length ≤ n →
  Calls Tryz.prog f #[.pointer (some ⟨b, 0, none⟩)] W fun e w' => ∃ ts' nd' bad' ob', e = .returned (.tuple #[]) ∧ BackL B b ts' nd' bad' ob ob' W w' ∧ GotL part ts nd bad ts' nd' bad'
theorem comparison10_any (n : Nat) : pI 251 n dU := by
 refine ⟨fun {B b ts nd bad ob W} hL hln => ?_⟩
 have hO0 := hL.own
 have hM' := gG hL.ge
 have hBW := hL.le
 have hsh := hL.short
 have hsm := hL.small
 obtain ⟨A, cap, hw, hcap, C, cc, g, rfl, hsl⟩ := hL.rd
 have hO := hO0
 refine vE (n := 59) hO Tryz.func251 rfl Kr Kr (zI (ZO (Zv (Zp b 0) (Zv (Zp b 0) (Zv (Zp b 1) (Zl 0 ⟨b, #[.slice C nd.length cc, .slice A ts.length cap, .bool bad], 192⟩ (off := 1) (.slice A ts.length cap) (Zv (YI (ts.length : Int)) ?_)))))))
 by_cases h1 : (ts.length : Int) < 3
 ·have h3 : ts.length < 3 := by omega
  refine Zg h1 (ZY (ZO (Zv (Zp b 0) (Zv (Zp b 0) (Zv (Zp b 2) (Zs 0 ⟨b, #[.slice C nd.length cc, .slice A ts.length cap, .bool bad], 192⟩ (off := 2) Z4 (yD (zJ ?_))))))))
  exact zM (z7 (fin_none_ret Tryz.results251 (fun w hO => ⟨ts, nd, true, _, rfl, ⟨⟨A, cap, hw, hcap, C, cc, g, rfl, hsl⟩, hO, hL.short, hL.texts⟩, gl_short h3⟩)))
 obtain ⟨k, s, v, r, hts⟩ : ∃ k s v r, ts = k :: s :: v :: r := by match ts, h1 with | k :: s :: v :: r, _ => exact ⟨k, s, v, r, rfl⟩ | [], h => simp at h | [a], h => simp at h | [a, c], h => simp at h
 obtain ⟨bp, off, hA, hlt, hcell⟩ := hw Om
 have hws0 : ∀ h : 0 < ts.length, ts[0] = k := by rw [hts]; intro h; rfl
 have hws1 : ∀ h : 1 < ts.length, ts[1] = s := by rw [hts]; intro h; rfl
 have hws2 : ∀ h : 2 < ts.length, ts[2] = v := by rw [hts]; intro h; rfl
 have htl : ts.length = r.length + 3 := by rw [hts]; rfl
 have hvs : v.length ≤ 1000000 := hL.short v (by rw [hts]; simp)
 have hrs : ∀ x ∈ r, x.length ≤ 1000000 := fun x hx => hL.short x (by rw [hts]; simp [hx])
 have htx : ∀ n ∈ nd ++ [(⟨1, 0, 0, bO k, v⟩ : Nd)], n.text.length ≤ 1000000 := tN hL.texts hvs
 refine Zh h1 (ZX (ZB (zI (ok_draw Kr Kr (Zw (Zp b 0) (Zw (Zp b 0) (Zw (Zp b 1) (Zm 0 ⟨b, #[.slice C nd.length cc, .slice A ts.length cap, .bool bad], 192⟩ (off := 1) (.slice A ts.length cap) ?_))))))))
 refine wI (Zp bp (off + 0 * 1)) Kr (ZA (b := bp) (off := off) (c := cap) (n := ts.length) (k := .i64) (j := 0) (e := 9) (sz := 1) hA) (q_old (.string (mkS k)) (a := ⟨bp, off + 0 * 1, none⟩) Kr rfl Kr (fun w hO => Reads.load y7 (hw.on (hO.belowB hM' hBW) (Nat.le_refl _)) hA 0 0 Om Om _ (by rw [hws0]; kernel_rfl)) (Zw (Zp b 0) (Zw (Zp b 0) (Zw (Zp b 1) (Zm 0 ⟨b, #[.slice C nd.length cc, .slice A ts.length cap, .bool bad], 192⟩ (off := 1) (.slice A ts.length cap) (wI (Zp bp (off + 1 * 1)) Kr (ZA (b := bp) (off := off) (c := cap) (n := ts.length) (k := .i64) (j := 1) (e := 9) (sz := 1) hA) (q_old (.string (mkS s)) (a := ⟨bp, off + 1 * 1, none⟩) Kr rfl Kr (fun w hO => Reads.load y7 (hw.on (hO.belowB hM' hBW) (Nat.le_refl _)) hA 1 0 Om Om _ (by rw [hws1]; kernel_rfl)) (Zw (Zp b 0) (Zw (Zp b 0) (Zw (Zp b 1) (Zm 0 ⟨b, #[.slice C nd.length cc, .slice A ts.length cap, .bool bad], 192⟩ (off := 1) (.slice A ts.length cap) ?_)))))))))))
 refine wI (Zp bp (off + 2 * 1)) Kr (ZA (b := bp) (off := off) (c := cap) (n := ts.length) (k := .i64) (j := 2) (e := 9) (sz := 1) hA) (q_old (.string (mkS v)) (a := ⟨bp, off + 2 * 1, none⟩) Kr rfl Kr (fun w hO => Reads.load y7 (hw.on (hO.belowB hM' hBW) (Nat.le_refl _)) hA 2 0 Om Om _ (by rw [hws2]; kernel_rfl)) (Zw (.string (mkS k)) (Zw (.string (mkS s)) (Zw (.string (mkS v)) (pV (zJ (ZO (Zv (Zp b 0) (Zv (Zp b 0) (Zv (Zp b 0) ?_))))))))))
 refine Zv (Zp b 1) (Zl 0 ⟨b, #[.slice C nd.length cc, .slice A ts.length cap, .bool bad], 192⟩ (off := 1) (.slice A ts.length cap) (yJ (.slice (some ⟨bp, off + (if cap = (3 : Int).toNat then 0 else (3 : Int).toNat * 1), none⟩) (ts.length - (3 : Int).toNat) (cap - (3 : Int).toNat)) Kr (run_sllA (b := bp) (off := off) (n := ts.length) (c := cap) (k := .i64) (j := 3) (e := 9) (sz := 1) rfl Kr hA Kr Kr Kr Om Om) (Zv (Zp b 0) (Zv (Zp b 1) (Zs 0 ⟨b, #[.slice C nd.length cc, .slice A ts.length cap, .bool bad], 192⟩ (off := 1) (.slice (some ⟨bp, off + (if cap = (3 : Int).toNat then 0 else (3 : Int).toNat * 1), none⟩) (ts.length - (3 : Int).toNat) (cap - (3 : Int).toNat)) (ZN (zI ?_)))))))
 obtain ⟨ob1, hob1⟩ : ∃ ob1 : List Blk, ob1 = ⟨b, #[.slice C nd.length cc, .slice (some ⟨bp, off + (if cap = (3 : Int).toNat then 0 else (3 : Int).toNat * 1), none⟩) (ts.length - (3 : Int).toNat) (cap - (3 : Int).toNat), .bool bad], 192⟩ :: (g) := ⟨_, rfl⟩
 have hRd1 : Rdr W B b r nd bad ob1 := ⟨(some ⟨bp, off + (if cap = (3 : Int).toNat then 0 else (3 : Int).toNat * 1), none⟩), (cap - (3 : Int).toNat), by have q9 := Reads.from_ y7 (hA ▸ hw) hcap (3 : Int).toNat; rw [show ts.drop (3 : Int).toNat = r from by rw [hts]; rfl] at q9; exact q9, (by show r.length ≤ cap - 3; omega), C, cc, g, by rw [hob1, show r.length = ts.length - (3 : Int).toNat from by show _ = ts.length - 3; omega], hsl⟩
 obtain ⟨A4, cap4, hw4, hcap4, hb1⟩ := hRd1
 refine jG (L' := (ob1 ++ ([] : List Blk)) ++ ([] : List Blk)) (by rw [List.append_nil, List.append_nil, hob1]; rfl) (ok_anyhL ([]) Kr (fun w hO => Own.sub (ob1 ++ ([] : List Blk)) hO) (ZT 0 (ob1 ++ ([] : List Blk)) _ (Zp b 0) (yQ x9) rfl (ZT 1 (ob1 ++ ([] : List Blk)) _ (Zp b 0) (yQ x9) rfl (ZT 2 (ob1 ++ ([] : List Blk)) _ (Zp b 0) (yQ x9) rfl (ZT 3 (ob1 ++ ([] : List Blk)) _ (.string (mkS k)) (yQ x9) rfl (ZT 5 (ob1 ++ ([] : List Blk)) _ (.string (mkS v)) (yQ x9) rfl (Zz 4 (Zx (ob1 ++ ([] : List Blk)) _ (k := 266) (args := #[.string (mkS k)]) (YI (bO k)) rfl (fun w hO => keyOf_any k B w (hL.lib.on (hO.belowB hM' hBW) (Nat.le_refl _)) (Nat.le_trans hBW hO.size)) (Zz 6 (hs_cast (L' := ob1 ++ (([] : List Blk) ++ ([]))) (by simp <;> rfl) (tA _ (k := 265) (args := #[Zp b 0, YI (bO k), .string (mkS v)]) (fun v' L' => v' = .tuple #[] ∧ ∃ ob', L' = ob' ++ (([] : List Blk) ++ ([])) ∧ Rb b A4 r.length cap4 bad (nd ++ [(⟨1, 0, 0, bO k, v⟩ : Nd)]) ob') rfl Kr (fun _ => Kr) (fun w hO => (ris10_any hb1 (Own.lent hO) Om (bO k) v).mono fun e w' ⟨ob', k1, k2, k3⟩ => ⟨_, _, k1, ⟨rfl, ob', rfl, k2⟩, Own.back hO k3⟩) (fun v' L' ⟨_, ob', e, _⟩ w hO => by subst e; exact Own.sub ([] : List Blk) (Own.sub ob' hO)) (fun vlob2 Llob2 hvlob2 => ?_))))))))))))
 obtain ⟨rfl, ob2, rfl, hb2⟩ := hvlob2
 refine h_cast (L' := (ob2 ++ ([] : List Blk)) ++ ([])) (by simp <;> rfl) (ZZ (zJ (zI (jG (L' := ob2) (by simp) (zG (Zv (.string (mkS s)) (ZN (yO (zI (zG ?_))))))))))
 by_cases h2 : (s : List UInt8) = [61]
 ·exact yJ Z4 Kr (xY (a := s) (b := ([61])) rfl Kr Kr (decide_eq_true (h2))) (Zv Z4 (ZY (nV (y9 (v7 Tryz.results251 (fun w hO => ⟨r, _, bad, ob2, rfl, ⟨⟨A4, cap4, hw4, hcap4, hb2⟩, hO, hrs, htx⟩, by rw [hts]; exact gl_eq h2⟩))))))
 refine yJ Z5 Kr (xY (a := s) (b := ([61])) rfl Kr Kr (decide_eq_false (h2))) (Zv Z5 (ZX (zI (zG ?_))))
 by_cases h3 : (s : List UInt8) = [33, 61]
 ·refine yJ Z4 Kr (xY (a := s) (b := ([33, 61])) rfl Kr Kr (decide_eq_true (h3))) (Zv Z4 (ZY (zG (Zv (Zp b 0) (Zv (Zp b 0) (Zv (Zp b 0) (zR (L' := ob2 ++ ([] : List Blk)) (by simp) (Zr (k := 250) (args := #[Zp b 0]) (fun v' L' => v' = .tuple #[] ∧ ∃ ob', L' = ob' ++ ([] : List Blk) ∧ Rb b A4 r.length cap4 bad (nd ++ [(⟨1, 0, 0, bO k, v⟩ : Nd)] ++ [(⟨2, ((nd ++ [(⟨1, 0, 0, bO k, v⟩ : Nd)]).length : Int) - 1, 0, 0, []⟩ : Nd)]) ob') (fun w hO => (rnot10_any hb2 (Own.lent hO) (by rw [List.length_append, List.length_singleton]; omega)).mono fun e w' ⟨ob', k1, k2, k3⟩ => ⟨_, _, k1, ⟨rfl, ob', rfl, k2⟩, Own.join hO k3⟩) (fun v3 L3 hv3 => ?_)))))))))
  obtain ⟨rfl, ob3, rfl, hb3⟩ := hv3
  exact zR (L' := ob3) (List.append_nil _) (yD (y9 (v7 Tryz.results251 (fun w hO => ⟨r, _, bad, ob3, rfl, ⟨⟨A4, cap4, hw4, hcap4, hb3⟩, hO, hrs, tN htx (by simp)⟩, by rw [hts]; exact gl_ne h2 h3⟩))))
 refine yJ Z5 Kr (xY (a := s) (b := ([33, 61])) rfl Kr Kr (decide_eq_false (h3))) (Zv Z5 (ZN (Zf ?_)))
 obtain ⟨C2, cc2, g2, hob2, hsl2⟩ := hb2
 exact jG (L' := ⟨b, #[.slice C2 ((nd ++ [(⟨1, 0, 0, bO k, v⟩ : Nd)]).length) cc2, .slice A4 r.length cap4, .bool bad], 192⟩ :: g2) hob2 (zG (Zv (Zp b 0) (Zv (Zp b 0) (Zv (Zp b 2) (Zs 0 ⟨b, #[.slice C2 ((nd ++ [(⟨1, 0, 0, bO k, v⟩ : Nd)]).length) cc2, .slice A4 r.length cap4, .bool bad], 192⟩ (off := 2) Z4 (yD (y9 (v7 Tryz.results251 (fun w hO => ⟨r, _, true, _, rfl, ⟨⟨A4, cap4, hw4, hcap4, C2, cc2, g2, rfl, hsl2⟩, hO, hrs, htx⟩, by rw [hts]; exact gl_sign h2 h3⟩)))))))))
end
section
set_option linter.unnecessarySimpa false
theorem SlT.adds {u : Value} {l xs : List Tok} {ob : List Blk} (h : Sl 9 1 u (l.length + xs.length) (gL l ++ gL xs) ob) : SlT u (l ++ xs) ob := Sl.to h (by simp) (by rw [yX, yX, yX, List.flatMap_append])
def Wr (b : Nat) (A : Option Addr) (n cap : Nat) (ws : List Tok) (ob : List Blk) : Prop := ∃ C cc g, ob = ⟨b, #[.slice A n cap, .slice C ws.length cc], 196⟩ :: g ∧ SlT (.slice C ws.length cc) ws g
structure LentW (B b : Nat) (A : Option Addr) (cap : Nat) (l : List Nd) (ws : List Tok) (ob : List Blk) (W : World) : Prop where
 rd : Wr b A l.length cap ws ob
 own : Own (ob.map Blk.b) W W ob
 ge : ∀ x ∈ ob, B ≤ x.b
 le : B ≤ W.heap.size
 nodes : Reads nC W B A l
 lib : MkAt B W
structure BackW (b : Nat) (A : Option Addr) (n cap : Nat) (ws : List Tok) (ob ob' : List Blk) (W w' : World) : Prop where
 rd : Wr b A n cap ws ob'
 own : Own (ob.map Blk.b) W w' ob'
theorem LentW.at {B b cap : Nat} {A : Option Addr} {l : List Nd} {ws ws' : List Tok} {ob ob' R : List Blk} {W w : World} (h : LentW B b A cap l ws ob W) (hR : Wr b A l.length cap ws' ob') (hO : Own (ob.map Blk.b) W w (ob' ++ R)) : LentW B b A cap l ws' ob' w :=
 ⟨hR, Own.lent hO, fun x hx => hO.allB (gG h.ge) h.le x (List.mem_append_left _ hx), Nat.le_trans h.le hO.size, h.nodes.on (hO.belowB (gG h.ge) h.le) (Nat.le_refl _), h.lib.on (hO.belowB (gG h.ge) h.le) (Nat.le_refl _)⟩
def fU (A : Option Addr) (cap : Nat) (l : List Nd) (a : Nat) (X : List Tok) : Prop := ∀ (B b : Nat) (ws : List Tok) (ob : List Blk) (W : World), LentW B b A cap l ws ob W → ws.length + X.length ≤ 100000 →
 YC 158 #[.pointer (some ⟨b, 0, none⟩), YI (a : Int)] W fun e w' => ∃ ob', e = .returned (.tuple #[]) ∧ BackW b A l.length cap (ws ++ X) ob ob' W w'
def OperW (A : Option Addr) (cap : Nat) (l : List Nd) (a : Nat) (z : Int) (X : List Tok) : Prop := ∀ (B b : Nat) (ws : List Tok) (ob : List Blk) (W : World), LentW B b A cap l ws ob W → ws.length + X.length ≤ 100000 →
 YC 189 #[.pointer (some ⟨b, 0, none⟩), YI (a : Int), YI z] W fun e w' => ∃ ob', e = .returned (.tuple #[]) ∧ BackW b A l.length cap (ws ++ X) ob ob' W w'
theorem pD {B b cap : Nat} {A : Option Addr} {l : List Nd} {ws : List Tok} {ob : List Blk} {W : World} (hL : LentW B b A cap l ws ob W) (op a b0 : Int) (k : Nat) (hk : k < 3) (v sg : Tok) (hn : ws.length + 3 ≤ 100000) : YC 188 #[.pointer (some ⟨b, 0, none⟩), ndV ⟨op, a, b0, (k : Int), v⟩, .string (mkS sg)] W fun e w' => ∃ ob', e = .returned (.tuple #[]) ∧ BackW b A l.length cap (ws ++ [xM k, sg, v]) ob ob' W w' := by
 have hM' := gG hL.ge
 have hBW := hL.le
 have hO := hL.own
 have hlib := hL.lib
 obtain ⟨C, cc, g, rfl, hsl⟩ := hL.rd
 have hnl : (ws ++ [xM k, sg, v]).length = ws.length + 3 := by simp
 have hk1 : ∀ w, Own ((⟨b, #[.slice A l.length cap, .slice C ws.length cc], 196⟩ :: g).map Blk.b) W w [] → (loadVar 9 ⟨2, 0 + k * 1, none⟩).run Tryz.prog w = .ok (.string (mkS (xM k))) w := fun w hO => (hlib.on (hO.belowB hM' hBW) (Nat.le_refl _)).one k hk
 refine yI hO Tryz.func188 (wO [] fun b4 => x8 14 [] [⟨b4, #[YI op, YI a, YI b0, YI (k : Int), .string (mkS v)], 219⟩, ⟨b, #[.slice A l.length cap, .slice C ws.length cc], 196⟩] (fun w hO => (hO.past 0 (⟨b4, #[YI op, YI a, YI b0, YI (k : Int), .string (mkS v)], 219⟩ :: ⟨b, #[.slice A l.length cap, .slice C ws.length cc], 196⟩ :: g)).sublist (by simp)) ?_)
 refine xh_ixa 50013 [1, 0] 7 3 k 1 hk (gW 50014 [] 8 9 2 (0 + k * 1) (.string (mkS (xM k))) (fun w hO => hk1 w hO.no) (yG [0] 12 (gX 3 9 #[.string (mkS (xM k)), .string (mkS sg), .string (mkS v)] fun b1 => yG [] 13 (qN (m := 3) (cp := 3) [⟨b1, #[.string (mkS (xM k)), .string (mkS sg), .string (mkS v)], 9⟩, ⟨b4, #[YI op, YI a, YI b0, YI (k : Int), .string (mkS v)], 219⟩, ⟨b, #[.slice A l.length cap, .slice C ws.length cc], 196⟩] g [] 0 (⟨b1, #[.string (mkS (xM k)), .string (mkS sg), .string (mkS v)], 9⟩ :: ⟨b4, #[YI op, YI a, YI b0, YI (k : Int), .string (mkS v)], 219⟩ :: ⟨b, #[.slice A l.length cap, .slice C ws.length cc], 196⟩ :: g) [⟨b4, #[YI op, YI a, YI b0, YI (k : Int), .string (mkS v)], 219⟩, ⟨b, #[.slice A l.length cap, .slice C ws.length cc], 196⟩] (fun w hO => hO.cast (by simp)) (fun o w hO => hO.sublist (List.Sublist.cons _ (List.Sublist.cons_cons _ (List.Sublist.cons_cons _ (List.nil_sublist _))))) hsl Om fun v' ob' h => ?_))))
 obtain ⟨C2, c2, rfl⟩ := h.form
 refine vF [2] fun w hO => ⟨⟨b, #[.slice A l.length cap, .slice C2 (ws ++ [xM k, sg, v]).length c2], 196⟩ :: ob', rfl, ⟨C2, c2, ob', rfl, by rw [hnl]; exact SlT.adds (xs := [xM k, sg, v]) h⟩, ?_⟩
 rw [hnl]; exact (hO.past 2 (⟨b, #[.slice A l.length cap, .slice C2 (ws.length + 3) c2], 196⟩ :: (ob' ++ []))).cast (by simp)
theorem opn_in {A : Option Addr} {cap : Nat} {l : List Nd} (hl9 : l.length ≤ 1000) {a : Nat} {na : Nd} {z : Int} {X : List Tok} (ha : l[a]? = some na) (hz : na.op ≤ z) (ha' : fU A cap l a X) : OperW A cap l a z X := by
 intro B b ws ob W hL hn
 have hM' := gG hL.ge
 have hBW := hL.le
 have hv := hL.nodes
 have hO := hL.own
 obtain ⟨ha2, ea⟩ := nW ha
 obtain ⟨eb, eo, hA, hela⟩ := hv.elem mL a ha2
 obtain ⟨C, cc, g, rfl, hsl⟩ := hL.rd
 have q : ∀ w, Own ((⟨b, #[.slice A l.length cap, .slice C ws.length cc], 196⟩ :: g).map Blk.b) W w [] → (loadVar 3 ⟨eb, eo + a * 5 + 0, none⟩).run Tryz.prog w = .ok (YI na.op) w := fun w hO => hela w (hO.belowB hM' hBW) _ 0 _ (by rw [ea]; kernel_rfl)
 refine yI hO Tryz.func189 (kI 11 [0] hA l.length cap a 5 ha2 (kA 13 [] 3 eb (eo + a * 5 + 0) (YI na.op) (fun w hO => q w hO.no) (zW 15 [] (na.op ≤ z) (fun _ => ?_) (fun h => absurd hz h))))
 refine xN (k := 158) (args := #[Zp b 0, YI (a : Int)]) (Rr := fun v ob' => v = .tuple #[] ∧ Wr b A l.length cap (ws ++ X) ob') [] (⟨b, #[.slice A l.length cap, .slice C ws.length cc], 196⟩ :: g) ([] : List Blk) (⟨b, #[.slice A l.length cap, .slice C ws.length cc], 196⟩ :: g) (fun w hO => hO.cast (by simp)) (fun w hO => (ha' _ _ _ _ _ (hL.at (R := ([] : List Blk)) ⟨C, cc, g, rfl, hsl⟩ (hO.cast (by simp))) hn).mono fun e w' ⟨ob', k1, k2⟩ => ⟨_, ob', k1, ⟨rfl, k2.rd⟩, k2.own⟩) fun v1 ob1 hv1 => ?_
 obtain ⟨rfl, C1, c1, g1, rfl, hs1⟩ := hv1
 exact x_ret0 [] fun w hO => ⟨_, rfl, ⟨C1, c1, g1, rfl, hs1⟩, hO.past 0 (⟨b, #[.slice A l.length cap, .slice C1 (ws ++ X).length c1], 196⟩ :: g1)⟩
theorem opn_out {A : Option Addr} {cap : Nat} {l : List Nd} (hl9 : l.length ≤ 1000) {a : Nat} {na : Nd} {z : Int} {X : List Tok} (ha : l[a]? = some na) (hz : ¬ na.op ≤ z) (ha' : fU A cap l a X) : OperW A cap l a z (yR :: (X ++ [xD])) := by
 intro B b ws ob W hL hn
 have el : ws ++ (yR :: (X ++ [xD])) = (ws ++ [yR] ++ X) ++ [xD] := by simp
 rw [el]
 have hM' := gG hL.ge
 have hBW := hL.le
 have hv := hL.nodes
 have hO := hL.own
 obtain ⟨ha2, ea⟩ := nW ha
 obtain ⟨eb, eo, hA, hela⟩ := hv.elem mL a ha2
 obtain ⟨C, cc, g, rfl, hsl⟩ := hL.rd
 have q : ∀ w, Own ((⟨b, #[.slice A l.length cap, .slice C ws.length cc], 196⟩ :: g).map Blk.b) W w [] → (loadVar 3 ⟨eb, eo + a * 5 + 0, none⟩).run Tryz.prog w = .ok (YI na.op) w := fun w hO => hela w (hO.belowB hM' hBW) _ 0 _ (by rw [ea]; kernel_rfl)
 refine yI hO Tryz.func189 (kI 11 [0] hA l.length cap a 5 ha2 (kA 13 [] 3 eb (eo + a * 5 + 0) (YI na.op) (fun w hO => q w hO.no) (zW 15 [] (na.op ≤ z) (fun h => absurd h hz) (fun _ => ?_))))
 refine wN [0] 1 9 #[.string (mkS yR)] fun b1 => pK (m := 1) (cp := 1) [] [⟨b1, #[.string (mkS yR)], 9⟩, ⟨b, #[.slice A l.length cap, .slice C ws.length cc], 196⟩] g [] 0 (⟨b1, #[.string (mkS yR)], 9⟩ :: ⟨b, #[.slice A l.length cap, .slice C ws.length cc], 196⟩ :: g) (fun w hO => hO.cast (by simp)) hsl (by (try simp only [List.length_append, List.length_cons, List.length_nil] at hn ⊢); omega) fun v1 o1 h1 => ?_
 obtain ⟨C1, c1, rfl⟩ := h1.form
 have e1 : (ws ++ [yR]).length = ws.length + 1 := List.length_append ..
 have hs1 : SlT (.slice C1 (ws ++ [yR]).length c1) (ws ++ [yR]) o1 := by rw [e1]; exact SlT.adds (xs := [yR]) h1
 rw [← e1]
 refine xN (k := 158) (args := #[Zp b 0, YI (a : Int)]) (Rr := fun v ob' => v = .tuple #[] ∧ Wr b A l.length cap ((ws ++ [yR]) ++ X) ob') [1] (⟨b1, #[.string (mkS yR)], 9⟩ :: ⟨b, #[.slice A l.length cap, .slice C1 (ws ++ [yR]).length c1], 196⟩ :: (o1 ++ [])) [⟨b1, #[.string (mkS yR)], 9⟩] (⟨b, #[.slice A l.length cap, .slice C1 (ws ++ [yR]).length c1], 196⟩ :: o1) (fun w hO => hO.cast (by simp)) (fun w hO => (ha' _ _ _ _ _ (hL.at (R := [⟨b1, #[.string (mkS yR)], 9⟩]) ⟨C1, c1, o1, rfl, hs1⟩ (hO.perm (List.perm_append_comm (l₁ := [⟨b1, #[.string (mkS yR)], 9⟩]) (l₂ := ⟨b, #[.slice A l.length cap, .slice C1 (ws ++ [yR]).length c1], 196⟩ :: o1)))) (by (try simp only [List.length_append, List.length_cons, List.length_nil] at hn ⊢); omega)).mono fun e w' ⟨ob', k1, k2⟩ => ⟨_, ob', k1, ⟨rfl, k2.rd⟩, k2.own⟩) fun v2 ob2 hv2 => ?_
 obtain ⟨rfl, C2, c2, g2, rfl, hs2⟩ := hv2
 refine wN [1] 1 9 #[.string (mkS xD)] fun b3 => pK (m := 1) (cp := 1) [] [⟨b3, #[.string (mkS xD)], 9⟩, ⟨b1, #[.string (mkS yR)], 9⟩, ⟨b, #[.slice A l.length cap, .slice C2 (ws ++ [yR] ++ X).length c2], 196⟩] g2 [] 0 (⟨b3, #[.string (mkS xD)], 9⟩ :: ⟨b1, #[.string (mkS yR)], 9⟩ :: ⟨b, #[.slice A l.length cap, .slice C2 (ws ++ [yR] ++ X).length c2], 196⟩ :: g2) (fun w hO => hO.cast (by simp)) hs2 (by (try simp only [List.length_append, List.length_cons, List.length_nil] at hn ⊢); omega) fun v3 o3 h3 => ?_
 obtain ⟨C3, c3, rfl⟩ := h3.form
 have e3 : ((ws ++ [yR] ++ X) ++ [xD]).length = (ws ++ [yR] ++ X).length + 1 := List.length_append ..
 have hs3 : SlT (.slice C3 ((ws ++ [yR] ++ X) ++ [xD]).length c3) ((ws ++ [yR] ++ X) ++ [xD]) o3 := by rw [e3]; exact SlT.adds (xs := [xD]) h3
 rw [← e3]
 exact vF [2] fun w hO => ⟨⟨b, #[.slice A l.length cap, .slice C3 ((ws ++ [yR] ++ X) ++ [xD]).length c3], 196⟩ :: o3, rfl, ⟨C3, c3, o3, rfl, hs3⟩, (hO.past 2 (⟨b, #[.slice A l.length cap, .slice C3 ((ws ++ [yR] ++ X) ++ [xD]).length c3], 196⟩ :: (o3 ++ []))).cast (by simp)⟩
theorem wpair_any {B b cap : Nat} {A : Option Addr} {l : List Nd} {ws : List Tok} {ob : List Blk} {W : World} (hL : LentW B b A cap l ws ob W) {op : Int} {a b0 : Nat} {X Y : List Tok} (ha' : OperW A cap l a op X) (hb' : OperW A cap l b0 (op - 1) Y) (ho1 : 0 ≤ op) (ho2 : op ≤ 10) (wd : Tok) (hn : ws.length + (X ++ wd :: Y).length ≤ 100000) : YC 190 #[.pointer (some ⟨b, 0, none⟩), ndV ⟨op, (a : Int), (b0 : Int), 0, []⟩, .string (mkS wd)] W fun e w' => ∃ ob', e = .returned (.tuple #[]) ∧ BackW b A l.length cap (ws ++ (X ++ wd :: Y)) ob ob' W w' := by
 have el : ws ++ (X ++ wd :: Y) = (ws ++ X ++ [wd]) ++ Y := by simp
 rw [el]
 have hM' := gG hL.ge
 have hBW := hL.le
 have hv := hL.nodes
 have hO := hL.own
 obtain ⟨C, cc, g, rfl, hsl⟩ := hL.rd
 refine yI hO Tryz.func190 (wO [] fun b4 => ?_)
 refine xN (k := 189) (args := #[Zp b 0, YI (a : Int), YI op]) (Rr := fun v ob' => v = .tuple #[] ∧ Wr b A l.length cap (ws ++ X) ob') [0, 0] (⟨b4, #[YI op, YI (a : Int), YI (b0 : Int), YI 0, .string (mkS [])], 219⟩ :: ⟨b, #[.slice A l.length cap, .slice C ws.length cc], 196⟩ :: g) [⟨b4, #[YI op, YI (a : Int), YI (b0 : Int), YI 0, .string (mkS [])], 219⟩] (⟨b, #[.slice A l.length cap, .slice C ws.length cc], 196⟩ :: g) (fun w hO => hO.cast (by simp)) (fun w hO => (ha' _ _ _ _ _ (hL.at (R := [⟨b4, #[YI op, YI (a : Int), YI (b0 : Int), YI 0, .string (mkS [])], 219⟩]) ⟨C, cc, g, rfl, hsl⟩ (hO.perm (List.perm_append_comm (l₁ := [⟨b4, #[YI op, YI (a : Int), YI (b0 : Int), YI 0, .string (mkS [])], 219⟩]) (l₂ := ⟨b, #[.slice A l.length cap, .slice C ws.length cc], 196⟩ :: g)))) (by (try simp only [List.length_append, List.length_cons, List.length_nil] at hn ⊢); omega)).mono fun e w' ⟨ob', k1, k2⟩ => ⟨_, ob', k1, ⟨rfl, k2.rd⟩, k2.own⟩) fun v1 ob1 hv1 => ?_
 obtain ⟨rfl, C1, c1, g1, rfl, hs1⟩ := hv1
 refine wN [1] 1 9 #[.string (mkS wd)] fun b2 => pK (m := 1) (cp := 1) [] [⟨b2, #[.string (mkS wd)], 9⟩, ⟨b4, #[YI op, YI (a : Int), YI (b0 : Int), YI 0, .string (mkS [])], 219⟩, ⟨b, #[.slice A l.length cap, .slice C1 (ws ++ X).length c1], 196⟩] g1 [] 0 (⟨b2, #[.string (mkS wd)], 9⟩ :: ⟨b4, #[YI op, YI (a : Int), YI (b0 : Int), YI 0, .string (mkS [])], 219⟩ :: ⟨b, #[.slice A l.length cap, .slice C1 (ws ++ X).length c1], 196⟩ :: g1) (fun w hO => hO.cast (by simp)) hs1 (by (try simp only [List.length_append, List.length_cons, List.length_nil] at hn ⊢); omega) fun v2 o2 h2 => ?_
 obtain ⟨C2, c2, rfl⟩ := h2.form
 have e2 : ((ws ++ X) ++ [wd]).length = (ws ++ X).length + 1 := List.length_append ..
 have hs2 : SlT (.slice C2 ((ws ++ X) ++ [wd]).length c2) ((ws ++ X) ++ [wd]) o2 := by rw [e2]; exact SlT.adds (xs := [wd]) h2
 rw [← e2]
 refine x_i 27 [2, 1, 1] (op - 1) (xN (k := 189) (args := #[Zp b 0, YI (b0 : Int), YI (op - 1)]) (Rr := fun v ob' => v = .tuple #[] ∧ Wr b A l.length cap ((ws ++ X ++ [wd]) ++ Y) ob') [] (⟨b2, #[.string (mkS wd)], 9⟩ :: ⟨b4, #[YI op, YI (a : Int), YI (b0 : Int), YI 0, .string (mkS [])], 219⟩ :: ⟨b, #[.slice A l.length cap, .slice C2 (ws ++ X ++ [wd]).length c2], 196⟩ :: (o2 ++ [])) [⟨b2, #[.string (mkS wd)], 9⟩, ⟨b4, #[YI op, YI (a : Int), YI (b0 : Int), YI 0, .string (mkS [])], 219⟩] (⟨b, #[.slice A l.length cap, .slice C2 (ws ++ X ++ [wd]).length c2], 196⟩ :: o2) (fun w hO => hO.cast (by simp)) (fun w hO => (hb' _ _ _ _ _ (hL.at (R := [⟨b2, #[.string (mkS wd)], 9⟩, ⟨b4, #[YI op, YI (a : Int), YI (b0 : Int), YI 0, .string (mkS [])], 219⟩]) ⟨C2, c2, o2, rfl, hs2⟩ (hO.perm (List.perm_append_comm (l₁ := [⟨b2, #[.string (mkS wd)], 9⟩, ⟨b4, #[YI op, YI (a : Int), YI (b0 : Int), YI 0, .string (mkS [])], 219⟩]) (l₂ := ⟨b, #[.slice A l.length cap, .slice C2 (ws ++ X ++ [wd]).length c2], 196⟩ :: o2)))) (by (try simp only [List.length_append, List.length_cons, List.length_nil] at hn ⊢); omega)).mono fun e w' ⟨ob', k1, k2⟩ => ⟨_, ob', k1, ⟨rfl, k2.rd⟩, k2.own⟩) fun v3 ob3 hv3 => ?_)
 obtain ⟨rfl, C3, c3, g3, rfl, hs3⟩ := hv3
 exact vF [] fun w hO => ⟨_, rfl, ⟨C3, c3, g3, rfl, hs3⟩, hO.past 2 (⟨b, #[.slice A l.length cap, .slice C3 ((ws ++ X ++ [wd]) ++ Y).length c3], 196⟩ :: g3)⟩
theorem nd_is {A : Option Addr} {cap : Nat} {l : List Nd} (hl9 : l.length ≤ 1000) {r k : Nat} {t : Tok} (hk : k < 3) (hr : l[r]? = some ⟨1, 0, 0, (k : Int), t⟩) : fU A cap l r [xM k, tEq, t] := by
 intro B b ws ob W hL hn
 have hM' := gG hL.ge
 have hBW := hL.le
 have hv := hL.nodes
 have hO := hL.own
 obtain ⟨hr2, er⟩ := nW hr
 obtain ⟨eb, eo, hA, helr⟩ := hv.elem mL r hr2
 obtain ⟨C, cc, g, rfl, hsl⟩ := hL.rd
 have q : ∀ w, Own ((⟨b, #[.slice A l.length cap, .slice C ws.length cc], 196⟩ :: g).map Blk.b) W w [] → (loadVar 219 ⟨eb, eo + r * 5 + 0, none⟩).run Tryz.prog w = .ok (ndV ⟨1, 0, 0, (k : Int), t⟩) w := fun w hO => helr w (hO.belowB hM' hBW) _ 0 _ (by rw [er]; kernel_rfl)
 refine yI hO Tryz.func158 (kI 11 [0] hA l.length cap r 5 hr2 (kA 12 [] 219 eb (eo + r * 5 + 0) (ndV ⟨1, 0, 0, (k : Int), t⟩) (fun w hO => q w hO.no) (zV [] fun b4 => ?_)))
 refine xN (k := 188) (args := #[Zp b 0, ndV ⟨1, 0, 0, (k : Int), t⟩, .string (mkS tEq)]) (Rr := fun v ob' => v = .tuple #[] ∧ Wr b A l.length cap (ws ++ [xM k, tEq, t]) ob') [0, 0, 0] (⟨b4, #[YI 1, YI 0, YI 0, YI (k : Int), .string (mkS t)], 219⟩ :: ⟨b, #[.slice A l.length cap, .slice C ws.length cc], 196⟩ :: g) [⟨b4, #[YI 1, YI 0, YI 0, YI (k : Int), .string (mkS t)], 219⟩] (⟨b, #[.slice A l.length cap, .slice C ws.length cc], 196⟩ :: g) (fun w hO => hO.cast (by simp)) (fun w hO => (pD (hL.at (R := [⟨b4, #[YI 1, YI 0, YI 0, YI (k : Int), .string (mkS t)], 219⟩]) ⟨C, cc, g, rfl, hsl⟩ (hO.perm (List.perm_append_comm (l₁ := [⟨b4, #[YI 1, YI 0, YI 0, YI (k : Int), .string (mkS t)], 219⟩]) (l₂ := ⟨b, #[.slice A l.length cap, .slice C ws.length cc], 196⟩ :: g)))) 1 0 0 k hk t tEq (by (try simp only [List.length_append, List.length_cons, List.length_nil] at hn ⊢); omega)).mono fun e w' ⟨ob', k1, k2⟩ => ⟨_, ob', k1, ⟨rfl, k2.rd⟩, k2.own⟩) fun v1 ob1 hv1 => ?_
 obtain ⟨rfl, C1, c1, g1, rfl, hs1⟩ := hv1
 exact vF [] fun w hO => ⟨_, rfl, ⟨C1, c1, g1, rfl, hs1⟩, hO.past 1 (⟨b, #[.slice A l.length cap, .slice C1 (ws ++ [xM k, tEq, t]).length c1], 196⟩ :: g1)⟩
theorem nd_no_is {A : Option Addr} {cap : Nat} {l : List Nd} (hl9 : l.length ≤ 1000) {r a k : Nat} {t : Tok} (hk : k < 3) (hr : l[r]? = some ⟨2, (a : Int), 0, 0, []⟩) (ha : l[a]? = some ⟨1, 0, 0, (k : Int), t⟩) : fU A cap l r [xM k, tNe, t] := by
 intro B b ws ob W hL hn
 have hM' := gG hL.ge
 have hBW := hL.le
 have hv := hL.nodes
 have hO := hL.own
 obtain ⟨hr2, er⟩ := nW hr
 obtain ⟨eb, eo, hA, helr⟩ := hv.elem mL r hr2
 obtain ⟨C, cc, g, rfl, hsl⟩ := hL.rd
 have q : ∀ w, Own ((⟨b, #[.slice A l.length cap, .slice C ws.length cc], 196⟩ :: g).map Blk.b) W w [] → (loadVar 219 ⟨eb, eo + r * 5 + 0, none⟩).run Tryz.prog w = .ok (ndV ⟨2, (a : Int), 0, 0, []⟩) w := fun w hO => helr w (hO.belowB hM' hBW) _ 0 _ (by rw [er]; kernel_rfl)
 obtain ⟨ha2, ea⟩ := nW ha
 obtain ⟨eb2, eo2, hA2, hela⟩ := hv.elem mL a ha2
 obtain ⟨rfl, rfl⟩ : eb = eb2 ∧ eo = eo2 := by rw [hA] at hA2; cases hA2; exact ⟨rfl, rfl⟩
 have q5 : ∀ w, Own ((⟨b, #[.slice A l.length cap, .slice C ws.length cc], 196⟩ :: g).map Blk.b) W w [] → (loadVar 219 ⟨eb, eo + a * 5 + 0, none⟩).run Tryz.prog w = .ok (ndV ⟨1, 0, 0, (k : Int), t⟩) w := fun w hO => hela w (hO.belowB hM' hBW) _ 0 _ (by rw [ea]; kernel_rfl)
 refine yI hO Tryz.func158 (kI 11 [0] hA l.length cap r 5 hr2 (kA 12 [] 219 eb (eo + r * 5 + 0) (ndV ⟨2, (a : Int), 0, 0, []⟩) (fun w hO => q w hO.no) (zV [] fun b4 => ?_)))
 refine x8 9 [0, 0] [⟨b4, #[YI 2, YI (a : Int), YI 0, YI 0, .string (mkS [])], 219⟩, ⟨b, #[.slice A l.length cap, .slice C ws.length cc], 196⟩] (fun w hO => (hO.past 0 (⟨b4, #[YI 2, YI (a : Int), YI 0, YI 0, .string (mkS [])], 219⟩ :: ⟨b, #[.slice A l.length cap, .slice C ws.length cc], 196⟩ :: g)).sublist (by simp)) (qM 50028 [1, 0] 6 hA l.length cap a 5 ha2 (gW 50029 [] 7 219 eb (eo + a * 5 + 0) (ndV ⟨1, 0, 0, (k : Int), t⟩) (fun w hO => q5 w hO.no) (yG [] 8 (mO fun b5 => ?_))))
 refine xN (k := 188) (args := #[Zp b 0, ndV ⟨1, 0, 0, (k : Int), t⟩, .string (mkS tNe)]) (Rr := fun v ob' => v = .tuple #[] ∧ Wr b A l.length cap (ws ++ [xM k, tNe, t]) ob') [0, 0, 0] (⟨b5, #[YI 1, YI 0, YI 0, YI (k : Int), .string (mkS t)], 219⟩ :: ⟨b4, #[YI 2, YI (a : Int), YI 0, YI 0, .string (mkS [])], 219⟩ :: ⟨b, #[.slice A l.length cap, .slice C ws.length cc], 196⟩ :: g) [⟨b5, #[YI 1, YI 0, YI 0, YI (k : Int), .string (mkS t)], 219⟩, ⟨b4, #[YI 2, YI (a : Int), YI 0, YI 0, .string (mkS [])], 219⟩] (⟨b, #[.slice A l.length cap, .slice C ws.length cc], 196⟩ :: g) (fun w hO => hO.cast (by simp)) (fun w hO => (pD (hL.at (R := [⟨b5, #[YI 1, YI 0, YI 0, YI (k : Int), .string (mkS t)], 219⟩, ⟨b4, #[YI 2, YI (a : Int), YI 0, YI 0, .string (mkS [])], 219⟩]) ⟨C, cc, g, rfl, hsl⟩ (hO.perm (List.perm_append_comm (l₁ := [⟨b5, #[YI 1, YI 0, YI 0, YI (k : Int), .string (mkS t)], 219⟩, ⟨b4, #[YI 2, YI (a : Int), YI 0, YI 0, .string (mkS [])], 219⟩]) (l₂ := ⟨b, #[.slice A l.length cap, .slice C ws.length cc], 196⟩ :: g)))) 1 0 0 k hk t tNe (by (try simp only [List.length_append, List.length_cons, List.length_nil] at hn ⊢); omega)).mono fun e w' ⟨ob', k1, k2⟩ => ⟨_, ob', k1, ⟨rfl, k2.rd⟩, k2.own⟩) fun v1 ob1 hv1 => ?_
 obtain ⟨rfl, C1, c1, g1, rfl, hs1⟩ := hv1
 exact x_ret0 [] fun w hO => ⟨_, rfl, ⟨C1, c1, g1, rfl, hs1⟩, hO.past 2 (⟨b, #[.slice A l.length cap, .slice C1 (ws ++ [xM k, tNe, t]).length c1], 196⟩ :: g1)⟩
theorem nd_no {A : Option Addr} {cap : Nat} {l : List Nd} (hl9 : l.length ≤ 1000) {r a : Nat} {na : Nd} {X : List Tok} (hr : l[r]? = some ⟨2, (a : Int), 0, 0, []⟩) (ha : l[a]? = some na) (hx1 : ¬ na.op = 1) (ha' : OperW A cap l a 2 X) : fU A cap l r (kH :: X) := by
 intro B b ws ob W hL hn
 have el : ws ++ (kH :: X) = (ws ++ [kH]) ++ X := by simp
 rw [el]
 have hM' := gG hL.ge
 have hBW := hL.le
 have hv := hL.nodes
 have hO := hL.own
 obtain ⟨hr2, er⟩ := nW hr
 obtain ⟨eb, eo, hA, helr⟩ := hv.elem mL r hr2
 obtain ⟨C, cc, g, rfl, hsl⟩ := hL.rd
 have q : ∀ w, Own ((⟨b, #[.slice A l.length cap, .slice C ws.length cc], 196⟩ :: g).map Blk.b) W w [] → (loadVar 219 ⟨eb, eo + r * 5 + 0, none⟩).run Tryz.prog w = .ok (ndV ⟨2, (a : Int), 0, 0, []⟩) w := fun w hO => helr w (hO.belowB hM' hBW) _ 0 _ (by rw [er]; kernel_rfl)
 obtain ⟨ha2, ea⟩ := nW ha
 obtain ⟨eb2, eo2, hA2, hela⟩ := hv.elem mL a ha2
 obtain ⟨rfl, rfl⟩ : eb = eb2 ∧ eo = eo2 := by rw [hA] at hA2; cases hA2; exact ⟨rfl, rfl⟩
 have q5 : ∀ w, Own ((⟨b, #[.slice A l.length cap, .slice C ws.length cc], 196⟩ :: g).map Blk.b) W w [] → (loadVar 219 ⟨eb, eo + a * 5 + 0, none⟩).run Tryz.prog w = .ok (ndV na) w := fun w hO => hela w (hO.belowB hM' hBW) _ 0 _ (by rw [ea]; kernel_rfl)
 refine yI hO Tryz.func158 (kI 11 [0] hA l.length cap r 5 hr2 (kA 12 [] 219 eb (eo + r * 5 + 0) (ndV ⟨2, (a : Int), 0, 0, []⟩) (fun w hO => q w hO.no) (zV [] fun b4 => ?_)))
 refine x8 9 [0, 0] [⟨b4, #[YI 2, YI (a : Int), YI 0, YI 0, .string (mkS [])], 219⟩, ⟨b, #[.slice A l.length cap, .slice C ws.length cc], 196⟩] (fun w hO => (hO.past 0 (⟨b4, #[YI 2, YI (a : Int), YI 0, YI 0, .string (mkS [])], 219⟩ :: ⟨b, #[.slice A l.length cap, .slice C ws.length cc], 196⟩ :: g)).sublist (by simp)) (qM 50028 [1, 0] 6 hA l.length cap a 5 ha2 (gW 50029 [] 7 219 eb (eo + a * 5 + 0) (ndV na) (fun w hO => q5 w hO.no) (yG [] 8 (mO fun b5 => ?_))))
 refine zW 32 [0, 0] (na.op = 1) (fun h => absurd h hx1) (fun _ => wN [2] 1 9 #[.string (mkS kH)] fun b1 => pK (m := 1) (cp := 1) [] [⟨b1, #[.string (mkS kH)], 9⟩, ⟨b5, (ndV na).cells, 219⟩, ⟨b4, #[YI 2, YI (a : Int), YI 0, YI 0, .string (mkS [])], 219⟩, ⟨b, #[.slice A l.length cap, .slice C ws.length cc], 196⟩] g [] 0 (⟨b1, #[.string (mkS kH)], 9⟩ :: ⟨b5, (ndV na).cells, 219⟩ :: ⟨b4, #[YI 2, YI (a : Int), YI 0, YI 0, .string (mkS [])], 219⟩ :: ⟨b, #[.slice A l.length cap, .slice C ws.length cc], 196⟩ :: g) (fun w hO => hO.cast (by simp)) hsl (by (try simp only [List.length_append, List.length_cons, List.length_nil] at hn ⊢); omega) fun v1 o1 h1 => ?_)
 obtain ⟨C1, c1, rfl⟩ := h1.form
 have e1 : (ws ++ [kH]).length = ws.length + 1 := List.length_append ..
 have hs1 : SlT (.slice C1 (ws ++ [kH]).length c1) (ws ++ [kH]) o1 := by rw [e1]; exact SlT.adds (xs := [kH]) h1
 rw [← e1]
 refine xN (k := 189) (args := #[Zp b 0, YI (a : Int), YI 2]) (Rr := fun v ob' => v = .tuple #[] ∧ Wr b A l.length cap ((ws ++ [kH]) ++ X) ob') [3, 2, 2] (⟨b1, #[.string (mkS kH)], 9⟩ :: ⟨b5, (ndV na).cells, 219⟩ :: ⟨b4, #[YI 2, YI (a : Int), YI 0, YI 0, .string (mkS [])], 219⟩ :: ⟨b, #[.slice A l.length cap, .slice C1 (ws ++ [kH]).length c1], 196⟩ :: (o1 ++ [])) [⟨b1, #[.string (mkS kH)], 9⟩, ⟨b5, (ndV na).cells, 219⟩, ⟨b4, #[YI 2, YI (a : Int), YI 0, YI 0, .string (mkS [])], 219⟩] (⟨b, #[.slice A l.length cap, .slice C1 (ws ++ [kH]).length c1], 196⟩ :: o1) (fun w hO => hO.cast (by simp)) (fun w hO => (ha' _ _ _ _ _ (hL.at (R := [⟨b1, #[.string (mkS kH)], 9⟩, ⟨b5, (ndV na).cells, 219⟩, ⟨b4, #[YI 2, YI (a : Int), YI 0, YI 0, .string (mkS [])], 219⟩]) ⟨C1, c1, o1, rfl, hs1⟩ (hO.perm (List.perm_append_comm (l₁ := [⟨b1, #[.string (mkS kH)], 9⟩, ⟨b5, (ndV na).cells, 219⟩, ⟨b4, #[YI 2, YI (a : Int), YI 0, YI 0, .string (mkS [])], 219⟩]) (l₂ := ⟨b, #[.slice A l.length cap, .slice C1 (ws ++ [kH]).length c1], 196⟩ :: o1)))) (by (try simp only [List.length_append, List.length_cons, List.length_nil] at hn ⊢); omega)).mono fun e w' ⟨ob', k1, k2⟩ => ⟨_, ob', k1, ⟨rfl, k2.rd⟩, k2.own⟩) fun v2 ob2 hv2 => ?_
 obtain ⟨rfl, C2, c2, g2, rfl, hs2⟩ := hv2
 exact vF [] fun w hO => ⟨_, rfl, ⟨C2, c2, g2, rfl, hs2⟩, hO.past 3 (⟨b, #[.slice A l.length cap, .slice C2 ((ws ++ [kH]) ++ X).length c2], 196⟩ :: g2)⟩
theorem nd_both {A : Option Addr} {cap : Nat} {l : List Nd} (hl9 : l.length ≤ 1000) {r a b0 : Nat} {X Y : List Tok} (hr : l[r]? = some ⟨3, (a : Int), (b0 : Int), 0, []⟩) (ha' : OperW A cap l a 3 X) (hb' : OperW A cap l b0 (3 - 1) Y) : fU A cap l r (X ++ bH :: Y) := by
 intro B b ws ob W hL hn
 have hM' := gG hL.ge
 have hBW := hL.le
 have hv := hL.nodes
 have hO := hL.own
 obtain ⟨hr2, er⟩ := nW hr
 obtain ⟨eb, eo, hA, helr⟩ := hv.elem mL r hr2
 obtain ⟨C, cc, g, rfl, hsl⟩ := hL.rd
 have q : ∀ w, Own ((⟨b, #[.slice A l.length cap, .slice C ws.length cc], 196⟩ :: g).map Blk.b) W w [] → (loadVar 219 ⟨eb, eo + r * 5 + 0, none⟩).run Tryz.prog w = .ok (ndV ⟨3, (a : Int), (b0 : Int), 0, []⟩) w := fun w hO => helr w (hO.belowB hM' hBW) _ 0 _ (by rw [er]; kernel_rfl)
 refine yI hO Tryz.func158 (kI 11 [0] hA l.length cap r 5 hr2 (kA 12 [] 219 eb (eo + r * 5 + 0) (ndV ⟨3, (a : Int), (b0 : Int), 0, []⟩) (fun w hO => q w hO.no) (zV [] fun b4 => ?_)))
 refine xN (k := 190) (args := #[Zp b 0, ndV ⟨3, (a : Int), (b0 : Int), 0, []⟩, .string (mkS bH)]) (Rr := fun v ob' => v = .tuple #[] ∧ Wr b A l.length cap (ws ++ (X ++ bH :: Y)) ob') [0, 0, 0] (⟨b4, #[YI 3, YI (a : Int), YI (b0 : Int), YI 0, .string (mkS [])], 219⟩ :: ⟨b, #[.slice A l.length cap, .slice C ws.length cc], 196⟩ :: g) [⟨b4, #[YI 3, YI (a : Int), YI (b0 : Int), YI 0, .string (mkS [])], 219⟩] (⟨b, #[.slice A l.length cap, .slice C ws.length cc], 196⟩ :: g) (fun w hO => hO.cast (by simp)) (fun w hO => (wpair_any (hL.at (R := [⟨b4, #[YI 3, YI (a : Int), YI (b0 : Int), YI 0, .string (mkS [])], 219⟩]) ⟨C, cc, g, rfl, hsl⟩ (hO.perm (List.perm_append_comm (l₁ := [⟨b4, #[YI 3, YI (a : Int), YI (b0 : Int), YI 0, .string (mkS [])], 219⟩]) (l₂ := ⟨b, #[.slice A l.length cap, .slice C ws.length cc], 196⟩ :: g)))) ha' hb' (by decide) (by decide) bH (by (try simp only [List.length_append, List.length_cons, List.length_nil] at hn ⊢); omega)).mono fun e w' ⟨ob', k1, k2⟩ => ⟨_, ob', k1, ⟨rfl, k2.rd⟩, k2.own⟩) fun v1 ob1 hv1 => ?_
 obtain ⟨rfl, C1, c1, g1, rfl, hs1⟩ := hv1
 exact vF [] fun w hO => ⟨_, rfl, ⟨C1, c1, g1, rfl, hs1⟩, hO.past 1 (⟨b, #[.slice A l.length cap, .slice C1 (ws ++ (X ++ bH :: Y)).length c1], 196⟩ :: g1)⟩
theorem nd_one {A : Option Addr} {cap : Nat} {l : List Nd} (hl9 : l.length ≤ 1000) {r a b0 : Nat} {X Y : List Tok} (hr : l[r]? = some ⟨4, (a : Int), (b0 : Int), 0, []⟩) (ha' : OperW A cap l a 4 X) (hb' : OperW A cap l b0 (4 - 1) Y) : fU A cap l r (X ++ tOr :: Y) := by
 intro B b ws ob W hL hn
 have hM' := gG hL.ge
 have hBW := hL.le
 have hv := hL.nodes
 have hO := hL.own
 obtain ⟨hr2, er⟩ := nW hr
 obtain ⟨eb, eo, hA, helr⟩ := hv.elem mL r hr2
 obtain ⟨C, cc, g, rfl, hsl⟩ := hL.rd
 have q : ∀ w, Own ((⟨b, #[.slice A l.length cap, .slice C ws.length cc], 196⟩ :: g).map Blk.b) W w [] → (loadVar 219 ⟨eb, eo + r * 5 + 0, none⟩).run Tryz.prog w = .ok (ndV ⟨4, (a : Int), (b0 : Int), 0, []⟩) w := fun w hO => helr w (hO.belowB hM' hBW) _ 0 _ (by rw [er]; kernel_rfl)
 refine yI hO Tryz.func158 (kI 11 [0] hA l.length cap r 5 hr2 (kA 12 [] 219 eb (eo + r * 5 + 0) (ndV ⟨4, (a : Int), (b0 : Int), 0, []⟩) (fun w hO => q w hO.no) (zV [] fun b4 => ?_)))
 refine xN (k := 190) (args := #[Zp b 0, ndV ⟨4, (a : Int), (b0 : Int), 0, []⟩, .string (mkS tOr)]) (Rr := fun v ob' => v = .tuple #[] ∧ Wr b A l.length cap (ws ++ (X ++ tOr :: Y)) ob') [0, 0, 0] (⟨b4, #[YI 4, YI (a : Int), YI (b0 : Int), YI 0, .string (mkS [])], 219⟩ :: ⟨b, #[.slice A l.length cap, .slice C ws.length cc], 196⟩ :: g) [⟨b4, #[YI 4, YI (a : Int), YI (b0 : Int), YI 0, .string (mkS [])], 219⟩] (⟨b, #[.slice A l.length cap, .slice C ws.length cc], 196⟩ :: g) (fun w hO => hO.cast (by simp)) (fun w hO => (wpair_any (hL.at (R := [⟨b4, #[YI 4, YI (a : Int), YI (b0 : Int), YI 0, .string (mkS [])], 219⟩]) ⟨C, cc, g, rfl, hsl⟩ (hO.perm (List.perm_append_comm (l₁ := [⟨b4, #[YI 4, YI (a : Int), YI (b0 : Int), YI 0, .string (mkS [])], 219⟩]) (l₂ := ⟨b, #[.slice A l.length cap, .slice C ws.length cc], 196⟩ :: g)))) ha' hb' (by decide) (by decide) tOr (by (try simp only [List.length_append, List.length_cons, List.length_nil] at hn ⊢); omega)).mono fun e w' ⟨ob', k1, k2⟩ => ⟨_, ob', k1, ⟨rfl, k2.rd⟩, k2.own⟩) fun v1 ob1 hv1 => ?_
 obtain ⟨rfl, C1, c1, g1, rfl, hs1⟩ := hv1
 exact vF [] fun w hO => ⟨_, rfl, ⟨C1, c1, g1, rfl, hs1⟩, hO.past 1 (⟨b, #[.slice A l.length cap, .slice C1 (ws ++ (X ++ tOr :: Y)).length c1], 196⟩ :: g1)⟩
end
section
set_option linter.unnecessarySimpa false
theorem fZ : ∀ t : Tr, t.tok.length + 2 ≤ 6 * t.sz
 | .is k v => by rw [Tr.tok]; show 5 ≤ 6; omega
 | .no (.is k v) => by rw [Tr.tok]; show 5 ≤ 12; omega
 | .no (.no x) => by have := fZ (.no x); rw [Tr.tok]; simp only [List.length_cons]; show _ ≤ 6 * ((Tr.no x).sz + 1); omega
 | .no (.both x y) => by have := fZ (.both x y); rw [Tr.tok]; unfold jN; simp only [if_true, List.length_cons, List.length_append, List.length_nil]; show _ ≤ 6 * ((Tr.both x y).sz + 1); omega
 | .no (.one x y) => by have := fZ (.one x y); rw [Tr.tok]; unfold jN; simp only [if_true, List.length_cons, List.length_append, List.length_nil]; show _ ≤ 6 * ((Tr.one x y).sz + 1); omega
 | .both x y => by
  have h1 := fZ x; have h2 := fZ y
  have w1 : ∀ (c : Bool) (l : List Tok), (jN c l).length ≤ l.length + 2 := fun c l => by unfold jN; cases c <;> simp
  have := w1 x.isOne x.tok; have := w1 y.isBin y.tok
  rw [Tr.tok, List.length_append, List.length_cons]; show _ ≤ 6 * (x.sz + y.sz + 1); omega
 | .one x y => by
  have h1 := fZ x; have h2 := fZ y
  have w1 : ∀ (c : Bool) (l : List Tok), (jN c l).length ≤ l.length + 2 := fun c l => by unfold jN; cases c <;> simp
  have := w1 y.isOne y.tok
  rw [Tr.tok, List.length_append, List.length_cons]; show _ ≤ 6 * (x.sz + y.sz + 1); omega
theorem opw {A : Option Addr} {cap : Nat} {l : List Nd} (hl9 : l.length ≤ 1000) {t : Tr} {a : Nat} {na : Nd} {z : Int} {c : Bool} (hna : l[a]? = some na) (hop : na.op = t.opc) (h : fU A cap l a t.tok) (hc : c = decide (z < t.opc)) : OperW A cap l a z (jN c t.tok) := by
 by_cases hz : na.op ≤ z
 ·have : c = false := by rw [hc]; exact decide_eq_false Om
  rw [this]; exact opn_in hl9 hna hz h
 ·have : c = true := by rw [hc]; exact decide_eq_true Om
  rw [this]; exact opn_out hl9 hna hz h
theorem opc_bin (t : Tr) : t.isBin = decide (2 < t.opc) := by cases t <;> rfl
theorem opc_one (t : Tr) : t.isOne = decide (3 < t.opc) := by cases t <;> rfl
theorem opc_not (t : Tr) : false = decide (4 < t.opc) := by cases t <;> rfl
theorem bL {A : Option Addr} {cap : Nat} {l : List Nd} (hl9 : l.length ≤ 1000) : ∀ (t : Tr) (o : Nat), t.ok = true → p9 l o t → fU A cap l (o + t.sz - 1) t.tok
 | .is k v, o, h, hs => by
  unfold Tr.ok at h
  simp only [Bool.and_eq_true, decide_eq_true_eq] at h
  exact nd_is hl9 h.1 (hs 0 _ rfl)
 | .no x, o, h, hs => by
  have hx : x.ok = true := h
  have hxz := x.sz_pos
  have hs1 : p9 l o x := d3 hs
  have hr := wS (k := x.sz) (Tr.enc_len x o) hs 0 _ rfl
  have ih := bL (A := A) (cap := cap) hl9 x o hx hs1
  obtain ⟨na, hna, hop⟩ := d2 hs1
  rw [Nat.add_zero] at hr
  have goal : fU A cap l (o + x.sz) (Tr.no x).tok := by
   by_cases hi : ∃ k v, x = .is k v
   ·obtain ⟨k, v, rfl⟩ := hi
    unfold Tr.ok at hx
    simp only [Bool.and_eq_true, decide_eq_true_eq] at hx
    exact nd_no_is hl9 hx.1 hr (hs1 0 _ rfl)
   ·rw [Tr.tok_no (fun k v q => hi ⟨k, v, q⟩)]
    refine nd_no hl9 hr hna ?_ (opw hl9 hna hop ih (opc_bin x))
    rw [hop]; cases x <;> first | exact absurd ⟨_, _, rfl⟩ hi | (intro q; cases q)
  show fU A cap l (o + (x.sz + 1) - 1) _
  rw [show o + (x.sz + 1) - 1 = o + x.sz by omega]; exact goal
 | .both x y, o, h, hs => by
  unfold Tr.ok at h
  rw [Bool.and_eq_true] at h
  have hs0 : ∀ i u, (x.enc o ++ y.enc (o + x.sz))[i]? = some u → l[o + i]? = some u := d3 hs
  have hs1 : p9 l o x := d3 hs0
  have hs2 : p9 l (o + x.sz) y := wS (Tr.enc_len x o) hs0
  have hr := wS (k := x.sz + y.sz) (by rw [List.length_append, Tr.enc_len, Tr.enc_len]) hs 0 _ rfl
  obtain ⟨na, hna, hop⟩ := d2 hs1
  obtain ⟨nb, hnb, hopb⟩ := d2 hs2
  have goal : fU A cap l (o + (x.sz + y.sz) + 0) (Tr.both x y).tok := by
   rw [Tr.tok]
   exact nd_both hl9 hr (opw hl9 hna hop (bL hl9 x o h.1 hs1) (opc_one x)) (opw hl9 hnb hopb (bL hl9 y (o + x.sz) h.2 hs2) (opc_bin y))
  show fU A cap l (o + (x.sz + y.sz + 1) - 1) _
  rw [show o + (x.sz + y.sz + 1) - 1 = o + (x.sz + y.sz) + 0 by omega]; exact goal
 | .one x y, o, h, hs => by
  unfold Tr.ok at h
  rw [Bool.and_eq_true] at h
  have hs0 : ∀ i u, (x.enc o ++ y.enc (o + x.sz))[i]? = some u → l[o + i]? = some u := d3 hs
  have hs1 : p9 l o x := d3 hs0
  have hs2 : p9 l (o + x.sz) y := wS (Tr.enc_len x o) hs0
  have hr := wS (k := x.sz + y.sz) (by rw [List.length_append, Tr.enc_len, Tr.enc_len]) hs 0 _ rfl
  obtain ⟨na, hna, hop⟩ := d2 hs1
  obtain ⟨nb, hnb, hopb⟩ := d2 hs2
  have goal : fU A cap l (o + (x.sz + y.sz) + 0) (Tr.one x y).tok := by
   rw [Tr.tok]
   exact nd_one hl9 hr (opw hl9 hna hop (bL hl9 x o h.1 hs1) (opc_not x)) (opw hl9 hnb hopb (bL hl9 y (o + x.sz) h.2 hs2) (opc_one y))
  show fU A cap l (o + (x.sz + y.sz + 1) - 1) _
  rw [show o + (x.sz + y.sz + 1) - 1 = o + (x.sz + y.sz) + 0 by omega]; exact goal
theorem m10Print_any (A : Option Addr) (cap : Nat) (l : List Nd) (W : World) (hv : Reads nC W W.heap.size A l) (hn : l.length ≤ 1000) (ht : ∀ n ∈ l, n.text.length ≤ 1000000) (hK : MkLib W) : YC 118 #[.agg #[.slice A l.length cap]] W (YR (.string (mkS (vG l))) W) := by
 refine Z2 (n := 30) Tryz.func118 rfl (ZO (Zb (.agg #[.slice A l.length cap]) (fun b1 => Zv (.string ⟨#[]⟩) (ZN (zI (ZO (Zv (Zp b1 0) (Zl 0 ⟨b1, #[.slice A l.length cap], 154⟩ (off := 0) (.slice A l.length cap) ?_))))))))
 refine Zv (YI (l.length : Int)) ?_
 by_cases h1 : (l.length : Int) = 0
 ·have hl0 : l = [] := List.eq_nil_of_length_eq_zero Om
  refine Zg h1 (Zv Z4 (Zk (Zk (Zk (Zk (Zv Z4 (ZY (zI (zG ?_)))))))))
  exact Zv (.string ⟨#[]⟩) (ZN (zM (z7 (ZF (.string ⟨#[]⟩) Tryz.results118 (fun w hO => ⟨by rw [hl0]; rfl, hO.below⟩)))))
 have hne : l ≠ [] := fun q => h1 (by rw [q]; rfl)
 refine Zh h1 (Zv Z5 (Zv (Zp b1 0) (Zl 0 ⟨b1, #[.slice A l.length cap], 154⟩ (off := 0) (.slice A l.length cap) (Zc (k := 157) (args := #[.slice A l.length cap]) (.bool (wA l)) (fun w hO => tree10_any A cap l w (hv.on hO.below hO.size) hne hn ht) ?_))))
 cases h2 : wA l with
 | true =>
  obtain ⟨t, hok, hl, hsz⟩ := treeOk_yes h2
  have hlen : l.length = t.sz := by rw [hl, Tr.enc_len]
  have hpos := t.sz_pos
  have hst : p9 l 0 t := hl ▸ stands_self t
  have htl := fZ t
  have htx := text_short hok Om
  have hjl : (zD 32 t.tok).length ≤ 100000 := htx
  have hnl : ((0 + t.sz - 1 : Nat) : Int) = (l.length : Int) - 1 := by omega
  refine Zv Z5 (Zv Z5 (ZX (ZB (ZO (Zv (Zp b1 0) (Zl 0 ⟨b1, #[.slice A l.length cap], 154⟩ (off := 0) (.slice A l.length cap) (Zv (.agg #[.slice A l.length cap, .slice none 0 0]) ?_)))))))
  refine Za (.agg #[.slice none 0 0, .slice none 0 0]) (fun b2 => Zs 0 ⟨b2, #[.slice none 0 0, .slice none 0 0], 196⟩ (off := 0) (.agg #[.slice A l.length cap, .slice none 0 0]) (ZR (Zv (Zp b1 0) (Zl 1 ⟨b1, #[.slice A l.length cap], 154⟩ (off := 0) (.slice A l.length cap) (Zv (YI (l.length : Int)) (Zu (k := .i64) ((l.length : Int) - 1) (IntWalk.i64_in _ Om) (zR (L' := [⟨b2, #[.slice A l.length cap, .slice none 0 0], 196⟩] ++ ([⟨b1, #[.slice A l.length cap], 154⟩] : List Blk)) rfl (Zr (k := 158) (args := #[Zp b2 0, YI ((l.length : Int) - 1)]) (fun v' L' => v' = .tuple #[] ∧ ∃ ob', L' = ob' ++ ([⟨b1, #[.slice A l.length cap], 154⟩] : List Blk) ∧ Wr b2 A l.length cap t.tok ob') (fun w hO => by rw [← hnl]; exact (bL hn t 0 hok hst W.heap.size b2 [] [⟨b2, #[.slice A l.length cap, .slice none 0 0], 196⟩] w ⟨⟨none, 0, [], rfl, Sl.nil _ _⟩, Own.lent hO, fun x hx => (hO.base x (List.mem_append_left _ hx)).elim id (fun q => absurd q (by simp)), hO.size, hv.on hO.below (Nat.le_refl _), MkAt.on hK hO.below (Nat.le_refl _)⟩ (by simp; omega)).mono fun e w' ⟨ob', k1, k2⟩ => ⟨_, _, k1, ⟨rfl, ob', rfl, k2.rd⟩, Own.join hO k2.own⟩) (fun v3 L3 hv3 => ?_)))))))))
  obtain ⟨rfl, ob3, rfl, C3, cc3, g3, rfl, hsl3⟩ := hv3
  refine zR (L' := ⟨b2, #[.slice A l.length cap, .slice C3 t.tok.length cc3], 196⟩ :: (g3 ++ ([⟨b1, #[.slice A l.length cap], 154⟩]))) rfl (ZR (Zv (Zp b2 1) (Zl 0 ⟨b2, #[.slice A l.length cap, .slice C3 t.tok.length cc3], 196⟩ (off := 1) (.slice C3 t.tok.length cc3) (Zc (k := 123) (args := #[.slice C3 t.tok.length cc3, .int .u8 32]) (.string (mkS t.text)) (fun w hO => wY _ t.tok 32 w (SlT.readsT hsl3 hO (fun x hx => by simp [hx])) Om Om (text10_ne t)) (Zv (.string (mkS t.text)) (ZN (zI ?_)))))))
  refine ZO (Zv (.string (mkS t.text)) (Zv (YI ((mkS t.text).size)) ?_))
  by_cases h3 : (96 : Int) < (mkS t.text).size
  ·refine Zg h3 (ZY (ZO (Zv (.string ⟨#[]⟩) (ZN (zM (z7 (ZF (.string ⟨#[]⟩) Tryz.results118 ?_)))))))
   exact fun w hO => ⟨by rw [hl, print_long hok (by have := h3; rw [yB] at this; omega)]; rfl, hO.below⟩
  refine Zh h3 (ZX (ZB (ZO (Zv (.string (mkS t.text)) (Zv (.string (mkS t.text)) (yD (zJ ?_)))))))
  exact zM (ZF (.string (mkS t.text)) Tryz.results118 (fun w hO => ⟨by rw [hl, print_yes hok hsz (by have := h3; rw [yB] at this; omega)], hO.below⟩))
 | false =>
  refine Zv Z4 (Zv Z4 (ZY (ZO (Zv (.string ⟨#[]⟩) (ZN (zM (z7 ?_)))))))
  exact ZF (.string ⟨#[]⟩) Tryz.results118 (fun w hO => ⟨by rw [print_no h2]; rfl, hO.below⟩)
theorem m10May_any (A : Option Addr) (cap : Nat) (l : List Nd) (W : World) (hv : Reads nC W W.heap.size A l) (hn : l.length ≤ 1000) (ht : ∀ n ∈ l, n.text.length ≤ 1000000) (hK : MkLib W) : YC 156 #[.agg #[.slice A l.length cap]] W (YR (.bool (t7 l)) W) := by
 refine Z2 (n := 12) Tryz.func156 rfl (ZO (Zb (.agg #[.slice A l.length cap]) (fun b1 => Zv Z5 (ZR (Zv (Zp b1 0) (Zl 0 ⟨b1, #[.slice A l.length cap], 154⟩ (off := 0) (.slice A l.length cap) (Zv (YI (l.length : Int)) ?_)))))))
 by_cases h1 : (l.length : Int) = 0
 ·have hl0 : l = [] := List.eq_nil_of_length_eq_zero Om
  exact Zg h1 (Zv Z4 (Zk (Zk (Zk (Zv Z4 (Zv Z4 (ZN (zM (ZF Z4 Tryz.results156 (fun w hO => ⟨by rw [hl0]; rfl, hO.below⟩))))))))))
 have hne : ¬ l = [] := fun q => h1 (by rw [q]; rfl)
 refine Zh h1 (Zv Z5 (Zl 0 ⟨b1, #[.slice A l.length cap], 154⟩ (off := 0) (.agg #[.slice A l.length cap]) (Zc (k := 118) (args := #[.agg #[.slice A l.length cap]]) (.string (mkS (vG l))) (fun w hO => m10Print_any A cap l w (hv.on hO.below hO.size) hn ht (hK.on hO.below)) ?_)))
 by_cases h2 : ((vG l) : List UInt8) = []
 ·exact yJ Z5 Kr (kX (a := (vG l)) (b := ([])) rfl Kr Kr (decide_eq_true (h2))) (Zv Z5 (Zv Z5 (ZN (zM (ZF Z5 Tryz.results156 (fun w hO => ⟨by rw [may_print hne, decide_eq_true h2]; rfl, hO.below⟩))))))
 exact yJ Z4 Kr (kX (a := (vG l)) (b := ([])) rfl Kr Kr (decide_eq_false (h2))) (Zv Z4 (Zv Z4 (ZN (zM (ZF Z4 Tryz.results156 (fun w hO => ⟨by rw [may_print hne, decide_eq_false h2]; rfl, hO.below⟩))))))
end
section
set_option linter.unnecessarySimpa false
def padV (xs : List Int) (n : Nat) : List Int := xs ++ List.replicate (n - xs.length) 0
end
section
set_option linter.unnecessarySimpa false
def ReadsA {α : Type} (M : List Nat) (g : α → List Value) (W : World) (A : Option Addr) (l : List α) : Prop :=
 0 < l.length → ∃ b off, A = some ⟨b, off, none⟩ ∧ b < W.heap.size ∧ b ∉ M ∧ ∀ k u, (l.flatMap g)[k]? = some u → W.cell? ⟨b, off + k, none⟩ = some u
theorem cell_heap {w W : World} {b k : Nat} (h : w.heap[b]? = W.heap[b]?) : w.cell? ⟨b, k, none⟩ = W.cell? ⟨b, k, none⟩ := by unfold World.cell?; simp only [h]
theorem ReadsA.at {α : Type} {M : List Nat} {g : α → List Value} {W w : World} {A : Option Addr} {l : List α} {L : List Blk} (h : ReadsA M g W A l) (hO : Own M W w L) : Reads g w w.heap.size A l := fun h0 => by
 obtain ⟨b, off, e, hlt, hm, hc⟩ := h h0
 exact ⟨b, off, e, Nat.lt_of_lt_of_le hlt hO.size, fun k u hk => by rw [cell_heap (hO.kept b hlt hm)]; exact hc k u hk⟩
structure LentN (b : Nat) (A V : Option Addr) (l : List Nd) (vs : List Int) (nd : List Nd) (ob : List Blk) (W : World) : Prop where
 rd : Nb b nd ob
 own : Own (ob.map Blk.b) W W ob
 nodes : ReadsA (ob.map Blk.b) nC W A l
 vals : ReadsA (ob.map Blk.b) zC W V vs
structure BackN (b : Nat) (nd : List Nd) (ob ob' : List Blk) (W w' : World) : Prop where
 rd : Nb b nd ob'
 own : Own (ob.map Blk.b) W w' ob'
end
end Go.Proofs.YtjimgokkpcfgpaaGreatDoor
