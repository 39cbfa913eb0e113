/-
  What the statement's proof leans on: the ways of walking, tO mathematics, and what the program's functions return; each theorem says on what conditions.
-/
import Derived.Below
import Derived.ChangeSame
import Derived.ProofKit
import Derived.OpenShut
import Derived.LaidSub
import Derived.Carry
import Derived.SliceStrings
import Derived.Lib.LaidTab
import Derived.Deep.DeepHandedRow
import Derived.Test.YtkljdpiaghepfaaGreatDoorMG6
set_option maxRecDepth 1000000
set_option maxHeartbeats 8000000
set_option linter.unusedVariables false
set_option linter.unusedSimpArgs false
set_option linter.unnecessarySimpa false
namespace Go.Proofs.YtkljdpiaghepfaaGreatDoor
open Go.RowKit

section
structure BothB (a b : List Sp) (W : World) (A1 B1 : Option Addr) (c1 c2 n : Nat) (a1 b1 : List Sp) (v : Value) (out : List Sp) (ob : List Blk) : Prop where
  ra : Reads x6 W W.heap.size A1 a1
  rb : Reads x6 W W.heap.size B1 b1
  ca : a1.length ≤ c1
  cb : b1.length ≤ c2
  sa : x5 a1
  sb : x5 b1
  sl : SlS v out ob
  so : x5 out
  len : out.length + n ≤ a.length + b.length
  fuel : a1.length + b1.length ≤ n
  eq : andG (a.length + b.length) [] a b = andG n out a1 b1
theorem andG_end {n : Nat} {out a b : List Sp} (h : ¬ (0 < a.length ∧ 0 < b.length)) : andG n out a b = out := by
  cases n with
  | zero => cases a <;> cases b <;> rfl
  | succ n =>
    cases a with
    | nil => rfl
    | cons s a =>
      cases b with
      | nil => rfl
      | cons u b => exact absurd ⟨by simp, by simp⟩ h
theorem drop1_short {l : List Sp} (h : x5 l) : x5 (l.drop 1) := fun s hs => h s (List.mem_of_mem_drop hs)
theorem BothB.stepA {a b : List Sp} {W : World} {A1 B1 : Option Addr} {c1 c2 n o b0 : Nat} {a1 b1 : List Sp} {v v2 : Value} {out : List Sp} {ob ob2 : List Blk} (h : BothB a b W A1 B1 c1 c2 n a1 b1 v out ob) (ha : 0 < a1.length) (hb : 0 < b1.length) {s u : Sp} (hs : a1[0] = s) (hu : b1[0] = u) (hA : A1 = some ⟨b0, o, none⟩)
    (he : s.hi = yW s.hi u.hi) (h2 : SlS v2 (qD out (x3 s.lo u.lo) (yW s.hi u.hi)) ob2) : BothB a b W (some ⟨b0, o + (if c1 = (1 : Int).toNat then 0 else (1 : Int).toNat * 14), none⟩) B1 (c1 - (1 : Int).toNat) c2 (n - 1) (a1.drop 1) b1 v2 (qD out (x3 s.lo u.lo) (yW s.hi u.hi)) ob2 := by
  have hss : s.short := hs ▸ h.sa _ (List.getElem_mem ha)
  have hus : u.short := hu ▸ h.sb _ (List.getElem_mem hb)
  have hf := h.fuel
  have h1 : (1 : Int).toNat = 1 := rfl
  refine ⟨h.ra.drop1 yA hA h.ca, h.rb, by rw [List.length_drop, h1]; have := h.ca; omega, h.cb, drop1_short h.sa, h.sb, h2, nE h.so (fH hss.1 hus.1) (pM hss.2 hus.2), by have := h.len; have := nG out (x3 s.lo u.lo) (yW s.hi u.hi); omega, by rw [List.length_drop]; omega, ?_⟩
  rw [h.eq]
  obtain ⟨m, rfl⟩ : ∃ m, n = m + 1 := ⟨n - 1, by omega⟩
  match a1, b1, ha, hb, hs, hu with
  | x :: a2, y :: b2, _, _, hs, hu =>
    obtain rfl : x = s := hs
    obtain rfl : y = u := hu
    conv => lhs; unfold andG
    rw [if_pos he]; rfl
theorem BothB.stepB {a b : List Sp} {W : World} {A1 B1 : Option Addr} {c1 c2 n o b0 : Nat} {a1 b1 : List Sp} {v v2 : Value} {out : List Sp} {ob ob2 : List Blk} (h : BothB a b W A1 B1 c1 c2 n a1 b1 v out ob) (ha : 0 < a1.length) (hb : 0 < b1.length) {s u : Sp} (hs : a1[0] = s) (hu : b1[0] = u) (hB : B1 = some ⟨b0, o, none⟩)
    (he : ¬ s.hi = yW s.hi u.hi) (h2 : SlS v2 (qD out (x3 s.lo u.lo) (yW s.hi u.hi)) ob2) : BothB a b W A1 (some ⟨b0, o + (if c2 = (1 : Int).toNat then 0 else (1 : Int).toNat * 14), none⟩) c1 (c2 - (1 : Int).toNat) (n - 1) a1 (b1.drop 1) v2 (qD out (x3 s.lo u.lo) (yW s.hi u.hi)) ob2 := by
  have hss : s.short := hs ▸ h.sa _ (List.getElem_mem ha)
  have hus : u.short := hu ▸ h.sb _ (List.getElem_mem hb)
  have hf := h.fuel
  have h1 : (1 : Int).toNat = 1 := rfl
  refine ⟨h.ra, h.rb.drop1 yA hB h.cb, h.ca, by rw [List.length_drop, h1]; have := h.cb; omega, h.sa, drop1_short h.sb, h2, nE h.so (fH hss.1 hus.1) (pM hss.2 hus.2), by have := h.len; have := nG out (x3 s.lo u.lo) (yW s.hi u.hi); omega, by rw [List.length_drop]; omega, ?_⟩
  rw [h.eq]
  obtain ⟨m, rfl⟩ : ∃ m, n = m + 1 := ⟨n - 1, by omega⟩
  match a1, b1, ha, hb, hs, hu with
  | x :: a2, y :: b2, _, _, hs, hu =>
    obtain rfl : x = s := hs
    obtain rfl : y = u := hu
    conv => lhs; unfold andG
    rw [if_neg he]; rfl
theorem and4_any (A B : Option Addr) (cap capb : Nat) (a b : List Sp) (W : World) (hv : Reads x6 W W.heap.size A a) (hu : Reads x6 W W.heap.size B b) (hn : a.length ≤ 100000) (hm : b.length ≤ 100000) (ha : x5 a) (hb : x5 b) (hca : a.length ≤ cap) (hcb : b.length ≤ capb) :
    Calls Tryz.prog 81 #[.slice A a.length cap, .slice B b.length capb] W fun e w' => ∃ v' ob', e = .returned v' ∧ SlS v' (if zN a && zN b then g9 a b else []) ob' ∧ Own [] W w' ob' := by
  refine Z2 (n := 66) Tryz.func81 rfl (ZO (Zv (.slice none 0 0) (ZN (zB (ZO (Zv (.slice A a.length cap) (Zc (k := 129) (args := #[.slice A a.length cap]) (.bool (zN a)) (fun w hO => jY A cap a w (hv.on hO.below hO.size) (by omega) ha) ?_)))))))
  cases h1 : zN a with
  | true =>
    refine Zv Z5 (Zv Z5 (Zv (.slice B b.length capb) (Zc (k := 129) (args := #[.slice B b.length capb]) (.bool (zN b)) (fun w hO => jY B capb b w (hu.on hO.below hO.size) (by omega) hb) ?_)))
    cases h2 : zN b with
    | true =>
      refine Zv Z5 (Zv Z5 (ZX (ZB (ZO (Zv (.slice none 0 0) (zU (zF ?_)))))))
      refine zB (zP (gV (L' := [] ++ []) rfl (x7 (fun L f m => ∃ (A1 : Option Addr) (B1 : Option Addr) (q1 : Nat) (q2 : Nat) (c1 : Nat) (c2 : Nat) (n : Nat) (a1 : List Sp) (b1 : List Sp) (v : Value) (out : List Sp) (ob : List Blk) (j : Nat → Value), (q1 = a1.length ∧ q2 = b1.length ∧ BothB a b W A1 B1 c1 c2 n a1 b1 v out ob) ∧ L = ob ++ [] ∧ f = kL j [(0, .slice A1 q1 c1), (1, .slice B1 q2 c2), (5, v)] ∧ m = a1.length + b1.length) (a.length + b.length) ⟨A, B, a.length, b.length, cap, capb, a.length + b.length, a, b, _, [], [], _, ⟨rfl, rfl, ⟨hv, hu, hca, hcb, ha, hb, Sl.nil _ _, fun s hs => by simp at hs, by simp, Nat.le_refl _, rfl⟩⟩, rfl, ZU, rfl⟩ ?_)))
      rintro L f m ⟨A1, B1, q1, q2, c1, c2, n, a1, b1, v, out, ob, j, hrel, rfl, rfl, rfl⟩
      obtain ⟨hq1, hq2, hrel⟩ := hrel; subst hq1; subst hq2; have hlen := hrel.len; have hfuel := hrel.fuel; refine gV (L' := ob) (List.append_nil ob) ?_
      refine zB (ZO (Zv (.slice A1 a1.length c1) (Zv (.int .i64 (a1.length : Int)) ?_)))
      by_cases h3 : (0 : Int) < (a1.length : Int)
      · have hka : 0 < a1.length := by omega
        obtain ⟨ba, offa, hA, hlta, hcela⟩ := hrel.ra hka
        obtain ⟨s, hs⟩ : ∃ s, a1[0] = s := ⟨_, rfl⟩
        have hsk : s.short := hs ▸ hrel.sa _ (List.getElem_mem hka)
        refine Zg h3 (Zv Z4 (Zv (.slice B1 b1.length c2) (Zv (.int .i64 (b1.length : Int)) ?_)))
        by_cases h4 : (0 : Int) < (b1.length : Int)
        · have hkb : 0 < b1.length := by omega
          obtain ⟨bb, offb, hB, hltb, hcelb⟩ := hrel.rb hkb
          obtain ⟨u, hu1⟩ : ∃ u, b1[0] = u := ⟨_, rfl⟩
          have huk : u.short := hu1 ▸ hrel.sb _ (List.getElem_mem hkb)
          refine Zg h4 (Zv Z4 (ZY (ZB (zP (zB (j6 (fun L f => ∃ (p6 p7 : Nat) (j : Nat → Value), L = ⟨p7, (zI (x3 s.lo u.lo)).cells, 78⟩ :: (⟨p6, (zI (yW s.lo u.lo)).cells, 78⟩ :: (ob)) ∧ f = kL j [(0, .slice A1 a1.length c1), (1, .slice B1 b1.length c2), (5, v), (6, Zp p6 0), (7, Zp p7 0)]) ?_ ?_))))))
          · refine j7 (by kernel_rfl) (ZT 0 [] _ (.slice A1 a1.length c1) zZ rfl (uT 1 [] _ (Zp ba (offa + 0 * 14)) rfl (by kernel_rfl) (by kernel_rfl) (by kernel_rfl) zZ (by kernel_rfl) (fun w _ => jS (b := ba) (off := offa) (c := c1) (n := a1.length) (k := .i64) (j := 0) (e := 80) (sz := 14) rfl (by kernel_rfl) hA (by kernel_rfl) (by kernel_rfl) (by kernel_rfl) (by omega) (by omega) (by omega) w) (ZT 2 [] _ (Zp ba (offa + 0 * 14 + 0)) zZ rfl (pR 3 _ (a := ⟨ba, offa + 0 * 14 + 0, none⟩) (zI s.lo) rfl (by kernel_rfl) (by kernel_rfl) (by kernel_rfl) zZ (fun w hO => Own.sub [] hO) (by kernel_rfl) rfl (by kernel_rfl) (fun w hO => yF yA (fun j u h => (hO.below.cell (p := ⟨ba, offa + j, none⟩) hlta).trans (hcela j u h)) 0 0 hka (by omega) _ (by rw [hs]; kernel_rfl)) (ZT 4 [] _ (.slice B1 b1.length c2) zZ rfl (uT 5 [] _ (Zp bb (offb + 0 * 14)) rfl (by kernel_rfl) (by kernel_rfl) (by kernel_rfl) zZ (by kernel_rfl) (fun w _ => jS (b := bb) (off := offb) (c := c2) (n := b1.length) (k := .i64) (j := 0) (e := 80) (sz := 14) rfl (by kernel_rfl) hB (by kernel_rfl) (by kernel_rfl) (by kernel_rfl) (by omega) (by omega) (by omega) w) (ZT 6 [] _ (Zp bb (offb + 0 * 14 + 0)) zZ rfl (pR 7 _ (a := ⟨bb, offb + 0 * 14 + 0, none⟩) (zI u.lo) rfl (by kernel_rfl) (by kernel_rfl) (by kernel_rfl) zZ (fun w hO => Own.sub [] hO) (by kernel_rfl) rfl (by kernel_rfl) (fun w hO => yF yA (fun j u h => (hO.below.cell (p := ⟨bb, offb + j, none⟩) hltb).trans (hcelb j u h)) 0 0 hkb (by omega) _ (by rw [hu1]; kernel_rfl)) (wB 8 12 13 (by kernel_rfl) ?_ ?_ ?_)))))))))
            · refine Zx [] _ (k := 130) (args := #[zI s.lo, zI u.lo]) (.tuple #[zI (yW s.lo u.lo), zI (x3 s.lo u.lo)]) rfl (fun w _ => qM s.lo u.lo w hsk.1 huk.1) (ZT 9 [] _ (.tuple #[zI (yW s.lo u.lo), zI (x3 s.lo u.lo)]) zZ rfl (ZT 10 [] _ (zI (yW s.lo u.lo)) zZ rfl (ZT 11 [] _ (zI (x3 s.lo u.lo)) zZ rfl (kZ 12 13 (by kernel_rfl) ?_ ?_))))
              · exact Zy [] _ (.agg ZE) rfl rfl (fun b1 => Zz 13 (Zy [⟨b1, ZE, 78⟩] _ (.agg ZE) rfl rfl (fun b2 => Zz 14 (ZS [⟨b2, ZE, 78⟩, ⟨b1, ZE, 78⟩] _ 1 ⟨b1, ZE, 78⟩ (off := 0) (zI (yW s.lo u.lo)) rfl rfl (Zz 15 (ZS [⟨b2, ZE, 78⟩, ⟨b1, (zI (yW s.lo u.lo)).cells, 78⟩] _ 0 ⟨b2, ZE, 78⟩ (off := 0) (zI (x3 s.lo u.lo)) rfl rfl (ZZ (zW ⟨b1, b2, _, rfl, ZU⟩))))))))
              exact Zy [] _ (.agg ZE) rfl rfl (fun b1 => Zz 12 (Zy [⟨b1, ZE, 78⟩] _ (.agg ZE) rfl rfl (fun b2 => Zz 14 (ZS [⟨b2, ZE, 78⟩, ⟨b1, ZE, 78⟩] _ 0 ⟨b2, ZE, 78⟩ (off := 0) (zI (yW s.lo u.lo)) rfl rfl (Zz 15 (ZS [⟨b2, (zI (yW s.lo u.lo)).cells, 78⟩, ⟨b1, ZE, 78⟩] _ 1 ⟨b1, ZE, 78⟩ (off := 0) (zI (x3 s.lo u.lo)) rfl rfl (ZZ (u0 (zW ⟨b2, b1, _, rfl, ZU⟩)))))))))
            · refine Zy [] _ (.agg ZE) rfl rfl (fun b1 => kZ 8 13 (by kernel_rfl) ?_ ?_)
              · exact Zx [⟨b1, ZE, 78⟩] _ (k := 130) (args := #[zI s.lo, zI u.lo]) (.tuple #[zI (yW s.lo u.lo), zI (x3 s.lo u.lo)]) rfl (fun w _ => qM s.lo u.lo w hsk.1 huk.1) (ZT 9 [⟨b1, ZE, 78⟩] _ (.tuple #[zI (yW s.lo u.lo), zI (x3 s.lo u.lo)]) zZ rfl (ZT 10 [⟨b1, ZE, 78⟩] _ (zI (yW s.lo u.lo)) zZ rfl (ZT 11 [⟨b1, ZE, 78⟩] _ (zI (x3 s.lo u.lo)) zZ rfl (Zz 13 (Zy [⟨b1, ZE, 78⟩] _ (.agg ZE) rfl rfl (fun b2 => Zz 14 (ZS [⟨b2, ZE, 78⟩, ⟨b1, ZE, 78⟩] _ 1 ⟨b1, ZE, 78⟩ (off := 0) (zI (yW s.lo u.lo)) rfl rfl (Zz 15 (ZS [⟨b2, ZE, 78⟩, ⟨b1, (zI (yW s.lo u.lo)).cells, 78⟩] _ 0 ⟨b2, ZE, 78⟩ (off := 0) (zI (x3 s.lo u.lo)) rfl rfl (ZZ (zW ⟨b1, b2, _, rfl, ZU⟩)))))))))))
              exact Zy [⟨b1, ZE, 78⟩] _ (.agg ZE) rfl rfl (fun b2 => Zz 8 (Zx [⟨b2, ZE, 78⟩, ⟨b1, ZE, 78⟩] _ (k := 130) (args := #[zI s.lo, zI u.lo]) (.tuple #[zI (yW s.lo u.lo), zI (x3 s.lo u.lo)]) rfl (fun w _ => qM s.lo u.lo w hsk.1 huk.1) (ZT 9 [⟨b2, ZE, 78⟩, ⟨b1, ZE, 78⟩] _ (.tuple #[zI (yW s.lo u.lo), zI (x3 s.lo u.lo)]) zZ rfl (ZT 10 [⟨b2, ZE, 78⟩, ⟨b1, ZE, 78⟩] _ (zI (yW s.lo u.lo)) zZ rfl (ZT 11 [⟨b2, ZE, 78⟩, ⟨b1, ZE, 78⟩] _ (zI (x3 s.lo u.lo)) zZ rfl (Zz 14 (ZS [⟨b2, ZE, 78⟩, ⟨b1, ZE, 78⟩] _ 1 ⟨b1, ZE, 78⟩ (off := 0) (zI (yW s.lo u.lo)) rfl rfl (Zz 15 (ZS [⟨b2, ZE, 78⟩, ⟨b1, (zI (yW s.lo u.lo)).cells, 78⟩] _ 0 ⟨b2, ZE, 78⟩ (off := 0) (zI (x3 s.lo u.lo)) rfl rfl (ZZ (zW ⟨b1, b2, _, rfl, ZU⟩)))))))))))
            refine Zy [] _ (.agg ZE) rfl rfl (fun b1 => kZ 8 12 (by kernel_rfl) ?_ ?_)
            · refine Zx [⟨b1, ZE, 78⟩] _ (k := 130) (args := #[zI s.lo, zI u.lo]) (.tuple #[zI (yW s.lo u.lo), zI (x3 s.lo u.lo)]) rfl (fun w _ => qM s.lo u.lo w hsk.1 huk.1) (ZT 9 [⟨b1, ZE, 78⟩] _ (.tuple #[zI (yW s.lo u.lo), zI (x3 s.lo u.lo)]) zZ rfl (ZT 10 [⟨b1, ZE, 78⟩] _ (zI (yW s.lo u.lo)) zZ rfl (ZT 11 [⟨b1, ZE, 78⟩] _ (zI (x3 s.lo u.lo)) zZ rfl (Zz 12 (Zy [⟨b1, ZE, 78⟩] _ (.agg ZE) rfl rfl (fun b2 => Zz 14 (ZS [⟨b2, ZE, 78⟩, ⟨b1, ZE, 78⟩] _ 0 ⟨b2, ZE, 78⟩ (off := 0) (zI (yW s.lo u.lo)) rfl rfl (Zz 15 (ZS [⟨b2, (zI (yW s.lo u.lo)).cells, 78⟩, ⟨b1, ZE, 78⟩] _ 1 ⟨b1, ZE, 78⟩ (off := 0) (zI (x3 s.lo u.lo)) rfl rfl (ZZ (u0 ?_)))))))))))
              exact zW ⟨b2, b1, _, rfl, ZU⟩
            refine Zy [⟨b1, ZE, 78⟩] _ (.agg ZE) rfl rfl (fun b2 => Zz 8 (Zx [⟨b2, ZE, 78⟩, ⟨b1, ZE, 78⟩] _ (k := 130) (args := #[zI s.lo, zI u.lo]) (.tuple #[zI (yW s.lo u.lo), zI (x3 s.lo u.lo)]) rfl (fun w _ => qM s.lo u.lo w hsk.1 huk.1) (ZT 9 [⟨b2, ZE, 78⟩, ⟨b1, ZE, 78⟩] _ (.tuple #[zI (yW s.lo u.lo), zI (x3 s.lo u.lo)]) zZ rfl (ZT 10 [⟨b2, ZE, 78⟩, ⟨b1, ZE, 78⟩] _ (zI (yW s.lo u.lo)) zZ rfl (ZT 11 [⟨b2, ZE, 78⟩, ⟨b1, ZE, 78⟩] _ (zI (x3 s.lo u.lo)) zZ rfl (Zz 14 (ZS [⟨b2, ZE, 78⟩, ⟨b1, ZE, 78⟩] _ 0 ⟨b2, ZE, 78⟩ (off := 0) (zI (yW s.lo u.lo)) rfl rfl (Zz 15 (ZS [⟨b2, (zI (yW s.lo u.lo)).cells, 78⟩, ⟨b1, ZE, 78⟩] _ 1 ⟨b1, ZE, 78⟩ (off := 0) (zI (x3 s.lo u.lo)) rfl rfl (ZZ (u0 ?_)))))))))))
            exact zW ⟨b2, b1, _, rfl, ZU⟩
          · rintro L f ⟨p6, p7, j, rfl, rfl⟩
            refine zF (zB (j6 (fun L f => ∃ (p8 p9 : Nat) (j : Nat → Value), L = ⟨p9, (zI (x3 s.hi u.hi)).cells, 78⟩ :: (⟨p8, (zI (yW s.hi u.hi)).cells, 78⟩ :: (⟨p7, (zI (x3 s.lo u.lo)).cells, 78⟩ :: (⟨p6, (zI (yW s.lo u.lo)).cells, 78⟩ :: (ob)))) ∧ f = kL j [(0, .slice A1 a1.length c1), (1, .slice B1 b1.length c2), (5, v), (6, Zp p6 0), (7, Zp p7 0), (8, Zp p8 0), (9, Zp p9 0)]) ?_ ?_))
            · refine j7 (by kernel_rfl) (ZT 0 [] _ (.slice A1 a1.length c1) zZ rfl (uT 1 [] _ (Zp ba (offa + 0 * 14)) rfl (by kernel_rfl) (by kernel_rfl) (by kernel_rfl) zZ (by kernel_rfl) (fun w _ => jS (b := ba) (off := offa) (c := c1) (n := a1.length) (k := .i64) (j := 0) (e := 80) (sz := 14) rfl (by kernel_rfl) hA (by kernel_rfl) (by kernel_rfl) (by kernel_rfl) (by omega) (by omega) (by omega) w) (ZT 2 [] _ (Zp ba (offa + 0 * 14 + 7)) zZ rfl (pR 3 _ (a := ⟨ba, offa + 0 * 14 + 7, none⟩) (zI s.hi) rfl (by kernel_rfl) (by kernel_rfl) (by kernel_rfl) zZ (fun w hO => Own.sub [] hO) (by kernel_rfl) rfl (by kernel_rfl) (fun w hO => yF yA (fun j u h => (hO.below.cell (p := ⟨ba, offa + j, none⟩) hlta).trans (hcela j u h)) 0 7 hka (by omega) _ (by rw [hs]; kernel_rfl)) (ZT 4 [] _ (.slice B1 b1.length c2) zZ rfl (uT 5 [] _ (Zp bb (offb + 0 * 14)) rfl (by kernel_rfl) (by kernel_rfl) (by kernel_rfl) zZ (by kernel_rfl) (fun w _ => jS (b := bb) (off := offb) (c := c2) (n := b1.length) (k := .i64) (j := 0) (e := 80) (sz := 14) rfl (by kernel_rfl) hB (by kernel_rfl) (by kernel_rfl) (by kernel_rfl) (by omega) (by omega) (by omega) w) (ZT 6 [] _ (Zp bb (offb + 0 * 14 + 7)) zZ rfl (pR 7 _ (a := ⟨bb, offb + 0 * 14 + 7, none⟩) (zI u.hi) rfl (by kernel_rfl) (by kernel_rfl) (by kernel_rfl) zZ (fun w hO => Own.sub [] hO) (by kernel_rfl) rfl (by kernel_rfl) (fun w hO => yF yA (fun j u h => (hO.below.cell (p := ⟨bb, offb + j, none⟩) hltb).trans (hcelb j u h)) 0 7 hkb (by omega) _ (by rw [hu1]; kernel_rfl)) (wB 8 12 13 (by kernel_rfl) ?_ ?_ ?_)))))))))
              · refine Zx [] _ (k := 130) (args := #[zI s.hi, zI u.hi]) (.tuple #[zI (yW s.hi u.hi), zI (x3 s.hi u.hi)]) rfl (fun w _ => qM s.hi u.hi w hsk.2 huk.2) (ZT 9 [] _ (.tuple #[zI (yW s.hi u.hi), zI (x3 s.hi u.hi)]) zZ rfl (ZT 10 [] _ (zI (yW s.hi u.hi)) zZ rfl (ZT 11 [] _ (zI (x3 s.hi u.hi)) zZ rfl (kZ 12 13 (by kernel_rfl) ?_ ?_))))
                · exact Zy [] _ (.agg ZE) rfl rfl (fun b3 => Zz 13 (Zy [⟨b3, ZE, 78⟩] _ (.agg ZE) rfl rfl (fun b4 => Zz 14 (ZS [⟨b4, ZE, 78⟩, ⟨b3, ZE, 78⟩] _ 1 ⟨b3, ZE, 78⟩ (off := 0) (zI (yW s.hi u.hi)) rfl rfl (Zz 15 (ZS [⟨b4, ZE, 78⟩, ⟨b3, (zI (yW s.hi u.hi)).cells, 78⟩] _ 0 ⟨b4, ZE, 78⟩ (off := 0) (zI (x3 s.hi u.hi)) rfl rfl (ZZ (zW ⟨b3, b4, _, rfl, ZU⟩))))))))
                exact Zy [] _ (.agg ZE) rfl rfl (fun b3 => Zz 12 (Zy [⟨b3, ZE, 78⟩] _ (.agg ZE) rfl rfl (fun b4 => Zz 14 (ZS [⟨b4, ZE, 78⟩, ⟨b3, ZE, 78⟩] _ 0 ⟨b4, ZE, 78⟩ (off := 0) (zI (yW s.hi u.hi)) rfl rfl (Zz 15 (ZS [⟨b4, (zI (yW s.hi u.hi)).cells, 78⟩, ⟨b3, ZE, 78⟩] _ 1 ⟨b3, ZE, 78⟩ (off := 0) (zI (x3 s.hi u.hi)) rfl rfl (ZZ (u0 (zW ⟨b4, b3, _, rfl, ZU⟩)))))))))
              · refine Zy [] _ (.agg ZE) rfl rfl (fun b3 => kZ 8 13 (by kernel_rfl) ?_ ?_)
                · exact Zx [⟨b3, ZE, 78⟩] _ (k := 130) (args := #[zI s.hi, zI u.hi]) (.tuple #[zI (yW s.hi u.hi), zI (x3 s.hi u.hi)]) rfl (fun w _ => qM s.hi u.hi w hsk.2 huk.2) (ZT 9 [⟨b3, ZE, 78⟩] _ (.tuple #[zI (yW s.hi u.hi), zI (x3 s.hi u.hi)]) zZ rfl (ZT 10 [⟨b3, ZE, 78⟩] _ (zI (yW s.hi u.hi)) zZ rfl (ZT 11 [⟨b3, ZE, 78⟩] _ (zI (x3 s.hi u.hi)) zZ rfl (Zz 13 (Zy [⟨b3, ZE, 78⟩] _ (.agg ZE) rfl rfl (fun b4 => Zz 14 (ZS [⟨b4, ZE, 78⟩, ⟨b3, ZE, 78⟩] _ 1 ⟨b3, ZE, 78⟩ (off := 0) (zI (yW s.hi u.hi)) rfl rfl (Zz 15 (ZS [⟨b4, ZE, 78⟩, ⟨b3, (zI (yW s.hi u.hi)).cells, 78⟩] _ 0 ⟨b4, ZE, 78⟩ (off := 0) (zI (x3 s.hi u.hi)) rfl rfl (ZZ (zW ⟨b3, b4, _, rfl, ZU⟩)))))))))))
                exact Zy [⟨b3, ZE, 78⟩] _ (.agg ZE) rfl rfl (fun b4 => Zz 8 (Zx [⟨b4, ZE, 78⟩, ⟨b3, ZE, 78⟩] _ (k := 130) (args := #[zI s.hi, zI u.hi]) (.tuple #[zI (yW s.hi u.hi), zI (x3 s.hi u.hi)]) rfl (fun w _ => qM s.hi u.hi w hsk.2 huk.2) (ZT 9 [⟨b4, ZE, 78⟩, ⟨b3, ZE, 78⟩] _ (.tuple #[zI (yW s.hi u.hi), zI (x3 s.hi u.hi)]) zZ rfl (ZT 10 [⟨b4, ZE, 78⟩, ⟨b3, ZE, 78⟩] _ (zI (yW s.hi u.hi)) zZ rfl (ZT 11 [⟨b4, ZE, 78⟩, ⟨b3, ZE, 78⟩] _ (zI (x3 s.hi u.hi)) zZ rfl (Zz 14 (ZS [⟨b4, ZE, 78⟩, ⟨b3, ZE, 78⟩] _ 1 ⟨b3, ZE, 78⟩ (off := 0) (zI (yW s.hi u.hi)) rfl rfl (Zz 15 (ZS [⟨b4, ZE, 78⟩, ⟨b3, (zI (yW s.hi u.hi)).cells, 78⟩] _ 0 ⟨b4, ZE, 78⟩ (off := 0) (zI (x3 s.hi u.hi)) rfl rfl (ZZ (zW ⟨b3, b4, _, rfl, ZU⟩)))))))))))
              refine Zy [] _ (.agg ZE) rfl rfl (fun b3 => kZ 8 12 (by kernel_rfl) ?_ ?_)
              · refine Zx [⟨b3, ZE, 78⟩] _ (k := 130) (args := #[zI s.hi, zI u.hi]) (.tuple #[zI (yW s.hi u.hi), zI (x3 s.hi u.hi)]) rfl (fun w _ => qM s.hi u.hi w hsk.2 huk.2) (ZT 9 [⟨b3, ZE, 78⟩] _ (.tuple #[zI (yW s.hi u.hi), zI (x3 s.hi u.hi)]) zZ rfl (ZT 10 [⟨b3, ZE, 78⟩] _ (zI (yW s.hi u.hi)) zZ rfl (ZT 11 [⟨b3, ZE, 78⟩] _ (zI (x3 s.hi u.hi)) zZ rfl (Zz 12 (Zy [⟨b3, ZE, 78⟩] _ (.agg ZE) rfl rfl (fun b4 => Zz 14 (ZS [⟨b4, ZE, 78⟩, ⟨b3, ZE, 78⟩] _ 0 ⟨b4, ZE, 78⟩ (off := 0) (zI (yW s.hi u.hi)) rfl rfl (Zz 15 (ZS [⟨b4, (zI (yW s.hi u.hi)).cells, 78⟩, ⟨b3, ZE, 78⟩] _ 1 ⟨b3, ZE, 78⟩ (off := 0) (zI (x3 s.hi u.hi)) rfl rfl (ZZ (u0 ?_)))))))))))
                exact zW ⟨b4, b3, _, rfl, ZU⟩
              refine Zy [⟨b3, ZE, 78⟩] _ (.agg ZE) rfl rfl (fun b4 => Zz 8 (Zx [⟨b4, ZE, 78⟩, ⟨b3, ZE, 78⟩] _ (k := 130) (args := #[zI s.hi, zI u.hi]) (.tuple #[zI (yW s.hi u.hi), zI (x3 s.hi u.hi)]) rfl (fun w _ => qM s.hi u.hi w hsk.2 huk.2) (ZT 9 [⟨b4, ZE, 78⟩, ⟨b3, ZE, 78⟩] _ (.tuple #[zI (yW s.hi u.hi), zI (x3 s.hi u.hi)]) zZ rfl (ZT 10 [⟨b4, ZE, 78⟩, ⟨b3, ZE, 78⟩] _ (zI (yW s.hi u.hi)) zZ rfl (ZT 11 [⟨b4, ZE, 78⟩, ⟨b3, ZE, 78⟩] _ (zI (x3 s.hi u.hi)) zZ rfl (Zz 14 (ZS [⟨b4, ZE, 78⟩, ⟨b3, ZE, 78⟩] _ 0 ⟨b4, ZE, 78⟩ (off := 0) (zI (yW s.hi u.hi)) rfl rfl (Zz 15 (ZS [⟨b4, (zI (yW s.hi u.hi)).cells, 78⟩, ⟨b3, ZE, 78⟩] _ 1 ⟨b3, ZE, 78⟩ (off := 0) (zI (x3 s.hi u.hi)) rfl rfl (ZZ (u0 ?_)))))))))))
              exact zW ⟨b4, b3, _, rfl, ZU⟩
            · rintro L f ⟨p8, p9, j, rfl, rfl⟩
              refine zF (ZO (Zv (v) (Zl 2 ⟨p7, (zI (x3 s.lo u.lo)).cells, 78⟩ (off := 0) (zI (x3 s.lo u.lo)) (Zl 1 ⟨p8, (zI (yW s.hi u.hi)).cells, 78⟩ (off := 0) (zI (yW s.hi u.hi)) (Zr (k := 131) (args := #[v, zI (x3 s.lo u.lo), zI (yW s.hi u.hi)]) (fun v' L' => ∃ ob', L' = [⟨p9, (zI (x3 s.hi u.hi)).cells, 78⟩, ⟨p8, (zI (yW s.hi u.hi)).cells, 78⟩, ⟨p7, (zI (x3 s.lo u.lo)).cells, 78⟩, ⟨p6, (zI (yW s.lo u.lo)).cells, 78⟩] ++ ob' ∧ SlS v' (qD out (x3 s.lo u.lo) (yW s.hi u.hi)) ob') (fun w hO => add_call (E := [⟨p9, (zI (x3 s.hi u.hi)).cells, 78⟩, ⟨p8, (zI (yW s.hi u.hi)).cells, 78⟩, ⟨p7, (zI (x3 s.lo u.lo)).cells, 78⟩, ⟨p6, (zI (yW s.lo u.lo)).cells, 78⟩]) (x3 s.lo u.lo) (yW s.hi u.hi) hO hrel.sl (by omega) hrel.so (fH hsk.1 huk.1) (pM hsk.2 huk.2)) (fun v2 L2 hv2 => ?_))))))
              obtain ⟨ob2, rfl, hs2⟩ := hv2
              refine Zv (v2) (ZN (zB (vP (by kernel_rfl) (by kernel_rfl) (Zw (.slice A1 a1.length c1) (gG (Zp ba (offa + 0 * 14)) (by kernel_rfl) (ZA (b := ba) (off := offa) (c := c1) (n := a1.length) (k := .i64) (j := 0) (e := 80) (sz := 14) hA) (Zw (Zp ba (offa + 0 * 14 + 7)) (nO (zI s.hi) (a := ⟨ba, offa + 0 * 14 + 7, none⟩) (by kernel_rfl) rfl (by kernel_rfl) (fun w hO => yF yA (fun j u h => (hO.below.cell (p := ⟨ba, offa + j, none⟩) hlta).trans (hcela j u h)) 0 7 hka (by omega) _ (by rw [hs]; kernel_rfl)) (Zm 1 ⟨p8, (zI (yW s.hi u.hi)).cells, 78⟩ (off := 0) (zI (yW s.hi u.hi)) ?_))))))))
              by_cases h5 : s.hi = yW s.hi u.hi
              · refine gG Z4 (by kernel_rfl) (jH (u := s.hi) (v := yW s.hi u.hi) rfl (by kernel_rfl) (by kernel_rfl) (decide_eq_true (h5))) (gH (zF (Zt (zC (Zv (.slice A1 a1.length c1) (zX (.slice (some ⟨ba, offa + (if c1 = (1 : Int).toNat then 0 else (1 : Int).toNat * 14), none⟩) (a1.length - (1 : Int).toNat) (c1 - (1 : Int).toNat)) (by kernel_rfl) (run_sllA (n := a1.length) (c := c1) (k := .i64) (j := 1) (e := 80) (sz := 14) rfl (by kernel_rfl) hA (by kernel_rfl) (by kernel_rfl) (by kernel_rfl) (by omega) (by omega)) (Zv (.slice (some ⟨ba, offa + (if c1 = (1 : Int).toNat then 0 else (1 : Int).toNat * 14), none⟩) (a1.length - (1 : Int).toNat) (c1 - (1 : Int).toNat)) (zU (zV (y6 (L' := ob2 ++ []) (fun w hO => by rw [List.append_nil]; exact Own.sub [_, _, _, _] hO) ?_))))))))))
                have hd1 : (a1.drop 1).length = a1.length - 1 := List.length_drop
                exact zY (m' := (a1.drop 1).length + b1.length) (by omega) ⟨some ⟨ba, offa + (if c1 = (1 : Int).toNat then 0 else (1 : Int).toNat * 14), none⟩, B1, a1.length - (1 : Int).toNat, b1.length, c1 - (1 : Int).toNat, c2, n - 1, a1.drop 1, b1, v2, qD out (x3 s.lo u.lo) (yW s.hi u.hi), ob2, _, ⟨by rw [List.length_drop]; rfl, rfl, hrel.stepA hka hkb hs hu1 hA (by assumption) hs2⟩, rfl, ZU, rfl⟩
              refine gG Z5 (by kernel_rfl) (jH (u := s.hi) (v := yW s.hi u.hi) rfl (by kernel_rfl) (by kernel_rfl) (decide_eq_false (h5))) (gH (zF (Zf (zC (Zv (.slice B1 b1.length c2) (zX (.slice (some ⟨bb, offb + (if c2 = (1 : Int).toNat then 0 else (1 : Int).toNat * 14), none⟩) (b1.length - (1 : Int).toNat) (c2 - (1 : Int).toNat)) (by kernel_rfl) (run_sllA (n := b1.length) (c := c2) (k := .i64) (j := 1) (e := 80) (sz := 14) rfl (by kernel_rfl) hB (by kernel_rfl) (by kernel_rfl) (by kernel_rfl) (by omega) (by omega)) (Zv (.slice (some ⟨bb, offb + (if c2 = (1 : Int).toNat then 0 else (1 : Int).toNat * 14), none⟩) (b1.length - (1 : Int).toNat) (c2 - (1 : Int).toNat)) (zU (zV (y6 (L' := ob2 ++ []) (fun w hO => by rw [List.append_nil]; exact Own.sub [_, _, _, _] hO) ?_))))))))))
              have hd1 : (b1.drop 1).length = b1.length - 1 := List.length_drop
              exact zY (m' := a1.length + (b1.drop 1).length) (by omega) ⟨A1, some ⟨bb, offb + (if c2 = (1 : Int).toNat then 0 else (1 : Int).toNat * 14), none⟩, a1.length, b1.length - (1 : Int).toNat, c1, c2 - (1 : Int).toNat, n - 1, a1, b1.drop 1, v2, qD out (x3 s.lo u.lo) (yW s.hi u.hi), ob2, _, ⟨rfl, by rw [List.length_drop]; rfl, hrel.stepB hka hkb hs hu1 hB (by assumption) hs2⟩, rfl, ZU, rfl⟩
        refine Zh h4 (Zv Z5 (ZX (yE (zH (zS (zM (zF (zB (zC ?_)))))))))
        exact Zv (v) (Zr (k := 132) (args := #[v]) (fun v' L' => SlS v' out L') (fun w hO => (uY (E := []) hO hrel.sl (by omega) hrel.so).mono fun e w' ⟨v', L', k1, ⟨ob', k2, k3⟩, k4⟩ => ⟨v', L', k1, by subst k2; exact k3, k4⟩) (fun v4 ob4 hs4 => Zv (v4) (ZN (zG (ZF (v4) Tryz.results81 (fun w hO => ⟨v4, ob4, rfl, by rw [if_pos (by simp), ← andG_eq (by assumption) (by assumption), hrel.eq, andG_end (by omega)]; exact hs4, hO⟩))))))
      refine Zh h3 (Zv Z5 (Zk (Zk (Zk (Zv Z5 (ZX (yE (zH (zS ?_)))))))))
      exact zM (zF (ZO (Zv (v) (Zr (k := 132) (args := #[v]) (fun v' L' => SlS v' out L') (fun w hO => (uY (E := []) hO hrel.sl (by omega) hrel.so).mono fun e w' ⟨v', L', k1, ⟨ob', k2, k3⟩, k4⟩ => ⟨v', L', k1, by subst k2; exact k3, k4⟩) (fun v4 ob4 hs4 => Zv (v4) (ZN (zG (ZF (v4) Tryz.results81 (fun w hO => ⟨v4, ob4, rfl, by rw [if_pos (by simp), ← andG_eq (by assumption) (by assumption), hrel.eq, andG_end (by omega)]; exact hs4, hO⟩)))))))))
    | false =>
      refine Zv Z4 (Zv Z4 (ZY (ZO (Zv (.slice none 0 0) (ZN (zG (zD ?_)))))))
      exact ZF (.slice none 0 0) Tryz.results81 (fun w hO => ⟨_, [], rfl, by rw [if_neg (by simp)]; exact Sl.nil _ _, by simpa using hO⟩)
  | false =>
    refine Zv Z4 (Zv Z4 (Zk (Zk (Zk (Zv Z4 (ZY (ZO (Zv (.slice none 0 0) ?_))))))))
    exact ZN (zG (zD (ZF (.slice none 0 0) Tryz.results81 (fun w hO => ⟨_, [], rfl, by rw [if_neg (by simp)]; exact Sl.nil _ _, by simpa using hO⟩))))
end
section
def nI (v : Ver) : Ver := { v with pre := [] }
theorem tN {v : Ver} (h : v.build = []) : nI v = nH v := by
  obtain ⟨a, b, c, p, q⟩ := v
  simp only at h; subst h; rfl
theorem rel_least {v : Ver} : nH v = Ver.zero ↔ vF v = true := by
  unfold nH vF Ver.rel Ver.zero
  simp only [Ver.mk.injEq, and_true, Bool.and_eq_true, decide_eq_true_eq, and_assoc]
theorem relA_zero {v : Ver} (h : nH v = Ver.zero) : relA v = y8 (-1) := by unfold relA; rw [rel_least.1 h]; rfl
theorem relA_one {v : Ver} (h : ¬ nH v = Ver.zero) : relA v = ⟨0, nH v, false⟩ := by
  unfold relA
  rw [show vF v = false from Bool.eq_false_iff.2 fun e => h (rel_least.2 e)]; rfl
theorem rel_self {v : Ver} (h1 : v.pre = []) (h2 : v.build = []) : nH v = v := by
  obtain ⟨a, b, c, p, q⟩ := v
  simp only at h1 h2; subst h1; subst h2; rfl
theorem next_pre {v : Ver} (h : v.may = true) (hp : v.pre ≠ []) : xA v = nH v ∧ gN v = true := by
  have e : v.pre.isEmpty = false := by cases hq : v.pre with
    | nil => exact absurd hq hp
    | cons _ _ => rfl
  unfold xA gN
  rw [h, e]; exact ⟨rfl, rfl⟩
theorem next_pos {v : Ver} (h : v.may = true) (hp : v.pre = []) (ho : gN v = true) : ¬ nI (xA v) = Ver.zero := by
  intro e
  rcases next_is h with ⟨k, _⟩ | ⟨_, a, b, c, e1, e2, ⟨_, e3⟩ | ⟨e3, _⟩⟩
  · rw [ho] at k; cases k
  · have hn := uI h
    rw [e1] at e
    have h4 : (Ver.rel a b c).code = 0 := by
      have : Ver.rel a b c = Ver.zero := e
      rw [this]; rfl
    rw [h4] at e3
    unfold Ver.code at e3; omega
  · exact e3 hp
theorem pre0_next (v : Ver) : nI (xA v) = xA v := by
  have h := (next_flat v).1
  generalize xA v = u at h ⊢
  obtain ⟨a, b, c, p, q⟩ := u
  simp only at h; subst h; rfl
theorem nX {c : Cu} (h : ¬ c.e = 0) : kQ c = c := by unfold kQ; rw [if_pos h]
theorem mP {c : Cu} (hm : c.may = true) (h0 : c.e = 0) (ha : c.aft = true) (ho : gN c.v = false) : kQ c = y8 1 := by
  have hb := vQ hm
  have hp : c.v.pre = [] := Classical.byContradiction fun hp => by rw [(next_pre (j0 hm) hp).2] at ho; cases ho
  unfold kQ relB
  rw [if_neg (by omega), if_pos ⟨ha, hp⟩, rel_self hp hb, ho]; rfl
theorem bY {c : Cu} (hm : c.may = true) (h0 : c.e = 0) (ha : c.aft = true) (ho : gN c.v = true) (hz : nI (xA c.v) = Ver.zero) : kQ c = y8 (-1) := by
  have hp : ¬ c.v.pre = [] := fun hp => next_pos (j0 hm) hp ho hz
  unfold kQ
  rw [if_neg (by omega), if_neg (fun h => hp h.2)]
  refine relA_zero ?_
  rw [← (next_pre (j0 hm) hp).1, ← pre0_next]; exact hz
theorem bX {c : Cu} (hm : c.may = true) (h0 : c.e = 0) (ha : c.aft = true) (ho : gN c.v = true) (hz : ¬ nI (xA c.v) = Ver.zero) : kQ c = ⟨0, nI (xA c.v), false⟩ := by
  have hb := vQ hm
  rw [pre0_next] at hz ⊢
  unfold kQ
  by_cases hp : c.v.pre = []
  · rw [if_neg (by omega), if_pos ⟨ha, hp⟩]
    unfold relB
    rw [rel_self hp hb, ho]; rfl
  · rw [(next_pre (j0 hm) hp).1] at hz ⊢
    rw [if_neg (by omega), if_neg (fun h => hp h.2)]
    exact relA_one hz
theorem tr_at0 {c : Cu} (hm : c.may = true) (h0 : c.e = 0) (ha : c.aft = false) (hz : nI c.v = Ver.zero) : kQ c = y8 (-1) := by
  unfold kQ
  rw [if_neg (by omega), if_neg (fun h => by rw [ha] at h; cases h.1)]
  exact relA_zero (by rw [← tN (vQ hm)]; exact hz)
theorem nY {c : Cu} (hm : c.may = true) (h0 : c.e = 0) (ha : c.aft = false) (hz : ¬ nI c.v = Ver.zero) : kQ c = ⟨0, nI c.v, false⟩ := by
  unfold kQ
  rw [if_neg (by omega), if_neg (fun h => by rw [ha] at h; cases h.1), tN (vQ hm)]
  exact relA_one (by rw [← tN (vQ hm)]; exact hz)
theorem turn_right {c : Cu} (hm : c.may = true) : decide (c = kQ c) = xC c := by
  cases h : xC c with
  | false => exact decide_eq_false fun e => by rw [e, (mO hm).2] at h; cases h
  | true =>
    refine decide_eq_true ?_
    by_cases h0 : c.e = 0
    · have hr := h
      unfold xC at hr
      rw [decide_eq_false (by simpa using h0), Bool.false_or] at hr
      simp only [Bool.and_eq_true, Bool.not_eq_true', decide_eq_true_eq] at hr
      obtain ⟨⟨ha, hp⟩, hl⟩ := hr
      have e1 : nI c.v = c.v := by
        have := vQ hm
        rw [tN this, rel_self hp this]
      rw [nY hm h0 ha (by rw [e1]; intro e; rw [e] at hl; revert hl; decide), e1]
      obtain ⟨e, v, a⟩ := c
      simp only at h0 ha; subst h0; subst ha; rfl
    · exact (nX h0).symm
theorem toRel_any (c : Cu) (W : World) (hc : c.short) (hm : c.may = true) : Calls Tryz.prog 138 #[zI c] W fun e w' => e = .returned (zI (kQ c)) ∧ Below W.heap.size W w' := by
  refine Z2 (n := 30) Tryz.func138 rfl (ZO (Zb (zI c) (fun b1 => Za (.agg ZE) (fun b2 => ZN (zB (ZO (Zv (Zp b1 0) (Zl 1 ⟨b1, (zI c).cells, 78⟩ (off := 0) (.int .i64 c.e) ?_))))))))
  by_cases h1 : (c.e : Int) = 0
  · refine Zn (p := (c.e : Int) = 0) true (decide_eq_true (h1)) (ZX (ZB (ZO (Zv (Zp b1 1) (Zl 1 ⟨b1, (zI c).cells, 78⟩ (off := 1) (.agg (ZP c.v)) (Za (.agg Z7) (fun b3 => Zs 0 ⟨b3, Z7, 44⟩ (off := 0) (.agg (ZP c.v)) ?_)))))))
    refine Zv Z4 (ZN (zB (ZO (Zv (Zp b1 6) (Zl 2 ⟨b1, (zI c).cells, 78⟩ (off := 6) (.bool c.aft) (zU (zF ?_)))))))
    cases h2 : c.aft with
    | true =>
      refine Zt (zC (Zl 0 ⟨b3, (ZP c.v), 44⟩ (off := 0) (.agg (ZP c.v)) (Zc (k := 181) (args := #[.agg (ZP c.v)]) (.tuple #[yR (xA c.v), .bool (gN c.v)]) (fun w _ => vnext_any c.v w hc.1 hc.2) (Zv (.tuple #[yR (xA c.v), .bool (gN c.v)]) (Zv (yR (xA c.v)) (Zv (.bool (gN c.v)) (Zs 0 ⟨b3, (ZP c.v), 44⟩ (off := 0) (yR (xA c.v)) (Zv (.bool (gN c.v)) (ZN (zB ?_))))))))))
      refine zC (Zv (Zp b3 3) (Zs 0 ⟨b3, (yR (xA c.v)).cells, 44⟩ (off := 3) (.string ⟨#[]⟩) (ZN (zB (zP (ZO (Zv (.bool (gN c.v)) ?_)))))))
      cases h3 : gN c.v with
      | true =>
        refine Zv Z5 (Zv Z5 (ZX (ZO (Zl 0 ⟨b3, #[.int .i64 ((xA c.v).maj), .int .i64 ((xA c.v).min), .int .i64 ((xA c.v).pat), .string ⟨#[]⟩, .string (mkS (xA c.v).build)], 44⟩ (off := 0) (.agg #[.int .i64 ((xA c.v).maj), .int .i64 ((xA c.v).min), .int .i64 ((xA c.v).pat), .string ⟨#[]⟩, .string (mkS (xA c.v).build)]) (Zv (.agg Z7) ?_)))))
        by_cases h4 : nI (xA c.v) = Ver.zero
        · refine zX Z4 (by kernel_rfl) (jG (u := nI (xA c.v)) (v := Ver.zero) rfl (by kernel_rfl) (by kernel_rfl) (decide_eq_true (h4))) (Zv Z4 (ZY (ZO (Zv (.agg Z0) (Zs 1 ⟨b2, ZE, 78⟩ (off := 0) (.agg Z0) (ZN (zG ?_)))))))
          exact zJ (zD (ZC 1 ⟨b2, Z0, 78⟩ (off := 0) (.agg Z0) Tryz.results138 (fun w hO => ⟨by first | rw [nX (by omega)] | (rw [mP hm (by omega) (by assumption) (by assumption)]; rfl) | (rw [bY hm (by omega) (by assumption) (by assumption) (by assumption)]; rfl) | (rw [bX hm (by omega) (by assumption) (by assumption) (by assumption)]; rfl) | (rw [tr_at0 hm (by omega) (by assumption) (by assumption)]; rfl) | (rw [nY hm (by omega) (by assumption) (by assumption)]; rfl), hO.below⟩)))
        refine zX Z5 (by kernel_rfl) (jG (u := nI (xA c.v)) (v := Ver.zero) rfl (by kernel_rfl) (by kernel_rfl) (decide_eq_false (h4))) (Zv Z5 (ZX (xD (zV (zF (ZO (Zl 0 ⟨b3, #[.int .i64 ((xA c.v).maj), .int .i64 ((xA c.v).min), .int .i64 ((xA c.v).pat), .string ⟨#[]⟩, .string (mkS (xA c.v).build)], 44⟩ (off := 0) (.agg #[.int .i64 ((xA c.v).maj), .int .i64 ((xA c.v).min), .int .i64 ((xA c.v).pat), .string ⟨#[]⟩, .string (mkS (xA c.v).build)]) (Zv (.agg #[.int .i64 0, .int .i64 ((xA c.v).maj), .int .i64 ((xA c.v).min), .int .i64 ((xA c.v).pat), .string ⟨#[]⟩, .string (mkS (xA c.v).build), .bool false]) ?_))))))))
        exact Zs 1 ⟨b2, ZE, 78⟩ (off := 0) (.agg #[.int .i64 0, .int .i64 ((xA c.v).maj), .int .i64 ((xA c.v).min), .int .i64 ((xA c.v).pat), .string ⟨#[]⟩, .string (mkS (xA c.v).build), .bool false]) (ZN (zG (ZC 1 ⟨b2, #[.int .i64 0, .int .i64 ((xA c.v).maj), .int .i64 ((xA c.v).min), .int .i64 ((xA c.v).pat), .string ⟨#[]⟩, .string (mkS (xA c.v).build), .bool false], 78⟩ (off := 0) (.agg #[.int .i64 0, .int .i64 ((xA c.v).maj), .int .i64 ((xA c.v).min), .int .i64 ((xA c.v).pat), .string ⟨#[]⟩, .string (mkS (xA c.v).build), .bool false]) Tryz.results138 (fun w hO => ⟨by first | rw [nX (by omega)] | (rw [mP hm (by omega) (by assumption) (by assumption)]; rfl) | (rw [bY hm (by omega) (by assumption) (by assumption) (by assumption)]; rfl) | (rw [bX hm (by omega) (by assumption) (by assumption) (by assumption)]; rfl) | (rw [tr_at0 hm (by omega) (by assumption) (by assumption)]; rfl) | (rw [nY hm (by omega) (by assumption) (by assumption)]; rfl), hO.below⟩))))
      | false =>
        refine Zv Z4 (Zv Z4 (ZY (ZO (Zv (.agg Z6) (Zs 1 ⟨b2, ZE, 78⟩ (off := 0) (.agg Z6) (ZN (zG ?_)))))))
        exact zJ (zD (ZC 1 ⟨b2, Z6, 78⟩ (off := 0) (.agg Z6) Tryz.results138 (fun w hO => ⟨by first | rw [nX (by omega)] | (rw [mP hm (by omega) (by assumption) (by assumption)]; rfl) | (rw [bY hm (by omega) (by assumption) (by assumption) (by assumption)]; rfl) | (rw [bX hm (by omega) (by assumption) (by assumption) (by assumption)]; rfl) | (rw [tr_at0 hm (by omega) (by assumption) (by assumption)]; rfl) | (rw [nY hm (by omega) (by assumption) (by assumption)]; rfl), hO.below⟩)))
    | false =>
      refine Zf (ZB (ZO (Zv (Zp b3 3) (Zs 0 ⟨b3, (ZP c.v), 44⟩ (off := 3) (.string ⟨#[]⟩) (ZN (zB (zP (zB ?_))))))))
      refine zC (Zv Z4 (Zv Z5 (Zv Z5 (ZX (ZO (Zl 0 ⟨b3, #[.int .i64 c.v.maj, .int .i64 c.v.min, .int .i64 c.v.pat, .string ⟨#[]⟩, .string (mkS c.v.build)], 44⟩ (off := 0) (.agg #[.int .i64 c.v.maj, .int .i64 c.v.min, .int .i64 c.v.pat, .string ⟨#[]⟩, .string (mkS c.v.build)]) (Zv (.agg Z7) ?_)))))))
      by_cases h5 : nI c.v = Ver.zero
      · refine zX Z4 (by kernel_rfl) (jG (u := nI c.v) (v := Ver.zero) rfl (by kernel_rfl) (by kernel_rfl) (decide_eq_true (h5))) (Zv Z4 (ZY (ZO (Zv (.agg Z0) (Zs 1 ⟨b2, ZE, 78⟩ (off := 0) (.agg Z0) (ZN (zG ?_)))))))
        exact zJ (zD (ZC 1 ⟨b2, Z0, 78⟩ (off := 0) (.agg Z0) Tryz.results138 (fun w hO => ⟨by first | rw [nX (by omega)] | (rw [mP hm (by omega) (by assumption) (by assumption)]; rfl) | (rw [bY hm (by omega) (by assumption) (by assumption) (by assumption)]; rfl) | (rw [bX hm (by omega) (by assumption) (by assumption) (by assumption)]; rfl) | (rw [tr_at0 hm (by omega) (by assumption) (by assumption)]; rfl) | (rw [nY hm (by omega) (by assumption) (by assumption)]; rfl), hO.below⟩)))
      refine zX Z5 (by kernel_rfl) (jG (u := nI c.v) (v := Ver.zero) rfl (by kernel_rfl) (by kernel_rfl) (decide_eq_false (h5))) (Zv Z5 (ZX (xD (zV (zF (ZO (Zl 0 ⟨b3, #[.int .i64 c.v.maj, .int .i64 c.v.min, .int .i64 c.v.pat, .string ⟨#[]⟩, .string (mkS c.v.build)], 44⟩ (off := 0) (.agg #[.int .i64 c.v.maj, .int .i64 c.v.min, .int .i64 c.v.pat, .string ⟨#[]⟩, .string (mkS c.v.build)]) (Zv (.agg #[.int .i64 0, .int .i64 c.v.maj, .int .i64 c.v.min, .int .i64 c.v.pat, .string ⟨#[]⟩, .string (mkS c.v.build), .bool false]) ?_))))))))
      exact Zs 1 ⟨b2, ZE, 78⟩ (off := 0) (.agg #[.int .i64 0, .int .i64 c.v.maj, .int .i64 c.v.min, .int .i64 c.v.pat, .string ⟨#[]⟩, .string (mkS c.v.build), .bool false]) (ZN (zG (ZC 1 ⟨b2, #[.int .i64 0, .int .i64 c.v.maj, .int .i64 c.v.min, .int .i64 c.v.pat, .string ⟨#[]⟩, .string (mkS c.v.build), .bool false], 78⟩ (off := 0) (.agg #[.int .i64 0, .int .i64 c.v.maj, .int .i64 c.v.min, .int .i64 c.v.pat, .string ⟨#[]⟩, .string (mkS c.v.build), .bool false]) Tryz.results138 (fun w hO => ⟨by first | rw [nX (by omega)] | (rw [mP hm (by omega) (by assumption) (by assumption)]; rfl) | (rw [bY hm (by omega) (by assumption) (by assumption) (by assumption)]; rfl) | (rw [bX hm (by omega) (by assumption) (by assumption) (by assumption)]; rfl) | (rw [tr_at0 hm (by omega) (by assumption) (by assumption)]; rfl) | (rw [nY hm (by omega) (by assumption) (by assumption)]; rfl), hO.below⟩))))
  refine Zn (p := (c.e : Int) = 0) false (decide_eq_false (h1)) (ZY (ZO (Zl 1 ⟨b1, (zI c).cells, 78⟩ (off := 0) (zI c) (Zs 0 ⟨b2, ZE, 78⟩ (off := 0) (zI c) (ZN (zG (zD ?_)))))))
  exact ZC 0 ⟨b2, (zI c).cells, 78⟩ (off := 0) (zI c) Tryz.results138 (fun w hO => ⟨by first | rw [nX (by omega)] | (rw [mP hm (by omega) (by assumption) (by assumption)]; rfl) | (rw [bY hm (by omega) (by assumption) (by assumption) (by assumption)]; rfl) | (rw [bX hm (by omega) (by assumption) (by assumption) (by assumption)]; rfl) | (rw [tr_at0 hm (by omega) (by assumption) (by assumption)]; rfl) | (rw [nY hm (by omega) (by assumption) (by assumption)]; rfl), hO.below⟩)
theorem mayRel_any (c : Cu) (W : World) (hc : c.short) (hm : c.may = true) : Calls Tryz.prog 208 #[zI c] W fun e w' => e = .returned (.bool (xC c)) ∧ Below W.heap.size W w' := by
  rw [← turn_right hm]
  refine Z2 (n := 7) Tryz.func208 rfl (ZO (Zb (zI c) (fun b1 => Zv Z5 (ZN (zB (vP (by kernel_rfl) (by kernel_rfl) (Zm 0 ⟨b1, (zI c).cells, 78⟩ (off := 0) (zI c) (Zm 0 ⟨b1, (zI c).cells, 78⟩ (off := 0) (zI c) (Zq (k := 138) (args := #[zI c]) (zI (kQ c)) (fun w _ => toRel_any c w hc hm) ?_)))))))))
  by_cases h1 : c = kQ c
  · exact gG Z4 (by kernel_rfl) (jH (u := c) (v := kQ c) rfl (by kernel_rfl) (by kernel_rfl) (decide_eq_true (h1))) (Zw Z4 (gH (zF (zG (ZF Z4 Tryz.results208 (fun w hO => ⟨by rw [decide_eq_true h1], hO.below⟩))))))
  exact gG Z5 (by kernel_rfl) (jH (u := c) (v := kQ c) rfl (by kernel_rfl) (by kernel_rfl) (decide_eq_false (h1))) (Zw Z5 (gH (zF (zG (ZF Z5 Tryz.results208 (fun w hO => ⟨by rw [decide_eq_false h1], hO.below⟩))))))
def qA (s : Sp) : Bool := !xC s.lo || !xC s.hi
theorem bN {l : List Sp} : (!l.any qA) = l.all fun x => xC x.lo && xC x.hi := by
  rw [List.not_any_eq_all_not]
  congr 1
  funext s
  unfold qA
  simp
theorem foreign1_any (s : Sp) (W : World) (hs : s.short) (hm : s.may = true) : Calls Tryz.prog 207 #[yT s] W fun e w' => e = .returned (.bool (qA s)) ∧ Below W.heap.size W w' := by
  obtain ⟨m1, m2⟩ := y9 hm
  refine Z2 (n := 13) Tryz.func207 rfl (ZO (Zb (yT s) (fun b1 => Zv Z5 (ZR (Zv (Zp b1 0) (Zl 0 ⟨b1, (yT s).cells, 80⟩ (off := 0) (.agg (ZJ s.lo)) (Zc (k := 208) (args := #[.agg (ZJ s.lo)]) (.bool (xC s.lo)) (fun w _ => mayRel_any s.lo w hs.1 m1) ?_)))))))
  cases h1 : xC s.lo with
  | true =>
    refine Zv Z5 (Zv Z5 (Zv (Zp b1 7) (Zl 0 ⟨b1, (yT s).cells, 80⟩ (off := 7) (.agg (ZJ s.hi)) (Zc (k := 208) (args := #[.agg (ZJ s.hi)]) (.bool (xC s.hi)) (fun w _ => mayRel_any s.hi w hs.2 m2) ?_))))
    cases h2 : xC s.hi with
    | true =>
      exact Zv Z5 (Zv Z5 (Zv Z5 (ZN (zG (ZF Z5 Tryz.results207 (fun w hO => ⟨by unfold qA; simp [h1, h2], hO.below⟩))))))
    | false =>
      exact Zv Z4 (Zv Z4 (Zv Z4 (ZN (zG (ZF Z4 Tryz.results207 (fun w hO => ⟨by unfold qA; simp [h1, h2], hO.below⟩))))))
  | false =>
    refine Zv Z4 (Zv Z4 (Zk (Zk (Zk (Zk (Zv Z4 (Zv Z4 (ZN (zG (ZF Z4 Tryz.results207 ?_))))))))))
    exact fun w hO => ⟨by unfold qA; simp [h1], hO.below⟩
def idxR : List Sp → Int → Int
  | [], _ => -1
  | s :: r, k => if qA s then k else idxR r (k + 1)
theorem idxR_any : ∀ (l : List Sp) (k : Int), 0 ≤ k → decide (0 ≤ idxR l k) = l.any qA
  | [], k, _ => rfl
  | s :: r, k, hk => by
    unfold idxR
    rw [List.any_cons]
    cases h : qA s with
    | true => rw [if_pos rfl, Bool.true_or]; exact decide_eq_true hk
    | false => rw [if_neg (by decide), Bool.false_or]; exact idxR_any r (k + 1) (by omega)
theorem idxr_any (A : Option Addr) (cap : Nat) (l : List Sp) (W : World) (hv : Reads x6 W W.heap.size A l) (hn : l.length ≤ 1000000) (hl : x5 l) (hmay : ∀ s ∈ l, s.may = true) :
    Calls Tryz.prog 226 #[.slice A l.length cap, .func (.func 207) #[] #[]] W fun e w' => e = .returned (.int .i64 (idxR l 0)) ∧ Below W.heap.size W w' := by
  refine Z2 (n := 19) Tryz.func226 rfl (ZO (Zv (.int .i64 0) (ZN (zB (ZO (Zv (.slice A l.length cap) (Zv (.int .i64 (l.length : Int)) (Zv (.int .i64 0) ?_))))))))
  refine ZN (zP (x7 (fun L f m => ∃ (k : Nat) (j : Nat → Value), (k ≤ l.length ∧ idxR l 0 = idxR (l.drop k) (k : Int)) ∧ L = [] ∧ f = kL j [(0, .slice A l.length cap), (1, .func (.func 207) #[] #[]), (7, .int .i64 (l.length : Int)), (8, .int .i64 (k : Int))] ∧ m = l.length - k) (l.length - 0) ⟨0, _, ⟨Nat.zero_le _, by rw [List.drop_zero]; rfl⟩, rfl, ZU, rfl⟩ ?_))
  rintro L f m ⟨k, j, hrel, rfl, rfl, rfl⟩
  have hkl := hrel.1
  refine zB (zC ?_)
  by_cases h1 : (k : Int) < (l.length : Int)
  · have hk : k < l.length := by omega
    obtain ⟨b, off, hA, hlt, hcel⟩ := hv (by omega)
    obtain ⟨s, hs⟩ : ∃ s, l[k] = s := ⟨_, rfl⟩
    have hsk : s.short := hs ▸ hl l[k] (List.getElem_mem hk)
    have hsm : s.may = true := hs ▸ hmay l[k] (List.getElem_mem hk)
    refine Zg h1 (ZN (zB (Zt (ZB (zB (zP (ZO (Zv (.int .i64 (k : Int)) ?_))))))))
    refine Zv (.int .i64 (k : Int)) (ZR (Zv (.func (.func 207) #[] #[]) (Zv (.slice A l.length cap) (Zv (.int .i64 (k : Int)) (zX (Zp b (off + k * 14)) (by kernel_rfl) (ZA (b := b) (off := off) (c := cap) (n := l.length) (k := .i64) (j := (k : Int)) (e := 80) (sz := 14) hA) (Zo (yT s) (a := ⟨b, off + k * 14, none⟩) (fun w hO => yF yA (fun j u h => (hO.below.cell (p := ⟨b, off + j, none⟩) hlt).trans (hcel j u h)) k 0 hk (by omega) _ (by rw [hs]; kernel_rfl)) (Zc (k := 207) (args := #[yT s]) (.bool (qA s)) (fun w hO => foreign1_any s w hsk hsm) (zU ?_))))))))
    refine zF ?_
    cases h2 : qA s with
    | true =>
      refine Zt (ZO (Zv (.int .i64 (k : Int)) (Zv (.int .i64 (k : Int)) (ZN (zG (zJ (zD (yK (zJ ?_)))))))))
      exact zD (ZF (.int .i64 (k : Int)) Tryz.results226 (fun w hO => ⟨by rw [hrel.2, List.drop_eq_getElem_cons hk, hs]; simp only [idxR, h2]; rfl, hO.below⟩))
    | false =>
      refine Zf (xD (zV (zF (zC (Zu (k := .i64) (((k + 1 : Nat) : Int)) (IntWalk.i64_in _ (by omega)) (Zv (.int .i64 ((k + 1 : Nat) : Int)) (zU ?_)))))))
      have hnext : idxR l 0 = idxR (l.drop (k + 1)) ((k + 1 : Nat) : Int) := by rw [hrel.2, List.drop_eq_getElem_cons hk, hs]; simp only [idxR, h2]; rfl
      exact zY (m' := l.length - (k + 1)) (by omega) ⟨k + 1, _, ⟨by omega, hnext⟩, rfl, ZU, rfl⟩
  refine Zh h1 (ZN (zB (Zf (yE (zH (zS (zM (zF (zB (zC ?_))))))))))
  exact Zv (.int .i64 (-1)) (ZN (zG (ZF (.int .i64 (-1)) Tryz.results226 (fun w hO => ⟨by rw [hrel.2, List.drop_of_length_le (by omega)]; rfl, hO.below⟩))))
theorem containsr_any (A : Option Addr) (cap : Nat) (l : List Sp) (W : World) (hv : Reads x6 W W.heap.size A l) (hn : l.length ≤ 1000000) (hl : x5 l) (hmay : ∀ s ∈ l, s.may = true) :
    Calls Tryz.prog 209 #[.slice A l.length cap, .func (.func 207) #[] #[]] W fun e w' => e = .returned (.bool (l.any qA)) ∧ Below W.heap.size W w' := by
  rw [← idxR_any l 0 (by omega)]
  refine Z2 (n := 9) Tryz.func209 rfl (ZO (Zv Z5 (ZR (Zv (.slice A l.length cap) (Zv (.func (.func 207) #[] #[]) (Zc (k := 226) (args := #[.slice A l.length cap, .func (.func 207) #[] #[]]) (.int .i64 (idxR l 0)) (fun w hO => idxr_any A cap l w (hv.on hO.below hO.size) hn hl hmay) ?_))))))
  by_cases h1 : (0 : Int) ≤ idxR l 0
  · exact Zg h1 (Zv Z4 (ZN (zG (ZF Z4 Tryz.results209 (fun w hO => ⟨by simp only [decide_eq_true h1], hO.below⟩)))))
  exact Zh h1 (Zv Z5 (ZN (zG (ZF Z5 Tryz.results209 (fun w hO => ⟨by simp only [decide_eq_false h1], hO.below⟩)))))
theorem tG (A B : Option Addr) (c d : Nat) (a : St) (W : World) (hs : SetIn W W.heap.size A B a) (ca : a.rel.length ≤ c ∧ a.pre.length ≤ d) : Calls Tryz.prog 182 #[.agg #[.slice A a.rel.length c, .slice B a.pre.length d]] W fun e w' => e = .returned (.bool a.may) ∧ Below W.heap.size W w' := by
  refine Z2 (n := 19) Tryz.func182 rfl (ZO (Zb (.agg #[.slice A a.rel.length c, .slice B a.pre.length d]) (fun b1 => Zv Z5 (ZR (Zv (.func (.func 207) #[] #[]) (zU (zF ?_)))))))
  refine ZO (Zv (Zp b1 0) (Zl 0 ⟨b1, #[.slice A a.rel.length c, .slice B a.pre.length d], 31⟩ (off := 0) (.slice A a.rel.length c) (Zc (k := 129) (args := #[.slice A a.rel.length c]) (.bool (zN a.rel)) (fun w hO => jY A c a.rel w (hs.rel.on hO.below hO.size) (Nat.le_trans hs.lr (by decide)) hs.sr) (Zv (.bool (zN a.rel)) ?_))))
  cases h1 : zN a.rel with
  | true =>
    refine Zv (Zp b1 1) (Zl 0 ⟨b1, #[.slice A a.rel.length c, .slice B a.pre.length d], 31⟩ (off := 1) (.slice B a.pre.length d) (Zc (k := 129) (args := #[.slice B a.pre.length d]) (.bool (zN a.pre)) (fun w hO => jY B d a.pre w (hs.pre.on hO.below hO.size) (Nat.le_trans hs.lp (by decide)) hs.sp) (Zv (.bool (zN a.pre)) (Zv (.bool (zN a.pre)) ?_))))
    cases h2 : zN a.pre with
    | true =>
      refine Zv (Zp b1 0) (Zl 0 ⟨b1, #[.slice A a.rel.length c, .slice B a.pre.length d], 31⟩ (off := 0) (.slice A a.rel.length c) (Zv (.func (.func 207) #[] #[]) (Zc (k := 209) (args := #[.slice A a.rel.length c, .func (.func 207) #[] #[]]) (.bool (a.rel.any qA)) (fun w hO => containsr_any A c a.rel w (hs.rel.on hO.below hO.size) (Nat.le_trans hs.lr (by decide)) hs.sr (xG h1)) ?_)))
      cases h3 : a.rel.any qA with
      | true =>
        exact Zv Z5 (Zv Z5 (Zv Z5 (ZN (zG (ZF Z5 Tryz.results182 (fun w hO => ⟨by unfold St.may; rw [← bN]; simp [h1, h2, h3], hO.below⟩))))))
      | false =>
        exact Zv Z4 (Zv Z4 (Zv Z4 (ZN (zG (ZF Z4 Tryz.results182 (fun w hO => ⟨by unfold St.may; rw [← bN]; simp [h1, h2, h3], hO.below⟩))))))
    | false =>
      exact Zk (Zk (Zk (Zk (Zk (Zv Z5 (Zv Z5 (ZN (zG (ZF Z5 Tryz.results182 (fun w hO => ⟨by unfold St.may; rw [← bN]; simp [h1, h2], hO.below⟩))))))))))
  | false =>
    refine Zk (Zk (Zk (Zv Z5 (Zv Z5 (Zk (Zk (Zk (Zk (Zk (Zv Z5 (Zv Z5 ?_)))))))))))
    exact ZN (zG (ZF Z5 Tryz.results182 (fun w hO => ⟨by unfold St.may; rw [← bN]; simp [h1], hO.below⟩)))
theorem v7 (W : World) : Calls Tryz.prog 47 #[] W fun e w' => e = .returned (.agg ZM) ∧ Below W.heap.size W w' := by
  refine Z2 (n := 2) Tryz.func47 rfl (ZO (Za (.agg ZM) (fun b1 => ZR (Zv (.agg ZM) (Zs 0 ⟨b1, ZM, 31⟩ (off := 0) (.agg ZM) (zU (zF ?_)))))))
  exact zG (ZC 0 ⟨b1, ZM, 31⟩ (off := 0) (.agg ZM) Tryz.results47 (fun w hO => ⟨rfl, hO.below⟩))
end
section
theorem not1_any (A B : Option Addr) (cap capb : Nat) (x y : List Sp) (W : World) (hv : Reads x6 W W.heap.size A x) (hu : Reads x6 W W.heap.size B y) (hx : RF x 100000) (hy : RF y 100000) (hca : x.length ≤ cap) (hcb : y.length ≤ capb) : Calls Tryz.prog 172 #[.slice A x.length cap, .slice B y.length capb] W fun e w' => ∃ v' ob', e = .returned v' ∧ SlS v' (jM x) ob' ∧ Own [] W w' ob' := by
  refine Z2 (n := 7) Tryz.func172 rfl (ZO (Zv (.slice none 0 0) (ZR (Zv (.slice A x.length cap) (Zr (k := 135) (args := #[.slice A x.length cap]) (fun v' L' => ∃ ob', L' = ob' ++ ([]) ∧ SlS v' (jM x) ob') (fun w hO => (not4_any A cap x w (hv.on hO.below hO.size) (Nat.le_trans hx.len (by decide)) hx.short).mono fun e w' ⟨v', ob', k1, k2, k3⟩ => ⟨v', _, k1, ⟨ob', rfl, by rw [if_pos hx.may] at k2; exact k2⟩, Own.joinN hO k3⟩) (fun v1 L1 hv1 => ?_))))))
  obtain ⟨o1, rfl, hr1⟩ := hv1
  obtain ⟨V1, c1, rfl⟩ := hr1.form
  exact kM (L' := o1) (List.append_nil _) (Zv (.slice V1 ((jM x).length) c1) (ZN (zG (ZF (.slice V1 ((jM x).length) c1) Tryz.results172 (fun w hO => ⟨_, o1, rfl, hr1, by simpa using hO⟩)))))
theorem combOr_any (A B A' B' : Option Addr) (c d c' d' : Nat) (a b : St) (W : World) (hs : SetIn W W.heap.size A B a) (ht : SetIn W W.heap.size A' B' b) (ca : a.rel.length ≤ c ∧ a.pre.length ≤ d) (cb : b.rel.length ≤ c' ∧ b.pre.length ≤ d') : Calls Tryz.prog 140 #[.agg #[.slice A a.rel.length c, .slice B a.pre.length d], .agg #[.slice A' b.rel.length c', .slice B' b.pre.length d'], .func (.func 83) #[] #[]] W fun e w' => ∃ v' ob', e = .returned v' ∧ SetO v' (if a.may && b.may then orT a b else gS) ob' ∧ Own [] W w' ob' := by
  refine Z2 (n := 29) Tryz.func140 rfl (ZO (Zb (.agg #[.slice A a.rel.length c, .slice B a.pre.length d]) (fun b1 => Zb (.agg #[.slice A' b.rel.length c', .slice B' b.pre.length d']) (fun b2 => Za (.agg ZM) (fun b3 => ZN (zB (ZO (Zl 2 ⟨b1, #[.slice A a.rel.length c, .slice B a.pre.length d], 31⟩ (off := 0) (.agg #[.slice A a.rel.length c, .slice B a.pre.length d]) ?_))))))))
  refine Zc (k := 182) (args := #[.agg #[.slice A a.rel.length c, .slice B a.pre.length d]]) (.bool a.may) (fun w hO => tG A B c d a w (hs.on hO.below hO.size) ca) ?_
  cases h1 : a.may with
  | true =>
    refine Zv Z5 (Zv Z5 (Zl 1 ⟨b2, #[.slice A' b.rel.length c', .slice B' b.pre.length d'], 31⟩ (off := 0) (.agg #[.slice A' b.rel.length c', .slice B' b.pre.length d']) (Zc (k := 182) (args := #[.agg #[.slice A' b.rel.length c', .slice B' b.pre.length d']]) (.bool b.may) (fun w hO => tG A' B' c' d' b w (ht.on hO.below hO.size) cb) ?_)))
    cases h2 : b.may with
    | true =>
      refine Zv Z5 (Zv Z5 (ZX (ZB (zB (gM [⟨b2, #[.slice A' b.rel.length c', .slice B' b.pre.length d'], 31⟩, ⟨b1, #[.slice A a.rel.length c, .slice B a.pre.length d], 31⟩] (by kernel_rfl) (fun w hO => Own.sub [⟨b3, ZM, 31⟩] hO) (ZT 0 [⟨b3, ZM, 31⟩] _ (.func (.func 83) #[] #[]) (zL zO) rfl (ZT 1 [⟨b3, ZM, 31⟩] _ (Zp b1 0) (zL zO) rfl (ZL 2 [⟨b3, ZM, 31⟩] _ 1 ⟨b1, #[.slice A a.rel.length c, .slice B a.pre.length d], 31⟩ (off := 0) (.slice A a.rel.length c) (zL zO) rfl rfl ?_))))))))
      refine ZT 3 [⟨b3, ZM, 31⟩] _ (Zp b2 0) (zL zO) rfl (ZL 4 [⟨b3, ZM, 31⟩] _ 0 ⟨b2, #[.slice A' b.rel.length c', .slice B' b.pre.length d'], 31⟩ (off := 0) (.slice A' b.rel.length c') (zL zO) rfl rfl (ZT 6 [⟨b3, ZM, 31⟩] _ (.func (.func 83) #[] #[]) (zL zO) rfl (ZT 7 [⟨b3, ZM, 31⟩] _ (Zp b1 1) (zL zO) rfl (ZL 8 [⟨b3, ZM, 31⟩] _ 1 ⟨b1, #[.slice A a.rel.length c, .slice B a.pre.length d], 31⟩ (off := 1) (.slice B a.pre.length d) (zL zO) rfl rfl (ZT 9 [⟨b3, ZM, 31⟩] _ (Zp b2 1) (zL zO) rfl (ZL 10 [⟨b3, ZM, 31⟩] _ 0 ⟨b2, #[.slice A' b.rel.length c', .slice B' b.pre.length d'], 31⟩ (off := 1) (.slice B' b.pre.length d') (zL zO) rfl rfl (Zz 5 (yN _ (k := 83) (args := #[.slice A a.rel.length c, .slice A' b.rel.length c']) (fun v' L' => ∃ ob', L' = ob' ++ ([⟨b3, ZM, 31⟩] ++ ([⟨b2, #[.slice A' b.rel.length c', .slice B' b.pre.length d'], 31⟩, ⟨b1, #[.slice A a.rel.length c, .slice B a.pre.length d], 31⟩])) ∧ SlS v' (orL a.rel b.rel) ob') rfl (by kernel_rfl) (fun _ => by kernel_rfl) (fun w hO => (or4_any A A' c c' a.rel b.rel w (hs.rel.on hO.below hO.size) (ht.rel.on hO.below hO.size) (SF.of h1 hs.lr hs.lp).rel.len (SF.of h2 ht.lr ht.lp).rel.len (SF.of h1 hs.lr hs.lp).rel.short (SF.of h2 ht.lr ht.lp).rel.short).mono fun e w' ⟨v', ob', k1, k2, k3⟩ => ⟨v', _, k1, ⟨ob', rfl, by rw [if_pos (by rw [(SF.of h1 hs.lr hs.lp).rel.may, (SF.of h2 ht.lr ht.lp).rel.may]; rfl)] at k2; exact k2⟩, Own.joinN hO k3⟩) (fun v' L' ⟨ob', e, _⟩ w hO => by subst e; exact Own.sub [⟨b3, ZM, 31⟩] (Own.sub ob' hO)) (fun v1 L2 hv2 => ?_)))))))))
      obtain ⟨o1, rfl, hr1⟩ := hv2
      obtain ⟨V1, c1, rfl⟩ := hr1.form
      refine yH (L' := (o1 ++ ([⟨b3, ZM, 31⟩] : List Blk)) ++ ([⟨b2, #[.slice A' b.rel.length c', .slice B' b.pre.length d'], 31⟩, ⟨b1, #[.slice A a.rel.length c, .slice B a.pre.length d], 31⟩])) (List.append_assoc _ _ _).symm (Zz 11 (yN _ (k := 83) (args := #[.slice B a.pre.length d, .slice B' b.pre.length d']) (fun v' L' => ∃ ob', L' = ob' ++ ((o1 ++ ([⟨b3, ZM, 31⟩] : List Blk)) ++ ([⟨b2, #[.slice A' b.rel.length c', .slice B' b.pre.length d'], 31⟩, ⟨b1, #[.slice A a.rel.length c, .slice B a.pre.length d], 31⟩])) ∧ SlS v' (orL a.pre b.pre) ob') rfl (by kernel_rfl) (fun _ => by kernel_rfl) (fun w hO => (or4_any B B' d d' a.pre b.pre w (hs.pre.on hO.below hO.size) (ht.pre.on hO.below hO.size) (SF.of h1 hs.lr hs.lp).pre.len (SF.of h2 ht.lr ht.lp).pre.len (SF.of h1 hs.lr hs.lp).pre.short (SF.of h2 ht.lr ht.lp).pre.short).mono fun e w' ⟨v', ob', k1, k2, k3⟩ => ⟨v', _, k1, ⟨ob', rfl, by rw [if_pos (by rw [(SF.of h1 hs.lr hs.lp).pre.may, (SF.of h2 ht.lr ht.lp).pre.may]; rfl)] at k2; exact k2⟩, Own.joinN hO k3⟩) (fun v' L' ⟨ob', e, _⟩ w hO => by subst e; exact Own.sub (o1 ++ ([⟨b3, ZM, 31⟩] : List Blk)) (Own.sub ob' hO)) (fun v2 L2 hv2 => ?_)))
      obtain ⟨o2, rfl, hr2⟩ := hv2
      obtain ⟨V2, c2, rfl⟩ := hr2.form
      exact yH (L' := (o2 ++ (o1 ++ ([⟨b3, ZM, 31⟩] : List Blk))) ++ ([⟨b2, #[.slice A' b.rel.length c', .slice B' b.pre.length d'], 31⟩, ⟨b1, #[.slice A a.rel.length c, .slice B a.pre.length d], 31⟩])) (List.append_assoc _ _ _).symm (ZT 12 (o2 ++ (o1 ++ ([⟨b3, ZM, 31⟩] : List Blk))) _ (.agg #[.slice V1 ((orL a.rel b.rel).length) c1, .slice V2 ((orL a.pre b.pre).length) c2]) (zL zO) rfl (Zz 13 (yS (E' := (⟨b3, ZM, 31⟩ :: (o2 ++ (o1 ++ ([] : List Blk))))) (by simpa [List.append_assoc] using (List.perm_middle (a := ⟨b3, ZM, 31⟩) (l₁ := (o2 ++ (o1 ++ ([] : List Blk)))) (l₂ := []))) (ZS (⟨b3, ZM, 31⟩ :: (o2 ++ (o1 ++ ([] : List Blk)))) _ 0 ⟨b3, ZM, 31⟩ (off := 0) (.agg #[.slice V1 ((orL a.rel b.rel).length) c1, .slice V2 ((orL a.pre b.pre).length) c2]) rfl rfl (ZZ (zF (zG (ZC 0 ⟨b3, #[.slice V1 ((orL a.rel b.rel).length) c1, .slice V2 ((orL a.pre b.pre).length) c2], 31⟩ (off := 0) (.agg #[.slice V1 ((orL a.rel b.rel).length) c1, .slice V2 ((orL a.pre b.pre).length) c2]) Tryz.results140 (fun w hO => ⟨_, _, rfl, by rw [if_pos (by simp [h1, h2])]; exact ⟨_, _, o1, o2, rfl, rfl, hr1, hr2⟩, own_mid hO⟩)))))))))
    | false =>
      refine Zv Z4 (Zv Z4 (ZY (ZO (Zc (k := 47) (args := #[]) (.agg ZM) (fun w _ => v7 w) (Zs 0 ⟨b3, ZM, 31⟩ (off := 0) (.agg ZM) (ZN (zG ?_)))))))
      exact zD (ZC 0 ⟨b3, ZM, 31⟩ (off := 0) (.agg ZM) Tryz.results140 (fun w hO => ⟨_, [], rfl, by rw [if_neg (by simp [h1, h2])]; exact SetO.none, vH hO⟩))
  | false =>
    refine Zv Z4 (Zv Z4 (Zk (Zk (Zk (Zv Z4 (ZY (ZO (Zc (k := 47) (args := #[]) (.agg ZM) (fun w _ => v7 w) ?_))))))))
    exact Zs 0 ⟨b3, ZM, 31⟩ (off := 0) (.agg ZM) (ZN (zG (zD (ZC 0 ⟨b3, ZM, 31⟩ (off := 0) (.agg ZM) Tryz.results140 (fun w hO => ⟨_, [], rfl, by rw [if_neg (by simp [h1])]; exact SetO.none, vH hO⟩)))))
theorem combNot_any (A B A' B' : Option Addr) (c d c' d' : Nat) (a b : St) (W : World) (hs : SetIn W W.heap.size A B a) (ht : SetIn W W.heap.size A' B' b) (ca : a.rel.length ≤ c ∧ a.pre.length ≤ d) (cb : b.rel.length ≤ c' ∧ b.pre.length ≤ d') : Calls Tryz.prog 140 #[.agg #[.slice A a.rel.length c, .slice B a.pre.length d], .agg #[.slice A' b.rel.length c', .slice B' b.pre.length d'], .func (.func 172) #[] #[]] W fun e w' => ∃ v' ob', e = .returned v' ∧ SetO v' (if a.may && b.may then notT a else gS) ob' ∧ Own [] W w' ob' := by
  refine Z2 (n := 29) Tryz.func140 rfl (ZO (Zb (.agg #[.slice A a.rel.length c, .slice B a.pre.length d]) (fun b1 => Zb (.agg #[.slice A' b.rel.length c', .slice B' b.pre.length d']) (fun b2 => Za (.agg ZM) (fun b3 => ZN (zB (ZO (Zl 2 ⟨b1, #[.slice A a.rel.length c, .slice B a.pre.length d], 31⟩ (off := 0) (.agg #[.slice A a.rel.length c, .slice B a.pre.length d]) ?_))))))))
  refine Zc (k := 182) (args := #[.agg #[.slice A a.rel.length c, .slice B a.pre.length d]]) (.bool a.may) (fun w hO => tG A B c d a w (hs.on hO.below hO.size) ca) ?_
  cases h1 : a.may with
  | true =>
    refine Zv Z5 (Zv Z5 (Zl 1 ⟨b2, #[.slice A' b.rel.length c', .slice B' b.pre.length d'], 31⟩ (off := 0) (.agg #[.slice A' b.rel.length c', .slice B' b.pre.length d']) (Zc (k := 182) (args := #[.agg #[.slice A' b.rel.length c', .slice B' b.pre.length d']]) (.bool b.may) (fun w hO => tG A' B' c' d' b w (ht.on hO.below hO.size) cb) ?_)))
    cases h2 : b.may with
    | true =>
      refine Zv Z5 (Zv Z5 (ZX (ZB (zB (gM [⟨b2, #[.slice A' b.rel.length c', .slice B' b.pre.length d'], 31⟩, ⟨b1, #[.slice A a.rel.length c, .slice B a.pre.length d], 31⟩] (by kernel_rfl) (fun w hO => Own.sub [⟨b3, ZM, 31⟩] hO) (ZT 0 [⟨b3, ZM, 31⟩] _ (.func (.func 172) #[] #[]) (zL zO) rfl (ZT 1 [⟨b3, ZM, 31⟩] _ (Zp b1 0) (zL zO) rfl (ZL 2 [⟨b3, ZM, 31⟩] _ 1 ⟨b1, #[.slice A a.rel.length c, .slice B a.pre.length d], 31⟩ (off := 0) (.slice A a.rel.length c) (zL zO) rfl rfl ?_))))))))
      refine ZT 3 [⟨b3, ZM, 31⟩] _ (Zp b2 0) (zL zO) rfl (ZL 4 [⟨b3, ZM, 31⟩] _ 0 ⟨b2, #[.slice A' b.rel.length c', .slice B' b.pre.length d'], 31⟩ (off := 0) (.slice A' b.rel.length c') (zL zO) rfl rfl (ZT 6 [⟨b3, ZM, 31⟩] _ (.func (.func 172) #[] #[]) (zL zO) rfl (ZT 7 [⟨b3, ZM, 31⟩] _ (Zp b1 1) (zL zO) rfl (ZL 8 [⟨b3, ZM, 31⟩] _ 1 ⟨b1, #[.slice A a.rel.length c, .slice B a.pre.length d], 31⟩ (off := 1) (.slice B a.pre.length d) (zL zO) rfl rfl (ZT 9 [⟨b3, ZM, 31⟩] _ (Zp b2 1) (zL zO) rfl (ZL 10 [⟨b3, ZM, 31⟩] _ 0 ⟨b2, #[.slice A' b.rel.length c', .slice B' b.pre.length d'], 31⟩ (off := 1) (.slice B' b.pre.length d') (zL zO) rfl rfl (Zz 5 (yN _ (k := 172) (args := #[.slice A a.rel.length c, .slice A' b.rel.length c']) (fun v' L' => ∃ ob', L' = ob' ++ ([⟨b3, ZM, 31⟩] ++ ([⟨b2, #[.slice A' b.rel.length c', .slice B' b.pre.length d'], 31⟩, ⟨b1, #[.slice A a.rel.length c, .slice B a.pre.length d], 31⟩])) ∧ SlS v' (jM a.rel) ob') rfl (by kernel_rfl) (fun _ => by kernel_rfl) (fun w hO => (not1_any A A' c c' a.rel b.rel w (hs.rel.on hO.below hO.size) (ht.rel.on hO.below hO.size) (SF.of h1 hs.lr hs.lp).rel (SF.of h2 ht.lr ht.lp).rel ca.1 cb.1).mono fun e w' ⟨v', ob', k1, k2, k3⟩ => ⟨v', _, k1, ⟨ob', rfl, k2⟩, Own.joinN hO k3⟩) (fun v' L' ⟨ob', e, _⟩ w hO => by subst e; exact Own.sub [⟨b3, ZM, 31⟩] (Own.sub ob' hO)) (fun v1 L2 hv2 => ?_)))))))))
      obtain ⟨o1, rfl, hr1⟩ := hv2
      obtain ⟨V1, c1, rfl⟩ := hr1.form
      refine yH (L' := (o1 ++ ([⟨b3, ZM, 31⟩] : List Blk)) ++ ([⟨b2, #[.slice A' b.rel.length c', .slice B' b.pre.length d'], 31⟩, ⟨b1, #[.slice A a.rel.length c, .slice B a.pre.length d], 31⟩])) (List.append_assoc _ _ _).symm (Zz 11 (yN _ (k := 172) (args := #[.slice B a.pre.length d, .slice B' b.pre.length d']) (fun v' L' => ∃ ob', L' = ob' ++ ((o1 ++ ([⟨b3, ZM, 31⟩] : List Blk)) ++ ([⟨b2, #[.slice A' b.rel.length c', .slice B' b.pre.length d'], 31⟩, ⟨b1, #[.slice A a.rel.length c, .slice B a.pre.length d], 31⟩])) ∧ SlS v' (jM a.pre) ob') rfl (by kernel_rfl) (fun _ => by kernel_rfl) (fun w hO => (not1_any B B' d d' a.pre b.pre w (hs.pre.on hO.below hO.size) (ht.pre.on hO.below hO.size) (SF.of h1 hs.lr hs.lp).pre (SF.of h2 ht.lr ht.lp).pre ca.2 cb.2).mono fun e w' ⟨v', ob', k1, k2, k3⟩ => ⟨v', _, k1, ⟨ob', rfl, k2⟩, Own.joinN hO k3⟩) (fun v' L' ⟨ob', e, _⟩ w hO => by subst e; exact Own.sub (o1 ++ ([⟨b3, ZM, 31⟩] : List Blk)) (Own.sub ob' hO)) (fun v2 L2 hv2 => ?_)))
      obtain ⟨o2, rfl, hr2⟩ := hv2
      obtain ⟨V2, c2, rfl⟩ := hr2.form
      exact yH (L' := (o2 ++ (o1 ++ ([⟨b3, ZM, 31⟩] : List Blk))) ++ ([⟨b2, #[.slice A' b.rel.length c', .slice B' b.pre.length d'], 31⟩, ⟨b1, #[.slice A a.rel.length c, .slice B a.pre.length d], 31⟩])) (List.append_assoc _ _ _).symm (ZT 12 (o2 ++ (o1 ++ ([⟨b3, ZM, 31⟩] : List Blk))) _ (.agg #[.slice V1 ((jM a.rel).length) c1, .slice V2 ((jM a.pre).length) c2]) (zL zO) rfl (Zz 13 (yS (E' := (⟨b3, ZM, 31⟩ :: (o2 ++ (o1 ++ ([] : List Blk))))) (by simpa [List.append_assoc] using (List.perm_middle (a := ⟨b3, ZM, 31⟩) (l₁ := (o2 ++ (o1 ++ ([] : List Blk)))) (l₂ := []))) (ZS (⟨b3, ZM, 31⟩ :: (o2 ++ (o1 ++ ([] : List Blk)))) _ 0 ⟨b3, ZM, 31⟩ (off := 0) (.agg #[.slice V1 ((jM a.rel).length) c1, .slice V2 ((jM a.pre).length) c2]) rfl rfl (ZZ (zF (zG (ZC 0 ⟨b3, #[.slice V1 ((jM a.rel).length) c1, .slice V2 ((jM a.pre).length) c2], 31⟩ (off := 0) (.agg #[.slice V1 ((jM a.rel).length) c1, .slice V2 ((jM a.pre).length) c2]) Tryz.results140 (fun w hO => ⟨_, _, rfl, by rw [if_pos (by simp [h1, h2])]; exact ⟨_, _, o1, o2, rfl, rfl, hr1, hr2⟩, own_mid hO⟩)))))))))
    | false =>
      refine Zv Z4 (Zv Z4 (ZY (ZO (Zc (k := 47) (args := #[]) (.agg ZM) (fun w _ => v7 w) (Zs 0 ⟨b3, ZM, 31⟩ (off := 0) (.agg ZM) (ZN (zG ?_)))))))
      exact zD (ZC 0 ⟨b3, ZM, 31⟩ (off := 0) (.agg ZM) Tryz.results140 (fun w hO => ⟨_, [], rfl, by rw [if_neg (by simp [h1, h2])]; exact SetO.none, vH hO⟩))
  | false =>
    refine Zv Z4 (Zv Z4 (Zk (Zk (Zk (Zv Z4 (ZY (ZO (Zc (k := 47) (args := #[]) (.agg ZM) (fun w _ => v7 w) ?_))))))))
    exact Zs 0 ⟨b3, ZM, 31⟩ (off := 0) (.agg ZM) (ZN (zG (zD (ZC 0 ⟨b3, ZM, 31⟩ (off := 0) (.agg ZM) Tryz.results140 (fun w hO => ⟨_, [], rfl, by rw [if_neg (by simp [h1])]; exact SetO.none, vH hO⟩)))))
end
section
theorem own_front {M : List Nat} {W w : World} {x : Blk} {A L : List Blk} (h : Own M W w (A ++ (x :: L))) : Own M W w (x :: A) :=
  (h.sublist ((List.Sublist.refl A).append (List.Sublist.cons_cons x (List.nil_sublist L)))).perm (List.perm_append_comm (l₁ := A) (l₂ := [x]))
theorem own_tl {M : List Nat} {W w : World} {x : Blk} {A : List Blk} (h : Own M W w (x :: A)) : Own M W w A := h.sublist (List.sublist_cons_self x A)
theorem notT_none : notT gS = allT := St.eq not_nil not_nil
theorem sOr_any (A B A' B' : Option Addr) (c d c' d' : Nat) (a b : St) (W : World) (hs : SetIn W W.heap.size A B a) (ht : SetIn W W.heap.size A' B' b) (ca : a.rel.length ≤ c ∧ a.pre.length ≤ d) (cb : b.rel.length ≤ c' ∧ b.pre.length ≤ d') : Calls Tryz.prog 86 #[.agg #[.slice A a.rel.length c, .slice B a.pre.length d], .agg #[.slice A' b.rel.length c', .slice B' b.pre.length d']] W fun e w' => ∃ v' ob', e = .returned v' ∧ SetO v' (if a.may && b.may then orT a b else gS) ob' ∧ Own [] W w' ob' := by
  refine Z2 (n := 8) Tryz.func86 rfl (ZO (Zb (.agg #[.slice A a.rel.length c, .slice B a.pre.length d]) (fun b1 => Zb (.agg #[.slice A' b.rel.length c', .slice B' b.pre.length d']) (fun b2 => Za (.agg ZM) (fun b3 => ZR (Zl 2 ⟨b1, #[.slice A a.rel.length c, .slice B a.pre.length d], 31⟩ (off := 0) (.agg #[.slice A a.rel.length c, .slice B a.pre.length d]) (Zl 1 ⟨b2, #[.slice A' b.rel.length c', .slice B' b.pre.length d'], 31⟩ (off := 0) (.agg #[.slice A' b.rel.length c', .slice B' b.pre.length d']) ?_)))))))
  refine Zr (k := 140) (args := #[.agg #[.slice A a.rel.length c, .slice B a.pre.length d], .agg #[.slice A' b.rel.length c', .slice B' b.pre.length d'], .func (.func 83) #[] #[]]) (fun v' L' => ∃ ob', L' = ob' ++ ([⟨b3, ZM, 31⟩, ⟨b2, #[.slice A' b.rel.length c', .slice B' b.pre.length d'], 31⟩, ⟨b1, #[.slice A a.rel.length c, .slice B a.pre.length d], 31⟩]) ∧ SetO v' (if a.may && b.may then orT a b else gS) ob') (fun w hO => (combOr_any A B A' B' c d c' d' a b w (hs.on hO.below hO.size) (ht.on hO.below hO.size) ca cb).mono fun e w' ⟨v', ob', k1, k2, k3⟩ => ⟨v', _, k1, ⟨ob', rfl, k2⟩, Own.joinN hO k3⟩) (fun v1 L1 hv1 => ?_)
  obtain ⟨o1, rfl, hr1⟩ := hv1
  obtain ⟨V1, U1, c1, d1, rfl⟩ := hr1.form
  exact jP (L' := ⟨b3, ZM, 31⟩ :: o1) (fun w hO => own_front hO) (Zs 0 ⟨b3, ZM, 31⟩ (off := 0) (.agg #[.slice V1 (((if a.may && b.may then orT a b else gS)).rel.length) c1, .slice U1 (((if a.may && b.may then orT a b else gS)).pre.length) d1]) (ZN (zG (ZC 0 ⟨b3, #[.slice V1 (((if a.may && b.may then orT a b else gS)).rel.length) c1, .slice U1 (((if a.may && b.may then orT a b else gS)).pre.length) d1], 31⟩ (off := 0) (.agg #[.slice V1 (((if a.may && b.may then orT a b else gS)).rel.length) c1, .slice U1 (((if a.may && b.may then orT a b else gS)).pre.length) d1]) Tryz.results86 (fun w hO => ⟨_, o1, rfl, hr1, own_tl hO⟩)))))
theorem sNot_any (A B : Option Addr) (c d : Nat) (a : St) (W : World) (hs : SetIn W W.heap.size A B a) (ca : a.rel.length ≤ c ∧ a.pre.length ≤ d) : Calls Tryz.prog 128 #[.agg #[.slice A a.rel.length c, .slice B a.pre.length d]] W fun e w' => ∃ v' ob', e = .returned v' ∧ SetO v' (if a.may then notT a else gS) ob' ∧ Own [] W w' ob' := by
  refine Z2 (n := 6) Tryz.func128 rfl (ZO (Zb (.agg #[.slice A a.rel.length c, .slice B a.pre.length d]) (fun b1 => Za (.agg ZM) (fun b2 => ZR (Zl 1 ⟨b1, #[.slice A a.rel.length c, .slice B a.pre.length d], 31⟩ (off := 0) (.agg #[.slice A a.rel.length c, .slice B a.pre.length d]) (Zl 1 ⟨b1, #[.slice A a.rel.length c, .slice B a.pre.length d], 31⟩ (off := 0) (.agg #[.slice A a.rel.length c, .slice B a.pre.length d]) (Zr (k := 140) (args := #[.agg #[.slice A a.rel.length c, .slice B a.pre.length d], .agg #[.slice A a.rel.length c, .slice B a.pre.length d], .func (.func 172) #[] #[]]) (fun v' L' => ∃ ob', L' = ob' ++ ([⟨b2, ZM, 31⟩, ⟨b1, #[.slice A a.rel.length c, .slice B a.pre.length d], 31⟩]) ∧ SetO v' (if a.may then notT a else gS) ob') (fun w hO => (combNot_any A B A B c d c d a a w (hs.on hO.below hO.size) (hs.on hO.below hO.size) ca ca).mono fun e w' ⟨v', ob', k1, k2, k3⟩ => ⟨v', _, k1, ⟨ob', rfl, by rw [Bool.and_self] at k2; exact k2⟩, Own.joinN hO k3⟩) (fun v1 L1 hv1 => ?_))))))))
  obtain ⟨o1, rfl, hr1⟩ := hv1
  obtain ⟨V1, U1, c1, d1, rfl⟩ := hr1.form
  exact jP (L' := ⟨b2, ZM, 31⟩ :: o1) (fun w hO => own_front hO) (Zs 0 ⟨b2, ZM, 31⟩ (off := 0) (.agg #[.slice V1 (((if a.may then notT a else gS)).rel.length) c1, .slice U1 (((if a.may then notT a else gS)).pre.length) d1]) (ZN (zG (ZC 0 ⟨b2, #[.slice V1 (((if a.may then notT a else gS)).rel.length) c1, .slice U1 (((if a.may then notT a else gS)).pre.length) d1], 31⟩ (off := 0) (.agg #[.slice V1 (((if a.may then notT a else gS)).rel.length) c1, .slice U1 (((if a.may then notT a else gS)).pre.length) d1]) Tryz.results128 (fun w hO => ⟨_, o1, rfl, hr1, own_tl hO⟩)))))
theorem sAll_any (W : World) : Calls Tryz.prog 80 #[] W fun e w' => ∃ v' ob', e = .returned v' ∧ SetO v' (allT) ob' ∧ Own [] W w' ob' := by
  refine Z2 (n := 3) Tryz.func80 rfl (ZO (Za (.agg ZM) (fun b1 => ZR (Zc (k := 47) (args := #[]) (.agg ZM) (fun w _ => v7 w) (Zr (k := 128) (args := #[.agg ZM]) (fun v' L' => ∃ ob', L' = ob' ++ ([⟨b1, ZM, 31⟩]) ∧ SetO v' (allT) ob') (fun w hO => (sNot_any none none 0 0 gS w (none_in _ _) ⟨Nat.le_refl 0, Nat.le_refl 0⟩).mono fun e w' ⟨v', ob', k1, k2, k3⟩ => ⟨v', _, k1, ⟨ob', rfl, by rw [if_pos none_sf.may, notT_none] at k2; exact k2⟩, Own.joinN hO k3⟩) (fun v1 L1 hv1 => ?_))))))
  obtain ⟨o1, rfl, hr1⟩ := hv1
  obtain ⟨V1, U1, c1, d1, rfl⟩ := hr1.form
  exact jP (L' := ⟨b1, ZM, 31⟩ :: o1) (fun w hO => own_front hO) (Zs 0 ⟨b1, ZM, 31⟩ (off := 0) (.agg #[.slice V1 ((allT).rel.length) c1, .slice U1 ((allT).pre.length) d1]) (ZN (zG (ZC 0 ⟨b1, #[.slice V1 ((allT).rel.length) c1, .slice U1 ((allT).pre.length) d1], 31⟩ (off := 0) (.agg #[.slice V1 ((allT).rel.length) c1, .slice U1 ((allT).pre.length) d1]) Tryz.results80 (fun w hO => ⟨_, o1, rfl, hr1, own_tl hO⟩)))))
end
section
theorem own_mk5 {M : List Nat} {W w : World} {x y : Blk} {A B : List Blk} (h : Own M W w (A ++ (x :: (B ++ [y])))) : Own M W w (x :: y :: A) :=
  (h.sublist ((List.Sublist.refl A).append (List.Sublist.cons_cons x (List.sublist_append_right B [y])))).perm (List.perm_append_comm (l₁ := A) (l₂ := [x, y]))
theorem own_mk6 {M : List Nat} {W w : World} {x y : Blk} {A B : List Blk} (h : Own M W w (A ++ (x :: y :: B))) : Own M W w (x :: y :: (A ++ B)) :=
  h.perm (by
    have e : A ++ ([x, y] ++ B) = A ++ [x, y] ++ B := (List.append_assoc ..).symm
    show (A ++ ([x, y] ++ B)).Perm ([x, y] ++ (A ++ B))
    rw [e, ← List.append_assoc]
    exact List.Perm.append_right B List.perm_append_comm)
theorem sMake_any (A B : Option Addr) (c d : Nat) (l q : List Sp) (W : World) (hv : Reads x6 W W.heap.size A l) (hu : Reads x6 W W.heap.size B q) (hn : l.length ≤ 100000) (hk : q.length ≤ 100000) (hl : x5 l) (hm : x5 q) (ca : l.length ≤ c) (cb : q.length ≤ d) :
    Calls Tryz.prog 85 #[.slice A l.length c, .slice B q.length d] W fun e w' => ∃ v' ob', e = .returned (.tuple #[v', .bool (zN l && zN q)]) ∧ SetO v' (if zN l && zN q then ⟨gW l, q⟩ else gS) ob' ∧ Own [] W w' ob' := by
  refine Z2 (n := 52) Tryz.func85 rfl (ZO (Za (.agg ZM) (fun b1 => Zv Z5 (ZN (zB (ZO (Zv (.slice A l.length c) (Zc (k := 129) (args := #[.slice A l.length c]) (.bool (zN l)) (fun w hO => jY A c l w (hv.on hO.below hO.below.size) (Nat.le_trans hn (by decide)) hl) ?_))))))))
  cases h1 : zN l with
  | true =>
    refine Zv Z5 (Zv Z5 (Zv (.slice B q.length d) (Zc (k := 129) (args := #[.slice B q.length d]) (.bool (zN q)) (fun w hO => jY B d q w (hu.on hO.below hO.below.size) (Nat.le_trans hk (by decide)) hm) ?_)))
    cases h2 : zN q with
    | true =>
      refine Zv Z5 (Zv Z5 (ZX (ZB (ZO (Zv (.slice none 0 0) (zU (zF ?_)))))))
      refine zB (ZO (Zv (.slice A l.length c) (Zv (.int .i64 (l.length : Int)) (Zv (.int .i64 0) (ZN (zP (gV (L' := [] ++ [⟨b1, ZM, 31⟩]) rfl (x7 (fun L f m => ∃ (k : Nat) (u : Value) (acc : List Sp) (ob : List Blk) (j : Nat → Value), (MkI l k u acc ob) ∧ L = ob ++ [⟨b1, ZM, 31⟩] ∧ f = kL j [(1, .slice B q.length d), (4, Zp b1 0), (6, u), (19, .slice A l.length c), (20, .int .i64 (l.length : Int)), (21, .int .i64 (k : Int))] ∧ m = l.length - k) (l.length - 0) ⟨0, _, [], [], _, ⟨Nat.zero_le _, Sl.nil _ _, rfl⟩, rfl, ZU, rfl⟩ ?_))))))))
      rintro L f m ⟨k, u, acc, ob, j, hrel, rfl, rfl, rfl⟩
      have hkl := hrel.le
      refine zB (zC ?_)
      by_cases h3 : (k : Int) < (l.length : Int)
      · have hlk : k < l.length := by omega
        obtain ⟨b, off, hA, hlt, hcell⟩ := hv (by omega)
        obtain ⟨s, he⟩ : ∃ s, l[k] = s := ⟨_, rfl⟩
        have hsk : s.short := he ▸ hl _ (List.getElem_mem _)
        have hsm : s.lo.may = true ∧ s.hi.may = true := y9 (he ▸ xG h1 _ (List.getElem_mem _))
        obtain ⟨x, hx⟩ : ∃ x, kQ s.lo = x := ⟨_, rfl⟩
        obtain ⟨y, hy⟩ : ∃ y, kQ s.hi = y := ⟨_, rfl⟩
        have hxS : x.short := hx ▸ turn_short hsk.1
        have hyS : y.short := hy ▸ turn_short hsk.2
        refine Zg h3 (ZN (zB (Zt (ZB (zB (zP (ZO (zX (Zp b (off + k * 14)) (by kernel_rfl) (ZA (b := b) (off := off) (c := c) (n := l.length) (k := .i64) (j := (k : Int)) (e := 80) (sz := 14) hA) ?_))))))))
        refine Zo (yT s) (a := ⟨b, off + k * 14, none⟩) (fun w hO => yF yA (fun j u h => (hO.below.cell (p := ⟨b, off + j, none⟩) hlt).trans (hcell j u h)) k 0 hlk (by omega) _ (by rw [he]; kernel_rfl)) (Za (.agg Z8) (fun b2 => Zs 0 ⟨b2, Z8, 80⟩ (off := 0) (yT s) (ZN (zB (ok_drawt 7 (by kernel_rfl) (by kernel_rfl) (by kernel_rfl) ?_)))))
        simp only [List.take_succ_cons, List.take_zero, List.drop_succ_cons, List.drop_zero]
        refine Zw (Zp b2 0) (Zm 0 ⟨b2, (yT s).cells, 80⟩ (off := 0) (.agg (ZJ s.lo)) (Zq (k := 138) (args := #[.agg (ZJ s.lo)]) (zI x) (fun w _ => bJ (by rw [hx]) (toRel_any s.lo w hsk.1 hsm.1)) (Zw (Zp b2 7) (Zm 0 ⟨b2, (yT s).cells, 80⟩ (off := 7) (.agg (ZJ s.hi)) (Zq (k := 138) (args := #[.agg (ZJ s.hi)]) (zI y) (fun w _ => bJ (by rw [hy]) (toRel_any s.hi w hsk.2 hsm.2)) (Zw (.agg (ZJ2 x y)) (gH (Zs 0 ⟨b2, (yT s).cells, 80⟩ (off := 0) (.agg (ZJ2 x y)) (ZN (zB ?_))))))))))
        refine zC (Zl 0 ⟨b2, (ZJ2 x y), 80⟩ (off := 0) (.agg (ZJ2 x y)) (Zc (k := 139) (args := #[.agg (ZJ2 x y)]) (.bool ((⟨x, y⟩ : Sp).may)) (fun w _ => bG ⟨x, y⟩ w ⟨hxS, hyS⟩) (zU (zF ?_))))
        cases h4 : (⟨x, y⟩ : Sp).may with
        | true =>
          refine Zt (zC (Zv (u) (Zl 0 ⟨b2, (ZJ2 x y), 80⟩ (off := 0) (.agg (ZJ2 x y)) (vG 80 (ZJ2 x y) (by kernel_rfl) rfl (fun _ => by kernel_rfl) (fun b3 => ?_)))))
          obtain ⟨i0, z0, e1, e2, e3, e4, e5⟩ := qH
          have hln : acc.length ≤ k := by rw [hrel.eq]; exact turnL_len l k
          refine kM (L' := [⟨b3, (ZJ2 x y), 80⟩, ⟨b2, (ZJ2 x y), 80⟩] ++ ob ++ [⟨b1, ZM, 31⟩]) (by rw [List.append_assoc]; kernel_rfl) (gQ (sz := 14) (by kernel_rfl) rfl Tryz.underlying29 e1 e2 e3 e4 (by kernel_rfl) hrel.sl (a := ⟨b3, 0, none⟩) (m := 1) (c := 1) (news := x6 ⟨x, y⟩) (by kernel_rfl) rfl (fun w hO j u hj => ?_) (gI _) (by unfold maxLen; omega) (by rw [e5]; omega) (fun u2 ob2 hu2 => ?_))
          · rw [y7, cell_of_row w b3 (0 + j) (x6 ⟨x, y⟩).toArray 80 _ (hO.held ⟨b3, (x6 ⟨x, y⟩).toArray, 80⟩ (List.mem_append_left _ (List.mem_append_left _ (List.mem_cons_self ..))))]; simpa using hj
          exact Zv (u2) (zU (zV (zF (zC (Zu (k := .i64) (((k + 1 : Nat) : Int)) (IntWalk.i64_in _ (by omega)) (Zv (.int .i64 ((k + 1 : Nat) : Int)) (zU (y6 (L' := ob2 ++ [⟨b1, ZM, 31⟩]) (fun w hO => own_drop hO) (zY (m' := l.length - (k + 1)) (by omega) ⟨k + 1, u2, _, ob2, _, hrel.grow hlk he hx hy (by assumption) hu2, rfl, ZU, rfl⟩)))))))))
        | false =>
          exact Zf (xD (zV (zF (zC (Zu (k := .i64) (((k + 1 : Nat) : Int)) (IntWalk.i64_in _ (by omega)) (Zv (.int .i64 ((k + 1 : Nat) : Int)) (zU (y6 (L' := ob ++ [⟨b1, ZM, 31⟩]) (fun w hO => Own.sub [_] hO) (zY (m' := l.length - (k + 1)) (by omega) ⟨k + 1, u, acc, ob, _, hrel.keep hlk he hx hy (by assumption), rfl, ZU, rfl⟩)))))))))
      refine Zh h3 (ZN (zB (Zf (yE (zH (zS (zM (zF (zB (zC ?_))))))))))
      refine Za (.agg ZM) (fun b2 => ZR (Zv (u) ?_))
      have hke : acc = (l.map u7).filter (·.may) := by have h := hrel.eq; unfold tA at h; rwa [List.take_of_length_le (by omega)] at h
      have hall : gK acc = true := allMay_mem.2 (by rw [hrel.eq]; exact turnL_may l k)
      have hsh : x5 acc := fun s hs => sp_short (allMay_mem.1 hall s hs)
      have hln : acc.length ≤ k := by rw [hrel.eq]; exact turnL_len l k
      have hsl := hrel.sl
      clear hrel
      obtain ⟨C, cc, rfl⟩ := hsl.form
      refine Zr (k := 136) (args := #[.slice C acc.length cc]) (fun v' L' => ∃ mv ob', v' = .tuple #[mv, .bool true] ∧ L' = ob' ++ (⟨b2, ZM, 31⟩ :: (ob ++ ([⟨b1, ZM, 31⟩]))) ∧ SlS mv (gW l) ob') (fun w hO => (mX C cc acc w (Sl.reads hsl rfl hO (fun x hx => by simp [hx])) (by omega) hsh).mono fun e w' ⟨v', ob', k1, k2, k3⟩ => ⟨_, _, k1, ⟨v', ob', by rw [hall], rfl, by rw [hall, if_pos rfl, hke] at k2; exact k2⟩, Own.joinN hO k3⟩) (fun tv L2 hv2 => ?_)
      obtain ⟨v2, o2, rfl, rfl, hr2⟩ := hv2
      obtain ⟨V2, c2, rfl⟩ := hr2.form
      refine jP (L' := ⟨b2, ZM, 31⟩ :: ⟨b1, ZM, 31⟩ :: o2) (fun w hO => own_mk5 hO) (Zv (.tuple #[.slice V2 ((gW l).length) c2, .bool true]) (Zv (.slice V2 ((gW l).length) c2) (Zv Z4 (Zv (Zp b2 0) (Zs 0 ⟨b2, ZM, 31⟩ (off := 0) (.slice V2 ((gW l).length) c2) (ZR (Zv (.slice B q.length d) ?_)))))))
      have hqa : gK q = true := allMay_mem.2 (xG h2)
      refine Zr (k := 136) (args := #[.slice B q.length d]) (fun v' L' => ∃ mv ob', v' = .tuple #[mv, .bool true] ∧ L' = ob' ++ (⟨b2, #[.slice V2 ((gW l).length) c2, .slice none 0 0], 31⟩ :: (⟨b1, ZM, 31⟩ :: (o2))) ∧ SlS mv q ob') (fun w hO => (mX B d q w (hu.on hO.below hO.below.size) (Nat.le_trans hk (by decide)) hm).mono fun e w' ⟨v', ob', k1, k2, k3⟩ => ⟨_, _, k1, ⟨v', ob', by rw [hqa], rfl, by rw [hqa, if_pos rfl, make_self h2] at k2; exact k2⟩, Own.joinN hO k3⟩) (fun tv L3 hv3 => ?_)
      obtain ⟨v3, o3, rfl, rfl, hr3⟩ := hv3
      obtain ⟨V3, c3, rfl⟩ := hr3.form
      refine jP (L' := ⟨b2, #[.slice V2 ((gW l).length) c2, .slice none 0 0], 31⟩ :: ⟨b1, ZM, 31⟩ :: (o3 ++ o2)) (fun w hO => own_mk6 hO) (Zv (.tuple #[.slice V3 q.length c3, .bool true]) (Zv (.slice V3 q.length c3) (Zv Z4 (Zv (Zp b2 1) (Zs 0 ⟨b2, #[.slice V2 ((gW l).length) c2, .slice none 0 0], 31⟩ (off := 1) (.slice V3 q.length c3) (ZR (Zl 0 ⟨b2, #[.slice V2 ((gW l).length) c2, .slice V3 q.length c3], 31⟩ (off := 0) (.agg #[.slice V2 ((gW l).length) c2, .slice V3 q.length c3]) (Zs 1 ⟨b1, ZM, 31⟩ (off := 0) (.agg #[.slice V2 ((gW l).length) c2, .slice V3 q.length c3]) ?_))))))))
      exact Zv Z4 (ZN (zG (ZD 1 ⟨b1, #[.slice V2 ((gW l).length) c2, .slice V3 q.length c3], 31⟩ (off := 0) (.agg #[.slice V2 ((gW l).length) c2, .slice V3 q.length c3]) Z4 Tryz.results85 (fun w hO => ⟨_, _, rfl, by rw [if_pos (by simp [h1, h2])]; exact ⟨_, _, o2, o3, rfl, rfl, hr2, hr3⟩, own_tl (own_tl hO)⟩))))
    | false =>
      refine Zv Z4 (Zv Z4 (ZY (ZO (Zc (k := 47) (args := #[]) (.agg ZM) (fun w _ => v7 w) (Zs 0 ⟨b1, ZM, 31⟩ (off := 0) (.agg ZM) (Zv Z5 (zU (zF ?_))))))))
      exact zG (zD (ZD 0 ⟨b1, ZM, 31⟩ (off := 0) (.agg ZM) Z5 Tryz.results85 (fun w hO => ⟨_, [], by first | rfl | (simp [h1, h2]; done), by rw [if_neg (by simp [h1, h2])]; exact SetO.none, vH hO⟩)))
  | false =>
    refine Zv Z4 (Zv Z4 (Zk (Zk (Zk (Zv Z4 (ZY (ZO (Zc (k := 47) (args := #[]) (.agg ZM) (fun w _ => v7 w) ?_))))))))
    exact Zs 0 ⟨b1, ZM, 31⟩ (off := 0) (.agg ZM) (Zv Z5 (ZN (zG (zD (ZD 0 ⟨b1, ZM, 31⟩ (off := 0) (.agg ZM) Z5 Tryz.results85 (fun w hO => ⟨_, [], by first | rfl | (simp [h1]; done), by rw [if_neg (by simp [h1])]; exact SetO.none, vH hO⟩))))))
end
section
section
variable {M : List Nat} {W w : World} {x y z : Blk} {A B C D E F G : List Blk}
theorem own_ev1 (h : Own M W w (A ++ (B ++ (C ++ (D ++ (x :: (E ++ (F ++ [y])))))))) : Own M W w (C ++ (A ++ [y])) := by
  have h0 : [y].Sublist (D ++ (x :: (E ++ (F ++ [y])))) := (((List.sublist_append_right F [y]).trans (List.sublist_append_right E _)).trans (List.sublist_cons_self x _)).trans (List.sublist_append_right D _)
  have h1 : Own M W w (A ++ (C ++ [y])) := h.sublist (List.Sublist.append (List.Sublist.refl A) ((List.Sublist.append (List.Sublist.refl C) h0).trans (List.sublist_append_right B _)))
  exact h1.perm (by rw [← List.append_assoc, ← List.append_assoc]; exact List.Perm.append_right [y] List.perm_append_comm)
theorem own_ev2 (h : Own M W w (x :: (A ++ (B ++ (E ++ (F ++ [y])))))) : Own M W w (x :: y :: A) := by
  have h0 : [y].Sublist (B ++ (E ++ (F ++ [y]))) := ((List.sublist_append_right F [y]).trans (List.sublist_append_right E _)).trans (List.sublist_append_right B _)
  have h1 : Own M W w (x :: (A ++ [y])) := h.sublist (List.Sublist.cons_cons x (List.Sublist.append (List.Sublist.refl A) h0))
  exact h1.perm (List.Perm.cons x List.perm_append_comm)
theorem own_so1 (h : Own M W w (A ++ (x :: y :: z :: B))) : Own M W w (y :: z :: A) := by
  have h1 : Own M W w (A ++ [y, z]) := h.sublist (List.Sublist.append (List.Sublist.refl A) ((List.Sublist.cons_cons y (List.Sublist.cons_cons z (List.nil_sublist B))).trans (List.sublist_cons_self x _)))
  exact h1.perm List.perm_append_comm
theorem own_st1 (h : Own M W w ((x :: (A ++ [y, z])) ++ B ++ C)) : Own M W w (y :: z :: (B ++ (A ++ C))) := by
  have h1 : Own M W w (A ++ ([y, z] ++ (B ++ C))) := by
    have h2 : Own M W w ([x] ++ (A ++ ([y, z] ++ (B ++ C)))) := by simpa [List.append_assoc] using h
    exact h2.sublist (List.sublist_append_right [x] _)
  refine h1.perm ((List.perm_append_comm_assoc A [y, z] (B ++ C)).trans ?_)
  show ([y, z] ++ (A ++ (B ++ C))).Perm ([y, z] ++ (B ++ (A ++ C)))
  exact List.Perm.append_left _ (List.perm_append_comm_assoc A B C)
theorem own_st2 (h : Own M W w (A ++ (x :: y :: B))) : Own M W w (x :: A) := by
  have h1 : Own M W w (A ++ [x]) := h.sublist (List.Sublist.append (List.Sublist.refl A) (List.Sublist.cons_cons x (List.nil_sublist _)))
  exact h1.perm List.perm_append_comm
end
theorem gmake_al (A B : Option Addr) (c d : Nat) (a : List Co) (W : World) {n : Nat} (hv : Reads x6 W W.heap.size A (xW a)) (hu : Reads x6 W W.heap.size B (g9 (xW a) (xU a))) (h1 : RF (xW a) 4000) (h2 : RF (g9 (xW a) (xU a)) n) (ca : (xW a).length ≤ c) (cb : (g9 (xW a) (xU a)).length ≤ d) (hn : n ≤ 100000 := by decide) :
    Calls Tryz.prog 85 #[.slice A (xW a).length c, .slice B (g9 (xW a) (xU a)).length d] W fun e w' => ∃ v' ob', e = .returned (.tuple #[v', .bool true]) ∧ SetO v' (yV a) ob' ∧ Own [] W w' ob' :=
  (sMake_any A B c d _ _ W hv hu (Nat.le_trans h1.len (by decide)) (Nat.le_trans h2.len hn) h1.short h2.short ca cb).mono fun e w' ⟨v', ob', q1, q2, q3⟩ => by
    rw [h1.may, h2.may] at q1 q2
    exact ⟨v', ob', q1, q2, q3⟩
theorem gevery_any (A : Option Addr) (cap : Nat) (a : List Co) (W : World) (hv : Reads coC W W.heap.size A a) (hn : a.length ≤ 1000) (hsh : ShortA a) : Calls Tryz.prog 48 #[.slice A a.length cap] W fun e w' => ∃ v' ob', e = .returned v' ∧ SetO v' (yV a) ob' ∧ Own [] W w' ob' := by
  refine Z2 (n := 37) Tryz.func48 rfl (ZO (Za (.agg ZM) (fun b1 => ZR (Zr (k := 80) (args := #[]) (fun v' L' => ∃ ob', L' = ob' ++ ([⟨b1, ZM, 31⟩]) ∧ SetO v' allT ob') (fun w hO => (sAll_any w).mono fun e w' ⟨v', ob', k1, k2, k3⟩ => ⟨v', _, k1, ⟨ob', rfl, k2⟩, Own.joinN hO k3⟩) (fun v0 Lx1 hvx1 => ?_)))))
  obtain ⟨o0, rfl, h0⟩ := hvx1
  obtain ⟨_, _, p1, p2, rfl, rfl, hq1, hq2⟩ := h0
  obtain ⟨V0, c0, rfl⟩ := hq1.form
  obtain ⟨U0, d0, rfl⟩ := hq2.form
  refine jP (L' := p1 ++ ([⟨b1, ZM, 31⟩])) (fun w hO => own_tail hO) (Zv (.slice V0 allT.rel.length c0) (Zc (k := 47) (args := #[]) (.agg ZM) (fun w _ => v7 w) (Zv (.slice none 0 0) (Zv (.slice V0 allT.rel.length c0) (Zv (.slice none 0 0) (ZN (zB (ZO (Zv (.slice A a.length cap) ?_)))))))))
  refine Zv (.int .i64 (a.length : Int)) (Zv (.int .i64 0) (ZN (zP (gV (L' := p1 ++ ([] ++ [⟨b1, ZM, 31⟩])) (by simp) (x7 (fun L f m => ∃ (k : Nat) (V1 : Option Addr) (c1 : Nat) (o1 : List Blk) (V2 : Option Addr) (c2 : Nat) (o2 : List Blk) (j : Nat → Value), (k ≤ a.length ∧ SlS (.slice V1 (xW (a.take k)).length c1) (xW (a.take k)) o1 ∧ SlS (.slice V2 (xU (a.take k)).length c2) (xU (a.take k)) o2) ∧ L = o1 ++ (o2 ++ [⟨b1, ZM, 31⟩]) ∧ f = kL j [(0, .slice A a.length cap), (2, Zp b1 0), (3, .slice V1 (xW (a.take k)).length c1), (4, .slice V2 (xU (a.take k)).length c2), (13, .slice A a.length cap), (14, .int .i64 (a.length : Int)), (15, .int .i64 (k : Int))] ∧ m = a.length - k) (a.length - 0) ⟨0, _, _, _, none, 0, [], _, ⟨Nat.zero_le _, hq1, Sl.nil _ _⟩, rfl, ZU, rfl⟩ ?_)))))
  rintro L f m ⟨k, V1, c1, o1, V2, c2, o2, j, hrel, rfl, rfl, rfl⟩
  obtain ⟨hkl, gq1, gq2⟩ := hrel
  refine zB (zC ?_)
  by_cases h1 : (k : Int) < (a.length : Int)
  · have hk : k < a.length := by omega
    obtain ⟨bp, off, hA, hlt, hcell⟩ := hv (by omega)
    obtain ⟨c, hc⟩ : ∃ c, a[k] = c := ⟨_, rfl⟩
    have hcS : c.short := hsh c (hc ▸ List.getElem_mem hk)
    refine Zg h1 (ZN (zB (Zt (ZB (zB (zP (ZO (zX (Zp bp (off + k * 7)) (by kernel_rfl) (ZA (b := bp) (off := off) (c := cap) (n := a.length) (k := .i64) (j := (k : Int)) (e := 51) (sz := 7) hA) ?_))))))))
    refine Zo (coV c) (a := ⟨bp, off + k * 7, none⟩) (fun w hO => yF wD (fun j u h => (hO.below.cell (p := ⟨bp, off + j, none⟩) hlt).trans (hcell j u h)) k 0 hk (by omega) _ (by rw [hc]; kernel_rfl)) (Za (.agg Z1) (fun b2 => Zs 0 ⟨b2, Z1, 51⟩ (off := 0) (coV c) (ZR (Zv (.slice V1 ((xW (a.take k)).length) c1) (Zl 0 ⟨b2, (coV c).cells, 51⟩ (off := 0) (coV c) (Zr (k := 82) (args := #[coV c]) (fun v' L' => ∃ ob', L' = ob' ++ (⟨b2, (coV c).cells, 51⟩ :: (o1 ++ (o2 ++ ([⟨b1, ZM, 31⟩])))) ∧ SlS v' c.region ob') (fun w hO => (cRegion_any c w hcS).mono fun e w' ⟨v', ob', k1, k2, k3⟩ => ⟨v', _, k1, ⟨ob', rfl, k2⟩, Own.joinN hO k3⟩) (fun vr Lx2 hvx2 => ?_)))))))
    obtain ⟨oR, rfl, hR⟩ := hvx2
    obtain ⟨VR, cR, rfl⟩ := hR.form
    refine Zr (k := 81) (args := #[.slice V1 ((xW (a.take k)).length) c1, .slice VR c.region.length cR]) (fun v' L' => ∃ ob', L' = ob' ++ (oR ++ (⟨b2, (coV c).cells, 51⟩ :: (o1 ++ (o2 ++ ([⟨b1, ZM, 31⟩]))))) ∧ SlS v' (xW (a.take (k + 1))) ob') (fun w hO => (and4_any V1 VR c1 cR (xW (a.take k)) c.region w (Sl.reads gq1 rfl hO (fun x hx => by simp [hx])) (Sl.reads hR rfl hO (fun x hx => by simp [hx])) (Nat.le_trans (nD a k hn).len (by decide)) (Nat.le_trans (wI c).len (by decide)) (nD a k hn).short (wI c).short (bH gq1) (bH hR)).mono fun e w' ⟨v', ob', k1, k2, k3⟩ => ⟨v', _, k1, ⟨ob', rfl, by rw [if_pos (by rw [(nD a k hn).may, (wI c).may]; rfl), ← altRel_next hk hc] at k2; exact k2⟩, Own.joinN hO k3⟩) (fun va Lx3 hvx3 => ?_)
    obtain ⟨oA, rfl, hA2⟩ := hvx3
    obtain ⟨VA, cA, rfl⟩ := hA2.form
    refine Zv (.slice VA ((xW (a.take (k + 1))).length) cA) (ZN (zC (Zv (.slice V2 ((xU (a.take k)).length) c2) (jQ ⟨b2, (coV c).cells, 51⟩ (off := 0) (coV c) (by kernel_rfl) rfl (by simp) (by kernel_rfl) (by kernel_rfl) (Zr (k := 84) (args := #[coV c]) (fun v' L' => ∃ ob', L' = ob' ++ (oA ++ (oR ++ (⟨b2, (coV c).cells, 51⟩ :: (o1 ++ (o2 ++ ([⟨b1, ZM, 31⟩])))))) ∧ SlS v' c.zone ob') (fun w hO => (cZone_any c w hcS).mono fun e w' ⟨v', ob', k1, k2, k3⟩ => ⟨v', _, k1, ⟨ob', rfl, k2⟩, Own.joinN hO k3⟩) (fun vz Lx4 hvx4 => ?_))))))
    obtain ⟨oZ, rfl, hZ⟩ := hvx4
    obtain ⟨VZ, cZ, rfl⟩ := hZ.form
    refine Zr (k := 83) (args := #[.slice V2 ((xU (a.take k)).length) c2, .slice VZ c.zone.length cZ]) (fun v' L' => ∃ ob', L' = ob' ++ (oZ ++ (oA ++ (oR ++ (⟨b2, (coV c).cells, 51⟩ :: (o1 ++ (o2 ++ ([⟨b1, ZM, 31⟩]))))))) ∧ SlS v' (xU (a.take (k + 1))) ob') (fun w hO => (or4_any V2 VZ c2 cZ (xU (a.take k)) c.zone w (Sl.reads gq2 rfl hO (fun x hx => by simp [hx])) (Sl.reads hZ rfl hO (fun x hx => by simp [hx])) (Nat.le_trans (fP a k hn).len (by decide)) (Nat.le_trans (mM c).len (by decide)) (fP a k hn).short (mM c).short).mono fun e w' ⟨v', ob', k1, k2, k3⟩ => ⟨v', _, k1, ⟨ob', rfl, by rw [if_pos (by rw [(fP a k hn).may, (mM c).may]; rfl), ← altZone_next hk hc] at k2; exact k2⟩, Own.joinN hO k3⟩) (fun vo Lx5 hvx5 => ?_)
    obtain ⟨oO, rfl, hO2⟩ := hvx5
    obtain ⟨VO, cO, rfl⟩ := hO2.form
    exact Zv (.slice VO ((xU (a.take (k + 1))).length) cO) (zU (zV (zF (zC (Zu (k := .i64) (((k + 1 : Nat) : Int)) (IntWalk.i64_in _ (by omega)) (Zv (.int .i64 ((k + 1 : Nat) : Int)) (zU (y6 (fun w hO => own_ev1 hO) (zY (m' := a.length - (k + 1)) (by omega) ⟨k + 1, VA, cA, oA, VO, cO, oO, _, ⟨by omega, hA2, hO2⟩, rfl, ZU, rfl⟩)))))))))
  have htk : a.take k = a := List.take_of_length_le (by omega)
  have hRL := nD a k hn
  have hZL := fP a k hn
  have hAZ := hRL.and1 hZL
  refine Zh h1 (ZN (zB (Zf (yE (zH (zS (zM (zF (zB (zC ?_))))))))))
  refine Zv (.slice V1 ((xW (a.take k)).length) c1) (Zv (.slice V1 ((xW (a.take k)).length) c1) (Zv (.slice V2 ((xU (a.take k)).length) c2) (Zr (k := 81) (args := #[.slice V1 ((xW (a.take k)).length) c1, .slice V2 ((xU (a.take k)).length) c2]) (fun v' L' => ∃ ob', L' = ob' ++ (o1 ++ (o2 ++ ([⟨b1, ZM, 31⟩]))) ∧ SlS v' (g9 (xW (a.take k)) (xU (a.take k))) ob') (fun w hO => (and4_any V1 V2 c1 c2 (xW (a.take k)) (xU (a.take k)) w (Sl.reads gq1 rfl hO (fun x hx => by simp [hx])) (Sl.reads gq2 rfl hO (fun x hx => by simp [hx])) (Nat.le_trans hRL.len (by decide)) (Nat.le_trans hZL.len (by decide)) hRL.short hZL.short (bH gq1) (bH gq2)).mono fun e w' ⟨v', ob', k1, k2, k3⟩ => ⟨v', _, k1, ⟨ob', rfl, by rw [if_pos (by rw [hRL.may, hZL.may]; rfl)] at k2; exact k2⟩, Own.joinN hO k3⟩) (fun vb Lx6 hvx6 => ?_))))
  obtain ⟨oB, rfl, hB⟩ := hvx6
  obtain ⟨VB, cB, rfl⟩ := hB.form
  refine Zr (k := 85) (args := #[.slice V1 ((xW (a.take k)).length) c1, .slice VB ((g9 (xW (a.take k)) (xU (a.take k))).length) cB]) (fun v' L' => ∃ ob', L' = ob' ++ (oB ++ (o1 ++ (o2 ++ ([⟨b1, ZM, 31⟩])))) ∧ ∃ mv, v' = .tuple #[mv, .bool true] ∧ SetO mv (yV (a.take k)) ob') (fun w hO => (gmake_al V1 VB c1 cB (a.take k) w (Sl.reads gq1 rfl hO (fun x hx => by simp [hx])) (Sl.reads hB rfl hO (fun x hx => by simp [hx])) hRL hAZ (bH gq1) (bH hB)).mono fun e w' ⟨v', ob', k1, k2, k3⟩ => ⟨Value.tuple #[v', .bool true], _, k1, ⟨ob', rfl, ⟨v', rfl, k2⟩⟩, Own.joinN hO k3⟩) (fun tv Lx7 hvx7 => ?_)
  obtain ⟨oM, rfl, hM0⟩ := hvx7
  obtain ⟨mv, rfl, hM⟩ := hM0
  obtain ⟨VM, UM, cM, dM, rfl⟩ := hM.form
  refine Zv (.tuple #[.agg #[.slice VM ((yV (a.take k)).rel.length) cM, .slice UM ((yV (a.take k)).pre.length) dM], .bool true]) (Zv (.agg #[.slice VM ((yV (a.take k)).rel.length) cM, .slice UM ((yV (a.take k)).pre.length) dM]) (Zv Z4 (Za (.agg ZM) (fun b2 => Zs 0 ⟨b2, ZM, 31⟩ (off := 0) (.agg #[.slice VM ((yV (a.take k)).rel.length) cM, .slice UM ((yV (a.take k)).pre.length) dM]) (Zv Z4 (ZR (Zl 0 ⟨b2, #[.slice VM ((yV (a.take k)).rel.length) cM, .slice UM ((yV (a.take k)).pre.length) dM], 31⟩ (off := 0) (.agg #[.slice VM ((yV (a.take k)).rel.length) cM, .slice UM ((yV (a.take k)).pre.length) dM]) (jP (L' := ⟨b2, #[.slice VM ((yV (a.take k)).rel.length) cM, .slice UM ((yV (a.take k)).pre.length) dM], 31⟩ :: (⟨b1, ZM, 31⟩ :: (oM))) (fun w hO => own_ev2 hO) ?_))))))))
  exact Zs 1 ⟨b1, ZM, 31⟩ (off := 0) (.agg #[.slice VM ((yV (a.take k)).rel.length) cM, .slice UM ((yV (a.take k)).pre.length) dM]) (ZN (zG (ZC 1 ⟨b1, #[.slice VM ((yV (a.take k)).rel.length) cM, .slice UM ((yV (a.take k)).pre.length) dM], 31⟩ (off := 0) (.agg #[.slice VM ((yV (a.take k)).rel.length) cM, .slice UM ((yV (a.take k)).pre.length) dM]) Tryz.results48 (fun w hO => ⟨_, oM, rfl, by rw [htk] at hM ⊢; exact hM, Own.sub [_, _] hO⟩))))
theorem gsome_any (A : Option Addr) (cap : Nat) (xs : List Se) (r : List (List Co)) (W : World) (hv : SsIn W W.heap.size A xs) (hr : xs.map Se.s = r.map yV) (hf : fewR r = true) : Calls Tryz.prog 49 #[.slice A xs.length cap] W fun e w' => ∃ v' ob', e = .returned v' ∧ SetO v' (xH r) ob' ∧ Own [] W w' ob' := by
  have hn : xs.length = r.length := by have q := congrArg List.length hr; rwa [List.length_map, List.length_map] at q
  have hr6 := (fewR.facts hf).1
  have hfin := fin_alts hf
  refine Z2 (n := 18) Tryz.func49 rfl (ZO (Za (.agg ZM) (fun b1 => ZR (Zc (k := 47) (args := #[]) (.agg ZM) (fun w _ => v7 w) (Za (.agg ZM) (fun b2 => Zs 0 ⟨b2, ZM, 31⟩ (off := 0) (.agg ZM) (zU ?_)))))))
  refine zF (zB (ZO (Zv (.slice A xs.length cap) (Zv (.int .i64 (xs.length : Int)) (Zv (.int .i64 0) (ZN (zP (gV (L' := ⟨b2, ZM, 31⟩ :: ⟨b1, ZM, 31⟩ :: []) rfl (x7 (fun L f m => ∃ (k : Nat) (V : Option Addr) (U : Option Addr) (c : Nat) (d : Nat) (ob : List Blk) (j : Nat → Value), (k ≤ xs.length ∧ SetO (.agg #[.slice V (xH (r.take k)).rel.length c, .slice U (xH (r.take k)).pre.length d]) (xH (r.take k)) ob) ∧ L = ⟨b2, #[.slice V ((xH (r.take k)).rel.length) c, .slice U ((xH (r.take k)).pre.length) d], 31⟩ :: ⟨b1, ZM, 31⟩ :: ob ∧ f = kL j [(2, Zp b1 0), (3, Zp b2 0), (7, .slice A xs.length cap), (8, .int .i64 (xs.length : Int)), (9, .int .i64 (k : Int))] ∧ m = xs.length - k) (xs.length - 0) ⟨0, none, none, 0, 0, [], _, ⟨Nat.zero_le _, SetO.none⟩, rfl, ZU, rfl⟩ ?_)))))))))
  rintro L f m ⟨k, V, U, c, d, ob, j, hrel, rfl, rfl, rfl⟩
  obtain ⟨hkl, hac⟩ := hrel
  refine zB (zC ?_)
  by_cases h1 : (k : Int) < (xs.length : Int)
  · have hk : k < xs.length := by omega
    obtain ⟨bp, off, hA, hlt, hcell⟩ := hv.top (by omega)
    obtain ⟨x, hx⟩ : ∃ x, xs[k] = x := ⟨_, rfl⟩
    have hxm : x ∈ xs := hx ▸ List.getElem_mem hk
    have hxf : SF x.s 198 := hfin x.s (hr ▸ List.mem_map.2 ⟨x, hxm, rfl⟩)
    have hxr : yV (r[k]'(by omega)) = x.s := se_at hr hk (by omega) hx
    refine Zg h1 (ZN (zB (Zt (ZB (zB (zP (ZO (zX (Zp bp (off + k * 2)) (by kernel_rfl) (ZA (b := bp) (off := off) (c := cap) (n := xs.length) (k := .i64) (j := (k : Int)) (e := 31) (sz := 2) hA) ?_))))))))
    refine Zo (.agg #[.slice x.A x.s.rel.length x.c, .slice x.B x.s.pre.length x.d]) (a := ⟨bp, off + k * 2, none⟩) (fun w hO => yF seC_len (fun j u h => (hO.below.cell (p := ⟨bp, off + j, none⟩) hlt).trans (hcell j u h)) k 0 hk (by omega) _ (by rw [hx]; kernel_rfl)) (Za (.agg ZM) (fun b3 => Zs 0 ⟨b3, ZM, 31⟩ (off := 0) (.agg #[.slice x.A x.s.rel.length x.c, .slice x.B x.s.pre.length x.d]) (ZN (zC (Zl 1 ⟨b2, #[.slice V ((xH (r.take k)).rel.length) c, .slice U ((xH (r.take k)).pre.length) d], 31⟩ (off := 0) (.agg #[.slice V ((xH (r.take k)).rel.length) c, .slice U ((xH (r.take k)).pre.length) d]) (Zl 0 ⟨b3, #[.slice x.A x.s.rel.length x.c, .slice x.B x.s.pre.length x.d], 31⟩ (off := 0) (.agg #[.slice x.A x.s.rel.length x.c, .slice x.B x.s.pre.length x.d]) (Zr (k := 86) (args := #[.agg #[.slice V ((xH (r.take k)).rel.length) c, .slice U ((xH (r.take k)).pre.length) d], .agg #[.slice x.A x.s.rel.length x.c, .slice x.B x.s.pre.length x.d]]) (fun v' L' => ∃ ob', L' = ob' ++ (⟨b3, #[.slice x.A x.s.rel.length x.c, .slice x.B x.s.pre.length x.d], 31⟩ :: (⟨b2, #[.slice V ((xH (r.take k)).rel.length) c, .slice U ((xH (r.take k)).pre.length) d], 31⟩ :: (⟨b1, ZM, 31⟩ :: (ob)))) ∧ SetO v' (xH (r.take (k + 1))) ob') (fun w hO => (sOr_any V U x.A x.B c d x.c x.d (xH (r.take k)) x.s w (SetO.inn hac hO (fun x hx => by simp [hx]) (orAll_le hf k) (by decide)) ((hv.each x hxm).on hO.below hO.below.size) hac.caps (hv.caps x hxm)).mono fun e w' ⟨v', ob', k1, k2, k3⟩ => ⟨v', _, k1, ⟨ob', rfl, by rw [if_pos (by rw [(orAll_le hf k).may, hxf.may]; rfl), ← hxr, ← orAll_next (by omega) rfl] at k2; exact k2⟩, Own.joinN hO k3⟩) (fun vo Lx1 hvx1 => ?_))))))))
    obtain ⟨oO, rfl, hO2⟩ := hvx1
    obtain ⟨V2, U2, c2, d2, rfl⟩ := hO2.form
    exact jP (L' := ⟨b2, #[.slice V ((xH (r.take k)).rel.length) c, .slice U ((xH (r.take k)).pre.length) d], 31⟩ :: (⟨b1, ZM, 31⟩ :: (oO))) (fun w hO => own_so1 hO) (Zs 0 ⟨b2, #[.slice V ((xH (r.take k)).rel.length) c, .slice U ((xH (r.take k)).pre.length) d], 31⟩ (off := 0) (.agg #[.slice V2 ((xH (r.take (k + 1))).rel.length) c2, .slice U2 ((xH (r.take (k + 1))).pre.length) d2]) (zU (zV (zF (zC (Zu (k := .i64) (((k + 1 : Nat) : Int)) (IntWalk.i64_in _ (by omega)) (Zv (.int .i64 ((k + 1 : Nat) : Int)) (zU (zY (m' := xs.length - (k + 1)) (by omega) ⟨k + 1, V2, U2, c2, d2, oO, _, ⟨by omega, hO2⟩, rfl, ZU, rfl⟩)))))))))
  have htk : r.take k = r := List.take_of_length_le (by omega)
  refine Zh h1 (ZN (zB (Zf (yE (zH (zS (zM (zF (zB (zC ?_))))))))))
  exact Zl 0 ⟨b2, #[.slice V ((xH (r.take k)).rel.length) c, .slice U ((xH (r.take k)).pre.length) d], 31⟩ (off := 0) (.agg #[.slice V ((xH (r.take k)).rel.length) c, .slice U ((xH (r.take k)).pre.length) d]) (Zs 1 ⟨b1, ZM, 31⟩ (off := 0) (.agg #[.slice V ((xH (r.take k)).rel.length) c, .slice U ((xH (r.take k)).pre.length) d]) (ZN (zG (ZC 1 ⟨b1, #[.slice V ((xH (r.take k)).rel.length) c, .slice U ((xH (r.take k)).pre.length) d], 31⟩ (off := 0) (.agg #[.slice V ((xH (r.take k)).rel.length) c, .slice U ((xH (r.take k)).pre.length) d]) Tryz.results49 (fun w hO => ⟨_, ob, rfl, by rw [htk] at hac ⊢; exact hac, Own.sub [_, _] hO⟩)))))
theorem x4 (A : Option Addr) (cap : Nat) (xs : List Al) (W : World) (hv : RgIn W W.heap.size A xs) (ht : HasLib W) : Calls Tryz.prog 23 #[.agg #[.slice A xs.length cap]] W fun e w' => ∃ v' ob', e = .returned v' ∧ SetO v' (zA (yM xs)) ob' ∧ Own [] W w' ob' := by
  have hn := hv.n
  refine Z2 (n := 25) Tryz.func23 rfl (ZO (Zb (.agg #[.slice A xs.length cap]) (fun b1 => Za (.agg ZM) (fun b2 => ZN (zB (ZO (Zl 1 ⟨b1, #[.slice A xs.length cap], 25⟩ (off := 0) (.agg #[.slice A xs.length cap]) (Zc (k := 19) (args := #[.agg #[.slice A xs.length cap]]) (.bool (rgMay (yM xs))) (fun w hO => tV A cap xs w (hv.on hO.below hO.below.size) (ht.on hO.below)) ?_))))))))
  cases h1 : rgMay (yM xs) with
  | true =>
    have hfw : fewR (yM xs) = true := (rgMay.facts h1).1
    obtain ⟨hxs6, hxe⟩ := few_mem hfw
    refine Zv Z5 (ZX (ZB (ZO (Zv (.slice none 0 0) (ZN (zB ?_))))))
    refine ZO (Zv (Zp b1 0) (Zl 1 ⟨b1, #[.slice A xs.length cap], 25⟩ (off := 0) (.slice A xs.length cap) (Zv (.int .i64 (xs.length : Int)) (Zv (.int .i64 0) (ZN (zP (gV (L' := ⟨b2, ZM, 31⟩ :: ⟨b1, #[.slice A xs.length cap], 25⟩ :: ([] ++ [])) rfl (x7 (fun L f m => ∃ (i : Nat) (U : Option Addr) (nq : Nat) (cu : Nat) (ys : List Se) (oX : List Blk) (oY : List Blk) (j : Nat → Value), (nq = ys.length ∧ i ≤ xs.length ∧ SsO (.slice U nq cu) ys oX oY ∧ ys.map Se.s = (((yM xs).take i).map yV)) ∧ L = ⟨b2, ZM, 31⟩ :: ⟨b1, #[.slice A xs.length cap], 25⟩ :: (oX ++ oY) ∧ f = kL j [(1, Zp b1 0), (2, Zp b2 0), (3, .slice U nq cu), (11, .slice A xs.length cap), (12, .int .i64 (xs.length : Int)), (13, .int .i64 (i : Int))] ∧ m = xs.length - i) (xs.length - 0) ⟨0, none, 0, 0, [], [], [], _, ⟨rfl, Nat.zero_le _, SsO.nil, rfl⟩, rfl, ZU, rfl⟩ ?_))))))))
    rintro L f m ⟨i, U, nq, cu, ys, oX, oY, j, hrel, rfl, rfl, rfl⟩
    obtain ⟨hnq, hil, hss, hys⟩ := hrel; subst hnq
    refine zB (zC ?_)
    by_cases h2 : (i : Int) < (xs.length : Int)
    · have hi : i < xs.length := by omega
      obtain ⟨bp, off, hA, hlt, hcell⟩ := hv.top (by omega)
      obtain ⟨x, hx⟩ : ∃ x, xs[i] = x := ⟨_, rfl⟩
      have hxm : x ∈ xs := hx ▸ List.getElem_mem hi
      have hxr : (yM xs)[i]'(by rw [kE]; exact hi) = x.l := tI hi hx
      refine Zg h2 (ZN (zB (Zt (ZB (zB (zP (ZO (zX (Zp bp (off + i * 1)) (by kernel_rfl) (ZA (b := bp) (off := off) (c := cap) (n := xs.length) (k := .i64) (j := (i : Int)) (e := 47) (sz := 1) hA) ?_))))))))
      refine Zo (.slice x.A x.l.length x.cap) (a := ⟨bp, off + i * 1, none⟩) (fun w hO => yF kW (fun j u h => (hO.below.cell (p := ⟨bp, off + j, none⟩) hlt).trans (hcell j u h)) i 0 hi (by omega) _ (by rw [hx]; kernel_rfl)) (Zv (.slice x.A x.l.length x.cap) (ZN (zC (Zv (.slice U ys.length cu) (Zv (.slice x.A x.l.length x.cap) (Zr (k := 48) (args := #[.slice x.A x.l.length x.cap]) (fun v' L' => ∃ ob', L' = ob' ++ (⟨b2, ZM, 31⟩ :: (⟨b1, #[.slice A xs.length cap], 25⟩ :: (oX ++ (oY)))) ∧ SetO v' (yV x.l) ob') (fun w hO => (gevery_any x.A x.cap x.l w ((hv.each x hxm).on hO.below hO.below.size) (hv.m x hxm) (hv.short x hxm)).mono fun e w' ⟨v', ob', k1, k2, k3⟩ => ⟨v', _, k1, ⟨ob', rfl, k2⟩, Own.joinN hO k3⟩) (fun ve Lx1 hvx1 => ?_)))))))
      obtain ⟨oE, rfl, hE⟩ := hvx1
      obtain ⟨VE, UE, cE, dE, rfl⟩ := hE.form
      refine vG 31 #[.slice VE ((yV x.l).rel.length) cE, .slice UE ((yV x.l).pre.length) dE] (by kernel_rfl) rfl (fun _ => by kernel_rfl) (fun b3 => ?_)
      obtain ⟨i1, z1, e1, e2, e3, e4, e5⟩ := se_info
      have hyl : ys.length ≤ 6 := by have q := congrArg List.length hys; rw [List.length_map, List.length_map, List.length_take, kE] at q; omega
      refine kM (L' := (⟨b3, #[.slice VE ((yV x.l).rel.length) cE, .slice UE ((yV x.l).pre.length) dE], 31⟩ :: (oE ++ [⟨b2, ZM, 31⟩, ⟨b1, #[.slice A xs.length cap], 25⟩])) ++ oX ++ oY) (by simp <;> rfl) (gQ (sz := 2) (by kernel_rfl) rfl Tryz.underlying66 e1 e2 e3 e4 (by kernel_rfl) hss.top (a := ⟨b3, 0, none⟩) (m := 1) (c := 1) (news := seC ⟨VE, UE, yV x.l, cE, dE⟩) (by kernel_rfl) rfl (fun w hO j u hj => ?_) (se_cells _) (by unfold maxLen; omega) (by rw [e5]; omega) (fun u2 oX2 hu0 => ?_))
      · rw [y7, cell_of_row w b3 (0 + j) (seC ⟨VE, UE, yV x.l, cE, dE⟩).toArray 31 _ (hO.held ⟨b3, (seC ⟨VE, UE, yV x.l, cE, dE⟩).toArray, 31⟩ (List.mem_append_left _ (List.mem_append_left _ (List.mem_cons_self ..))))]; simpa using hj
      have hss2 := hss.add hu0 hE
      obtain ⟨U2, cu2, rfl⟩ := Sl.form hu0
      exact Zv (.slice U2 (ys.length + 1) cu2) (zU (zV (zF (zC (Zu (k := .i64) (((i + 1 : Nat) : Int)) (IntWalk.i64_in _ (by omega)) (Zv (.int .i64 ((i + 1 : Nat) : Int)) (zU (y6 (fun w hO => own_st1 hO) (zY (m' := xs.length - (i + 1)) (by omega) ⟨i + 1, U2, ys.length + 1, cu2, ys ++ [⟨VE, UE, yV x.l, cE, dE⟩], oX2, (oE ++ oY), _, ⟨by simp, by omega, hss2, by rw [List.take_succ_eq_append_getElem (by rw [kE]; exact hi), hxr, List.map_append, List.map_append, hys]; rfl⟩, rfl, ZU, rfl⟩)))))))))
    have htk : (yM xs).take i = yM xs := List.take_of_length_le (by rw [kE]; omega)
    rw [htk] at hys
    have hyf : ∀ y ∈ ys, SF y.s 198 := fun y hy => fin_alts hfw y.s (hys ▸ List.mem_map.2 ⟨y, hy, rfl⟩)
    refine Zh h2 (ZN (zB (Zf (yE (zH (zS (zM (zF (zB (zC ?_))))))))))
    refine Zv (.slice U ys.length cu) (Zr (k := 49) (args := #[.slice U ys.length cu]) (fun v' L' => ∃ ob', L' = ob' ++ (⟨b2, ZM, 31⟩ :: (⟨b1, #[.slice A xs.length cap], 25⟩ :: (oX ++ (oY)))) ∧ SetO v' (xH (yM xs)) ob') (fun w hO => (gsome_any U cu ys (yM xs) w (SsO.inn hss rfl hO (fun x hx => by simp [hx]) (fun x hx => by simp [hx]) hyf) hys hfw).mono fun e w' ⟨v', ob', k1, k2, k3⟩ => ⟨v', _, k1, ⟨ob', rfl, k2⟩, Own.joinN hO k3⟩) (fun vs Lx2 hvx2 => ?_))
    obtain ⟨oS, rfl, hS⟩ := hvx2
    obtain ⟨VS, US, cS, dS, rfl⟩ := hS.form
    exact jP (L' := ⟨b2, ZM, 31⟩ :: (oS)) (fun w hO => own_st2 hO) (Zs 0 ⟨b2, ZM, 31⟩ (off := 0) (.agg #[.slice VS ((xH (yM xs)).rel.length) cS, .slice US ((xH (yM xs)).pre.length) dS]) (ZN (zG (ZC 0 ⟨b2, #[.slice VS ((xH (yM xs)).rel.length) cS, .slice US ((xH (yM xs)).pre.length) dS], 31⟩ (off := 0) (.agg #[.slice VS ((xH (yM xs)).rel.length) cS, .slice US ((xH (yM xs)).pre.length) dS]) Tryz.results23 (fun w hO => ⟨_, oS, rfl, by unfold zA; rw [if_pos h1]; exact hS, Own.sub [_] hO⟩)))))
  | false =>
    refine Zv Z4 (ZY (ZO (Zc (k := 47) (args := #[]) (.agg ZM) (fun w _ => v7 w) (Zs 0 ⟨b2, ZM, 31⟩ (off := 0) (.agg ZM) (ZN (zG (zD ?_)))))))
    exact ZC 0 ⟨b2, ZM, 31⟩ (off := 0) (.agg ZM) Tryz.results23 (fun w hO => ⟨_, [], rfl, by unfold zA; rw [if_neg (by simp [h1])]; exact SetO.none, vH hO⟩)
end
section
theorem fewR_text {r : List (List Co)} (h : r ≠ []) {t : List UInt8} (ht : bD r = t) : (t = [] → fewR r = false) ∧ (¬ t = [] → fewR r = true ∧ kP r = t) := by
  refine ⟨fun q => textR_nil.1 (ht.trans q), fun q => ?_⟩
  cases hf : fewR r with
  | false => exact absurd (ht.symm.trans (textR_nil.2 hf)) q
  | true => refine ⟨rfl, ?_⟩; unfold bD at ht; rw [hf] at ht; exact ht
theorem all_ne {s : List UInt8} {r : List (List Co)} (h : qX s = some r) : r ≠ [] := fun e => by
  have h2 := dZ h
  rw [e] at h2
  exact altsL_ne s [] (List.eq_nil_of_length_eq_zero h2.symm)
theorem pS (s : List UInt8) (W : World) (hs : s.length ≤ 1000000) (ht : HasLib W) : Calls Tryz.prog 12 #[.string (mkS s)] W fun e w' => ∃ v' ob', e = .returned (.tuple #[v', .int .i64 (jN s)]) ∧ RgO v' ((kG s).getD []) ob' ∧ Own [] W w' ob' := by
  have hsz := xV s
  refine Z2 (n := 62) Tryz.func12 rfl (ZO (Za (.agg #[.slice none 0 0]) (fun b1 => Zv (.int .i64 0) (ZN (zB (ZO (Zv (.string (mkS s)) (Zv (.int .i64 ((mkS s).size)) ?_))))))))
  by_cases h1 : (96 : Int) < (mkS s).size
  · refine Zg h1 (ZY (ZO (Zv (.agg #[.slice none 0 0]) (Zs 0 ⟨b1, #[.slice none 0 0], 25⟩ (off := 0) (.agg #[.slice none 0 0]) (Zv (.int .i64 3) (ZN (zG ?_)))))))
    exact zD (ZD 0 ⟨b1, #[.slice none 0 0], 25⟩ (off := 0) (.agg #[.slice none 0 0]) (.int .i64 3) Tryz.results12 (fun w hO => ⟨.agg #[.slice none 0 0], [], by rw [(errG_long (s := s) (by omega)).1], by rw [(errG_long (s := s) (by omega)).2]; exact RgO.nil, vH hO⟩))
  have hs6 : s.length ≤ 96 := by omega
  refine Zh h1 (ZX (ZB (ZO (Za (.agg #[.slice none 0 0]) (fun b2 => ZN (zB ?_))))))
  refine ZO (Zv (.string (mkS s)) (Zr (k := 36) (args := #[.string (mkS s), .string ⟨#[124, 124]⟩]) (fun v' L' => ∃ ob', L' = ob' ++ ([⟨b2, #[.slice none 0 0], 25⟩, ⟨b1, #[.slice none 0 0], 25⟩]) ∧ SlT v' (gO [] s) ob') (fun w hO => (split_bars s w hs (ht.on hO.below)).mono fun e w' ⟨v', ob', k1, k2, k3⟩ => ⟨v', _, k1, ⟨ob', rfl, k2⟩, Own.joinN hO k3⟩) (fun lv L2 hv2 => ?_)))
  obtain ⟨ol, rfl, hol⟩ := hv2
  obtain ⟨l, hll⟩ : ∃ l, l = gO [] s := ⟨_, rfl⟩
  rw [← hll] at hol
  have hln : l.length ≤ 97 := by rw [hll]; have := t7 s []; omega
  have hlm : ∀ x ∈ l, x.length ≤ 96 := fun x hx => by have := altsL_le s [] x (hll ▸ hx); simp at this; omega
  obtain ⟨g, cur, lcap, rfl, rfl, hcur⟩ := SlT.blk hol (by rw [hll]; exact altsL_ne s [])
  refine Zv (.int .i64 (l.length : Int)) (Zv (.int .i64 0) (ZN (zP (gV (L' := ⟨g, cur, 9⟩ :: ⟨b2, #[.slice none 0 0], 25⟩ :: ⟨b1, #[.slice none 0 0], 25⟩ :: ([] ++ [])) rfl (x7 (fun L f m => ∃ (i : Nat) (A : Option Addr) (cap : Nat) (xs : List Al) (o1 : List Blk) (o2 : List Blk) (j : Nat → Value), (i ≤ l.length ∧ RgA (.slice A xs.length cap) xs o1 o2 ∧ wG parseA (l.take i) = some (yM xs)) ∧ L = ⟨g, cur, 9⟩ :: ⟨b2, #[.slice A xs.length cap], 25⟩ :: ⟨b1, #[.slice none 0 0], 25⟩ :: (o1 ++ o2) ∧ f = kL j [(2, Zp b1 0), (4, Zp b2 0), (18, .slice (some ⟨g, 0, none⟩) l.length lcap), (19, .int .i64 (l.length : Int)), (20, .int .i64 (i : Int))] ∧ m = l.length - i) (l.length - 0) ⟨0, none, 0, [], [], [], _, ⟨Nat.zero_le _, RgA.nil, rfl⟩, rfl, ZU, rfl⟩ ?_)))))
  rintro L f m ⟨i, A, cap, xs, o1, o2, j, hrel, rfl, rfl, rfl⟩
  have hrel0 := hrel; have hra := hrel.2.1; have hil := hrel.1
  refine zB (zC ?_)
  by_cases h2 : (i : Int) < (l.length : Int)
  · have hi : i < l.length := by omega
    obtain ⟨y, hy⟩ : ∃ y, l[i] = y := ⟨_, rfl⟩
    have hyl : y.length ≤ 96 := hlm y (hy ▸ List.getElem_mem hi)
    refine Zg h2 (ZN (zB (Zt (ZB (zB (zP (ZO (zX (Zp g (i * 1)) (by kernel_rfl) (ZV (b := g) (off := 0) (n := l.length) (c := lcap) (k := .i64) (j := (i : Int)) (e := 9) (sz := 1)) ?_))))))))
    refine jR 0 ⟨g, cur, 9⟩ (off := i * 1) (.string (mkS y)) (by kernel_rfl) rfl (by kernel_rfl) (by kernel_rfl) (xX d5 hcur i 0 (by omega) (by omega) _ (by rw [hy]; kernel_rfl)) (Zv (.string (mkS y)) (ZR (Zv (.slice none 0 0) (ZN (zB (zB (zC ?_)))))))
    refine Zv (.string (mkS y)) (Zr (k := 36) (args := #[.string (mkS y), .string ⟨#[44]⟩]) (fun v' L' => ∃ ob', L' = ob' ++ (⟨g, cur, 9⟩ :: (⟨b2, #[.slice A xs.length cap], 25⟩ :: (⟨b1, #[.slice none 0 0], 25⟩ :: ((o1 ++ o2))))) ∧ SlT v' (yZ 44 [] y) ob') (fun w hO => (split_comma y w (by omega) (ht.on hO.below)).mono fun e w' ⟨v', ob', k1, k2, k3⟩ => ⟨v', _, k1, ⟨ob', rfl, k2⟩, Own.joinN hO k3⟩) (fun mv L2 hv2 => ?_))
    obtain ⟨om, rfl, hom⟩ := hv2
    obtain ⟨m', hml⟩ : ∃ m', m' = yZ 44 [] y := ⟨_, rfl⟩
    rw [← hml] at hom
    have hmn : m'.length ≤ 97 := by rw [hml]; exact (pieces_len hyl).1
    have hmm : ∀ x ∈ m', x.length ≤ 96 := fun x hx => (pieces_len hyl).2 x (hml ▸ hx)
    obtain ⟨g2, cur2, mcap, rfl, rfl, hcur2⟩ := SlT.blk hom (by rw [hml]; exact d6 44 y [])
    refine Zv (.int .i64 (m'.length : Int)) (Zv (.int .i64 0) (ZN (zP (gV (L' := ⟨g2, cur2, 9⟩ :: ⟨g, cur, 9⟩ :: ⟨b2, #[.slice A xs.length cap], 25⟩ :: ⟨b1, #[.slice none 0 0], 25⟩ :: ([] ++ (o1 ++ o2))) rfl (x7 (fun L f m => ∃ (k : Nat) (B : Option Addr) (cb : Nat) (a : List Co) (oa : List Blk) (j : Nat → Value), (k ≤ m'.length ∧ SlCo (.slice B a.length cb) a oa ∧ wG parseP (m'.take k) = some a) ∧ L = ⟨g2, cur2, 9⟩ :: ⟨g, cur, 9⟩ :: ⟨b2, #[.slice A xs.length cap], 25⟩ :: ⟨b1, #[.slice none 0 0], 25⟩ :: (oa ++ (o1 ++ o2)) ∧ f = kL j [(2, Zp b1 0), (4, Zp b2 0), (18, .slice (some ⟨g, 0, none⟩) l.length lcap), (19, .int .i64 (l.length : Int)), (20, .int .i64 (i : Int)), (7, .slice B a.length cb), (25, .slice (some ⟨g2, 0, none⟩) m'.length mcap), (26, .int .i64 (m'.length : Int)), (27, .int .i64 (k : Int))] ∧ m = m'.length - k) (m'.length - 0) ⟨0, none, 0, [], [], _, ⟨Nat.zero_le _, Sl.nil _ _, rfl⟩, rfl, ZU, rfl⟩ ?_)))))
    rintro L f m ⟨k, B, cb, a, oa, j, hrel, rfl, rfl, rfl⟩
    have hkl := hrel.1
    refine zB (zC ?_)
    by_cases h3 : (k : Int) < (m'.length : Int)
    · have hk : k < m'.length := by omega
      obtain ⟨z, hz⟩ : ∃ z, m'[k] = z := ⟨_, rfl⟩
      have hzl : z.length ≤ 96 := hmm z (hz ▸ List.getElem_mem hk)
      have hbz := bareL_len z
      refine Zg h3 (ZN (zB (Zt (ZB (zB (zP (ZO (zX (Zp g2 (k * 1)) (by kernel_rfl) (ZV (b := g2) (off := 0) (n := m'.length) (c := mcap) (k := .i64) (j := (k : Int)) (e := 9) (sz := 1)) ?_))))))))
      refine jR 0 ⟨g2, cur2, 9⟩ (off := k * 1) (.string (mkS z)) (by kernel_rfl) rfl (by kernel_rfl) (by kernel_rfl) (xX d5 hcur2 k 0 (by omega) (by omega) _ (by rw [hz]; kernel_rfl)) (Zv (.string (mkS z)) (ZR (Zv (.string (mkS z)) (Zc (k := 38) (args := #[.string (mkS z), .string ⟨#[32]⟩]) (.string (mkS (kI z))) (fun w _ => trim_any z w (by omega)) (Zc (k := 37) (args := #[.string (mkS (kI z))]) (.tuple #[coV (pcV (kI z)), .int .i64 (pcE (kI z))]) (fun w hO => cParse_any (kI z) w (by omega) (ht.tab.on hO.below)) (Zv (.tuple #[coV (pcV (kI z)), .int .i64 (pcE (kI z))]) (Zv (coV (pcV (kI z))) (Zv (.int .i64 (pcE (kI z))) ?_))))))))
      refine Za (.agg Z1) (fun b3 => Zs 0 ⟨b3, Z1, 51⟩ (off := 0) (coV (pcV (kI z))) (Zv (.int .i64 (pcE (kI z))) (ZN (zB (ZO (Zv (.int .i64 (pcE (kI z))) ?_))))))
      by_cases h4 : ((pcE (kI z)) : Int) = 0
      · refine Zn (p := ((pcE (kI z)) : Int) = 0) true (decide_eq_true (h4)) (ZX (ZB (zC (Zv (.slice B a.length cb) (Zl 0 ⟨b3, (coV (pcV (kI z))).cells, 51⟩ (off := 0) (coV (pcV (kI z))) (vG 51 #[.int .i64 ((pcV (kI z)).op), .int .i64 ((pcV (kI z)).parts), .int .i64 ((pcV (kI z)).v.maj), .int .i64 ((pcV (kI z)).v.min), .int .i64 ((pcV (kI z)).v.pat), .string (mkS (pcV (kI z)).v.pre), .string (mkS (pcV (kI z)).v.build)] (by kernel_rfl) rfl (fun _ => by kernel_rfl) (fun b4 => ?_)))))))
        obtain ⟨i0, z0, e1, e2, e3, e4, e5⟩ := n8
        have hal : a.length ≤ 97 := by have q := dZ hrel.2.2; rw [List.length_take] at q; omega
        refine kM (L' := [⟨b4, #[.int .i64 ((pcV (kI z)).op), .int .i64 ((pcV (kI z)).parts), .int .i64 ((pcV (kI z)).v.maj), .int .i64 ((pcV (kI z)).v.min), .int .i64 ((pcV (kI z)).v.pat), .string (mkS (pcV (kI z)).v.pre), .string (mkS (pcV (kI z)).v.build)], 51⟩, ⟨b3, (coV (pcV (kI z))).cells, 51⟩, ⟨g2, cur2, 9⟩, ⟨g, cur, 9⟩, ⟨b2, #[.slice A xs.length cap], 25⟩, ⟨b1, #[.slice none 0 0], 25⟩] ++ oa ++ (o1 ++ o2)) (by rw [List.append_assoc]; kernel_rfl) (gQ (sz := 7) (by kernel_rfl) rfl Tryz.underlying47 e1 e2 e3 e4 (by kernel_rfl) hrel.2.1 (a := ⟨b4, 0, none⟩) (m := 1) (c := 1) (news := coC (pcV (kI z))) (by kernel_rfl) rfl (fun w hO j u hj => ?_) (dV _) (by unfold maxLen; omega) (by rw [e5]; omega) (fun u2 ob2 hu2 => ?_))
        · rw [y7, cell_of_row w b4 (0 + j) (coC (pcV (kI z))).toArray 51 _ (hO.held ⟨b4, (coC (pcV (kI z))).toArray, 51⟩ (List.mem_append_left _ (List.mem_append_left _ (List.mem_cons_self ..))))]; simpa using hj
        have hu3 : SlCo u2 (a ++ [(pcV (kI z))]) ob2 := hu2.to (by simp) (by simp)
        obtain ⟨B2, cb2, rfl⟩ := Sl.form hu3
        exact jP (L' := ⟨g2, cur2, 9⟩ :: (⟨g, cur, 9⟩ :: (⟨b2, #[.slice A xs.length cap], 25⟩ :: (⟨b1, #[.slice none 0 0], 25⟩ :: (ob2 ++ ((o1 ++ o2))))))) (fun w hO => own_two (by simpa using hO)) (Zv (.slice B2 ((a ++ [(pcV (kI z))]).length) cb2) (zU (zV (zF (zC (Zu (k := .i64) (((k + 1 : Nat) : Int)) (IntWalk.i64_in _ (by omega)) (Zv (.int .i64 ((k + 1 : Nat) : Int)) (zU (zY (m' := m'.length - (k + 1)) (by omega) ⟨k + 1, B2, cb2, _, ob2, _, ⟨by omega, hu3, allO_next hk hz hrel.2.2 (pc_ok (by assumption))⟩, rfl, ZU, rfl⟩)))))))))
      refine Zn (p := ((pcE (kI z)) : Int) = 0) false (decide_eq_false (h4)) (ZY (ZO (Zv (.agg #[.slice none 0 0]) (Zs 4 ⟨b1, #[.slice none 0 0], 25⟩ (off := 0) (.agg #[.slice none 0 0]) (Zv (.int .i64 6) (ZN (zG ?_)))))))
      refine zD (zJ (zD (yK (zJ (zD (zJ (zD (yK (zJ (zD (ZD 4 ⟨b1, #[.slice none 0 0], 25⟩ (off := 0) (.agg #[.slice none 0 0]) (.int .i64 6) Tryz.results12 ?_)))))))))))
      exact fun w hO => ⟨.agg #[.slice none 0 0], [], by rw [(errG_none hs6 (all_fails hll hi hy hml hk hz (by assumption))).1], by rw [(errG_none hs6 (all_fails hll hi hy hml hk hz (by assumption))).2]; exact RgO.nil, vH hO⟩
    refine Zh h3 (ZN (zB (Zf (yE (zH (zS (zM (zF (zC (Zv (Zp b2 0) ?_))))))))))
    refine Zl 2 ⟨b2, #[.slice A xs.length cap], 25⟩ (off := 0) (.slice A xs.length cap) (Zv (.slice B a.length cb) (vG 47 #[.slice B a.length cb] (by kernel_rfl) rfl (fun _ => by kernel_rfl) (fun b3 => ?_)))
    obtain ⟨i0, z0, e1, e2, e3, e4, e5⟩ := kD
    have hal : xs.length ≤ 97 := by have q := dZ hrel0.2.2; rw [List.length_take, kE] at q; omega
    refine kM (L' := ([⟨b3, #[.slice B a.length cb], 47⟩, ⟨g2, cur2, 9⟩, ⟨g, cur, 9⟩, ⟨b2, #[.slice A xs.length cap], 25⟩, ⟨b1, #[.slice none 0 0], 25⟩] ++ oa) ++ o1 ++ o2) (by rw [List.append_assoc, List.append_assoc]; kernel_rfl) (gQ (sz := 1) (by kernel_rfl) rfl Tryz.underlying23 e1 e2 e3 e4 (by kernel_rfl) hra.top (a := ⟨b3, 0, none⟩) (m := 1) (c := 1) (news := alC (Al.mk B a cb)) (by kernel_rfl) rfl (fun w hO j u hj => ?_) (xO _) (by unfold maxLen; omega) (by rw [e5]; omega) (fun u2 ob2 hu2 => ?_))
    · rw [y7, cell_of_row w b3 (0 + j) (alC (Al.mk B a cb)).toArray 47 _ (hO.held ⟨b3, (alC (Al.mk B a cb)).toArray, 47⟩ (by simp [alC]))]; simpa using hj
    have hra2 := hra.add hu2 hrel.2.1
    obtain ⟨A2, cap2, rfl⟩ := Sl.form hra2.top
    exact jP (L' := ⟨g, cur, 9⟩ :: (⟨b2, #[.slice A xs.length cap], 25⟩ :: (⟨b1, #[.slice none 0 0], 25⟩ :: ((ob2 ++ (oa ++ o2)))))) (fun w hO => own_turn hO) (Zv (Zp b2 0) (Zs 1 ⟨b2, #[.slice A xs.length cap], 25⟩ (off := 0) (.slice A2 ((xs ++ [(Al.mk B a cb)]).length) cap2) (zU (zV (zF (zC (Zu (k := .i64) (((i + 1 : Nat) : Int)) (IntWalk.i64_in _ (by omega)) (Zv (.int .i64 ((i + 1 : Nat) : Int)) (zU (zY (m' := l.length - (i + 1)) (by omega) ⟨i + 1, A2, cap2, _, ob2, (oa ++ o2), _, ⟨by omega, hra2, by rw [show yM (xs ++ [Al.mk B a cb]) = yM xs ++ [a] from by simp [yM]]; exact allO_next hi hy hrel0.2.2 (by have q := hrel.2.2; rw [List.take_of_length_le (by omega), hml] at q; exact q)⟩, rfl, ZU, rfl⟩))))))))))
  have hall : qX s = some (yM xs) := by have q := hrel0.2.2; rw [List.take_of_length_le (by omega), hll] at q; exact q
  have hfine : nT (yM xs) := fine_part hs6 (fun x hx => hll ▸ hx) hln (by rw [hll]; exact hall)
  obtain ⟨t, et⟩ : ∃ t, bD (yM xs) = t := ⟨_, rfl⟩
  obtain ⟨htn, hty⟩ := fewR_text (all_ne hall) et
  have htz := xV t
  refine Zh h2 (ZN (zB (Zf (yE (zH (zS (zM (zF (zB (zC ?_))))))))))
  refine Zl 1 ⟨b2, #[.slice A xs.length cap], 25⟩ (off := 0) (.agg #[.slice A xs.length cap]) (Zc (k := 39) (args := #[.agg #[.slice A xs.length cap]]) (.string (mkS t)) (fun w hO => bJ (by rw [et]) (gtext_any A cap xs w (hra.inn rfl hO (fun x hx => by simp [hx]) (fun x hx => by simp [hx]) hfine) (ht.on hO.below))) (Zv (.string (mkS t)) (ZN (zB (ZO (Zv (.string (mkS t)) ?_))))))
  by_cases h5 : (t : List UInt8) = []
  · refine zX Z4 (by kernel_rfl) (xB (a := t) (b := ([])) rfl (by kernel_rfl) (by kernel_rfl) (decide_eq_true (h5))) (ZY (ZO (Zv (.agg #[.slice none 0 0]) (Zs 2 ⟨b1, #[.slice none 0 0], 25⟩ (off := 0) (.agg #[.slice none 0 0]) (Zv (.int .i64 6) (ZN (zG ?_)))))))
    exact zD (ZD 2 ⟨b1, #[.slice none 0 0], 25⟩ (off := 0) (.agg #[.slice none 0 0]) (.int .i64 6) Tryz.results12 (fun w hO => ⟨.agg #[.slice none 0 0], [], by rw [(errG_few hs6 hall (htn (by assumption))).1], by rw [(errG_few hs6 hall (htn (by assumption))).2]; exact RgO.nil, vH hO⟩))
  obtain ⟨hfw, htx⟩ := hty h5
  refine zX Z5 (by kernel_rfl) (xB (a := t) (b := ([])) rfl (by kernel_rfl) (by kernel_rfl) (decide_eq_false (h5))) (ZX (ZB (zB (ZO (Zv (.string (mkS t)) (Zv (.int .i64 ((mkS t).size)) ?_))))))
  by_cases h6 : (96 : Int) < (mkS t).size
  · refine Zg h6 (ZY (ZO (Zv (.agg #[.slice none 0 0]) (Zs 2 ⟨b1, #[.slice none 0 0], 25⟩ (off := 0) (.agg #[.slice none 0 0]) (Zv (.int .i64 3) (ZN (zG ?_)))))))
    exact zD (ZD 2 ⟨b1, #[.slice none 0 0], 25⟩ (off := 0) (.agg #[.slice none 0 0]) (.int .i64 3) Tryz.results12 (fun w hO => ⟨.agg #[.slice none 0 0], [], by rw [(errG_big hs6 hall hfw (by rw [htx]; omega)).1], by rw [(errG_big hs6 hall hfw (by rw [htx]; omega)).2]; exact RgO.nil, vH hO⟩))
  refine Zh h6 (ZX (ZB (ZO (Zl 1 ⟨b2, #[.slice A xs.length cap], 25⟩ (off := 0) (.agg #[.slice A xs.length cap]) (Zs 2 ⟨b1, #[.slice none 0 0], 25⟩ (off := 0) (.agg #[.slice A xs.length cap]) (Zv (.int .i64 0) (zU ?_)))))))
  exact zF (zG (ZD 2 ⟨b1, #[.slice A xs.length cap], 25⟩ (off := 0) (.agg #[.slice A xs.length cap]) (.int .i64 0) Tryz.results12 (fun w hO => ⟨.agg #[.slice A xs.length cap], o1 ++ o2, by rw [(errG_fine hs6 hall hfw (by rw [htx]; omega)).1], by rw [(errG_fine hs6 hall hfw (by rw [htx]; omega)).2]; exact ⟨xs, _, o1, o2, rfl, rfl, rfl, hra⟩, Own.sub [_, _, _] hO⟩)))
theorem fine_allP (s : List UInt8) : nT ((kG s).getD []) := by
  cases h : kG s with
  | none => exact ⟨Nat.zero_le _, fun a ha => by simp at ha⟩
  | some r =>
    have := fine_get (mE h).1
    rwa [h] at this
theorem own_of {M : List Nat} {W w : World} {x y : Blk} {A B : List Blk} (h : Own M W w (A ++ (x :: (B ++ [y])))) : Own M W w (y :: A) := by
  have h1 : Own M W w (A ++ [y]) := h.sublist (List.Sublist.append (List.Sublist.refl A) ((List.sublist_append_right B [y]).trans (List.sublist_cons_self x _)))
  exact h1.perm List.perm_append_comm
theorem gOf_any (s : List UInt8) (W : World) (hs : s.length ≤ 1000000) (ht : HasLib W) : Calls Tryz.prog 14 #[.string (mkS s)] W fun e w' => ∃ v' ob', e = .returned (.tuple #[v', .int .i64 (jN s)]) ∧ SetO v' (zA ((kG s).getD [])) ob' ∧ Own [] W w' ob' := by
  refine Z2 (n := 14) Tryz.func14 rfl (ZO (Za (.agg ZM) (fun b1 => Zv (.int .i64 0) (ZR (Zv (.string (mkS s)) (Zr (k := 12) (args := #[.string (mkS s)]) (fun v' L' => ∃ ob', L' = ob' ++ ([⟨b1, ZM, 31⟩]) ∧ ∃ rv, v' = .tuple #[rv, .int .i64 (jN s)] ∧ RgO rv ((kG s).getD []) ob') (fun w hO => (pS s w hs (ht.on hO.below)).mono fun e w' ⟨v', ob', k1, k2, k3⟩ => ⟨Value.tuple #[v', .int .i64 (jN s)], _, k1, ⟨ob', rfl, ⟨v', rfl, k2⟩⟩, Own.joinN hO k3⟩) (fun vp Lx1 hvx1 => ?_)))))))
  obtain ⟨op, rfl, hp0⟩ := hvx1
  obtain ⟨rv, rfl, hp⟩ := hp0
  obtain ⟨xs, u, o1, o2, rfl, rfl, hxs, hra⟩ := hp
  obtain ⟨A, cap, rfl⟩ := Sl.form hra.top
  refine Zv (.tuple #[.agg #[.slice A xs.length cap], .int .i64 (jN s)]) (Zv (.agg #[.slice A xs.length cap]) (Zv (.int .i64 (jN s)) (Za (.agg #[.slice none 0 0]) (fun b2 => Zs 0 ⟨b2, #[.slice none 0 0], 25⟩ (off := 0) (.agg #[.slice A xs.length cap]) (Zv (.int .i64 (jN s)) (ZR (Zl 0 ⟨b2, #[.slice A xs.length cap], 25⟩ (off := 0) (.agg #[.slice A xs.length cap]) (Zr (k := 23) (args := #[.agg #[.slice A xs.length cap]]) (fun v' L' => ∃ ob', L' = ob' ++ (⟨b2, #[.slice A xs.length cap], 25⟩ :: ((o1 ++ o2) ++ ([⟨b1, ZM, 31⟩]))) ∧ SetO v' (zA (yM xs)) ob') (fun w hO => (x4 A cap xs w (hra.inn rfl hO (fun x hx => by simp [hx]) (fun x hx => by simp [hx]) (by rw [hxs]; exact fine_allP s)) (ht.on hO.below)).mono fun e w' ⟨v', ob', k1, k2, k3⟩ => ⟨v', _, k1, ⟨ob', rfl, k2⟩, Own.joinN hO k3⟩) (fun vs Lx2 hvx2 => ?_)))))))))
  obtain ⟨oS, rfl, hS⟩ := hvx2
  obtain ⟨VS, US, cS, dS, rfl⟩ := hS.form
  exact Zv (.int .i64 (jN s)) (jP (L' := ⟨b1, ZM, 31⟩ :: (oS)) (fun w hO => own_of hO) (Zs 0 ⟨b1, ZM, 31⟩ (off := 0) (.agg #[.slice VS ((zA (yM xs)).rel.length) cS, .slice US ((zA (yM xs)).pre.length) dS]) (Zv (.int .i64 (jN s)) (ZN (zG (ZD 0 ⟨b1, #[.slice VS ((zA (yM xs)).rel.length) cS, .slice US ((zA (yM xs)).pre.length) dS], 31⟩ (off := 0) (.agg #[.slice VS ((zA (yM xs)).rel.length) cS, .slice US ((zA (yM xs)).pre.length) dS]) (.int .i64 (jN s)) Tryz.results14 (fun w hO => ⟨_, oS, rfl, by rw [← hxs]; exact hS, Own.sub [_] hO⟩)))))))
end
section
open Go.ChangeShapes Go.WideShapes Go.ChangeAt Go.RowKit
theorem own : ownKnob Tryz.prog.godebug = none := by kernel_rfl
theorem nL {H : Type} {enc : TypeId × Value → H} {P : Program} (hl : laidOutB P = true) {W W' : World} (hb : Below W.heap.size W W') :
    ∀ (ts : List TypeId), (∀ t ∈ ts, P.readableRec t = true ∧ t < P.types.size) → ∀ (vs : List Value) (ds : List (DataW H)) (ps : List MemPlace), DataW.TrodAll enc P W 0 (fun _ => true) true ts vs ds ps → (∀ p ∈ ps, p.block < W.heap.size) →
      DataW.TrodAll enc P W' 0 (fun b => decide (b < W.heap.size)) true ts vs ds ps
  | [], _, vs, ds, ps, h, _ => by
    obtain ⟨rfl, rfl, rfl⟩ := trodAll_nil h
    exact trodAll_mk0
  | t :: ts, hr, vs, ds, ps, h, hlt => by
    obtain ⟨v, vs', d, ds', p, q, rfl, rfl, rfl, hd, hrest⟩ := trodAll_cons h
    exact ⟨p, q, Go.RowKit.Below.trod hl (hr t (by simp)).1 (hr t (by simp)).2 hd hb.old (fun x hx => hlt x (by simp [hx])), nL hl hb ts (fun t' ht' => hr t' (by simp [ht'])) vs' ds' q hrest (fun x hx => hlt x (by simp [hx])), rfl⟩
theorem law_end {H : Type} {enc : TypeId × Value → H} {P : Program} {f : Func} {s : ChangeSpec} {W W' : World} {args : Array Value} {ds gs : List (DataW H)} {before : List MemPlace} {T : TypeId}
    (hl : laidOutB P = true) (hr : ∀ t ∈ f.params.toList, P.readableRec t = true ∧ t < P.types.size) (hv : s.vars = []) (hT : f.resultTypes = #[T]) (hB : P.underlying T = some .bool)
    (hW : DataW.Whole enc P f.params.toList s.vars false W args.toList ds gs before) (hf : s.fn H (ds ++ gs) = { results := [.lit (.bool true)], args := ds }) (hb : Below W.heap.size W W') :
    s.post enc P f false true false false W args (.bool true) W' := by
  have hlt : ∀ p ∈ before, p.block < W.heap.size := fun p hp => hW.lt p hp
  have hW' := hW
  obtain ⟨p, q, hA, hV, rfl, _, _⟩ := hW
  rw [hv] at hV
  obtain ⟨rfl, rfl⟩ := trodVars_none hV
  have h2 := nL hl hb _ hr _ _ _ hA (fun x hx => hlt x (by simp [hx]))
  refine ⟨ds, [], p ++ [], [], p, [], hW', ?_, ?_, ?_, World.keptBut_mono (fun x hx => ⟨hx, Or.inr (Or.inl (by simpa using hx))⟩) (hb.frame (· ∈ p ++ [])), fun h => by cases h⟩
  · rw [hf, hT]
    exact trodAll_cons_mk (shut_bool hB true) trodAll_mk0
  · rw [hf]; exact h2
  · rw [hf, hv]; rfl
theorem laidOut : laidOutB Tryz.prog = true := by kernel_rfl
theorem cell_lt {W : World} {a : Addr} {v : Value} (h : W.cell? a = some v) : a.block < W.heap.size := by
  rcases Nat.lt_or_ge a.block W.heap.size with h1 | h1
  · exact h1
  · unfold World.cell? at h
    rw [Array.getElem?_eq_none h1] at h
    simp at h
theorem strCells1 : Tryz.prog.cellsOf 9 = 1 := by kernel_rfl
theorem open_texts {H : Type} {enc : TypeId × Value → H} {W : World} {base : Nat} {v : Value} {d : DataW H} {ps : List MemPlace} (hval : Value.okWide Tryz.prog W .any base 58 v)
    (h : DataW.Trod enc Tryz.prog W 0 (fun _ => true) true 58 v d ps) : ∃ l : List (List UInt8), ReadsT W W.heap.size v l ∧ l.length ≤ maxLen ∧ ∀ x ∈ l, x.length ≤ maxLen := by
  obtain ⟨A, len, cap, rfl⟩ := okWide_slice Tryz.underlying58 hval
  obtain ⟨fuel, hf⟩ := h
  rcases open_strings Tryz.underlying58 Tryz.underlying9 strCells1 hf with ⟨hcs, _⟩ | ⟨a, len', cap', ss, hcs, _, hl, hm, hz, _, hcell, hws⟩
  · simp [Value.cells] at hcs
    obtain ⟨rfl, rfl, rfl⟩ := hcs
    exact ⟨[], ⟨none, 0, rfl, fun h => by cases h⟩, by simp, by simp⟩
  · simp [Value.cells] at hcs
    obtain ⟨rfl, rfl, rfl⟩ := hcs
    simp only [if_true] at hz
    have hlen : ((ss.take len).map (·.data.toList)).length = len := by rw [List.length_map, List.length_take]; omega
    refine ⟨(ss.take len).map (·.data.toList), ⟨some a, cap, by rw [hlen], fun h0 => ⟨a, rfl, ?_, fun j hj => ?_⟩⟩, by rw [hlen]; omega, fun x hx => ?_⟩
    · have := cell_lt (hcell 0 (by omega))
      rwa [fQ] at this
    · have hj2 : j < ss.length := by omega
      rw [hcell j hj2, List.getElem_map, List.getElem_take]
      simp only [List.getD, List.getElem?_eq_getElem hj2, Option.getD_some]
      rfl
    · obtain ⟨s, hs, rfl⟩ := List.mem_map.1 hx
      have := hws s (List.mem_of_mem_take hs)
      rw [vK]; exact this
def litCells : DataW Unit → List Value
  | .lit (.int k n) => [Value.int k n]
  | .agg l => l.flatMap fun d => match d with | .lit (.int k n) => [Value.int k n] | _ => []
  | _ => []
def tabCells : DataW Unit → Array Value
  | .agg l => (l.flatMap litCells).toArray
  | _ => #[]
def layAt (h : Array Obj) (g : Nat) (d : DataW Unit) : Array Obj := h.modify g fun
  | .cells _ t frozen => .cells (tabCells d) t frozen
  | o => o
theorem powType : (Tryz.prog.globals[3]?).map (·.type) = some 222 := by kernel_rfl
theorem powNamed : Tryz.prog.globalNamed "internal/strconv.uint64pow10" = some 3 := by kernel_rfl
theorem powCells : Tryz.prog.cellsOf 222 = 20 := by kernel_rfl
theorem u64Cells : Tryz.prog.cellsOf 190 = 1 := by kernel_rfl
theorem hasTab_of {W : World} {l : List (String × DataW Unit)} (h : laidMetH Tryz.prog l W) (e : (l.filter fun x => x.1 == "internal/strconv.uint64pow10") = [("internal/strconv.uint64pow10", Lib.tabData .u64 Lib.pow10Tab)]) : HasTab W := by
  have h2 := h.filter (fun x => x.1 == "internal/strconv.uint64pow10")
  rw [e] at h2
  exact Lib.tabBelow_of_tabIs (Lib.tabIs_of_head (rest := []) powNamed powType Tryz.underlying222 Tryz.underlying190 u64Cells powCells h2)
end
section
theorem fine_all (s : List UInt8) : nT ((kG s).getD []) := by
  cases h : kG s with
  | none => exact ⟨Nat.zero_le _, fun a ha => by simp at ha⟩
  | some r =>
    have := fine_get (mE h).1
    rwa [h] at this
def aRg : List (List Co) := [[⟨7, 2, ⟨1, 2, 0, [], []⟩⟩, ⟨2, 3, ⟨1, 3, 0, [], []⟩⟩], [⟨8, 1, ⟨2, 0, 0, [], []⟩⟩]]
theorem aG1 : kG [94, 49, 46, 50, 44, 33, 61, 49, 46, 51, 46, 48, 124, 124, 126, 50] = some aRg := by decide +kernel
theorem aG2 : kG [94, 49, 46, 50, 44, 32, 33, 61, 49, 46, 51, 46, 48, 32, 124, 124, 32, 126, 50] = some aRg := by decide +kernel
theorem aG3 : jN [94, 49, 46, 50, 44] = 6 := by decide +kernel
theorem aMay7 : rgMay aRg = true := by decide +kernel
theorem aPr7 : fB aRg = [94, 49, 46, 50, 44, 32, 33, 61, 49, 46, 51, 46, 48, 32, 124, 124, 32, 126, 50] := by decide +kernel
theorem aHas1 : qI (zA aRg) ⟨2, 9, 0, [], []⟩ = true := by rw [rgSet_has aMay7 (by decide +kernel)]; decide +kernel
theorem aHas2 : qI (zA aRg) ⟨1, 3, 0, [], []⟩ = false := by rw [rgSet_has aMay7 (by decide +kernel)]; decide +kernel
theorem aD1 : (kG [94, 49, 46, 50, 44, 33, 61, 49, 46, 51, 46, 48, 124, 124, 126, 50]).getD [] = aRg := by rw [aG1]; rfl
theorem aD2 : (kG [94, 49, 46, 50, 44, 32, 33, 61, 49, 46, 51, 46, 48, 32, 124, 124, 32, 126, 50]).getD [] = aRg := by rw [aG2]; rfl
theorem fN (W : World) (ht : HasLib W) : Calls Tryz.prog 11 #[] W fun e w' => e = .returned (.bool true) ∧ Below W.heap.size W w' := by
  refine Z2 (n := 45) Tryz.func11 rfl (ZO (Zv Z5 (ZR (Zr (k := 12) (args := #[.string ⟨#[94, 49, 46, 50, 44, 33, 61, 49, 46, 51, 46, 48, 124, 124, 126, 50]⟩]) (fun v' L' => ∃ sv ob', v' = .tuple #[sv, .int .i64 0] ∧ L' = ob' ++ ([]) ∧ RgO sv (aRg) ob') (fun w hO => (pS ([94, 49, 46, 50, 44, 33, 61, 49, 46, 51, 46, 48, 124, 124, 126, 50]) w (by decide) (ht.on hO.below)).mono fun e w' ⟨v', ob', k1, k2, k3⟩ => ⟨.tuple #[v', .int .i64 0], _, k1.trans (by rw [show jN ([94, 49, 46, 50, 44, 33, 61, 49, 46, 51, 46, 48, 124, 124, 126, 50]) = 0 from (mE aG1).1]), ⟨v', ob', rfl, rfl, by rw [show (kG ([94, 49, 46, 50, 44, 33, 61, 49, 46, 51, 46, 48, 124, 124, 126, 50])).getD [] = aRg from aD1] at k2; exact k2⟩, Own.joinN hO k3⟩) (fun tv L1 hv1 => ?_)))))
  obtain ⟨sv1, o1, rfl, rfl, hr1⟩ := hv1
  obtain ⟨xs1, u1, p1, q1, rfl, rfl, hx1, ha1⟩ := hr1
  obtain ⟨A1, c1, rfl⟩ := Sl.form ha1.top
  refine kM (L' := p1 ++ q1) (List.append_nil _) (Zv (.tuple #[.agg #[.slice A1 xs1.length c1], .int .i64 0]) (Zv (.agg #[.slice A1 xs1.length c1]) (Zv (.int .i64 0) (Za (.agg #[.slice none 0 0]) (fun b1 => Zs 0 ⟨b1, #[.slice none 0 0], 25⟩ (off := 0) (.agg #[.slice A1 xs1.length c1]) (Zv (.int .i64 0) (ZR (Zr (k := 14) (args := #[.string ⟨#[94, 49, 46, 50, 44, 32, 33, 61, 49, 46, 51, 46, 48, 32, 124, 124, 32, 126, 50]⟩]) (fun v' L' => ∃ sv ob', v' = .tuple #[sv, .int .i64 0] ∧ L' = ob' ++ (⟨b1, #[.slice A1 xs1.length c1], 25⟩ :: ((p1 ++ q1))) ∧ SetO sv (zA (aRg)) ob') (fun w hO => (gOf_any ([94, 49, 46, 50, 44, 32, 33, 61, 49, 46, 51, 46, 48, 32, 124, 124, 32, 126, 50]) w (by decide) (ht.on hO.below)).mono fun e w' ⟨v', ob', k1, k2, k3⟩ => ⟨.tuple #[v', .int .i64 0], _, k1.trans (by rw [show jN ([94, 49, 46, 50, 44, 32, 33, 61, 49, 46, 51, 46, 48, 32, 124, 124, 32, 126, 50]) = 0 from (mE aG2).1]), ⟨v', ob', rfl, rfl, by rw [show (kG ([94, 49, 46, 50, 44, 32, 33, 61, 49, 46, 51, 46, 48, 32, 124, 124, 32, 126, 50])).getD [] = aRg from aD2] at k2; exact k2⟩, Own.joinN hO k3⟩) (fun tv L2 hv2 => ?_)))))))))
  obtain ⟨sv2, o2, rfl, rfl, hr2⟩ := hv2
  obtain ⟨V2, U2, c2, d2, rfl⟩ := hr2.form
  refine Zv (.tuple #[.agg #[.slice V2 ((zA (aRg)).rel.length) c2, .slice U2 ((zA (aRg)).pre.length) d2], .int .i64 0]) (Zv (.agg #[.slice V2 ((zA (aRg)).rel.length) c2, .slice U2 ((zA (aRg)).pre.length) d2]) (Zv (.int .i64 0) (Za (.agg ZM) (fun b2 => Zs 0 ⟨b2, ZM, 31⟩ (off := 0) (.agg #[.slice V2 ((zA (aRg)).rel.length) c2, .slice U2 ((zA (aRg)).pre.length) d2]) (Zv (.int .i64 0) (ZR (Zr (k := 12) (args := #[.string ⟨#[94, 49, 46, 50, 44]⟩]) (fun v' L' => ∃ sv ob', v' = .tuple #[sv, .int .i64 6] ∧ L' = ob' ++ (⟨b2, #[.slice V2 ((zA (aRg)).rel.length) c2, .slice U2 ((zA (aRg)).pre.length) d2], 31⟩ :: (o2 ++ (⟨b1, #[.slice A1 xs1.length c1], 25⟩ :: ((p1 ++ q1))))) ∧ RgO sv ((kG [94, 49, 46, 50, 44]).getD []) ob') (fun w hO => (pS ([94, 49, 46, 50, 44]) w (by decide) (ht.on hO.below)).mono fun e w' ⟨v', ob', k1, k2, k3⟩ => ⟨.tuple #[v', .int .i64 6], _, k1.trans (by rw [show jN ([94, 49, 46, 50, 44]) = 6 from aG3]), ⟨v', ob', rfl, rfl, by rw [show (kG ([94, 49, 46, 50, 44])).getD [] = (kG [94, 49, 46, 50, 44]).getD [] from rfl] at k2; exact k2⟩, Own.joinN hO k3⟩) (fun tv L3 hv3 => ?_))))))))
  obtain ⟨sv3, o3, rfl, rfl, hr3⟩ := hv3
  obtain ⟨xs3, u3, p3, q3, rfl, rfl, hx3, ha3⟩ := hr3
  obtain ⟨A3, c3, rfl⟩ := Sl.form ha3.top
  refine Zv (.tuple #[.agg #[.slice A3 xs3.length c3], .int .i64 6]) (Zv (.agg #[.slice A3 xs3.length c3]) (Zv (.int .i64 6) (Za (.agg #[.slice none 0 0]) (fun b3 => Zs 0 ⟨b3, #[.slice none 0 0], 25⟩ (off := 0) (.agg #[.slice A3 xs3.length c3]) (Zv (.int .i64 6) (ZR (Zv (.int .i64 0) (Zv Z4 ?_))))))))
  refine Zv Z4 (Zv (.int .i64 0) (Zv Z4 (Zv Z4 (Zv Z4 (jQ ⟨b1, #[.slice A1 xs1.length c1], 25⟩ (off := 0) (.agg #[.slice A1 xs1.length c1]) (by kernel_rfl) rfl (by simp) (by kernel_rfl) (by kernel_rfl) (Zc (k := 21) (args := #[.agg #[.slice A1 xs1.length c1]]) (.string (mkS [94, 49, 46, 50, 44, 32, 33, 61, 49, 46, 51, 46, 48, 32, 124, 124, 32, 126, 50])) (fun w hO => bJ (by rw [hx1, aPr7]) (gPrint_any A1 c1 xs1 w (RgA.inn ha1 rfl hO (fun x hx => by simp [hx]) (fun x hx => by simp [hx]) (by rw [hx1]; exact (aD1 ▸ fine_all ([94, 49, 46, 50, 44, 33, 61, 49, 46, 51, 46, 48, 124, 124, 126, 50])))) (ht.on hO.below))) (zX Z4 (by kernel_rfl) (xB (a := ([94, 49, 46, 50, 44, 32, 33, 61, 49, 46, 51, 46, 48, 32, 124, 124, 32, 126, 50])) (b := ([94, 49, 46, 50, 44, 32, 33, 61, 49, 46, 51, 46, 48, 32, 124, 124, 32, 126, 50])) rfl (by kernel_rfl) (by kernel_rfl) (decide_eq_true (rfl))) (Zv Z4 (Zv Z4 (Zv (.int .i64 6) (Zv Z4 ?_)))))))))))
  refine Zv Z4 (Zv Z4 (jQ ⟨b2, #[.slice V2 ((zA (aRg)).rel.length) c2, .slice U2 ((zA (aRg)).pre.length) d2], 31⟩ (off := 0) (.agg #[.slice V2 ((zA (aRg)).rel.length) c2, .slice U2 ((zA (aRg)).pre.length) d2]) (by kernel_rfl) rfl (by simp) (by kernel_rfl) (by kernel_rfl) (Zv (.agg #[.int .i64 2, .int .i64 9, .int .i64 0, .string ⟨#[]⟩, .string ⟨#[]⟩]) (Zc (k := 30) (args := #[.agg #[.slice V2 ((zA (aRg)).rel.length) c2, .slice U2 ((zA (aRg)).pre.length) d2], .agg #[.int .i64 2, .int .i64 9, .int .i64 0, .string ⟨#[]⟩, .string ⟨#[]⟩]]) Z4 (fun w hO => hD (aHas1) (rsetHas_any V2 U2 c2 d2 (zA (aRg)) ⟨2, 9, 0, [], []⟩ w (SetO.inn hr2 hO (fun x hx => by simp [hx]) ((kC (aRg))) (by decide)) ⟨by decide, by decide⟩)) (Zv Z4 (Zv Z4 (jQ ⟨b2, #[.slice V2 ((zA (aRg)).rel.length) c2, .slice U2 ((zA (aRg)).pre.length) d2], 31⟩ (off := 0) (.agg #[.slice V2 ((zA (aRg)).rel.length) c2, .slice U2 ((zA (aRg)).pre.length) d2]) (by kernel_rfl) rfl (by simp) (by kernel_rfl) (by kernel_rfl) (Zv (.agg #[.int .i64 1, .int .i64 3, .int .i64 0, .string ⟨#[]⟩, .string ⟨#[]⟩]) (Zc (k := 30) (args := #[.agg #[.slice V2 ((zA (aRg)).rel.length) c2, .slice U2 ((zA (aRg)).pre.length) d2], .agg #[.int .i64 1, .int .i64 3, .int .i64 0, .string ⟨#[]⟩, .string ⟨#[]⟩]]) Z5 (fun w hO => hD (aHas2) (rsetHas_any V2 U2 c2 d2 (zA (aRg)) ⟨1, 3, 0, [], []⟩ w (SetO.inn hr2 hO (fun x hx => by simp [hx]) ((kC (aRg))) (by decide)) ⟨by decide, by decide⟩)) (Zv Z4 (Zv Z4 ?_)))))))))))
  exact Zv Z4 (ZN (zG (ZF Z4 Tryz.results11 (fun w hO => ⟨rfl, hO.below⟩))))
end
end Go.Proofs.YtkljdpiaghepfaaGreatDoor
