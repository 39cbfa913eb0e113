/-
 What the statement's proof leans on: the ways of walking, plain mathematics, and what the program's functions return; each theorem says on what conditions.
-/
import Derived.Laws.IdiomStrings
import Derived.Laws.IdiomCopy
import Derived.Laws.BitsAllLaws
import Derived.Lib.ConvBytes
import Derived.Lib.Builder
import Derived.Laws.Entries
import Derived.RangeFuncIn
import Derived.RangeFuncLeaves
import Derived.RangeFuncCalls
import Derived.RangeFuncNested
import Derived.Test.YtjimgokkpcfgpaaGreatDoorRJ5
set_option maxRecDepth 1000000
set_option maxHeartbeats 8000000
set_option linter.unusedVariables false
set_option linter.unusedSimpArgs false
set_option linter.unnecessarySimpa false
namespace Go.Proofs.YtjimgokkpcfgpaaGreatDoor
open Go.RowKit

section
set_option linter.unnecessarySimpa false
theorem isplit_own (s : List UInt8) (W : World) (hs : s.length ≤ 1000000) : YC 154 #[.string (mkS s), .int .u8 32] W fun e w' => ∃ v' ob', e = .returned v' ∧ SlT v' (kT s) ob' ∧ Own [] W w' ob' :=
 (split_any (mkS s) 32 W (by rw [yD]; exact hs)).mono fun e w' ⟨v, h1, h2, h3⟩ => by
  obtain ⟨ob, k1, k2⟩ := Own.row h2 h3
  unfold vY at k1
  rw [mk_data] at k1
  exact ⟨v, ob, h1, k1, k2⟩
theorem lib_anew {W w1 w : World} {L L2 : List Blk} (hK : MkLib W) (hO1 : Own [] W w1 L) (hO : Own (L.map Blk.b) w1 w L2) : MkAt w1.heap.size w := by
 have hlt := hK.lt
 refine ⟨Nat.lt_of_lt_of_le hlt hO1.size, ?_⟩
 obtain ⟨T, q⟩ := hK.held
 refine ⟨T, ?_⟩
 rw [hO.kept _ (Nat.lt_of_lt_of_le hlt hO1.size) (fun hm => ?_), hO1.kept _ hlt (by simp)]
 ·exact q
 ·obtain ⟨x, hx, ex⟩ := List.mem_map.1 hm
  rcases hO1.base x hx with r | r
  ·omega
  ·cases r
theorem words_len (s : List UInt8) : (kT s).length ≤ s.length + 1 := splitL_many10 32 s []
theorem m10Parse_any (s : List UInt8) (W : World) (hs : s.length ≤ 1000000) (hK : MkLib W) : YC 117 #[.string (mkS s)] W fun e w' => ∃ v' ob', e = .returned (.tuple #[.agg #[v'], YI (errM s)]) ∧ SlN v' (bO s) ob' ∧ Own [] W w' ob' := by
 have hsz := yD s
 have hwn := words_len s
 refine Z2 (n := 36) Tryz.func117 rfl (ZO (Za (.agg #[.slice none 0 0]) (fun b1 => Zv (YI 0) (ZN (zH (ZO (Zv (.string (mkS s)) (Zv (YI ((mkS s).size)) ?_))))))))
 by_cases h1 : (96 : Int) < (mkS s).size
 ·have h96 : 96 < s.length := by omega
  refine Zg h1 (ZY (ZO (Zv (.agg #[.slice none 0 0]) (Zs 0 ⟨b1, #[.slice none 0 0], 154⟩ (off := 0) (.agg #[.slice none 0 0]) (Zv (YI 3) (ZN (zL ?_)))))))
  exact z7 (ZD 0 ⟨b1, #[.slice none 0 0], 154⟩ (off := 0) (.agg #[.slice none 0 0]) (YI 3) Tryz.results117 (fun w hO => ⟨_, [], by rw [show errM s = 3 from if_pos h96], by rw [show bO s = [] from if_pos h96]; exact Sl.nil _ _, hO.sublist (by simp)⟩))
 have h96 : ¬ 96 < s.length := by omega
 refine Zh h1 (ZX (ZB (zH (ZO (Zv (.string (mkS s)) ?_)))))
 by_cases h2 : (s : List UInt8) = []
 ·refine yB Z4 Kr (k8 (a := s) (b := ([])) rfl Kr Kr (decide_eq_true (h2))) (ZY (ZO (Zv (.agg #[.slice none 0 0]) (Zs 0 ⟨b1, #[.slice none 0 0], 154⟩ (off := 0) (.agg #[.slice none 0 0]) (Zv (YI 0) (ZN (zL ?_)))))))
  exact z7 (ZD 0 ⟨b1, #[.slice none 0 0], 154⟩ (off := 0) (.agg #[.slice none 0 0]) (YI 0) Tryz.results117 (fun w hO => ⟨_, [], by rw [show errM s = 0 from by unfold errM; rw [if_neg h96, if_pos h2]], by rw [show bO s = [] from by unfold bO; rw [if_neg h96, if_pos h2]]; exact Sl.nil _ _, hO.sublist (by simp)⟩))
 refine yB Z5 Kr (k8 (a := s) (b := ([])) rfl Kr Kr (decide_eq_false (h2))) (ZX (ZB (ZO (Zv (.string (mkS s)) (Zr (k := 154) (args := #[.string (mkS s), .int .u8 32]) (fun v' L' => ∃ ob', L' = ob' ++ [⟨b1, #[.slice none 0 0], 154⟩] ∧ SlT v' (kT s) ob') (fun w hO => (isplit_own s w hs).mono fun e w' ⟨v', ob', k1, k2, k3⟩ => ⟨v', _, k1, ⟨ob', rfl, k2⟩, Own.joinN hO k3⟩) (fun vw Lw hvw => ?_))))))
 obtain ⟨ow, rfl, hsw⟩ := hvw
 obtain ⟨AW, cw, rfl⟩ := SlT.form hsw
 refine s_anew (fun w1 hO1 => ?_)
 have hw1 : Reads y9 w1 w1.heap.size AW (kT s) := SlT.reads hsw rfl hO1 (fun x hx => List.mem_append_left _ hx)
 refine Zv (.agg #[.slice none 0 0, .slice AW ((kT s).length) cw, .bool false]) ?_
 have hcw : (kT s).length ≤ cw := by obtain ⟨_, q⟩ := hsw; rcases q with ⟨_, q, _⟩ | ⟨_, c9, _, q1, _, q2, _⟩; omega; injection q1 with _ _ q3; omega
 refine Za (.agg #[.slice none 0 0, .slice none 0 0, .bool false]) (fun b2 => Zs 0 ⟨b2, #[.slice none 0 0, .slice none 0 0, .bool false], 192⟩ (off := 0) (.agg #[.slice none 0 0, .slice AW ((kT s).length) cw, .bool false]) (ZR (zS (L' := [⟨b2, #[.slice none 0 0, .slice AW ((kT s).length) cw, .bool false], 192⟩] ++ (ow ++ ([⟨b1, #[.slice none 0 0], 154⟩]))) rfl (Zr (k := 155) (args := #[Zp b2 0]) (fun v' L' => ∃ ts' nd' bad', v' = .tuple #[] ∧ ∃ ob', L' = ob' ++ (ow ++ ([⟨b1, #[.slice none 0 0], 154⟩])) ∧ (∃ A' cap', Rb b2 A' ts'.length cap' bad' nd' ob') ∧ (∀ n ∈ nd', n.text.length ≤ 1000000) ∧ GotL (pOr (kT s).length) (kT s) [] false ts' nd' bad') (fun w hO => ((expressionP (kT s).length).go (⟨⟨AW, cw, Reads.bound (SlT.reads hsw rfl hO (fun x hx => by simp [hx])) hw1, hcw, none, 0, [], rfl, Sl.nil _ _⟩, Own.lent hO, own_new hO, hO.size, fun x hx => Nat.le_trans (words_short x hx) hs, fun n hn => absurd hn (by simp), by simp only [List.length_nil]; omega, lib_anew hK hO1 hO⟩ : LentL w1.heap.size b2 (kT s) [] false [⟨b2, #[.slice none 0 0, .slice AW ((kT s).length) cw, .bool false], 192⟩] w) (Nat.le_refl _)).mono fun e w' ⟨ts', nd', bad', ob', k1, k2, k3⟩ => ⟨_, _, k1, ⟨ts', nd', bad', rfl, ob', rfl, k2.rd.imp fun A' q => q.imp fun cap' q => q.2.2, k2.texts, k3⟩, Own.join hO k2.own⟩) (fun ve Le hve => ?_)))))
 obtain ⟨ts2, nd2, bd, rfl, obe, rfl, ⟨A2, cap2, C, cc, g, rfl, hsl⟩, hnt, hG⟩ := hve
 have hnw : nd2.length ≤ 1000 := by have q := hG.1; simp only [List.length_nil] at q; omega
 refine zS (L' := ⟨b2, #[.slice C nd2.length cc, .slice A2 ts2.length cap2, .bool bd], 192⟩ :: (g ++ (ow ++ ([⟨b1, #[.slice none 0 0], 154⟩])))) (by simp) (ZR (Zv (Zp b2 0) (Zv (Zp b2 0) (Zl 0 ⟨b2, #[.slice C nd2.length cc, .slice A2 ts2.length cap2, .bool bd], 192⟩ (off := 0) (.slice C nd2.length cc) (Zv (.agg #[.slice C nd2.length cc]) (Za (.agg #[.slice none 0 0]) (fun b3 => Zs 0 ⟨b3, #[.slice none 0 0], 154⟩ (off := 0) (.agg #[.slice C nd2.length cc]) (yC ?_))))))))
 refine zJ (zH (ZO (Zv (Zp b2 2) (Zl 1 ⟨b2, #[.slice C nd2.length cc, .slice A2 ts2.length cap2, .bool bd], 192⟩ (off := 2) (.bool bd) (Zv (.bool bd) ?_)))))
 cases h3 : bd with
 | true =>
  rw [h3] at hG
  refine Zk (Zk (Zk (Zk (Zv Z4 (Zv Z4 (Zk (Zk (Zk (Zv Z4 (yC (zJ ?_)))))))))))
  refine Zt (ZO (Zv (.agg #[.slice none 0 0]) (zS (L' := ⟨b3, #[.slice C nd2.length cc], 154⟩ :: (⟨b2, #[.slice C nd2.length cc, .slice A2 ts2.length cap2, .bool true], 192⟩ :: (g ++ (ow ++ ([⟨b1, #[.slice none 0 0], 154⟩]))))) rfl (dR (L' := ⟨b1, #[.slice none 0 0], 154⟩ :: (⟨b3, #[.slice C nd2.length cc], 154⟩ :: (⟨b2, #[.slice C nd2.length cc, .slice A2 ts2.length cap2, .bool true], 192⟩ :: (g ++ (ow))))) (fun w hO => hO.perm (by simpa [List.append_assoc] using (List.perm_middle (a := ⟨b1, #[.slice none 0 0], 154⟩) (l₁ := (⟨b3, #[.slice C nd2.length cc], 154⟩ :: (⟨b2, #[.slice C nd2.length cc, .slice A2 ts2.length cap2, .bool true], 192⟩ :: (g ++ (ow ++ ([] : List Blk)))))) (l₂ := ([] : List Blk))))) (Zs 0 ⟨b1, #[.slice none 0 0], 154⟩ (off := 0) (.agg #[.slice none 0 0]) (Zv (YI 7) (ZN (zL (z7 ?_)))))))))
  exact ZD 0 ⟨b1, #[.slice none 0 0], 154⟩ (off := 0) (.agg #[.slice none 0 0]) (YI 7) Tryz.results117 (fun w hO => ⟨_, [], by rw [(dM h96 h2).1, show bG s = none from gl_none hG (.inl rfl)], by rw [(dM h96 h2).2, show bG s = none from gl_none hG (.inl rfl)]; exact Sl.nil _ _, (by have q := Own.join (R := []) (by rw [List.append_nil]; exact hO1) hO; rw [List.append_nil] at q; exact q.sublist (List.nil_sublist _))⟩)
 | false =>
  rw [h3] at hG
  refine Zv (Zp b2 1) (Zl 1 ⟨b2, #[.slice C nd2.length cc, .slice A2 ts2.length cap2, .bool false], 192⟩ (off := 1) (.slice A2 ts2.length cap2) (Zv (YI (ts2.length : Int)) ?_))
  by_cases h4 : (0 : Int) < (ts2.length : Int)
  ·have hne : ts2 ≠ [] := fun q => by rw [q] at h4; simp at h4
   refine Zg h4 (Zv Z4 (Zv Z4 (Zk (Zk (Zk (Zv Z4 (ZY (zH (zG ?_)))))))))
   exact Zv (.agg #[.slice none 0 0]) (zS (L' := ⟨b3, #[.slice C nd2.length cc], 154⟩ :: (⟨b2, #[.slice C nd2.length cc, .slice A2 ts2.length cap2, .bool false], 192⟩ :: (g ++ (ow ++ ([⟨b1, #[.slice none 0 0], 154⟩]))))) rfl (dR (L' := ⟨b1, #[.slice none 0 0], 154⟩ :: (⟨b3, #[.slice C nd2.length cc], 154⟩ :: (⟨b2, #[.slice C nd2.length cc, .slice A2 ts2.length cap2, .bool false], 192⟩ :: (g ++ (ow))))) (fun w hO => hO.perm (by simpa [List.append_assoc] using (List.perm_middle (a := ⟨b1, #[.slice none 0 0], 154⟩) (l₁ := (⟨b3, #[.slice C nd2.length cc], 154⟩ :: (⟨b2, #[.slice C nd2.length cc, .slice A2 ts2.length cap2, .bool false], 192⟩ :: (g ++ (ow ++ ([] : List Blk)))))) (l₂ := ([] : List Blk))))) (Zs 0 ⟨b1, #[.slice none 0 0], 154⟩ (off := 0) (.agg #[.slice none 0 0]) (Zv (YI 7) (ZN (zL (z7 (ZD 0 ⟨b1, #[.slice none 0 0], 154⟩ (off := 0) (.agg #[.slice none 0 0]) (YI 7) Tryz.results117 (fun w hO => ⟨_, [], by rw [(dM h96 h2).1, show bG s = none from gl_none hG (.inr (.inl hne))], by rw [(dM h96 h2).2, show bG s = none from gl_none hG (.inr (.inl hne))]; exact Sl.nil _ _, (by have q := Own.join (R := []) (by rw [List.append_nil]; exact hO1) hO; rw [List.append_nil] at q; exact q.sublist (List.nil_sublist _))⟩)))))))))
  have hts : ts2 = [] := List.eq_nil_of_length_eq_zero Om
  rw [hts] at hG
  refine Zh h4 (Zv Z5 (Zv Z5 (Zl 0 ⟨b3, #[.slice C nd2.length cc], 154⟩ (off := 0) (.agg #[.slice C nd2.length cc]) (Zc (k := 156) (args := #[.agg #[.slice C nd2.length cc]]) (.bool (tI nd2)) (fun w hO => m10May_any C cc nd2 w (Sl.reads hsl rfl hO (fun x hx => by simp [hx])) hnw hnt ⟨Nat.lt_of_lt_of_le (lib_anew hK hO1 hO).lt hO.size, (lib_anew hK hO1 hO).held⟩) ?_))))
  cases h5 : tI nd2 with
  | true =>
   obtain ⟨t, hok, hnd, hrd⟩ := gl_some hG h5
   refine Zv Z5 (Zv Z5 (ZX (ZB (ZO (Zl 0 ⟨b3, #[.slice C nd2.length cc], 154⟩ (off := 0) (.agg #[.slice C nd2.length cc]) (zS (L' := ⟨b3, #[.slice C nd2.length cc], 154⟩ :: (⟨b2, #[.slice C nd2.length cc, .slice A2 ts2.length cap2, .bool false], 192⟩ :: (g ++ (ow ++ ([⟨b1, #[.slice none 0 0], 154⟩]))))) rfl (dR (L' := ⟨b1, #[.slice none 0 0], 154⟩ :: (⟨b3, #[.slice C nd2.length cc], 154⟩ :: (⟨b2, #[.slice C nd2.length cc, .slice A2 ts2.length cap2, .bool false], 192⟩ :: (g ++ (ow))))) (fun w hO => hO.perm (by simpa [List.append_assoc] using (List.perm_middle (a := ⟨b1, #[.slice none 0 0], 154⟩) (l₁ := (⟨b3, #[.slice C nd2.length cc], 154⟩ :: (⟨b2, #[.slice C nd2.length cc, .slice A2 ts2.length cap2, .bool false], 192⟩ :: (g ++ (ow ++ ([] : List Blk)))))) (l₂ := ([] : List Blk))))) ?_)))))))
   exact Zs 0 ⟨b1, #[.slice none 0 0], 154⟩ (off := 0) (.agg #[.slice C nd2.length cc]) (Zv (YI 0) (ZN (zL (ZD 0 ⟨b1, #[.slice C nd2.length cc], 154⟩ (off := 0) (.agg #[.slice C nd2.length cc]) (YI 0) Tryz.results117 (fun w hO => ⟨_, g, by rw [(dM h96 h2).1, hrd], by rw [(dM h96 h2).2, hrd]; show SlN _ (t.enc 0) g; rw [← hnd]; exact hsl, (by have q := Own.join (R := []) (by rw [List.append_nil]; exact hO1) hO; rw [List.append_nil] at q; exact q.sublist ((((List.sublist_append_left _ _).cons _).cons _).cons _))⟩)))))
  | false =>
   refine Zv Z4 (Zv Z4 (ZY (ZO (Zv (.agg #[.slice none 0 0]) (zS (L' := ⟨b3, #[.slice C nd2.length cc], 154⟩ :: (⟨b2, #[.slice C nd2.length cc, .slice A2 ts2.length cap2, .bool false], 192⟩ :: (g ++ (ow ++ ([⟨b1, #[.slice none 0 0], 154⟩]))))) rfl (dR (L' := ⟨b1, #[.slice none 0 0], 154⟩ :: (⟨b3, #[.slice C nd2.length cc], 154⟩ :: (⟨b2, #[.slice C nd2.length cc, .slice A2 ts2.length cap2, .bool false], 192⟩ :: (g ++ (ow))))) (fun w hO => hO.perm (by simpa [List.append_assoc] using (List.perm_middle (a := ⟨b1, #[.slice none 0 0], 154⟩) (l₁ := (⟨b3, #[.slice C nd2.length cc], 154⟩ :: (⟨b2, #[.slice C nd2.length cc, .slice A2 ts2.length cap2, .bool false], 192⟩ :: (g ++ (ow ++ ([] : List Blk)))))) (l₂ := ([] : List Blk))))) (Zs 0 ⟨b1, #[.slice none 0 0], 154⟩ (off := 0) (.agg #[.slice none 0 0]) (Zv (YI 7) ?_))))))))
   exact ZN (zL (z7 (ZD 0 ⟨b1, #[.slice none 0 0], 154⟩ (off := 0) (.agg #[.slice none 0 0]) (YI 7) Tryz.results117 (fun w hO => ⟨_, [], by rw [(dM h96 h2).1, show bG s = none from gl_none hG (.inr (.inr h5))], by rw [(dM h96 h2).2, show bG s = none from gl_none hG (.inr (.inr h5))]; exact Sl.nil _ _, (by have q := Own.join (R := []) (by rw [List.append_nil]; exact hO1) hO; rw [List.append_nil] at q; exact q.sublist (List.nil_sublist _))⟩))))
end
section
set_option linter.unnecessarySimpa false
theorem bT (s : List UInt8) (W : World) (hs : s.length ≤ 1000000) : YC 68 #[.string (mkS s)] W (YR (.bool (wdL s)) W) :=
 (word_any (mkS s) W (by rw [yD]; unfold maxLen; omega)).mono fun e w' ⟨h, e2⟩ => ⟨by rw [h]; unfold wordB wdL; rw [yD, mk_data], e2⟩
theorem iName_any (s : List UInt8) (W : World) (hs : s.length ≤ 1000000) : YC 29 #[.string (mkS s)] W (YR (.bool (nmL s)) W) :=
 name_any (mkS s) W (by rw [yD]; unfold maxLen; omega)
theorem wG (s : List UInt8) (W : World) (hs : s.length ≤ 1000000) : YC 42 #[.string (mkS s)] W (YR (.string (mkS s)) W) := nL (mkS s) W (by rw [yD]; omega)
theorem iCut_any (s : List UInt8) (w : World) : YC 120 #[.string (mkS s), .string ⟨#[63]⟩] w (YR (.tuple #[.string (mkS (if s.head? = some 63 then s.drop 1 else s)), .bool (decide (s.head? = some 63))]) w) :=
 (Tryz.strings_CutPrefix (mkS s) ⟨#[63]⟩ w).mono fun e w' ⟨he, hw⟩ => by
  subst hw
  refine ⟨?_, Below.refl _ _⟩
  rw [he, mk_data]
  show Ending.returned (Value.tuple #[.string ⟨(Lib.trimPrefix s [63]).toArray⟩, .bool (Lib.hasPrefix s [63])]) = _
  unfold Lib.trimPrefix Lib.hasPrefix
  cases s with
  | nil => rfl
  | cons c r =>
   by_cases h : c = 63
   ·subst h; simp [List.isPrefixOf, mkS]
   ·have h2 : ¬ 63 = c := fun q => h q.symm
    simp [List.isPrefixOf, mkS, h, h2]
theorem kind_cut {s : List UInt8} (h : wdL s = false) (hno : ¬ (s.head? = some 63 ∧ wdL (s.drop 1) = true)) : zX s = if (z8 47 s).2.2 && nmL (z8 47 s).1 && wdL (z8 47 s).2.1 then (3, (z8 47 s).1, (z8 47 s).2.1) else (0, [], []) := by
 unfold zX
 rw [if_neg (by rw [h]; simp), if_neg (by rw [Bool.and_eq_true, decide_eq_true_eq]; exact hno), x4 47 s [], List.nil_append]
 cases hc : (z8 47 s).2.2 with
 | false => simp
 | true =>
  rw [if_pos rfl]
  cases hw : wdL (z8 47 s).2.1 with
  | true =>
   have hf : (47 : UInt8) ∉ (z8 47 s).2.1 := wS (by decide) hw
   rw [x4 47 _ [], wH 47 _ hf]
   simp [hw]
  | false =>
   rw [x4 47 _ [], List.nil_append]
   cases hc2 : (z8 47 (z8 47 s).2.1).2.2 with
   | true =>
    rw [if_pos rfl]
    cases hs : zB 47 [] (z8 47 (z8 47 s).2.1).2.1 with
    | nil => exact absurd hs (qA 47 _ _)
    | cons y t => simp
   | false =>
    have hb := fW 47 (z8 47 s).2.1
    rw [hc2, if_neg (by simp), List.append_nil] at hb
    rw [← hb]
    simp [hw]
theorem fItem_at (s : List UInt8) (W : World) (hs : s.length ≤ 1000000) : YC 70 #[.string (mkS s)] W (YR (.tuple #[YI (zX s).1, .string (mkS (zX s).2.1), .string (mkS (zX s).2.2)]) W) := by
 have hcl := dO 47 s
 refine zQ Tryz.func70 (zE (v := .bool (wdL s)) [] (fun w _ => bT s w hs) (xE 11 (wdL s) (fun h1 => ?_) (fun h1 => ?_)))
 ·refine zE (v := .string (mkS s)) [] (fun w _ => wG s w hs) (mO [] (YI 1) (.string (mkS s)) (.string ⟨#[]⟩) fun w hO => ⟨?_, hO.below⟩)
  rw [show zX s = (1, s, []) from by unfold zX; rw [if_pos h1]]; rfl
 have zero : ∀ {w : World} {L : List Blk}, ¬ (s.head? = some 63 ∧ wdL (s.drop 1) = true) → ((z8 47 s).2.2 && nmL (z8 47 s).1 && wdL (z8 47 s).2.1) = false → Own [] W w L → (Ending.returned (.tuple #[YI 0, .string ⟨#[]⟩, .string ⟨#[]⟩]) = .returned (.tuple #[YI (zX s).1, .string (mkS (zX s).2.1), .string (mkS (zX s).2.2)])) ∧ Below W.heap.size W w := fun h2 h3 hO => by
  refine ⟨?_, hO.below⟩
  rw [kind_cut h1 h2, h3]; rfl
 have three : ∀ {w : World} {L : List Blk}, ¬ (s.head? = some 63 ∧ wdL (s.drop 1) = true) → ((z8 47 s).2.2 && nmL (z8 47 s).1 && wdL (z8 47 s).2.1) = true → Own [] W w L → (Ending.returned (.tuple #[YI 3, .string (mkS (z8 47 s).1), .string (mkS (z8 47 s).2.1)]) = .returned (.tuple #[YI (zX s).1, .string (mkS (zX s).2.1), .string (mkS (zX s).2.2)])) ∧ Below W.heap.size W w := fun h2 h3 hO => by
  refine ⟨?_, hO.below⟩
  rw [kind_cut h1 h2, h3]; rfl
 by_cases hq : s.head? = some 63
 ·have hcp : ∀ w, YC 120 #[.string (mkS s), .string ⟨#[63]⟩] w (YR (.tuple #[.string (mkS (s.drop 1)), .bool true]) w) := fun w => (iCut_any s w).mono fun e w' ⟨e1, e2⟩ => ⟨by rw [e1, if_pos hq, decide_eq_true hq], e2⟩
  refine zE (v := .tuple #[.string (mkS (s.drop 1)), .bool true]) [] (fun w _ => hcp w) (zE (v := .bool (wdL (s.drop 1))) [] (fun w _ => bT _ w (by rw [List.length_drop]; omega)) (x_bb 23 [] (wdL (s.drop 1)) (fun h2 => ?_) (fun h2 => ?_)))
  ·refine zE (v := .string (mkS (s.drop 1))) [] (fun w _ => wG _ w (by rw [List.length_drop]; omega)) (mO [] (YI 2) (.string (mkS (s.drop 1))) (.string ⟨#[]⟩) fun w hO => ⟨?_, hO.below⟩)
   rw [show zX s = (2, s.drop 1, []) from by unfold zX; rw [if_neg (by rw [h1]; simp), if_pos (by rw [hq, h2]; rfl)]]; rfl
  have hno : ¬ (s.head? = some 63 ∧ wdL (s.drop 1) = true) := fun q => by rw [h2] at q; cases q.2
  refine zE (v := .tuple #[.string (mkS (z8 47 s).1), .string (mkS (z8 47 s).2.1), .bool (z8 47 s).2.2]) [] (fun w _ => dN s 47 w (by omega)) (x_bb 33 [] (z8 47 s).2.2 (fun h3 => ?_) (fun h3 => ?_))
  ·refine zE (v := .bool (nmL (z8 47 s).1)) [] (fun w _ => iName_any _ w (by omega)) (x_bb 37 [] (nmL (z8 47 s).1) (fun h4 => ?_) (fun h4 => ?_))
   ·refine zE (v := .bool (wdL (z8 47 s).2.1)) [] (fun w _ => bT _ w (by omega)) (x_bb 40 [] (wdL (z8 47 s).2.1) (fun h5 => ?_) (fun h5 => ?_))
    ·exact zE (v := .string (mkS (z8 47 s).1)) [] (fun w _ => wG _ w Om) (zE (v := .string (mkS (z8 47 s).2.1)) [] (fun w _ => wG _ w Om) (mO [] (YI 3) (.string (mkS (z8 47 s).1)) (.string (mkS (z8 47 s).2.1)) fun w hO => three hno (by rw [h3, h4, h5]; rfl) hO))
    ·exact mO [] (YI 0) (.string ⟨#[]⟩) (.string ⟨#[]⟩) fun w hO => zero hno (by rw [h3, h4, h5]; rfl) hO
   ·exact mO [] (YI 0) (.string ⟨#[]⟩) (.string ⟨#[]⟩) fun w hO => zero hno (by rw [h3, h4]; rfl) hO
  ·exact mO [] (YI 0) (.string ⟨#[]⟩) (.string ⟨#[]⟩) fun w hO => zero hno (by rw [h3]; rfl) hO
 ·have hcp : ∀ w, YC 120 #[.string (mkS s), .string ⟨#[63]⟩] w (YR (.tuple #[.string (mkS s), .bool false]) w) := fun w => (iCut_any s w).mono fun e w' ⟨e1, e2⟩ => ⟨by rw [e1, if_neg hq, decide_eq_false hq], e2⟩
  have hno : ¬ (s.head? = some 63 ∧ wdL (s.drop 1) = true) := fun q => hq q.1
  refine zE (v := .tuple #[.string (mkS s), .bool false]) [] (fun w _ => hcp w) (zE (v := .tuple #[.string (mkS (z8 47 s).1), .string (mkS (z8 47 s).2.1), .bool (z8 47 s).2.2]) [] (fun w _ => dN s 47 w (by omega)) (x_bb 33 [] (z8 47 s).2.2 (fun h3 => ?_) (fun h3 => ?_)))
  ·refine zE (v := .bool (nmL (z8 47 s).1)) [] (fun w _ => iName_any _ w (by omega)) (x_bb 37 [] (nmL (z8 47 s).1) (fun h4 => ?_) (fun h4 => ?_))
   ·refine zE (v := .bool (wdL (z8 47 s).2.1)) [] (fun w _ => bT _ w (by omega)) (x_bb 40 [] (wdL (z8 47 s).2.1) (fun h5 => ?_) (fun h5 => ?_))
    ·exact zE (v := .string (mkS (z8 47 s).1)) [] (fun w _ => wG _ w Om) (zE (v := .string (mkS (z8 47 s).2.1)) [] (fun w _ => wG _ w Om) (mO [] (YI 3) (.string (mkS (z8 47 s).1)) (.string (mkS (z8 47 s).2.1)) fun w hO => three hno (by rw [h3, h4, h5]; rfl) hO))
    ·exact mO [] (YI 0) (.string ⟨#[]⟩) (.string ⟨#[]⟩) fun w hO => zero hno (by rw [h3, h4, h5]; rfl) hO
   ·exact mO [] (YI 0) (.string ⟨#[]⟩) (.string ⟨#[]⟩) fun w hO => zero hno (by rw [h3, h4]; rfl) hO
  ·exact mO [] (YI 0) (.string ⟨#[]⟩) (.string ⟨#[]⟩) fun w hO => zero hno (by rw [h3]; rfl) hO
end
section
set_option linter.unnecessarySimpa false
structure At (W : World) (A : Option Addr) (xs : List Fv) (B : Option Addr) (asked : List (List UInt8)) (w : World) : Prop where
 hv : FtIn w w.heap.size A xs
 hu : Reads y9 w w.heap.size B asked
 hb : Below W.heap.size W w
end
section
set_option linter.unnecessarySimpa false
theorem tless_or (a b : List UInt8) : (Op.bytesLess a b || decide (a = b)) = !Op.bytesLess b a := by
 cases h : Op.bytesLess b a with
 | true => rw [lt_asy h, decide_eq_false (fun e => by rw [e, lt_irr] at h; cases h)]; rfl
 | false =>
  by_cases e : a = b
  ·rw [decide_eq_true e]; simp
  ·rw [lt_tri b a h (fun q => e q.symm)]; rfl
theorem run_strleq {P : Program} {ρ : Operand → Value} {o : Oper} {t t' : TypeId} {x y : Operand} {a b : List UInt8} (ho : o.op = .binOp .leq t x y t') (hx : ρ x = .string (mkS a)) (hy : ρ y = .string (mkS b)) (w : World) : (execOp ρ o).run P w = .ok (.value (.bool (!Op.bytesLess b a))) w := by
 have e : binOp .leq t (.string (mkS a)) (.string (mkS b)) = pure (.bool (!Op.bytesLess b a)) := by
  have : binOp .leq t (.string (mkS a)) (.string (mkS b)) = pure (.bool (Op.bytesLess (mkS a).toList (mkS b).toList || (mkS a).toList == (mkS b).toList)) := by simp [binOp, Op.stringOp]
  rw [this, str_beq, Lib.toList_data, Lib.toList_data, mk_data, mk_data, tless_or]
 unfold execOp
 simp only [ho, hx, hy, Sem.run_bind, guard_str, Result.andThen_ok, e, Sem.run_pure]
section
variable {M : List Nat} {P : Program} {n : Nat} {W : World} {Q : Exit → Act → World → Prop} {c : Xc}
def leqOp (o : Oper) : Bool := match o.op with
 | .binOp .leq _ _ _ _ => true
 | _ => false
def leqX (o : Oper) (i : Nat) : Operand := match o.op with
 | .binOp _ _ x y _ => if i = 0 then x else y
 | _ => .tmp 0
theorem x_sle (d : Nat) (h : List Nat) (s u : List UInt8) (hg : zI M P n W Q ((xgo P n (d + 50000) h c).put (.bool (!Op.bytesLess u s))))
  (hkt : (xgl P n (d + 50000) h c, xW n (xgo P n (d + 50000) h c), leqOp (xO (xgo P n (d + 50000) h c)), ev n (xgo P n (d + 50000) h c).f (leqX (xO (xgo P n (d + 50000) h c)) 0), ev n (xgo P n (d + 50000) h c).f (leqX (xO (xgo P n (d + 50000) h c)) 1)) = (xgr P n (d + 50000) h c, true, true, .string (mkS s), .string (mkS u)) := by kernel_rfl) : zI M P n W Q c := by
 simp only [Prod.mk.injEq] at hkt
 obtain ⟨hk, e1, e2, e3, e4⟩ := hkt
 refine zP h c hk (jG e1 (fun w => ?_) hg)
 generalize xO (xgo P n (d + 50000) h c) = o at *
 unfold leqOp at e2
 split at e2
 ·rename_i t x y t' ho
  have hx : leqX o 0 = x := by unfold leqX; rw [ho]; rfl
  have hy : leqX o 1 = y := by unfold leqX; rw [ho]; rfl
  rw [hx] at e3; rw [hy] at e4
  exact run_strleq ho e3 e4 w
 ·cases e2
end
theorem findfn_any (x : Fv) (n : List UInt8) (b : Nat) (W : World) (hc : W.heap[b]? = some (.cells #[.string (mkS n)] 9)) : YC 192 #[fvV x, .pointer (some ⟨b, 0, none⟩)] W (YR (.bool (decide (x.name = n))) W) := by
 have hb : b < W.heap.size := (Array.getElem?_eq_some_iff.1 hc).1
 refine zQ Tryz.func192 (wK [] fun b2 => kB 6 [0] 9 b 0 (.string (mkS n)) (fun w hO => yY Kr ((hO.below.block b hb).trans hc)) (qH 7 [] x.name n (fun h => ?_) (fun h => ?_)))
 ·exact zF [] Z4 fun w hO => ⟨by rw [decide_eq_true h], hO.below⟩
 ·exact zF [] Z5 fun w hO => ⟨by rw [decide_eq_false h], hO.below⟩
theorem idx11_any (A : Option Addr) (cap : Nat) (xs : List Fv) (n : List UInt8) (b : Nat) (W : World) (hv : FtIn W W.heap.size A xs) (hc : W.heap[b]? = some (.cells #[.string (mkS n)] 9)) : YC 191 #[.slice A xs.length cap, .func (.func 192) #[] #[.pointer (some ⟨b, 0, none⟩)]] W (YR (YI (findI (kA xs) n)) W) := by
 have hb : b < W.heap.size := (Array.getElem?_eq_some_iff.1 hc).1
 have hn := hv.n
 refine zQ Tryz.func191 (qO (α := Nat) (fun i => [(0, .slice A xs.length cap), (1, .func (.func 192) #[] #[Zp b 0]), (7, YI (xs.length : Int)), (8, YI (i : Int))]) (fun _ => []) (fun i m => (i ≤ xs.length ∧ ∀ y ∈ xs.take i, ¬ y.name = n) ∧ m = xs.length - i) 0 xs.length [] ⟨⟨Nat.zero_le _, fun y h => by simp at h⟩, rfl⟩ ?_)
 rintro i mm g kk ⟨⟨hi, hno⟩, hmm⟩ nx hkk
 subst hkk
 refine y8 9 [] ((i : Int) < (xs.length : Int)) (fun h9 => ?_) (fun h9 => ?_)
 rotate_left
 ·refine zF [] (YI (-1)) fun w hO => ⟨?_, hO.below⟩
  have hall := jK (p := fun y : Fv => ¬ y.name = n) (show xs.length ≤ i by omega) hno
  rw [findI, findI_none (l := kA xs) fun f hf => by obtain ⟨y, hy, rfl⟩ := List.mem_map.1 hf; exact hall y hy]
 have hj : i < xs.length := by omega
 obtain ⟨eb, eo, hA, hel⟩ := hv.top.elem fvC_len i hj
 have hgo := gL (p := fun y : Fv => ¬ y.name = n) hj hno
 have hel0 : ∀ w, Below W.heap.size W w → (loadVar 63 ⟨eb, eo + i * 2 + 0, none⟩).run Tryz.prog w = .ok (fvV xs[i]) w := fun w hw => hel w hw _ 0 _ Kr
 have hcf : ∀ w, Below W.heap.size W w → YC 192 #[fvV xs[i], .pointer (some ⟨b, 0, none⟩)] w (YR (.bool (decide (xs[i].name = n))) w) := fun w hw => findfn_any xs[i] n b w ((hw.block b hb).trans hc)
 refine kH 14 [] hA xs.length cap i 2 hj (kB 15 [] 63 eb (eo + i * 2 + 0) (fvV xs[i]) (fun w hO => hel0 w hO.below) (zE (v := .bool (decide (xs[i].name = n))) [] (fun w hO => hcf w hO.below) (x_now 16 (xs[i].name = n) (fun h16 => ?_) (fun h16 => ?_))))
 ·refine zF [] (YI (i : Int)) fun w hO => ⟨?_, hO.below⟩
  rw [findI, findI_at (l := kA xs) (i := i) (by rw [nG]; exact hj) (by rw [ftOf_get hj rfl]; exact h16) (fun f hf => by rw [← ftOf_take] at hf; obtain ⟨y, hy, rfl⟩ := List.mem_map.1 hf; exact hno y hy)]
 ·exact x_i 18 [] ((i + 1 : Nat) : Int) (nx (i + 1) (xs.length - (i + 1)) [] Om ⟨⟨hj, hgo h16⟩, rfl⟩ Kr Kr)
theorem fFind_at (A : Option Addr) (cap : Nat) (xs : List Fv) (n : List UInt8) (W : World) (hv : FtIn W W.heap.size A xs) : YC 159 #[.slice A xs.length cap, .string (mkS n)] W (YR (YI (findI (kA xs) n)) W) := by
 refine zQ Tryz.func159 (wK [] fun b => x_val 6 [] (.func (.func 192) #[] #[Zp b 0]) (fun w => Kr) (zE (v := YI (findI (kA xs) n)) [] (fun w hO => idx11_any A cap xs n b w (hv.on hO.below hO.size) ((hO.past 0 [⟨b, #[.string (mkS n)], 9⟩]).get (i := 0) rfl)) (zF [] _ fun w hO => ⟨rfl, hO.below⟩)))
theorem fhas_any (A : Option Addr) (cap : Nat) (xs : List Fv) (n : List UInt8) (W : World) (hv : FtIn W W.heap.size A xs) : YC 119 #[.slice A xs.length cap, .string (mkS n)] W (YR (.bool (isT (kA xs) n)) W) := by
 refine zQ Tryz.func119 (qH 6 [] n dfl (fun h => ?_) (fun h => ?_))
 ·exact zF [] Z4 fun w hO => ⟨by rw [findI_isT, decide_eq_true h]; rfl, hO.below⟩
 ·exact zE (v := YI (findI (kA xs) n)) [] (fun w hO => fFind_at A cap xs n w (hv.on hO.below hO.size)) (zF [] (.bool (decide (0 ≤ findI (kA xs) n))) fun w hO => ⟨by rw [findI_isT, decide_eq_false h]; rfl, hO.below⟩)
def gT (l : List (List UInt8)) (i : Nat) : List UInt8 := if h : 0 < i ∧ i - 1 < l.length then l[i - 1] else []
theorem lastT_succ {l : List (List UInt8)} {i : Nat} (hi : i < l.length) : gT l (i + 1) = l[i] := by
 unfold gT; rw [dif_pos ⟨Nat.succ_pos _, by simpa using hi⟩]; rfl
theorem less_nil {s : List UInt8} (h : s ≠ []) : Op.bytesLess [] s = true := by
 cases s with
 | nil => exact absurd rfl h
 | cons _ _ => rfl
theorem fmayOf_any (A : Option Addr) (cap : Nat) (xs : List Fv) (B : Option Addr) (capb : Nat) (of : List (List UInt8)) (W : World) (hv : FtIn W W.heap.size A xs) (hu : Reads y9 W W.heap.size B of) (hn : of.length ≤ 5000) (ht : ∀ s ∈ of, s.length ≤ 1000000) : YC 69 #[.slice B of.length capb, .slice A xs.length cap] W (YR (.bool (qU (kA xs) of)) W) := by
 refine zQ Tryz.func69 (y8 13 [] ((6 : Int) < (of.length : Int)) (fun h13 => ?_) (fun h13 => ?_))
 ·exact zF [] Z5 fun w hO => ⟨by rw [items_not (.inl Om)], hO.below⟩
 refine qO (α := Nat) (fun i => [(0, .slice B of.length capb), (1, .slice A xs.length cap), (5, .string (mkS (gT of i))), (14, .slice B of.length capb), (15, YI (of.length : Int)), (16, YI (i : Int))]) (fun _ => []) (fun i m => (i ≤ of.length ∧ (∀ s ∈ of.take i, bM (kA xs) s = true) ∧ ∀ z (hz : z + 1 < of.length), z + 1 < i → Op.bytesLess (of[z]'Om) of[z + 1] = true) ∧ m = of.length - i) 0 of.length [] ⟨⟨Nat.zero_le _, fun y h => by simp at h, fun z hz h => by omega⟩, rfl⟩ ?_
 rintro i mm g kk ⟨⟨hi, hok, hup⟩, hmm⟩ nx hkk
 subst hkk
 refine y8 17 [] ((i : Int) < (of.length : Int)) (fun h17 => ?_) (fun h17 => ?_)
 rotate_left
 ·exact zF [] Z4 fun w hO => ⟨by rw [items_yes Om (rise_iff.2 fun z hz => hup z hz Om) (jK Om hok)], hO.below⟩
 have hj : i < of.length := by omega
 have hsm : of[i] ∈ of := List.getElem_mem hj
 have hlast : i ≠ 0 → gT of i = of[i - 1]'Om := fun h => by unfold gT; rw [dif_pos ⟨by omega, by omega⟩]
 have hgo := gL (p := fun s => bM (kA xs) s = true) hj hok
 have hl1 := lastT_succ hj
 obtain ⟨eb, eo, hA, hel⟩ := hu.elem zZ i hj
 have hsh := ht _ hsm
 have hel' := fun w hO ty => hel w hO ty 0 (.string (mkS of[i]))
 have hbig := hup
 obtain ⟨s, hs⟩ : ∃ s, of[i] = s := ⟨_, rfl⟩
 simp only [hs] at hsh hsm hgo hl1 hel'
 have hno : bM (kA xs) s = false → qU (kA xs) of = false := fun h => items_not (.inr (.inr ⟨s, hsm, h⟩))
 refine kH 18 [] hA of.length capb i 1 hj (kB 19 [] 9 eb (eo + i * 1 + 0) (.string (mkS s)) (fun w hO => hel' w hO.below _ Kr) (zE (v := .tuple #[YI (zX s).1, .string (mkS (zX s).2.1), .string (mkS (zX s).2.2)]) [] (fun w hO => fItem_at s w hsh) (y8 27 [] ((zX s).1 = 0) (fun h27 => ?_) (fun h27 => ?_))))
 ·exact zF [] Z5 fun w hO => ⟨by rw [hno (by unfold bM; simp [h27])], hO.below⟩
 refine x_sle 31 [] s (gT of i) (xE 31 (!Op.bytesLess (gT of i) s) (fun h31 => ?_) (fun h31 => ?_))
 ·refine zF [] Z5 fun w hO => ⟨?_, hO.below⟩
  have h0 : i ≠ 0 := fun h0 => by
   subst h0
   have : gT of 0 = [] := by unfold gT; rw [dif_neg Om]
   rw [this, less_nil (fun e => h27 (by rw [e]; decide))] at h31; cases h31
  rw [hlast h0] at h31
  have : kZ of = false := by
   cases hr : kZ of with
   | false => rfl
   | true =>
    have q := rise_iff.1 hr (i - 1) Om
    have e2 : of[i - 1 + 1]'Om = s := by rw [← hs]; congr 1; omega
    rw [e2] at q
    rw [q] at h31; cases h31
  rw [items_not (.inr (.inl this))]
 have hup2 : ∀ z (hz : z + 1 < of.length), z + 1 < i + 1 → Op.bytesLess (of[z]'Om) of[z + 1] = true := fun z hz hzi => by
  rcases Nat.lt_succ_iff_lt_or_eq.1 hzi with q | q
  ·exact hup z hz q
  ·have h0 : i ≠ 0 := by omega
   rw [hlast h0] at h31
   have e1 : of[i - 1]'Om = of[z]'Om := by congr 1; omega
   have e2 : of[z + 1] = s := by rw [← hs]; congr 1
   rw [← e1, e2]; simpa using h31
 refine y8 35 [] ((zX s).1 = 1) (fun h35 => ?_) (fun h35 => ?_)
 ·have hc : ∀ w, Below W.heap.size W w → YC 119 #[.slice A xs.length cap, .string (mkS (zX s).2.1)] w (YR (.bool (isT (kA xs) (zX s).2.1)) w) := fun w hb => fhas_any A cap xs _ w (hv.on hb hb.size)
  refine zE (v := .bool (isT (kA xs) (zX s).2.1)) [] (fun w hO => hc w hO.below) (xE 39 (isT (kA xs) (zX s).2.1) (fun h39 => ?_) (fun h39 => ?_))
  ·exact x_i 44 [] ((i + 1 : Nat) : Int) (jO 5 [] (.string (mkS s)) (.string (mkS (gT of (i + 1)))) (by rw [hl1]) (nx (i + 1) (of.length - (i + 1)) [] Om ⟨⟨hj, hgo (by unfold bM; simp [h35, h39]), hup2⟩, rfl⟩ Kr Kr))
  ·exact zF [] Z5 fun w hO => ⟨by rw [hno (by unfold bM; simp [h35, h39])], hO.below⟩
 ·exact x_i 44 [] ((i + 1 : Nat) : Int) (jO 5 [] (.string (mkS s)) (.string (mkS (gT of (i + 1)))) (by rw [hl1]) (nx (i + 1) (of.length - (i + 1)) [] Om ⟨⟨hj, hgo (by unfold bM; simp [h27, h35]), hup2⟩, rfl⟩ Kr Kr))
end
section
set_option linter.unnecessarySimpa false
structure RecLib (W : World) : Prop where
 lib : HasLib W
 keys : MkLib W
theorem RecLib.on {W w : World} (h : RecLib W) (hb : Below W.heap.size W w) : RecLib w := ⟨h.lib.on hb, h.keys.on hb⟩
theorem qRange_any (s : List UInt8) (W : World) (hs : s.length ≤ 1000000) (hK : RecLib W) : YC 116 #[.string (mkS s)] W (YR (.bool (gB s)) W) := by
 have hp : ∀ w, Below W.heap.size W w → YC 152 #[.string (mkS s)] w fun e w' => ∃ v ob, e = .returned v ∧ (∃ A cap xs o1 o2, v = .tuple #[.agg #[.slice A xs.length cap], YI (hZ s)] ∧ ob = o1 ++ o2 ∧ gU xs = (gQ s).getD [] ∧ RgA (.slice A xs.length cap) xs o1 o2) ∧ Own [] w w' ob := fun w hb => by
  refine (gParse_any s w hs (hK.lib.on hb)).mono fun e w' ⟨v', ob', k1, ⟨xs, u, o1, o2, k3, k4, k5, k6⟩, k7⟩ => ?_
  obtain ⟨A, cap, rfl⟩ : ∃ A cap, u = .slice A xs.length cap := by
   rcases k6.top.2 with ⟨h1, h2, _⟩ | ⟨g, cap, _, h1, _⟩
   ·exact ⟨none, 0, by rw [h1, h2]⟩
   ·exact ⟨_, cap, h1⟩
  exact ⟨_, ob', k1, ⟨A, cap, xs, o1, o2, by rw [k3], k4, k5, k6⟩, k7⟩
 refine zQ Tryz.func116 (qP (R := fun v ob => ∃ A cap xs o1 o2, v = .tuple #[.agg #[.slice A xs.length cap], YI (hZ s)] ∧ ob = o1 ++ o2 ∧ gU xs = (gQ s).getD [] ∧ RgA (.slice A xs.length cap) xs o1 o2) [] (fun w hO => hp w hO.below) ?_)
 rintro v ob ⟨A, cap, xs, o1, o2, rfl, rfl, hx, hR⟩
 refine zV [] fun b => y8 11 [0] (hZ s = 0) (fun h11 => ?_) (fun h11 => ?_)
 rotate_left
 ·exact zF [] Z5 fun w hO => ⟨by unfold gB; rw [decide_eq_false h11]; rfl, hO.below⟩
 have hf := fine_get h11
 rw [← hx] at hf
 have hq : ∀ w, Own [] W w (o1 ++ o2) → YC 153 #[.agg #[.slice A xs.length cap]] w (YR (.string (mkS (fB (gU xs)))) w) := fun w hO => gPrint_any A cap xs w (hR.inn rfl hO (fun x hx => List.mem_append_left _ hx) (fun x hx => List.mem_append_right _ hx) hf) (hK.lib.on hO.below)
 refine zE (v := .string (mkS (fB (gU xs)))) [0] (fun w hO => hq w (hO.past 1 _)) (qH 16 [] (fB (gU xs)) s (fun h => ?_) (fun h => ?_))
 ·exact zF [] Z4 fun w hO => ⟨by unfold gB; rw [decide_eq_true h11, ← hx, decide_eq_true h]; rfl, hO.below⟩
 ·exact zF [] Z5 fun w hO => ⟨by unfold gB; rw [decide_eq_true h11, ← hx, decide_eq_false h]; rfl, hO.below⟩
theorem nodL_cases (s : List UInt8) : bO s = [] ∨ ∃ t : Tr, t.ok = true ∧ t.fit = true ∧ bO s = t.enc 0 := by
 unfold bO
 split
 ·exact .inl rfl
 ·split
  ·exact .inl rfl
  ·cases h : bG s with
   | none => exact .inl rfl
   | some t => have := readM_ok h; exact .inr ⟨t, this.1, this.2, rfl⟩
theorem nodL_fine (s : List UInt8) : (bO s).length ≤ 1000 ∧ ∀ n ∈ bO s, n.text.length ≤ 1000000 := by
 rcases nodL_cases s with e | ⟨t, ho, hf, e⟩
 ·rw [e]; simp
 ·rw [e, Tr.enc_len]
  have h15 : t.sz ≤ 15 := by unfold Tr.fit at hf; simp at hf; exact hf.1
  exact ⟨by omega, fun n hn => by have := fJ t 0 ho n hn; omega⟩
theorem qMark_any (s : List UInt8) (W : World) (hs : s.length ≤ 1000000) (hK : RecLib W) : YC 67 #[.string (mkS s)] W (YR (.bool (xG s)) W) := by
 have hp : ∀ w, Below W.heap.size W w → YC 117 #[.string (mkS s)] w fun e w' => ∃ v ob, e = .returned v ∧ (∃ A cap, v = .tuple #[.agg #[.slice A (bO s).length cap], YI (errM s)] ∧ SlN (.slice A (bO s).length cap) (bO s) ob) ∧ Own [] w w' ob := fun w hb => by
  refine (m10Parse_any s w hs (hK.keys.on hb)).mono fun e w' ⟨v', ob', k1, k2, k3⟩ => ?_
  obtain ⟨A, cap, rfl⟩ : ∃ A cap, v' = .slice A (bO s).length cap := by
   rcases k2.2 with ⟨h1, h2, _⟩ | ⟨g, cap, _, h1, _⟩
   ·exact ⟨none, 0, by rw [h1, h2]⟩
   ·exact ⟨_, cap, h1⟩
  exact ⟨_, ob', k1, ⟨A, cap, rfl, k2⟩, k3⟩
 have hfi := nodL_fine s
 refine zQ Tryz.func67 (qP (R := fun v ob => ∃ A cap, v = .tuple #[.agg #[.slice A (bO s).length cap], YI (errM s)] ∧ SlN (.slice A (bO s).length cap) (bO s) ob) [] (fun w hO => hp w hO.below) ?_)
 rintro v ob ⟨A, cap, rfl, hR⟩
 refine zV [] fun b => y8 11 [0] (errM s = 0) (fun h11 => ?_) (fun h11 => ?_)
 rotate_left
 ·exact zF [] Z5 fun w hO => ⟨by unfold xG; rw [decide_eq_false h11]; rfl, hO.below⟩
 have hq : ∀ w, Own [] W w ob → YC 118 #[.agg #[.slice A (bO s).length cap]] w (YR (.string (mkS (vJ (bO s)))) w) := fun w hO => m10Print_any A cap (bO s) w (Sl.reads hR rfl hO fun x hx => hx) hfi.1 hfi.2 (hK.keys.on hO.below)
 refine zE (v := .string (mkS (vJ (bO s)))) [0] (fun w hO => hq w (hO.past 1 _)) (qH 16 [] (vJ (bO s)) s (fun h => ?_) (fun h => ?_))
 ·exact zF [] Z4 fun w hO => ⟨by unfold xG; rw [decide_eq_true h11, decide_eq_true h]; rfl, hO.below⟩
 ·exact zF [] Z5 fun w hO => ⟨by unfold xG; rw [decide_eq_true h11, decide_eq_false h]; rfl, hO.below⟩
def vS (own name rng : List UInt8) : Int := if nmL name = false then 4 else if name = own then 8 else if gB rng = false then 6 else 0
theorem qTarget_any (n r o : List UInt8) (W : World) (hn : n.length ≤ 1000000) (hr : r.length ≤ 1000000) (hK : RecLib W) : YC 65 #[.string (mkS n), .string (mkS r), .string (mkS o)] W (YR (YI (vS o n r)) W) := by
 have c1 : ∀ w, YC 29 #[.string (mkS n)] w (YR (.bool (nmL n)) w) := fun w => iName_any n w hn
 have c2 : ∀ w, Below W.heap.size W w → YC 116 #[.string (mkS r)] w (YR (.bool (gB r)) w) := fun w hb => qRange_any r w hr (hK.on hb)
 refine zQ Tryz.func65 (zE (v := .bool (nmL n)) [] (fun w hO => c1 w) (xE 9 (nmL n) (fun h1 => ?_) (fun h1 => ?_)))
 rotate_left
 ·exact zF [] (YI 4) fun w hO => ⟨by rw [vS, if_pos h1], hO.below⟩
 refine qH 14 [] n o (fun h2 => ?_) (fun h2 => ?_)
 ·exact zF [] (YI 8) fun w hO => ⟨by rw [vS, if_neg (by simp [h1]), if_pos h2], hO.below⟩
 refine zE (v := .bool (gB r)) [] (fun w hO => c2 w hO.below) (xE 17 (gB r) (fun h3 => ?_) (fun h3 => ?_))
 ·exact zF [] (YI 0) fun w hO => ⟨by rw [vS, if_neg (by simp [h1]), if_neg h2, if_neg (by simp [h3])], hO.below⟩
 ·exact zF [] (YI 6) fun w hO => ⟨by rw [vS, if_neg (by simp [h1]), if_neg h2, if_pos h3], hO.below⟩
theorem barE_targ (own : List UInt8) (b : Bt) : wQ own b = if vS own b.name b.rng ≠ 0 then vS own b.name b.rng else if xG b.wh = false then 7 else 0 := by
 unfold wQ vS
 split
 ·simp
 ·split
  ·simp
  ·split <;> simp
theorem qBar_any (b : Bv) (own : List UInt8) (W : World) (hb : b.name.length ≤ 1000000 ∧ b.rng.length ≤ 1000000 ∧ b.wh.length ≤ 1000000) (hK : RecLib W) : YC 32 #[bvV b, .string (mkS own)] W (YR (YI (wQ own b.bt)) W) := by
 have hE : wQ own b.bt = if vS own b.name b.rng ≠ 0 then vS own b.name b.rng else if xG b.wh = false then 7 else 0 := barE_targ own b.bt
 have c1 : ∀ w, Below W.heap.size W w → YC 65 #[.string (mkS b.name), .string (mkS b.rng), .string (mkS own)] w (YR (YI (vS own b.name b.rng)) w) := fun w h => qTarget_any b.name b.rng own w hb.1 hb.2.1 (hK.on h)
 have c2 : ∀ w, Below W.heap.size W w → YC 67 #[.string (mkS b.wh)] w (YR (.bool (xG b.wh)) w) := fun w h => qMark_any b.wh w hb.2.2 (hK.on h)
 refine zQ Tryz.func32 (wK [] fun b1 => zE (v := YI (vS own b.name b.rng)) [0, 0] (fun w hO => c1 w hO.below) (x_bn 13 [] (vS own b.name b.rng = 0) (fun h1 => ?_) (fun h1 => ?_)))
 rotate_left
 ·exact zF [] (YI (vS own b.name b.rng)) fun w hO => ⟨by rw [hE, if_pos h1], hO.below⟩
 refine zE (v := .bool (xG b.wh)) [0] (fun w hO => c2 w hO.below) (xE 17 (xG b.wh) (fun h2 => ?_) (fun h2 => ?_))
 ·exact zF [] (YI 0) fun w hO => ⟨by rw [hE, if_neg (fun q => q h1), if_neg (by show ¬ xG b.wh = false; simp [h2])], hO.below⟩
 ·exact zF [] (YI 7) fun w hO => ⟨by rw [hE, if_neg (fun q => q h1), if_pos h2], hO.below⟩
def askB (l : List (List UInt8)) : Bool := l.all wdL && decide (l.length ≤ 6) && kZ l
theorem askB_not {l : List (List UInt8)} (h : (∃ s ∈ l, wdL s = false) ∨ 6 < l.length ∨ kZ l = false) : askB l = false := by
 unfold askB
 rcases h with ⟨s, hs, h⟩ | h | h
 ·rw [show l.all wdL = false from List.all_eq_false.2 ⟨s, hs, by simp [h]⟩]; rfl
 ·rw [decide_eq_false Om]; simp
 ·rw [h]; simp
theorem qAsk_any (A : Option Addr) (cap : Nat) (l : List (List UInt8)) (W : World) (hv : Reads y9 W W.heap.size A l) (hn : l.length ≤ 5000) (ht : ∀ s ∈ l, s.length ≤ 1000000) : YC 66 #[.slice A l.length cap] W (YR (.bool (askB l)) W) := by
 refine zQ Tryz.func66 (y8 8 [] ((6 : Int) < (l.length : Int)) (fun h8 => ?_) (fun h8 => ?_))
 ·exact zF [] Z5 fun w hO => ⟨by rw [askB_not (.inr (.inl Om))], hO.below⟩
 refine qO (α := Nat) (fun i => [(3, .string (mkS (gT l i))), (9, .slice A l.length cap), (10, YI (l.length : Int)), (11, YI (i : Int))]) (fun _ => []) (fun i m => (i ≤ l.length ∧ (∀ s ∈ l.take i, wdL s = true) ∧ ∀ z (hz : z + 1 < l.length), z + 1 < i → Op.bytesLess (l[z]'Om) l[z + 1] = true) ∧ m = l.length - i) 0 l.length [] ⟨⟨Nat.zero_le _, fun y h => by simp at h, fun z hz h => by omega⟩, rfl⟩ ?_
 rintro i mm g kk ⟨⟨hi, hok, hup⟩, hmm⟩ nx hkk
 subst hkk
 refine y8 12 [] ((i : Int) < (l.length : Int)) (fun h12 => ?_) (fun h12 => ?_)
 rotate_left
 ·refine zF [] Z4 fun w hO => ⟨?_, hO.below⟩
  have hall := jK (p := fun s => wdL s = true) (show l.length ≤ i by omega) hok
  have : askB l = true := by
   unfold askB
   rw [List.all_eq_true.2 hall, decide_eq_true Om, rise_iff.2 fun z hz => hup z hz Om]; rfl
  rw [this]
 have hj : i < l.length := by omega
 have hsm : l[i] ∈ l := List.getElem_mem hj
 have hlast : i ≠ 0 → gT l i = l[i - 1]'Om := fun h => by unfold gT; rw [dif_pos ⟨by omega, by omega⟩]
 have hgo := gL (p := fun s => wdL s = true) hj hok
 have hl1 := lastT_succ hj
 obtain ⟨eb, eo, hA, hel⟩ := hv.elem zZ i hj
 have hsh := ht _ hsm
 have hel' := fun w hO ty => hel w hO ty 0 (.string (mkS l[i]))
 obtain ⟨s, hs⟩ : ∃ s, l[i] = s := ⟨_, rfl⟩
 simp only [hs] at hsh hsm hgo hl1 hel'
 refine kH 13 [] hA l.length cap i 1 hj (kB 14 [] 9 eb (eo + i * 1 + 0) (.string (mkS s)) (fun w hO => hel' w hO.below _ Kr) (zE (v := .bool (wdL s)) [] (fun w hO => bT s w hsh) (xE 16 (wdL s) (fun h16 => ?_) (fun h16 => ?_))))
 rotate_left
 ·exact zF [] Z5 fun w hO => ⟨by rw [askB_not (.inl ⟨s, hsm, h16⟩)], hO.below⟩
 refine x_sle 21 [] s (gT l i) (xE 21 (!Op.bytesLess (gT l i) s) (fun h21 => ?_) (fun h21 => ?_))
 ·refine zF [] Z5 fun w hO => ⟨?_, hO.below⟩
  have h0 : i ≠ 0 := fun h0 => by
   subst h0
   have : gT l 0 = [] := by unfold gT; rw [dif_neg Om]
   rw [this, less_nil (fun e => by rw [e] at h16; exact absurd h16 (by decide))] at h21; cases h21
  rw [hlast h0] at h21
  have : kZ l = false := by
   cases hr : kZ l with
   | false => rfl
   | true =>
    have q := rise_iff.1 hr (i - 1) Om
    have e2 : l[i - 1 + 1]'Om = s := by rw [← hs]; congr 1; omega
    rw [e2] at q
    rw [q] at h21; cases h21
  rw [askB_not (.inr (.inr this))]
 have hup2 : ∀ z (hz : z + 1 < l.length), z + 1 < i + 1 → Op.bytesLess (l[z]'Om) l[z + 1] = true := fun z hz hzi => by
  rcases Nat.lt_succ_iff_lt_or_eq.1 hzi with q | q
  ·exact hup z hz q
  ·have h0 : i ≠ 0 := by omega
   rw [hlast h0] at h21
   have e1 : l[i - 1]'Om = l[z]'Om := by congr 1; omega
   have e2 : l[z + 1] = s := by rw [← hs]; congr 1
   rw [← e1, e2]; simpa using h21
 refine jO 3 [] (.string (mkS s)) (.string (mkS (gT l (i + 1)))) (by rw [hl1]) (x_i 11 [] ((i + 1 : Nat) : Int) (nx (i + 1) (l.length - (i + 1)) [] Om ⟨⟨hj, hgo h16, hup2⟩, rfl⟩ Kr Kr))
end
section
set_option linter.unnecessarySimpa false
def laV (l : La) : Value := .agg #[YI (l.kind : Int), .string (mkS l.word), YI (l.lo : Int), YI (l.hi : Int), YI (l.parts : Int), .bool l.opn, .bool l.more]
def laB (l : La) (b : Nat) : Blk := ⟨b, (laV l).cells, 131⟩
theorem laPs_ne (l : La) (s : List UInt8) : 0 < (x7 l s).length := by
 unfold x7
 split
 ·exact (dC 32 _ s).1
 ·exact List.length_pos_iff.2 (qA 32 _ _)
theorem laPs_few (l : La) (s : List UInt8) (hp : l.parts ≤ 1000) : (x7 l s).length ≤ s.length + 1001 := by
 unfold x7
 split
 ·have := (dC 32 (l.parts - 1) s).2; omega
 ·have := pV 32 s; omega
theorem qCut_any (l : La) (s : List UInt8) (W : World) (hs : s.length ≤ 1000000) (hp : 1 ≤ l.parts ∧ l.parts ≤ 1000) : YC 95 #[laV l, .string (mkS s)] W fun e w' => ∃ v' ob', e = .returned (.tuple #[v', .bool (dG l s)]) ∧ SlT v' (x7 l s) ob' ∧ Own [] W w' ob' := by
 obtain ⟨z0, hz0⟩ : ∃ z : Int, z = if l.opn then (l.parts : Int) else -1 := ⟨_, rfl⟩
 have hsp : ∀ w, YC 141 #[.string (mkS s), .string ⟨#[32]⟩, YI z0] w fun e w' => ∃ v ob, e = .returned v ∧ SlT v (x7 l s) ob ∧ Own [] w w' ob := fun w => by
  have h := splitN32_any s z0 w hs (by rw [hz0]; split <;> omega)
  have e : (if z0 < 0 then zB 32 [] s else wW 32 (z0.toNat - 1) s) = x7 l s := by
   unfold x7
   rw [hz0]
   cases l.opn with
   | true => rw [if_pos rfl, if_pos rfl, if_neg Om, Int.toNat_natCast]
   | false => rw [if_neg Bool.false_ne_true, if_neg Bool.false_ne_true, if_pos (by decide)]
  rw [e] at h
  exact h
 refine zQ Tryz.func95 (wK [] fun b2 => m7 10 (α := Int) (fun z => [(1, .string (mkS s)), (2, Zp b2 0), (6, YI z)]) (fun _ => [laB l b2]) (fun z => z = z0) [0] (fun nj => xE 10 l.opn (fun h => nj (l.parts : Int) [0] (by rw [hz0, h]; rfl) Kr) (fun h => nj (-1) [] (by rw [hz0, h]; rfl) Kr)) (fun z g hz => ?_))
 subst hz
 refine qP (R := fun v ob => SlT v (x7 l s) ob) [] (fun w hO => hsp w) fun v ob hR => ?_
 have hne := laPs_ne l s
 have hfew := laPs_few l s hp.2
 obtain ⟨g1, cap, cur, rfl, rfl, hcap⟩ : ∃ g cap cur, v = .slice (some ⟨g, 0, none⟩) (x7 l s).length cap ∧ ob = [⟨g, cur, 9⟩] ∧ True := by
  rcases hR.2 with ⟨_, h, _⟩ | ⟨g, cap, cur, h1, h2, _⟩
  ·omega
  ·exact ⟨g, cap, cur, h1, h2, trivial⟩
 have hrd : ∀ w, Own [] W w [laB l b2, ⟨g1, cur, 9⟩] → Reads y9 w w.heap.size (some ⟨g1, 0, none⟩) (x7 l s) := fun w hO => SlT.reads hR rfl hO fun x hx => List.mem_cons_of_mem _ hx
 obtain ⟨a, ha⟩ : ∃ a, (x7 l s)[0] = a := ⟨_, rfl⟩
 have ha0 : (x7 l s).getD 0 [] = a := by rw [List.getD_eq_getElem?_getD, List.getElem?_eq_getElem hne, ha]; rfl
 have hld : ∀ w, Own [] W w [laB l b2, ⟨g1, cur, 9⟩] → (loadVar 9 ⟨g1, 0 + 0 * 1 + 0, none⟩).run Tryz.prog w = .ok (.string (mkS a)) w := fun w hO => by
  obtain ⟨b, off, e, hel⟩ := (hrd w hO).elem zZ 0 hne
  obtain ⟨rfl, rfl⟩ : g1 = b ∧ 0 = off := by cases e; exact ⟨rfl, rfl⟩
  exact hel w (Below.refl _ _) _ 0 _ (by rw [ha]; kernel_rfl)
 have hno : ∀ w, Own [] W w [laB l b2, ⟨g1, cur, 9⟩] → YC 142 #[.slice (some ⟨g1, 0, none⟩) (x7 l s).length cap, .string ⟨#[]⟩] w (YR (.bool (!noE (x7 l s))) w) := fun w hO => qHole_any _ cap (x7 l s) w (hrd w hO) Om
 have hE : dG l s = ((decide (((x7 l s).length : Int) = (l.parts : Int)) || (l.more && decide (((x7 l s).length : Int) > (l.parts : Int)))) && decide (a = l.word) && noE (x7 l s)) := by
  unfold dG
  rw [ha0]
  congr 3
  ·exact decide_eq_decide.2 Om
  ·congr 1; exact decide_eq_decide.2 Om
 have bad : ∀ w, dG l s = false → Own [] W w [laB l b2, ⟨g1, cur, 9⟩] → ∃ v' ob', Ending.returned (.tuple #[.slice (some ⟨g1, 0, none⟩) (x7 l s).length cap, .bool false]) = .returned (.tuple #[v', .bool (dG l s)]) ∧ SlT v' (x7 l s) ob' ∧ Own [] W w ob' := fun w h hO => ⟨_, _, by rw [h], hR, hO.past 1 _⟩
 generalize x7 l s = ps at *
 refine y8 20 [0] ((ps.length : Int) = (l.parts : Int)) (fun h20 => ?_) (fun h20 => x_bb 23 [0] l.more (fun h23 => y8 29 [0] ((ps.length : Int) > (l.parts : Int)) (fun h29 => ?_) (fun h29 => ?_)) (fun h23 => ?_))
 case refine_3 => exact qN [] (.slice (some ⟨g1, 0, none⟩) ps.length cap) (.bool false) fun w hO => bad w (by rw [hE, decide_eq_false h20, decide_eq_false h29]; simp) (hO.past 0 _)
 case refine_4 => exact qN [] (.slice (some ⟨g1, 0, none⟩) ps.length cap) (.bool false) fun w hO => bad w (by rw [hE, decide_eq_false h20, h23]; simp) (hO.past 0 _)
 all_goals
  have hN : (decide ((ps.length : Int) = (l.parts : Int)) || (l.more && decide ((ps.length : Int) > (l.parts : Int)))) = true := by
   first | (rw [decide_eq_true h20]; rfl) | (rw [h23, decide_eq_true h29]; simp)
  rw [hN, Bool.true_and] at hE
  refine kH 36 [] (A := some ⟨g1, 0, none⟩) rfl ps.length cap 0 1 hne (kB 37 [] 9 g1 (0 + 0 * 1 + 0) (.string (mkS a)) (fun w hO => hld w (hO.past 0 _)) (qH 40 [0] a l.word (fun h40 => ?_) (fun h40 => ?_)))
  rotate_left
  ·exact qN [] (.slice (some ⟨g1, 0, none⟩) ps.length cap) Z5 fun w hO => bad w (by rw [hE, decide_eq_false h40]; rfl) (hO.past 0 _)
  refine zE (v := .bool (!noE ps)) [] (fun w hO => hno w (hO.past 0 _)) (xE 44 (!noE ps) (fun h44 => ?_) (fun h44 => ?_))
  ·exact qN [] (.slice (some ⟨g1, 0, none⟩) ps.length cap) Z5 fun w hO => bad w (by rw [hE, show noE ps = false by simpa using h44]; simp) (hO.past 0 _)
  ·exact qN [] (.slice (some ⟨g1, 0, none⟩) ps.length cap) Z4 fun w hO => ⟨_, _, by rw [hE, decide_eq_true h40, show noE ps = true by simpa using h44]; rfl, hR, hO.past 1 _⟩
theorem qFeats_any (s : List UInt8) (W : World) (hs : s.length ≤ 1000000) (hK : HasLib W) : YC 145 #[.string (mkS s)] W fun e w' => ∃ v' ob', e = .returned v' ∧ SlT v' (if s = [45] then [] else zB 44 [] s) ob' ∧ Own [] W w' ob' := by
 have hc : ∀ w, Below W.heap.size W w → YC 177 #[.string (mkS s), .string ⟨#[44]⟩] w fun e w' => ∃ v ob, e = .returned v ∧ SlT v (zB 44 [] s) ob ∧ Own [] w w' ob := fun w hb => split_comma s w hs (hK.on hb)
 refine zQ Tryz.func145 (qH 4 [] s [45] (fun h => ?_) (fun h => ?_))
 ·exact zF [] (.slice none 0 0) fun w hO => ⟨_, [], rfl, by rw [if_pos h]; exact Sl.nil _ _, hO.past 0 _⟩
 ·exact qP (R := fun v ob => SlT v (zB 44 [] s) ob) [] (fun w hO => hc w hO.below) fun v ob hR => (zF [] v fun w hO => ⟨v, ob, rfl, by rw [if_neg h]; exact hR, hO.past 0 _⟩)
theorem qLastN_any (g n cap : Nat) (W : World) (hn : n + 1 ≤ 1000000) : YC 144 #[.slice (some ⟨g, 0, none⟩) (n + 1) cap] W (YR (.pointer (some ⟨g, n * 3, none⟩)) W) := by
 refine zQ Tryz.func144 (jO 6 [] (YI (IntKind.i64.wrap (((n + 1 : Nat) : Int) - 1))) (YI (n : Int)) (by rw [show (((n + 1 : Nat) : Int) - 1) = (n : Int) by omega, IntWalk.i64_in _ Om]) ?_)
 refine kH 7 [] (A := some ⟨g, 0, none⟩) rfl (n + 1) cap n 3 (Nat.lt_succ_self _) (zF [] (Zp g (0 + (n : Int).toNat * 3)) fun w hO => ⟨?_, hO.below⟩)
 rw [Nat.zero_add, Int.toNat_natCast]
theorem qLastB_any (g n cap : Nat) (W : World) (hn : n + 1 ≤ 1000000) : YC 146 #[.slice (some ⟨g, 0, none⟩) (n + 1) cap] W (YR (.pointer (some ⟨g, n * 3, none⟩)) W) := by
 refine zQ Tryz.func146 (jO 6 [] (YI (IntKind.i64.wrap (((n + 1 : Nat) : Int) - 1))) (YI (n : Int)) (by rw [show (((n + 1 : Nat) : Int) - 1) = (n : Int) by omega, IntWalk.i64_in _ Om]) ?_)
 refine kH 7 [] (A := some ⟨g, 0, none⟩) rfl (n + 1) cap n 3 (Nat.lt_succ_self _) (zF [] (Zp g (0 + (n : Int).toNat * 3)) fun w hO => ⟨?_, hO.below⟩)
 rw [Nat.zero_add, Int.toNat_natCast]
end
section
set_option linter.unnecessarySimpa false
theorem Sl.putLast {α : Type} {gC : α → List Value} {T sz g cap : Nat} (hg : ∀ x, (gC x).length = sz) {cur : Array Value} {ini : List α} {n : α} (h : Sl T sz (.slice (some ⟨g, 0, none⟩) (ini.length + 1) cap) (ini.length + 1) ((ini ++ [n]).flatMap gC) [⟨g, cur, T⟩]) (n' : α) (fo : Nat) (vs : Array Value) (hfit : fo + vs.size ≤ sz) (hy : gC n' = (gC n).take fo ++ vs.toList ++ (gC n).drop (fo + vs.size)) :
  Sl T sz (.slice (some ⟨g, 0, none⟩) (ini.length + 1) cap) (ini.length + 1) ((ini ++ [n']).flatMap gC) [⟨g, zW cur (ini.length * sz + fo) vs, T⟩] ∧ ini.length * sz + fo + vs.size ≤ cur.size := by
 obtain ⟨h1, h2⟩ := h
 rcases h2 with ⟨e, _⟩ | ⟨g', cap', cur', e1, e2, e3, e4, e5, e6⟩
 ·cases e
 ·obtain ⟨rfl, rfl⟩ : g = g' ∧ cap = cap' := by cases e1; exact ⟨rfl, rfl⟩
  obtain rfl : cur = cur' := by cases e2; rfl
  have hk : ini.length < (ini ++ [n]).length := by simp
  have hs := store_elem hg (cur := cur) (l := ini ++ [n]) (by rw [List.length_append]; exact e6) ini.length fo hk vs n' hfit (by rw [List.getElem_append_right (Nat.le_refl _)]; simpa using hy)
  have hset : (ini ++ [n]).set ini.length n' = ini ++ [n'] := by simp
  rw [hset, List.length_append, List.length_singleton] at hs
  have hcap : (ini.length + 1) * sz ≤ cap * sz := Nat.mul_le_mul_right _ e3
  have hm : (ini.length + 1) * sz = ini.length * sz + sz := Nat.succ_mul ..
  refine ⟨⟨?_, .inr ⟨g, cap, _, rfl, rfl, e3, e4, by rw [hs.2]; exact e5, hs.1⟩⟩, by omega⟩
  rw [j7 hg]; simp
theorem Sl.lastAt {α : Type} {gC : α → List Value} {T sz g cap : Nat} (hg : ∀ x, (gC x).length = sz) {cur : Array Value} {ini : List α} {n : α} (h : Sl T sz (.slice (some ⟨g, 0, none⟩) (ini.length + 1) cap) (ini.length + 1) ((ini ++ [n]).flatMap gC) [⟨g, cur, T⟩]) (j : Nat) (u : Value) (hj : (gC n)[j]? = some u) : cur[ini.length * sz + j]? = some u := by
 obtain ⟨h1, h2⟩ := h
 rcases h2 with ⟨e, _⟩ | ⟨g', cap', cur', e1, e2, e3, e4, e5, e6⟩
 ·cases e
 ·obtain rfl : cur = cur' := by cases e2; rfl
  have hjs : j < sz := by have := (List.getElem?_eq_some_iff.1 hj).1; rwa [hg] at this
  have hm : (ini.length + 1) * sz = ini.length * sz + sz := Nat.succ_mul ..
  have h3 : (cur.toList.take ((ini.length + 1) * sz))[ini.length * sz + j]? = some u := by
   rw [e6, List.flatMap_append, List.getElem?_append_right (by rw [j7 hg]; omega), j7 hg, show ini.length * sz + j - ini.length * sz = j by omega, List.flatMap_singleton]
   exact hj
  rw [List.getElem?_take, if_pos Om] at h3
  simpa using h3
structure NdL (A : Option Addr) (c : Nat) (xs : List Nv) (o1 oa og oi : List Blk) : Prop where
 top : Sl 57 3 (.slice A xs.length c) xs.length (xs.flatMap nvC) o1
 split : (xs = [] ∧ oa = [] ∧ og = []) ∨ ∃ ini n, xs = ini ++ [n] ∧ (∀ x ∈ ini, ∃ o, WsO x.A x.cap x.any o ∧ ∀ b ∈ o, b ∈ oi) ∧ Sl 60 4 (.slice n.A n.any.length n.cap) n.any.length (n.any.flatMap wvC) oa ∧ ∀ u ∈ n.any, ∃ o, SlT (.slice u.A u.fs.length u.cap) u.fs o ∧ ∀ b ∈ o, b ∈ og
def rdC (x : Rv) (k : Nat) : List Value := rvC x ++ [YI (k : Int)]
def rdB (x : Rv) (k rb : Nat) : Blk := ⟨rb, (rdC x k).toArray, 71⟩
structure RdQ (x : Rv) (o1 oa og oi o4 o7 o8 : List Blk) : Prop where
 needs : NdL x.nA x.nc x.needs o1 oa og oi
 bars : Sl 54 3 (.slice x.bA x.bars.length x.bc) x.bars.length (x.bars.flatMap bvC) o4
 fts : FtO x.fA x.fc x.fts o7 o8
def zY (oa og oi o4 o7 o8 : List Blk) : List Blk := oa ++ (og ++ (oi ++ (o4 ++ (o7 ++ o8))))
def RdR (rb k : Nat) (x : Rv) (ob : List Blk) : Prop := ∃ o1 oa og oi o4 o7 o8, ob = rdB x k rb :: (o1 ++ zY oa og oi o4 o7 o8) ∧ RdQ x o1 oa og oi o4 o7 o8
structure Few (x : Rv) : Prop where
 n : x.needs.length ≤ 5000
 b : x.bars.length ≤ 5000
 f : x.fts.length ≤ 5000
 a : ∀ n ∈ x.needs, n.any.length ≤ 5000
theorem fP {M : List Nat} {A : Option Addr} {ps : List (List UInt8)} {W : World} (hv : ReadsA M y9 W A ps) (h0 : 0 < ps.length) : ∃ pb po, A = some ⟨pb, po, none⟩ ∧ ∀ (w : World), Own M W w [] → ∀ j, j < ps.length → (loadVar 9 ⟨pb, po + j * 1 + 0, none⟩).run Tryz.prog w = .ok (.string (mkS (ps.getD j []))) w := by
 obtain ⟨pb, po, e, hlt, hm, hc⟩ := hv h0
 refine ⟨pb, po, e, fun w hO j hj => ?_⟩
 obtain ⟨b, off, e2, hel⟩ := (hv.at hO).elem zZ j hj
 obtain ⟨rfl, rfl⟩ : pb = b ∧ po = off := by rw [e] at e2; cases e2; exact ⟨rfl, rfl⟩
 exact hel w (Below.refl _ _) _ 0 _ (by rw [show ps.getD j [] = ps[j] by rw [List.getD_eq_getElem?_getD, List.getElem?_eq_getElem hj]; rfl]; kernel_rfl)
structure AddB (rb kd : Nat) (x : Rv) (ps : List (List UInt8)) (ob : List Blk) (W : World) (e : Ending) (w' : World) : Prop where
 ex : ∃ x' ob', e = .returned (.bool (fY x.rt kd ps).2) ∧ x'.rt = (fY x.rt kd ps).1 ∧ RdR rb kd x' ob' ∧ Own (ob.map Blk.b) W w' ob'
section
variable {M : List Nat} {P : Program} {n : Nat} {W : World} {Q : Exit → Act → World → Prop} {c : Xc}
theorem x_hold (L1 L2 : List Blk) (hs : ∀ w, Own M W w L1 → Own M W w L2) (hg : zI M P n W Q { c with L := L2 }) (hkt : (c.L, xQ c) = (L1, false) := by kernel_rfl) : zI M P n W Q c := by
 simp only [Prod.mk.injEq] at hkt
 obtain ⟨f1, hqq⟩ := hkt
 obtain ⟨top, kk, L, f⟩ := c
 dsimp only at f1
 subst f1
 cases top with
 | ops a r => exact ⟨fun hq => dR hs (hg.go hq)⟩
 | code x => exact ⟨fun hq => ok_take hs (hg.go hq)⟩
 | fin e => exact ⟨fun hq => jV hs (hg.go hq)⟩
 | _ => cases hqq
end
theorem lastN_at (g m cap N : Nat) (hN : N = m + 1) (hm : m ≤ 5000) : ∀ w, YC 144 #[.slice (some ⟨g, 0, none⟩) N cap] w (YR (.pointer (some ⟨g, m * 3, none⟩)) w) := fun w => by subst hN; exact qLastN_any g m cap w Om
theorem lastB_at (g m cap N : Nat) (hN : N = m + 1) (hm : m ≤ 5000) : ∀ w, YC 146 #[.slice (some ⟨g, 0, none⟩) N cap] w (YR (.pointer (some ⟨g, m * 3, none⟩)) w) := fun w => by subst hN; exact qLastB_any g m cap w Om
theorem sl_addr {T sz N c : Nat} {A : Option Addr} {xs : List Value} {o1 : List Blk} (h : Sl T sz (.slice A N c) N xs o1) (h0 : 0 < N) : ∃ g cur, A = some ⟨g, 0, none⟩ ∧ o1 = [⟨g, cur, T⟩] := by
 rcases h.2 with ⟨_, q, _⟩ | ⟨g, cap, cur, e1, e2, _⟩
 ·omega
 ·cases e1; exact ⟨g, cur, rfl, e2⟩
theorem rd_lastN {x : Rv} {ini : List Nv} {n n' : Nv} (hx : x.needs = ini ++ [n]) {k rb : Nat} : rdB { x with needs := ini ++ [n'] } k rb = rdB x k rb := by
 have : (ini ++ [n']).length = x.needs.length := by rw [hx]; simp
 unfold rdB rdC rvC
 simp only [this]
theorem rt_lastN {x : Rv} {ini : List Nv} {n n' : Nv} {f : Nt → Nt} (hx : x.needs = ini ++ [n]) (hn : n'.nt = f n.nt) : Rv.rt { x with needs := ini ++ [n'] } = { x.rt with needs := yM f x.rt.needs } := by
 have e : x.rt.needs = ini.map Nv.nt ++ [n.nt] := by show x.needs.map Nv.nt = _; rw [hx]; simp
 rw [e, qR, ← hn]
 unfold Rv.rt
 simp [Rv.ver]
theorem sl_len {α : Type} {gC : α → List Value} {T sz c : Nat} {A : Option Addr} {ini : List α} {y : α} {o : List Blk} (h : Sl T sz (.slice A (ini.length + 1) c) (ini.length + 1) ((ini ++ [y]).flatMap gC) o) : Sl T sz (.slice A (ini ++ [y]).length c) (ini ++ [y]).length ((ini ++ [y]).flatMap gC) o := by
 rw [List.length_append, List.length_singleton]; exact h
theorem add_when (rb : Nat) (x : Rv) (ps : List (List UInt8)) (A : Option Addr) (cap : Nat) (ob : List Blk) (W : World) (hR : RdR rb 4 x ob) (hO : Own (ob.map Blk.b) W W ob) (hv : ReadsA (ob.map Blk.b) y9 W A ps) (hp : 2 ≤ ps.length) (hF : Few x) (hne : x.needs ≠ []) : YC 96 #[.pointer (some ⟨rb, 0, none⟩), .slice A ps.length cap] W (AddB rb 4 x ps ob W) := by
 obtain ⟨o1, oa, og, oi, o4, o7, o8, rfl, hN, hB, hT⟩ := hR
 obtain ⟨pb, po, hA, hld⟩ := fP hv Om
 rcases hN.split with ⟨e, _⟩ | ⟨ini, n, hx, hi, hw, hf⟩
 ·exact absurd e hne
 have hlen : x.needs.length = ini.length + 1 := by rw [hx]; simp
 obtain ⟨g, cur, hg, rfl⟩ := sl_addr hN.top Om
 have hS : Sl 57 3 (.slice (some ⟨g, 0, none⟩) (ini.length + 1) x.nc) (ini.length + 1) ((ini ++ [n]).flatMap nvC) [⟨g, cur, 57⟩] := by have := hN.top; rw [hlen, hx, hg] at this; exact this
 have hFn := hF.n
 have hput := Sl.putLast bZ hS { n with wh := ps.getD 1 [] } 1 #[.string (mkS (ps.getD 1 []))] (by simp) rfl
 have hlast := lastN_at g ini.length x.nc x.needs.length hlen Om
 rw [← hg] at hlast
 refine yJ hO Tryz.func96 (xB 8 [0] [rdB x 4 rb] (fun w hO => (hO.past 0 (rdB x 4 rb :: ([⟨g, cur, 57⟩] ++ zY oa og oi o4 o7 o8))).sublist (by simp)) ?_)
 refine qL 50098 [0] 6 hA ps.length cap 1 1 Om (gX 50099 [] 7 9 pb (po + 1 * 1 + 0) (.string (mkS (ps.getD 1 []))) (fun w hO => hld w hO.no 1 Om) (yH [] 4 (zE (v := Zp g (ini.length * 3)) [] (fun w hO => hlast w) ?_)))
 refine jO 101 [] (Zp g (ini.length * 3 + 1)) (Zp g (ini.length * 3 + 1)) rfl (x_sto 1 ⟨g, cur, 57⟩ (ini.length * 3 + 1) 1 (.string (mkS (ps.getD 1 []))) (rdB x 4 rb :: ⟨g, cur, 57⟩ :: zY oa og oi o4 o7 o8) hput.2 ?_)
 refine zF [] Z4 fun w hO => ⟨{ x with needs := ini ++ [{ n with wh := ps.getD 1 [] }] }, rdB { x with needs := ini ++ [{ n with wh := ps.getD 1 [] }] } 4 rb :: ([⟨g, zW cur (ini.length * 3 + 1) #[.string (mkS (ps.getD 1 []))], 57⟩] ++ zY oa og oi o4 o7 o8), rfl, ?_, ⟨[⟨g, zW cur (ini.length * 3 + 1) #[.string (mkS (ps.getD 1 []))], 57⟩], oa, og, oi, o4, o7, o8, rfl, ⟨⟨?_, .inr ⟨ini, { n with wh := ps.getD 1 [] }, rfl, hi, hw, hf⟩⟩, hB, hT⟩⟩, ?_⟩
 ·exact rt_lastN hx (f := fun n => { n with wh := ps.getD 1 [] }) rfl
 ·exact hg ▸ sl_len hput.1
 ·rw [rd_lastN hx]
  exact hO.past 0 (rdB x 4 rb :: ⟨g, zW cur (ini.length * 3 + 1) #[.string (mkS (ps.getD 1 []))], 57⟩ :: zY oa og oi o4 o7 o8)
theorem add_opt (rb : Nat) (x : Rv) (ps : List (List UInt8)) (A : Option Addr) (cap : Nat) (ob : List Blk) (W : World) (hR : RdR rb 5 x ob) (hO : Own (ob.map Blk.b) W W ob) (hv : ReadsA (ob.map Blk.b) y9 W A ps) (hp : 2 ≤ ps.length) (hF : Few x) (hne : x.needs ≠ []) : YC 96 #[.pointer (some ⟨rb, 0, none⟩), .slice A ps.length cap] W (AddB rb 5 x ps ob W) := by
 obtain ⟨o1, oa, og, oi, o4, o7, o8, rfl, hN, hB, hT⟩ := hR
 obtain ⟨pb, po, hA, hld⟩ := fP hv Om
 rcases hN.split with ⟨e, _⟩ | ⟨ini, n, hx, hi, hw, hf⟩
 ·exact absurd e hne
 have hlen : x.needs.length = ini.length + 1 := by rw [hx]; simp
 obtain ⟨g, cur, hg, rfl⟩ := sl_addr hN.top Om
 have hS : Sl 57 3 (.slice (some ⟨g, 0, none⟩) (ini.length + 1) x.nc) (ini.length + 1) ((ini ++ [n]).flatMap nvC) [⟨g, cur, 57⟩] := by have := hN.top; rw [hlen, hx, hg] at this; exact this
 have hFn := hF.n
 have hput := Sl.putLast bZ hS { n with opt := ps.getD 1 [] } 2 #[.string (mkS (ps.getD 1 []))] (by simp) rfl
 have hlast := lastN_at g ini.length x.nc x.needs.length hlen Om
 rw [← hg] at hlast
 refine yJ hO Tryz.func96 (xB 8 [0] [rdB x 5 rb] (fun w hO => (hO.past 0 (rdB x 5 rb :: ([⟨g, cur, 57⟩] ++ zY oa og oi o4 o7 o8))).sublist (by simp)) ?_)
 refine qL 50110 [0] 6 hA ps.length cap 1 1 Om (gX 50111 [] 7 9 pb (po + 1 * 1 + 0) (.string (mkS (ps.getD 1 []))) (fun w hO => hld w hO.no 1 Om) (yH [] 4 (zE (v := Zp g (ini.length * 3)) [] (fun w hO => hlast w) ?_)))
 refine jO 113 [] (Zp g (ini.length * 3 + 2)) (Zp g (ini.length * 3 + 2)) rfl (x_sto 1 ⟨g, cur, 57⟩ (ini.length * 3 + 2) 1 (.string (mkS (ps.getD 1 []))) (rdB x 5 rb :: ⟨g, cur, 57⟩ :: zY oa og oi o4 o7 o8) hput.2 ?_)
 refine zF [] Z4 fun w hO => ⟨{ x with needs := ini ++ [{ n with opt := ps.getD 1 [] }] }, rdB { x with needs := ini ++ [{ n with opt := ps.getD 1 [] }] } 5 rb :: ([⟨g, zW cur (ini.length * 3 + 2) #[.string (mkS (ps.getD 1 []))], 57⟩] ++ zY oa og oi o4 o7 o8), rfl, ?_, ⟨[⟨g, zW cur (ini.length * 3 + 2) #[.string (mkS (ps.getD 1 []))], 57⟩], oa, og, oi, o4, o7, o8, rfl, ⟨⟨?_, .inr ⟨ini, { n with opt := ps.getD 1 [] }, rfl, hi, hw, hf⟩⟩, hB, hT⟩⟩, ?_⟩
 ·exact rt_lastN hx (f := fun n => { n with opt := ps.getD 1 [] }) rfl
 ·exact hg ▸ sl_len hput.1
 ·rw [rd_lastN hx]
  exact hO.past 0 (rdB x 5 rb :: ⟨g, zW cur (ini.length * 3 + 2) #[.string (mkS (ps.getD 1 []))], 57⟩ :: zY oa og oi o4 o7 o8)
end
section
set_option linter.unnecessarySimpa false
theorem rd_lastB {x : Rv} {ini : List Bv} {n n' : Bv} (hx : x.bars = ini ++ [n]) {k rb : Nat} : rdB { x with bars := ini ++ [n'] } k rb = rdB x k rb := by
 have : (ini ++ [n']).length = x.bars.length := by rw [hx]; simp
 unfold rdB rdC rvC
 simp only [this]
theorem add_bwhen (rb : Nat) (x : Rv) (ps : List (List UInt8)) (A : Option Addr) (cap : Nat) (ob : List Blk) (W : World) (hR : RdR rb 7 x ob) (hO : Own (ob.map Blk.b) W W ob) (hv : ReadsA (ob.map Blk.b) y9 W A ps) (hp : 2 ≤ ps.length) (hF : Few x) (hne : x.bars ≠ []) : YC 96 #[.pointer (some ⟨rb, 0, none⟩), .slice A ps.length cap] W (AddB rb 7 x ps ob W) := by
 obtain ⟨o1, oa, og, oi, o4, o7, o8, rfl, hN, hB, hT⟩ := hR
 obtain ⟨pb, po, hA, hld⟩ := fP hv Om
 obtain ⟨ini, n, hx⟩ : ∃ ini n, x.bars = ini ++ [n] := ⟨x.bars.dropLast, x.bars.getLast hne, (List.dropLast_concat_getLast hne).symm⟩
 have hlen : x.bars.length = ini.length + 1 := by rw [hx]; simp
 obtain ⟨g, cur, hg, rfl⟩ := sl_addr hB Om
 have hS : Sl 54 3 (.slice (some ⟨g, 0, none⟩) (ini.length + 1) x.bc) (ini.length + 1) ((ini ++ [n]).flatMap bvC) [⟨g, cur, 54⟩] := by rw [hlen, hx, hg] at hB; exact hB
 have hFb := hF.b
 have hput := Sl.putLast bvC_len hS { n with wh := ps.getD 1 [] } 2 #[.string (mkS (ps.getD 1 []))] (by simp) rfl
 have hlast := lastB_at g ini.length x.bc x.bars.length hlen Om
 rw [← hg] at hlast
 refine yJ hO Tryz.func96 (xB 8 [0] [rdB x 7 rb] (fun w hO => (hO.past 0 (rdB x 7 rb :: (o1 ++ zY oa og oi [⟨g, cur, 54⟩] o7 o8))).sublist (by simp)) ?_)
 refine qL 50140 [0] 6 hA ps.length cap 1 1 Om (gX 50141 [] 7 9 pb (po + 1 * 1 + 0) (.string (mkS (ps.getD 1 []))) (fun w hO => hld w hO.no 1 Om) (yH [] 4 (zE (v := Zp g (ini.length * 3)) [] (fun w hO => hlast w) ?_)))
 refine jO 143 [] (Zp g (ini.length * 3 + 2)) (Zp g (ini.length * 3 + 2)) rfl (x_hold (rdB x 7 rb :: (o1 ++ zY oa og oi [⟨g, cur, 54⟩] o7 o8)) (rdB x 7 rb :: ⟨g, cur, 54⟩ :: (o1 ++ zY oa og oi [] o7 o8)) (fun w hO => gW [] hO fun p => by
  simp only [zY, List.countP_append, List.countP_cons, List.countP_nil, List.cons_append, List.nil_append]; omega) ?_)
 refine x_sto 1 ⟨g, cur, 54⟩ (ini.length * 3 + 2) 1 (.string (mkS (ps.getD 1 []))) (rdB x 7 rb :: ⟨g, cur, 54⟩ :: (o1 ++ zY oa og oi [] o7 o8)) hput.2 (zF [] Z4 fun w hO => ⟨{ x with bars := ini ++ [{ n with wh := ps.getD 1 [] }] }, rdB { x with bars := ini ++ [{ n with wh := ps.getD 1 [] }] } 7 rb :: (o1 ++ zY oa og oi [⟨g, zW cur (ini.length * 3 + 2) #[.string (mkS (ps.getD 1 []))], 54⟩] o7 o8), rfl, ?_, ⟨o1, oa, og, oi, [⟨g, zW cur (ini.length * 3 + 2) #[.string (mkS (ps.getD 1 []))], 54⟩], o7, o8, rfl, ⟨hN, ?_, hT⟩⟩, ?_⟩)
 ·have e : x.rt.bars = ini.map Bv.bt ++ [n.bt] := by show x.bars.map Bv.bt = _; rw [hx]; simp
  show Rv.rt _ = { x.rt with bars := yM (fun b => { b with wh := ps.getD 1 [] }) x.rt.bars }
  rw [e, qR]
  unfold Rv.rt
  simp [Rv.ver, Bv.bt]
 ·exact hg ▸ sl_len hput.1
 ·rw [rd_lastB hx]
  exact gW [] (hO.past 0 (rdB x 7 rb :: ⟨g, zW cur (ini.length * 3 + 2) #[.string (mkS (ps.getD 1 []))], 54⟩ :: (o1 ++ zY oa og oi [] o7 o8))) fun p => by
   simp only [zY, List.countP_append, List.countP_cons, List.countP_nil, List.cons_append, List.nil_append]; omega
end
section
set_option linter.unnecessarySimpa false
def hd (x : Rv) (p2 : List UInt8) (ps : List (List UInt8)) : Rv := { x with name := ps.getD 1 [], maj := (wX p2).maj, min := (wX p2).min, pat := (wX p2).pat, pre := (wX p2).pre, bld := (wX p2).build }
theorem add_head (rb : Nat) (x : Rv) (ps : List (List UInt8)) (A : Option Addr) (cap : Nat) (ob : List Blk) (W : World) (hR : RdR rb 1 x ob) (hO : Own (ob.map Blk.b) W W ob) (hv : ReadsA (ob.map Blk.b) y9 W A ps) (hp : 3 ≤ ps.length) (hs : ∀ s ∈ ps, s.length ≤ 1000000) (hK : ∀ w, Own (ob.map Blk.b) W w [] → HasTab w) : YC 96 #[.pointer (some ⟨rb, 0, none⟩), .slice A ps.length cap] W (AddB rb 1 x ps ob W) := by
 obtain ⟨o1, oa, og, oi, o4, o7, o8, rfl, hN, hB, hT⟩ := hR
 obtain ⟨pb, po, hA, hld⟩ := fP hv Om
 obtain ⟨p2, hp2⟩ : ∃ p, ps.getD 2 [] = p := ⟨_, rfl⟩
 have hs2 : p2.length ≤ 1000000 := by
  rw [← hp2, List.getD_eq_getElem?_getD, List.getElem?_eq_getElem (by omega)]; exact hs _ (List.getElem_mem _)
 have hld2 : ∀ (w : World), Own ((rdB x 1 rb :: (o1 ++ zY oa og oi o4 o7 o8)).map Blk.b) W w [] → (loadVar 9 ⟨pb, po + 2 * 1 + 0, none⟩).run Tryz.prog w = .ok (.string (mkS p2)) w := fun w hO => by have := hld w hO 2 Om; rw [hp2] at this; exact this
 have hc : ∀ w, Own ((rdB x 1 rb :: (o1 ++ zY oa og oi o4 o7 o8)).map Blk.b) W w [] → YC 143 #[.string (mkS p2)] w (YR (.tuple #[jC (wX p2), YI (parE p2)]) w) := fun w hO => parse_any p2 w Om (hK w hO)
 refine yJ hO Tryz.func96 (kH 20 [0] hA ps.length cap 2 1 Om (kB 21 [] 9 pb (po + 2 * 1 + 0) (.string (mkS p2)) (fun w hO => hld2 w hO.no) ?_))
 refine zE (v := .tuple #[jC (wX p2), YI (parE p2)]) [] (fun w hO => hc w hO.no) (zV [] fun b6 => (xB 9 [0] [⟨b6, (jC (wX p2)).cells, 23⟩] (fun w hO => Own.nth 0 ⟨b6, (jC (wX p2)).cells, 23⟩ hO) (qL 50028 [] 3 hA ps.length cap 1 1 Om (gX 50029 [] 4 9 pb (po + 1 * 1 + 0) (.string (mkS (ps.getD 1 []))) (fun w hO => hld w hO.no 1 Om) (yH [0] 8 ?_)))))
 refine xh_sto 1 (rdB x 1 rb) 0 1 (.string (mkS (ps.getD 1 []))) (⟨b6, (jC (wX p2)).cells, 23⟩ :: rdB x 1 rb :: (o1 ++ zY oa og oi o4 o7 o8)) [⟨b6, (jC (wX p2)).cells, 23⟩] (by show 0 + 1 ≤ 10; omega) (fun w hO => Own.nth 0 ⟨b6, (jC (wX p2)).cells, 23⟩ hO) (zF [1] (.bool (decide (parE p2 = 0))) fun w hO => ⟨hd x p2 ps, rdB (hd x p2 ps) 1 rb :: (o1 ++ zY oa og oi o4 o7 o8), by rw [← hp2]; rfl, ?_, ⟨o1, oa, og, oi, o4, o7, o8, rfl, ⟨hN, hB, hT⟩⟩, hO.past 1 _⟩)
 rw [← hp2]; rfl
end
section
set_option linter.unnecessarySimpa false
end
section
set_option linter.unnecessarySimpa false
def SuW (x : Wv) : Prop := x.name.length ≤ 1000000 ∧ x.rng.length ≤ 1000000 ∧ ∀ s ∈ x.fs, s.length ≤ 1000000
theorem needE_is (own : List UInt8) (x : Nv) : gR own x.nt = if x.any = [] then 9 else if 3 < x.any.length then 3 else if x5 (fun u : Wv => qZ own u.wt (decide (x.any.length = 1))) x.any ≠ 0 then x5 (fun u : Wv => qZ own u.wt (decide (x.any.length = 1))) x.any
 else if xG x.wh = false then 7 else if x.opt ≠ [] ∧ wdL x.opt = false then 14 else 0 := by
 unfold gR
 simp only [Nv.nt, firstE_map, List.length_map, List.map_eq_nil_iff]
 rfl
end
section
set_option linter.unnecessarySimpa false
theorem wishE_targ (own : List UInt8) (u : Wt) (al : Bool) : qZ own u al = if vS own u.name u.rng ≠ 0 then vS own u.name u.rng else if wfsOk u.fs al = false then 11 else 0 := by
 unfold qZ vS
 split
 ·simp
 ·split
  ·simp
  ·split <;> simp
def needC (n : Nv) (b : Nat) : Blk := ⟨b, #[.slice n.A n.any.length n.cap, .string (mkS n.wh), .string (mkS n.opt)], 57⟩
theorem qNeed_any (own : List UInt8) (n : Nv) (W : World) (hv : Reads wvC W W.heap.size n.A n.any) (hf : ∀ u ∈ n.any, Reads y9 W W.heap.size u.A u.fs) (hn : n.any.length ≤ 5000) (hnf : ∀ u ∈ n.any, u.fs.length ≤ 5000) (hs : n.wh.length ≤ 1000000 ∧ n.opt.length ≤ 1000000) (hsu : ∀ u ∈ n.any, SuW u) (hK : RecLib W) : YC 31 #[nvV n, .string (mkS own)] W (YR (YI (gR own n.nt)) W) := by
 have hE := needE_is own n
 refine zQ Tryz.func31 (wK [] fun b2 => y8 11 [0] ((n.any.length : Int) = 0) (fun h11 => ?_) (fun h11 => ?_))
 ·exact zF [] (YI 9) fun w hO => ⟨by rw [hE, if_pos (List.eq_nil_of_length_eq_zero Om)], hO.below⟩
 have h11' : ¬ n.any = [] := fun e => h11 (by rw [e]; rfl)
 rw [if_neg h11'] at hE
 refine y8 15 [0] ((n.any.length : Int) > 3) (fun h15 => ?_) (fun h15 => ?_)
 ·exact zF [] (YI 3) fun w hO => ⟨by rw [hE, if_pos Om], hO.below⟩
 rw [if_neg (show ¬ 3 < n.any.length by omega)] at hE
 refine qO (α := Nat) (fun i => [(1, .string (mkS own)), (2, Zp b2 0), (17, .slice n.A n.any.length n.cap), (18, YI (n.any.length : Int)), (19, YI (i : Int))]) (fun _ => [needC n b2]) (fun i m => (i ≤ n.any.length ∧ ∀ u ∈ n.any.take i, qZ own u.wt (decide (n.any.length = 1)) = 0) ∧ m = n.any.length - i) 0 n.any.length [0] ⟨⟨Nat.zero_le _, fun y h => by simp at h⟩, rfl⟩ ?_
 rintro i mm g kk ⟨⟨hi, hno⟩, hmm⟩ nx hkk
 subst hkk
 refine y8 20 [] ((i : Int) < (n.any.length : Int)) (fun h20 => ?_) (fun h20 => ?_)
 ·have hj : i < n.any.length := by omega
  obtain ⟨eb, eo, hA, hel⟩ := hv.elem dY i hj
  have hgo := gL (p := fun u : Wv => qZ own u.wt (decide (n.any.length = 1)) = 0) hj hno
  have hat := firstE_at (f := fun u : Wv => qZ own u.wt (decide (n.any.length = 1))) hj hno
  have hsm : n.any[i] ∈ n.any := List.getElem_mem hj
  have hel0 : ∀ w, Below W.heap.size W w → (loadVar 60 ⟨eb, eo + i * 4 + 0, none⟩).run Tryz.prog w = .ok (wvV n.any[i]) w := fun w hw => hel w hw _ 0 _ Kr
  have hru := hf _ hsm; have hnu := hnf _ hsm; have hlu := hsu _ hsm
  generalize n.any[i] = u at hel0 hgo hat hru hnu hlu
  have hW : qZ own u.wt (decide (n.any.length = 1)) = if vS own u.name u.rng ≠ 0 then vS own u.name u.rng else if (askB u.fs && (decide (n.any.length = 1) || decide (u.fs = []))) = false then 11 else 0 := wishE_targ own u.wt _
  have c1 : ∀ w, Below W.heap.size W w → YC 65 #[.string (mkS u.name), .string (mkS u.rng), .string (mkS own)] w (YR (YI (vS own u.name u.rng)) w) := fun w h => qTarget_any u.name u.rng own w hlu.1 hlu.2.1 (hK.on h)
  have c2 : ∀ w, Below W.heap.size W w → YC 66 #[.slice u.A u.fs.length u.cap] w (YR (.bool (askB u.fs)) w) := fun w hb => qAsk_any u.A u.cap u.fs w (hru.on hb hb.size) hnu hlu.2.2
  refine kH 21 [] hA n.any.length n.cap i 4 hj (kB 22 [] 60 eb (eo + i * 4 + 0) (wvV u) (fun w hO => hel0 w hO.below) (zV [] fun b6 => zE (v := YI (vS own u.name u.rng)) [0, 0, 0] (fun w hO => c1 w hO.below) (x_bn 30 [] (vS own u.name u.rng = 0) (fun h1 => ?_) (fun h1 => ?_))))
  rotate_left
  ·rw [if_pos h1] at hW
   refine zF [] (YI (vS own u.name u.rng)) fun w hO => ⟨?_, hO.below⟩
   rw [hE, hat (by rw [hW]; exact h1), hW, if_pos h1]
  rw [if_neg (fun q => q h1)] at hW
  have fin : askB u.fs = false → qZ own u.wt (decide (n.any.length = 1)) = 11 := fun h => by rw [hW, h]; rfl
  have out : qZ own u.wt (decide (n.any.length = 1)) = 11 → gR own n.nt = 11 := fun h => by
   rw [hE, hat (by rw [h]; decide), h]; rfl
  refine y8 35 [0] ((u.fs.length : Int) > 0) (fun h35 => ?_) (fun h35 => ?_)
  ·refine y8 40 [1] ((n.any.length : Int) > 1) (fun h40 => ?_) (fun h40 => ?_)
   ·refine zF [] (YI 11) fun w hO => ⟨?_, hO.below⟩
    rw [out (by rw [hW, decide_eq_false (show ¬ n.any.length = 1 by omega), decide_eq_false (fun e => by rw [e] at h35; simp at h35)]; simp)]
   ·refine zE (v := .bool (askB u.fs)) [0] (fun w hO => c2 w hO.below) (xE 45 (askB u.fs) (fun h45 => ?_) (fun h45 => ?_))
    ·have hz : qZ own u.wt (decide (n.any.length = 1)) = 0 := by rw [hW, h45, decide_eq_true (show n.any.length = 1 by omega)]; rfl
     exact x_i 19 [] ((i + 1 : Nat) : Int) (yG [] [needC n b2] (fun w hO => hO.past 1 _) (nx (i + 1) (n.any.length - (i + 1)) [] Om ⟨⟨hj, hgo hz⟩, rfl⟩ Kr Kr))
    ·exact zF [] (YI 11) fun w hO => ⟨by rw [out (fin h45)], hO.below⟩
  ·refine zE (v := .bool (askB u.fs)) [0] (fun w hO => c2 w hO.below) (xE 45 (askB u.fs) (fun h45 => ?_) (fun h45 => ?_))
   ·have hz : qZ own u.wt (decide (n.any.length = 1)) = 0 := by
     rw [hW, h45, decide_eq_true (show u.fs = [] from List.eq_nil_of_length_eq_zero Om)]; simp
    exact x_i 19 [] ((i + 1 : Nat) : Int) (yG [] [needC n b2] (fun w hO => hO.past 1 _) (nx (i + 1) (n.any.length - (i + 1)) [] Om ⟨⟨hj, hgo hz⟩, rfl⟩ Kr Kr))
   ·exact zF [] (YI 11) fun w hO => ⟨by rw [out (fin h45)], hO.below⟩
 have hall := dL (jK (p := fun u : Wv => qZ own u.wt (decide (n.any.length = 1)) = 0) (show n.any.length ≤ i by omega) hno)
 rw [hall, if_neg (by simp)] at hE
 have h2 : ∀ w, Below W.heap.size W w → YC 67 #[.string (mkS n.wh)] w (YR (.bool (xG n.wh)) w) := fun w hb => qMark_any n.wh w hs.1 (hK.on hb)
 have h3 : ∀ w, Below W.heap.size W w → YC 68 #[.string (mkS n.opt)] w (YR (.bool (wdL n.opt)) w) := fun w hb => bT n.opt w hs.2
 refine zE (v := .bool (xG n.wh)) [0] (fun w hO => h2 w hO.below) (xE 51 (xG n.wh) (fun e3 => ?_) (fun e3 => ?_))
 rotate_left
 ·exact zF [] (YI 7) fun w hO => ⟨by rw [hE, if_pos e3], hO.below⟩
 rw [if_neg (by simp [e3])] at hE
 refine wI 55 [0] n.opt [] (fun e4 => ?_) (fun e4 => ?_)
 ·exact zF [] (YI 0) fun w hO => ⟨by rw [hE, if_neg (fun h => h.1 e4)], hO.below⟩
 refine zE (v := .bool (wdL n.opt)) [0] (fun w hO => h3 w hO.below) (xE 59 (wdL n.opt) (fun e5 => ?_) (fun e5 => ?_))
 ·exact zF [] (YI 0) fun w hO => ⟨by rw [hE, if_neg (fun h => by rw [e5] at h; simp at h)], hO.below⟩
 ·exact zF [] (YI 14) fun w hO => ⟨by rw [hE, if_pos ⟨e4, e5⟩], hO.below⟩
def pulB (s : List UInt8) (n : Nv) : Bool := pulN s n.nt
theorem qOpt_any (n : Nv) (s : List UInt8) (b : Nat) (W : World) (hc : W.heap[b]? = some (.cells #[.string (mkS s)] 9)) : YC 71 #[nvV n, .pointer (some ⟨b, 0, none⟩)] W (YR (.bool (decide (n.opt = s))) W) := by
 have hb : b < W.heap.size := (Array.getElem?_eq_some_iff.1 hc).1
 refine zQ Tryz.func71 (wK [] fun b2 => kB 6 [0] 9 b 0 (.string (mkS s)) (fun w hO => yY Kr ((hO.below.block b hb).trans hc)) (qH 7 [] n.opt s (fun h => ?_) (fun h => ?_)))
 ·exact zF [] Z4 fun w hO => ⟨by rw [decide_eq_true h], hO.below⟩
 ·exact zF [] Z5 fun w hO => ⟨by rw [decide_eq_false h], hO.below⟩
theorem qPul_any (n : Nv) (s : List UInt8) (b : Nat) (W : World) (hv : Reads wvC W W.heap.size n.A n.any) (hc : W.heap[b]? = some (.cells #[.string (mkS s)] 9)) : YC 73 #[nvV n, .pointer (some ⟨b, 0, none⟩)] W (YR (.bool (pulB s n)) W) := by
 have hb : b < W.heap.size := (Array.getElem?_eq_some_iff.1 hc).1
 refine zQ Tryz.func73 (wK [] fun b2 => y8 7 [0] ((n.any.length : Int) = 1) (fun h7 => ?_) (fun h7 => ?_))
 rotate_left
 ·refine zF [] Z5 fun w hO => ⟨?_, hO.below⟩
  have : pulB s n = false := by
   unfold pulB pulN
   split
   ·rename_i x h
    have := congrArg List.length h
    simp only [Nv.nt, List.length_map, List.length_cons, List.length_nil] at this
    omega
   ·rfl
  rw [this]
 have h1 : n.any.length = 1 := by omega
 obtain ⟨eb, eo, hA, hel⟩ := hv.elem dY 0 Om
 have hel0 : ∀ w, Below W.heap.size W w → (loadVar 9 ⟨eb, eo + 0 * 4 + 0, none⟩).run Tryz.prog w = .ok (.string (mkS (n.any[0]'Om).name)) w := fun w hw => hel w hw _ 0 _ Kr
 have hp : pulB s n = decide ((n.any[0]'Om).name = s) := by
  obtain ⟨x, hx⟩ := List.length_eq_one_iff.1 h1
  have e : n.any[0]'Om = x := by simp only [hx, List.getElem_cons_zero]
  rw [e]
  unfold pulB pulN
  rw [show n.nt.any = [x.wt] from by show n.any.map Wv.wt = _; rw [hx]; rfl]; rfl
 generalize n.any[0] = u at hel0 hp
 refine kH 11 [0] hA n.any.length n.cap 0 4 (by omega) (kB 13 [] 9 eb (eo + 0 * 4 + 0) (.string (mkS u.name)) (fun w hO => hel0 w hO.below) (kB 14 [] 9 b 0 (.string (mkS s)) (fun w hO => yY Kr ((hO.below.block b hb).trans hc)) (qH 15 [] u.name s (fun h => ?_) (fun h => ?_))))
 ·exact zF [] Z4 fun w hO => ⟨by rw [hp, decide_eq_true h], hO.below⟩
 ·exact zF [] Z5 fun w hO => ⟨by rw [hp, decide_eq_false h], hO.below⟩
theorem qHas1_any (p : Nv → Bool) (A : Option Addr) (cap : Nat) (l : List Nv) (b : Nat) (W : World) (hv : Reads nvC W W.heap.size A l) (hn : l.length ≤ 5000) (hp : ∀ n ∈ l, ∀ w, Below W.heap.size W w → YC 71 #[nvV n, .pointer (some ⟨b, 0, none⟩)] w (YR (.bool (p n)) w)) : YC 72 #[.slice A l.length cap, .func (.func 71) #[] #[.pointer (some ⟨b, 0, none⟩)]] W (YR (.bool (l.any p)) W) := by
 have key : ∀ w, Below W.heap.size W w → YC 121 #[.slice A l.length cap, .func (.func 71) #[] #[.pointer (some ⟨b, 0, none⟩)]] w fun e w' => ∃ v, e = .returned v ∧ (∃ z : Int, v = YI z ∧ decide (0 ≤ z) = l.any p) ∧ Below w.heap.size w w' := fun w0 hb0 => by
  have hv0 := hv.on hb0 hb0.size
  have hp0 : ∀ n ∈ l, ∀ w, Below w0.heap.size w0 w → YC 71 #[nvV n, .pointer (some ⟨b, 0, none⟩)] w (YR (.bool (p n)) w) := fun n hn w hb => hp n hn w (hb0.trans (hb.mono hb0.size))
  clear hp hv hb0
  refine zQ Tryz.func121 (qO (α := Nat) (fun i => [(0, .slice A l.length cap), (1, .func (.func 71) #[] #[Zp b 0]), (7, YI (l.length : Int)), (8, YI (i : Int))]) (fun _ => []) (fun i m => (i ≤ l.length ∧ ∀ y ∈ l.take i, p y = false) ∧ m = l.length - i) 0 l.length [] ⟨⟨Nat.zero_le _, fun y h => by simp at h⟩, rfl⟩ ?_)
  rintro i mm g kk ⟨⟨hi, hno⟩, hmm⟩ nx hkk
  subst hkk
  refine y8 9 [] ((i : Int) < (l.length : Int)) (fun h9 => ?_) (fun h9 => ?_)
  rotate_left
  ·refine zF [] (YI (-1)) fun w hO => ⟨_, rfl, ⟨-1, rfl, ?_⟩, hO.below⟩
   have hall := jK (p := fun y : Nv => p y = false) (show l.length ≤ i by omega) hno
   rw [show l.any p = false from List.any_eq_false.2 fun y hy => by rw [hall y hy]; decide]; rfl
  have hj : i < l.length := by omega
  obtain ⟨eb, eo, hA, hel⟩ := hv0.elem bZ i hj
  have hgo := gL (p := fun y : Nv => p y = false) hj hno
  have hsm : l[i] ∈ l := List.getElem_mem hj
  have hel0 : ∀ w, Below w0.heap.size w0 w → (loadVar 57 ⟨eb, eo + i * 3 + 0, none⟩).run Tryz.prog w = .ok (nvV l[i]) w := fun w hw => hel w hw _ 0 _ Kr
  have hcf := hp0 _ hsm
  generalize l[i] = n at hel0 hgo hcf hsm
  refine kH 14 [] hA l.length cap i 3 hj (kB 15 [] 57 eb (eo + i * 3 + 0) (nvV n) (fun w hO => hel0 w hO.below) (zE (v := .bool (p n)) [] (fun w hO => hcf w hO.below) (xE 16 (p n) (fun h16 => ?_) (fun h16 => ?_))))
  ·refine zF [] (YI (i : Int)) fun w hO => ⟨_, rfl, ⟨(i : Int), rfl, ?_⟩, hO.below⟩
   rw [show l.any p = true from List.any_eq_true.2 ⟨n, hsm, h16⟩, decide_eq_true Om]
  ·exact x_i 18 [] ((i + 1 : Nat) : Int) (nx (i + 1) (l.length - (i + 1)) [] Om ⟨⟨hj, hgo h16⟩, rfl⟩ Kr Kr)
 refine zQ Tryz.func72 (m8 (R := fun v => ∃ z : Int, v = YI z ∧ decide (0 ≤ z) = l.any p) [] (fun w hO => key w hO.below) ?_)
 rintro v ⟨z, rfl, hz⟩
 exact zF [] (.bool (decide (0 ≤ z))) fun w hO => ⟨by rw [hz], hO.below⟩
theorem qHas2_any (p : Nv → Bool) (A : Option Addr) (cap : Nat) (l : List Nv) (b : Nat) (W : World) (hv : Reads nvC W W.heap.size A l) (hn : l.length ≤ 5000) (hp : ∀ n ∈ l, ∀ w, Below W.heap.size W w → YC 73 #[nvV n, .pointer (some ⟨b, 0, none⟩)] w (YR (.bool (p n)) w)) : YC 72 #[.slice A l.length cap, .func (.func 73) #[] #[.pointer (some ⟨b, 0, none⟩)]] W (YR (.bool (l.any p)) W) := by
 have key : ∀ w, Below W.heap.size W w → YC 121 #[.slice A l.length cap, .func (.func 73) #[] #[.pointer (some ⟨b, 0, none⟩)]] w fun e w' => ∃ v, e = .returned v ∧ (∃ z : Int, v = YI z ∧ decide (0 ≤ z) = l.any p) ∧ Below w.heap.size w w' := fun w0 hb0 => by
  have hv0 := hv.on hb0 hb0.size
  have hp0 : ∀ n ∈ l, ∀ w, Below w0.heap.size w0 w → YC 73 #[nvV n, .pointer (some ⟨b, 0, none⟩)] w (YR (.bool (p n)) w) := fun n hn w hb => hp n hn w (hb0.trans (hb.mono hb0.size))
  clear hp hv hb0
  refine zQ Tryz.func121 (qO (α := Nat) (fun i => [(0, .slice A l.length cap), (1, .func (.func 73) #[] #[Zp b 0]), (7, YI (l.length : Int)), (8, YI (i : Int))]) (fun _ => []) (fun i m => (i ≤ l.length ∧ ∀ y ∈ l.take i, p y = false) ∧ m = l.length - i) 0 l.length [] ⟨⟨Nat.zero_le _, fun y h => by simp at h⟩, rfl⟩ ?_)
  rintro i mm g kk ⟨⟨hi, hno⟩, hmm⟩ nx hkk
  subst hkk
  refine y8 9 [] ((i : Int) < (l.length : Int)) (fun h9 => ?_) (fun h9 => ?_)
  rotate_left
  ·refine zF [] (YI (-1)) fun w hO => ⟨_, rfl, ⟨-1, rfl, ?_⟩, hO.below⟩
   have hall := jK (p := fun y : Nv => p y = false) (show l.length ≤ i by omega) hno
   rw [show l.any p = false from List.any_eq_false.2 fun y hy => by rw [hall y hy]; decide]; rfl
  have hj : i < l.length := by omega
  obtain ⟨eb, eo, hA, hel⟩ := hv0.elem bZ i hj
  have hgo := gL (p := fun y : Nv => p y = false) hj hno
  have hsm : l[i] ∈ l := List.getElem_mem hj
  have hel0 : ∀ w, Below w0.heap.size w0 w → (loadVar 57 ⟨eb, eo + i * 3 + 0, none⟩).run Tryz.prog w = .ok (nvV l[i]) w := fun w hw => hel w hw _ 0 _ Kr
  have hcf := hp0 _ hsm
  generalize l[i] = n at hel0 hgo hcf hsm
  refine kH 14 [] hA l.length cap i 3 hj (kB 15 [] 57 eb (eo + i * 3 + 0) (nvV n) (fun w hO => hel0 w hO.below) (zE (v := .bool (p n)) [] (fun w hO => hcf w hO.below) (xE 16 (p n) (fun h16 => ?_) (fun h16 => ?_))))
  ·refine zF [] (YI (i : Int)) fun w hO => ⟨_, rfl, ⟨(i : Int), rfl, ?_⟩, hO.below⟩
   rw [show l.any p = true from List.any_eq_true.2 ⟨n, hsm, h16⟩, decide_eq_true Om]
  ·exact x_i 18 [] ((i + 1 : Nat) : Int) (nx (i + 1) (l.length - (i + 1)) [] Om ⟨⟨hj, hgo h16⟩, rfl⟩ Kr Kr)
 refine zQ Tryz.func72 (m8 (R := fun v => ∃ z : Int, v = YI z ∧ decide (0 ≤ z) = l.any p) [] (fun w hO => key w hO.below) ?_)
 rintro v ⟨z, rfl, hz⟩
 exact zF [] (.bool (decide (0 ≤ z))) fun w hO => ⟨by rw [hz], hO.below⟩
theorem qItems_any (A : Option Addr) (cap : Nat) (of : List (List UInt8)) (B : Option Addr) (capb : Nat) (l : List Nv) (W : World) (hu : Reads y9 W W.heap.size A of) (ho : of.length ≤ 5000) (ht : ∀ s ∈ of, s.length ≤ 1000000) (hv : Reads nvC W W.heap.size B l) (hn : l.length ≤ 5000) (hva : ∀ n ∈ l, Reads wvC W W.heap.size n.A n.any) : YC 34 #[.slice A of.length cap, .slice B l.length capb] W (YR (YI (x5 (gM (l.map Nv.nt)) of)) W) := by
 refine zQ Tryz.func34 (qO (α := Nat) (fun i => [(1, .slice B l.length capb), (12, .slice A of.length cap), (13, YI (of.length : Int)), (14, YI (i : Int))]) (fun _ => []) (fun i m => (i ≤ of.length ∧ ∀ s ∈ of.take i, gM (l.map Nv.nt) s = 0) ∧ m = of.length - i) 0 of.length [] ⟨⟨Nat.zero_le _, fun y h => by simp at h⟩, rfl⟩ ?_)
 rintro i mm g kk ⟨⟨hi, hno⟩, hmm⟩ nx hkk
 subst hkk
 refine y8 15 [] ((i : Int) < (of.length : Int)) (fun h15 => ?_) (fun h15 => ?_)
 rotate_left
 ·refine zF [] (YI 0) fun w hO => ⟨?_, hO.below⟩
  rw [dL (jK (p := fun s => gM (l.map Nv.nt) s = 0) (show of.length ≤ i by omega) hno)]
 have hj : i < of.length := by omega
 obtain ⟨eb, eo, hA, hel⟩ := hu.elem zZ i hj
 have hgo := gL (p := fun s => gM (l.map Nv.nt) s = 0) hj hno
 have hat := firstE_at (f := gM (l.map Nv.nt)) hj hno
 have hsh := ht _ (List.getElem_mem hj)
 have hel0 : ∀ w, Below W.heap.size W w → (loadVar 9 ⟨eb, eo + i * 1 + 0, none⟩).run Tryz.prog w = .ok (.string (mkS of[i])) w := fun w hw => hel w hw _ 0 _ Kr
 generalize of[i] = s at hel0 hgo hat hsh
 have hI : gM (l.map Nv.nt) s = if (zX s).1 = 2 ∧ (l.any fun n => decide (n.opt = (zX s).2.1)) = false then 14 else if (zX s).1 = 3 ∧ l.any (pulB (zX s).2.1) = false then 16 else 0 := by
  unfold gM optR pulR
  simp only [List.any_map]; rfl
 refine kH 16 [] hA of.length cap i 1 hj (kB 17 [] 9 eb (eo + i * 1 + 0) (.string (mkS s)) (fun w hO => hel0 w hO.below) (zE (v := .tuple #[YI (zX s).1, .string (mkS (zX s).2.1), .string (mkS (zX s).2.2)]) [] (fun w hO => fItem_at s w hsh) (zV [] fun b8 => ?_)))
 have hc1 : ∀ w, Own [] W w [⟨b8, #[.string (mkS (zX s).2.1)], 9⟩] → YC 72 #[.slice B l.length capb, .func (.func 71) #[] #[.pointer (some ⟨b8, 0, none⟩)]] w (YR (.bool (l.any fun n => decide (n.opt = (zX s).2.1))) w) := fun w hO => by
  have hg : w.heap[b8]? = some (.cells #[.string (mkS (zX s).2.1)] 9) := hO.get (i := 0) rfl
  exact qHas1_any _ B capb l b8 w (hv.on hO.below hO.size) hn fun n hn w2 hb => qOpt_any n (zX s).2.1 b8 w2 ((hb.block b8 (Array.getElem?_eq_some_iff.1 hg).1).trans hg)
 have hc2 : ∀ w, Own [] W w [⟨b8, #[.string (mkS (zX s).2.1)], 9⟩] → YC 72 #[.slice B l.length capb, .func (.func 73) #[] #[.pointer (some ⟨b8, 0, none⟩)]] w (YR (.bool (l.any (pulB (zX s).2.1))) w) := fun w hO => by
  have hg : w.heap[b8]? = some (.cells #[.string (mkS (zX s).2.1)] 9) := hO.get (i := 0) rfl
  exact qHas2_any _ B capb l b8 w (hv.on hO.below hO.size) hn fun n hn w2 hb => qPul_any n (zX s).2.1 b8 w2 (((hva n hn).on hO.below hO.size).on hb hb.size) ((hb.block b8 (Array.getElem?_eq_some_iff.1 hg).1).trans hg)
 have next : gM (l.map Nv.nt) s = 0 → ∀ m', m' = of.length - (i + 1) → m' < mm ∧ (i + 1 ≤ of.length ∧ ∀ s ∈ of.take (i + 1), gM (l.map Nv.nt) s = 0) ∧ m' = of.length - (i + 1) := fun h m' e => ⟨by omega, ⟨hj, hgo h⟩, e⟩
 refine x_val 24 [0] (.func (.func 71) #[] #[Zp b8 0]) (fun w => Kr) (y8 26 [] ((zX s).1 = 2) (fun h26 => ?_) (fun h26 => ?_))
 ·refine zE (v := .bool (l.any fun n => decide (n.opt = (zX s).2.1))) [] (fun w hO => hc1 w (hO.past 0 _)) (xE 30 (l.any fun n => decide (n.opt = (zX s).2.1)) (fun h30 => ?_) (fun h30 => ?_))
  rotate_left
  ·refine zF [] (YI 14) fun w hO => ⟨?_, hO.below⟩
   have : gM (l.map Nv.nt) s = 14 := by rw [hI, if_pos ⟨h26, h30⟩]
   rw [hat (by rw [this]; decide), this]
  have hz : gM (l.map Nv.nt) s = 0 := by rw [hI, if_neg (by rw [h30]; simp), if_neg (fun q => by rw [h26] at q; exact absurd q.1 (by decide))]
  obtain ⟨q1, q2, q3⟩ := next hz _ rfl
  exact x_val 33 [] (.func (.func 73) #[] #[Zp b8 0]) (fun w => Kr) (y8 35 [] ((zX s).1 = 3) (fun h => absurd (h26.symm.trans h) (by decide)) (fun h => x_i 14 [] ((i + 1 : Nat) : Int) (yG [] [] (fun w hO => hO.no) (nx (i + 1) _ [] q1 ⟨q2, q3⟩ Kr Kr))))
 ·refine x_val 33 [] (.func (.func 73) #[] #[Zp b8 0]) (fun w => Kr) (y8 35 [] ((zX s).1 = 3) (fun h35 => ?_) (fun h35 => ?_))
  rotate_left
  ·have hz : gM (l.map Nv.nt) s = 0 := by rw [hI, if_neg (fun q => h26 q.1), if_neg (fun q => h35 q.1)]
   obtain ⟨q1, q2, q3⟩ := next hz _ rfl
   exact x_i 14 [] ((i + 1 : Nat) : Int) (yG [] [] (fun w hO => hO.no) (nx (i + 1) _ [] q1 ⟨q2, q3⟩ Kr Kr))
  refine zE (v := .bool (l.any (pulB (zX s).2.1))) [] (fun w hO => hc2 w (hO.past 0 _)) (xE 39 (l.any (pulB (zX s).2.1)) (fun h39 => ?_) (fun h39 => ?_))
  ·have hz : gM (l.map Nv.nt) s = 0 := by rw [hI, if_neg (fun q => h26 q.1), if_neg (by rw [h39]; simp)]
   obtain ⟨q1, q2, q3⟩ := next hz _ rfl
   exact x_i 14 [] ((i + 1 : Nat) : Int) (yG [] [] (fun w hO => hO.no) (nx (i + 1) _ [] q1 ⟨q2, q3⟩ Kr Kr))
  ·refine zF [] (YI 16) fun w hO => ⟨?_, hO.below⟩
   have : gM (l.map Nv.nt) s = 16 := by rw [hI, if_neg (fun q => h26 q.1), if_pos ⟨h35, h39⟩]
   rw [hat (by rw [this]; decide), this]
end
section
set_option linter.unnecessarySimpa false
theorem strC_one (s : List UInt8) : ∀ u ∈ y9 s, u.oneCell' = true := fun u hu => by rw [List.mem_singleton.1 hu]; rfl
end
section
def BuR (b : Nat) (l : List UInt8) (ob : List Blk) : Prop :=
 ∃ p v g, ob = ⟨b, #[p, v], 109⟩ :: g ∧ (p = .pointer none ∨ p = .pointer (some ⟨b, 0, none⟩)) ∧ Sl 5 1 v l.length (Lib.byteCells l) g
theorem BuR.new (b : Nat) : BuR b [] [⟨b, #[.pointer none, .slice none 0 0], 109⟩] := ⟨_, _, [], rfl, .inl rfl, Sl.nil _ _⟩
theorem sizeWriterR : (Tryz.prog.info? 107).map (·.size) = some 2 := by kernel_rfl
theorem liesWriterR : liesAt Tryz.prog Tryz.prog.depth 109 (2 / Tryz.prog.cellsOf 109) 0 107 1 = true := by kernel_rfl
theorem copyCheck_newR (b : Nat) (w : World) (h0 : w.cell? ⟨b, 0, none⟩ = some (.pointer none)) (hsh : w.shape? b = some (109, 2)) (hfz : w.frozen? ⟨b, 0, none⟩ = false) :
  YC 161 #[.pointer (some ⟨b, 0, none⟩)] w fun e w' => e = .returned (.tuple #[]) ∧ w' = w.setCell ⟨b, 0, none⟩ (.pointer (some ⟨b, 0, none⟩)) := by
 obtain ⟨j, hj, hjs⟩ := Option.map_eq_some_iff.1 sizeWriterR
 go_enter Tryz.func161, Tryz.ntmps161
 go_wp2
 rw [Lib.run_to_unsafe w ⟨b, 0, none⟩ Tryz.underlying105 Tryz.underlying225 hj (by rw [hjs]; decide) hsh (Nat.zero_lt_succ 1)]
 simp only [Result.andThen]
 rw [Oper.upon_value]
 go_wp2
 rw [run_callFunc_extern Tryz.func194 Kr Kr Kr (e := Extern.AbiNoEscape.same) Kr]
 rw [Lib.run_noEscape]
 simp only [Result.andThen]
 rw [Oper.upon_value]
 go_wp2
 rw [Lib.run_from_unsafe w ⟨b, 0, none⟩ Tryz.underlying225 Tryz.underlying105 hj hsh liesWriterR]
 simp only [Result.andThen]
 rw [Oper.upon_value]
 go_wp2
 go_end0
 exact ⟨rfl, rfl⟩
theorem rcheck_any (b : Nat) (p v : Value) (R : List Blk) (M : List Nat) (W w : World) (hp : p = .pointer none ∨ p = .pointer (some ⟨b, 0, none⟩)) (hO : Own M W w (⟨b, #[p, v], 109⟩ :: R)) :
  YC 161 #[.pointer (some ⟨b, 0, none⟩)] w fun e w' => e = .returned (.tuple #[]) ∧ Own M W w' (⟨b, #[.pointer (some ⟨b, 0, none⟩), v], 109⟩ :: R) := by
 have hb : w.heap[b]? = some (.cells #[p, v] 109 (0, 0)) := hO.held ⟨b, #[p, v], 109⟩ (List.mem_cons_self ..)
 have c0 : w.cell? ⟨b, 0, none⟩ = some p := by rw [Lib.cell_of_heap hb]; rfl
 rcases hp with rfl | rfl
 ·refine (copyCheck_newR b w c0 (by simp [World.shape?, hb]) (Lib.frozen_of_heap hb 0)).mono fun e w' ⟨he, hw⟩ => ⟨he, ?_⟩
  rw [hw, setCell_eq_setRow w b 0 _ _ _ _ hb]
  exact hO.put (i := 0) (x := ⟨b, #[.pointer none, v], 109⟩) rfl _
 ·exact (tQ b w c0).mono fun e w' ⟨he, hw⟩ => ⟨he, hw ▸ hO⟩
theorem infoU8R : ∃ i, Tryz.prog.info? 5 = some i ∧ i.zero = some (.int .u8 0) ∧ i.size = 1 ∧ i.bytes = 1 := info_parts infoByte
theorem buR_own {B b : Nat} {l : List UInt8} {ob : List Blk} {M : List Nat} {W w : World} (hB : BuR b l ob) (hO : Own M W w ob) (hM : ∀ x ∈ ob, B ≤ x.b) : Lib.IsBuilder 109 5 B b (Lib.byteCells l) w := by
 obtain ⟨p, v, g, rfl, hp, hv⟩ := hB
 have hb : w.heap[b]? = some (.cells #[p, v] 109 (0, 0)) := hO.held ⟨b, #[p, v], 109⟩ (List.mem_cons_self ..)
 have key : Lib.BuilderAt 109 5 B b p (Lib.byteCells l) w := by
  refine ⟨hM ⟨b, #[p, v], 109⟩ (List.mem_cons_self ..), v, hb, ?_, ?_⟩
  ·rw [Lib.byteCells_length]
   refine ⟨hv.1, ?_⟩
   rcases hv.2 with ⟨h1, h2, _⟩ | ⟨k, cap, cur, h1, rfl, h3, h4, h5, h6⟩
   ·exact .inl ⟨h1, h2⟩
   ·exact .inr ⟨k, cap, cur, h1, hM ⟨k, cur, 5⟩ (by simp), hO.held ⟨k, cur, 5⟩ (by simp), h3, h4, h5, h6⟩
  ·rcases hv.2 with ⟨rfl, _, _⟩ | ⟨k, cap, cur, rfl, rfl, _⟩
   ·simp [Value.ownBlock]
   ·intro e
    have hk : k = b := by simpa [Value.ownBlock] using e
    have := hO.apart
    simp [hk] at this
 rcases hp with rfl | rfl
 ·exact .inl key
 ·exact .inr key
theorem rstring_any0 (B b : Nat) (l : List UInt8) (w : World) (h : Lib.IsBuilder 109 5 B b (Lib.byteCells l) w) (h0 : l ≠ []) :
  YC 78 #[.pointer (some ⟨b, 0, none⟩)] w fun e w' => e = .returned (.string ⟨l.toArray⟩) ∧ Below B w w' := by
 obtain ⟨p, hB, v, hbk, hown, hne⟩ : ∃ p, Lib.BuilderAt 109 5 B b p (Lib.byteCells l) w := h.elim (fun q => ⟨_, q⟩) (fun q => ⟨_, q⟩)
 rcases hown.2 with ⟨_, hz⟩ | ⟨g, cap, cur, rfl, hbg, hg, hnc, hcm, hcs, htake⟩
 ·exact absurd hz (byteCells_ne h0)
 rw [Lib.byteCells_length] at hown hnc hbk htake
 have hl0 : l.length ≠ 0 := fun e => h0 (List.eq_nil_of_length_eq_zero e)
 have hg' : w.drew.heap[g]? = some (.cells cur 5 (0, 0)) := hg
 have c1 : w.drew.cell? ⟨b, 1, none⟩ = some (.slice (some ⟨g, 0, none⟩) l.length cap) := by
  rw [Lib.cell_of_heap (show w.drew.heap[b]? = _ from hbk)]; rfl
 have hSD := Lib.run_unsafeSliceData_row (P := Tryz.prog) w.drew #[52] 166 ⟨g, 0, none⟩ l.length cap Om
 have hUS := Lib.run_unsafeString_row (P := Tryz.prog) w.drew 166 3 9 5 Tryz.underlying166 Kr g cur.size (by unfold World.shape?; rw [hg']) l h0 Om (by unfold maxLen at hcm; omega)
  (fun j x hx => hown.cells (g := g) rfl j (.int .u8 x.toNat) (by simp [Lib.byteCells, hx]))
 go_enter Tryz.func78, Tryz.ntmps78
 go_wp2
 have mixed : Tryz.prog.follows .mixedOrders = true := by kernel_rfl
 go_region_o
 all_goals
  go_wp2
  go_ret
  have hf := Lib.below_freeze (Go.RowKit.Below.drew (Go.RowKit.Below.refl B w)) (p := ⟨g, 0, none⟩) hbg l.length
  exact ⟨rfl, hf.os, hf.tape, hf.output, hf.size, by rw [freeze_draws]; exact Nat.le_succ _, hf.block⟩
theorem rstring_any (b : Nat) (l : List UInt8) (ob : List Blk) (W w : World) (hB : BuR b l ob) (hO : Own [] W w ob) (h0 : l ≠ []) :
  YC 78 #[.pointer (some ⟨b, 0, none⟩)] w fun e w' => e = .returned (.string (mkS l)) ∧ Own [] W w' [] :=
 (rstring_any0 W.heap.size b l w (buR_own hB hO fun x hx => (hO.base x hx).elim id fun q => by simp at q) h0).mono fun e w' ⟨he, hb⟩ => by
  have hb2 := hO.below.trans hb
  exact ⟨he, hb2.os, hb2.tape, hb2.output, hb2.size, hb2.drawn, fun k hk _ => hb2.block k hk, by simp, by simp, by simp⟩
theorem rWrite_any (b : Nat) (l : List UInt8) (s : List UInt8) (ob : List Blk) (W : World) (hB : BuR b l ob) (hO : Own (ob.map Blk.b) W W ob) (hl : l.length ≤ 1000000000000) (hs : s.length ≤ 1000000000000) :
  YC 122 #[.pointer (some ⟨b, 0, none⟩), .string (mkS s)] W fun e w' => ∃ ob', e = .returned (.tuple #[YI ((mkS s).size : Int), .nilIface]) ∧ BuR b (l ++ s) ob' ∧ Own (ob.map Blk.b) W w' ob' := by
 obtain ⟨p, v, g, rfl, hp, hv⟩ := hB
 obtain ⟨A, cap, rfl⟩ := Sl.form hv
 have hsz := yD s
 refine vG (n := 19) hO Tryz.func122 rfl Kr Kr (ZO (Zv (YI 0) (Zv (.nilIface) (ZR (Zv (Zp b 0) (Zr (k := 161) (args := #[Zp b 0]) (fun v' L' => v' = .tuple #[] ∧ L' = ⟨b, #[Zp b 0, .slice A l.length cap], 109⟩ :: g) (fun w hO => (rcheck_any b p _ _ _ _ w hp hO).mono fun e w' ⟨k1, k2⟩ => ⟨_, _, k1, ⟨rfl, rfl⟩, k2⟩) (fun v0 L0 hv0 => ?_)))))))
 obtain ⟨rfl, rfl⟩ := hv0
 refine ZR (Zv (Zp b 0) (Zv (Zp b 0) (Zv (Zp b 0) (Zv (Zp b 1) (Zl 0 ⟨b, #[Zp b 0, .slice A l.length cap], 109⟩ (off := 1) (.slice A l.length cap) (Zv (.string (mkS s)) ?_))))))
 obtain ⟨i0, e1, e2, e3, e4⟩ := infoU8R
 refine zS (L' := [⟨b, #[Zp b 0, .slice A l.length cap], 109⟩] ++ g ++ []) (by simp) (s_appstr Kr rfl Tryz.underlying52 Tryz.underlying9 e1 e2 e3 e4 Kr hv (s := mkS s) Kr (by rw [hsz]; unfold maxLen; omega) (by rw [hsz]; omega) (fun v2 g2 hv2 => ?_))
 have hv3 : Sl 5 1 v2 (l ++ s).length (Lib.byteCells (l ++ s)) g2 := by rw [List.length_append, Lib.byteCells_append]; rw [hsz, d4] at hv2; exact hv2
 obtain ⟨A2, cap2, rfl⟩ := Sl.form hv3
 refine zS (L' := ⟨b, #[Zp b 0, .slice A l.length cap], 109⟩ :: (g2)) (by simp) (Zv (Zp b 0) (Zv (Zp b 1) (Zs 0 ⟨b, #[Zp b 0, .slice A l.length cap], 109⟩ (off := 1) (.slice A2 ((l ++ s).length) cap2) (ZR (Zv (.string (mkS s)) (Zv (YI ((mkS s).size)) (Zv (YI ((mkS s).size)) (Zv (.nilIface) ?_))))))))
 exact ZN (zL (ZG (YI ((mkS s).size)) (.nilIface) Tryz.results122 (fun w hO => ⟨_, rfl, ⟨_, _, g2, rfl, .inr rfl, hv3⟩, hO⟩)))
theorem rByte_any (b : Nat) (l : List UInt8) (c : UInt8) (z : Int) (ob : List Blk) (W : World) (hB : BuR b l ob) (hO : Own (ob.map Blk.b) W W ob) (hl : l.length ≤ 1000000000000) (hz : (c.toNat : Int) = z) :
  YC 124 #[.pointer (some ⟨b, 0, none⟩), .int .u8 z] W fun e w' => ∃ ob', e = .returned (.nilIface) ∧ BuR b (l ++ [c]) ob' ∧ Own (ob.map Blk.b) W w' ob' := by
 obtain ⟨p, v, g, rfl, hp, hv⟩ := hB
 obtain ⟨A, cap, rfl⟩ := Sl.form hv
 subst hz
 refine vG (n := 17) hO Tryz.func124 rfl Kr Kr (ZO (Zv (.nilIface) (ZR (Zv (Zp b 0) (Zr (k := 161) (args := #[Zp b 0]) (fun v' L' => v' = .tuple #[] ∧ L' = ⟨b, #[Zp b 0, .slice A l.length cap], 109⟩ :: g) (fun w hO => (rcheck_any b p _ _ _ _ w hp hO).mono fun e w' ⟨k1, k2⟩ => ⟨_, _, k1, ⟨rfl, rfl⟩, k2⟩) (fun v0 L0 hv0 => ?_))))))
 obtain ⟨rfl, rfl⟩ := hv0
 refine ZR (Zv (Zp b 0) (Zv (Zp b 0) (Zv (Zp b 0) (Zv (Zp b 1) (Zl 0 ⟨b, #[Zp b 0, .slice A l.length cap], 109⟩ (off := 1) (.slice A l.length cap) (Zv (.int .u8 (c.toNat : Int)) (s_lit 5 #[.int .u8 (c.toNat : Int)] Kr rfl (fun _ => Kr) (fun b1 => ?_))))))))
 obtain ⟨i0, e1, e2, e3, e4⟩ := infoU8R
 refine zS (L' := [⟨b1, #[.int .u8 (c.toNat : Int)], 5⟩, ⟨b, #[Zp b 0, .slice A l.length cap], 109⟩] ++ g ++ []) (by simp) (dA (sz := 1) Kr rfl Tryz.underlying52 e1 e2 e3 rfl Kr hv (a := ⟨b1, 0, none⟩) (m := 1) (c := 1) (news := Lib.byteCells [c]) Kr rfl (fun w hO j u hj => ?_) (fun u hu => by rw [List.mem_singleton.1 hu]; rfl) (by unfold maxLen; omega) (by rw [e4]; omega) (fun v2 g2 hv2 => ?_))
 ·rw [x3, cell_of_row w b1 (0 + j) (Lib.byteCells [c]).toArray 5 _ (hO.held ⟨b1, (Lib.byteCells [c]).toArray, 5⟩ (List.mem_append_left _ (List.mem_append_left _ (List.mem_cons_self ..))))]; simpa using hj
 have hv3 : Sl 5 1 v2 (l ++ [c]).length (Lib.byteCells (l ++ [c])) g2 := by rw [List.length_append, Lib.byteCells_append]; exact hv2
 obtain ⟨A2, cap2, rfl⟩ := Sl.form hv3
 refine zS (L' := ⟨b1, #[.int .u8 (c.toNat : Int)], 5⟩ :: (⟨b, #[Zp b 0, .slice A l.length cap], 109⟩ :: (g2))) (by simp) (Zv (Zp b 0) (Zv (Zp b 1) (Zs 1 ⟨b, #[Zp b 0, .slice A l.length cap], 109⟩ (off := 1) (.slice A2 ((l ++ [c]).length) cap2) (ZR (Zv (.nilIface) (ZN (zL ?_)))))))
 exact ZF (.nilIface) Tryz.results124 (fun w hO => ⟨_, rfl, ⟨_, _, g2, rfl, .inr rfl, hv3⟩, Own.sub [⟨b1, #[.int .u8 (c.toNat : Int)], 5⟩] hO⟩)
end
section
set_option linter.unnecessarySimpa false
theorem rq_write (b : Nat) (l s : List UInt8) (R ob : List Blk) {M : List Nat} {W : World} (hB : BuR b l ob) (hl : l.length ≤ 1000000000000) (hs : s.length ≤ 1000000000000) : ∀ w, Own M W w (R ++ ob) → YC 122 #[.pointer (some ⟨b, 0, none⟩), .string (mkS s)] w fun e w' => ∃ v ob', e = .returned v ∧ BuR b (l ++ s) ob' ∧ Own (ob.map Blk.b) w w' ob' :=
 fun w hO => (rWrite_any b l s ob w hB (Own.lentR hO) hl hs).mono fun e w' ⟨ob', k1, k2, k3⟩ => ⟨_, ob', k1, k2, k3⟩
theorem qLine_any (b : Nat) (l : List UInt8) (ws : List (List UInt8)) (v : Value) (wb ob : List Blk) (W : World) (hB : BuR b l ob) (hw : SlT v ws wb) (hO : Own ((wb ++ ob).map Blk.b) W W (wb ++ ob)) (hl : l.length ≤ 1000000000) (hj : (zD 32 ws).length ≤ 400000000) (hn : ws.length ≤ 1000000) (hne : zD 32 ws ≠ []) : YC 74 #[.pointer (some ⟨b, 0, none⟩), v] W fun e w' => ∃ ob', e = .returned (.tuple #[]) ∧ BuR b (l ++ (zD 32 ws ++ [10])) ob' ∧ Own ((wb ++ ob).map Blk.b) W w' (wb ++ ob') := by
 obtain ⟨A, cap, rfl⟩ := SlT.form hw
 have hJ : ∀ w, Own ((wb ++ ob).map Blk.b) W w (wb ++ ob) → YC 123 #[.slice A ws.length cap, .int .u8 32] w (YR (.string (mkS (zD 32 ws))) w) := fun w hO => wY _ ws 32 w (hw.readsT hO fun x hx => List.mem_append_left _ hx) Om Om hne
 refine yJ hO Tryz.func74 (x_drawLF (.s .z) 6 [] wb (fun w hO => (hO.past 0 (wb ++ ob)).sublist (List.sublist_append_left _ _)) (yH [] 4 (zE (v := .string (mkS (zD 32 ws))) [] (fun w hO => hJ w (hO.past 0 _)) (yH [] 5 ?_))))
 exact xh_callL (Rr := fun _ ob' => BuR b (l ++ zD 32 ws) ob') (wb ++ ob) wb ob wb (fun w hO => hO) (fun o w hO => hO.sublist (List.sublist_append_left _ _)) (rq_write b l (zD 32 ws) wb ob hB Om Om) fun v1 o1 h1 => (xN (k := 124) (args := #[Zp b 0, .int .u8 10]) (Rr := fun _ ob' => BuR b (l ++ zD 32 ws ++ [10]) ob') [] (wb ++ o1) wb o1 (fun w hO => hO) (fun w hO => (rByte_any b (l ++ zD 32 ws) 10 10 o1 w h1 (Own.lentR hO) (by simp only [List.length_append]; omega) rfl).mono fun e w' ⟨ob', k1, k2, k3⟩ => ⟨_, ob', k1, k2, k3⟩) fun v2 o2 h2 => (vH [] fun w hO => ⟨o2, rfl, by rw [← List.append_assoc]; exact h2, hO.past 0 _⟩))
def mT (w s : List UInt8) : List UInt8 := if s = [] then [] else w ++ [32] ++ s ++ [10]
theorem qlit (b N : Nat) (cs : Array Value) (ws : List (List UInt8)) (hc : cs.toList = gI ws) (hN : ws.length = N) (hM : N ≤ 1000) : SlT (.slice (some ⟨b, 0, none⟩) N N) ws [⟨b, cs, 9⟩] := by
 subst hN
 unfold SlT
 rw [← hc]
 refine sl_block ?_ (by unfold maxLen; omega)
 rw [← Array.length_toList, hc, x1]
 have := j7 zZ ws
 omega
theorem q_line {M : List Nat} {W : World} (b : Nat) (l : List UInt8) (ws : List (List UInt8)) (v : Value) (R wb ob : List Blk) (hB : BuR b l ob) (hw : SlT v ws wb) (hl : l.length ≤ 1000000000) (hj : (zD 32 ws).length ≤ 400000000) (hn : ws.length ≤ 1000000) (hne : zD 32 ws ≠ []) : ∀ w, Own M W w (R ++ (wb ++ ob)) → YC 74 #[.pointer (some ⟨b, 0, none⟩), v] w fun e w' => ∃ v' o, e = .returned v' ∧ (∃ ob', BuR b (l ++ (zD 32 ws ++ [10])) ob' ∧ o = wb ++ ob') ∧ Own ((wb ++ ob).map Blk.b) w w' o :=
 fun w hO => (qLine_any b l ws v wb ob w hB hw (Own.lentR hO) hl hj hn hne).mono fun e w' ⟨ob', k1, k2, k3⟩ => ⟨_, _, k1, ⟨ob', k2, rfl⟩, k3⟩
theorem qMaybe_any (b : Nat) (l wd s : List UInt8) (ob : List Blk) (W : World) (hB : BuR b l ob) (hO : Own (ob.map Blk.b) W W ob) (hl : l.length ≤ 900000000) (hw : wd ≠ [] ∧ wd.length ≤ 100) (hs : s.length ≤ 100000000) : YC 77 #[.pointer (some ⟨b, 0, none⟩), .string (mkS wd), .string (mkS s)] W fun e w' => ∃ ob', e = .returned (.tuple #[]) ∧ BuR b (l ++ mT wd s) ob' ∧ Own (ob.map Blk.b) W w' ob' := by
 have hT : zD 32 [wd, s] = wd ++ 32 :: s := rfl
 refine yJ hO Tryz.func77 (wI 7 [] s [] (fun h => ?_) (fun h => ?_))
 ·exact vH [] fun w hO => ⟨ob, rfl, by rw [mT, if_pos h, List.append_nil]; exact hB, hO.past 0 _⟩
 refine wJ [] 2 9 #[.string (mkS wd), .string (mkS s)] fun g => (xN [] ([⟨g, #[.string (mkS wd), .string (mkS s)], 9⟩] ++ ob) [] ([⟨g, #[.string (mkS wd), .string (mkS s)], 9⟩] ++ ob) (fun w hO => hO) (q_line b l [wd, s] _ [] _ ob hB (qlit g 2 _ [wd, s] rfl rfl Om) Om (by rw [hT]; simp only [List.length_append, List.length_cons]; omega) (by simp) (by rw [hT]; simp [hw.1])) fun v1 o1 ⟨ob', k1, k2⟩ => ?_)
 subst k2
 have hz : l ++ (zD 32 [wd, s] ++ [10]) = l ++ mT wd s := by rw [mT, if_neg h, hT]; simp
 rw [hz] at k1
 exact vH [] fun w hO => ⟨ob', rfl, k1, hO.past 1 _⟩
theorem q_maybe {M : List Nat} {W : World} (b : Nat) (l wd s : List UInt8) (R ob : List Blk) (hB : BuR b l ob) (hl : l.length ≤ 900000000) (hw : wd ≠ [] ∧ wd.length ≤ 100) (hs : s.length ≤ 100000000) : ∀ w, Own M W w (R ++ ob) → YC 77 #[.pointer (some ⟨b, 0, none⟩), .string (mkS wd), .string (mkS s)] w fun e w' => ∃ v' o, e = .returned v' ∧ BuR b (l ++ mT wd s) o ∧ Own (ob.map Blk.b) w w' o :=
 fun w hO => (qMaybe_any b l wd s ob w hB (Own.lentR hO) hl hw hs).mono fun e w' ⟨ob', k1, k2, k3⟩ => ⟨_, _, k1, k2, k3⟩
theorem maybe_when (s : List UInt8) : mT kJ s = pR s := by
 unfold mT pR
 split
 ·rfl
 ·simp [kJ, txWhen]
theorem maybe_opt (s : List UInt8) : mT dZ s = optnT s := by
 unfold mT optnT
 split
 ·rfl
 ·simp [dZ, txOpt]
theorem joinL_ne (b : UInt8) : ∀ {l : List (List UInt8)}, l ≠ [] → (∀ s ∈ l, s ≠ []) → zD b l ≠ []
 | [], h, _ => absurd rfl h
 | [x], _, h => h x (List.mem_singleton.2 rfl)
 | x :: y :: r, _, _ => by rw [zD]; simp
theorem own_rot3 {M : List Nat} {W w : World} {x y z : Blk} {L : List Blk} (h : Own M W w (x :: y :: z :: L)) : Own M W w (y :: z :: x :: L) := h.perm ((List.Perm.swap ..).trans (List.Perm.cons _ (List.Perm.swap ..)))
def ndB (n : Nv) (b : Nat) : Blk := ⟨b, #[.slice n.A n.any.length n.cap, .string (mkS n.wh), .string (mkS n.opt)], 57⟩
def wsB (u : Wv) (b : Nat) : Blk := ⟨b, #[.string (mkS u.name), .string (mkS u.rng), .slice u.A u.fs.length u.cap, .bool u.bare], 60⟩
theorem qNeedW_any (B b : Nat) (l : List UInt8) (n : Nv) (ob : List Blk) (W : World) (hB : BuR b l ob) (hO : Own (ob.map Blk.b) W W ob) (hge : ∀ x ∈ ob, B ≤ x.b) (hBW : B ≤ W.heap.size) (hv : Reads wvC W B n.A n.any) (hf : ∀ u ∈ n.any, Reads y9 W B u.A u.fs) (hn : n.any.length ≤ 5000) (hnf : ∀ u ∈ n.any, u.fs.length ≤ 5000) (hfe : ∀ u ∈ n.any, ∀ s ∈ u.fs, s ≠ []) (hs : n.wh.length ≤ 1000000 ∧ n.opt.length ≤ 1000000) (hl : l.length + (gK n.nt).length ≤ 300000000) : YC 76 #[.pointer (some ⟨b, 0, none⟩), nvV n] W fun e w' => ∃ ob', e = .returned (.tuple #[]) ∧ BuR b (l ++ gK n.nt) ob' ∧ Own (ob.map Blk.b) W w' ob' := by
 have hM' : ∀ k ∈ ob.map Blk.b, B ≤ k := fun k hk => by obtain ⟨x, hx, rfl⟩ := List.mem_map.1 hk; exact hge x hx
 have hnT : gK n.nt = txNeed ++ n.any.flatMap (fun u => wR u.wt) ++ pR n.wh ++ optnT n.opt := by
  unfold gK; simp only [Nv.nt, List.flatMap_map]
 have hnl := congrArg List.length hnT
 simp only [List.length_append] at hnl
 have hn5 : txNeed.length = 5 := rfl
 refine yJ hO Tryz.func76 (wK [] fun b3 => wJ [] 1 9 #[.string (mkS v6)] fun g => ?_)
 refine xN [] (⟨g, #[.string (mkS v6)], 9⟩ :: ndB n b3 :: ob) [ndB n b3] ([⟨g, #[.string (mkS v6)], 9⟩] ++ ob) (fun w hO => hO.swap) (q_line b l [v6] _ _ _ ob hB (qlit g 1 _ [v6] rfl rfl Om) Om (by decide) (by simp) (by decide)) fun v1 o1 ⟨ob1, k1, k2⟩ => ?_
 subst k2
 refine yG [0] (ndB n b3 :: ob1) (fun w hO => (hO.past 0 (ndB n b3 :: ⟨g, #[.string (mkS v6)], 9⟩ :: ob1)).swap.past 1 _) (qO (α := Nat × List Blk) (fun x => [(0, Zp b 0), (3, Zp b3 0), (12, .slice n.A n.any.length n.cap), (13, YI (n.any.length : Int)), (14, YI (x.1 : Int))]) (fun x => ndB n b3 :: x.2) (fun x m => (x.1 ≤ n.any.length ∧ BuR b (l ++ txNeed ++ (n.any.take x.1).flatMap (fun u => wR u.wt)) x.2) ∧ m = n.any.length - x.1) (0, ob1) n.any.length [] ⟨⟨Nat.zero_le _, by simp only [List.take_zero, List.flatMap_nil, List.append_nil]; exact k1⟩, rfl⟩ ?_)
 rintro ⟨i, o⟩ mm gg kk ⟨⟨hi, ho⟩, hmm⟩ nx hkk
 subst hkk
 replace hi : i ≤ n.any.length := hi
 replace ho : BuR b (l ++ txNeed ++ (n.any.take i).flatMap (fun u => wR u.wt)) o := ho
 have hpt := fm_part (fun u : Wv => wR u.wt) (l := n.any) i
 have hpl : (l ++ txNeed ++ (n.any.take i).flatMap (fun u => wR u.wt)).length ≤ 300000000 := by simp only [List.length_append]; omega
 refine y8 15 [] ((i : Int) < (n.any.length : Int)) (fun h15 => ?_) (fun h15 => ?_)
 ·have hj : i < n.any.length := by omega
  obtain ⟨eb, eo, hA, hel⟩ := hv.elem dY i hj
  have hst := mJ (fun u : Wv => wR u.wt) hj
  have hsm : n.any[i] ∈ n.any := List.getElem_mem hj
  have hone := fm_one (fun u : Wv => wR u.wt) hsm
  have hel0 : ∀ w, Below B W w → (loadVar 60 ⟨eb, eo + i * 4 + 0, none⟩).run Tryz.prog w = .ok (wvV n.any[i]) w := fun w hw => hel w hw _ 0 _ Kr
  have hru := hf _ hsm; have hnu := hnf _ hsm; have hfu := hfe _ hsm
  have hw2 : l ++ txNeed ++ (n.any.take i).flatMap (fun u => wR u.wt) ++ wR n.any[i].wt = l ++ txNeed ++ (n.any.take (i + 1)).flatMap (fun u => wR u.wt) := by rw [hst, ← List.append_assoc]
  generalize n.any[i] = u at hel0 hone hru hnu hfu hw2
  generalize l ++ txNeed ++ (n.any.take i).flatMap (fun u => wR u.wt) = done at *
  have huT : wR u.wt = zD 32 [bI, u.name, wB u.fs, vM u.bare, u.rng] ++ [10] := (wishL_text u.wt).symm
  have hul := congrArg List.length huT
  rw [List.length_append] at hul
  have hfl : (wB u.fs).length ≤ (zD 32 [bI, u.name, wB u.fs, vM u.bare, u.rng]).length := jn_part 32 (by simp)
  have hJ : ∀ w, Below B W w → u.fs ≠ [] → YC 123 #[.slice u.A u.fs.length u.cap, .int .u8 44] w (YR (.string (mkS (wB u.fs))) w) := fun w hb hne => by
   have hw : wB u.fs = zD 44 u.fs := if_neg hne
   rw [hw]
   exact wY _ u.fs 44 w (reads_t (hru.on hb (Nat.le_trans hBW hb.size)) (Nat.le_refl _)) (by rw [← hw]; omega) Om (joinL_ne 44 hne hfu)
  refine kH 16 [] hA n.any.length n.cap i 4 hj (kB 17 [] 60 eb (eo + i * 4 + 0) (wvV u) (fun w hO => hel0 w (hO.belowB hM' hBW)) (zV [] fun b5 => m7 21 (α := List UInt8) (fun fl => [(0, Zp b 0), (3, Zp b3 0), (5, Zp b5 0), (6, .string (mkS fl)), (7, .string (mkS fL)), (12, .slice n.A n.any.length n.cap), (13, YI (n.any.length : Int)), (14, YI (i : Int))]) (fun _ => wsB u b5 :: ndB n b3 :: o) (fun fl => fl = wB u.fs) [0, 0] (fun nj => x_now 21 ((u.fs.length : Int) > 0) (fun h => ?_) (fun h => ?_)) (fun fl g1 hfl1 => ?_)))
  ·exact zE (v := .string (mkS (wB u.fs))) [0] (fun w hO => hJ w (hO.belowB hM' hBW) (fun e => by rw [e] at h; simp at h)) (nj (wB u.fs) [] rfl Kr)
  ·exact nj [45] [] (show [45] = wB u.fs from by unfold wB; rw [if_pos (List.eq_nil_of_length_eq_zero Om)]) Kr
  refine m7 26 (α := List UInt8) (fun kd => [(0, Zp b 0), (3, Zp b3 0), (5, Zp b5 0), (6, .string (mkS fl)), (7, .string (mkS kd)), (12, .slice n.A n.any.length n.cap), (13, YI (n.any.length : Int)), (14, YI (i : Int))]) (fun _ => wsB u b5 :: ndB n b3 :: o) (fun kd => kd = vM u.bare) [0] (fun nj => xE 26 u.bare (fun h => nj gZ [] (by rw [h]; rfl) Kr) (fun h => nj fL [] (by rw [h]; rfl) Kr)) (fun kd g2 hkd => ?_)
  subst hfl1; subst hkd
  refine wJ [0, 0] 5 9 #[.string (mkS bI), .string (mkS u.name), .string (mkS (wB u.fs)), .string (mkS (vM u.bare)), .string (mkS u.rng)] fun g3 => (xN [] (⟨g3, #[.string (mkS bI), .string (mkS u.name), .string (mkS (wB u.fs)), .string (mkS (vM u.bare)), .string (mkS u.rng)], 9⟩ :: wsB u b5 :: ndB n b3 :: o) [wsB u b5, ndB n b3] ([⟨g3, #[.string (mkS bI), .string (mkS u.name), .string (mkS (wB u.fs)), .string (mkS (vM u.bare)), .string (mkS u.rng)], 9⟩] ++ o) (fun w hO => own_rot3 hO) (q_line b done [bI, u.name, wB u.fs, vM u.bare, u.rng] _ _ _ o ho (qlit g3 5 _ _ rfl rfl Om) Om Om (by simp) (by simp [zD, bI])) fun v2 o2 ⟨ob2, q1, q2⟩ => ?_)
  subst q2
  rw [← huT, hw2] at q1
  exact x_i 14 [] ((i + 1 : Nat) : Int) (yG [] (ndB n b3 :: ob2) (fun w hO => (hO.past 1 (ndB n b3 :: ⟨g3, #[.string (mkS bI), .string (mkS u.name), .string (mkS (wB u.fs)), .string (mkS (vM u.bare)), .string (mkS u.rng)], 9⟩ :: ob2)).swap.past 1 _) (nx (i + 1, ob2) (n.any.length - (i + 1)) [] Om ⟨⟨hj, q1⟩, rfl⟩ Kr Kr))
 rw [List.take_of_length_le (show n.any.length ≤ i by omega)] at ho
 clear nx
 have hwl : (pR n.wh).length ≤ 300000000 := by omega
 refine xN [0] (ndB n b3 :: o) [ndB n b3] o (fun w hO => hO) (q_maybe b _ kJ n.wh [ndB n b3] o ho (by simp only [List.length_append]; omega) (by decide) Om) fun v3 o3 h3 => ?_
 rw [maybe_when] at h3
 refine xN [0] (ndB n b3 :: o3) [ndB n b3] o3 (fun w hO => hO) (q_maybe b _ dZ n.opt [ndB n b3] o3 h3 (by simp only [List.length_append]; omega) (by decide) Om) fun v4 o4 h4 => ?_
 rw [maybe_opt] at h4
 refine vH [] fun w hO => ⟨o4, rfl, ?_, hO.past 1 _⟩
 rw [hnT]
 simpa only [List.append_assoc] using h4
end
section
set_option linter.unnecessarySimpa false
theorem partsE_is (r : Rv) : vZ r.rt = if (kR (fun n : Nv => gR r.name n.nt) 0 r.needs).1 ≠ 0 then kR (fun n : Nv => gR r.name n.nt) 0 r.needs
 else if (kR (fun b : Bv => wQ r.name b.bt) 0 r.bars).1 ≠ 0 then kR (fun b : Bv => wQ r.name b.bt) 0 r.bars
 else if fT (kA r.fts) = false then (11, 0)
 else kR (fun f : Fv => x5 (gM r.rt.needs) f.of) 0 r.fts := by
 unfold vZ
 rw [show r.rt.needs = r.needs.map Nv.nt from rfl, show r.rt.bars = r.bars.map Bv.bt from rfl, show r.rt.fts = r.fts.map Fv.ft from rfl, pA, pA, pA]; rfl
theorem vprint_short {v : Ver} (hp : v.pre.length ≤ 1000000) (hq : v.build.length ≤ 1000000) : v.print.length ≤ 3000000 := by
 unfold Ver.print
 split
 case isTrue h =>
  obtain ⟨n1, n2, n3⟩ := qD h
  have hnl : (pL v).length ≤ 14 := nums_len n1 n2 n3
  have h1 : (kD 45 v.pre).length ≤ 1000001 := by unfold kD; split <;> simp <;> omega
  have h2 : (kD 43 v.build).length ≤ 1000001 := by unfold kD; split <;> simp <;> omega
  unfold Ver.text
  simp only [List.length_append]; omega
 case isFalse => simp
end
section
def BytesAt (w : World) (e : TypeId) (g : Nat) (l : List UInt8) : Prop :=
 ∃ row, w.heap[g]? = some (.cells row e (row.size, row.size + 1)) ∧ l.length ≤ row.size ∧ ∀ j (h : j < l.length), row[j]? = some (.int .u8 (l[j].toNat : Int))
theorem BytesAt.lt {w : World} {e : TypeId} {g : Nat} {l : List UInt8} (h : BytesAt w e g l) : g < w.heap.size := by
 obtain ⟨row, h1, _⟩ := h
 exact (Array.getElem?_eq_some_iff.1 h1).1
theorem BytesAt.cell {w : World} {e : TypeId} {g : Nat} {l : List UInt8} (h : BytesAt w e g l) {j : Nat} (hj : j < l.length) : w.cell? ⟨g, j, none⟩ = some (.int .u8 (l[j].toNat : Int)) := by
 obtain ⟨row, h1, _, h3⟩ := h
 rw [Lib.cell_of_heap h1]; exact h3 j hj
theorem BytesAt.made (w : World) (e : TypeId) (s : List UInt8) : BytesAt (Lib.bytesWorld w e (mkS s)) e w.heap.size s ∧ Below w.heap.size w (Lib.bytesWorld w e (mkS s)) ∧ w.heap.size < (Lib.bytesWorld w e (mkS s)).heap.size := by
 have hsz := Lib.bytesWorld_size w e (mkS s)
 refine ⟨⟨Lib.bytesCells w e (mkS s), Lib.bytesWorld_at_new w e (mkS s), ?_, fun j hj => ?_⟩, ⟨?_, ?_, ?_, by omega, ?_, fun k hk => Lib.bytesWorld_at_old w e (mkS s) k hk⟩, by omega⟩
 ·unfold Lib.bytesCells mkS; simp
 ·unfold Lib.bytesCells mkS
  rw [Array.getElem?_append_left (by simpa using hj)]
  simp [hj]
 all_goals
  unfold Lib.bytesWorld World.freeze
  split <;> first | rfl | exact Nat.le_succ _
section
variable {M : List Nat} {P : Program} {n0 : Nat} {ops : Array Oper} {W : World} {Q : Exit → Act → World → Prop} {rest : List Oper} {o : Oper} {L : List Blk} {f : Nat → Value}
end
end
section
def u64V (x : UInt64) : Value := .int .u64 (x.toNat : Int)
section
variable {P : Program} {ρ : Operand → Value} {o : Oper} {t t' : TypeId} {a b : Operand}
theorem lt64 (x : UInt64) : x.toNat < 18446744073709551616 := x.toNat_lt
theorem run_xor64 {x y : UInt64} (ho : o.op = .binOp .xor t a b t') (hx : ρ a = .int .u64 (x.toNat : Int)) (hy : ρ b = .int .u64 (y.toNat : Int)) (w : World) : (execOp ρ o).run P w = .ok (.value (.int .u64 ((x ^^^ y).toNat : Int))) w := by
 have hb : binOp .xor t (.int .u64 (x.toNat : Int)) (.int .u64 (y.toNat : Int)) = pure (.int .u64 ((x ^^^ y).toNat : Int)) := by
  have e := u64_xor_nat _ _ (lt64 x) (lt64 y)
  rw [← UInt64.toNat_xor] at e
  rw [← e]
  simp [binOp, intBits_xor]
 have hg : eqGuard .xor t a b (.int .u64 (x.toNat : Int)) (.int .u64 (y.toNat : Int)) = pure () := rfl
 unfold execOp
 simp only [ho, hx, hy, Sem.run_bind, hg, hb, Sem.run_pure, Result.andThen_ok]
theorem run_or64 {x y : UInt64} (ho : o.op = .binOp .or t a b t') (hx : ρ a = .int .u64 (x.toNat : Int)) (hy : ρ b = .int .u64 (y.toNat : Int)) (w : World) : (execOp ρ o).run P w = .ok (.value (.int .u64 ((x ||| y).toNat : Int))) w := by
 have hb : binOp .or t (.int .u64 (x.toNat : Int)) (.int .u64 (y.toNat : Int)) = pure (.int .u64 ((x ||| y).toNat : Int)) := by
  have e := u64_or_nat _ _ (lt64 x) (lt64 y)
  rw [← UInt64.toNat_or] at e
  rw [← e]
  simp [binOp, intBits_or]
 have hg : eqGuard .or t a b (.int .u64 (x.toNat : Int)) (.int .u64 (y.toNat : Int)) = pure () := rfl
 unfold execOp
 simp only [ho, hx, hy, Sem.run_bind, hg, hb, Sem.run_pure, Result.andThen_ok]
theorem wrap64_nat (n : Nat) : IntKind.u64.wrap (n : Int) = ((n % 18446744073709551616 : Nat) : Int) := by
 simp [IntKind.wrap, IntKind.bits, IntKind.signed]
theorem run_mul64 {x y : UInt64} (ho : o.op = .binOp .mul t a b t') (hx : ρ a = .int .u64 (x.toNat : Int)) (hy : ρ b = .int .u64 (y.toNat : Int)) (w : World) : (execOp ρ o).run P w = .ok (.value (.int .u64 ((x * y).toNat : Int))) w := by
 unfold execOp
 have h := wrap64_nat (x.toNat * y.toNat)
 rw [Int.natCast_mul] at h
 simp [ho, hx, hy, eqGuard, binOp, Op.intArith, h, UInt64.toNat_mul]
theorem run_shl64 {x : UInt64} {yk : IntKind} {n : Nat} (ho : o.op = .binOp .shl t a b t') (hx : ρ a = .int .u64 (x.toNat : Int)) (hy : ρ b = .int yk (n : Int)) (hn : n < 64) (w : World) : (execOp ρ o).run P w = .ok (.value (.int .u64 ((x <<< UInt64.ofNat n).toNat : Int))) w := by
 have h1 := shift_shl .u64 yk (x.toNat : Int) (n : Int) Om (by show (n : Int) ≤ 64; omega)
 have h2 : IntKind.u64.wrap ((x.toNat : Int) * 2 ^ (n : Int).toNat) = ((x <<< UInt64.ofNat n).toNat : Int) := by
  have h := wrap64_nat (x.toNat * 2 ^ n)
  rw [Int.toNat_natCast]
  rw [Int.natCast_mul] at h
  rw [show ((2 : Int) ^ n) = ((2 ^ n : Nat) : Int) from by push_cast; rfl, h, UInt64.toNat_shiftLeft, UInt64.toNat_ofNat', Nat.shiftLeft_eq, show n % 2 ^ 64 % 64 = n from by omega]
 have hg : eqGuard .shl t a b (.int .u64 (x.toNat : Int)) (.int yk (n : Int)) = pure () := rfl
 unfold execOp
 simp only [ho, hx, hy, Sem.run_bind, hg, binOp, h1, h2, Sem.run_pure, Result.andThen_ok]
theorem run_shr64 {x : UInt64} {yk : IntKind} {n : Nat} (ho : o.op = .binOp .shr t a b t') (hx : ρ a = .int .u64 (x.toNat : Int)) (hy : ρ b = .int yk (n : Int)) (hn : n < 64) (w : World) : (execOp ρ o).run P w = .ok (.value (.int .u64 ((x >>> UInt64.ofNat n).toNat : Int))) w := by
 have h1 := shift_shr .u64 yk (x.toNat : Int) (n : Int) Om (by show (n : Int) ≤ 64; omega)
 have h2 : (x.toNat : Int) / 2 ^ (n : Int).toNat = ((x >>> UInt64.ofNat n).toNat : Int) := by
  rw [Int.toNat_natCast, show ((2 : Int) ^ n) = ((2 ^ n : Nat) : Int) from by push_cast; rfl, UInt64.toNat_shiftRight, UInt64.toNat_ofNat', Nat.shiftRight_eq_div_pow, show n % 2 ^ 64 % 64 = n from by omega]
  exact (Int.natCast_ediv _ _).symm
 have hg : eqGuard .shr t a b (.int .u64 (x.toNat : Int)) (.int yk (n : Int)) = pure () := rfl
 unfold execOp
 simp only [ho, hx, hy, Sem.run_bind, hg, binOp, h1, h2, Sem.run_pure, Result.andThen_ok]
theorem run_to64 {src dst : TypeId} {x : UInt8} (ho : o.op = .convert src dst a) (hx : ρ a = .int .u8 (x.toNat : Int)) (hs : (P.underlying src).isSome = true) (hd : P.underlying dst = some (.int .u64)) (w : World) : (execOp ρ o).run P w = .ok (.value (.int .u64 (x.toUInt64.toNat : Int))) w := by
 have hk : P.intKind dst = .u64 := by unfold Program.intKind; rw [hd]
 have h := run_convert_int (P := P) w src dst .u8 (x.toNat : Int) hs (by rw [hk]; exact hd)
 rw [hk, wrap64_nat] at h
 have e : x.toNat % 18446744073709551616 = x.toUInt64.toNat := by rw [UInt8.toNat_toUInt64]; have := x.toNat_lt; omega
 rw [e] at h
 unfold execOp
 simp only [ho, hx, Sem.run_bind, h, Sem.run_pure, Result.andThen_ok]
end
end
section
def dK : UInt64 := 0xFF51AFD7ED558CCD
def dI : UInt64 := 0x9E3779B97F4A7C15
def t7 (x : UInt64) : UInt64 := x <<< 13 ||| x >>> 51
def tP (h : UInt64) (b : UInt8) : UInt64 := t7 (h ^^^ b.toUInt64) * dK
def dMix (l : List UInt8) : UInt64 := l.foldl tP dI
def dEnd (h : UInt64) : UInt64 := h ^^^ h >>> 29
def pP (l : List UInt8) : UInt64 := dEnd (dMix l)
theorem dMul {x y : UInt64} (h : x * dK = y * dK) : x = y := by
 have e : dK * 0x4F74430C22A54005 = 1 := by decide
 have h2 := congrArg (· * (0x4F74430C22A54005 : UInt64)) h
 simp only [UInt64.mul_assoc, e, UInt64.mul_one] at h2
 exact h2
theorem bv_rot (x : BitVec 64) : (x <<< 13 ||| x >>> 51) >>> 13 ||| (x <<< 13 ||| x >>> 51) <<< 51 = x := by
 apply BitVec.eq_of_getLsbD_eq
 intro i hi
 simp only [BitVec.getLsbD_or, BitVec.getLsbD_shiftLeft, BitVec.getLsbD_ushiftRight]
 by_cases h : i < 51
 ·have h1 : decide (13 + i < 64) = true := decide_eq_true Om
  have h2 : decide (13 + i < 13) = false := decide_eq_false Om
  have h3 : decide (i < 51) = true := decide_eq_true h
  have h4 : x.getLsbD (51 + (13 + i)) = false := BitVec.getLsbD_of_ge _ _ Om
  have h5 : 13 + i - 13 = i := by omega
  simp [h1, h2, h3, h4, h5]
 ·have h1 : decide (13 + i < 64) = false := decide_eq_false Om
  have h3 : decide (i < 51) = false := decide_eq_false h
  have h4 : x.getLsbD (51 + (13 + i)) = false := BitVec.getLsbD_of_ge _ _ Om
  have h5 : decide (i - 51 < 13) = true := decide_eq_true Om
  have h6 : 51 + (i - 51) = i := by omega
  have h7 : decide (i < 64) = true := decide_eq_true hi
  simp [h1, h3, h4, h5, h6, h7]
theorem bv_end (x : BitVec 64) : (x ^^^ x >>> 29) ^^^ (x ^^^ x >>> 29) >>> 29 ^^^ (x ^^^ x >>> 29) >>> 58 = x := by
 apply BitVec.eq_of_getLsbD_eq
 intro i hi
 simp only [BitVec.getLsbD_xor, BitVec.getLsbD_ushiftRight]
 have h1 : 29 + (29 + i) = 58 + i := by omega
 have h2 : x.getLsbD (29 + (58 + i)) = false := BitVec.getLsbD_of_ge _ _ Om
 rw [h1, h2]
 cases x.getLsbD i <;> cases x.getLsbD (29 + i) <;> cases x.getLsbD (58 + i) <;> rfl
theorem rot_inj {x y : UInt64} (h : t7 x = t7 y) : x = y := by
 have h2 : x.toBitVec <<< 13 ||| x.toBitVec >>> 51 = y.toBitVec <<< 13 ||| y.toBitVec >>> 51 := by
  have := congrArg UInt64.toBitVec h
  simpa [t7] using this
 have h3 := bv_rot x.toBitVec
 rw [h2, bv_rot] at h3
 exact UInt64.toBitVec_inj.1 h3.symm
theorem end_inj {x y : UInt64} (h : dEnd x = dEnd y) : x = y := by
 have h2 : x.toBitVec ^^^ x.toBitVec >>> 29 = y.toBitVec ^^^ y.toBitVec >>> 29 := by
  have := congrArg UInt64.toBitVec h
  simpa [dEnd] using this
 have h3 := bv_end x.toBitVec
 rw [h2, bv_end] at h3
 exact UInt64.toBitVec_inj.1 h3.symm
theorem xor_cancel {x y z : UInt64} (h : x ^^^ z = y ^^^ z) : x = y := by
 have h2 := congrArg (· ^^^ z) h
 simpa [UInt64.xor_assoc] using h2
theorem step_inj {x y : UInt64} {b : UInt8} (h : tP x b = tP y b) : x = y := xor_cancel (rot_inj (dMul h))
theorem step_byte {x : UInt64} {b c : UInt8} (h : tP x b = tP x c) : b = c := by
 have h2 := rot_inj (dMul h)
 have h3 : b.toUInt64 = c.toUInt64 := by
  have := congrArg (x ^^^ ·) h2
  simpa [← UInt64.xor_assoc] using this
 have h4 := congrArg UInt64.toNat h3
 rw [UInt8.toNat_toUInt64, UInt8.toNat_toUInt64] at h4
 exact UInt8.toNat_inj.1 h4
theorem mix_inj : ∀ (l : List UInt8) {x y : UInt64}, l.foldl tP x = l.foldl tP y → x = y
 | [], _, _, h => h
 | b :: l, x, y, h => step_inj (mix_inj l h)
theorem mix_one : ∀ (l : List UInt8) (k : Nat) (hk : k < l.length) (c : UInt8) (x : UInt64), (l.set k c).foldl tP x = l.foldl tP x → c = l[k]
 | b :: l, 0, _, c, x, h => step_byte (mix_inj l h)
 | b :: l, k + 1, hk, c, x, h => mix_one l k (by simpa using hk) c _ h
theorem dSum_one {l : List UInt8} {k : Nat} (hk : k < l.length) {c : UInt8} : pP (l.set k c) = pP l ↔ c = l[k] := by
 constructor
 ·exact fun h => mix_one l k hk c dI (end_inj h)
 ·intro h; rw [h, List.set_getElem_self]
def dBytes (n : UInt64) : List UInt8 := ([56, 48, 40, 32, 24, 16, 8, 0] : List UInt64).map fun k => (n >>> k).toUInt8
def dPair (a b : UInt64) : UInt64 := pP (dBytes a ++ dBytes b)
def dRoot (l : List UInt64) : UInt64 := l.foldl dPair (pP [])
end
section
def hexD (d : Nat) : UInt8 := if d < 10 then UInt8.ofNat (48 + d) else UInt8.ofNat (87 + d)
def hexV (c : UInt8) : Option Nat := if 48 ≤ c.toNat ∧ c.toNat ≤ 57 then some (c.toNat - 48) else if 97 ≤ c.toNat ∧ c.toNat ≤ 102 then some (c.toNat - 87) else none
def hexT (n : Nat) (k : Nat) : List UInt8 := (List.range k).map fun i => hexD (n / 16 ^ (15 - i) % 16)
def dText (n : UInt64) : List UInt8 := hexT n.toNat 16
def hexN : Nat → List UInt8 → Option Nat
 | n, [] => some n
 | n, c :: r => match hexV c with
  | some d => hexN (n * 16 + d) r
  | none => none
def dReadN (s : List UInt8) : Option Nat := if s.length = 16 then hexN 0 s else none
def dReadV (s : List UInt8) : UInt64 := UInt64.ofNat ((dReadN s).getD 0)
def dReadB (s : List UInt8) : Bool := (dReadN s).isSome
end
section
def u8C (b : UInt8) : List Value := [.int .u8 (b.toNat : Int)]
def u64C (n : UInt64) : List Value := [.int .u64 (n.toNat : Int)]
theorem u8C_len (b : UInt8) : (u8C b).length = 1 := rfl
def SlB (v : Value) (l : List UInt8) (ob : List Blk) : Prop := Sl 5 1 v l.length (l.flatMap u8C) ob
def SlU (v : Value) (l : List UInt64) (ob : List Blk) : Prop := Sl 36 1 v l.length (l.flatMap u64C) ob
theorem u8_flat (l : List UInt8) : l.flatMap u8C = l.map fun b => .int .u8 (b.toNat : Int) := by
 induction l with
 | nil => rfl
 | cons b l ih => rw [List.flatMap_cons, List.map_cons, ih]; rfl
section
variable {P : Program} {o : Oper}
end
section
variable {P : Program} {n0 : Nat} {ops : Array Oper} {W : World} {Q : Exit → Act → World → Prop} {rest : List Oper} {o : Oper} {L0 : List Blk} {f : Nat → Value}
end
section
variable {M : List Nat} {P : Program} {n0 : Nat} {ops : Array Oper} {W : World} {Q : Exit → Act → World → Prop} {rest : List Oper} {o : Oper} {L0 : List Blk} {f : Nat → Value}
end
end
section
theorem BytesAt.reads {w : World} {e : TypeId} {g : Nat} {l : List UInt8} (h : BytesAt w e g l) : Reads u8C w w.heap.size (some ⟨g, 0, none⟩) l := fun h0 => ⟨g, 0, rfl, h.lt, fun j u hj => by
 rw [u8_flat, List.getElem?_map] at hj
 cases hl : l[j]? with
 | none => rw [hl] at hj; cases hj
 | some b =>
  rw [hl] at hj
  obtain ⟨hlt, hb⟩ := List.getElem?_eq_some_iff.1 hl
  have := h.cell hlt
  rw [Nat.zero_add, this, hb]
  exact hj⟩
section
variable {M : List Nat} {P : Program} {n : Nat} {W : World} {Q : Exit → Act → World → Prop} {c : Xc}
theorem x_bytes (d : Nat) (h : List Nat) (s : List UInt8) {src dst e : TypeId} {x : Operand} (hg : ∀ w0 w1 cap, Own M W w0 (xgo P n (d + 50000) h c).L → BytesAt w1 e w0.heap.size s → Below w0.heap.size w0 w1 → w0.heap.size < w1.heap.size → s.length ≤ cap → zI [] P n w1 Q (xNx (xgo P n (d + 50000) h c) [] (.slice (some ⟨w0.heap.size, 0, none⟩) s.length cap)))
  (hkt : (xgl P n (d + 50000) h c, (xgo P n (d + 50000) h c).top, zT (xA (xgo P n (d + 50000) h c)) n (xgo P n (d + 50000) h c).f (xO (xgo P n (d + 50000) h c)), xNl (xgo P n (d + 50000) h c).k, (xO (xgo P n (d + 50000) h c)).op, ev n (xgo P n (d + 50000) h c).f x, P.underlying src, P.underlying dst, P.underlying e)
   = (xgr P n (d + 50000) h c, .ops (xA (xgo P n (d + 50000) h c)) (xO (xgo P n (d + 50000) h c) :: xT (xgo P n (d + 50000) h c)), true, true, .convert src dst x, .string (mkS s), some .string, some (.slice e), some (.int .u8)) := by kernel_rfl) : zI M P n W Q c := by
 simp only [Prod.mk.injEq] at hkt
 obtain ⟨hk, e1, e2, e3, e4, e5, e6, e7, e8⟩ := hkt
 refine zP h c hk ?_
 generalize xgo P n (d + 50000) h c = d at *
 have : d = ⟨.ops (xA d) (xO d :: xT d), d.k, d.L, d.f⟩ := by rw [← e1]
 rw [this]
 refine ⟨fun hq => vI e2 fun w hO => ?_⟩
 obtain ⟨h1, h2, h3⟩ := BytesAt.made w e s
 have hr := Lib.run_convert_string_bytes (P := P) w src dst e (mkS s) e6 e7 e8
 rw [yD] at hr
 refine gO (.slice (some ⟨w.heap.size, 0, none⟩) s.length (grownCap w s.length 0 e)) (w' := Lib.bytesWorld w e (mkS s)) ?_ ?_
 ·unfold execOp
  simp only [e4, e5, Sem.run_bind, Sem.run_pure, Result.andThen_ok, hr]
 ·have := ((hg w _ (grownCap w s.length 0 e) hO h1 h2 h3 (grownCap_ge w s.length 0 e)).go hq).go _ (Own.start [] _)
  rw [KQ_any (M := M) (W := W) (M' := []) (W' := Lib.bytesWorld w e (mkS s)) e3]; exact this
end
end
section
def g7 (l : List UInt8) (k : Nat) : UInt64 := (l.take k).foldl tP dI
theorem dMixK_step {l : List UInt8} {k : Nat} (hk : k < l.length) : tP (g7 l k) l[k] = g7 l (k + 1) := by
 unfold g7
 rw [List.take_succ_eq_append_getElem hk, List.foldl_append]; rfl
theorem dMixK_all {l : List UInt8} {k : Nat} (hk : k = l.length) : g7 l k = dMix l := by unfold g7 dMix; rw [hk, List.take_length]
def dRootK (l : List UInt64) (k : Nat) : UInt64 := (l.take k).foldl dPair (pP [])
def dig9S : List UInt8 := [48, 49, 50, 51, 52, 53, 54, 55, 56, 57, 97, 98, 99, 100, 101, 102]
def hexI (c : UInt8) : Int := match hexV c with | some d => (d : Int) | none => -1
end
section
def sumR (r : Rt) : Int := if (yL r).1 = 0 then ((pP (yK r)).toNat : Int) else 0
end
section
set_option linter.unnecessarySimpa false
theorem fMay_at (A : Option Addr) (cap : Nat) (xs : List Fv) (W : World) (hv : FtIn W W.heap.size A xs) : YC 33 #[.slice A xs.length cap] W (YR (.bool (fT (kA xs))) W) := by
 refine zQ Tryz.func33 (y8 8 [] ((8 : Int) < (xs.length : Int)) (fun h8 => ?_) (fun h8 => ?_))
 ·exact zF [] Z5 fun w hO => ⟨by rw [may11_not (.inl (by rw [nG]; omega))], hO.below⟩
 refine qO (α := Nat) (fun i => [(0, .slice A xs.length cap), (3, .string (mkS (gT (xs.map Fv.name) i))), (9, .slice A xs.length cap), (10, YI (xs.length : Int)), (11, YI (i : Int))]) (fun _ => []) (fun i m => UpTo xs i ∧ m = xs.length - i) 0 xs.length [] ⟨UpTo.zero xs, rfl⟩ ?_
 rintro i mm g kk ⟨hup, hmm⟩ nx hkk
 subst hkk
 refine y8 12 [] ((i : Int) < (xs.length : Int)) (fun h12 => ?_) (fun h12 => ?_)
 rotate_left
 ·exact zF [] Z4 fun w hO => ⟨by rw [hup.may Om Om], hO.below⟩
 have hj : i < xs.length := by omega
 have hxm : xs[i] ∈ xs := List.getElem_mem hj
 have hnl : i < (xs.map Fv.name).length := by rw [List.length_map]; exact hj
 have hl1 : gT (xs.map Fv.name) (i + 1) = xs[i].name := by rw [lastT_succ hnl, List.getElem_map]
 have hlast : ∀ h0 : 0 < i, gT (xs.map Fv.name) i = (xs[i - 1]'Om).name := fun h => by unfold gT; rw [dif_pos ⟨h, by omega⟩, List.getElem_map]
 obtain ⟨eb, eo, hA, hel⟩ := hv.top.elem fvC_len i hj
 have hnm := hv.name _ hxm
 refine kH 13 [] hA xs.length cap i 2 hj (kB 14 [] 63 eb (eo + i * 2 + 0) (fvV xs[i]) (fun w hO => hel w hO.below _ 0 _ Kr) (zV [] fun b5 => zE (v := .bool (wdL xs[i].name)) [0, 0] (fun w hO => bT _ w hnm) (xE 17 (wdL xs[i].name) (fun h17 => ?_) (fun h17 => ?_))))
 rotate_left
 ·exact zF [] Z5 fun w hO => ⟨by rw [may_no1 hxm h17], hO.below⟩
 refine x_sle 23 [0] xs[i].name (gT (xs.map Fv.name) i) (xE 23 (!Op.bytesLess (gT (xs.map Fv.name) i) xs[i].name) (fun h23 => ?_) (fun h23 => ?_))
 ·refine zF [] Z5 fun w hO => ⟨?_, hO.below⟩
  have h0 : 0 < i := Nat.pos_of_ne_zero fun h0 => by
   subst h0
   have : gT (xs.map Fv.name) 0 = [] := by unfold gT; rw [dif_neg Om]
   rw [this, less_nil (fun e => by rw [e] at h17; revert h17; decide)] at h23; cases h23
  rw [hlast h0] at h23
  have e2 : xs[i - 1 + 1]'Om = xs[i] := by congr 1; omega
  rw [may_no2 (z := i - 1) Om (by rw [e2]; simpa using h23)]
 have h2 : ∀ h0 : 0 < i, Op.bytesLess (xs[i - 1]'Om).name xs[i].name = true := fun h0 => by rw [← hlast h0]; simpa using h23
 have hc : ∀ w, Below W.heap.size W w → YC 69 #[.slice xs[i].A xs[i].of.length xs[i].cap, .slice A xs.length cap] w (YR (.bool (qU (kA xs) xs[i].of)) w) := fun w hb => fmayOf_any A cap xs xs[i].A xs[i].cap xs[i].of w (hv.on hb hb.size) ((hv.each _ hxm).on hb hb.size) (hv.m _ hxm) (hv.text _ hxm)
 refine zE (v := .bool (qU (kA xs) xs[i].of)) [0] (fun w hO => hc w hO.below) (xE 29 (qU (kA xs) xs[i].of) (fun h29 => ?_) (fun h29 => ?_))
 rotate_left
 ·exact zF [] Z5 fun w hO => ⟨by rw [may_no3 hxm h29], hO.below⟩
 exact jO 3 [0] (.string (mkS xs[i].name)) (.string (mkS (gT (xs.map Fv.name) (i + 1)))) (by rw [hl1]) (x_i 34 [] ((i + 1 : Nat) : Int) (yG [] [] (fun w hO => hO.no) (nx (i + 1) (xs.length - (i + 1)) [] Om ⟨hup.next hj h17 h2 h29, rfl⟩ Kr Kr)))
end
section
def byK (n : UInt64) (k : Nat) : List UInt8 := (List.range k).map fun i => (n >>> UInt64.ofNat (8 * (7 - i))).toUInt8
end
section
def rot4 (x : UInt64) : UInt64 := x <<< 4 ||| x >>> 60
def rotN (n : UInt64) : Nat → UInt64
 | 0 => n
 | k + 1 => rot4 (rotN n k)
def padB (xs : List UInt8) (n : Nat) : List UInt8 := xs ++ List.replicate (n - xs.length) 0
end
section
def arrC (bs : List UInt8) : Array Value := (bs.flatMap u8C).toArray
section
variable {P : Program} {o : Oper}
end
end
section
theorem d9rot13_any (x : UInt64) (W : World) : YC 59 #[.int .u64 (x.toNat : Int), YI 13] W (YR (.int .u64 ((t7 x).toNat : Int)) W) := by
 refine Z2 (n := 17) Tryz.func59 rfl (ZO (Zv (.int .u64 0) (ZR (Zv (YI 13) (Zv (.int .u64 13) (Zv (.int .u64 13) (Zv (.int .u64 13) ?_)))))))
 refine ZR (Zv (.int .u64 (x.toNat : Int)) (Zv (.int .u64 13) (yB (.int .u64 ((x <<< UInt64.ofNat 13).toNat : Int)) Kr (run_shl64 (x := x) (yk := .u64) (n := 13) rfl Kr Kr (by decide)) (Zv (.int .u64 (x.toNat : Int)) (Zv (.int .u64 13) (Zv (.int .u64 51) (yB (.int .u64 ((x >>> UInt64.ofNat 51).toNat : Int)) Kr (run_shr64 (x := x) (yk := .u64) (n := 51) rfl Kr Kr (by decide)) (yB (.int .u64 (((x <<< UInt64.ofNat 13) ||| (x >>> UInt64.ofNat 51)).toNat : Int)) Kr (run_or64 (x := (x <<< UInt64.ofNat 13)) (y := (x >>> UInt64.ofNat 51)) rfl Kr Kr) ?_))))))))
 exact Zv (.int .u64 (((x <<< UInt64.ofNat 13) ||| (x >>> UInt64.ofNat 51)).toNat : Int)) (ZN (zL (ZF (.int .u64 (((x <<< UInt64.ofNat 13) ||| (x >>> UInt64.ofNat 51)).toNat : Int)) Tryz.results59 (fun w hO => ⟨by rw [show t7 x = ((x <<< UInt64.ofNat 13) ||| (x >>> UInt64.ofNat 51)) from rfl], hO.below⟩))))
theorem d9Sum_any (A : Option Addr) (cap : Nat) (l : List UInt8) (W : World) (hv : Reads u8C W W.heap.size A l) (hn : l.length ≤ 1000000) : YC 27 #[.slice A l.length cap] W (YR (.int .u64 ((pP l).toNat : Int)) W) := by
 refine Z2 (n := 23) Tryz.func27 rfl (ZO (Zv (.int .u64 0) (ZR (Zv (.int .u64 11400714819323198485) (ZN (zH ?_))))))
 refine ZO (Zv (.slice A l.length cap) (Zv (YI (l.length : Int)) (Zv (YI 0) (ZN (yN (jY (fun L f m => ∃ (k : Nat) (j : Nat → Value), (k ≤ l.length) ∧ L = [] ∧ f = jR j [(0, .slice A l.length cap), (3, .int .u64 ((g7 l k).toNat : Int)), (6, .slice A l.length cap), (7, YI (l.length : Int)), (8, YI (k : Int))] ∧ m = l.length - k) (l.length - 0) ⟨0, _, Nat.zero_le _, rfl, ZU, rfl⟩ ?_))))))
 rintro L f m ⟨k, j, hrel, rfl, rfl, rfl⟩
 refine zH (zG ?_)
 by_cases h1 : (k : Int) < (l.length : Int)
 ·have hk : k < l.length := by omega
  obtain ⟨bp, off, hA, hlt, hcell⟩ := hv Om
  obtain ⟨s, hs⟩ : ∃ s, l[k] = s := ⟨_, rfl⟩
  refine Zg h1 (ZN (zH (Zt (ZB (zH (yN (ZO (yB (Zp bp (off + k * 1)) Kr (ZA (b := bp) (off := off) (c := cap) (n := l.length) (k := .i64) (j := (k : Int)) (e := 5) (sz := 1) hA) ?_))))))))
  refine Zo (.int .u8 (s.toNat : Int)) (a := ⟨bp, off + k * 1, none⟩) (fun w hO => nJ (ty := 5) u8C_len (fun j u h => (hO.below.cell (p := ⟨bp, off + j, none⟩) hlt).trans (hcell j u h)) k 0 hk Om _ (by rw [hs]; kernel_rfl)) (Zv (.int .u8 (s.toNat : Int)) (ZN (zG (Zv (.int .u64 ((g7 l k).toNat : Int)) (Zv (.int .u8 (s.toNat : Int)) (yB (.int .u64 (((s).toUInt64).toNat : Int)) Kr (run_to64 (x := s) rfl Kr (by rw [Tryz.underlying5]; rfl) Tryz.underlying36) (yB (.int .u64 (((g7 l k) ^^^ (s).toUInt64).toNat : Int)) Kr (run_xor64 (x := (g7 l k)) (y := (s).toUInt64) rfl Kr Kr) (Zc (k := 59) (args := #[.int .u64 (((g7 l k) ^^^ (s).toUInt64).toNat : Int), YI 13]) (.int .u64 ((t7 ((g7 l k) ^^^ (s).toUInt64)).toNat : Int)) (fun w _ => d9rot13_any ((g7 l k) ^^^ (s).toUInt64) w) (yB (.int .u64 (((t7 ((g7 l k) ^^^ (s).toUInt64)) * (18397679294719823053 : UInt64)).toNat : Int)) Kr (run_mul64 (x := (t7 ((g7 l k) ^^^ (s).toUInt64))) (y := (18397679294719823053 : UInt64)) rfl Kr Kr) (Zv (.int .u64 (((t7 ((g7 l k) ^^^ (s).toUInt64)) * (18397679294719823053 : UInt64)).toNat : Int)) ?_))))))))))
  refine yC (y7 (zJ (zG (Zu (k := .i64) (((k + 1 : Nat) : Int)) (IntWalk.i64_in _ Om) (Zv (YI ((k + 1 : Nat) : Int)) (yC ?_))))))
  have hstep : ((t7 ((g7 l k) ^^^ (s).toUInt64)) * (18397679294719823053 : UInt64)) = g7 l (k + 1) := by rw [← dMixK_step hk, hs]; rfl
  rw [hstep]
  exact x9 (m' := l.length - (k + 1)) Om ⟨k + 1, _, by omega, rfl, ZU, rfl⟩
 refine Zh h1 (ZN (zH (Zf (jZ (yV (yQ (yR (zJ (zH (zG ?_))))))))))
 exact Zv (.int .u64 ((g7 l k).toNat : Int)) (Zv (.int .u64 ((g7 l k).toNat : Int)) (yB (.int .u64 (((g7 l k) >>> UInt64.ofNat 29).toNat : Int)) Kr (run_shr64 (x := (g7 l k)) (yk := .u64) (n := 29) rfl Kr Kr (by decide)) (yB (.int .u64 (((g7 l k) ^^^ ((g7 l k) >>> UInt64.ofNat 29)).toNat : Int)) Kr (run_xor64 (x := (g7 l k)) (y := ((g7 l k) >>> UInt64.ofNat 29)) rfl Kr Kr) (Zv (.int .u64 (((g7 l k) ^^^ ((g7 l k) >>> UInt64.ofNat 29)).toNat : Int)) (ZN (zL (ZF (.int .u64 (((g7 l k) ^^^ ((g7 l k) >>> UInt64.ofNat 29)).toNat : Int)) Tryz.results27 (fun w hO => ⟨by rw [show pP l = ((g7 l k) ^^^ ((g7 l k) >>> UInt64.ofNat 29)) from by unfold pP dEnd; rw [← dMixK_all (l := l) (k := k) Om]; rfl], hO.below⟩))))))))
end
section
set_option linter.unnecessarySimpa false
theorem wd_ne' {s : List UInt8} (h : wdL s = true) : s ≠ [] := fun e => by subst e; exact absurd h (by decide)
def rcB (r : Rv) (b : Nat) : Blk := ⟨b, (rvC r).toArray, 28⟩
def brB (x : Bv) (b : Nat) : Blk := ⟨b, (bvC x).toArray, 54⟩
def ftB (x : Fv) (b : Nat) : Blk := ⟨b, (fvC x).toArray, 63⟩
theorem ge_of {W w : World} {R o : List Blk} (h : Own [] W w (R ++ o)) : ∀ x ∈ o, W.heap.size ≤ x.b := fun x hx => (h.base x (List.mem_append_right _ hx)).elim id fun q => by simp at q
theorem qText_any (r : Rv) (W : World) (hr : RcIn W W.heap.size r) (hfe : ∀ n ∈ r.needs, ∀ u ∈ n.any, ∀ s ∈ u.fs, s ≠ []) (ht : (yK r.rt).length ≤ 100000000) (hK : RecLib W) : YC 35 #[rvV r] W (YR (.string (mkS (yK r.rt))) W) := by
 have hT : yK r.rt = wZ r.rt ++ r.needs.flatMap (fun n => gK n.nt) ++ r.bars.flatMap (fun b => bX b.bt) ++ r.fts.flatMap (fun f => wO f.ft) := by
  unfold yK; simp only [Rv.rt, kA, List.flatMap_map]
 have hl := congrArg List.length hT
 simp only [List.length_append] at hl
 have hsn := hr.sn
 have hnn := hr.nn; have hnb := hr.nb; have hfn := hr.fts.n
 have hH : wZ r.rt = zD 32 [jQ, r.name, r.ver.print] ++ [10] := by
  show fK ++ r.name ++ [32] ++ r.ver.print ++ [10] = _
  simp [zD, fK, jQ]
 have hHl := congrArg List.length hH
 simp only [List.length_append, List.length_cons, List.length_nil] at hHl
 have hP : ∀ w, Below W.heap.size W w → YC 75 #[jC r.ver] w (YR (.string (mkS r.ver.print)) w) := fun w hb => vprint_any r.ver w hsn.2.1 hsn.2.2 (hK.on hb).lib.tab
 refine zQ Tryz.func35 (wK [] fun b1 => zV [] fun b3 => xB 7 [] [rcB r b1] (fun w hO => hO.past 1 _) (yH [0, 0] 4 (zE (v := .string (mkS r.ver.print)) [] (fun w hO => hP w hO.below) (yH [] 5 (gY 3 9 #[.string (mkS jQ), .string (mkS r.name), .string (mkS r.ver.print)] fun g => yH [] 6 ?_)))))
 refine xh_callL [⟨g, #[.string (mkS jQ), .string (mkS r.name), .string (mkS r.ver.print)], 9⟩, ⟨b3, #[.pointer none, .slice none 0 0], 109⟩, rcB r b1] [rcB r b1] ([⟨g, #[.string (mkS jQ), .string (mkS r.name), .string (mkS r.ver.print)], 9⟩] ++ [⟨b3, #[.pointer none, .slice none 0 0], 109⟩]) [rcB r b1] (fun w hO => hO.perm ((List.Perm.cons _ (List.Perm.swap ..)).trans (List.Perm.swap ..))) (fun o w hO => hO.sublist (List.sublist_append_left _ _)) (q_line b3 [] [jQ, r.name, r.ver.print] _ [rcB r b1] _ _ (BuR.new b3) (qlit g 3 _ _ rfl rfl Om) (by simp) Om (by simp) (by simp [zD, jQ])) fun v1 o1 ⟨ob1, k1, k2⟩ => ?_
 subst k2
 rw [List.nil_append, ← hH] at k1
 refine yG [0] (rcB r b1 :: ob1) (fun w hO => (hO.past 0 (rcB r b1 :: ⟨g, #[.string (mkS jQ), .string (mkS r.name), .string (mkS r.ver.print)], 9⟩ :: ob1)).swap.past 1 _) (qO (α := Nat × List Blk) (fun x => [(1, Zp b1 0), (3, Zp b3 0), (18, .slice r.nA r.needs.length r.nc), (19, YI (r.needs.length : Int)), (20, YI (x.1 : Int))]) (fun x => rcB r b1 :: x.2) (fun x m => (x.1 ≤ r.needs.length ∧ BuR b3 (wZ r.rt ++ (r.needs.take x.1).flatMap (fun n => gK n.nt)) x.2) ∧ m = r.needs.length - x.1) (0, ob1) r.needs.length [] ⟨⟨Nat.zero_le _, by simp only [List.take_zero, List.flatMap_nil, List.append_nil]; exact k1⟩, rfl⟩ ?_)
 rintro ⟨i, o⟩ mm gg kk ⟨⟨hi, ho⟩, hmm⟩ nx hkk
 subst hkk
 replace hi : i ≤ r.needs.length := hi
 replace ho : BuR b3 (wZ r.rt ++ (r.needs.take i).flatMap (fun n => gK n.nt)) o := ho
 refine y8 21 [] ((i : Int) < (r.needs.length : Int)) (fun h21 => ?_) (fun h21 => ?_)
 ·have hj : i < r.needs.length := by omega
  obtain ⟨eb, eo, hA, hel⟩ := hr.needs.elem bZ i hj
  have hpt := fm_part (fun n : Nv => gK n.nt) (l := r.needs) (i + 1)
  rw [mJ (fun n : Nv => gK n.nt) hj, List.length_append] at hpt
  have hst := mJ (fun n : Nv => gK n.nt) hj
  have hsm : r.needs[i] ∈ r.needs := List.getElem_mem hj
  have hel0 : ∀ w, Below W.heap.size W w → (loadVar 57 ⟨eb, eo + i * 3 + 0, none⟩).run Tryz.prog w = .ok (nvV r.needs[i]) w := fun w hw => hel w hw _ 0 _ Kr
  have hra := hr.any _ hsm; have hrf := hr.wfs _ hsm; have hna := hr.na _ hsm; have hnf := hr.nf _ hsm; have hsw := hr.sw _ hsm; have hff := hfe _ hsm
  have hw2 : wZ r.rt ++ (r.needs.take i).flatMap (fun n => gK n.nt) ++ gK r.needs[i].nt = wZ r.rt ++ (r.needs.take (i + 1)).flatMap (fun n => gK n.nt) := by rw [hst, List.append_assoc]
  have hpl : (wZ r.rt ++ (r.needs.take i).flatMap (fun n => gK n.nt)).length + (gK r.needs[i].nt).length ≤ 300000000 := by rw [List.length_append]; omega
  generalize r.needs[i] = n at hel0 hra hrf hna hnf hsw hff hw2 hpl
  generalize wZ r.rt ++ (r.needs.take i).flatMap (fun n => gK n.nt) = done at *
  refine kH 22 [] hA r.needs.length r.nc i 3 hj (kB 23 [] 57 eb (eo + i * 3 + 0) (nvV n) (fun w hO => hel0 w hO.below) (zV [] fun b5 => ?_))
  have hc : ∀ w, Own [] W w ([ndB n b5, rcB r b1] ++ o) → YC 76 #[.pointer (some ⟨b3, 0, none⟩), nvV n] w fun e w' => ∃ v o', e = .returned v ∧ BuR b3 (done ++ gK n.nt) o' ∧ Own (o.map Blk.b) w w' o' := fun w hO => (qNeedW_any W.heap.size b3 done n o w ho (Own.lentR hO) (ge_of hO) hO.size (hra.on hO.below (Nat.le_refl _)) (fun u hu => (hrf u hu).on hO.below (Nat.le_refl _)) hna hnf hff hsw hpl).mono fun e w' ⟨o', q1, q2, q3⟩ => ⟨_, o', q1, q2, q3⟩
  refine xN [0, 0] (ndB n b5 :: rcB r b1 :: o) [ndB n b5, rcB r b1] o (fun w hO => hO) hc fun v2 o2 q1 => ?_
  rw [hw2] at q1
  exact x_i 20 [] ((i + 1 : Nat) : Int) (yG [] (rcB r b1 :: o2) (fun w hO => hO.past 1 _) (nx (i + 1, o2) (r.needs.length - (i + 1)) [] Om ⟨⟨hj, q1⟩, rfl⟩ Kr Kr))
 rw [List.take_of_length_le (show r.needs.length ≤ i by omega)] at ho
 clear nx
 have hNl : (wZ r.rt ++ r.needs.flatMap (fun n => gK n.nt)).length = (wZ r.rt).length + (r.needs.flatMap fun n => gK n.nt).length := List.length_append
 generalize hN : wZ r.rt ++ r.needs.flatMap (fun n => gK n.nt) = front at *
 refine qO (α := Nat × List Blk) (fun x => [(1, Zp b1 0), (3, Zp b3 0), (28, .slice r.bA r.bars.length r.bc), (29, YI (r.bars.length : Int)), (30, YI (x.1 : Int))]) (fun x => rcB r b1 :: x.2) (fun x m => (x.1 ≤ r.bars.length ∧ BuR b3 (front ++ (r.bars.take x.1).flatMap (fun b => bX b.bt)) x.2) ∧ m = r.bars.length - x.1) (0, o) r.bars.length [0] ⟨⟨Nat.zero_le _, by simp only [List.take_zero, List.flatMap_nil, List.append_nil]; exact ho⟩, rfl⟩ ?_
 clear ho
 rintro ⟨i2, o2⟩ m2 g2 kk ⟨⟨hi2, ho⟩, hm2⟩ nx hkk
 subst hkk
 replace hi2 : i2 ≤ r.bars.length := hi2
 replace ho : BuR b3 (front ++ (r.bars.take i2).flatMap (fun b => bX b.bt)) o2 := ho
 refine y8 31 [] ((i2 : Int) < (r.bars.length : Int)) (fun h31 => ?_) (fun h31 => ?_)
 ·have hj : i2 < r.bars.length := by omega
  obtain ⟨eb, eo, hA, hel⟩ := hr.bars.elem bvC_len i2 hj
  have hpt := fm_part (fun b : Bv => bX b.bt) (l := r.bars) (i2 + 1)
  rw [mJ (fun b : Bv => bX b.bt) hj, List.length_append] at hpt
  have hst := mJ (fun b : Bv => bX b.bt) hj
  have hsm : r.bars[i2] ∈ r.bars := List.getElem_mem hj
  have hel0 : ∀ w, Below W.heap.size W w → (loadVar 54 ⟨eb, eo + i2 * 3 + 0, none⟩).run Tryz.prog w = .ok (bvV r.bars[i2]) w := fun w hw => hel w hw _ 0 _ Kr
  have hsb := hr.sb _ hsm
  have hw2 : front ++ (r.bars.take i2).flatMap (fun b => bX b.bt) ++ bX r.bars[i2].bt = front ++ (r.bars.take (i2 + 1)).flatMap (fun b => bX b.bt) := by rw [hst, List.append_assoc]
  have hpl : (front ++ (r.bars.take i2).flatMap (fun b => bX b.bt)).length + (bX r.bars[i2].bt).length ≤ 300000000 := by rw [List.length_append]; omega
  generalize r.bars[i2] = x at hel0 hsb hw2 hpl
  generalize front ++ (r.bars.take i2).flatMap (fun b => bX b.bt) = done at *
  have hbT : bX x.bt = zD 32 [wT, x.name, x.rng] ++ [10] ++ mT kJ x.wh := by
   rw [maybe_when]
   show txBar ++ x.name ++ [32] ++ x.rng ++ [10] ++ pR x.wh = _
   simp [zD, txBar, wT]
  have hbl := congrArg List.length hbT
  simp only [List.length_append, List.length_cons, List.length_nil] at hbl
  refine kH 32 [] hA r.bars.length r.bc i2 3 hj (kB 33 [] 54 eb (eo + i2 * 3 + 0) (bvV x) (fun w hO => hel0 w hO.below) (zV [] fun b7 => wJ [0, 0, 0] 3 9 #[.string (mkS wT), .string (mkS x.name), .string (mkS x.rng)] fun g3 => ?_))
  refine xN [] (⟨g3, #[.string (mkS wT), .string (mkS x.name), .string (mkS x.rng)], 9⟩ :: brB x b7 :: rcB r b1 :: o2) [brB x b7, rcB r b1] ([⟨g3, #[.string (mkS wT), .string (mkS x.name), .string (mkS x.rng)], 9⟩] ++ o2) (fun w hO => own_rot3 hO) (q_line b3 done [wT, x.name, x.rng] _ _ _ o2 ho (qlit g3 3 _ _ rfl rfl Om) Om Om (by simp) (by simp [zD, wT])) fun v2 o3 ⟨ob3, q1, q2⟩ => ?_
  subst q2
  refine xN [0] (brB x b7 :: rcB r b1 :: ⟨g3, #[.string (mkS wT), .string (mkS x.name), .string (mkS x.rng)], 9⟩ :: ob3) [brB x b7, rcB r b1, ⟨g3, #[.string (mkS wT), .string (mkS x.name), .string (mkS x.rng)], 9⟩] ob3 (fun w hO => hO) (q_maybe b3 _ kJ x.wh _ ob3 q1 (by simp only [List.length_append, List.length_cons, List.length_nil]; omega) (by decide) Om) fun v3 o4 q3 => ?_
  rw [List.append_assoc] at q3
  refine x_i 30 [] ((i2 + 1 : Nat) : Int) (yG [] (rcB r b1 :: o4) (fun w hO => (hO.past 1 (rcB r b1 :: ⟨g3, #[.string (mkS wT), .string (mkS x.name), .string (mkS x.rng)], 9⟩ :: o4)).swap.past 1 _) (nx (i2 + 1, o4) (r.bars.length - (i2 + 1)) [] Om ⟨⟨hj, ?_⟩, rfl⟩ Kr Kr))
  show BuR b3 (front ++ (r.bars.take (i2 + 1)).flatMap (fun b => bX b.bt)) o4
  rw [← hw2, hbT]; exact q3
 rw [List.take_of_length_le (show r.bars.length ≤ i2 by omega)] at ho
 clear nx
 have hBl : (front ++ r.bars.flatMap (fun b => bX b.bt)).length = front.length + (r.bars.flatMap fun b => bX b.bt).length := List.length_append
 generalize hN2 : front ++ r.bars.flatMap (fun b => bX b.bt) = fore at *
 refine qO (α := Nat × List Blk) (fun x => [(1, Zp b1 0), (3, Zp b3 0), (45, .slice r.fA r.fts.length r.fc), (46, YI (r.fts.length : Int)), (47, YI (x.1 : Int))]) (fun x => rcB r b1 :: x.2) (fun x m => (x.1 ≤ r.fts.length ∧ BuR b3 (fore ++ (r.fts.take x.1).flatMap (fun f => wO f.ft)) x.2) ∧ m = r.fts.length - x.1) (0, o2) r.fts.length [0] ⟨⟨Nat.zero_le _, by simp only [List.take_zero, List.flatMap_nil, List.append_nil]; exact ho⟩, rfl⟩ ?_
 clear ho
 rintro ⟨i3, o3⟩ m3 g3 kk ⟨⟨hi3, ho⟩, hm3⟩ nx hkk
 subst hkk
 replace hi3 : i3 ≤ r.fts.length := hi3
 replace ho : BuR b3 (fore ++ (r.fts.take i3).flatMap (fun f => wO f.ft)) o3 := ho
 refine y8 48 [] ((i3 : Int) < (r.fts.length : Int)) (fun h48 => ?_) (fun h48 => ?_)
 rotate_left
 ·rw [List.take_of_length_le (show r.fts.length ≤ i3 by omega)] at ho
  have hR : fore ++ r.fts.flatMap (fun f => wO f.ft) = yK r.rt := hT.symm
  rw [hR] at ho
  refine x_callO [] (rcB r b1 :: o3) (Rr := fun v L' => v = .string (mkS (yK r.rt)) ∧ L' = []) (fun w hO => (rstring_any b3 (yK r.rt) o3 W w ho (hO.past 1 _) (fun e => by rw [e] at hl; simp only [List.length_nil] at hl; omega)).mono fun e w' ⟨q1, q2⟩ => ⟨_, [], q1, ⟨rfl, rfl⟩, q2⟩) fun v4 L4 ⟨q1, q2⟩ => ?_
  subst q1; subst q2
  exact zF [] (.string (mkS (yK r.rt))) fun w hO => ⟨rfl, hO.below⟩
 have hj : i3 < r.fts.length := by omega
 obtain ⟨eb, eo, hA, hel⟩ := hr.fts.top.elem fvC_len i3 hj
 have hpt := fm_part (fun f : Fv => wO f.ft) (l := r.fts) (i3 + 1)
 rw [mJ (fun f : Fv => wO f.ft) hj, List.length_append] at hpt
 have hst := mJ (fun f : Fv => wO f.ft) hj
 have hsm : r.fts[i3] ∈ r.fts := List.getElem_mem hj
 have hel0 : ∀ w, Below W.heap.size W w → (loadVar 63 ⟨eb, eo + i3 * 2 + 0, none⟩).run Tryz.prog w = .ok (fvV r.fts[i3]) w := fun w hw => hel w hw _ 0 _ Kr
 have hru := hr.fts.each _ hsm; have hmu := hr.fts.m _ hsm
 have hw2 : fore ++ (r.fts.take i3).flatMap (fun f => wO f.ft) ++ wO r.fts[i3].ft = fore ++ (r.fts.take (i3 + 1)).flatMap (fun f => wO f.ft) := by rw [hst, List.append_assoc]
 have hpl : (fore ++ (r.fts.take i3).flatMap (fun f => wO f.ft)).length + (wO r.fts[i3].ft).length ≤ 300000000 := by rw [List.length_append]; omega
 generalize r.fts[i3] = x at hel0 hru hmu hw2 hpl
 generalize fore ++ (r.fts.take i3).flatMap (fun f => wO f.ft) = done at *
 have hfT : wO x.ft = zD 32 (x8 :: x.name :: x.of) ++ [10] := rfl
 have hfl := congrArg List.length hfT
 simp only [List.length_append, List.length_cons, List.length_nil] at hfl
 refine kH 49 [] hA r.fts.length r.fc i3 2 hj (kB 50 [] 63 eb (eo + i3 * 2 + 0) (fvV x) (fun w hO => hel0 w hO.below) (zV [] fun b9 => wJ [0, 0] 2 9 #[.string (mkS x8), .string (mkS x.name)] fun g5 => ?_))
 refine x_appR (g := y9) [1] x.of [] [⟨g5, #[.string (mkS x8), .string (mkS x.name)], 9⟩] (ftB x b9 :: rcB r b1 :: o3) (⟨g5, #[.string (mkS x8), .string (mkS x.name)], 9⟩ :: ftB x b9 :: rcB r b1 :: o3) (cp := x.cap) (fun w hO => hO) zZ strC_one (fun w hO => hru.on hO.below hO.below.size) (sl_block (N := 2) rfl (by unfold maxLen; omega)) Om fun v' o' h => ?_
 have hS : SlT v' (x8 :: x.name :: x.of) o' := by
  unfold SlT
  rw [x1, show (x8 :: x.name :: x.of).length = 2 + x.of.length by simp only [List.length_cons]; omega]
  exact h
 refine xN [] ([] ++ o' ++ (ftB x b9 :: rcB r b1 :: o3)) [ftB x b9, rcB r b1] (o' ++ o3) (fun w hO => hO.perm (by
  have := List.perm_append_comm_assoc o' [ftB x b9, rcB r b1] o3
  simpa using this)) (q_line b3 done (x8 :: x.name :: x.of) v' _ o' o3 ho hS Om Om (by simp only [List.length_cons]; omega) (by simp [zD, x8])) fun v2 o4 ⟨ob4, q1, q2⟩ => ?_
 subst q2
 rw [← hfT, hw2] at q1
 exact x_i 47 [] ((i3 + 1 : Nat) : Int) (yG [] (rcB r b1 :: ob4) (fun w hO => (hO.past 1 (rcB r b1 :: (o' ++ ob4))).sublist (List.Sublist.cons_cons _ (List.sublist_append_right _ _))) (nx (i3 + 1, ob4) (r.fts.length - (i3 + 1)) [] Om ⟨⟨hj, q1⟩, rfl⟩ Kr Kr))
theorem parts_ne {r : Rt} (h : (vZ r).1 = 0) : ∀ n ∈ r.needs, ∀ u ∈ n.any, ∀ s ∈ u.fs, s ≠ [] := fun n hn u hu s hs => by
 have h1 := (fO h).1 n hn
 have h2 := (need_fine h1).2.2.1 u hu
 have h3 := (tU h2).2.2
 unfold wfsOk at h3
 simp only [Bool.and_eq_true] at h3
 exact wd_ne' (List.all_eq_true.1 h3.1.1.1 s hs)
theorem qCheck_any (r : Rv) (W : World) (hr : RcIn W W.heap.size r) (hK : RecLib W) : YC 14 #[rvV r] W (YR (.tuple #[YI (yL r.rt).1, YI (yL r.rt).2]) W) := by
 have hE : yL r.rt = if nmL r.name = false then (4, 0) else if r.ver.may = false then (5, 0) else if 8 < r.needs.length ∨ 8 < r.bars.length then (3, 0) else if (vZ r.rt).1 ≠ 0 then vZ r.rt else if 4096 < (yK r.rt).length then (3, 0) else (0, 0) := by
  unfold yL; simp only [Rv.rt, List.length_map]
 have hsn := hr.sn; have hnn := hr.nn; have hnb := hr.nb; have hfn := hr.fts.n
 have c1 : ∀ w, YC 29 #[.string (mkS r.name)] w (YR (.bool (nmL r.name)) w) := fun w => iName_any r.name w hsn.1
 have c2 : ∀ w, YC 30 #[jC r.ver] w (YR (.bool r.ver.may) w) := fun w => may_any r.ver w (by show r.pre.length < _; omega) (by show r.bld.length < _; omega)
 refine zQ Tryz.func14 (wK [] fun b1 => zE (v := .bool (nmL r.name)) [0] (fun w hO => c1 w) (xE 16 (nmL r.name) (fun e1 => ?_) (fun e1 => ?_)))
 rotate_left
 ·exact qN [] (YI 4) (YI 0) fun w hO => ⟨by rw [hE, if_pos e1], hO.below⟩
 rw [if_neg (by simp [e1])] at hE
 refine zE (v := .bool r.ver.may) [0] (fun w hO => c2 w) (xE 21 r.ver.may (fun e2 => ?_) (fun e2 => ?_))
 rotate_left
 ·exact qN [] (YI 5) (YI 0) fun w hO => ⟨by rw [hE, if_pos e2], hO.below⟩
 rw [if_neg (by simp [e2])] at hE
 refine y8 27 [0] ((r.needs.length : Int) > 8) (fun h27 => ?_) (fun h27 => ?_)
 ·exact qN [] (YI 3) (YI 0) fun w hO => ⟨by rw [hE, if_pos (.inl Om)], hO.below⟩
 refine y8 32 [0] ((r.bars.length : Int) > 8) (fun h32 => ?_) (fun h32 => ?_)
 ·exact qN [] (YI 3) (YI 0) fun w hO => ⟨by rw [hE, if_pos (.inr Om)], hO.below⟩
 rw [if_neg Om] at hE
 have hP := partsE_is r
 refine qO (α := Nat) (fun i => [(1, Zp b1 0), (35, .slice r.nA r.needs.length r.nc), (36, YI (r.needs.length : Int)), (37, YI (i : Int))]) (fun _ => [rcB r b1]) (fun i m => (i ≤ r.needs.length ∧ ∀ n ∈ r.needs.take i, gR r.name n.nt = 0) ∧ m = r.needs.length - i) 0 r.needs.length [0] ⟨⟨Nat.zero_le _, fun y h => by simp at h⟩, rfl⟩ ?_
 rintro i mm g kk ⟨⟨hi, hno⟩, hmm⟩ nx hkk
 subst hkk
 refine y8 38 [] ((i : Int) < (r.needs.length : Int)) (fun h38 => ?_) (fun h38 => ?_)
 ·have hj : i < r.needs.length := by omega
  obtain ⟨eb, eo, hA, hel⟩ := hr.needs.elem bZ i hj
  have hgo := gL (p := fun n : Nv => gR r.name n.nt = 0) hj hno
  have hat := firstI_at (f := fun n : Nv => gR r.name n.nt) 0 hj hno
  have hsm : r.needs[i] ∈ r.needs := List.getElem_mem hj
  have hel0 : ∀ w, Below W.heap.size W w → (loadVar 57 ⟨eb, eo + i * 3 + 0, none⟩).run Tryz.prog w = .ok (nvV r.needs[i]) w := fun w hw => hel w hw _ 0 _ Kr
  have hra := hr.any _ hsm; have hrf := hr.wfs _ hsm; have hna := hr.na _ hsm; have hnf := hr.nf _ hsm; have hsw := hr.sw _ hsm; have hsu := hr.su _ hsm
  generalize r.needs[i] = n at hel0 hgo hat hra hrf hna hnf hsw hsu
  have hc : ∀ w, Below W.heap.size W w → YC 31 #[nvV n, .string (mkS r.name)] w (YR (YI (gR r.name n.nt)) w) := fun w hb => qNeed_any r.name n w (hra.on hb hb.size) (fun u hu => (hrf u hu).on hb hb.size) hna hnf hsw hsu (hK.on hb)
  refine kH 40 [] hA r.needs.length r.nc i 3 hj (kB 41 [] 57 eb (eo + i * 3 + 0) (nvV n) (fun w hO => hel0 w hO.below) (zV [] fun b5 => zE (v := YI (gR r.name n.nt)) [0, 0, 1] (fun w hO => hc w hO.below) (x_bn 47 [] (gR r.name n.nt = 0) (fun h => ?_) (fun h => ?_))))
  ·exact x_i 37 [] ((i + 1 : Nat) : Int) (yG [] [rcB r b1] (fun w hO => hO.past 1 _) (nx (i + 1) (r.needs.length - (i + 1)) [] Om ⟨⟨hj, hgo h⟩, rfl⟩ Kr Kr))
  ·refine qN [] (YI (gR r.name n.nt)) (YI (i : Int)) fun w hO => ⟨?_, hO.below⟩
   rw [hat h] at hP
   rw [if_pos h] at hP
   rw [hE, if_pos (by rw [hP]; exact h), hP]; simp only [Nat.zero_add]
 have h1 := j8 (k := 0) (jK (p := fun n : Nv => gR r.name n.nt = 0) (show r.needs.length ≤ i by omega) hno)
 rw [h1, if_neg (by simp)] at hP
 clear nx
 refine qO (α := Nat) (fun i => [(1, Zp b1 0), (52, .slice r.bA r.bars.length r.bc), (53, YI (r.bars.length : Int)), (54, YI (i : Int))]) (fun _ => [rcB r b1]) (fun i m => (i ≤ r.bars.length ∧ ∀ b ∈ r.bars.take i, wQ r.name b.bt = 0) ∧ m = r.bars.length - i) 0 r.bars.length [0] ⟨⟨Nat.zero_le _, fun y h => by simp at h⟩, rfl⟩ ?_
 rintro i2 m2 g2 kk ⟨⟨hi2, hno2⟩, hmm2⟩ nx hkk
 subst hkk
 refine y8 55 [] ((i2 : Int) < (r.bars.length : Int)) (fun h55 => ?_) (fun h55 => ?_)
 ·have hj : i2 < r.bars.length := by omega
  obtain ⟨eb, eo, hA, hel⟩ := hr.bars.elem bvC_len i2 hj
  have hgo := gL (p := fun b : Bv => wQ r.name b.bt = 0) hj hno2
  have hat := firstI_at (f := fun b : Bv => wQ r.name b.bt) 0 hj hno2
  have hsm : r.bars[i2] ∈ r.bars := List.getElem_mem hj
  have hel0 : ∀ w, Below W.heap.size W w → (loadVar 54 ⟨eb, eo + i2 * 3 + 0, none⟩).run Tryz.prog w = .ok (bvV r.bars[i2]) w := fun w hw => hel w hw _ 0 _ Kr
  have hsb := hr.sb _ hsm
  generalize r.bars[i2] = b at hel0 hgo hat hsb
  have hc : ∀ w, Below W.heap.size W w → YC 32 #[bvV b, .string (mkS r.name)] w (YR (YI (wQ r.name b.bt)) w) := fun w hb => qBar_any b r.name w hsb (hK.on hb)
  refine kH 57 [] hA r.bars.length r.bc i2 3 hj (kB 58 [] 54 eb (eo + i2 * 3 + 0) (bvV b) (fun w hO => hel0 w hO.below) (zV [] fun b8 => zE (v := YI (wQ r.name b.bt)) [0, 0, 1] (fun w hO => hc w hO.below) (x_bn 64 [] (wQ r.name b.bt = 0) (fun h => ?_) (fun h => ?_))))
  ·exact x_i 54 [] ((i2 + 1 : Nat) : Int) (yG [] [rcB r b1] (fun w hO => hO.past 1 _) (nx (i2 + 1) (r.bars.length - (i2 + 1)) [] Om ⟨⟨hj, hgo h⟩, rfl⟩ Kr Kr))
  ·refine qN [] (YI (wQ r.name b.bt)) (YI (i2 : Int)) fun w hO => ⟨?_, hO.below⟩
   rw [hat h] at hP
   rw [if_pos h] at hP
   rw [hE, if_pos (by rw [hP]; exact h), hP]; simp only [Nat.zero_add]
 have h2 := j8 (k := 0) (jK (p := fun b : Bv => wQ r.name b.bt = 0) (show r.bars.length ≤ i2 by omega) hno2)
 rw [h2, if_neg (by simp)] at hP
 clear nx
 have hM : ∀ w, Below W.heap.size W w → YC 33 #[.slice r.fA r.fts.length r.fc] w (YR (.bool (fT (kA r.fts))) w) := fun w hb => fMay_at r.fA r.fc r.fts w (hr.fts.on hb hb.size)
 refine zE (v := .bool (fT (kA r.fts))) [0] (fun w hO => hM w hO.below) (xE 70 (fT (kA r.fts)) (fun e3 => ?_) (fun e3 => ?_))
 rotate_left
 ·rw [if_pos e3] at hP
  exact qN [] (YI 11) (YI 0) fun w hO => ⟨by rw [hE, if_pos (by rw [hP]; decide), hP], hO.below⟩
 rw [if_neg (by simp [e3])] at hP
 refine qO (α := Nat) (fun i => [(1, Zp b1 0), (73, .slice r.fA r.fts.length r.fc), (74, YI (r.fts.length : Int)), (75, YI (i : Int))]) (fun _ => [rcB r b1]) (fun i m => (i ≤ r.fts.length ∧ ∀ f ∈ r.fts.take i, x5 (gM r.rt.needs) f.of = 0) ∧ m = r.fts.length - i) 0 r.fts.length [0] ⟨⟨Nat.zero_le _, fun y h => by simp at h⟩, rfl⟩ ?_
 rintro i3 m3 g3 kk ⟨⟨hi3, hno3⟩, hmm3⟩ nx hkk
 subst hkk
 refine y8 76 [] ((i3 : Int) < (r.fts.length : Int)) (fun h76 => ?_) (fun h76 => ?_)
 ·have hj : i3 < r.fts.length := by omega
  obtain ⟨eb, eo, hA, hel⟩ := hr.fts.top.elem fvC_len i3 hj
  have hgo := gL (p := fun f : Fv => x5 (gM r.rt.needs) f.of = 0) hj hno3
  have hat := firstI_at (f := fun f : Fv => x5 (gM r.rt.needs) f.of) 0 hj hno3
  have hsm : r.fts[i3] ∈ r.fts := List.getElem_mem hj
  have hel0 : ∀ w, Below W.heap.size W w → (loadVar 63 ⟨eb, eo + i3 * 2 + 0, none⟩).run Tryz.prog w = .ok (fvV r.fts[i3]) w := fun w hw => hel w hw _ 0 _ Kr
  have hru := hr.fts.each _ hsm; have hmu := hr.fts.m _ hsm; have htu := hr.fts.text _ hsm
  generalize r.fts[i3] = u at hel0 hgo hat hru hmu htu
  have hc : ∀ w, Below W.heap.size W w → YC 34 #[.slice u.A u.of.length u.cap, .slice r.nA r.needs.length r.nc] w (YR (YI (x5 (gM r.rt.needs) u.of)) w) := fun w hb => qItems_any u.A u.cap u.of r.nA r.nc r.needs w (hru.on hb hb.size) Om htu (hr.needs.on hb hb.size) hnn fun n hn => (hr.any n hn).on hb hb.size
  refine kH 78 [] hA r.fts.length r.fc i3 2 hj (kB 79 [] 63 eb (eo + i3 * 2 + 0) (fvV u) (fun w hO => hel0 w hO.below) (zV [] fun b9 => zE (v := YI (x5 (gM r.rt.needs) u.of)) [0, 0, 1] (fun w hO => hc w hO.below) (x_bn 86 [] (x5 (gM r.rt.needs) u.of = 0) (fun h => ?_) (fun h => ?_))))
  ·exact x_i 75 [] ((i3 + 1 : Nat) : Int) (yG [] [rcB r b1] (fun w hO => hO.past 1 _) (nx (i3 + 1) (r.fts.length - (i3 + 1)) [] Om ⟨⟨hj, hgo h⟩, rfl⟩ Kr Kr))
  ·refine qN [] (YI (x5 (gM r.rt.needs) u.of)) (YI (i3 : Int)) fun w hO => ⟨?_, hO.below⟩
   rw [hat h] at hP
   rw [hE, if_pos (by rw [hP]; exact h), hP]; simp only [Nat.zero_add]
 rw [j8 (k := 0) (jK (p := fun f : Fv => x5 (gM r.rt.needs) f.of = 0) (show r.fts.length ≤ i3 by omega) hno3)] at hP
 clear nx
 have h33 : (vZ r.rt).1 = 0 := by rw [hP]
 rw [if_neg (fun h => h h33)] at hE
 have hs : (yK r.rt).length ≤ 100000000 := rec_small (r := r.rt) hsn.1 (vprint_short hsn.2.1 hsn.2.2) (by simp only [Rv.rt, List.length_map]; omega) (by simp only [Rv.rt, List.length_map]; omega) h33 (fun f hf s hs => by
  obtain ⟨y, hy, rfl⟩ := List.mem_map.1 hf
  exact hr.fts.text y hy s hs)
 have hne := parts_ne h33
 have c4 : ∀ w, Below W.heap.size W w → YC 35 #[rvV r] w (YR (.string (mkS (yK r.rt))) w) := fun w hb => qText_any r w (hr.on hb hb.size) (fun n hn u hu => hne n.nt (List.mem_map.2 ⟨n, hn, rfl⟩) u.wt (List.mem_map.2 ⟨u, hu, rfl⟩)) hs (hK.on hb)
 have hz : (mkS (yK r.rt)).size = (yK r.rt).length := dF _
 refine zE (v := .string (mkS (yK r.rt))) [0] (fun w hO => c4 w hO.below) (y8 93 [] (((mkS (yK r.rt)).size : Int) > 4096) (fun h93 => ?_) (fun h93 => ?_))
 ·exact qN [] (YI 3) (YI 0) fun w hO => ⟨by rw [hE, if_pos Om], hO.below⟩
 ·exact qN [] (YI 0) (YI 0) fun w hO => ⟨by rw [hE, if_neg Om], hO.below⟩
theorem fN (r : Rv) (W : World) (hr : RcIn W W.heap.size r) (hK : RecLib W) : YC 16 #[rvV r] W (YR (.tuple #[.string (mkS (mP r.rt)), YI (yL r.rt).1]) W) := by
 have c1 : ∀ w, Below W.heap.size W w → YC 14 #[rvV r] w (YR (.tuple #[YI (yL r.rt).1, YI (yL r.rt).2]) w) := fun w hb => qCheck_any r w (hr.on hb hb.size) (hK.on hb)
 refine zQ Tryz.func16 (wK [] fun b1 => zE (v := .tuple #[YI (yL r.rt).1, YI (yL r.rt).2]) [0] (fun w hO => c1 w hO.below) (x_bn 12 [] ((yL r.rt).1 = 0) (fun h => ?_) (fun h => ?_)))
 rotate_left
 ·exact qN [] (.string ⟨#[]⟩) (YI (yL r.rt).1) fun w hO => ⟨by rw [show mP r.rt = [] from if_neg h]; rfl, hO.below⟩
 have hne := parts_ne (qW h).2.2.2.2.1
 have c2 : ∀ w, Below W.heap.size W w → YC 35 #[rvV r] w (YR (.string (mkS (yK r.rt))) w) := fun w hb => qText_any r w (hr.on hb hb.size) (fun n hn u hu => hne n.nt (List.mem_map.2 ⟨n, hn, rfl⟩) u.wt (List.mem_map.2 ⟨u, hu, rfl⟩)) (by have := (qW h).2.2.2.2.2; omega) (hK.on hb)
 exact zE (v := .string (mkS (yK r.rt))) [0] (fun w hO => c2 w hO.below) (qN [] (.string (mkS (yK r.rt))) (YI 0) fun w hO => ⟨by rw [show mP r.rt = yK r.rt from if_pos h, h], hO.below⟩)
theorem qSum_any (r : Rv) (W : World) (hr : RcIn W W.heap.size r) (hK : RecLib W) : YC 18 #[rvV r] W (YR (.tuple #[.int .u64 (sumR r.rt), YI (yL r.rt).1]) W) := by
 have c1 : ∀ w, Below W.heap.size W w → YC 16 #[rvV r] w (YR (.tuple #[.string (mkS (mP r.rt)), YI (yL r.rt).1]) w) := fun w hb => fN r w (hr.on hb hb.size) (hK.on hb)
 refine zQ Tryz.func18 (wK [] fun b1 => zE (v := .tuple #[.string (mkS (mP r.rt)), YI (yL r.rt).1]) [0] (fun w hO => c1 w hO.below) (x_bn 12 [] ((yL r.rt).1 = 0) (fun h => ?_) (fun h => ?_)))
 rotate_left
 ·exact qN [] (.int .u64 0) (YI (yL r.rt).1) fun w hO => ⟨by rw [show sumR r.rt = 0 from if_neg h], hO.below⟩
 have hl : (yK r.rt).length ≤ 4096 := (qW h).2.2.2.2.2
 have hp : mP r.rt = yK r.rt := if_pos h
 rw [hp]
 refine x_bytes 15 [] (yK r.rt) (src := 9) (dst := 52) (e := 5) (x := .tmp 14) fun w0 w1 cap hO hB hb hlt hcap => ?_
 have hb0 := hO.below
 have c2 : ∀ w, Below w1.heap.size w1 w → YC 27 #[.slice (some ⟨w0.heap.size, 0, none⟩) (yK r.rt).length cap] w (YR (.int .u64 ((pP (yK r.rt)).toNat : Int)) w) := fun w hw => d9Sum_any _ cap (yK r.rt) w (hB.reads.on hw hw.size) Om
 exact zE (v := .int .u64 ((pP (yK r.rt)).toNat : Int)) [] (fun w hO => c2 w hO.below) (qN [] (.int .u64 ((pP (yK r.rt)).toNat : Int)) (YI 0) fun w hO2 => ⟨by rw [show sumR r.rt = _ from if_pos h, h], hb0.trans ((hb.mono hb0.size).trans (hO2.below.mono (Nat.le_trans hb0.size (Nat.le_of_lt hlt))))⟩)
end
section
set_option linter.unnecessarySimpa false
theorem NdL.push {A A' : Option Addr} {c c' : Nat} {xs : List Nv} {o1 o1' oa og oi : List Blk} (h : NdL A c xs o1 oa og oi) (ht : Sl 57 3 (.slice A' (xs.length + 1) c') (xs.length + 1) (xs.flatMap nvC ++ nvC ⟨none, 0, [], [], []⟩) o1') : NdL A' c' (xs ++ [⟨none, 0, [], [], []⟩]) o1' [] [] (oi ++ (oa ++ og)) := by
 refine ⟨by rw [List.length_append, List.length_singleton, List.flatMap_append, List.flatMap_singleton]; exact ht, .inr ⟨xs, _, rfl, fun y hy => ?_, Sl.nil _ _, fun u hu => by cases hu⟩⟩
 rcases h.split with ⟨e, _⟩ | ⟨ini, n, e, hi, hw, hf⟩
 ·rw [e] at hy; cases hy
 ·rw [e] at hy
  rcases List.mem_append.1 hy with hy | hy
  ·obtain ⟨o, q1, q2⟩ := hi y hy
   exact ⟨o, q1, fun b hb => List.mem_append_left _ (q2 b hb)⟩
  ·rw [List.mem_singleton.1 hy]
   exact ⟨oa ++ og, ⟨oa, og, rfl, hw, hf⟩, fun b hb => List.mem_append_right _ hb⟩
def rdL (x : Rv) (n1 n2 n3 : Value) (k rb : Nat) : Blk := ⟨rb, #[.string (mkS x.name), YI x.maj, YI x.min, YI x.pat, .string (mkS x.pre), .string (mkS x.bld), n1, n2, n3, YI (k : Int)], 71⟩
theorem add_need (rb : Nat) (x : Rv) (ps : List (List UInt8)) (A : Option Addr) (cap : Nat) (ob : List Blk) (W : World) (hR : RdR rb 2 x ob) (hO : Own (ob.map Blk.b) W W ob) (hF : Few x) : YC 96 #[.pointer (some ⟨rb, 0, none⟩), .slice A ps.length cap] W (AddB rb 2 x ps ob W) := by
 obtain ⟨o1, oa, og, oi, o4, o7, o8, rfl, hN, hB, hT⟩ := hR
 have hFn := hF.n
 refine yJ hO Tryz.func96 (wJ [0, 0] 1 57 #[.slice none 0 0, .string (mkS []), .string (mkS [])] fun b => ?_)
 refine pG (m := 1) (cp := 1) [] [⟨b, #[.slice none 0 0, .string (mkS []), .string (mkS [])], 57⟩] o1 (rdB x 2 rb :: zY oa og oi o4 o7 o8) 0 (⟨b, #[.slice none 0 0, .string (mkS []), .string (mkS [])], 57⟩ :: rdB x 2 rb :: (o1 ++ zY oa og oi o4 o7 o8)) (fun w hO => gW [] hO fun p => by
  simp only [List.countP_append, List.countP_cons, List.countP_nil, List.cons_append, List.nil_append]; omega) hN.top Om fun v' ob' h => ?_
 obtain ⟨A', c', rfl⟩ := h.form
 refine jO 48 [] (Zp rb 6) (Zp rb 6) rfl (x_hold ([⟨b, #[.slice none 0 0, .string (mkS []), .string (mkS [])], 57⟩] ++ ob' ++ (rdB x 2 rb :: zY oa og oi o4 o7 o8)) (rdB x 2 rb :: (ob' ++ zY [] [] (oi ++ (oa ++ og)) o4 o7 o8)) (fun w hO => gW [⟨b, #[.slice none 0 0, .string (mkS []), .string (mkS [])], 57⟩] hO fun p => by
  simp only [zY, List.countP_append, List.countP_cons, List.countP_nil, List.cons_append, List.nil_append]; omega) ?_)
 have hl : (x.needs ++ [(⟨none, 0, [], [], []⟩ : Nv)]).length = x.needs.length + 1 := by simp
 have hrd : rdB { x with nA := A', nc := c', needs := x.needs ++ [⟨none, 0, [], [], []⟩] } 2 rb = rdL x (.slice A' (x.needs.length + 1) c') (.slice x.bA x.bars.length x.bc) (.slice x.fA x.fts.length x.fc) 2 rb := by
  unfold rdB rdC rvC rdL; simp only [hl]; rfl
 refine zF [0] Z4 fun w hO => ⟨{ x with nA := A', nc := c', needs := x.needs ++ [⟨none, 0, [], [], []⟩] }, rdB { x with nA := A', nc := c', needs := x.needs ++ [⟨none, 0, [], [], []⟩] } 2 rb :: (ob' ++ zY [] [] (oi ++ (oa ++ og)) o4 o7 o8), rfl, ?_, ⟨ob', [], [], oi ++ (oa ++ og), o4, o7, o8, rfl, ⟨hN.push h, hB, hT⟩⟩, ?_⟩
 ·unfold Rv.rt fY; simp [Nv.nt, Rv.ver]
 ·rw [hrd]
  exact hO.past 0 (rdL x (.slice A' (x.needs.length + 1) c') (.slice x.bA x.bars.length x.bc) (.slice x.fA x.fts.length x.fc) 2 rb :: (ob' ++ zY [] [] (oi ++ (oa ++ og)) o4 o7 o8))
theorem add_bar (rb : Nat) (x : Rv) (ps : List (List UInt8)) (A : Option Addr) (cap : Nat) (ob : List Blk) (W : World) (hR : RdR rb 6 x ob) (hO : Own (ob.map Blk.b) W W ob) (hv : ReadsA (ob.map Blk.b) y9 W A ps) (hp : 3 ≤ ps.length) (hF : Few x) : YC 96 #[.pointer (some ⟨rb, 0, none⟩), .slice A ps.length cap] W (AddB rb 6 x ps ob W) := by
 obtain ⟨o1, oa, og, oi, o4, o7, o8, rfl, hN, hB, hT⟩ := hR
 obtain ⟨pb, po, hA, hld⟩ := fP hv Om
 have hFb := hF.b
 obtain ⟨p1, hp1⟩ : ∃ p, ps.getD 1 [] = p := ⟨_, rfl⟩
 obtain ⟨p2, hp2⟩ : ∃ p, ps.getD 2 [] = p := ⟨_, rfl⟩
 have hl1 : ∀ w, Own ((rdB x 6 rb :: (o1 ++ zY oa og oi o4 o7 o8)).map Blk.b) W w [] → (loadVar 9 ⟨pb, po + 1 * 1 + 0, none⟩).run Tryz.prog w = .ok (.string (mkS p1)) w := fun w hO => by have := hld w hO 1 Om; rw [hp1] at this; exact this
 have hl2 : ∀ w, Own ((rdB x 6 rb :: (o1 ++ zY oa og oi o4 o7 o8)).map Blk.b) W w [] → (loadVar 9 ⟨pb, po + 2 * 1 + 0, none⟩).run Tryz.prog w = .ok (.string (mkS p2)) w := fun w hO => by have := hld w hO 2 Om; rw [hp2] at this; exact this
 refine yJ hO Tryz.func96 (xB 14 [0] [rdB x 6 rb] (fun w hO => Own.nth 0 (rdB x 6 rb) hO) ?_)
 refine qL 50122 [0] 6 hA ps.length cap 1 1 Om (gX 50123 [] 7 9 pb (po + 1 * 1 + 0) (.string (mkS p1)) (fun w hO => hl1 w hO.no) (qL 50125 [] 9 hA ps.length cap 2 1 Om (gX 50126 [] 10 9 pb (po + 2 * 1 + 0) (.string (mkS p2)) (fun w hO => hl2 w hO.no) (yH [] 12 (gY 1 54 #[.string (mkS p1), .string (mkS p2), .string (mkS [])] fun b => yH [] 13 ?_)))))
 refine qM (m := 1) (cp := 1) [⟨b, #[.string (mkS p1), .string (mkS p2), .string (mkS [])], 54⟩] o4 (rdB x 6 rb :: (o1 ++ zY oa og oi [] o7 o8)) 0 (⟨b, #[.string (mkS p1), .string (mkS p2), .string (mkS [])], 54⟩ :: rdB x 6 rb :: (o1 ++ zY oa og oi o4 o7 o8)) [rdB x 6 rb] (fun w hO => gW [] hO fun p => by
  simp only [zY, List.countP_append, List.countP_cons, List.countP_nil, List.cons_append, List.nil_append]; omega) (fun o w hO => hO.take (fun y hy => by rw [List.mem_singleton.1 hy]; simp) (by simp)) hB Om fun v' ob' h => ?_
 obtain ⟨A', c', rfl⟩ := h.form
 refine jO 131 [] (Zp rb 7) (Zp rb 7) rfl (x_hold ([⟨b, #[.string (mkS p1), .string (mkS p2), .string (mkS [])], 54⟩] ++ ob' ++ (rdB x 6 rb :: (o1 ++ zY oa og oi [] o7 o8))) (rdB x 6 rb :: (o1 ++ zY oa og oi ob' o7 o8)) (fun w hO => gW [⟨b, #[.string (mkS p1), .string (mkS p2), .string (mkS [])], 54⟩] hO fun p => by
  simp only [zY, List.countP_append, List.countP_cons, List.countP_nil, List.cons_append, List.nil_append]; omega) ?_)
 have hl : (x.bars ++ [(⟨p1, p2, []⟩ : Bv)]).length = x.bars.length + 1 := by simp
 have hrd : rdB { x with bA := A', bc := c', bars := x.bars ++ [⟨p1, p2, []⟩] } 6 rb = rdL x (.slice x.nA x.needs.length x.nc) (.slice A' (x.bars.length + 1) c') (.slice x.fA x.fts.length x.fc) 6 rb := by
  unfold rdB rdC rvC rdL; simp only [hl]; rfl
 refine zF [0] Z4 fun w hO => ⟨{ x with bA := A', bc := c', bars := x.bars ++ [⟨p1, p2, []⟩] }, rdB { x with bA := A', bc := c', bars := x.bars ++ [⟨p1, p2, []⟩] } 6 rb :: (o1 ++ zY oa og oi ob' o7 o8), rfl, ?_, ⟨o1, oa, og, oi, ob', o7, o8, rfl, ⟨hN, ?_, hT⟩⟩, ?_⟩
 ·show Rv.rt _ = { x.rt with bars := x.rt.bars ++ [⟨ps.getD 1 [], ps.getD 2 [], []⟩] }
  rw [hp1, hp2]; unfold Rv.rt; simp [Bv.bt, Rv.ver]
 ·show Sl _ 3 (.slice A' (x.bars ++ [_]).length c') _ _ _
  rw [hl, List.flatMap_append, List.flatMap_singleton]; exact h
 ·rw [hrd]
  exact hO.past 0 (rdL x (.slice x.nA x.needs.length x.nc) (.slice A' (x.bars.length + 1) c') (.slice x.fA x.fts.length x.fc) 6 rb :: (o1 ++ zY oa og oi ob' o7 o8))
theorem reads_from {w : World} {pb po cap : Nat} {ps : List (List UInt8)} (h : Reads y9 w w.heap.size (some ⟨pb, po, none⟩) ps) (h2 : 2 ≤ ps.length) (hc : ps.length ≤ cap) : Reads y9 w w.heap.size (some ⟨pb, po + (if cap = 2 then 0 else 2), none⟩) (ps.drop 2) := fun h0 => by
 obtain ⟨b, off, e, hlt, hcell⟩ := h Om
 obtain ⟨rfl, rfl⟩ : pb = b ∧ po = off := by cases e; exact ⟨rfl, rfl⟩
 rw [List.length_drop] at h0
 rw [if_neg Om]
 refine ⟨pb, po + 2, rfl, hlt, fun k u hk => ?_⟩
 have : (ps.flatMap y9)[2 + k]? = some u := by
  have hs : ps.flatMap y9 = (ps.take 2).flatMap y9 ++ (ps.drop 2).flatMap y9 := by rw [← List.flatMap_append, List.take_append_drop]
  have h2' : ((ps.take 2).flatMap y9).length = 2 := by rw [j7 zZ, List.length_take, Nat.min_eq_left h2]
  rw [hs, List.getElem?_append_right Om, h2', show 2 + k - 2 = k by omega]; exact hk
 have := hcell (2 + k) u this
 rw [← Nat.add_assoc] at this; exact this
theorem add_feat (rb : Nat) (x : Rv) (ps : List (List UInt8)) (A : Option Addr) (cap : Nat) (ob : List Blk) (W : World) (hR : RdR rb 8 x ob) (hO : Own (ob.map Blk.b) W W ob) (hv : ReadsA (ob.map Blk.b) y9 W A ps) (hp : 2 ≤ ps.length ∧ ps.length ≤ 100000) (hcap : ps.length ≤ cap) (hF : Few x) : YC 96 #[.pointer (some ⟨rb, 0, none⟩), .slice A ps.length cap] W (AddB rb 8 x ps ob W) := by
 obtain ⟨o1, oa, og, oi, o4, o7, o8, rfl, hN, hB, hT⟩ := hR
 obtain ⟨pb, po, hA, hld⟩ := fP hv Om
 have hFf := hF.f
 obtain ⟨p1, hp1⟩ : ∃ p, ps.getD 1 [] = p := ⟨_, rfl⟩
 have hl1 : ∀ w, Own ((rdB x 8 rb :: (o1 ++ zY oa og oi o4 o7 o8)).map Blk.b) W w [] → (loadVar 9 ⟨pb, po + 1 * 1 + 0, none⟩).run Tryz.prog w = .ok (.string (mkS p1)) w := fun w hO => by have := hld w hO 1 Om; rw [hp1] at this; exact this
 have hds : (ps.drop 2).length = ps.length - 2 := List.length_drop ..
 have hRd : ∀ w, Own ((rdB x 8 rb :: (o1 ++ zY oa og oi o4 o7 o8)).map Blk.b) W w [] → Reads y9 w w.heap.size (some ⟨pb, po + (if cap = 2 then 0 else 2), none⟩) (ps.drop 2) := fun w hO => reads_from (hA ▸ hv.at hO) hp.1 hcap
 refine yJ hO Tryz.func96 (xB 14 [0] [rdB x 8 rb] (fun w hO => Own.nth 0 (rdB x 8 rb) hO) ?_)
 refine qL 50152 [0] 6 hA ps.length cap 1 1 Om (gX 50153 [] 7 9 pb (po + 1 * 1 + 0) (.string (mkS p1)) (fun w hO => hl1 w hO.no) (xh_sllo 50155 [] 9 hA ps.length cap 1 2 Om Om (.slice (some ⟨pb, po + (if cap = 2 then 0 else 2), none⟩) (ps.drop 2).length (cap - 2)) (by rw [hds]; rfl) (yH [] 10 ?_)))
 refine jA (g := y9) (T := 9) (k := 0) (v := .slice none 0 0) (xs := []) (ps.drop 2) [] [] (rdB x 8 rb :: (o1 ++ zY oa og oi o4 o7 o8)) (rdB x 8 rb :: (o1 ++ zY oa og oi o4 o7 o8)) [rdB x 8 rb] (cp := cap - 2) (fun w hO => hO) (fun o w hO => hO.take (fun y hy => by rw [List.mem_singleton.1 hy]; simp) (by simp)) zZ strC_one (fun w hO => hRd w hO.no) (Sl.nil _ _) Om fun v1 ob1 h1 => ?_
 have hS : SlT v1 (ps.drop 2) ob1 := by
  unfold SlT; rw [x1]
  have := h1
  rw [Nat.zero_add, List.nil_append] at this; exact this
 obtain ⟨A1, c1, rfl⟩ := hS.form
 refine yH [] 12 (gY 1 63 #[.string (mkS p1), .slice A1 (ps.drop 2).length c1] fun b => yH [] 13 ?_)
 refine qM (m := 1) (cp := 1) [⟨b, #[.string (mkS p1), .slice A1 (ps.drop 2).length c1], 63⟩] o7 (rdB x 8 rb :: (o1 ++ zY oa og oi o4 [] (o8 ++ ob1))) 0 (⟨b, #[.string (mkS p1), .slice A1 (ps.drop 2).length c1], 63⟩ :: ([] ++ ob1 ++ (rdB x 8 rb :: (o1 ++ zY oa og oi o4 o7 o8)))) [rdB x 8 rb] (fun w hO => gW [] hO fun p => by
  simp only [zY, List.countP_append, List.countP_cons, List.countP_nil, List.cons_append, List.nil_append]; omega) (fun o w hO => hO.take (fun y hy => by rw [List.mem_singleton.1 hy]; simp) (by simp)) hT.top Om fun v' ob' h => ?_
 obtain ⟨A', c', rfl⟩ := h.form
 refine jO 161 [] (Zp rb 8) (Zp rb 8) rfl (x_hold ([⟨b, #[.string (mkS p1), .slice A1 (ps.drop 2).length c1], 63⟩] ++ ob' ++ (rdB x 8 rb :: (o1 ++ zY oa og oi o4 [] (o8 ++ ob1)))) (rdB x 8 rb :: (o1 ++ zY oa og oi o4 ob' (o8 ++ ob1))) (fun w hO => gW [⟨b, #[.string (mkS p1), .slice A1 (ps.drop 2).length c1], 63⟩] hO fun p => by
  simp only [zY, List.countP_append, List.countP_cons, List.countP_nil, List.cons_append, List.nil_append]; omega) ?_)
 have hl : (x.fts ++ [(⟨p1, A1, ps.drop 2, c1⟩ : Fv)]).length = x.fts.length + 1 := by simp
 have hrd : rdB { x with fA := A', fc := c', fts := x.fts ++ [⟨p1, A1, ps.drop 2, c1⟩] } 8 rb = rdL x (.slice x.nA x.needs.length x.nc) (.slice x.bA x.bars.length x.bc) (.slice A' (x.fts.length + 1) c') 8 rb := by
  unfold rdB rdC rvC rdL; simp only [hl]; rfl
 refine zF [0] Z4 fun w hO => ⟨{ x with fA := A', fc := c', fts := x.fts ++ [⟨p1, A1, ps.drop 2, c1⟩] }, rdB { x with fA := A', fc := c', fts := x.fts ++ [⟨p1, A1, ps.drop 2, c1⟩] } 8 rb :: (o1 ++ zY oa og oi o4 ob' (o8 ++ ob1)), rfl, ?_, ⟨o1, oa, og, oi, o4, ob', o8 ++ ob1, rfl, ⟨hN, hB, ?_⟩⟩, ?_⟩
 ·show Rv.rt _ = { x.rt with fts := x.rt.fts ++ [⟨ps.getD 1 [], ps.drop 2⟩] }
  rw [hp1]; unfold Rv.rt; simp [kA, Fv.ft, Rv.ver]
 ·exact (hT.more fun b hb => List.mem_append_left _ hb).add h ⟨ob1, hS, fun b hb => List.mem_append_right _ hb⟩
 ·rw [hrd]
  exact hO.past 0 (rdL x (.slice x.nA x.needs.length x.nc) (.slice x.bA x.bars.length x.bc) (.slice A' (x.fts.length + 1) c') 8 rb :: (o1 ++ zY oa og oi o4 ob' (o8 ++ ob1)))
end
section
set_option linter.unnecessarySimpa false
theorem add_wish (rb : Nat) (x : Rv) (ps : List (List UInt8)) (A : Option Addr) (cap : Nat) (ob : List Blk) (W : World) (hR : RdR rb 3 x ob) (hO : Own (ob.map Blk.b) W W ob) (hv : ReadsA (ob.map Blk.b) y9 W A ps) (hp : 5 ≤ ps.length) (hs : ∀ s ∈ ps, s.length ≤ 1000000) (hF : Few x) (hne : x.needs ≠ []) (hK : ∀ w, Own (ob.map Blk.b) W w [] → HasLib w) : YC 96 #[.pointer (some ⟨rb, 0, none⟩), .slice A ps.length cap] W (AddB rb 3 x ps ob W) := by
 obtain ⟨o1, oa, og, oi, o4, o7, o8, rfl, hN, hB, hT⟩ := hR
 obtain ⟨pb, po, hA, hld⟩ := fP hv Om
 rcases hN.split with ⟨e, _⟩ | ⟨ini, n, hx, hi, hw, hf⟩
 ·exact absurd e hne
 have hlen : x.needs.length = ini.length + 1 := by rw [hx]; simp
 obtain ⟨g, cur, hg, rfl⟩ := sl_addr hN.top Om
 have hS : Sl 57 3 (.slice (some ⟨g, 0, none⟩) (ini.length + 1) x.nc) (ini.length + 1) ((ini ++ [n]).flatMap nvC) [⟨g, cur, 57⟩] := by have := hN.top; rw [hlen, hx, hg] at this; exact this
 have hFn := hF.n
 have hFa : n.any.length ≤ 5000 := hF.a n (by rw [hx]; simp)
 have hlast := lastN_at g ini.length x.nc x.needs.length hlen Om
 rw [← hg] at hlast
 obtain ⟨p1, hp1⟩ : ∃ p, ps.getD 1 [] = p := ⟨_, rfl⟩
 obtain ⟨p2, hp2⟩ : ∃ p, ps.getD 2 [] = p := ⟨_, rfl⟩
 obtain ⟨p3, hp3⟩ : ∃ p, ps.getD 3 [] = p := ⟨_, rfl⟩
 obtain ⟨p4, hp4⟩ : ∃ p, ps.getD 4 [] = p := ⟨_, rfl⟩
 have hs2 : p2.length ≤ 1000000 := by
  rw [← hp2, List.getD_eq_getElem?_getD, List.getElem?_eq_getElem (by omega)]; exact hs _ (List.getElem_mem _)
 obtain ⟨M, hM⟩ : ∃ M, (rdB x 3 rb :: ([⟨g, cur, 57⟩] ++ zY oa og oi o4 o7 o8)).map Blk.b = M := ⟨_, rfl⟩
 rw [hM] at hO hld hK
 have hl1 : ∀ w, Own M W w [] → (loadVar 9 ⟨pb, po + 1 * 1 + 0, none⟩).run Tryz.prog w = .ok (.string (mkS p1)) w := fun w hO => by have := hld w hO 1 Om; rw [hp1] at this; exact this
 have hl2 : ∀ w, Own M W w [] → (loadVar 9 ⟨pb, po + 2 * 1 + 0, none⟩).run Tryz.prog w = .ok (.string (mkS p2)) w := fun w hO => by have := hld w hO 2 Om; rw [hp2] at this; exact this
 have hl3 : ∀ w, Own M W w [] → (loadVar 9 ⟨pb, po + 3 * 1 + 0, none⟩).run Tryz.prog w = .ok (.string (mkS p3)) w := fun w hO => by have := hld w hO 3 Om; rw [hp3] at this; exact this
 have hl4 : ∀ w, Own M W w [] → (loadVar 9 ⟨pb, po + 4 * 1 + 0, none⟩).run Tryz.prog w = .ok (.string (mkS p4)) w := fun w hO => by have := hld w hO 4 Om; rw [hp4] at this; exact this
 obtain ⟨fs, hfs⟩ : ∃ fs, (if p2 = [45] then [] else zB 44 [] p2) = fs := ⟨_, rfl⟩
 have hc : ∀ w, Own M W w [] → YC 145 #[.string (mkS p2)] w fun e w' => ∃ v ob', e = .returned v ∧ SlT v fs ob' ∧ Own [] w w' ob' := fun w hO => hfs ▸ qFeats_any p2 w hs2 (hK w hO)
 have hrd : cur[ini.length * 3 + 0]? = some (.slice n.A n.any.length n.cap) := hS.lastAt bZ 0 (.slice n.A n.any.length n.cap) rfl
 refine yJ hO Tryz.func96 (zE (v := Zp g (ini.length * 3)) [0] (fun w hO => hlast w) ?_)
 refine xB 22 [] [⟨g, cur, 57⟩] (fun w hO => Own.nth 1 ⟨g, cur, 57⟩ hO) (xh_ldk 50060 [] 4 0 cur (ini.length * 3 + 0) 55 (.slice n.A n.any.length n.cap) hrd (qL 50062 [] 6 hA ps.length cap 1 1 Om (gX 50063 [] 7 9 pb (po + 1 * 1 + 0) (.string (mkS p1)) (fun w hO => hl1 w hO.no) ?_)))
 refine qL 50065 [] 9 hA ps.length cap 2 1 Om (gX 50066 [] 10 9 pb (po + 2 * 1 + 0) (.string (mkS p2)) (fun w hO => hl2 w hO.no) ?_)
 refine qL 50069 [] 13 hA ps.length cap 3 1 Om (gX 50070 [] 14 9 pb (po + 3 * 1 + 0) (.string (mkS p3)) (fun w hO => hl3 w hO.no) ?_)
 refine xh_seqv 50071 [] 15 p3 gZ (qL 50073 [] 17 hA ps.length cap 4 1 Om (gX 50074 [] 18 9 pb (po + 4 * 1 + 0) (.string (mkS p4)) (fun w hO => hl4 w hO.no) ?_))
 refine yH [] 11 (kS (R := fun v ob => SlT v fs ob) (fun w hO => hc w hO.no) fun v obF hF => ?_)
 obtain ⟨fA, fc, rfl⟩ := hF.form
 refine yH [] 20 (gY 1 60 #[.string (mkS p1), .string (mkS p4), .slice fA fs.length fc, .bool (decide (p3 = gZ))] fun b => yH [] 21 ?_)
 refine qM (m := 1) (cp := 1) [⟨b, #[.string (mkS p1), .string (mkS p4), .slice fA fs.length fc, .bool (decide (p3 = gZ))], 60⟩] oa (rdB x 3 rb :: ⟨g, cur, 57⟩ :: zY [] (og ++ obF) oi o4 o7 o8) 0 (⟨b, #[.string (mkS p1), .string (mkS p4), .slice fA fs.length fc, .bool (decide (p3 = gZ))], 60⟩ :: ((rdB x 3 rb :: ([⟨g, cur, 57⟩] ++ zY oa og oi o4 o7 o8)) ++ obF)) [⟨g, cur, 57⟩] (fun w hO => gW [] hO fun p => by
  simp only [zY, List.countP_append, List.countP_cons, List.countP_nil, List.cons_append, List.nil_append]; omega) (fun o w hO => hO.take (fun y hy => by rw [List.mem_singleton.1 hy]; simp) (by simp)) hw Om fun v' ob' h => ?_
 obtain ⟨A', c', rfl⟩ := h.form
 obtain ⟨u, hu⟩ : ∃ u : Wv, u = ⟨p1, p4, fA, fc, fs, decide (p3 = gZ)⟩ := ⟨_, rfl⟩
 have hl : (n.any ++ [u]).length = n.any.length + 1 := by simp
 have hput := Sl.putLast bZ hS { n with A := A', cap := c', any := n.any ++ [u] } 0 #[.slice A' (n.any.length + 1) c'] (by simp) (by unfold nvC; simp only [hl]; rfl)
 refine jO 79 [] (Zp g (ini.length * 3 + 0)) (Zp g (ini.length * 3 + 0)) rfl (x_hold ([⟨b, #[.string (mkS p1), .string (mkS p4), .slice fA fs.length fc, .bool (decide (p3 = gZ))], 60⟩] ++ ob' ++ (rdB x 3 rb :: ⟨g, cur, 57⟩ :: zY [] (og ++ obF) oi o4 o7 o8)) (rdB x 3 rb :: ⟨g, cur, 57⟩ :: zY ob' (og ++ obF) oi o4 o7 o8) (fun w hO => gW [⟨b, #[.string (mkS p1), .string (mkS p4), .slice fA fs.length fc, .bool (decide (p3 = gZ))], 60⟩] hO fun p => by
  simp only [zY, List.countP_append, List.countP_cons, List.countP_nil, List.cons_append, List.nil_append]; omega) ?_)
 refine x_sto 1 ⟨g, cur, 57⟩ (ini.length * 3 + 0) 1 (.slice A' (n.any.length + 1) c') (rdB x 3 rb :: ⟨g, cur, 57⟩ :: zY ob' (og ++ obF) oi o4 o7 o8) hput.2 ?_
 have hfin : ∀ w, Own M W w (rdB x 3 rb :: ⟨g, zW cur (ini.length * 3 + 0) #[.slice A' (n.any.length + 1) c'], 57⟩ :: zY ob' (og ++ obF) oi o4 o7 o8) → AddB rb 3 x ps (rdB x 3 rb :: ([⟨g, cur, 57⟩] ++ zY oa og oi o4 o7 o8)) W (.returned (.bool (fY x.rt 3 ps).2)) w := fun w hO => by
  refine ⟨{ x with needs := ini ++ [{ n with A := A', cap := c', any := n.any ++ [u] }] }, rdB { x with needs := ini ++ [{ n with A := A', cap := c', any := n.any ++ [u] }] } 3 rb :: ([⟨g, zW cur (ini.length * 3 + 0) #[.slice A' (n.any.length + 1) c'], 57⟩] ++ zY ob' (og ++ obF) oi o4 o7 o8), rfl, ?_, ⟨_, ob', og ++ obF, oi, o4, o7, o8, rfl, ⟨⟨?_, .inr ⟨ini, _, rfl, hi, ?_, fun y hy => ?_⟩⟩, hB, hT⟩⟩, ?_⟩
  ·refine rt_lastN hx (f := fun n => { n with any := n.any ++ [anyW ps (ps.getD 4 [])] }) ?_
   unfold Nv.nt anyW
   rw [hp1, hp2, hp3, hp4, hfs, hu]; simp [Wv.wt]
  ·exact hg ▸ sl_len hput.1
  ·show Sl _ 4 (.slice A' (n.any ++ [u]).length c') _ _ _
   rw [hl, List.flatMap_append, List.flatMap_singleton, hu]; exact h
  ·rcases List.mem_append.1 hy with hy | hy
   ·obtain ⟨o, q1, q2⟩ := hf y hy
    exact ⟨o, q1, fun b hb => List.mem_append_left _ (q2 b hb)⟩
   ·rw [List.mem_singleton.1 hy, hu]
    exact ⟨obF, hF, fun b hb => List.mem_append_right _ hb⟩
  ·rw [rd_lastN hx, hM]; exact hO
 have hb : (fY x.rt 3 ps).2 = (decide (p3 = gZ) || decide (p3 = fL)) := by rw [← hp3]; rfl
 refine kH 81 [] hA ps.length cap 3 1 (by omega) (kB 82 [] 9 pb (po + 3 * 1 + 0) (.string (mkS p3)) (fun w hO => hl3 w hO.no) (qH 83 [] p3 gZ (fun q => ?_) (fun q => ?_)))
 ·refine zF [] Z4 fun w hO => ?_
  have := hfin w (hO.past 0 (rdB x 3 rb :: ⟨g, zW cur (ini.length * 3 + 0) #[.slice A' (n.any.length + 1) c'], 57⟩ :: zY ob' (og ++ obF) oi o4 o7 o8))
  rw [hb, decide_eq_true q, Bool.true_or] at this; exact this
 ·refine kH 86 [] hA ps.length cap 3 1 (by omega) (kB 87 [] 9 pb (po + 3 * 1 + 0) (.string (mkS p3)) (fun w hO => hl3 w hO.no) (qH 88 [] p3 fL (fun q2 => ?_) (fun q2 => ?_)))
  ·refine zF [] Z4 fun w hO => ?_
   have := hfin w (hO.past 0 (rdB x 3 rb :: ⟨g, zW cur (ini.length * 3 + 0) #[.slice A' (n.any.length + 1) c'], 57⟩ :: zY ob' (og ++ obF) oi o4 o7 o8))
   rw [hb, decide_eq_true q2, Bool.or_true] at this; exact this
  ·refine zF [] Z5 fun w hO => ?_
   have := hfin w (hO.past 0 (rdB x 3 rb :: ⟨g, zW cur (ini.length * 3 + 0) #[.slice A' (n.any.length + 1) c'], 57⟩ :: zY ob' (og ++ obF) oi o4 o7 o8))
   rw [hb, decide_eq_false q, decide_eq_false q2, Bool.or_false] at this; exact this
end
section
set_option linter.unnecessarySimpa false
theorem pcsB_le (b : UInt8) : ∀ (k : Nat) (s : List UInt8), ∀ x ∈ wW b k s, x.length ≤ s.length
 | 0, s => fun x hx => by rw [wW, List.mem_singleton] at hx; rw [hx]; exact Nat.le_refl _
 | k + 1, s => fun x hx => by
  have hb := fW b s
  unfold wW at hx
  split at hx
  ·rename_i h
   rw [if_pos h] at hb
   have hl := congrArg List.length hb
   simp only [List.length_append, List.length_cons] at hl
   rcases List.mem_cons.1 hx with rfl | hx
   ·omega
   ·have := pcsB_le b k _ x hx; omega
  ·rw [List.mem_singleton.1 hx]; exact Nat.le_refl _
theorem laPs_le (l : La) (s : List UInt8) : ∀ p ∈ x7 l s, p.length ≤ s.length := fun p hp => by
 unfold x7 at hp
 split at hp
 ·exact pcsB_le _ _ _ p hp
 ·have := mZ 32 s [] p hp; simpa using this
theorem laOk_len {l : La} {s : List UInt8} (h : dG l s = true) : l.parts ≤ (x7 l s).length := by
 unfold dG at h
 simp only [Bool.and_eq_true, Bool.or_eq_true, decide_eq_true_eq] at h
 omega
theorem qAdd_any (l : La) (hl : l ∈ lays) (s : List UInt8) (hls : dG l s = true) (hs : s.length ≤ 90000) (rb : Nat) (x : Rv) (A : Option Addr) (cap : Nat) (ob : List Blk) (W : World) (hR : RdR rb l.kind x ob) (hO : Own (ob.map Blk.b) W W ob) (hv : ReadsA (ob.map Blk.b) y9 W A (x7 l s)) (hcap : (x7 l s).length ≤ cap) (hF : Few x) (hn : 3 ≤ l.kind → l.kind ≤ 5 → x.needs ≠ []) (hb : l.kind = 7 → x.bars ≠ []) (hK : ∀ w, Own (ob.map Blk.b) W w [] → HasLib w) : YC 96 #[.pointer (some ⟨rb, 0, none⟩), .slice A (x7 l s).length cap] W (AddB rb l.kind x (x7 l s) ob W) := by
 have hle := laOk_len hls
 have hps : ∀ p ∈ x7 l s, p.length ≤ 1000000 := fun p hp => by have := laPs_le l s p hp; omega
 have hfew : l.parts ≤ 1000 → (x7 l s).length ≤ s.length + 1001 := laPs_few l s
 clear hls
 generalize x7 l s = ps at *
 simp only [lays, List.mem_cons, List.not_mem_nil, or_false] at hl
 rcases hl with rfl | rfl | rfl | rfl | rfl | rfl | rfl | rfl
 ·exact add_head rb x ps A cap ob W hR hO hv hle hps fun w hw => (hK w hw).tab
 ·exact add_need rb x ps A cap ob W hR hO hF
 ·exact add_wish rb x ps A cap ob W hR hO hv hle hps hF (hn (by decide) (by decide)) hK
 ·exact add_when rb x ps A cap ob W hR hO hv hle hF (hn (by decide) (by decide))
 ·exact add_opt rb x ps A cap ob W hR hO hv hle hF (hn (by decide) (by decide))
 ·exact add_bar rb x ps A cap ob W hR hO hv hle hF
 ·exact add_bwhen rb x ps A cap ob W hR hO hv hle hF (hb rfl)
 ·exact add_feat rb x ps A cap ob W hR hO hv ⟨hle, by have := hfew (by decide); omega⟩ hcap hF
def layC : Array Value := (lays.flatMap fun l => (laV l).cells.toList).toArray
structure LyAt (W : World) : Prop where
 lt : 0 < W.heap.size
 held : ∃ T, W.heap[(0 : Nat)]? = some (.cells layC T)
theorem LyAt.on {W w : World} (h : LyAt W) (hb : Below W.heap.size W w) : LyAt w :=
 ⟨Nat.lt_of_lt_of_le h.lt hb.size, by obtain ⟨T, q⟩ := h.held; exact ⟨T, by rw [hb.block _ h.lt]; exact q⟩⟩
theorem LyAt.all {W : World} (h : LyAt W) : (loadVar 132 ⟨0, 0, none⟩).run Tryz.prog W = .ok (.agg layC) W := by
 obtain ⟨T, q⟩ := h.held
 exact yY Kr q
theorem lay_part : ∀ (k : Nat) (l : La), lays[k]? = some l → ∀ w, (part 131 layC (k * 7)).run Tryz.prog w = .ok (laV l) w
 | 0, _, h, w => by cases h; kernel_rfl
 | 1, _, h, w => by cases h; kernel_rfl
 | 2, _, h, w => by cases h; kernel_rfl
 | 3, _, h, w => by cases h; kernel_rfl
 | 4, _, h, w => by cases h; kernel_rfl
 | 5, _, h, w => by cases h; kernel_rfl
 | 6, _, h, w => by cases h; kernel_rfl
 | 7, _, h, w => by cases h; kernel_rfl
 | k + 8, _, h, w => by cases h
theorem run_idxS {P : Program} {ρ : Operand → Value} {o : Oper} {t e : TypeId} {x y : Operand} {n k sz : Nat} {vals : Array Value} {v : Value} (hk : k < n) (ho : o.op = .index t x y) (hx : ρ x = .agg vals) (hy : ρ y = YI (k : Int))
  (hu : P.underlying t = some (.array n e)) (hp : ∀ w, (part e vals (k * sz)).run P w = .ok v w) (hs : (P.info? e).map (·.size) = some sz) (w : World) : (execOp ρ o).run P w = .ok (.value v) w := by
 cases he : P.info? e with
 | none => rw [he] at hs; cases hs
 | some i =>
  rw [he] at hs
  have hs1 : i.size = sz := Option.some.inj hs
  unfold execOp
  have hkn : ¬ n ≤ k := by omega
  simp [ho, hx, hy, Instr.index, Sem.run_bind, asIntOf, run_underlying hu, sizeOf, typeInfo, he, hs1, hp, hk, hkn]
theorem slT_out {M : List Nat} {W w : World} {R ob op : List Blk} {A : Option Addr} {n cap : Nat} {l : List (List UInt8)} (hO : Own M W w (R ++ ob)) (h : SlT (.slice A n cap) l op) (hn : l.length = n) (hs : ∀ b ∈ op, b ∈ R) : ReadsA (ob.map Blk.b) y9 w A l := fun h0 => by
 subst hn
 obtain ⟨g, cur, e1, e2, _⟩ := Sl.block h h0
 obtain ⟨b, off, e3, hlt, hc⟩ := SlT.reads h rfl hO (fun x hx => List.mem_append_left _ (hs x hx)) h0
 refine ⟨b, off, e3, hlt, fun hb => ?_, hc⟩
 rw [e1] at e3
 injection e3 with e3
 injection e3 with e4 _
 have ha := hO.apart
 rw [List.map_append, List.nodup_append] at ha
 refine ha.2.2 b ?_ b hb rfl
 rw [← e4]
 exact List.mem_map.2 ⟨⟨g, cur, 9⟩, hs _ (by rw [e2]; exact List.mem_singleton.2 rfl), rfl⟩
end
section
set_option linter.unnecessarySimpa false
section
variable {M : List Nat} {P : Program} {n : Nat} {W : World} {Q : Exit → Act → World → Prop} {c : Xc}
theorem x_idxS (d : Nat) (h : List Nat) (k N sz : Nat) (v : Value) (vals : Array Value) (e : TypeId) (hN : k < N) (hp : ∀ w, (part e vals (k * sz)).run P w = .ok v w) (hg : zI M P n W Q ((xgo P n (d + 50000) h c).put v))
  (hkt : (xgl P n (d + 50000) h c, xW n (xgo P n (d + 50000) h c), (xO (xgo P n (d + 50000) h c)).op, ev n (xgo P n (d + 50000) h c).f (oX (xO (xgo P n (d + 50000) h c))), ev n (xgo P n (d + 50000) h c).f (oY (xO (xgo P n (d + 50000) h c))), P.underlying (oT (xO (xgo P n (d + 50000) h c))), (P.info? e).map (·.size))
   = (xgr P n (d + 50000) h c, true, .index (oT (xO (xgo P n (d + 50000) h c))) (oX (xO (xgo P n (d + 50000) h c))) (oY (xO (xgo P n (d + 50000) h c))), .agg vals, YI (k : Int), some (.array N e), some sz) := by kernel_rfl) : zI M P n W Q c := by
 simp only [Prod.mk.injEq] at hkt
 obtain ⟨hk, e1, e2, e3, e4, e5, e6⟩ := hkt
 exact zP h c hk (jG e1 (run_idxS hN e2 e3 e4 e5 hp e6) hg)
end
structure TakeB (rb k : Nat) (x : Rv) (s : List UInt8) (ob : List Blk) (W : World) (e : Ending) (w' : World) : Prop where
 ex : ∃ b x' k' ob', e = .returned (.bool b) ∧ RdR rb k' x' ob' ∧ Own (ob.map Blk.b) W w' ob' ∧ (match xK x.rt k s lays with | some (y, kk) => b = true ∧ x'.rt = y ∧ k' = kk | none => b = false)
theorem lays_at {i : Nat} (h : i < 8) : ∃ l, lays[i]? = some l ∧ lays.drop i = l :: lays.drop (i + 1) ∧ l ∈ lays := by
 have h' : i < lays.length := h
 exact ⟨lays[i], List.getElem?_eq_getElem h', List.drop_eq_getElem_cons h', List.getElem_mem h'⟩
theorem lays_fits : ∀ l ∈ lays, (3 ≤ l.kind → l.kind ≤ 5 → 2 ≤ l.lo ∧ l.hi ≤ 5) ∧ (l.kind = 7 → 6 ≤ l.lo ∧ l.hi ≤ 7) ∧ 1 ≤ l.parts ∧ l.parts ≤ 1000 := by decide
theorem qTake_any (rb k : Nat) (x : Rv) (s : List UInt8) (ob : List Blk) (W : World) (hR : RdR rb k x ob) (hO : Own (ob.map Blk.b) W W ob) (hs : s.length ≤ 90000) (hF : Few x) (hI : InvA x.rt k) (hK : ∀ w, Own (ob.map Blk.b) W w [] → HasLib w ∧ LyAt w) : YC 43 #[.pointer (some ⟨rb, 0, none⟩), .string (mkS s)] W (TakeB rb k x s ob W) := by
 obtain ⟨o1, oa, og, oi, o4, o7, o8, hob, hQ⟩ := hR
 obtain ⟨T, hT⟩ : ∃ T, o1 ++ zY oa og oi o4 o7 o8 = T := ⟨_, rfl⟩
 rw [hT] at hob
 subst hob
 have hRd : ∀ j, RdR rb j x (rdB x j rb :: T) := fun j => ⟨o1, oa, og, oi, o4, o7, o8, by rw [hT], hQ⟩
 obtain ⟨M, hM⟩ : ∃ M, (rdB x k rb :: T).map Blk.b = M := ⟨_, rfl⟩
 have hMj : ∀ j, (rdB x j rb :: T).map Blk.b = M := fun j => hM
 rw [hM] at hO hK
 refine yJ hO Tryz.func43 (kB 9 [] 132 0 0 (.agg layC) (fun w hO => (hK w hO.no).2.all) ?_)
 refine qO (α := Nat) (fun i => [(0, Zp rb 0), (1, .string (mkS s)), (9, .agg layC), (10, YI (i : Int))]) (fun _ => rdB x k rb :: T) (fun i m => (i ≤ 8 ∧ xK x.rt k s lays = xK x.rt k s (lays.drop i)) ∧ m = 8 - i) 0 8 [] ⟨⟨Nat.zero_le _, rfl⟩, rfl⟩ ?_
 rintro i mm g kk ⟨⟨hi, hE⟩, hmm⟩ nx hkk
 subst hkk
 refine y8 11 [] ((i : Int) < 8) (fun h11 => ?_) (fun h11 => ?_)
 rotate_left
 ·refine zF [] Z5 fun w hO => ⟨false, x, k, rdB x k rb :: T, rfl, hRd k, by rw [hM]; exact hO.past 0 _, ?_⟩
  rw [hE, List.drop_eq_nil_of_le (by show 8 ≤ i; omega)]; rfl
 obtain ⟨l, hl, hd, hlm⟩ := lays_at (show i < 8 by omega)
 obtain ⟨hf1, hf2, hp⟩ := lays_fits l hlm
 rw [hd] at hE
 refine x_idxS 12 [] i 8 7 (laV l) layC 131 (by omega) (lay_part i l hl) (zV [] fun b6 => y8 19 [0, 1, 0] ((k : Int) < (l.lo : Int)) (fun h19 => ?_) (fun h19 => y8 27 [1, 0] ((k : Int) > (l.hi : Int)) (fun h27 => ?_) (fun h27 => ?_)))
 ·refine x_i 10 [] ((i + 1 : Nat) : Int) (yG [] (rdB x k rb :: T) (fun w hO => hO.past 1 _) (nx (i + 1) (8 - (i + 1)) [] Om ⟨⟨by omega, ?_⟩, rfl⟩ Kr Kr))
  rw [hE, xK, if_neg (fun q => by have := q.1; omega)]
 ·refine x_i 10 [] ((i + 1 : Nat) : Int) (yG [] (rdB x k rb :: T) (fun w hO => hO.past 1 _) (nx (i + 1) (8 - (i + 1)) [] Om ⟨⟨by omega, ?_⟩, rfl⟩ Kr Kr))
  rw [hE, xK, if_neg (fun q => by have := q.2.1; omega)]
 have hcut : ∀ w, YC 95 #[laV l, .string (mkS s)] w fun e w' => ∃ v ob', e = .returned v ∧ (∃ A cap, v = .tuple #[.slice A (x7 l s).length cap, .bool (dG l s)] ∧ SlT (.slice A (x7 l s).length cap) (x7 l s) ob' ∧ (x7 l s).length ≤ cap) ∧ Own [] w w' ob' := fun w => by
  refine (qCut_any l s w Om hp).mono fun e w' ⟨v', ob', k1, k2, k3⟩ => ?_
  obtain ⟨A, cap, rfl⟩ := k2.form
  refine ⟨_, ob', k1, ⟨A, cap, rfl, k2, ?_⟩, k3⟩
  rcases k2.2 with ⟨_, q, _⟩ | ⟨g, cap', cur, e1, e2, e3, _⟩
  ·omega
  ·cases e1; exact e3
 refine qP (R := fun v ob => ∃ A cap, v = .tuple #[.slice A (x7 l s).length cap, .bool (dG l s)] ∧ SlT (.slice A (x7 l s).length cap) (x7 l s) ob ∧ (x7 l s).length ≤ cap) [0] (fun w hO => hcut w) ?_
 rintro v obp ⟨A, cap, rfl, hSl, hcap⟩
 refine x_bb 35 [] (dG l s) (fun h35 => ?_) (fun h35 => ?_)
 rotate_left
 ·refine x_i 10 [] ((i + 1 : Nat) : Int) (yG [] (rdB x k rb :: T) (fun w hO => gW (laB l b6 :: obp) (hO.past 0 (laB l b6 :: rdB x k rb :: (T ++ obp))) fun p => by
   simp only [List.countP_append, List.countP_cons, List.countP_nil, List.cons_append, List.nil_append]; omega) (nx (i + 1) (8 - (i + 1)) [] Om ⟨⟨by omega, ?_⟩, rfl⟩ Kr Kr))
  rw [hE, xK, if_neg (fun q => by rw [h35] at q; exact Bool.false_ne_true q.2.2)]
 have hfit : l.lo ≤ k ∧ k ≤ l.hi ∧ dG l s = true := ⟨by omega, by omega, h35⟩
 refine xN (k := 96) (args := #[Zp rb 0, .slice A (x7 l s).length cap]) (Rr := fun v ob' => ∃ x', v = .bool (fY x.rt l.kind (x7 l s)).2 ∧ x'.rt = (fY x.rt l.kind (x7 l s)).1 ∧ RdR rb l.kind x' ob') [0, 1] (laB l b6 :: rdB x l.kind rb :: (T ++ obp)) (laB l b6 :: obp) (rdB x l.kind rb :: T) (fun w hO => gW [] hO fun p => by
   simp only [List.countP_append, List.countP_cons, List.countP_nil, List.cons_append, List.nil_append]; omega) (fun w hO => ?_) fun v ob' ⟨x', k1, k2, k3⟩ => ?_
 ·refine (qAdd_any l hlm s h35 hs rb x A cap (rdB x l.kind rb :: T) w (hRd l.kind) (Own.lentR hO) (slT_out hO hSl rfl fun b hb => List.mem_cons_of_mem _ hb) hcap hF (fun q1 q2 => ?_) (fun q => ?_) (fun w' hw' => (hK w' (hO.no.and ((hMj l.kind) ▸ hw'))).1)).mono fun e w' ⟨x', ob', q1, q2, q3, q4⟩ => ⟨_, ob', q1, ⟨x', rfl, q2, q3⟩, q4⟩
  ·have := hf1 q1 q2
   exact fun e => hI.n Om Om (by show x.needs.map Nv.nt = []; rw [e]; rfl)
  ·have := hf2 q
   exact fun e => hI.b Om Om (by show x.bars.map Bv.bt = []; rw [e]; rfl)
 subst k1
 refine zF [] (.bool (fY x.rt l.kind (x7 l s)).2) fun w hO => ⟨_, x', l.kind, ob', rfl, k3, ?_, ?_⟩
 ·rw [hM]; exact (hO.past 0 ((laB l b6 :: obp) ++ ob')).sublist (List.sublist_append_right _ _)
 ·rw [hE, xK, if_pos hfit]
  cases h : (fY x.rt l.kind (x7 l s)).2 with
  | true => rw [if_pos rfl]; exact ⟨rfl, k2, rfl⟩
  | false => rw [if_neg Bool.false_ne_true]
end
section
def noDef (o : Oper) : Bool := match o.op with
 | .defer _ => false
 | _ => true
theorem noDef_is {o : Oper} (h : noDef o = true) : ∀ c, o.op ≠ .defer c := fun c e => by
 unfold noDef at h; rw [e] at h; cases h
section
variable {M : List Nat} {P : Program} {n : Nat} {W : World} {Q : Exit → Act → World → Prop} {c : Xc}
theorem list_round {l m : Nat} {ops : Array Oper} (hout : ¬ LetsOut Q) : ∀ (rest : List Oper), (rest.all noDef = true) → ∀ a w, wpList P ops Q rest a w → wpListIn (Fence.wide.inRound l) m P ops Q rest a w
 | [], _, a, w, h => h
 | o :: rest, hn, a, w, h => by
  rw [List.all_cons, Bool.and_eq_true] at hn
  have ih := list_round (l := l) (m := m) (ops := ops) hout rest hn.2
  unfold wpList at h
  unfold wpListIn
  split at h
  ·rename_i hw
   rw [if_pos hw]
   rcases h with h | ⟨_, h⟩
   ·refine ⟨fun _ _ => trivial, ?_⟩
    rw [Oper.semAt_eq _ _ _ (noDef_is hn.1)]
    unfold Oper.wp at h
    generalize (execOp a.eval o).run P w = r at h ⊢
    unfold Oper.upon at h
    split at h
    ·exact ih _ _ h
    ·exact ih _ _ h
    ·exact ih _ _ h
    ·refine ⟨fun q => (by cases q), CallsIn.inRound l (callsIn_wide.2 (h.mono fun e w' k => ?_))⟩
     cases e with
     | returned v => exact ih _ _ k
     | panicked ch => exact k
     | outgrown => exact k
    ·refine ⟨fun q => (by cases q), fun cc cs _ => ?_⟩
     obtain ⟨v, w', r1, r2⟩ := h cc cs
     exact ⟨v, w', ih _ _ r1, stepsIn_wide.2 r2⟩
    ·exact h
    ·exact h.elim
   ·exact absurd h hout
  ·rename_i hw
   rw [if_neg hw]
   exact ⟨fun _ _ => trivial, ih _ _ h⟩
theorem fD {l m id : Nat} {ops : Array Oper} {L : List Blk} {f : Nat → Value} (hq : PQ Q) (hout : ¬ LetsOut Q) (hn : ops.toList.all noDef = true) (hg : zI M P n W Q ⟨.ops ops ops.toList, [], L, f⟩) : ∀ w, Own M W w L → (Code.region id ops false).wpIn (Fence.wide.inRound l) m P Q (Fr n f) w := fun w hO =>
 wpIn_region_list (list_round hout _ hn _ _ ((hg.go hq).go w hO))
theorem x_fin (h : List Nat) (lv : List (Nat × Value)) (hR : ∀ w g, Own M W w (xgo P n nS h c).L → Q .normal (Fr n (jR g lv)) w)
  (hkt : (xgl P n nS h c, (xgo P n nS h c).top, (xgo P n nS h c).k, xV (xgo P n nS h c).f lv) = (xgr P n nS h c, .fin .normal, [], lv.map Prod.snd) := by kernel_rfl) : zI M P n W Q c := by
 simp only [Prod.mk.injEq] at hkt
 obtain ⟨hk, e1, e2, e3⟩ := hkt
 refine zP h c hk ?_
 generalize xgo P n nS h c = d at *
 obtain ⟨top, kk, L, f⟩ := d
 dsimp only at e1 e2 e3 hR
 subst e1; subst e2
 exact ⟨fun _ => ⟨fun w hO => by have := hR w f hO; rw [← vC _ (qG e3)] at this; exact this⟩⟩
def xRg (c : Xc) : Nat := match c.top with
 | .code (.region id _ _) => id
 | _ => 0
def yo (c : Xc) (i : Nat) : Oper := match c.top with
 | .code (.region _ a _) => a.getD i default
 | _ => default
def yF (d : Xc) (v0 v1 : Value) : Nat → Value := upd (upd d.f (yo d 0).dst v0) (yo d 1).dst v1
def yF3 (d : Xc) (v0 v1 : Value) (b : Bool) : Nat → Value := upd (upd (yF d v0 v1) (yo d 2).dst (.bool b)) (yo d 3).dst (.bool (!b))
def yA (d : Xc) : Array Oper := #[yo d 0, yo d 1, yo d 2, yo d 3]
theorem ok_yield {id l : Nat} {o0 o1 o2 o3 : Oper} {L : List Blk} {f : Nat → Value} {s v0 v1 : Value}
  (w0 : zT #[o0, o1, o2, o3] n f o0 = true) (w1 : zT #[o0, o1, o2, o3] n (upd f o0.dst v0) o1 = true) (w2 : zT #[o0, o1, o2, o3] n (upd (upd f o0.dst v0) o1.dst v1) o2 = true) (w3 : ∀ b, zT #[o0, o1, o2, o3] n (upd (upd (upd f o0.dst v0) o1.dst v1) o2.dst (.bool b)) o3 = true)
  (q0 : ∀ w, (execOp (ev n f) o0).run P w = .ok (.value v0) w) (q1 : ∀ w, (execOp (ev n (upd f o0.dst v0)) o1).run P w = .ok (.value v1) w) (q2 : ∀ w, (execOp (ev n (upd (upd f o0.dst v0) o1.dst v1)) o2).run P w = (Instr.yield l #[s]).run P w)
  (q3 : ∀ b w, (execOp (ev n (upd (upd (upd f o0.dst v0) o1.dst v1) o2.dst (.bool b))) o3).run P w = .ok (.value (.bool (!b))) w)
  (hs : ∀ w, Own M W w L → YieldAt Fence.wide 1 P l #[s] w fun e w' => ∃ b, e = .returned (.bool b) ∧ Q .normal (Fr n (upd (upd (upd (upd f o0.dst v0) o1.dst v1) o2.dst (.bool b)) o3.dst (.bool (!b)))) w') : Ok M P n W Q (.region id #[o0, o1, o2, o3] false) L f := by
 refine ⟨fun w hO => (wpIn_wide (n := 2)).1 (wpIn_region_list ?_)⟩
 obtain ⟨fn, tmps, assign, body, hy, hR⟩ := hs w hO
 show wpListIn Fence.wide 2 P #[o0, o1, o2, o3] Q [o0, o1, o2, o3] (Fr n f) w
 unfold wpListIn
 rw [qQ, if_pos w0]
 refine ⟨fun _ _ => trivial, ?_⟩
 rw [show Fence.wide.round = none from rfl, Oper.semAt_none, kN, q0, Oper.uponIn_value, vL]
 unfold wpListIn
 rw [qQ, if_pos w1]
 refine ⟨fun _ _ => trivial, ?_⟩
 rw [show Fence.wide.round = none from rfl, Oper.semAt_none, kN, q1, Oper.uponIn_value, vL]
 unfold wpListIn
 rw [qQ, if_pos w2]
 refine ⟨fun _ _ => trivial, ?_⟩
 rw [show Fence.wide.round = none from rfl, Oper.semAt_none, kN, q2, hy, Oper.uponIn_round]
 refine ⟨fun q => (by cases q), hR.mono fun e w' ⟨b, k1, k3⟩ => ?_⟩
 subst k1
 dsimp only
 rw [vL]
 unfold wpListIn
 rw [qQ, if_pos (w3 b)]
 refine ⟨fun _ _ => trivial, ?_⟩
 rw [show Fence.wide.round = none from rfl, Oper.semAt_none, kN, q3, Oper.uponIn_value, vL]
 exact k3
theorem yield_good {d : Xc} (l : Nat) (s v0 v1 : Value)
  (hs : ∀ w, Own M W w d.L → YieldAt Fence.wide 1 P l #[s] w fun e w' => ∃ b M' L', e = .returned (.bool b) ∧ Own M' w' w' L' ∧ zI M' P n w' Q ⟨.fin .normal, d.k, L', yF3 d v0 v1 b⟩)
  (e1 : d.top = .code (.region (xRg d) (yA d) false)) (e2 : xNl d.k = true)
  (hw : (zT (yA d) n d.f (yo d 0), zT (yA d) n (upd d.f (yo d 0).dst v0) (yo d 1), zT (yA d) n (yF d v0 v1) (yo d 2), fun b => zT (yA d) n (upd (yF d v0 v1) (yo d 2).dst (.bool b)) (yo d 3)) = (true, true, true, fun _ => true))
  (h0 : (fun w => (execOp (ev n d.f) (yo d 0)).run P w) = fun w => .ok (.value v0) w)
  (h1 : (fun w => (execOp (ev n (upd d.f (yo d 0).dst v0)) (yo d 1)).run P w) = fun w => .ok (.value v1) w)
  (h2 : (fun w => (execOp (ev n (yF d v0 v1)) (yo d 2)).run P w) = fun w => (Instr.yield l #[s]).run P w)
  (h3 : (fun b w => (execOp (ev n (upd (yF d v0 v1) (yo d 2).dst (.bool b))) (yo d 3)).run P w) = fun b w => .ok (.value (.bool (!b))) w) : zI M P n W Q d := by
 have : d = ⟨.code (.region (xRg d) (yA d) false), d.k, d.L, d.f⟩ := by rw [← e1]
 obtain ⟨w0, hw2⟩ := Prod.mk.inj hw
 obtain ⟨w1, hw3⟩ := Prod.mk.inj hw2
 obtain ⟨w2, w3⟩ := Prod.mk.inj hw3
 have key : PQ Q → Ok M P n W (KQ M P n W Q d.k) (.region (xRg d) (yA d) false) d.L d.f := fun hq => ok_yield (l := l) (s := s) (v0 := v0) (v1 := v1) w0 w1 w2 (fun b => congrFun w3 b) (fun w => congrFun h0 w) (fun w => congrFun h1 w) (fun w => congrFun h2 w) (fun b w => congrFun (congrFun h3 b) w) fun w hO => by
  obtain ⟨fn, tmps, assign, body, hy, hR⟩ := hs w hO
  refine ⟨fn, tmps, assign, body, hy, hR.mono fun e w' ⟨b, M', L', k1, k2, k3⟩ => ⟨b, k1, ?_⟩⟩
  have := (k3.go hq).go w' k2
  rw [KQ_any (M := M) (W := W) (M' := M') (W' := w') e2]; exact this
 generalize xRg d = i at *
 generalize yA d = a at *
 rw [this]
 exact ⟨key⟩
theorem x_yield (fu : Fuel1) (h : List Nat) (l : Nat) (s v0 v1 : Value)
  (hs : ∀ w, Own M W w (xH P n nS fu h c).L → YieldAt Fence.wide 1 P l #[s] w fun e w' => ∃ b M' L', e = .returned (.bool b) ∧ Own M' w' w' L' ∧ zI M' P n w' Q ⟨.fin .normal, (xH P n nS fu h c).k, L', yF3 (xH P n nS fu h c) v0 v1 b⟩)
  (hkt : (xl P n nS fu h c, (xH P n nS fu h c).top, xNl (xH P n nS fu h c).k) = (xr P n nS (fuel12 fu) h c, .code (.region (xRg (xH P n nS fu h c)) (yA (xH P n nS fu h c)) false), true) := by kernel_rfl)
  (hw : (zT (yA (xH P n nS fu h c)) n (xH P n nS fu h c).f (yo (xH P n nS fu h c) 0), zT (yA (xH P n nS fu h c)) n (upd (xH P n nS fu h c).f (yo (xH P n nS fu h c) 0).dst v0) (yo (xH P n nS fu h c) 1), zT (yA (xH P n nS fu h c)) n (yF (xH P n nS fu h c) v0 v1) (yo (xH P n nS fu h c) 2), fun b => zT (yA (xH P n nS fu h c)) n (upd (yF (xH P n nS fu h c) v0 v1) (yo (xH P n nS fu h c) 2).dst (.bool b)) (yo (xH P n nS fu h c) 3)) = (true, true, true, fun _ => true) := by kernel_rfl)
  (h0 : (fun w => (execOp (ev n (xH P n nS fu h c).f) (yo (xH P n nS fu h c) 0)).run P w) = fun w => .ok (.value v0) w := by kernel_rfl)
  (h1 : (fun w => (execOp (ev n (upd (xH P n nS fu h c).f (yo (xH P n nS fu h c) 0).dst v0)) (yo (xH P n nS fu h c) 1)).run P w) = fun w => .ok (.value v1) w := by kernel_rfl)
  (h2 : (fun w => (execOp (ev n (yF (xH P n nS fu h c) v0 v1)) (yo (xH P n nS fu h c) 2)).run P w) = fun w => (Instr.yield l #[s]).run P w := by kernel_rfl)
  (h3 : (fun b w => (execOp (ev n (upd (yF (xH P n nS fu h c) v0 v1) (yo (xH P n nS fu h c) 2).dst (.bool b))) (yo (xH P n nS fu h c) 3)).run P w) = fun b w => .ok (.value (.bool (!b))) w := by kernel_rfl) : zI M P n W Q c := by
 obtain ⟨hk, hkt2⟩ := Prod.mk.inj hkt
 obtain ⟨e1, e2⟩ := Prod.mk.inj hkt2
 refine xrun_ok fu h c hk ?_
 clear hk hkt hkt2
 generalize xH P n nS fu h c = d at *
 exact yield_good l s v0 v1 hs e1 e2 hw h0 h1 h2 h3
end
end
section
def lnH (r : List UInt8) : List UInt8 := if (z8 10 r).2.2 then (z8 10 r).1 ++ [10] else r
def lnR (r : List UInt8) : List UInt8 := if (z8 10 r).2.2 then (z8 10 r).2.1 else []
theorem ix_cut (c : UInt8) : ∀ r : List UInt8, ((z8 c r).2.2 = true ∧ Lib.indexByte r c = ((z8 c r).1.length : Int) ∧ r.take ((z8 c r).1.length + 1) = (z8 c r).1 ++ [c] ∧ r.drop ((z8 c r).1.length + 1) = (z8 c r).2.1 ∧ (z8 c r).1.length < r.length) ∨ ((z8 c r).2.2 = false ∧ Lib.indexByte r c = -1)
 | [] => .inr ⟨rfl, rfl⟩
 | b :: r => by
  unfold z8 Lib.indexByte
  by_cases h : b = c
  ·subst h
   left
   simp
  ·have hb : (b == c) = false := by simpa using h
   rw [if_neg h, hb, if_neg Bool.false_ne_true]
   rcases ix_cut c r with ⟨h1, h2, h3, h4, h5⟩ | ⟨h1, h2⟩
   ·left
    rw [h2]
    have hn : (((z8 c r).1.length : Int) == -1) = false := by simp
    rw [hn, if_neg Bool.false_ne_true]
    refine ⟨h1, by simp, ?_, ?_, by simpa using h5⟩
    ·simp only [List.length_cons, List.take_succ_cons, h3, List.cons_append]
    ·simp only [List.length_cons, List.drop_succ_cons, h4]
   ·right
    rw [h2]
    exact ⟨h1, by simp⟩
theorem lnR_len {r : List UInt8} (h : r ≠ []) : (lnR r).length < r.length := by
 unfold lnR
 rcases ix_cut 10 r with ⟨h1, _, _, h4, h5⟩ | ⟨h1, _⟩
 ·rw [if_pos h1, ← h4, List.length_drop]; omega
 ·rw [h1, if_neg Bool.false_ne_true]; exact List.length_pos_iff.2 h
section
variable {M : List Nat} {P : Program} {n : Nat} {W : World} {Q : Exit → Act → World → Prop} {c : Xc}
theorem xh_shi (t : Nat) (h : List Nat) (i : Nat) (s : List UInt8) (j : Int) (h0 : 0 ≤ j) (h1 : j ≤ s.length) (v : Value) (hv : .string (mkS (s.take j.toNat)) = v) (hg : zI M P n W Q (xHn (xgo P n t h c) i v))
  (hkt : (xgl P n t h c, pH n i (xgo P n t h c), (shQ (xOi i (xgo P n t h c))).2.2.2, ev n (xgo P n t h c).f (shQ (xOi i (xgo P n t h c))).2.1, ev n (xgo P n t h c).f (shQ (xOi i (xgo P n t h c))).2.2.1, P.underlying (shQ (xOi i (xgo P n t h c))).1)
   = (xgr P n t h c, dQ i (xgo P n t h c), true, .string (mkS s), YI j, some .string) := by kernel_rfl) : zI M P n W Q c := by
 simp only [Prod.mk.injEq] at hkt
 obtain ⟨hk, e1, e2, e3, e4, e5⟩ := hkt
 exact zP h c hk (xtake (fun w _ => by rw [run_strhi (shQ_op e2) e3 e4 e5 h0 h1 w, hv]) hg e1)
theorem xh_slo (t : Nat) (h : List Nat) (i : Nat) (s : List UInt8) (j : Int) (h0 : 0 ≤ j) (h1 : j ≤ s.length) (v : Value) (hv : .string (mkS (s.drop j.toNat)) = v) (hg : zI M P n W Q (xHn (xgo P n t h c) i v))
  (hkt : (xgl P n t h c, pH n i (xgo P n t h c), (slQ (xOi i (xgo P n t h c))).2.2.2, ev n (xgo P n t h c).f (slQ (xOi i (xgo P n t h c))).2.1, ev n (xgo P n t h c).f (slQ (xOi i (xgo P n t h c))).2.2.1, P.underlying (slQ (xOi i (xgo P n t h c))).1)
   = (xgr P n t h c, dQ i (xgo P n t h c), true, .string (mkS s), YI j, some .string) := by kernel_rfl) : zI M P n W Q c := by
 simp only [Prod.mk.injEq] at hkt
 obtain ⟨hk, e1, e2, e3, e4, e5⟩ := hkt
 exact zP h c hk (xtake (fun w _ => by rw [run_strlo (slQ_op e2) e3 e4 e5 h0 h1 w, hv]) hg e1)
end
def kE (B : Nat) (r : List UInt8) : Blk := ⟨B, #[.string (mkS r)], 9⟩
theorem ixb_any (r : List UInt8) (w : World) : YC 139 #[.string (mkS r), .int .u8 10] w (YR (YI (Lib.indexByte r 10)) w) :=
 (Tryz.strings_IndexByte _ _ w).mono fun e w' ⟨h1, h2⟩ => ⟨by rw [h1]; rfl, h2 ▸ Below.refl _ _⟩
theorem lines_any (l B : Nat) (J : List UInt8 → World → Prop) (K : List UInt8 → List UInt8 → World → Prop) (Jx : World → Prop)
  (hJ : ∀ r w, J r w → Own [B] w w [kE B r])
  (hS : ∀ r w w', J r w → Own [B] w w' [kE B r] → J r w')
  (hT : ∀ r w w', J r w → r ≠ [] → Own [B] w w' [kE B (lnR r)] → K (lnH r) (lnR r) w')
  (hX : ∀ w w', Jx w → Below w.heap.size w w' → Jx w')
  (hY : ∀ p r w, K p r w → YieldAt Fence.wide 1 Tryz.prog l #[.string (mkS p)] w fun e w' => (e = .returned (.bool true) ∧ J r w') ∨ (e = .returned (.bool false) ∧ Jx w'))
  (s : List UInt8) (W : World) (h0 : J s W) (hs : s.length ≤ 1000000) : YC 138 #[.func (.yield l) #[] #[], .pointer (some ⟨B, 0, none⟩)] W fun e w' => e = .returned (.tuple #[]) ∧ (J [] w' ∨ Jx w') := by
 refine yJ (hJ s W h0) Tryz.func138 (x_loopW (α := List UInt8) (fun _ => [(0, .func (.yield l) #[] #[]), (1, Zp B 0)]) (fun _ => [B]) (fun r => [kE B r]) (fun r w m => J r w ∧ r.length ≤ 1000000 ∧ m = r.length) s s.length [] (fun w hO => ⟨⟨hS s W w h0 hO, hs, rfl⟩, (hJ s w (hS s W w h0 hO))⟩) ?_)
 rintro r w mm g ⟨hj, hr, rfl⟩ hO
 refine y8 7 [0] ((r.length : Int) > 0) (fun h7 => ?_) (fun h7 => ?_)
 rotate_left
 ·have hnil : r = [] := List.eq_nil_of_length_eq_zero Om
  subst hnil
  refine x_outW (.exit 0) [] (vH [] fun w3 hO3 => ⟨rfl, .inl (hS [] w w3 hj (hO3.past 0 [kE B []]))⟩) rfl
 have hne : r ≠ [] := fun e => by rw [e] at h7; exact absurd h7 (by decide)
 have hround : ∀ w' , Own [B] w w' [kE B (lnR r)] → YieldAt Fence.wide 1 Tryz.prog l #[.string (mkS (lnH r))] w' fun e w2 => (e = .returned (.bool true) ∧ J (lnR r) w2) ∨ (e = .returned (.bool false) ∧ Jx w2) := fun w' hO' => hY _ _ _ (hT r w w' hj hne hO')
 obtain ⟨z, hz⟩ : ∃ z, Lib.indexByte r 10 = z := ⟨_, rfl⟩
 have hix : ∀ w, YC 139 #[.string (mkS r), .int .u8 10] w (YR (YI z) w) := fun w => hz ▸ ixb_any r w
 have hcut : (0 ≤ z ∧ z < r.length ∧ r.take (z + 1).toNat = lnH r ∧ r.drop (z + 1).toNat = lnR r) ∨ (z = -1 ∧ lnH r = r ∧ lnR r = []) := by
  unfold lnH lnR
  rcases ix_cut 10 r with ⟨c1, c2, c3, c4, c5⟩ | ⟨c1, c2⟩
  ·left
   rw [hz] at c2
   subst c2
   rw [c1, if_pos rfl, if_pos rfl]
   exact ⟨by omega, by omega, c3, c4⟩
  ·right
   rw [c1]
   exact ⟨hz.symm.trans c2, rfl, rfl⟩
 have hlen := lnR_len hne
 refine zE (v := YI z) [0] (fun w hO => hix w) (y8 11 [] (z ≥ 0) (fun h11 => ?_) (fun h11 => ?_))
 ·rcases hcut with ⟨q1, q2, q3, q4⟩ | ⟨q1, _⟩
  rotate_left
  ·exact absurd h11 Om
  refine xB 9 [] [kE B r] (fun w hO => Own.nth 0 (kE B r) hO) (x_i 14 [0] (z + 1) (xh_shi 50015 [] 3 r (z + 1) Om Om (.string (mkS (lnH r))) (by rw [q3]) (x_i 18 [0] (z + 1) (xh_slo 50019 [] 7 r (z + 1) Om Om (.string (mkS (lnR r))) (by rw [q4]) ?_))))
  refine x_yield (.s (.s (.s (.s (.s (.s (.s .z))))))) [0] l (.string (mkS (lnH r))) (.func (.yield l) #[] #[]) (.string (mkS (lnH r))) fun w' hO' => ?_
  obtain ⟨fn, tmps, assign, body, hy, hR⟩ := hround w' (hO'.past 0 [kE B (lnR r)])
  refine ⟨fn, tmps, assign, body, hy, hR.mono fun e w2 h => ?_⟩
  rcases h with ⟨rfl, hJ2⟩ | ⟨rfl, hx2⟩
  ·exact ⟨true, [B], [kE B (lnR r)], rfl, hJ _ _ hJ2, x_nxW (lnR r) (lnR r).length [] hlen fun w3 hO3 => ⟨⟨hS _ w2 w3 hJ2 (hO3.past 0 [kE B (lnR r)]), by omega, rfl⟩, hJ _ _ (hS _ w2 w3 hJ2 (hO3.past 0 [kE B (lnR r)]))⟩⟩
  ·exact ⟨false, [], [], rfl, Own.start [] w2, x_outW .ret [] (x_ret0 [] fun w3 hO3 => ⟨rfl, .inr (hX w2 w3 hx2 (hO3.past 0 []).below)⟩) rfl⟩
 ·rcases hcut with ⟨q1, _⟩ | ⟨q1, q2, q3⟩
  ·exact absurd h11 Om
  rw [q2, q3] at hround
  rw [q3] at hlen
  refine x_yield (.s (.s (.s (.s (.s (.s (.s (.s (.s (.s .z)))))))))) [0, 0] l (.string (mkS r)) (.func (.yield l) #[] #[]) (.string (mkS r)) fun w' hO' => ?_
  obtain ⟨fn, tmps, assign, body, hy, hR⟩ := hround w' (hO'.past 0 [kE B []])
  refine ⟨fn, tmps, assign, body, hy, hR.mono fun e w2 h => ?_⟩
  rcases h with ⟨rfl, hJ2⟩ | ⟨rfl, hx2⟩
  ·exact ⟨true, [B], [kE B []], rfl, hJ _ _ hJ2, x_nxW [] 0 [] hlen fun w3 hO3 => ⟨⟨hS _ w2 w3 hJ2 (hO3.past 0 [kE B []]), by simp, rfl⟩, hJ _ _ (hS _ w2 w3 hJ2 (hO3.past 0 [kE B []]))⟩⟩
  ·exact ⟨false, [], [], rfl, Own.start [] w2, x_outW .ret [] (x_ret0 [] fun w3 hO3 => ⟨rfl, .inr (hX w2 w3 hx2 (hO3.past 0 []).below)⟩) rfl⟩
end
end Go.Proofs.YtjimgokkpcfgpaaGreatDoor
