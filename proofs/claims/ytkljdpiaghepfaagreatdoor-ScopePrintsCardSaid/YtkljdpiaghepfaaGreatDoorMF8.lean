/-
  What the statement's proof leans on: the ways of walking, n7 mathematics, and what the program's functions return; each theorem says on what conditions.
-/
import Derived.Test.YtkljdpiaghepfaaGreatDoorMF7
set_option maxRecDepth 1000000
set_option maxHeartbeats 8000000
set_option linter.unusedVariables false
set_option linter.unusedSimpArgs false
set_option linter.unnecessarySimpa false
namespace Go.Proofs.YtkljdpiaghepfaaGreatDoor
open Go.RowKit

section
theorem parts_in {c : Co} (h : c.may = true) : (0 ≤ c.parts ∧ c.parts ≤ 3) ∧ (¬ c.op = 9 → 1 ≤ c.parts) ∧ (c.op = 9 → c.parts ≤ 2) ∧ (vH c = 0 ∨ vH c = 1 ∨ vH c = 2 ∨ c.op = 9) := by
  obtain ⟨_, _, _, h9, hn, _⟩ := Co.facts h
  refine ⟨?_, fun e => (hn e).1, fun e => (h9 e).2, ?_⟩
  · by_cases e : c.op = 9
    · have := h9 e; omega
    · have := hn e; omega
  · by_cases e : c.op = 9
    · exact .inr (.inr (.inr e))
    · have := hn e
      unfold vH
      repeat' split
      all_goals omega
theorem cbounds_any (c : Co) (W : World) (hc : c.short) (ho : 1 ≤ c.op ∧ c.op ≤ 9) (hq : (0 ≤ c.parts ∧ c.parts ≤ 3) ∧ (¬ c.op = 9 → 1 ≤ c.parts) ∧ (c.op = 9 → c.parts ≤ 2) ∧ (vH c = 0 ∨ vH c = 1 ∨ vH c = 2 ∨ c.op = 9)) : Calls Tryz.prog 134 #[coV c] W fun e w' => e = .returned (.tuple #[z8 (qG c).1, z8 (qG c).2]) ∧ Below W.heap.size W w' := by
  obtain ⟨hp, hn1, h92, hlk⟩ := hq
  refine Z2 (n := 58) Tryz.func134 rfl (ZO (Zb (coV c) (fun b1 => Za (.agg ZE) (fun b2 => Za (.agg ZE) (fun b3 => ZR (Zv (.agg Z1) (Zv (.agg Z6) ?_)))))))
  refine Za (.agg ZE) (fun b4 => Za (.agg ZE) (fun b5 => Zs 1 ⟨b4, ZE, 78⟩ (off := 0) (.agg Z1) (Zs 0 ⟨b5, ZE, 78⟩ (off := 0) (.agg Z6) (qJ (L' := [⟨b3, ZE, 78⟩, ⟨b2, ZE, 78⟩, ⟨b5, Z6, 78⟩, ⟨b4, Z1, 78⟩, ⟨b1, (coV c).cells, 51⟩]) (fun w hO => hO.perm ((List.perm_append_comm (l₁ := [_, _]) (l₂ := [_, _])).append_right [_])) (ZN (z7 (jS (fun L f => ∃ (p6 p7 : Nat) (j : Nat → Value), L = [⟨p7, (z8 (g7 c)).cells, 78⟩, ⟨p6, (z8 ⟨0, c.v, false⟩).cells, 78⟩, ⟨b3, ZE, 78⟩, ⟨b2, ZE, 78⟩, ⟨b5, Z6, 78⟩, ⟨b4, Z1, 78⟩, ⟨b1, (coV c).cells, 51⟩] ∧ f = xZ j [(1, Zp b1 0), (2, Zp b2 0), (3, Zp b3 0), (4, Zp b4 0), (5, Zp b5 0), (6, Zp p6 0), (7, Zp p7 0)]) ?_ ?_)))))))
  · refine j0 (by kernel_rfl) (ZT 0 [] _ (Zp b1 2) yE rfl (ZL 1 [] _ 4 ⟨b1, (coV c).cells, 51⟩ (off := 2) (.agg (ZP c.v)) yE rfl rfl (ZT 2 [] _ (.agg #[.int .i64 0, .int .i64 c.v.maj, .int .i64 c.v.min, .int .i64 c.v.pat, .string (mkS c.v.pre), .string (mkS c.v.build), .bool false]) yE rfl (ZL 3 [] _ 4 ⟨b1, (coV c).cells, 51⟩ (off := 0) (coV c) yE rfl rfl (h_three 4 5 6 (by kernel_rfl) ?_ ?_ ?_)))))
    · refine Zx [] _ (k := 174) (args := #[coV c]) (z8 (g7 c)) rfl (fun w _ => uN c w hc hp) (uR 5 6 (by kernel_rfl) ?_ ?_)
      · exact Zy [] _ (.agg ZE) rfl rfl (fun b6 => Zz 6 (Zy [⟨b6, ZE, 78⟩] _ (.agg ZE) rfl rfl (fun b7 => Zz 7 (ZS [⟨b7, ZE, 78⟩, ⟨b6, ZE, 78⟩] _ 1 ⟨b6, ZE, 78⟩ (off := 0) (.agg #[.int .i64 0, .int .i64 c.v.maj, .int .i64 c.v.min, .int .i64 c.v.pat, .string (mkS c.v.pre), .string (mkS c.v.build), .bool false]) rfl rfl (Zz 8 (ZS [⟨b7, ZE, 78⟩, ⟨b6, #[.int .i64 0, .int .i64 c.v.maj, .int .i64 c.v.min, .int .i64 c.v.pat, .string (mkS c.v.pre), .string (mkS c.v.build), .bool false], 78⟩] _ 0 ⟨b7, ZE, 78⟩ (off := 0) (z8 (g7 c)) rfl rfl (ZZ (yL ⟨b6, b7, _, rfl, ZU⟩))))))))
      exact Zy [] _ (.agg ZE) rfl rfl (fun b6 => Zz 5 (Zy [⟨b6, ZE, 78⟩] _ (.agg ZE) rfl rfl (fun b7 => Zz 7 (ZS [⟨b7, ZE, 78⟩, ⟨b6, ZE, 78⟩] _ 0 ⟨b7, ZE, 78⟩ (off := 0) (.agg #[.int .i64 0, .int .i64 c.v.maj, .int .i64 c.v.min, .int .i64 c.v.pat, .string (mkS c.v.pre), .string (mkS c.v.build), .bool false]) rfl rfl (Zz 8 (ZS [⟨b7, #[.int .i64 0, .int .i64 c.v.maj, .int .i64 c.v.min, .int .i64 c.v.pat, .string (mkS c.v.pre), .string (mkS c.v.build), .bool false], 78⟩, ⟨b6, ZE, 78⟩] _ 1 ⟨b6, ZE, 78⟩ (off := 0) (z8 (g7 c)) rfl rfl (ZZ (jX (yL ⟨b7, b6, _, rfl, ZU⟩)))))))))
    · refine Zy [] _ (.agg ZE) rfl rfl (fun b6 => uR 4 6 (by kernel_rfl) ?_ ?_)
      · exact Zx [⟨b6, ZE, 78⟩] _ (k := 174) (args := #[coV c]) (z8 (g7 c)) rfl (fun w _ => uN c w hc hp) (Zz 6 (Zy [⟨b6, ZE, 78⟩] _ (.agg ZE) rfl rfl (fun b7 => Zz 7 (ZS [⟨b7, ZE, 78⟩, ⟨b6, ZE, 78⟩] _ 1 ⟨b6, ZE, 78⟩ (off := 0) (.agg #[.int .i64 0, .int .i64 c.v.maj, .int .i64 c.v.min, .int .i64 c.v.pat, .string (mkS c.v.pre), .string (mkS c.v.build), .bool false]) rfl rfl (Zz 8 (ZS [⟨b7, ZE, 78⟩, ⟨b6, #[.int .i64 0, .int .i64 c.v.maj, .int .i64 c.v.min, .int .i64 c.v.pat, .string (mkS c.v.pre), .string (mkS c.v.build), .bool false], 78⟩] _ 0 ⟨b7, ZE, 78⟩ (off := 0) (z8 (g7 c)) rfl rfl (ZZ (yL ⟨b6, b7, _, rfl, ZU⟩))))))))
      exact Zy [⟨b6, ZE, 78⟩] _ (.agg ZE) rfl rfl (fun b7 => Zz 4 (Zx [⟨b7, ZE, 78⟩, ⟨b6, ZE, 78⟩] _ (k := 174) (args := #[coV c]) (z8 (g7 c)) rfl (fun w _ => uN c w hc hp) (Zz 7 (ZS [⟨b7, ZE, 78⟩, ⟨b6, ZE, 78⟩] _ 1 ⟨b6, ZE, 78⟩ (off := 0) (.agg #[.int .i64 0, .int .i64 c.v.maj, .int .i64 c.v.min, .int .i64 c.v.pat, .string (mkS c.v.pre), .string (mkS c.v.build), .bool false]) rfl rfl (Zz 8 (ZS [⟨b7, ZE, 78⟩, ⟨b6, #[.int .i64 0, .int .i64 c.v.maj, .int .i64 c.v.min, .int .i64 c.v.pat, .string (mkS c.v.pre), .string (mkS c.v.build), .bool false], 78⟩] _ 0 ⟨b7, ZE, 78⟩ (off := 0) (z8 (g7 c)) rfl rfl (ZZ (yL ⟨b6, b7, _, rfl, ZU⟩))))))))
    refine Zy [] _ (.agg ZE) rfl rfl (fun b6 => uR 4 5 (by kernel_rfl) ?_ ?_)
    · exact Zx [⟨b6, ZE, 78⟩] _ (k := 174) (args := #[coV c]) (z8 (g7 c)) rfl (fun w _ => uN c w hc hp) (Zz 5 (Zy [⟨b6, ZE, 78⟩] _ (.agg ZE) rfl rfl (fun b7 => Zz 7 (ZS [⟨b7, ZE, 78⟩, ⟨b6, ZE, 78⟩] _ 0 ⟨b7, ZE, 78⟩ (off := 0) (.agg #[.int .i64 0, .int .i64 c.v.maj, .int .i64 c.v.min, .int .i64 c.v.pat, .string (mkS c.v.pre), .string (mkS c.v.build), .bool false]) rfl rfl (Zz 8 (ZS [⟨b7, #[.int .i64 0, .int .i64 c.v.maj, .int .i64 c.v.min, .int .i64 c.v.pat, .string (mkS c.v.pre), .string (mkS c.v.build), .bool false], 78⟩, ⟨b6, ZE, 78⟩] _ 1 ⟨b6, ZE, 78⟩ (off := 0) (z8 (g7 c)) rfl rfl (ZZ (jX (yL ⟨b7, b6, _, rfl, ZU⟩)))))))))
    exact Zy [⟨b6, ZE, 78⟩] _ (.agg ZE) rfl rfl (fun b7 => Zz 4 (Zx [⟨b7, ZE, 78⟩, ⟨b6, ZE, 78⟩] _ (k := 174) (args := #[coV c]) (z8 (g7 c)) rfl (fun w _ => uN c w hc hp) (Zz 7 (ZS [⟨b7, ZE, 78⟩, ⟨b6, ZE, 78⟩] _ 0 ⟨b7, ZE, 78⟩ (off := 0) (.agg #[.int .i64 0, .int .i64 c.v.maj, .int .i64 c.v.min, .int .i64 c.v.pat, .string (mkS c.v.pre), .string (mkS c.v.build), .bool false]) rfl rfl (Zz 8 (ZS [⟨b7, #[.int .i64 0, .int .i64 c.v.maj, .int .i64 c.v.min, .int .i64 c.v.pat, .string (mkS c.v.pre), .string (mkS c.v.build), .bool false], 78⟩, ⟨b6, ZE, 78⟩] _ 1 ⟨b6, ZE, 78⟩ (off := 0) (z8 (g7 c)) rfl rfl (ZZ (jX (yL ⟨b7, b6, _, rfl, ZU⟩)))))))))
  · rintro L f ⟨p6, p7, j, rfl, rfl⟩
    refine xB (L' := [⟨b3, ZE, 78⟩, ⟨b2, ZE, 78⟩, ⟨p7, (z8 (g7 c)).cells, 78⟩, ⟨p6, (z8 ⟨0, c.v, false⟩).cells, 78⟩, ⟨b5, Z6, 78⟩, ⟨b4, Z1, 78⟩, ⟨b1, (coV c).cells, 51⟩]) (fun w hO => hO.perm ((List.perm_append_comm (l₁ := [_, _]) (l₂ := [_, _])).append_right [_, _, _])) (zB (z7 (ZO (Zv (Zp b1 0) (Zl 6 ⟨b1, (coV c).cells, 51⟩ (off := 0) (.int .i64 c.op) (ZN (zM (z7 (zA ?_)))))))))
    by_cases h1 : (c.op : Int) = 3
    · refine Zg h1 (Zv Z4 (ZY (z7 (xE ([⟨p7, (z8 (g7 c)).cells, 78⟩, ⟨p6, (z8 ⟨0, c.v, false⟩).cells, 78⟩, ⟨b5, Z6, 78⟩, ⟨b4, Z1, 78⟩, ⟨b1, (coV c).cells, 51⟩]) (by kernel_rfl) (fun w hO => Own.sub [⟨b3, ZE, 78⟩, ⟨b2, ZE, 78⟩] hO) (ZL 0 [⟨b3, ZE, 78⟩, ⟨b2, ZE, 78⟩] _ 3 ⟨b4, Z1, 78⟩ (off := 0) (.agg Z1) (zD (zI (zD zH))) rfl rfl (ZL 1 [⟨b3, ZE, 78⟩, ⟨b2, ZE, 78⟩] _ 1 ⟨p6, (z8 ⟨0, c.v, false⟩).cells, 78⟩ (off := 0) (z8 ⟨0, c.v, false⟩) (zD (zI (zD zH))) rfl rfl (Zz 2 (ZS [⟨b3, ZE, 78⟩, ⟨b2, ZE, 78⟩] _ 1 ⟨b2, ZE, 78⟩ (off := 0) (.agg Z1) rfl rfl (Zz 3 ?_)))))))))
      exact ZS [⟨b3, ZE, 78⟩, ⟨b2, Z1, 78⟩] _ 0 ⟨b3, ZE, 78⟩ (off := 0) (z8 ⟨0, c.v, false⟩) rfl rfl (ZZ (zB (zC (zG (z6 (ZH 1 0 ⟨b2, Z1, 78⟩ ⟨b3, (z8 ⟨0, c.v, false⟩).cells, 78⟩ (off := 0) (oft := 0) (.agg Z1) (z8 ⟨0, c.v, false⟩) Tryz.results134 (fun w hO => ⟨by rw [show qG c = ((zT (-1)), ⟨0, c.v, false⟩) from by unfold qG; simp [h1]]; try rfl, hO.below⟩)))))))
    refine Zh h1 (Zv Z5 (ZX (z7 (zA ?_))))
    by_cases h2 : (c.op : Int) = 4
    · refine Zg h2 (Zv Z4 (ZY (z7 (xE ([⟨p7, (z8 (g7 c)).cells, 78⟩, ⟨p6, (z8 ⟨0, c.v, false⟩).cells, 78⟩, ⟨b5, Z6, 78⟩, ⟨b4, Z1, 78⟩, ⟨b1, (coV c).cells, 51⟩]) (by kernel_rfl) (fun w hO => Own.sub [⟨b3, ZE, 78⟩, ⟨b2, ZE, 78⟩] hO) (ZL 0 [⟨b3, ZE, 78⟩, ⟨b2, ZE, 78⟩] _ 3 ⟨b4, Z1, 78⟩ (off := 0) (.agg Z1) (zD (zI (zD zH))) rfl rfl (ZL 1 [⟨b3, ZE, 78⟩, ⟨b2, ZE, 78⟩] _ 0 ⟨p7, (z8 (g7 c)).cells, 78⟩ (off := 0) (z8 (g7 c)) (zD (zI (zD zH))) rfl rfl (Zz 2 (ZS [⟨b3, ZE, 78⟩, ⟨b2, ZE, 78⟩] _ 1 ⟨b2, ZE, 78⟩ (off := 0) (.agg Z1) rfl rfl (Zz 3 ?_)))))))))
      exact ZS [⟨b3, ZE, 78⟩, ⟨b2, Z1, 78⟩] _ 0 ⟨b3, ZE, 78⟩ (off := 0) (z8 (g7 c)) rfl rfl (ZZ (zB (zC (zG (z6 (ZH 1 0 ⟨b2, Z1, 78⟩ ⟨b3, (z8 (g7 c)).cells, 78⟩ (off := 0) (oft := 0) (.agg Z1) (z8 (g7 c)) Tryz.results134 (fun w hO => ⟨by rw [show qG c = ((zT (-1)), (g7 c)) from by unfold qG; simp [h1, h2]]; try rfl, hO.below⟩)))))))
    refine Zh h2 (Zv Z5 (ZX (z7 (zA ?_))))
    by_cases h3 : (c.op : Int) = 5
    · refine Zg h3 (Zv Z4 (ZY (z7 (xE ([⟨p7, (z8 (g7 c)).cells, 78⟩, ⟨p6, (z8 ⟨0, c.v, false⟩).cells, 78⟩, ⟨b5, Z6, 78⟩, ⟨b4, Z1, 78⟩, ⟨b1, (coV c).cells, 51⟩]) (by kernel_rfl) (fun w hO => Own.sub [⟨b3, ZE, 78⟩, ⟨b2, ZE, 78⟩] hO) (ZL 0 [⟨b3, ZE, 78⟩, ⟨b2, ZE, 78⟩] _ 0 ⟨p7, (z8 (g7 c)).cells, 78⟩ (off := 0) (z8 (g7 c)) (zD (zI (zD zH))) rfl rfl (ZL 1 [⟨b3, ZE, 78⟩, ⟨b2, ZE, 78⟩] _ 2 ⟨b5, Z6, 78⟩ (off := 0) (.agg Z6) (zD (zI (zD zH))) rfl rfl (Zz 2 (ZS [⟨b3, ZE, 78⟩, ⟨b2, ZE, 78⟩] _ 1 ⟨b2, ZE, 78⟩ (off := 0) (z8 (g7 c)) rfl rfl (Zz 3 ?_)))))))))
      exact ZS [⟨b3, ZE, 78⟩, ⟨b2, (z8 (g7 c)).cells, 78⟩] _ 0 ⟨b3, ZE, 78⟩ (off := 0) (.agg Z6) rfl rfl (ZZ (zB (zC (zG (z6 (ZH 1 0 ⟨b2, (z8 (g7 c)).cells, 78⟩ ⟨b3, Z6, 78⟩ (off := 0) (oft := 0) (z8 (g7 c)) (.agg Z6) Tryz.results134 (fun w hO => ⟨by rw [show qG c = ((g7 c), (zT 1)) from by unfold qG; simp [h1, h2, h3]]; try rfl, hO.below⟩)))))))
    refine Zh h3 (Zv Z5 (ZX (z7 (zA ?_))))
    by_cases h4 : (c.op : Int) = 6
    · refine Zg h4 (Zv Z4 (ZY (z7 (xE ([⟨p7, (z8 (g7 c)).cells, 78⟩, ⟨p6, (z8 ⟨0, c.v, false⟩).cells, 78⟩, ⟨b5, Z6, 78⟩, ⟨b4, Z1, 78⟩, ⟨b1, (coV c).cells, 51⟩]) (by kernel_rfl) (fun w hO => Own.sub [⟨b3, ZE, 78⟩, ⟨b2, ZE, 78⟩] hO) (ZL 0 [⟨b3, ZE, 78⟩, ⟨b2, ZE, 78⟩] _ 1 ⟨p6, (z8 ⟨0, c.v, false⟩).cells, 78⟩ (off := 0) (z8 ⟨0, c.v, false⟩) (zD (zI (zD zH))) rfl rfl (ZL 1 [⟨b3, ZE, 78⟩, ⟨b2, ZE, 78⟩] _ 2 ⟨b5, Z6, 78⟩ (off := 0) (.agg Z6) (zD (zI (zD zH))) rfl rfl (Zz 2 (ZS [⟨b3, ZE, 78⟩, ⟨b2, ZE, 78⟩] _ 1 ⟨b2, ZE, 78⟩ (off := 0) (z8 ⟨0, c.v, false⟩) rfl rfl (Zz 3 ?_)))))))))
      exact ZS [⟨b3, ZE, 78⟩, ⟨b2, (z8 ⟨0, c.v, false⟩).cells, 78⟩] _ 0 ⟨b3, ZE, 78⟩ (off := 0) (.agg Z6) rfl rfl (ZZ (zB (zC (zG (z6 (ZH 1 0 ⟨b2, (z8 ⟨0, c.v, false⟩).cells, 78⟩ ⟨b3, Z6, 78⟩ (off := 0) (oft := 0) (z8 ⟨0, c.v, false⟩) (.agg Z6) Tryz.results134 (fun w hO => ⟨by rw [show qG c = (⟨0, c.v, false⟩, (zT 1)) from by unfold qG; simp [h1, h2, h3, h4]]; try rfl, hO.below⟩)))))))
    refine Zh h4 (Zv Z5 (ZX (z7 (zA ?_))))
    by_cases h5 : (c.op : Int) = 7
    · refine Zg h5 (Zv Z4 (ZY (z7 (xE ([⟨p7, (z8 (g7 c)).cells, 78⟩, ⟨p6, (z8 ⟨0, c.v, false⟩).cells, 78⟩, ⟨b5, Z6, 78⟩, ⟨b4, Z1, 78⟩, ⟨b1, (coV c).cells, 51⟩]) (by kernel_rfl) (fun w hO => Own.sub [⟨b3, ZE, 78⟩, ⟨b2, ZE, 78⟩] hO) (ZL 0 [⟨b3, ZE, 78⟩, ⟨b2, ZE, 78⟩] _ 1 ⟨p6, (z8 ⟨0, c.v, false⟩).cells, 78⟩ (off := 0) (z8 ⟨0, c.v, false⟩) (zD (zI (zD zH))) rfl rfl (ZT 1 [⟨b3, ZE, 78⟩, ⟨b2, ZE, 78⟩] _ (Zp b1 2) (zD (zI (zD zH))) rfl (ZL 2 [⟨b3, ZE, 78⟩, ⟨b2, ZE, 78⟩] _ 4 ⟨b1, (coV c).cells, 51⟩ (off := 2) (.agg (ZP c.v)) (zD (zI (zD zH))) rfl rfl (ZL 3 [⟨b3, ZE, 78⟩, ⟨b2, ZE, 78⟩] _ 4 ⟨b1, (coV c).cells, 51⟩ (off := 0) (coV c) (zD (zI (zD zH))) rfl rfl (Zz 4 ?_)))))))))
      refine Zx [⟨b3, ZE, 78⟩, ⟨b2, ZE, 78⟩] _ (k := 176) (args := #[coV c]) (.int .i64 (vH c)) rfl (fun w _ => clead_any c w hc hp) (Zz 5 (Zx [⟨b3, ZE, 78⟩, ⟨b2, ZE, 78⟩] _ (k := 175) (args := #[.agg (ZP c.v), .int .i64 (vH c)]) (z8 (xW c.v (vH c).toNat)) rfl (fun w _ => vR (by unfold vZ; rw [if_neg (by omega)]) (chigh_any c.v (vH c) w hc (by omega))) (Zz 6 (ZS [⟨b3, ZE, 78⟩, ⟨b2, ZE, 78⟩] _ 1 ⟨b2, ZE, 78⟩ (off := 0) (z8 ⟨0, c.v, false⟩) rfl rfl (Zz 7 (ZS [⟨b3, ZE, 78⟩, ⟨b2, (z8 ⟨0, c.v, false⟩).cells, 78⟩] _ 0 ⟨b3, ZE, 78⟩ (off := 0) (z8 (xW c.v (vH c).toNat)) rfl rfl (ZZ (zB (zC (zG (z6 ?_)))))))))))
      exact ZH 1 0 ⟨b2, (z8 ⟨0, c.v, false⟩).cells, 78⟩ ⟨b3, (z8 (xW c.v (vH c).toNat)).cells, 78⟩ (off := 0) (oft := 0) (z8 ⟨0, c.v, false⟩) (z8 (xW c.v (vH c).toNat)) Tryz.results134 (fun w hO => ⟨by rw [show qG c = (⟨0, c.v, false⟩, (xW c.v (vH c).toNat)) from by unfold qG; simp [h1, h2, h3, h4, h5]]; try rfl, hO.below⟩)
    refine Zh h5 (Zv Z5 (ZX (z7 (zA ?_))))
    by_cases h6 : (c.op : Int) = 8
    · refine Zg h6 (Zv Z4 (ZY (z7 (xE ([⟨p7, (z8 (g7 c)).cells, 78⟩, ⟨p6, (z8 ⟨0, c.v, false⟩).cells, 78⟩, ⟨b5, Z6, 78⟩, ⟨b4, Z1, 78⟩, ⟨b1, (coV c).cells, 51⟩]) (by kernel_rfl) (fun w hO => Own.sub [⟨b3, ZE, 78⟩, ⟨b2, ZE, 78⟩] hO) (ZL 0 [⟨b3, ZE, 78⟩, ⟨b2, ZE, 78⟩] _ 1 ⟨p6, (z8 ⟨0, c.v, false⟩).cells, 78⟩ (off := 0) (z8 ⟨0, c.v, false⟩) (zD (zI (zD zH))) rfl rfl (ZT 1 [⟨b3, ZE, 78⟩, ⟨b2, ZE, 78⟩] _ (Zp b1 2) (zD (zI (zD zH))) rfl (ZL 2 [⟨b3, ZE, 78⟩, ⟨b2, ZE, 78⟩] _ 4 ⟨b1, (coV c).cells, 51⟩ (off := 2) (.agg (ZP c.v)) (zD (zI (zD zH))) rfl rfl (ZT 3 [⟨b3, ZE, 78⟩, ⟨b2, ZE, 78⟩] _ (Zp b1 1) (zD (zI (zD zH))) rfl (ZL 4 [⟨b3, ZE, 78⟩, ⟨b2, ZE, 78⟩] _ 4 ⟨b1, (coV c).cells, 51⟩ (off := 1) (.int .i64 c.parts) (zD (zI (zD zH))) rfl rfl ?_)))))))))
      refine hl_sum (k := .i64) 5 _ ((c.parts : Int) - 1) rfl (by kernel_rfl) (by kernel_rfl) (by kernel_rfl) (zD (zI (zD zH))) (fun w hO => Own.sub [⟨b3, ZE, 78⟩, ⟨b2, ZE, 78⟩] hO) (by kernel_rfl) (fun _ => by kernel_rfl) (IntWalk.i64_in _ (by omega)) (vS 6 [⟨b3, ZE, 78⟩, ⟨b2, ZE, 78⟩] _ (.int .i64 (min ((c.parts : Int) - 1) (1 : Int))) rfl (by kernel_rfl) (by kernel_rfl) (by kernel_rfl) (zD (zI (zD zH))) (by kernel_rfl) (fun w _ => run_min2 (k := .i64) (q := .i64) (i := (c.parts : Int) - 1) (j := 1) rfl (by kernel_rfl) (by kernel_rfl) w) (Zz 7 (Zx [⟨b3, ZE, 78⟩, ⟨b2, ZE, 78⟩] _ (k := 175) (args := #[.agg (ZP c.v), .int .i64 (min ((c.parts : Int) - 1) (1 : Int))]) (z8 (xW c.v (min (c.parts - 1) 1).toNat)) rfl (fun w _ => vR (by unfold vZ; rw [if_neg (by omega)]) (chigh_any c.v (min ((c.parts : Int) - 1) (1 : Int)) w hc (by omega))) (Zz 8 (ZS [⟨b3, ZE, 78⟩, ⟨b2, ZE, 78⟩] _ 1 ⟨b2, ZE, 78⟩ (off := 0) (z8 ⟨0, c.v, false⟩) rfl rfl (Zz 9 (ZS [⟨b3, ZE, 78⟩, ⟨b2, (z8 ⟨0, c.v, false⟩).cells, 78⟩] _ 0 ⟨b3, ZE, 78⟩ (off := 0) (z8 (xW c.v (min (c.parts - 1) 1).toNat)) rfl rfl (ZZ (zB (zC (zG ?_)))))))))))
      exact z6 (ZH 1 0 ⟨b2, (z8 ⟨0, c.v, false⟩).cells, 78⟩ ⟨b3, (z8 (xW c.v (min (c.parts - 1) 1).toNat)).cells, 78⟩ (off := 0) (oft := 0) (z8 ⟨0, c.v, false⟩) (z8 (xW c.v (min (c.parts - 1) 1).toNat)) Tryz.results134 (fun w hO => ⟨by rw [show qG c = (⟨0, c.v, false⟩, (xW c.v (min (c.parts - 1) 1).toNat)) from by unfold qG; simp [h1, h2, h3, h4, h5, h6]]; try rfl, hO.below⟩))
    refine Zh h6 (Zv Z5 (ZX (yP (zP (zB (z7 (ZO (Zv (Zp b1 1) ?_))))))))
    refine Zl 6 ⟨b1, (coV c).cells, 51⟩ (off := 1) (.int .i64 c.parts) ?_
    by_cases h7 : (c.parts : Int) = 0
    · refine Zg h7 (ZY (z7 (xE ([⟨p7, (z8 (g7 c)).cells, 78⟩, ⟨p6, (z8 ⟨0, c.v, false⟩).cells, 78⟩, ⟨b5, Z6, 78⟩, ⟨b4, Z1, 78⟩, ⟨b1, (coV c).cells, 51⟩]) (by kernel_rfl) (fun w hO => Own.sub [⟨b3, ZE, 78⟩, ⟨b2, ZE, 78⟩] hO) (ZL 0 [⟨b3, ZE, 78⟩, ⟨b2, ZE, 78⟩] _ 3 ⟨b4, Z1, 78⟩ (off := 0) (.agg Z1) (zD (zD zH)) rfl rfl (ZL 1 [⟨b3, ZE, 78⟩, ⟨b2, ZE, 78⟩] _ 2 ⟨b5, Z6, 78⟩ (off := 0) (.agg Z6) (zD (zD zH)) rfl rfl (Zz 2 (ZS [⟨b3, ZE, 78⟩, ⟨b2, ZE, 78⟩] _ 1 ⟨b2, ZE, 78⟩ (off := 0) (.agg Z1) rfl rfl (Zz 3 (ZS [⟨b3, ZE, 78⟩, ⟨b2, Z1, 78⟩] _ 0 ⟨b3, ZE, 78⟩ (off := 0) (.agg Z6) rfl rfl ?_)))))))))
      exact ZZ (zB (zC (z6 (ZH 1 0 ⟨b2, Z1, 78⟩ ⟨b3, Z6, 78⟩ (off := 0) (oft := 0) (.agg Z1) (.agg Z6) Tryz.results134 (fun w hO => ⟨by rw [show qG c = ((zT (-1)), (zT 1)) from by unfold qG; simp [h1, h2, h3, h4, h5, h6, h7]]; try rfl, hO.below⟩)))))
    refine Zh h7 (ZX (ZB (z7 (xE ([⟨p7, (z8 (g7 c)).cells, 78⟩, ⟨p6, (z8 ⟨0, c.v, false⟩).cells, 78⟩, ⟨b5, Z6, 78⟩, ⟨b4, Z1, 78⟩, ⟨b1, (coV c).cells, 51⟩]) (by kernel_rfl) (fun w hO => Own.sub [⟨b3, ZE, 78⟩, ⟨b2, ZE, 78⟩] hO) (ZL 0 [⟨b3, ZE, 78⟩, ⟨b2, ZE, 78⟩] _ 1 ⟨p6, (z8 ⟨0, c.v, false⟩).cells, 78⟩ (off := 0) (z8 ⟨0, c.v, false⟩) (zD zH) rfl rfl (ZL 1 [⟨b3, ZE, 78⟩, ⟨b2, ZE, 78⟩] _ 0 ⟨p7, (z8 (g7 c)).cells, 78⟩ (off := 0) (z8 (g7 c)) (zD zH) rfl rfl (Zz 2 (ZS [⟨b3, ZE, 78⟩, ⟨b2, ZE, 78⟩] _ 1 ⟨b2, ZE, 78⟩ (off := 0) (z8 ⟨0, c.v, false⟩) rfl rfl ?_))))))))
    exact Zz 3 (ZS [⟨b3, ZE, 78⟩, ⟨b2, (z8 ⟨0, c.v, false⟩).cells, 78⟩] _ 0 ⟨b3, ZE, 78⟩ (off := 0) (z8 (g7 c)) rfl rfl (ZZ (zB (zC (ZH 1 0 ⟨b2, (z8 ⟨0, c.v, false⟩).cells, 78⟩ ⟨b3, (z8 (g7 c)).cells, 78⟩ (off := 0) (oft := 0) (z8 ⟨0, c.v, false⟩) (z8 (g7 c)) Tryz.results134 (fun w hO => ⟨by rw [show qG c = (⟨0, c.v, false⟩, (g7 c)) from by unfold qG; simp [h1, h2, h3, h4, h5, h6, h7]]; try rfl, hO.below⟩))))))
theorem one_row {lo hi : Cu} : (if xO [⟨lo, hi⟩] then vX [⟨lo, hi⟩] else []) = kI lo hi := by
  rw [qL]
  by_cases h : zQ lo hi < 0
  · have hm := wA h
    rw [if_pos h, if_pos (show xO [⟨lo, hi⟩] = true from allMay_mem.2 fun s hs => by rw [List.mem_singleton.1 hs]; exact hm)]
    exact make_self (show zL [⟨lo, hi⟩] = true from hm)
  · rw [if_neg h, if_neg (fun q => h (uQ (allMay_mem.1 q _ (List.mem_singleton.2 rfl))))]
theorem f9 (lo hi : Cu) (W : World) (hl : lo.short) (hh : hi.short) : Calls Tryz.prog 133 #[z8 lo, z8 hi] W fun e w' => ∃ v' ob', e = .returned v' ∧ SlS v' (kI lo hi) ob' ∧ Own [] W w' ob' := by
  refine Z2 (n := 16) Tryz.func133 rfl (ZO (Zb (z8 lo) (fun b1 => Zb (z8 hi) (fun b2 => Zv (.slice none 0 0) (ZR (Zl 1 ⟨b1, (z8 lo).cells, 78⟩ (off := 0) (z8 lo) (Zl 0 ⟨b2, (z8 hi).cells, 78⟩ (off := 0) (z8 hi) ?_)))))))
  refine Zv (.agg (ZJ2 lo hi)) (vC 80 (ZJ2 lo hi) (by kernel_rfl) rfl (fun _ => by kernel_rfl) (fun b3 => Zr (k := 136) (args := #[.slice (some ⟨b3, 0, none⟩) 1 1]) (fun v' L' => ∃ mv ob', v' = .tuple #[mv, .bool (xO [⟨lo, hi⟩])] ∧ L' = ob' ++ ([⟨b3, (ZJ2 lo hi), 80⟩, ⟨b2, (z8 hi).cells, 78⟩, ⟨b1, (z8 lo).cells, 78⟩]) ∧ SlS mv (kI lo hi) ob') (fun w hO => (mJ (some ⟨b3, 0, none⟩) 1 [⟨lo, hi⟩] w (Sl.reads (slit6 ⟨lo, hi⟩ b3 (ZJ2 lo hi) (by kernel_rfl)) rfl hO (fun x hx => by rw [List.mem_singleton.1 hx]; exact List.mem_cons_self)) (by show 1 ≤ _; decide) (fun s hs => by rw [List.mem_singleton.1 hs]; exact ⟨hl, hh⟩)).mono fun e w' ⟨v', ob', k1, k2, k3⟩ => ⟨_, _, k1, ⟨v', ob', rfl, rfl, by rw [one_row] at k2; exact k2⟩, Own.joinN hO k3⟩) (fun tv L2 hv2 => ?_)))
  obtain ⟨v2, o2, rfl, rfl, hr2⟩ := hv2
  refine Zv (.tuple #[v2, .bool (xO [⟨lo, hi⟩])]) (Zv (v2) (Zv (.bool (xO [⟨lo, hi⟩])) (Zv (v2) (Zv (.bool (xO [⟨lo, hi⟩])) (ZR (Zv (v2) (Zv (v2) (zO ?_))))))))
  exact zB (zC (ZF (v2) Tryz.results133 (fun w hO => ⟨v2, o2, rfl, hr2, hO.sublist (List.sublist_append_left _ _)⟩)))
theorem oneRow_len6 (lo hi : Cu) : (kI lo hi).length ≤ 1 := by have := mS [] lo hi; simpa [kI] using this
theorem oneRow_short6 {lo hi : Cu} (hl : lo.short) (hh : hi.short) : yU (kI lo hi) := fun s hs => by
  rw [qL] at hs
  split at hs
  · rw [List.mem_singleton.1 hs]; exact ⟨hl, hh⟩
  · cases hs
theorem cRegion_any (c : Co) (W : World) (hc : c.short) : Calls Tryz.prog 82 #[coV c] W fun e w' => ∃ v' ob', e = .returned v' ∧ SlS v' c.region ob' ∧ Own [] W w' ob' := by
  have hs1 := (dO hc).1
  have hs2 := (dO hc).2
  refine Z2 (n := 18) Tryz.func82 rfl (ZO (Zb (coV c) (fun b1 => Zv (.slice none 0 0) (ZN (z7 (ZO (Zl 0 ⟨b1, (coV c).cells, 51⟩ (off := 0) (coV c) (Zc (k := 73) (args := #[coV c]) (.bool c.may) (fun w _ => tL c w hc) ?_))))))))
  cases h1 : c.may with
  | true =>
    refine Zv Z5 (ZX (ZB (ZO (Zl 0 ⟨b1, (coV c).cells, 51⟩ (off := 0) (coV c) (Zc (k := 134) (args := #[coV c]) (.tuple #[z8 c.span.1, z8 c.span.2]) (fun w _ => vR (by rw [bound_span h1]) (cbounds_any c w hc (Co.facts h1).1 (parts_in h1))) (Zv (z8 c.span.1) (Zv (z8 c.span.2) ?_)))))))
    refine Zr (k := 133) (args := #[z8 c.span.1, z8 c.span.2]) (fun v' L' => ∃ ob', L' = ob' ++ ([⟨b1, (coV c).cells, 51⟩]) ∧ SlS v' (kI c.span.1 c.span.2) ob') (fun w hO => (f9 c.span.1 c.span.2 w hs1 hs2).mono fun e w' ⟨v', ob', k1, k2, k3⟩ => ⟨v', _, k1, ⟨ob', rfl, k2⟩, Own.joinN hO k3⟩) (fun v1 L1 hv1 => ?_)
    obtain ⟨o1, rfl, hr1⟩ := hv1
    obtain ⟨V1, c1, rfl⟩ := hr1.form
    refine Zv (.slice V1 ((kI c.span.1 c.span.2).length) c1) (ZN (z7 (ZO (Zv (Zp b1 0) (pT ⟨b1, (coV c).cells, 51⟩ (off := 0) (.int .i64 c.op) (by kernel_rfl) rfl (by simp) (by kernel_rfl) (by kernel_rfl) ?_)))))
    by_cases h2 : (c.op : Int) = 2
    · refine Zg h2 (ZY (ZO (Zv (.slice V1 ((kI c.span.1 c.span.2).length) c1) (Zr (k := 135) (args := #[.slice V1 (kI c.span.1 c.span.2).length c1]) (fun v' L' => ∃ ob', L' = ob' ++ (o1 ++ ([⟨b1, (coV c).cells, 51⟩])) ∧ SlS v' (v8 (kI c.span.1 c.span.2)) ob') (fun w hO => (not4_any V1 c1 (kI c.span.1 c.span.2) w (Sl.reads hr1 rfl hO (fun x hx => by simp [hx])) (Nat.le_trans (oneRow_len6 _ _) (by decide)) (oneRow_short6 hs1 hs2)).mono fun e w' ⟨v', ob', k1, k2, k3⟩ => ⟨v', _, k1, ⟨ob', rfl, by rw [if_pos (oneRow_may _ _)] at k2; exact k2⟩, Own.joinN hO k3⟩) (fun v3 L3 hv3 => ?_)))))
      obtain ⟨o3, rfl, hr3⟩ := hv3
      exact Zv (v3) (ZN (zC (z6 (ZF (v3) Tryz.results82 (fun w hO => ⟨v3, o3, rfl, by rw [show c.region = v8 (kI c.span.1 c.span.2) from by unfold Co.region; rw [if_pos (by assumption), if_pos h2]]; exact hr3, hO.sublist (List.sublist_append_left _ _)⟩)))))
    refine Zh h2 (ZX (ZB (ZO (Zv (.slice V1 ((kI c.span.1 c.span.2).length) c1) (Zv (.slice V1 ((kI c.span.1 c.span.2).length) c1) (zO (zB ?_)))))))
    exact zC (ZF (.slice V1 ((kI c.span.1 c.span.2).length) c1) Tryz.results82 (fun w hO => ⟨_, o1, rfl, by rw [show c.region = kI c.span.1 c.span.2 from by unfold Co.region; rw [if_pos (by assumption), if_neg h2]]; exact hr1, hO.sublist (List.sublist_append_left _ _)⟩))
  | false =>
    refine Zv Z4 (ZY (ZO (Zv (.slice none 0 0) (ZN (zC (z6 (ZF (.slice none 0 0) Tryz.results82 ?_)))))))
    exact fun w hO => ⟨_, [], rfl, by rw [show c.region = [] from by unfold Co.region; simp [h1]]; exact Sl.nil _ _, kK hO⟩
theorem zone_one {c : Co} (h : c.may = true) (hp : ¬ c.v.pre = []) : c.zone = kI ⟨0, { c.v with pre := [48] }, false⟩ ⟨0, { c.v with pre := [] }, false⟩ := by
  have hb := (Co.facts h).2.2.1
  have hz : c.zone = [⟨⟨0, { c.v with pre := [48], build := [] }, false⟩, ⟨0, { c.v with pre := [], build := [] }, false⟩⟩] := by
    unfold Co.zone
    rw [h, decide_eq_false hp]; rfl
  have hm : zL c.zone = true := zone_may
  have e1 : ({ c.v with pre := [48] } : Ver) = { c.v with pre := [48], build := [] } := by rw [← hb]
  have e2 : ({ c.v with pre := [] } : Ver) = { c.v with pre := [], build := [] } := by rw [← hb]
  rw [e1, e2, qL]
  rw [hz] at hm ⊢
  rw [if_pos (uQ (show Sp.may _ = true from x8 hm _ (List.mem_singleton.2 rfl)))]
theorem cZone_any (c : Co) (W : World) (hc : c.short) : Calls Tryz.prog 84 #[coV c] W fun e w' => ∃ v' ob', e = .returned v' ∧ SlS v' c.zone ob' ∧ Own [] W w' ob' := by
  have hl1 : (⟨0, { c.v with pre := [48] }, false⟩ : Cu).short := ⟨by show ([48] : List UInt8).length ≤ _; decide, hc.2⟩
  have hb1 : (⟨0, { c.v with pre := [] }, false⟩ : Cu).short := ⟨Nat.zero_le _, hc.2⟩
  refine Z2 (n := 25) Tryz.func84 rfl (ZO (Zb (coV c) (fun b1 => Zv (.slice none 0 0) (ZN (z7 (ZO (Zl 0 ⟨b1, (coV c).cells, 51⟩ (off := 0) (coV c) (Zc (k := 73) (args := #[coV c]) (.bool c.may) (fun w _ => tL c w hc) ?_))))))))
  cases h1 : c.may with
  | true =>
    refine Zv Z5 (Zv Z5 (Zv (Zp b1 2) (Zv (Zp b1 5) (Zl 0 ⟨b1, (coV c).cells, 51⟩ (off := 5) (.string (mkS c.v.pre)) ?_))))
    by_cases h2 : (c.v.pre : List UInt8) = []
    · refine zV Z4 (by kernel_rfl) (yM (a := c.v.pre) (b := ([])) rfl (by kernel_rfl) (by kernel_rfl) (decide_eq_true (h2))) (Zv Z4 (ZY (ZO (Zv (.slice none 0 0) (ZN (zC (z6 ?_)))))))
      exact ZF (.slice none 0 0) Tryz.results84 (fun w hO => ⟨_, [], rfl, by rw [show c.zone = [] from by unfold Co.zone; simp [h1, h2]]; exact Sl.nil _ _, kK hO⟩)
    refine zV Z5 (by kernel_rfl) (yM (a := c.v.pre) (b := ([])) rfl (by kernel_rfl) (by kernel_rfl) (decide_eq_false (h2))) (Zv Z5 (ZX (ZB (z7 (j0 (by kernel_rfl) (ZT 0 [] _ (Zp b1 2) (zD zH) rfl (ZL 1 [] _ 0 ⟨b1, (coV c).cells, 51⟩ (off := 2) (.agg (ZP c.v)) (zD zH) rfl rfl (ZT 2 [] _ (Zp b1 2) (zD zH) rfl ?_))))))))
    refine ZL 3 [] _ 0 ⟨b1, (coV c).cells, 51⟩ (off := 2) (.agg (ZP c.v)) (zD zH) rfl rfl (uR 4 5 (by kernel_rfl) ?_ ?_)
    · refine Zy [] _ (.agg Z7) rfl rfl (fun b2 => Zz 5 (Zy [⟨b2, Z7, 44⟩] _ (.agg Z7) rfl rfl (fun b3 => Zz 6 (ZS [⟨b3, Z7, 44⟩, ⟨b2, Z7, 44⟩] _ 1 ⟨b2, Z7, 44⟩ (off := 0) (.agg (ZP c.v)) rfl rfl (Zz 7 (ZS [⟨b3, Z7, 44⟩, ⟨b2, (ZP c.v), 44⟩] _ 0 ⟨b3, Z7, 44⟩ (off := 0) (.agg (ZP c.v)) rfl rfl (ZZ (zB (ZO (Zv (Zp b2 3) ?_))))))))))
      refine Zs 1 ⟨b2, (ZP c.v), 44⟩ (off := 3) (.string ⟨#[48]⟩) (Zv (Zp b3 3) (Zs 0 ⟨b3, (ZP c.v), 44⟩ (off := 3) (.string ⟨#[]⟩) (ZR (Zl 1 ⟨b2, #[.int .i64 c.v.maj, .int .i64 c.v.min, .int .i64 c.v.pat, .string ⟨#[48]⟩, .string (mkS c.v.build)], 44⟩ (off := 0) (.agg #[.int .i64 c.v.maj, .int .i64 c.v.min, .int .i64 c.v.pat, .string ⟨#[48]⟩, .string (mkS c.v.build)]) (Zv (.agg #[.int .i64 0, .int .i64 c.v.maj, .int .i64 c.v.min, .int .i64 c.v.pat, .string ⟨#[48]⟩, .string (mkS c.v.build), .bool false]) (Zl 0 ⟨b3, #[.int .i64 c.v.maj, .int .i64 c.v.min, .int .i64 c.v.pat, .string ⟨#[]⟩, .string (mkS c.v.build)], 44⟩ (off := 0) (.agg #[.int .i64 c.v.maj, .int .i64 c.v.min, .int .i64 c.v.pat, .string ⟨#[]⟩, .string (mkS c.v.build)]) (Zv (.agg #[.int .i64 0, .int .i64 c.v.maj, .int .i64 c.v.min, .int .i64 c.v.pat, .string ⟨#[]⟩, .string (mkS c.v.build), .bool false]) (Zr (k := 133) (args := #[.agg #[.int .i64 0, .int .i64 c.v.maj, .int .i64 c.v.min, .int .i64 c.v.pat, .string ⟨#[48]⟩, .string (mkS c.v.build), .bool false], .agg #[.int .i64 0, .int .i64 c.v.maj, .int .i64 c.v.min, .int .i64 c.v.pat, .string ⟨#[]⟩, .string (mkS c.v.build), .bool false]]) (fun v' L' => ∃ ob', L' = ob' ++ ([⟨b3, #[.int .i64 c.v.maj, .int .i64 c.v.min, .int .i64 c.v.pat, .string ⟨#[]⟩, .string (mkS c.v.build)], 44⟩, ⟨b2, #[.int .i64 c.v.maj, .int .i64 c.v.min, .int .i64 c.v.pat, .string ⟨#[48]⟩, .string (mkS c.v.build)], 44⟩, ⟨b1, (coV c).cells, 51⟩]) ∧ SlS v' (kI (⟨0, { c.v with pre := [48] }, false⟩) (⟨0, { c.v with pre := [] }, false⟩)) ob') (fun w hO => (f9 (⟨0, { c.v with pre := [48] }, false⟩) (⟨0, { c.v with pre := [] }, false⟩) w hl1 hb1).mono fun e w' ⟨v', ob', k1, k2, k3⟩ => ⟨v', _, k1, ⟨ob', rfl, k2⟩, Own.joinN hO k3⟩) (fun v1 L1 hv1 => ?_)))))))))
      obtain ⟨o1, rfl, hr1⟩ := hv1
      obtain ⟨V1, c1, rfl⟩ := hr1.form
      exact Zv (.slice V1 ((kI (⟨0, { c.v with pre := [48] }, false⟩) (⟨0, { c.v with pre := [] }, false⟩)).length) c1) (ZN (zC (ZF (.slice V1 ((kI (⟨0, { c.v with pre := [48] }, false⟩) (⟨0, { c.v with pre := [] }, false⟩)).length) c1) Tryz.results84 (fun w hO => ⟨_, o1, rfl, by rw [zone_one h1 h2]; exact hr1, hO.sublist (List.sublist_append_left _ _)⟩))))
    refine Zy [] _ (.agg Z7) rfl rfl (fun b2 => Zz 4 (Zy [⟨b2, Z7, 44⟩] _ (.agg Z7) rfl rfl (fun b3 => Zz 6 (ZS [⟨b3, Z7, 44⟩, ⟨b2, Z7, 44⟩] _ 0 ⟨b3, Z7, 44⟩ (off := 0) (.agg (ZP c.v)) rfl rfl (Zz 7 (ZS [⟨b3, (ZP c.v), 44⟩, ⟨b2, Z7, 44⟩] _ 1 ⟨b2, Z7, 44⟩ (off := 0) (.agg (ZP c.v)) rfl rfl (ZZ (zB (ZO (Zv (Zp b3 3) ?_))))))))))
    refine Zs 0 ⟨b3, (ZP c.v), 44⟩ (off := 3) (.string ⟨#[48]⟩) (Zv (Zp b2 3) (Zs 1 ⟨b2, (ZP c.v), 44⟩ (off := 3) (.string ⟨#[]⟩) (ZR (Zl 0 ⟨b3, #[.int .i64 c.v.maj, .int .i64 c.v.min, .int .i64 c.v.pat, .string ⟨#[48]⟩, .string (mkS c.v.build)], 44⟩ (off := 0) (.agg #[.int .i64 c.v.maj, .int .i64 c.v.min, .int .i64 c.v.pat, .string ⟨#[48]⟩, .string (mkS c.v.build)]) (Zv (.agg #[.int .i64 0, .int .i64 c.v.maj, .int .i64 c.v.min, .int .i64 c.v.pat, .string ⟨#[48]⟩, .string (mkS c.v.build), .bool false]) (Zl 1 ⟨b2, #[.int .i64 c.v.maj, .int .i64 c.v.min, .int .i64 c.v.pat, .string ⟨#[]⟩, .string (mkS c.v.build)], 44⟩ (off := 0) (.agg #[.int .i64 c.v.maj, .int .i64 c.v.min, .int .i64 c.v.pat, .string ⟨#[]⟩, .string (mkS c.v.build)]) (Zv (.agg #[.int .i64 0, .int .i64 c.v.maj, .int .i64 c.v.min, .int .i64 c.v.pat, .string ⟨#[]⟩, .string (mkS c.v.build), .bool false]) (Zr (k := 133) (args := #[.agg #[.int .i64 0, .int .i64 c.v.maj, .int .i64 c.v.min, .int .i64 c.v.pat, .string ⟨#[48]⟩, .string (mkS c.v.build), .bool false], .agg #[.int .i64 0, .int .i64 c.v.maj, .int .i64 c.v.min, .int .i64 c.v.pat, .string ⟨#[]⟩, .string (mkS c.v.build), .bool false]]) (fun v' L' => ∃ ob', L' = ob' ++ ([⟨b3, #[.int .i64 c.v.maj, .int .i64 c.v.min, .int .i64 c.v.pat, .string ⟨#[48]⟩, .string (mkS c.v.build)], 44⟩, ⟨b2, #[.int .i64 c.v.maj, .int .i64 c.v.min, .int .i64 c.v.pat, .string ⟨#[]⟩, .string (mkS c.v.build)], 44⟩, ⟨b1, (coV c).cells, 51⟩]) ∧ SlS v' (kI (⟨0, { c.v with pre := [48] }, false⟩) (⟨0, { c.v with pre := [] }, false⟩)) ob') (fun w hO => (f9 (⟨0, { c.v with pre := [48] }, false⟩) (⟨0, { c.v with pre := [] }, false⟩) w hl1 hb1).mono fun e w' ⟨v', ob', k1, k2, k3⟩ => ⟨v', _, k1, ⟨ob', rfl, k2⟩, Own.joinN hO k3⟩) (fun v1 L1 hv1 => ?_)))))))))
    obtain ⟨o1, rfl, hr1⟩ := hv1
    obtain ⟨V1, c1, rfl⟩ := hr1.form
    exact Zv (.slice V1 ((kI (⟨0, { c.v with pre := [48] }, false⟩) (⟨0, { c.v with pre := [] }, false⟩)).length) c1) (ZN (zC (ZF (.slice V1 ((kI (⟨0, { c.v with pre := [48] }, false⟩) (⟨0, { c.v with pre := [] }, false⟩)).length) c1) Tryz.results84 (fun w hO => ⟨_, o1, rfl, by rw [zone_one h1 h2]; exact hr1, hO.sublist (List.sublist_append_left _ _)⟩))))
  | false =>
    refine Zv Z4 (Zv Z4 (Zk (Zk (Zk (Zk (Zv Z4 (ZY (z7 (zA ?_)))))))))
    exact Zv (.slice none 0 0) (ZN (zC (z6 (ZF (.slice none 0 0) Tryz.results84 (fun w hO => ⟨_, [], rfl, by rw [show c.zone = [] from by unfold Co.zone; simp [h1]]; exact Sl.nil _ _, kK hO⟩)))))
end
section
theorem last_pl {l : List (List UInt8)} (h : 1 ≤ l.length) {x : List UInt8} (hx : tg l (l.length - 1) = x) : l.getLast? = some x := by
  rw [List.getLast?_eq_getElem?, List.getElem?_eq_getElem (by omega), pN (by omega), hx]
theorem guess_is {s r ah tl : List UInt8} {op : Int} {pl : List (List UInt8)} (h1 : (sgo s 8).1 = op) (h2 : (sgo s 8).2 = r) (h3 : (yG 45 r).1 = ah) (h4 : (yG 45 r).2.1 = tl) (h5 : uJ 2 ah = pl) {x : List UInt8} (hx : tg pl (pl.length - 1) = x) (hl : 1 ≤ pl.length) :
    vT s = if x = [42] then (⟨9, ((pl.length : Int) - 1), ⟨zR (tg pl 0), zR (tg pl 1), zR (tg pl 2), tl, []⟩⟩ : Co) else (⟨op, (pl.length : Int), ⟨zR (tg pl 0), zR (tg pl 1), zR (tg pl 2), tl, []⟩⟩ : Co) := by
  have hp : uE s = pl := by unfold uE; rw [h2, h3, h5]
  unfold vT starP
  rw [hp, h2, h4, h1, last_pl hl hx]
  by_cases q : x = [42]
  · rw [if_pos q, q, decide_eq_true rfl]; rfl
  · rw [if_neg q, decide_eq_false (fun e => q (Option.some.inj e))]; rfl
theorem fit_or {s pt : List UInt8} {c : Co} (hg : vT s = c) (hp : c.print = pt) (h : pt = s ∨ pt = [94] ++ s) : pcV s = c ∧ pcE s = 0 := by
  have h2 := prog_some (s := s) (by rw [hg, hp]; exact h)
  rw [hg] at h2
  exact pc_some h2
theorem fit_no {s pt : List UInt8} {c : Co} (hg : vT s = c) (hp : c.print = pt) (h1 : ¬ pt = s) (h2 : ¬ pt = [94] ++ s) : pcV s = ⟨0, 0, Ver.zero⟩ ∧ pcE s = 6 :=
  pc_none (prog_none (by rw [hg, hp]; exact fun q => q.elim h1 h2))
theorem cParse_any (s : List UInt8) (W : World) (hs : s.length ≤ 1000000) (ht : HasTab W) : Calls Tryz.prog 37 #[.string (mkS s)] W fun e w' => e = .returned (.tuple #[coV (pcV s), .int .i64 (pcE s)]) ∧ Below W.heap.size W w' := by
  obtain ⟨op, hop⟩ : ∃ x, (sgo s 8).1 = x := ⟨_, rfl⟩
  obtain ⟨r, hr⟩ : ∃ x, (sgo s 8).2 = x := ⟨_, rfl⟩
  obtain ⟨ah, hah⟩ : ∃ x, (yG 45 r).1 = x := ⟨_, rfl⟩
  obtain ⟨tl, htl⟩ : ∃ x, (yG 45 r).2.1 = x := ⟨_, rfl⟩
  obtain ⟨fd, hfd⟩ : ∃ x, (yG 45 r).2.2 = x := ⟨_, rfl⟩
  obtain ⟨pl, hpl⟩ : ∃ x, uJ 2 ah = x := ⟨_, rfl⟩
  have hrl : r.length ≤ s.length := hr ▸ sgo_le s 8
  have hal : ah.length + tl.length ≤ r.length := by rw [← hah, ← htl]; exact cutAt_le 45 r
  obtain ⟨hp1, hp3⟩ : 1 ≤ pl.length ∧ pl.length ≤ 3 := hpl ▸ pcsK_len 2 ah
  have htp : ∀ i, (tg pl i).length ≤ 1000000 := fun i => tg_short (fun x hx => by rw [← hpl] at hx; exact Nat.le_trans (pcsK_mem 2 ah x hx) (by omega)) i
  refine Z2 (n := 84) Tryz.func37 rfl (ZO (Za (.agg Z8) (fun b1 => Zv (.int .i64 0) (ZR (Zv (.string (mkS s)) (Zc (k := 60) (args := #[.string (mkS s)]) (.tuple #[.int .i64 op, .string (mkS r)]) (fun w _ => vR (by rw [hop, hr]) (ccut_any s w hs)) (Zv (.tuple #[.int .i64 op, .string (mkS r)]) ?_)))))))
  refine Zv (.int .i64 op) (Zv (.string (mkS r)) (Zv (.int .i64 op) (Zv (.string (mkS r)) (ZR (Zv (.string (mkS r)) (Zc (k := 61) (args := #[.string (mkS r), .string ⟨#[45]⟩]) (.tuple #[.string (mkS ah), .string (mkS tl), .bool fd]) (fun w _ => vR (by rw [hah, htl, hfd]) (cutb_any r 45 w (by omega))) (Zv (.tuple #[.string (mkS ah), .string (mkS tl), .bool fd]) (Zv (.string (mkS ah)) ?_))))))))
  refine Zv (.string (mkS tl)) (Zv (.bool fd) (Zv (.string (mkS ah)) (Zv (.string (mkS tl)) (Zv (.bool fd) (ZR (Za (.agg #[.int .i64 0, .int .i64 0, .int .i64 0]) (fun b2 => zO (zB ?_))))))))
  refine ZO (Zv (.string (mkS ah)) (Zr (k := 62) (args := #[.string (mkS ah), .string ⟨#[46]⟩, .int .i64 3]) (fun v' L' => ∃ ob', L' = ob' ++ ([⟨b2, #[.int .i64 0, .int .i64 0, .int .i64 0], 88⟩, ⟨b1, Z8, 51⟩]) ∧ SlT v' pl ob') (fun w hO => (splitn_any ah w (by omega)).mono fun e w' ⟨v', ob', k1, k2, k3⟩ => ⟨v', _, k1, ⟨ob', rfl, by rw [hpl] at k2; exact k2⟩, Own.joinN hO k3⟩) (fun v1 L1 hv1 => ?_)))
  obtain ⟨o1, rfl, hsl⟩ := hv1
  obtain ⟨A1, c1, rfl⟩ := hsl.form
  obtain ⟨g1, cur1, rfl, rfl, hc1, hm1, hz1, ht1⟩ := Sl.block hsl (by omega)
  rw [w0] at ht1
  refine Zv (.slice (some ⟨g1, 0, none⟩) pl.length c1) (ZN (z7 (ZO (Zv (.slice (some ⟨g1, 0, none⟩) pl.length c1) (Zv (.int .i64 (pl.length : Int)) (Zv (.int .i64 0) (ZN (jS (fun L f => ∃ (j : Nat → Value), L = [⟨g1, cur1, 9⟩, ⟨b2, #[.int .i64 (zR (tg pl 0)), .int .i64 (zR (tg pl 1)), .int .i64 (zR (tg pl 2))], 88⟩, ⟨b1, Z8, 51⟩] ∧ f = xZ j [(0, .string (mkS s)), (2, Zp b1 0), (4, .int .i64 op), (6, .string (mkS tl)), (8, Zp b2 0), (9, .slice (some ⟨g1, 0, none⟩) pl.length c1)]) ?_ ?_))))))))
  · refine zM (yN (fun L f m => (∃  (j : Nat → Value), (0 ≤ pl.length) ∧ L = [⟨g1, cur1, 9⟩, ⟨b2, #[.int .i64 0, .int .i64 0, .int .i64 0], 88⟩, ⟨b1, Z8, 51⟩] ∧ f = xZ j [(0, .string (mkS s)), (2, Zp b1 0), (4, .int .i64 op), (6, .string (mkS tl)), (8, Zp b2 0), (9, .slice (some ⟨g1, 0, none⟩) pl.length c1), (27, .slice (some ⟨g1, 0, none⟩) pl.length c1), (28, .int .i64 (pl.length : Int)), (29, .int .i64 0)] ∧ m = 4) ∨ (∃  (j : Nat → Value), (1 ≤ pl.length) ∧ L = [⟨g1, cur1, 9⟩, ⟨b2, #[.int .i64 (zR (tg pl 0)), .int .i64 0, .int .i64 0], 88⟩, ⟨b1, Z8, 51⟩] ∧ f = xZ j [(0, .string (mkS s)), (2, Zp b1 0), (4, .int .i64 op), (6, .string (mkS tl)), (8, Zp b2 0), (9, .slice (some ⟨g1, 0, none⟩) pl.length c1), (27, .slice (some ⟨g1, 0, none⟩) pl.length c1), (28, .int .i64 (pl.length : Int)), (29, .int .i64 1)] ∧ m = 3) ∨ (∃  (j : Nat → Value), (2 ≤ pl.length) ∧ L = [⟨g1, cur1, 9⟩, ⟨b2, #[.int .i64 (zR (tg pl 0)), .int .i64 (zR (tg pl 1)), .int .i64 0], 88⟩, ⟨b1, Z8, 51⟩] ∧ f = xZ j [(0, .string (mkS s)), (2, Zp b1 0), (4, .int .i64 op), (6, .string (mkS tl)), (8, Zp b2 0), (9, .slice (some ⟨g1, 0, none⟩) pl.length c1), (27, .slice (some ⟨g1, 0, none⟩) pl.length c1), (28, .int .i64 (pl.length : Int)), (29, .int .i64 2)] ∧ m = 2) ∨ (∃  (j : Nat → Value), (3 ≤ pl.length) ∧ L = [⟨g1, cur1, 9⟩, ⟨b2, #[.int .i64 (zR (tg pl 0)), .int .i64 (zR (tg pl 1)), .int .i64 (zR (tg pl 2))], 88⟩, ⟨b1, Z8, 51⟩] ∧ f = xZ j [(0, .string (mkS s)), (2, Zp b1 0), (4, .int .i64 op), (6, .string (mkS tl)), (8, Zp b2 0), (9, .slice (some ⟨g1, 0, none⟩) pl.length c1), (27, .slice (some ⟨g1, 0, none⟩) pl.length c1), (28, .int .i64 (pl.length : Int)), (29, .int .i64 3)] ∧ m = 1)) 4 (.inl ⟨_, Nat.zero_le _, rfl, ZU, rfl⟩) ?_)
    rintro L f m (⟨j, hrel, rfl, rfl, rfl⟩ | ⟨j, hrel, rfl, rfl, rfl⟩ | ⟨j, hrel, rfl, rfl, rfl⟩ | ⟨j, hrel, rfl, rfl, rfl⟩)
    · have qn := hrel
      refine ZO (Zg (p := (0 : Int) < (pl.length : Int)) (by omega) (ZN (z7 (Zt (ZB (z7 (zM (z7 ?_))))))))
      refine zA (Zv (.int .i64 0) (zV (Zp g1 (0 * 1 + 0)) (by kernel_rfl) (xP (b := g1) (off := 0) (n := pl.length) (c := c1) (k := .i64) (j := 0) (e := 9) (sz := 1) rfl (by kernel_rfl) (by kernel_rfl) (by kernel_rfl) (by kernel_rfl) (by omega) (by omega) (by rfl)) (jP 0 ⟨g1, cur1, 9⟩ (off := 0 * 1 + 0) (.string (mkS (tg pl 0))) (by kernel_rfl) rfl (by kernel_rfl) (by kernel_rfl) (x4 bN ht1 0 0 (by omega) (by omega) _ (by rw [pN (by omega)]; kernel_rfl)) (Zv (.int .i64 0) (Zv (.string (mkS (tg pl 0))) (ZN (zA (Zv (.int .i64 0) (Zv (.string (mkS (tg pl 0))) (Zc (k := 63) (args := #[.string (mkS (tg pl 0))]) (.tuple #[.int .i64 (zR (tg pl 0)), .bool (gJ (tg pl 0))]) (fun w _ => jG (tg pl 0) _ rfl w (Nat.le_trans (htp 0) (by decide))) ?_))))))))))
      refine Zv (.tuple #[.int .i64 (zR (tg pl 0)), .bool (gJ (tg pl 0))]) (Zv (.int .i64 (zR (tg pl 0))) (Zv (.bool (gJ (tg pl 0))) (Zv (Zp b2 0) (Zs 1 ⟨b2, #[.int .i64 0, .int .i64 0, .int .i64 0], 88⟩ (off := 0) (.int .i64 (zR (tg pl 0))) (zO (zP (zB (zA (Zv (.int .i64 1) (Zv (.int .i64 1) (zO ?_)))))))))))
      exact zS (m' := 3) (by decide) (.inr (.inl ⟨_, (by omega : 1 ≤ pl.length), rfl, ZU, rfl⟩))
    · have qn := hrel
      refine z7 (zA ?_)
      by_cases h1 : (1 : Int) < (pl.length : Int)
      · have hk : 1 < pl.length := by omega
        refine Zg h1 (ZN (z7 (Zt (ZB (z7 (zM (ZO (Zv (.int .i64 1) ?_))))))))
        refine zV (Zp g1 (1 * 1 + 0)) (by kernel_rfl) (xP (b := g1) (off := 0) (n := pl.length) (c := c1) (k := .i64) (j := 1) (e := 9) (sz := 1) rfl (by kernel_rfl) (by kernel_rfl) (by kernel_rfl) (by kernel_rfl) (by omega) (by omega) (by rfl)) (jP 0 ⟨g1, cur1, 9⟩ (off := 1 * 1 + 0) (.string (mkS (tg pl 1))) (by kernel_rfl) rfl (by kernel_rfl) (by kernel_rfl) (x4 bN ht1 1 0 (by omega) (by omega) _ (by rw [pN (by omega)]; kernel_rfl)) (Zv (.int .i64 1) (Zv (.string (mkS (tg pl 1))) (ZN (zA (Zv (.int .i64 1) (Zv (.string (mkS (tg pl 1))) (Zc (k := 63) (args := #[.string (mkS (tg pl 1))]) (.tuple #[.int .i64 (zR (tg pl 1)), .bool (gJ (tg pl 1))]) (fun w _ => jG (tg pl 1) _ rfl w (Nat.le_trans (htp 1) (by decide))) (Zv (.tuple #[.int .i64 (zR (tg pl 1)), .bool (gJ (tg pl 1))]) (Zv (.int .i64 (zR (tg pl 1))) ?_))))))))))
        exact Zv (.bool (gJ (tg pl 1))) (Zv (Zp b2 1) (Zs 1 ⟨b2, #[.int .i64 (zR (tg pl 0)), .int .i64 0, .int .i64 0], 88⟩ (off := 1) (.int .i64 (zR (tg pl 1))) (zO (zP (zB (zA (Zv (.int .i64 2) (Zv (.int .i64 2) (zO (zS (m' := 2) (by decide) (.inr (.inr (.inl ⟨_, (by omega : 2 ≤ pl.length), rfl, ZU, rfl⟩)))))))))))))
      exact Zh h1 (ZN (z7 (Zf (y7 (zF (zN (zJ (yL ⟨_, by rw [tgi_out (l := pl) (i := 1) (by omega), tgi_out (l := pl) (i := 2) (by omega)], ZU⟩))))))))
    · have qn := hrel
      refine z7 (zA ?_)
      by_cases h2 : (2 : Int) < (pl.length : Int)
      · have hk : 2 < pl.length := by omega
        refine Zg h2 (ZN (z7 (Zt (ZB (z7 (zM (ZO (Zv (.int .i64 2) ?_))))))))
        refine zV (Zp g1 (2 * 1 + 0)) (by kernel_rfl) (xP (b := g1) (off := 0) (n := pl.length) (c := c1) (k := .i64) (j := 2) (e := 9) (sz := 1) rfl (by kernel_rfl) (by kernel_rfl) (by kernel_rfl) (by kernel_rfl) (by omega) (by omega) (by rfl)) (jP 0 ⟨g1, cur1, 9⟩ (off := 2 * 1 + 0) (.string (mkS (tg pl 2))) (by kernel_rfl) rfl (by kernel_rfl) (by kernel_rfl) (x4 bN ht1 2 0 (by omega) (by omega) _ (by rw [pN (by omega)]; kernel_rfl)) (Zv (.int .i64 2) (Zv (.string (mkS (tg pl 2))) (ZN (zA (Zv (.int .i64 2) (Zv (.string (mkS (tg pl 2))) (Zc (k := 63) (args := #[.string (mkS (tg pl 2))]) (.tuple #[.int .i64 (zR (tg pl 2)), .bool (gJ (tg pl 2))]) (fun w _ => jG (tg pl 2) _ rfl w (Nat.le_trans (htp 2) (by decide))) (Zv (.tuple #[.int .i64 (zR (tg pl 2)), .bool (gJ (tg pl 2))]) (Zv (.int .i64 (zR (tg pl 2))) ?_))))))))))
        exact Zv (.bool (gJ (tg pl 2))) (Zv (Zp b2 2) (Zs 1 ⟨b2, #[.int .i64 (zR (tg pl 0)), .int .i64 (zR (tg pl 1)), .int .i64 0], 88⟩ (off := 2) (.int .i64 (zR (tg pl 2))) (zO (zP (zB (zA (Zv (.int .i64 3) (Zv (.int .i64 3) (zO (zS (m' := 1) (by decide) (.inr (.inr (.inr (⟨_, (by omega : 3 ≤ pl.length), rfl, ZU, rfl⟩))))))))))))))
      exact Zh h2 (ZN (z7 (Zf (y7 (zF (zN (zJ (yL ⟨_, by rw [tgi_out (l := pl) (i := 2) (by omega)], ZU⟩))))))))
    have qn := hrel
    exact ZO (Zh (p := (3 : Int) < (pl.length : Int)) (by omega) (ZN (z7 (Zf (y7 (zF (zN (zJ (yL ⟨_, rfl, ZU⟩)))))))))
  · rintro L f ⟨j, rfl, rfl⟩
    obtain ⟨la, hla⟩ : ∃ x, tg pl (pl.length - 1) = x := ⟨_, rfl⟩
    have hgu := guess_is hop hr hah htl hpl hla (by omega)
    refine zB (ZO (Zv (.int .i64 op) (Zv (.slice (some ⟨g1, 0, none⟩) pl.length c1) (Zv (.int .i64 (pl.length : Int)) (Zv (.agg #[.int .i64 op, .int .i64 (pl.length : Int), .int .i64 0, .int .i64 0, .int .i64 0, .string ⟨#[]⟩, .string ⟨#[]⟩]) (Za (.agg Z8) (fun b3 => Zs 0 ⟨b3, Z8, 51⟩ (off := 0) (.agg #[.int .i64 op, .int .i64 (pl.length : Int), .int .i64 0, .int .i64 0, .int .i64 0, .string ⟨#[]⟩, .string ⟨#[]⟩]) (ZN (z7 ?_)))))))))
    refine ZO (Zv (.slice (some ⟨g1, 0, none⟩) pl.length c1) (Zv (.slice (some ⟨g1, 0, none⟩) pl.length c1) (Zv (.int .i64 (pl.length : Int)) (Zu (k := .i64) (((pl.length : Int) : Int) - 1) (IntWalk.i64_in _ (by omega)) (zV (Zp g1 ((pl.length - 1) * 1 + 0)) (by kernel_rfl) (xP (b := g1) (off := 0) (n := pl.length) (c := c1) (k := .i64) (j := ((pl.length : Int) - 1)) (e := 9) (sz := 1) rfl (by kernel_rfl) (by kernel_rfl) (by kernel_rfl) (by kernel_rfl) (by omega) (by omega) (by omega)) (jP 1 ⟨g1, cur1, 9⟩ (off := (pl.length - 1) * 1 + 0) (.string (mkS la)) (by kernel_rfl) rfl (by kernel_rfl) (by kernel_rfl) (x4 bN ht1 (pl.length - 1) 0 (by omega) (by omega) _ (by rw [pN (by omega), hla]; kernel_rfl)) ?_))))))
    by_cases h3 : (la : List UInt8) = [42]
    · refine zV Z4 (by kernel_rfl) (yM (a := la) (b := ([42])) rfl (by kernel_rfl) (by kernel_rfl) (decide_eq_true (h3))) (ZY (ZO (Zv (Zp b3 0) (Zs 0 ⟨b3, #[.int .i64 op, .int .i64 (pl.length : Int), .int .i64 0, .int .i64 0, .int .i64 0, .string ⟨#[]⟩, .string ⟨#[]⟩], 51⟩ (off := 0) (.int .i64 9) (ZN (zA (Zv (Zp b3 1) ?_)))))))
      refine Zl 0 ⟨b3, #[.int .i64 9, .int .i64 (pl.length : Int), .int .i64 0, .int .i64 0, .int .i64 0, .string ⟨#[]⟩, .string ⟨#[]⟩], 51⟩ (off := 1) (.int .i64 (pl.length : Int)) (Zu (k := .i64) (((pl.length : Int) : Int) - 1) (IntWalk.i64_in _ (by omega)) (Zv (Zp b3 1) (Zs 0 ⟨b3, #[.int .i64 9, .int .i64 (pl.length : Int), .int .i64 0, .int .i64 0, .int .i64 0, .string ⟨#[]⟩, .string ⟨#[]⟩], 51⟩ (off := 1) (.int .i64 (((pl.length : Int) : Int) - 1)) (ZR (Zv (Zp b2 0) (Zl 2 ⟨b2, #[.int .i64 (zR (tg pl 0)), .int .i64 (zR (tg pl 1)), .int .i64 (zR (tg pl 2))], 88⟩ (off := 0) (.int .i64 (zR (tg pl 0))) (Zv (Zp b2 1) (Zl 2 ⟨b2, #[.int .i64 (zR (tg pl 0)), .int .i64 (zR (tg pl 1)), .int .i64 (zR (tg pl 2))], 88⟩ (off := 1) (.int .i64 (zR (tg pl 1))) ?_))))))))
      refine Zv (Zp b2 2) (Zl 2 ⟨b2, #[.int .i64 (zR (tg pl 0)), .int .i64 (zR (tg pl 1)), .int .i64 (zR (tg pl 2))], 88⟩ (off := 2) (.int .i64 (zR (tg pl 2))) (Zv (.string (mkS tl)) (Zv (.agg #[.int .i64 (zR (tg pl 0)), .int .i64 (zR (tg pl 1)), .int .i64 (zR (tg pl 2)), .string (mkS tl), .string ⟨#[]⟩]) (Zv (Zp b3 2) (Zs 0 ⟨b3, #[.int .i64 9, .int .i64 (((pl.length : Int) : Int) - 1), .int .i64 0, .int .i64 0, .int .i64 0, .string ⟨#[]⟩, .string ⟨#[]⟩], 51⟩ (off := 2) (.agg #[.int .i64 (zR (tg pl 0)), .int .i64 (zR (tg pl 1)), .int .i64 (zR (tg pl 2)), .string (mkS tl), .string ⟨#[]⟩]) (ZN (z7 (ZO (Zl 0 ⟨b3, #[.int .i64 9, .int .i64 (((pl.length : Int) : Int) - 1), .int .i64 (zR (tg pl 0)), .int .i64 (zR (tg pl 1)), .int .i64 (zR (tg pl 2)), .string (mkS tl), .string ⟨#[]⟩], 51⟩ (off := 0) (.agg #[.int .i64 9, .int .i64 (((pl.length : Int) : Int) - 1), .int .i64 (zR (tg pl 0)), .int .i64 (zR (tg pl 1)), .int .i64 (zR (tg pl 2)), .string (mkS tl), .string ⟨#[]⟩]) ?_)))))))))
      have hcs : ((⟨9, ((pl.length : Int) - 1), ⟨zR (tg pl 0), zR (tg pl 1), zR (tg pl 2), tl, []⟩⟩ : Co)).short := ⟨by show tl.length ≤ _; omega, Nat.zero_le _⟩
      obtain ⟨pt, hpt⟩ : ∃ x, Co.print (⟨9, ((pl.length : Int) - 1), ⟨zR (tg pl 0), zR (tg pl 1), zR (tg pl 2), tl, []⟩⟩ : Co) = x := ⟨_, rfl⟩
      refine Zc (k := 64) (args := #[.agg #[.int .i64 9, .int .i64 (((pl.length : Int) : Int) - 1), .int .i64 (zR (tg pl 0)), .int .i64 (zR (tg pl 1)), .int .i64 (zR (tg pl 2)), .string (mkS tl), .string ⟨#[]⟩]]) (.string (mkS pt)) (fun w hO => vR (by rw [← hpt]) (pE (⟨9, ((pl.length : Int) - 1), ⟨zR (tg pl 0), zR (tg pl 1), zR (tg pl 2), tl, []⟩⟩ : Co) w hcs (ht.on hO.below))) (Zv (.string (mkS pt)) (ZR (Zv (.string (mkS pt)) (Zv (.string (mkS s)) ?_))))
      by_cases h4 : (pt : List UInt8) = s
      · refine zV Z5 (by kernel_rfl) (xC (a := pt) (b := s) rfl (by kernel_rfl) (by kernel_rfl) (decide_eq_true (h4))) (Zv Z5 (Zk (Zk (Zk (Zk (Zv Z5 (ZX (yP (zB ?_)))))))))
        refine ZO (Zv (.string (mkS tl)) (Zc (k := 65) (args := #[.string (mkS tl)]) (.string (mkS tl)) (fun w _ => uD (mkS tl) w (by rw [xH]; omega)) (Zv (Zp b3 2) (Zv (Zp b3 5) (Zs 0 ⟨b3, #[.int .i64 9, .int .i64 (((pl.length : Int) : Int) - 1), .int .i64 (zR (tg pl 0)), .int .i64 (zR (tg pl 1)), .int .i64 (zR (tg pl 2)), .string (mkS tl), .string ⟨#[]⟩], 51⟩ (off := 5) (.string (mkS tl)) (ZR (Zl 0 ⟨b3, #[.int .i64 9, .int .i64 (((pl.length : Int) : Int) - 1), .int .i64 (zR (tg pl 0)), .int .i64 (zR (tg pl 1)), .int .i64 (zR (tg pl 2)), .string (mkS tl), .string ⟨#[]⟩], 51⟩ (off := 0) (.agg #[.int .i64 9, .int .i64 (((pl.length : Int) : Int) - 1), .int .i64 (zR (tg pl 0)), .int .i64 (zR (tg pl 1)), .int .i64 (zR (tg pl 2)), .string (mkS tl), .string ⟨#[]⟩]) ?_)))))))
        exact Zs 3 ⟨b1, Z8, 51⟩ (off := 0) (.agg #[.int .i64 9, .int .i64 (((pl.length : Int) : Int) - 1), .int .i64 (zR (tg pl 0)), .int .i64 (zR (tg pl 1)), .int .i64 (zR (tg pl 2)), .string (mkS tl), .string ⟨#[]⟩]) (Zv (.int .i64 0) (ZN (zC (ZD 3 ⟨b1, #[.int .i64 9, .int .i64 (((pl.length : Int) : Int) - 1), .int .i64 (zR (tg pl 0)), .int .i64 (zR (tg pl 1)), .int .i64 (zR (tg pl 2)), .string (mkS tl), .string ⟨#[]⟩], 51⟩ (off := 0) (.agg #[.int .i64 9, .int .i64 (((pl.length : Int) : Int) - 1), .int .i64 (zR (tg pl 0)), .int .i64 (zR (tg pl 1)), .int .i64 (zR (tg pl 2)), .string (mkS tl), .string ⟨#[]⟩]) (.int .i64 0) Tryz.results37 (fun w hO => ⟨by have q := fit_or (c := (⟨9, ((pl.length : Int) - 1), ⟨zR (tg pl 0), zR (tg pl 1), zR (tg pl 2), tl, []⟩⟩ : Co)) (hgu.trans (if_pos h3)) hpt (.inl h4); rw [q.1, q.2]; rfl, hO.below⟩)))))
      refine zV Z4 (by kernel_rfl) (xC (a := pt) (b := s) rfl (by kernel_rfl) (by kernel_rfl) (decide_eq_false (h4))) (Zv Z4 (Zv (.string (mkS pt)) (Zv (.string (mkS s)) (zV (.string (mkS ([94] ++ s))) (by kernel_rfl) (yY (a := [94]) (b := s) rfl (by kernel_rfl) (by kernel_rfl) (by simp only [List.length_append, List.length_cons, List.length_nil]; omega)) ?_))))
      by_cases h5 : (pt : List UInt8) = ([94] ++ s)
      · refine zV Z5 (by kernel_rfl) (xC (a := pt) (b := ([94] ++ s)) rfl (by kernel_rfl) (by kernel_rfl) (decide_eq_true (h5))) (Zv Z5 (ZX (ZB (ZO (Zv (.string (mkS tl)) (Zc (k := 65) (args := #[.string (mkS tl)]) (.string (mkS tl)) (fun w _ => uD (mkS tl) w (by rw [xH]; omega)) (Zv (Zp b3 2) ?_)))))))
        refine Zv (Zp b3 5) (Zs 0 ⟨b3, #[.int .i64 9, .int .i64 (((pl.length : Int) : Int) - 1), .int .i64 (zR (tg pl 0)), .int .i64 (zR (tg pl 1)), .int .i64 (zR (tg pl 2)), .string (mkS tl), .string ⟨#[]⟩], 51⟩ (off := 5) (.string (mkS tl)) (ZR (Zl 0 ⟨b3, #[.int .i64 9, .int .i64 (((pl.length : Int) : Int) - 1), .int .i64 (zR (tg pl 0)), .int .i64 (zR (tg pl 1)), .int .i64 (zR (tg pl 2)), .string (mkS tl), .string ⟨#[]⟩], 51⟩ (off := 0) (.agg #[.int .i64 9, .int .i64 (((pl.length : Int) : Int) - 1), .int .i64 (zR (tg pl 0)), .int .i64 (zR (tg pl 1)), .int .i64 (zR (tg pl 2)), .string (mkS tl), .string ⟨#[]⟩]) (Zs 3 ⟨b1, Z8, 51⟩ (off := 0) (.agg #[.int .i64 9, .int .i64 (((pl.length : Int) : Int) - 1), .int .i64 (zR (tg pl 0)), .int .i64 (zR (tg pl 1)), .int .i64 (zR (tg pl 2)), .string (mkS tl), .string ⟨#[]⟩]) (Zv (.int .i64 0) (ZN (zC ?_)))))))
        exact ZD 3 ⟨b1, #[.int .i64 9, .int .i64 (((pl.length : Int) : Int) - 1), .int .i64 (zR (tg pl 0)), .int .i64 (zR (tg pl 1)), .int .i64 (zR (tg pl 2)), .string (mkS tl), .string ⟨#[]⟩], 51⟩ (off := 0) (.agg #[.int .i64 9, .int .i64 (((pl.length : Int) : Int) - 1), .int .i64 (zR (tg pl 0)), .int .i64 (zR (tg pl 1)), .int .i64 (zR (tg pl 2)), .string (mkS tl), .string ⟨#[]⟩]) (.int .i64 0) Tryz.results37 (fun w hO => ⟨by have q := fit_or (c := (⟨9, ((pl.length : Int) - 1), ⟨zR (tg pl 0), zR (tg pl 1), zR (tg pl 2), tl, []⟩⟩ : Co)) (hgu.trans (if_pos h3)) hpt (.inr h5); rw [q.1, q.2]; rfl, hO.below⟩)
      refine zV Z4 (by kernel_rfl) (xC (a := pt) (b := ([94] ++ s)) rfl (by kernel_rfl) (by kernel_rfl) (decide_eq_false (h5))) (Zv Z4 (ZY (ZO (Zv (.agg Z8) (Zs 3 ⟨b1, Z8, 51⟩ (off := 0) (.agg Z8) (Zv (.int .i64 6) (zO (zB ?_))))))))
      exact zC (z6 (ZD 3 ⟨b1, Z8, 51⟩ (off := 0) (.agg Z8) (.int .i64 6) Tryz.results37 (fun w hO => ⟨by have q := fit_no (c := (⟨9, ((pl.length : Int) - 1), ⟨zR (tg pl 0), zR (tg pl 1), zR (tg pl 2), tl, []⟩⟩ : Co)) (hgu.trans (if_pos h3)) hpt h4 h5; rw [q.1, q.2]; rfl, hO.below⟩)))
    refine zV Z5 (by kernel_rfl) (yM (a := la) (b := ([42])) rfl (by kernel_rfl) (by kernel_rfl) (decide_eq_false (h3))) (ZX (ZB (ZO (Zv (Zp b2 0) (Zl 2 ⟨b2, #[.int .i64 (zR (tg pl 0)), .int .i64 (zR (tg pl 1)), .int .i64 (zR (tg pl 2))], 88⟩ (off := 0) (.int .i64 (zR (tg pl 0))) (Zv (Zp b2 1) (Zl 2 ⟨b2, #[.int .i64 (zR (tg pl 0)), .int .i64 (zR (tg pl 1)), .int .i64 (zR (tg pl 2))], 88⟩ (off := 1) (.int .i64 (zR (tg pl 1))) ?_)))))))
    refine Zv (Zp b2 2) (Zl 2 ⟨b2, #[.int .i64 (zR (tg pl 0)), .int .i64 (zR (tg pl 1)), .int .i64 (zR (tg pl 2))], 88⟩ (off := 2) (.int .i64 (zR (tg pl 2))) (Zv (.string (mkS tl)) (Zv (.agg #[.int .i64 (zR (tg pl 0)), .int .i64 (zR (tg pl 1)), .int .i64 (zR (tg pl 2)), .string (mkS tl), .string ⟨#[]⟩]) (Zv (Zp b3 2) (Zs 0 ⟨b3, #[.int .i64 op, .int .i64 (pl.length : Int), .int .i64 0, .int .i64 0, .int .i64 0, .string ⟨#[]⟩, .string ⟨#[]⟩], 51⟩ (off := 2) (.agg #[.int .i64 (zR (tg pl 0)), .int .i64 (zR (tg pl 1)), .int .i64 (zR (tg pl 2)), .string (mkS tl), .string ⟨#[]⟩]) (ZN (z7 (ZO (Zl 0 ⟨b3, #[.int .i64 op, .int .i64 (pl.length : Int), .int .i64 (zR (tg pl 0)), .int .i64 (zR (tg pl 1)), .int .i64 (zR (tg pl 2)), .string (mkS tl), .string ⟨#[]⟩], 51⟩ (off := 0) (.agg #[.int .i64 op, .int .i64 (pl.length : Int), .int .i64 (zR (tg pl 0)), .int .i64 (zR (tg pl 1)), .int .i64 (zR (tg pl 2)), .string (mkS tl), .string ⟨#[]⟩]) ?_)))))))))
    have hcs : ((⟨op, (pl.length : Int), ⟨zR (tg pl 0), zR (tg pl 1), zR (tg pl 2), tl, []⟩⟩ : Co)).short := ⟨by show tl.length ≤ _; omega, Nat.zero_le _⟩
    obtain ⟨pt, hpt⟩ : ∃ x, Co.print (⟨op, (pl.length : Int), ⟨zR (tg pl 0), zR (tg pl 1), zR (tg pl 2), tl, []⟩⟩ : Co) = x := ⟨_, rfl⟩
    refine Zc (k := 64) (args := #[.agg #[.int .i64 op, .int .i64 (pl.length : Int), .int .i64 (zR (tg pl 0)), .int .i64 (zR (tg pl 1)), .int .i64 (zR (tg pl 2)), .string (mkS tl), .string ⟨#[]⟩]]) (.string (mkS pt)) (fun w hO => vR (by rw [← hpt]) (pE (⟨op, (pl.length : Int), ⟨zR (tg pl 0), zR (tg pl 1), zR (tg pl 2), tl, []⟩⟩ : Co) w hcs (ht.on hO.below))) (Zv (.string (mkS pt)) (ZR (Zv (.string (mkS pt)) (Zv (.string (mkS s)) ?_))))
    by_cases h6 : (pt : List UInt8) = s
    · refine zV Z5 (by kernel_rfl) (xC (a := pt) (b := s) rfl (by kernel_rfl) (by kernel_rfl) (decide_eq_true (h6))) (Zv Z5 (Zk (Zk (Zk (Zk (Zv Z5 (ZX (yP (zB ?_)))))))))
      refine ZO (Zv (.string (mkS tl)) (Zc (k := 65) (args := #[.string (mkS tl)]) (.string (mkS tl)) (fun w _ => uD (mkS tl) w (by rw [xH]; omega)) (Zv (Zp b3 2) (Zv (Zp b3 5) (Zs 0 ⟨b3, #[.int .i64 op, .int .i64 (pl.length : Int), .int .i64 (zR (tg pl 0)), .int .i64 (zR (tg pl 1)), .int .i64 (zR (tg pl 2)), .string (mkS tl), .string ⟨#[]⟩], 51⟩ (off := 5) (.string (mkS tl)) (ZR (Zl 0 ⟨b3, #[.int .i64 op, .int .i64 (pl.length : Int), .int .i64 (zR (tg pl 0)), .int .i64 (zR (tg pl 1)), .int .i64 (zR (tg pl 2)), .string (mkS tl), .string ⟨#[]⟩], 51⟩ (off := 0) (.agg #[.int .i64 op, .int .i64 (pl.length : Int), .int .i64 (zR (tg pl 0)), .int .i64 (zR (tg pl 1)), .int .i64 (zR (tg pl 2)), .string (mkS tl), .string ⟨#[]⟩]) ?_)))))))
      exact Zs 3 ⟨b1, Z8, 51⟩ (off := 0) (.agg #[.int .i64 op, .int .i64 (pl.length : Int), .int .i64 (zR (tg pl 0)), .int .i64 (zR (tg pl 1)), .int .i64 (zR (tg pl 2)), .string (mkS tl), .string ⟨#[]⟩]) (Zv (.int .i64 0) (ZN (zC (ZD 3 ⟨b1, #[.int .i64 op, .int .i64 (pl.length : Int), .int .i64 (zR (tg pl 0)), .int .i64 (zR (tg pl 1)), .int .i64 (zR (tg pl 2)), .string (mkS tl), .string ⟨#[]⟩], 51⟩ (off := 0) (.agg #[.int .i64 op, .int .i64 (pl.length : Int), .int .i64 (zR (tg pl 0)), .int .i64 (zR (tg pl 1)), .int .i64 (zR (tg pl 2)), .string (mkS tl), .string ⟨#[]⟩]) (.int .i64 0) Tryz.results37 (fun w hO => ⟨by have q := fit_or (c := (⟨op, (pl.length : Int), ⟨zR (tg pl 0), zR (tg pl 1), zR (tg pl 2), tl, []⟩⟩ : Co)) (hgu.trans (if_neg h3)) hpt (.inl h6); rw [q.1, q.2]; rfl, hO.below⟩)))))
    refine zV Z4 (by kernel_rfl) (xC (a := pt) (b := s) rfl (by kernel_rfl) (by kernel_rfl) (decide_eq_false (h6))) (Zv Z4 (Zv (.string (mkS pt)) (Zv (.string (mkS s)) (zV (.string (mkS ([94] ++ s))) (by kernel_rfl) (yY (a := [94]) (b := s) rfl (by kernel_rfl) (by kernel_rfl) (by simp only [List.length_append, List.length_cons, List.length_nil]; omega)) ?_))))
    by_cases h7 : (pt : List UInt8) = ([94] ++ s)
    · refine zV Z5 (by kernel_rfl) (xC (a := pt) (b := ([94] ++ s)) rfl (by kernel_rfl) (by kernel_rfl) (decide_eq_true (h7))) (Zv Z5 (ZX (ZB (ZO (Zv (.string (mkS tl)) (Zc (k := 65) (args := #[.string (mkS tl)]) (.string (mkS tl)) (fun w _ => uD (mkS tl) w (by rw [xH]; omega)) (Zv (Zp b3 2) ?_)))))))
      refine Zv (Zp b3 5) (Zs 0 ⟨b3, #[.int .i64 op, .int .i64 (pl.length : Int), .int .i64 (zR (tg pl 0)), .int .i64 (zR (tg pl 1)), .int .i64 (zR (tg pl 2)), .string (mkS tl), .string ⟨#[]⟩], 51⟩ (off := 5) (.string (mkS tl)) (ZR (Zl 0 ⟨b3, #[.int .i64 op, .int .i64 (pl.length : Int), .int .i64 (zR (tg pl 0)), .int .i64 (zR (tg pl 1)), .int .i64 (zR (tg pl 2)), .string (mkS tl), .string ⟨#[]⟩], 51⟩ (off := 0) (.agg #[.int .i64 op, .int .i64 (pl.length : Int), .int .i64 (zR (tg pl 0)), .int .i64 (zR (tg pl 1)), .int .i64 (zR (tg pl 2)), .string (mkS tl), .string ⟨#[]⟩]) (Zs 3 ⟨b1, Z8, 51⟩ (off := 0) (.agg #[.int .i64 op, .int .i64 (pl.length : Int), .int .i64 (zR (tg pl 0)), .int .i64 (zR (tg pl 1)), .int .i64 (zR (tg pl 2)), .string (mkS tl), .string ⟨#[]⟩]) (Zv (.int .i64 0) (ZN (zC ?_)))))))
      exact ZD 3 ⟨b1, #[.int .i64 op, .int .i64 (pl.length : Int), .int .i64 (zR (tg pl 0)), .int .i64 (zR (tg pl 1)), .int .i64 (zR (tg pl 2)), .string (mkS tl), .string ⟨#[]⟩], 51⟩ (off := 0) (.agg #[.int .i64 op, .int .i64 (pl.length : Int), .int .i64 (zR (tg pl 0)), .int .i64 (zR (tg pl 1)), .int .i64 (zR (tg pl 2)), .string (mkS tl), .string ⟨#[]⟩]) (.int .i64 0) Tryz.results37 (fun w hO => ⟨by have q := fit_or (c := (⟨op, (pl.length : Int), ⟨zR (tg pl 0), zR (tg pl 1), zR (tg pl 2), tl, []⟩⟩ : Co)) (hgu.trans (if_neg h3)) hpt (.inr h7); rw [q.1, q.2]; rfl, hO.below⟩)
    refine zV Z4 (by kernel_rfl) (xC (a := pt) (b := ([94] ++ s)) rfl (by kernel_rfl) (by kernel_rfl) (decide_eq_false (h7))) (Zv Z4 (ZY (ZO (Zv (.agg Z8) (Zs 3 ⟨b1, Z8, 51⟩ (off := 0) (.agg Z8) (Zv (.int .i64 6) (zO (zB ?_))))))))
    exact zC (z6 (ZD 3 ⟨b1, Z8, 51⟩ (off := 0) (.agg Z8) (.int .i64 6) Tryz.results37 (fun w hO => ⟨by have q := fit_no (c := (⟨op, (pl.length : Int), ⟨zR (tg pl 0), zR (tg pl 1), zR (tg pl 2), tl, []⟩⟩ : Co)) (hgu.trans (if_neg h3)) hpt h6 h7; rw [q.1, q.2]; rfl, hO.below⟩)))
end
section
theorem textR_few {xs : List Al} (h1 : xs.length ≤ 6) (h : ∀ x ∈ xs, fewA x.l = true) : wT (yK xs) = kH (yK xs) := by
  unfold wT
  cases hf : fewR (yK xs) with
  | true => rfl
  | false =>
    cases xs with
    | nil => rfl
    | cons x xs => rw [few_all ⟨by simp, h1⟩ h] at hf; cases hf
theorem tW {xs : List Al} {x : Al} (hm : x ∈ xs) (h : fewA x.l = false) : wT (yK xs) = [] := textR_nil.2 (few_one hm h)
theorem textR_big {xs : List Al} (h : 6 < xs.length) : wT (yK xs) = [] := textR_nil.2 (few_len (by omega))
theorem own_tx1 {M : List Nat} {W w : World} {x y z : Blk} {A B : List Blk} (h : Own M W w ([x, y, z] ++ A ++ B)) : Own M W w (z :: (A ++ B)) := by
  rw [List.append_assoc] at h
  exact Own.sub [x, y] h
theorem own_tx2 {M : List Nat} {W w : World} {x z : Blk} {A B : List Blk} (h : Own M W w ([x, z] ++ A ++ B)) : Own M W w (z :: A) := by
  exact (Own.sub [x] (by simpa using h : Own M W w (x :: (z :: A ++ B)))).sublist (by simp)
theorem own_tx3 {M : List Nat} {W w : World} {x y : Blk} {A B : List Blk} (h : Own M W w (x :: y :: (A ++ B))) : Own M W w (x :: y :: (B ++ A)) :=
  h.perm (List.Perm.cons x (List.Perm.cons y List.perm_append_comm))
theorem alts_le {l : List (List Co)} {i : Nat} (h : ∀ a ∈ l.take i, fewA a = true) : ∀ t ∈ (l.take i).map xG, t.length ≤ 1000000 := fun t ht => by
  obtain ⟨a, ha, rfl⟩ := List.mem_map.1 ht
  obtain ⟨h1, h2⟩ := fewA.facts (h a ha)
  unfold xG
  rw [joinB_len, List.length_map]
  have : ∀ (l : List Co), (∀ c ∈ l, c.may = true) → sumN ((l.map Co.print).map (·.length)) ≤ l.length * 300 := by
    intro l hl
    induction l with
    | nil => simp [sumN]
    | cons c l ih =>
      have h3 := hD (hl c (List.mem_cons_self ..))
      have h4 := ih fun d hd => hl d (List.mem_cons_of_mem _ hd)
      rw [List.map_cons, List.map_cons, sumN, List.length_cons]; omega
  have := this a h2
  have h5 : (a.length - 1) * ([44, 32] : List UInt8).length ≤ 5 * 2 := Nat.mul_le_mul (by omega) (by simp)
  omega
theorem gtext_any (A : Option Addr) (cap : Nat) (xs : List Al) (W : World) (hv : RgIn W W.heap.size A xs) (ht : HasLib W) : Calls Tryz.prog 39 #[.agg #[.slice A xs.length cap]] W fun e w' => e = .returned (.string (mkS (wT (yK xs)))) ∧ Below W.heap.size W w' := by
  have hn := hv.n
  refine Z2 (n := 51) Tryz.func39 rfl (ZO (Zb (.agg #[.slice A xs.length cap]) (fun b1 => Zv (.string ⟨#[]⟩) (ZN (z7 (ZO (Zv (Zp b1 0) (Zl 0 ⟨b1, #[.slice A xs.length cap], 25⟩ (off := 0) (.slice A xs.length cap) ?_))))))))
  refine Zv (.int .i64 (xs.length : Int)) ?_
  by_cases h1 : (6 : Int) < (xs.length : Int)
  · refine Zg h1 (ZY (ZO (Zv (.string ⟨#[]⟩) (ZN (zC (z6 (ZF (.string ⟨#[]⟩) Tryz.results39 ?_)))))))
    exact fun w hO => ⟨by rw [textR_big (by omega)]; rfl, hO.below⟩
  refine Zh h1 (ZX (ZB (ZO (Zv (.slice none 0 0) (ZN (z7 ?_))))))
  refine ZO (Zv (Zp b1 0) (Zl 0 ⟨b1, #[.slice A xs.length cap], 25⟩ (off := 0) (.slice A xs.length cap) (Zv (.int .i64 (xs.length : Int)) (Zv (.int .i64 0) (ZN (zM (gW (L' := ⟨b1, #[.slice A xs.length cap], 25⟩ :: []) rfl (yN (fun L f m => ∃ (i : Nat) (U : Option Addr) (n : Nat) (cu : Nat) (ob : List Blk) (j : Nat → Value), (i ≤ xs.length ∧ (∀ x ∈ xs.take i, fewA x.l = true) ∧ SlT (.slice U n cu) (((yK xs).take i).map xG) ob) ∧ L = ⟨b1, #[.slice A xs.length cap], 25⟩ :: ob ∧ f = xZ j [(1, Zp b1 0), (3, .slice U n cu), (14, .slice A xs.length cap), (15, .int .i64 (xs.length : Int)), (16, .int .i64 (i : Int))] ∧ m = xs.length - i) (xs.length - 0) ⟨0, none, 0, 0, [], _, ⟨Nat.zero_le _, by simp, Sl.nil _ _⟩, rfl, ZU, rfl⟩ ?_))))))))
  rintro L f m ⟨i, U, n, cu, ob, j, hrel, rfl, rfl, rfl⟩
  obtain ⟨hil, hff, hT⟩ := hrel
  refine z7 (zA ?_)
  by_cases h2 : (i : Int) < (xs.length : Int)
  · have hi : i < xs.length := by omega
    obtain ⟨bp, off, hA, hlt, hcell⟩ := hv.top (by omega)
    obtain ⟨x, hx⟩ : ∃ x, xs[i] = x := ⟨_, rfl⟩
    have hxm : x ∈ xs := hx ▸ List.getElem_mem hi
    have hxn := hv.m x hxm
    have hxr : (yK xs)[i]'(by rw [k8]; exact hi) = x.l := bW hi hx
    refine Zg h2 (ZN (z7 (Zt (ZB (z7 (zM (ZO (zV (Zp bp (off + i * 1)) (by kernel_rfl) (ZA (b := bp) (off := off) (c := cap) (n := xs.length) (k := .i64) (j := (i : Int)) (e := 47) (sz := 1) hA) ?_))))))))
    refine Zo (.slice x.A x.l.length x.cap) (a := ⟨bp, off + i * 1, none⟩) (fun w hO => zX gO (fun j u h => (hO.below.cell (p := ⟨bp, off + j, none⟩) hlt).trans (hcell j u h)) i 0 hi (by omega) _ (by rw [hx]; kernel_rfl)) (Zv (.slice x.A x.l.length x.cap) (ZN (z7 (ZO (Zv (.slice x.A x.l.length x.cap) (Zv (.int .i64 (x.l.length : Int)) ?_))))))
    by_cases h3 : (x.l.length : Int) = 0
    · refine Zg h3 (Zv Z4 (Zk (Zk (Zk (Zv Z4 (ZY (ZO (Zv (.string ⟨#[]⟩) ?_))))))))
      exact ZN (zC (z6 (zG (z6 (y5 (zG (z6 (ZF (.string ⟨#[]⟩) Tryz.results39 (fun w hO => ⟨by rw [tW hxm (tH (by omega))]; rfl, hO.below⟩)))))))))
    refine Zh h3 (Zv Z5 (Zv (.slice x.A x.l.length x.cap) (Zv (.int .i64 (x.l.length : Int)) ?_)))
    by_cases h4 : (6 : Int) < (x.l.length : Int)
    · refine Zg h4 (Zv Z4 (ZY (ZO (Zv (.string ⟨#[]⟩) (ZN (zC (z6 ?_)))))))
      exact zG (z6 (y5 (zG (z6 (ZF (.string ⟨#[]⟩) Tryz.results39 (fun w hO => ⟨by rw [tW hxm (tH (by omega))]; rfl, hO.below⟩))))))
    refine Zh h4 (Zv Z5 (ZX (ZB (ZO (Zv (.slice none 0 0) (zO (zB ?_)))))))
    refine z7 (ZO (Zv (.slice x.A x.l.length x.cap) (Zv (.int .i64 (x.l.length : Int)) (Zv (.int .i64 0) (ZN (zM (gW (L' := ⟨b1, #[.slice A xs.length cap], 25⟩ :: ([] ++ ob)) rfl (yN (fun L f m => ∃ (k : Nat) (V : Option Addr) (np : Nat) (cv : Nat) (oa : List Blk) (j : Nat → Value), (k ≤ x.l.length ∧ (∀ c ∈ x.l.take k, c.may = true) ∧ SlT (.slice V np cv) ((x.l.take k).map Co.print) oa) ∧ L = ⟨b1, #[.slice A xs.length cap], 25⟩ :: (oa ++ ob) ∧ f = xZ j [(1, Zp b1 0), (3, .slice U n cu), (14, .slice A xs.length cap), (15, .int .i64 (xs.length : Int)), (16, .int .i64 (i : Int)), (6, .slice V np cv), (28, .slice x.A x.l.length x.cap), (29, .int .i64 (x.l.length : Int)), (30, .int .i64 (k : Int))] ∧ m = x.l.length - k) (x.l.length - 0) ⟨0, none, 0, 0, [], _, ⟨Nat.zero_le _, by simp, Sl.nil _ _⟩, rfl, ZU, rfl⟩ ?_))))))))
    rintro L f m ⟨k, V, np, cv, oa, j, hrel, rfl, rfl, rfl⟩
    obtain ⟨hkl, hcf, hP⟩ := hrel
    refine z7 (zA ?_)
    by_cases h5 : (k : Int) < (x.l.length : Int)
    · have hk : k < x.l.length := by omega
      obtain ⟨bq, off2, hA2, hlt2, hcell2⟩ := hv.each x hxm (by omega)
      obtain ⟨c, hc⟩ : ∃ c, x.l[k] = c := ⟨_, rfl⟩
      have hcm : c ∈ x.l := hc ▸ List.getElem_mem hk
      have hcS : c.short := hv.short x hxm c hcm
      refine Zg h5 (ZN (z7 (Zt (ZB (z7 (zM (ZO (zV (Zp bq (off2 + k * 7)) (by kernel_rfl) (ZA (b := bq) (off := off2) (c := x.cap) (n := x.l.length) (k := .i64) (j := (k : Int)) (e := 51) (sz := 7) hA2) ?_))))))))
      refine Zo (coV c) (a := ⟨bq, off2 + k * 7, none⟩) (fun w hO => zX j4 (fun j u h => (hO.below.cell (p := ⟨bq, off2 + j, none⟩) hlt2).trans (hcell2 j u h)) k 0 hk (by omega) _ (by rw [hc]; kernel_rfl)) (Za (.agg Z8) (fun b2 => Zs 0 ⟨b2, Z8, 51⟩ (off := 0) (coV c) (ZN (z7 (ZO (Zl 0 ⟨b2, (coV c).cells, 51⟩ (off := 0) (coV c) (Zc (k := 73) (args := #[coV c]) (.bool c.may) (fun w _ => tL c w hcS) ?_)))))))
      cases h6 : c.may with
      | true =>
        refine Zv Z5 (ZX (ZB (zA (Zv (.slice V np cv) (Zl 0 ⟨b2, (coV c).cells, 51⟩ (off := 0) (coV c) (Zc (k := 64) (args := #[coV c]) (.string (mkS c.print)) (fun w hO => pE c w hcS (ht.tab.on hO.below)) (vC 9 #[.string (mkS c.print)] (by kernel_rfl) rfl (fun _ => by kernel_rfl) (fun b3 => ?_))))))))
        have hpl0 : ((x.l.take k).map Co.print).length ≤ 6 := by rw [List.length_map, List.length_take]; omega
        obtain ⟨i1, z1, e11, e12, e13, e14, e15⟩ := fH
        refine kB (L' := [⟨b3, #[.string (mkS c.print)], 9⟩, ⟨b2, (coV c).cells, 51⟩, ⟨b1, #[.slice A xs.length cap], 25⟩] ++ oa ++ (ob)) (by simp <;> rfl) (gB (sz := 1) (by kernel_rfl) rfl Tryz.underlying58 e11 e12 e13 e14 (by kernel_rfl) hP (a := ⟨b3, 0, none⟩) (m := 1) (c := 1) (news := pP c.print) (by kernel_rfl) rfl (fun w hO j u hj => ?_) (fun u hu => by rw [List.mem_singleton.1 hu]; rfl) (by unfold maxLen; omega) (by rw [e15]; omega) (fun w1 oa2 hu1 => ?_))
        · rw [yQ, cell_of_row w b3 (0 + j) (pP c.print).toArray 9 _ (hO.held ⟨b3, (pP c.print).toArray, 9⟩ (List.mem_append_left _ (List.mem_append_left _ (List.mem_cons_self ..))))]; simpa using hj
        have hP2 : SlT w1 (((x.l.take k).map Co.print) ++ [c.print]) oa2 := SlT.add hu1
        obtain ⟨V2, cv2, rfl⟩ := hP2.form
        exact Zv (.slice V2 ((((x.l.take k).map Co.print) ++ [c.print]).length) cv2) (zO (zP (zB (zA (Zu (k := .i64) (((k + 1 : Nat) : Int)) (IntWalk.i64_in _ (by omega)) (Zv (.int .i64 ((k + 1 : Nat) : Int)) (zO (xB (fun w hO => own_tx1 hO) (zS (m' := x.l.length - (k + 1)) (by omega) ⟨k + 1, V2, (((x.l.take k).map Co.print) ++ [c.print]).length, cv2, oa2, _, ⟨by omega, bM hcf hk hc (by assumption), by rw [List.take_succ_eq_append_getElem hk, hc, List.map_append]; exact hP2⟩, rfl, ZU, rfl⟩)))))))))
      | false =>
        refine Zv Z4 (ZY (ZO (Zv (.string ⟨#[]⟩) (ZN (zC (z6 (zG ?_)))))))
        exact z6 (y5 (zG (z6 (zG (z6 (y5 (zG (z6 (ZF (.string ⟨#[]⟩) Tryz.results39 (fun w hO => ⟨by rw [tW hxm (fewA_one hcm (by assumption))]; rfl, hO.below⟩))))))))))
    have hal2 : ∀ c ∈ x.l, c.may = true := by have q := hcf; rwa [List.take_of_length_le (by omega)] at q
    have hfx : fewA x.l = true := fewA_all ⟨by omega, by omega⟩ hal2
    have htk2 : x.l.take k = x.l := List.take_of_length_le (by omega)
    have hpl := hP.caps
    rw [htk2] at hP hpl
    have htl := hT.caps
    refine Zh h5 (ZN (z7 (Zf (y7 (zF (zN (zJ (zB (zA (Zv (.slice U n cu) ?_))))))))))
    refine Zv (.slice V np cv) (Zc (k := 74) (args := #[.slice V np cv, .string ⟨#[44, 32]⟩]) (.string (mkS (xG x.l))) (fun w hO => by rw [hpl.1]; exact sjoin_any [44, 32] (x.l.map Co.print) V cv w (SlT.reads hP hpl.1.symm hO (fun x hx => by simp [hx])) (by decide) (by decide) (by rw [List.length_map]; omega) (fun t ht => by obtain ⟨c, hc, rfl⟩ := List.mem_map.1 ht; exact Nat.le_trans (hD (hal2 c hc)) (by decide)) hpl.2) (vC 9 #[.string (mkS (xG x.l))] (by kernel_rfl) rfl (fun _ => by kernel_rfl) (fun b2 => ?_)))
    have hal0 : (((yK xs).take i).map xG).length ≤ 6 := by rw [List.length_map, List.length_take, k8]; omega
    refine qJ (L' := ⟨b2, #[.string (mkS (xG x.l))], 9⟩ :: ⟨b1, #[.slice A xs.length cap], 25⟩ :: (ob ++ oa)) (fun w hO => own_tx3 hO) ?_
    obtain ⟨i2, z2, e21, e22, e23, e24, e25⟩ := fH
    refine kB (L' := [⟨b2, #[.string (mkS (xG x.l))], 9⟩, ⟨b1, #[.slice A xs.length cap], 25⟩] ++ ob ++ (oa)) (by simp <;> rfl) (gB (sz := 1) (by kernel_rfl) rfl Tryz.underlying58 e21 e22 e23 e24 (by kernel_rfl) hT (a := ⟨b2, 0, none⟩) (m := 1) (c := 1) (news := pP (xG x.l)) (by kernel_rfl) rfl (fun w hO j u hj => ?_) (fun u hu => by rw [List.mem_singleton.1 hu]; rfl) (by unfold maxLen; omega) (by rw [e25]; omega) (fun w2 ob2 hu2 => ?_))
    · rw [yQ, cell_of_row w b2 (0 + j) (pP (xG x.l)).toArray 9 _ (hO.held ⟨b2, (pP (xG x.l)).toArray, 9⟩ (List.mem_append_left _ (List.mem_append_left _ (List.mem_cons_self ..))))]; simpa using hj
    have hT2 : SlT w2 ((((yK xs).take i).map xG) ++ [xG x.l]) ob2 := SlT.add hu2
    obtain ⟨U2, cu2, rfl⟩ := hT2.form
    exact Zv (.slice U2 (((((yK xs).take i).map xG) ++ [xG x.l]).length) cu2) (zO (zP (zB (zA (Zu (k := .i64) (((i + 1 : Nat) : Int)) (IntWalk.i64_in _ (by omega)) (Zv (.int .i64 ((i + 1 : Nat) : Int)) (zO (xB (fun w hO => own_tx2 hO) (zS (m' := xs.length - (i + 1)) (by omega) ⟨i + 1, U2, ((((yK xs).take i).map xG) ++ [xG x.l]).length, cu2, ob2, _, ⟨by omega, bM hff hi hx hfx, by rw [List.take_succ_eq_append_getElem (by rw [k8]; exact hi), hxr, List.map_append]; exact hT2⟩, rfl, ZU, rfl⟩)))))))))
  have hall : ∀ x ∈ xs, fewA x.l = true := by have q := hff; rwa [List.take_of_length_le (by omega)] at q
  have htk : (yK xs).take i = yK xs := List.take_of_length_le (by rw [k8]; omega)
  have htl := hT.caps
  rw [htk] at hT htl
  refine Zh h2 (ZN (z7 (Zf (y7 (zF (zN (zJ (zB (z7 (zA ?_))))))))))
  exact Zv (.slice U n cu) (Zc (k := 74) (args := #[.slice U n cu, .string ⟨#[32, 124, 124, 32]⟩]) (.string (mkS (kH (yK xs)))) (fun w hO => by rw [htl.1]; exact sjoin_any [32, 124, 124, 32] ((yK xs).map xG) U cu w (SlT.reads hT htl.1.symm hO (fun x hx => by simp [hx])) (by decide) (by decide) (by rw [List.length_map, k8]; omega) (by have q := alts_le (l := yK xs) (i := xs.length) (fun a ha => by obtain ⟨x, hx, rfl⟩ := List.mem_map.1 (List.mem_of_mem_take ha); exact hall x hx); rwa [List.take_of_length_le (by rw [k8]; exact Nat.le_refl _)] at q) htl.2) (Zv (.string (mkS (kH (yK xs)))) (ZN (zC (ZF (.string (mkS (kH (yK xs)))) Tryz.results39 (fun w hO => ⟨by rw [textR_few (by omega) hall], hO.below⟩))))))
theorem f8 (A : Option Addr) (cap : Nat) (xs : List Al) (W : World) (hv : RgIn W W.heap.size A xs) (ht : HasLib W) : Calls Tryz.prog 21 #[.agg #[.slice A xs.length cap]] W fun e w' => e = .returned (.string (mkS (gN (yK xs)))) ∧ Below W.heap.size W w' := by
  obtain ⟨t, et⟩ : ∃ t, wT (yK xs) = t := ⟨_, rfl⟩
  have hsz := xH t
  refine Z2 (n := 10) Tryz.func21 rfl (ZO (Zb (.agg #[.slice A xs.length cap]) (fun b1 => Zv (.string ⟨#[]⟩) (ZR (Zl 0 ⟨b1, #[.slice A xs.length cap], 25⟩ (off := 0) (.agg #[.slice A xs.length cap]) (Zc (k := 39) (args := #[.agg #[.slice A xs.length cap]]) (.string (mkS t)) (fun w hO => vR (by rw [et]) (gtext_any A cap xs w (hv.on hO.below hO.below.size) (ht.on hO.below))) (Zv (.string (mkS t)) ?_)))))))
  refine ZN (z7 (ZO (Zv (.string (mkS t)) (Zv (.int .i64 ((mkS t).size)) ?_))))
  by_cases h1 : (96 : Int) < (mkS t).size
  · refine Zg h1 (ZY (ZO (Zv (.string ⟨#[]⟩) (ZN (zC (z6 (ZF (.string ⟨#[]⟩) Tryz.results21 ?_)))))))
    exact fun w hO => ⟨by rw [print_text, et, if_pos (by omega)]; rfl, hO.below⟩
  refine Zh h1 (ZX (ZB (ZO (Zv (.string (mkS t)) (Zv (.string (mkS t)) (zO (zB ?_)))))))
  exact zC (ZF (.string (mkS t)) Tryz.results21 (fun w hO => ⟨by rw [print_text, et, if_neg (by omega)], hO.below⟩))
theorem gMay_any (A : Option Addr) (cap : Nat) (xs : List Al) (W : World) (hv : RgIn W W.heap.size A xs) (ht : HasLib W) : Calls Tryz.prog 19 #[.agg #[.slice A xs.length cap]] W fun e w' => e = .returned (.bool (rgMay (yK xs))) ∧ Below W.heap.size W w' := by
  obtain ⟨t, et⟩ : ∃ t, gN (yK xs) = t := ⟨_, rfl⟩
  refine Z2 (n := 6) Tryz.func19 rfl (ZO (Zb (.agg #[.slice A xs.length cap]) (fun b1 => Zv Z5 (ZR (Zl 0 ⟨b1, #[.slice A xs.length cap], 25⟩ (off := 0) (.agg #[.slice A xs.length cap]) (Zc (k := 21) (args := #[.agg #[.slice A xs.length cap]]) (.string (mkS t)) (fun w hO => vR (by rw [et]) (f8 A cap xs w (hv.on hO.below hO.below.size) (ht.on hO.below))) ?_))))))
  by_cases h1 : (t : List UInt8) = []
  · exact zV Z5 (by kernel_rfl) (xC (a := t) (b := ([])) rfl (by kernel_rfl) (by kernel_rfl) (decide_eq_true (h1))) (Zv Z5 (ZN (zC (ZF Z5 Tryz.results19 (fun w hO => ⟨by rw [(print_nil (yK xs)).1 (et.trans (by assumption))], hO.below⟩)))))
  exact zV Z4 (by kernel_rfl) (xC (a := t) (b := ([])) rfl (by kernel_rfl) (by kernel_rfl) (decide_eq_false (h1))) (Zv Z4 (ZN (zC (ZF Z4 Tryz.results19 (fun w hO => ⟨by rw [show rgMay (yK xs) = true from by cases hm : rgMay (yK xs) with | true => rfl | false => exact absurd (et.symm.trans ((print_nil (yK xs)).2 hm)) (by assumption)], hO.below⟩)))))
end
section
structure Se where
  A : Option Addr
  B : Option Addr
  s : St
  c : Nat
  d : Nat
def seC (x : Se) : List Value := [.slice x.A x.s.rel.length x.c, .slice x.B x.s.pre.length x.d]
def seV (x : Se) : Value := .agg #[.slice x.A x.s.rel.length x.c, .slice x.B x.s.pre.length x.d]
theorem seC_len (x : Se) : (seC x).length = 2 := rfl
theorem se_cells (x : Se) : ∀ u ∈ seC x, u.oneCell' = true := by
  intro u hu
  unfold seC at hu
  simp only [List.mem_cons, List.not_mem_nil, or_false] at hu
  rcases hu with rfl | rfl <;> rfl
theorem seInfo : (Tryz.prog.info? 31).map (fun i => (i.zero.map (·.cells.size), i.size, i.bytes)) = some (some 2, 2, 48) := by kernel_rfl
theorem se_info : ∃ i z, Tryz.prog.info? 31 = some i ∧ i.zero = some z ∧ i.size = 2 ∧ z.cells.size = 2 ∧ i.bytes = 48 := by
  have h := seInfo
  cases hi : Tryz.prog.info? 31 with
  | none => rw [hi] at h; cases h
  | some i =>
    rw [hi] at h
    simp only [Option.map_some, Option.some.injEq, Prod.mk.injEq] at h
    cases hz : i.zero with
    | none => rw [hz] at h; simp at h
    | some z => rw [hz] at h; simp at h; exact ⟨i, z, rfl, hz, h.2.1, h.1, h.2.2⟩
structure SsIn (w : World) (B : Nat) (A : Option Addr) (xs : List Se) : Prop where
  top : Reads seC w B A xs
  each : ∀ x ∈ xs, SetIn w B x.A x.B x.s
  caps : ∀ x ∈ xs, x.s.rel.length ≤ x.c ∧ x.s.pre.length ≤ x.d
structure SsO (u : Value) (xs : List Se) (o1 o2 : List Blk) : Prop where
  top : Sl 31 2 u xs.length (xs.flatMap seC) o1
  each : ∀ x ∈ xs, ∃ o, (∀ b ∈ o, b ∈ o2) ∧ SetO (.agg #[.slice x.A x.s.rel.length x.c, .slice x.B x.s.pre.length x.d]) x.s o
theorem SsO.nil : SsO (.slice none 0 0) [] [] [] := ⟨Sl.nil _ _, fun x hx => by simp at hx⟩
theorem SsO.add {u u2 : Value} {xs : List Se} {o1 o2 o3 oa : List Blk} {A B : Option Addr} {c d : Nat} {s : St} (h : SsO u xs o1 o2) (h2 : Sl 31 2 u2 (xs.length + 1) (xs.flatMap seC ++ seC ⟨A, B, s, c, d⟩) o3) (ha : SetO (.agg #[.slice A s.rel.length c, .slice B s.pre.length d]) s oa) : SsO u2 (xs ++ [⟨A, B, s, c, d⟩]) o3 (oa ++ o2) :=
  ⟨h2.to (by simp) (by simp), fun x hx => by
    rcases List.mem_append.1 hx with hx | hx
    · obtain ⟨o, k1, k2⟩ := h.each x hx
      exact ⟨o, fun b hb => List.mem_append_right _ (k1 b hb), k2⟩
    · obtain rfl := List.mem_singleton.1 hx
      exact ⟨oa, fun b hb => List.mem_append_left _ hb, ha⟩⟩
theorem SsO.inn {A : Option Addr} {n cap : Nat} {xs : List Se} {o1 o2 L : List Blk} {M : List Nat} {W w : World} (h : SsO (.slice A n cap) xs o1 o2) (hn : xs.length = n) (hO : Own M W w L) (h1 : ∀ x ∈ o1, x ∈ L) (h2 : ∀ x ∈ o2, x ∈ L) (hf : ∀ x ∈ xs, SF x.s 198) : SsIn w w.heap.size A xs := by
  subst hn
  refine ⟨Sl.reads h.top rfl hO h1, fun x hx => ?_, fun x hx => ?_⟩
  · obtain ⟨o, k1, k2⟩ := h.each x hx
    exact SetO.inn k2 hO (fun b hb => h2 b (k1 b hb)) (hf x hx) (by decide)
  · obtain ⟨o, k1, k2⟩ := h.each x hx
    exact k2.caps
theorem se_at {xs : List Se} {r : List (List Co)} (hr : xs.map Se.s = r.map yB) {k : Nat} (hk : k < xs.length) (hk2 : k < r.length) {x : Se} (hx : xs[k] = x) : yB r[k] = x.s := by
  have q1 := List.getElem_of_eq hr (i := k) (by rw [List.length_map]; exact hk)
  rw [List.getElem_map, List.getElem_map, hx] at q1
  exact q1.symm
theorem fin_alts {r : List (List Co)} (h : fewR r = true) : ∀ s ∈ r.map yB, SF s 198 := fun s hs => by
  obtain ⟨a, ha, rfl⟩ := List.mem_map.1 hs
  exact (jJ a).le (by have := (fewA.facts ((fewR.facts h).2 a ha)).1; omega)
end
section
theorem sub0 {P : Program} {ρ : Operand → Value} {o : Oper} (k : Nat) (hr : ∀ w, (execOp ρ o).run P w = .ok (.value (.int .i64 (IntKind.i64.wrap ((k : Int) - 0)))) w) (hk : (k : Int) ≤ 9223372036854775807) (w : World) : (execOp ρ o).run P w = .ok (.value (.int .i64 (k : Int))) w := by
  rw [hr w, Int.sub_zero, IntWalk.i64_in _ (by omega)]
theorem grow4_any (k : Nat) (W : World) (hk : k ≤ 600000) :
    Calls Tryz.prog 180 #[.slice none 0 0, .int .i64 (k : Int)] W fun e w' => ∃ v' ob', e = .returned v' ∧ SlS v' [] ob' ∧ Own [] W w' ob' := by
  refine Z2 (n := 27) Tryz.func180 rfl (ZO (Zv (.slice none 0 0) (ZN (z7 (ZO (Zv (.int .i64 (k : Int)) (Zh (p := (k : Int) < 0) (by omega) (zO ?_))))))))
  refine zB (Zf (ZB (z7 (ZO (Zv (.int .i64 (k : Int)) (Zv (.slice none 0 0) (Zv (.int .i64 (0 : Int)) (Zv (.slice none 0 0) (Zv (.int .i64 (0 : Int)) ?_)))))))))
  refine Zv (.int .i64 0) (zV (.int .i64 (k : Int)) (by kernel_rfl) (fun w => sub0 k (fun _ => by kernel_rfl) (by omega) w) (Zv (.int .i64 (k : Int)) (ZR (Zv (.int .i64 (k : Int)) ?_))))
  by_cases h1 : (0 : Int) < (k : Int)
  · refine Zg h1 (ZY (zA (Zv (.slice none 0 0) (Zv (.slice none 0 0) (Zv (.int .i64 (0 : Int)) (Zv (.slice none 0 0) (Zv (.int .i64 (k : Int)) ?_)))))))
    obtain ⟨i, z, e1, e2, e3, e4, e5⟩ := kO
    refine s_append0 (sz := 14) (k := k) (by kernel_rfl) rfl (by kernel_rfl) (by kernel_rfl) Tryz.underlying29 Tryz.underlying3 e1 e2 e3 e4 (by omega) (by decide) (by unfold maxLen; omega) (by rw [e5]; omega) (fun b cs cap hcs hkc hcm => Zv (.slice none 0 0) (Zv (.int .i64 (0 : Int)) (zV (.slice (some ⟨b, 0, none⟩) 0 cap) (by kernel_rfl) (fL (b := b) (off := 0) (n := k) (c := cap) (k := .i64) (j := 0) (e := 80) (sz := 14) rfl (by kernel_rfl) (by kernel_rfl) (by kernel_rfl) (by kernel_rfl) (by omega) (by omega)) (Zv (.slice (some ⟨b, 0, none⟩) 0 cap) (ZR (Zv (.slice (some ⟨b, 0, none⟩) 0 cap) (Zv (.slice (some ⟨b, 0, none⟩) 0 cap) (zO ?_))))))))
    exact zB (zC (ZF (.slice (some ⟨b, 0, none⟩) 0 cap) Tryz.results180 (fun w hO => ⟨_, [⟨b, cs, 80⟩], rfl, ⟨rfl, .inr ⟨b, cap, cs, rfl, rfl, Nat.zero_le _, hcm, hcs, by simp⟩⟩, hO⟩)))
  refine Zh h1 (ZX (ZB (ZO (Zv (.slice none 0 0) (Zv (.slice none 0 0) (zO (zB ?_)))))))
  exact zC (ZF (.slice none 0 0) Tryz.results180 (fun w hO => ⟨_, [], rfl, Sl.nil _ _, by simpa using hO⟩))
end
section
theorem t8 {P : Program} {ty : TypeId} {w : World} {b o : Nat} {v : Value} (hc : w.cell? ⟨b, o, none⟩ = some v) (hr : kV P ty [v].toArray 0 = some v) : (loadVar ty ⟨b, o, none⟩).run P w = .ok v w :=
  old_load [v] v (fun j u h => by
    cases j with
    | zero => simp only [List.getElem?_cons_zero, Option.some.injEq] at h; rw [← h]; exact hc
    | succ j => simp at h) hr
theorem concat4_any (A B : Option Addr) (cap capb : Nat) (a b : List Sp) (W : World) (hv : Reads yJ W W.heap.size A a) (hu : Reads yJ W W.heap.size B b) (hn : a.length ≤ 100000) (hm : b.length ≤ 100000) (g : Nat) (hg : W.heap[g]? = some (.cells #[.slice A a.length cap, .slice B b.length capb] 29)) :
    Calls Tryz.prog 137 #[.slice (some ⟨g, 0, none⟩) 2 2] W fun e w' => ∃ v' ob', e = .returned v' ∧ SlS v' (a ++ b) ob' ∧ Own [] W w' ob' := by
  have hglt : g < W.heap.size := (Array.getElem?_eq_some_iff.1 hg).1
  have hcell : ∀ j u, (#[.slice A a.length cap, .slice B b.length capb] : Array Value).toList[j]? = some u → W.cell? ⟨g, 0 + j, none⟩ = some u := fun j u h => by rw [cell_of_row W g (0 + j) _ _ _ hg]; simpa using h
  refine Z2 (n := 36) Tryz.func137 rfl (ZO (Zv (.slice none 0 0) (ZR (Zv (.int .i64 0) (ZN (z7 ?_))))))
  refine ZO (Zv (.slice (some ⟨g, 0, none⟩) 2 2) (Zv (.int .i64 (2 : Int)) (Zv (.int .i64 0) (ZN (zM (yN (fun L f m => (∃  (j : Nat → Value), (True) ∧ L = [] ∧ f = xZ j [(0, .slice (some ⟨g, 0, none⟩) 2 2), (3, .int .i64 0), (9, .slice (some ⟨g, 0, none⟩) 2 2), (10, .int .i64 2), (11, .int .i64 0)] ∧ m = 3) ∨ (∃  (j : Nat → Value), (True) ∧ L = [] ∧ f = xZ j [(0, .slice (some ⟨g, 0, none⟩) 2 2), (3, .int .i64 ((0 + a.length : Nat) : Int)), (9, .slice (some ⟨g, 0, none⟩) 2 2), (10, .int .i64 2), (11, .int .i64 1)] ∧ m = 2) ∨ (∃  (j : Nat → Value), (True) ∧ L = [] ∧ f = xZ j [(0, .slice (some ⟨g, 0, none⟩) 2 2), (3, .int .i64 ((0 + a.length + b.length : Nat) : Int)), (9, .slice (some ⟨g, 0, none⟩) 2 2), (10, .int .i64 2), (11, .int .i64 2)] ∧ m = 1)) 3 (.inl ⟨_, trivial, rfl, ZU, rfl⟩) ?_))))))
  rintro L f m (⟨j, hrel, rfl, rfl, rfl⟩ | ⟨j, hrel, rfl, rfl, rfl⟩ | ⟨j, hrel, rfl, rfl, rfl⟩)
  · refine ZO (Zv Z4 (ZN (z7 (Zt (ZB (z7 (zM (z7 ?_))))))))
    refine zA (zV (Zp g 0) (by kernel_rfl) (ZV (b := g) (off := 0) (n := 2) (c := 2) (k := .i64) (j := 0) (e := 29) (sz := 1)) (Zo (.slice A a.length cap) (a := ⟨g, 0, none⟩) (fun w hO => t8 ((hO.below.cell (p := ⟨g, 0, none⟩) hglt).trans (by simpa using hcell 0 _ rfl)) (by kernel_rfl)) (Zv (.slice A a.length cap) (ZR (Zv (.int .i64 0) (Zv (.slice A a.length cap) (Zv (.int .i64 (a.length : Int)) (Zu (k := .i64) (((0 + a.length : Nat) : Int)) (IntWalk.i64_in _ (by omega)) ?_))))))))
    refine Zv (.int .i64 ((0 + a.length : Nat) : Int)) (ZR (Zv (.int .i64 ((0 + a.length : Nat) : Int)) (Zh (p := ((0 + a.length : Nat) : Int) < 0) (by omega) (ZX (yP (zP ?_))))))
    exact zB (zA (Zv (.int .i64 1) (Zv (.int .i64 1) (zO (zS (m' := 2) (by decide) (.inr (.inl ⟨_, trivial, rfl, ZU, rfl⟩)))))))
  · refine ZO (Zv Z4 (ZN (z7 (Zt (ZB (z7 (zM (z7 ?_))))))))
    refine zA (zV (Zp g 1) (by kernel_rfl) (ZV (b := g) (off := 0) (n := 2) (c := 2) (k := .i64) (j := 1) (e := 29) (sz := 1)) (Zo (.slice B b.length capb) (a := ⟨g, 1, none⟩) (fun w hO => t8 ((hO.below.cell (p := ⟨g, 1, none⟩) hglt).trans (by simpa using hcell 1 _ rfl)) (by kernel_rfl)) (Zv (.slice B b.length capb) (ZR (Zv (.int .i64 ((0 + a.length : Nat) : Int)) (Zv (.slice B b.length capb) (Zv (.int .i64 (b.length : Int)) (Zu (k := .i64) (((0 + a.length + b.length : Nat) : Int)) (IntWalk.i64_in _ (by omega)) ?_))))))))
    refine Zv (.int .i64 ((0 + a.length + b.length : Nat) : Int)) (ZR (Zv (.int .i64 ((0 + a.length + b.length : Nat) : Int)) (Zh (p := ((0 + a.length + b.length : Nat) : Int) < 0) (by omega) (ZX (yP (zP ?_))))))
    exact zB (zA (Zv (.int .i64 2) (Zv (.int .i64 2) (zO (zS (m' := 1) (by decide) (.inr (.inr (⟨_, trivial, rfl, ZU, rfl⟩))))))))
  refine ZO (Zv Z5 (ZN (z7 (Zf (y7 (zF (zN (zJ (zB ?_)))))))))
  refine ZO (Zv (.int .i64 ((0 + a.length + b.length : Nat) : Int)) (Zr (k := 180) (args := #[.slice none 0 0, .int .i64 ((0 + a.length + b.length : Nat) : Int)]) (fun v' L' => SlS v' [] L') (fun w hO => (grow4_any (0 + a.length + b.length) w (by omega)).mono fun e w' ⟨v', ob', h1, h2, h3⟩ => ⟨v', ob', h1, h2, by simpa using Own.joinN hO h3⟩) (fun v0 o0 hv0 => kB (L' := o0 ++ []) (List.append_nil _).symm (Zv (v0) (ZN (z7 (ZO (Zv (.slice (some ⟨g, 0, none⟩) 2 2) ?_))))))))
  refine Zv (.int .i64 (2 : Int)) (Zv (.int .i64 0) (ZN (zM (yN (fun L f m => (∃ (v : Value) (oq : List Blk) (j : Nat → Value), (SlS v ([]) oq) ∧ L = oq ++ [] ∧ f = xZ j [(6, v), (25, .slice (some ⟨g, 0, none⟩) 2 2), (26, .int .i64 2), (27, .int .i64 0)] ∧ m = 3) ∨ (∃ (v : Value) (oq : List Blk) (j : Nat → Value), (SlS v (a) oq) ∧ L = oq ++ [] ∧ f = xZ j [(6, v), (25, .slice (some ⟨g, 0, none⟩) 2 2), (26, .int .i64 2), (27, .int .i64 1)] ∧ m = 2) ∨ (∃ (v : Value) (oq : List Blk) (j : Nat → Value), (SlS v (a ++ b) oq) ∧ L = oq ++ [] ∧ f = xZ j [(6, v), (25, .slice (some ⟨g, 0, none⟩) 2 2), (26, .int .i64 2), (27, .int .i64 2)] ∧ m = 1)) 3 (.inl ⟨_, _, _, hv0, rfl, ZU, rfl⟩) ?_))))
  rintro L f m (⟨v, oq, j, hrel, rfl, rfl, rfl⟩ | ⟨v, oq, j, hrel, rfl, rfl, rfl⟩ | ⟨v, oq, j, hrel, rfl, rfl, rfl⟩)
  · unfold SlS at hrel
    refine ZO (Zv Z4 (ZN (z7 (Zt (ZB (z7 (zM (z7 ?_))))))))
    refine zA (zV (Zp g 0) (by kernel_rfl) (ZV (b := g) (off := 0) (n := 2) (c := 2) (k := .i64) (j := 0) (e := 29) (sz := 1)) (Zo (.slice A a.length cap) (a := ⟨g, 0, none⟩) (fun w hO => t8 ((hO.below.cell (p := ⟨g, 0, none⟩) hglt).trans (by simpa using hcell 0 _ rfl)) (by kernel_rfl)) (Zv (.slice A a.length cap) (ZN (zA (Zv (v) (Zv (.slice A a.length cap) ?_)))))))
    obtain ⟨i, z, e1, e2, e3, e4, e5⟩ := kO
    refine kB (L' := [] ++ oq ++ []) (by simp) (j9 (E := []) (ob := oq) (L0 := []) (sz := 14) (l := a) (A := A) (c := cap) zY (by kernel_rfl) rfl Tryz.underlying29 e1 e2 e3 e4 (by kernel_rfl) hrel (by kernel_rfl) (fun w hO => hv.on hO.below hO.size) xM (by unfold maxLen; first | (simp; omega) | omega) (by rw [e5]; first | (simp; omega) | omega) (fun va oa hva => kB (L' := oa ++ []) (by simp) ?_))
    have hva2 : SlS va (a) oa := hva.to (by simp) (by simp)
    exact Zv (va) (zO (zP (zB (zA (Zv (.int .i64 1) (Zv (.int .i64 1) (zO (zS (m' := 2) (by decide) (.inr (.inl ⟨va, oa, _, hva2, rfl, ZU, rfl⟩))))))))))
  · unfold SlS at hrel
    refine ZO (Zv Z4 (ZN (z7 (Zt (ZB (z7 (zM (z7 ?_))))))))
    refine zA (zV (Zp g 1) (by kernel_rfl) (ZV (b := g) (off := 0) (n := 2) (c := 2) (k := .i64) (j := 1) (e := 29) (sz := 1)) (Zo (.slice B b.length capb) (a := ⟨g, 1, none⟩) (fun w hO => t8 ((hO.below.cell (p := ⟨g, 1, none⟩) hglt).trans (by simpa using hcell 1 _ rfl)) (by kernel_rfl)) (Zv (.slice B b.length capb) (ZN (zA (Zv (v) (Zv (.slice B b.length capb) ?_)))))))
    obtain ⟨i, z, e1, e2, e3, e4, e5⟩ := kO
    refine kB (L' := [] ++ oq ++ []) (by simp) (j9 (E := []) (ob := oq) (L0 := []) (sz := 14) (l := b) (A := B) (c := capb) zY (by kernel_rfl) rfl Tryz.underlying29 e1 e2 e3 e4 (by kernel_rfl) hrel (by kernel_rfl) (fun w hO => hu.on hO.below hO.size) xM (by unfold maxLen; first | (simp; omega) | omega) (by rw [e5]; first | (simp; omega) | omega) (fun va oa hva => kB (L' := oa ++ []) (by simp) ?_))
    have hva2 : SlS va (a ++ b) oa := hva.to (by simp) (by simp)
    exact Zv (va) (zO (zP (zB (zA (Zv (.int .i64 2) (Zv (.int .i64 2) (zO (zS (m' := 1) (by decide) (.inr (.inr (⟨va, oa, _, hva2, rfl, ZU, rfl⟩)))))))))))
  unfold SlS at hrel
  refine ZO (Zv Z5 (ZN (z7 (Zf (y7 (zF (zN (zJ (zB ?_)))))))))
  exact ZO (Zv (v) (Zv (v) (ZN (zC (ZF (v) Tryz.results137 (fun w hO => ⟨v, oq, rfl, hrel, by simpa using hO⟩))))))
theorem or4_any (A B : Option Addr) (cap capb : Nat) (a b : List Sp) (W : World) (hv : Reads yJ W W.heap.size A a) (hu : Reads yJ W W.heap.size B b) (hn : a.length ≤ 100000) (hm : b.length ≤ 100000) (ha : yU a) (hb : yU b) :
    Calls Tryz.prog 83 #[.slice A a.length cap, .slice B b.length capb] W fun e w' => ∃ v' ob', e = .returned v' ∧ SlS v' (if zL a && zL b then orL a b else []) ob' ∧ Own [] W w' ob' := by
  refine Z2 (n := 24) Tryz.func83 rfl (ZO (Zv (.slice none 0 0) (ZN (z7 (ZO (Zv (.slice A a.length cap) (Zc (k := 129) (args := #[.slice A a.length cap]) (.bool (zL a)) (fun w hO => jV A cap a w (hv.on hO.below hO.size) (by omega) ha) ?_)))))))
  cases h1 : zL a with
  | true =>
    refine Zv Z5 (Zv Z5 (Zv (.slice B b.length capb) (Zc (k := 129) (args := #[.slice B b.length capb]) (.bool (zL b)) (fun w hO => jV B capb b w (hu.on hO.below hO.size) (by omega) hb) ?_)))
    cases h2 : zL b with
    | true =>
      refine Zv Z5 (Zv Z5 (ZX (ZB (ZO (Zv (.slice A a.length cap) (Zv (.slice B b.length capb) (vC 29 #[.slice A a.length cap, .slice B b.length capb] (by kernel_rfl) rfl (fun _ => by kernel_rfl) (fun b1 => ?_))))))))
      refine Zr (k := 137) (args := #[.slice (some ⟨b1, 0, none⟩) 2 2]) (fun v' L' => SlS v' (a ++ b) L') (fun w hO => (concat4_any A B cap capb a b w (hv.on hO.below hO.size) (hu.on hO.below hO.size) hn hm b1 (hO.held _ List.mem_cons_self)).mono fun e w' ⟨v', ob', h1, h2, h3⟩ => ⟨v', ob', h1, h2, Own.take (Own.joinN hO h3) (fun x hx => List.mem_append_left _ hx) h3.apart⟩) (fun cv oc hcv => ?_)
      obtain ⟨C, capc, rfl⟩ := hcv.form
      have hlen : (a ++ b).length ≤ 200000 := by rw [List.length_append]; omega
      have hlab := pI ha hb
      refine Zr (k := 136) (args := #[.slice C (a ++ b).length capc]) (fun v' L' => ∃ mv, v' = .tuple #[mv, .bool (xO (a ++ b))] ∧ SlS mv (if xO (a ++ b) then vX (a ++ b) else []) L') (fun w hO => (mJ C capc (a ++ b) w (Sl.reads hcv rfl hO (fun x hx => hx)) (by omega) hlab).mono fun e w' ⟨v', ob', h1, h2, h3⟩ => ⟨_, ob', h1, ⟨v', rfl, h2⟩, Own.take (Own.joinN hO h3) (fun x hx => List.mem_append_left _ hx) h3.apart⟩) (fun tv om htv => ?_)
      obtain ⟨mv, rfl, hmv⟩ := htv
      refine Zv (.tuple #[mv, .bool (xO (a ++ b))]) (Zv (mv) (Zv (.bool (xO (a ++ b))) (Zv (mv) (Zv (.bool (xO (a ++ b))) (ZR (Zv (mv) (Zv (mv) (zO ?_))))))))
      exact zB (zC (ZF (mv) Tryz.results83 (fun w hO => ⟨mv, om, rfl, by rw [if_pos (by simp)]; unfold orL; have hall : xO (a ++ b) = true := allMay_mem.2 (wP (by assumption) (by assumption)); rw [hall, if_pos rfl] at hmv; exact hmv, hO⟩)))
    | false =>
      refine Zv Z4 (Zv Z4 (ZY (ZO (Zv (.slice none 0 0) (ZN (zC (z6 ?_)))))))
      exact ZF (.slice none 0 0) Tryz.results83 (fun w hO => ⟨_, [], rfl, by rw [if_neg (by simp)]; exact Sl.nil _ _, by simpa using hO⟩)
  | false =>
    refine Zv Z4 (Zv Z4 (Zk (Zk (Zk (Zv Z4 (ZY (ZO (Zv (.slice none 0 0) ?_))))))))
    exact ZN (zC (z6 (ZF (.slice none 0 0) Tryz.results83 (fun w hO => ⟨_, [], rfl, by rw [if_neg (by simp)]; exact Sl.nil _ _, by simpa using hO⟩))))
end
section
structure BothB (a b : List Sp) (W : World) (A1 B1 : Option Addr) (c1 c2 n : Nat) (a1 b1 : List Sp) (v : Value) (out : List Sp) (ob : List Blk) : Prop where
  ra : Reads yJ W W.heap.size A1 a1
  rb : Reads yJ W W.heap.size B1 b1
  ca : a1.length ≤ c1
  cb : b1.length ≤ c2
  sa : yU a1
  sb : yU b1
  sl : SlS v out ob
  so : yU out
  len : out.length + n ≤ a.length + b.length
  fuel : a1.length + b1.length ≤ n
  eq : tR (a.length + b.length) [] a b = tR n out a1 b1
theorem andG_end {n : Nat} {out a b : List Sp} (h : ¬ (0 < a.length ∧ 0 < b.length)) : tR n out a b = out := by
  cases n with
  | zero => cases a <;> cases b <;> rfl
  | succ n =>
    cases a with
    | nil => rfl
    | cons s a =>
      cases b with
      | nil => rfl
      | cons u b => exact absurd ⟨by simp, by simp⟩ h
theorem drop1_short {l : List Sp} (h : yU l) : yU (l.drop 1) := fun s hs => h s (List.mem_of_mem_drop hs)
theorem BothB.stepA {a b : List Sp} {W : World} {A1 B1 : Option Addr} {c1 c2 n o b0 : Nat} {a1 b1 : List Sp} {v v2 : Value} {out : List Sp} {ob ob2 : List Blk} (h : BothB a b W A1 B1 c1 c2 n a1 b1 v out ob) (ha : 0 < a1.length) (hb : 0 < b1.length) {s u : Sp} (hs : a1[0] = s) (hu : b1[0] = u) (hA : A1 = some ⟨b0, o, none⟩)
    (he : s.hi = yV s.hi u.hi) (h2 : SlS v2 (gY out (yZ s.lo u.lo) (yV s.hi u.hi)) ob2) : BothB a b W (some ⟨b0, o + (if c1 = (1 : Int).toNat then 0 else (1 : Int).toNat * 14), none⟩) B1 (c1 - (1 : Int).toNat) c2 (n - 1) (a1.drop 1) b1 v2 (gY out (yZ s.lo u.lo) (yV s.hi u.hi)) ob2 := by
  have hss : s.short := hs ▸ h.sa _ (List.getElem_mem ha)
  have hus : u.short := hu ▸ h.sb _ (List.getElem_mem hb)
  have hf := h.fuel
  have h1 : (1 : Int).toNat = 1 := rfl
  refine ⟨h.ra.drop1 zY hA h.ca, h.rb, by rw [List.length_drop, h1]; have := h.ca; omega, h.cb, drop1_short h.sa, h.sb, h2, mR h.so (dW hss.1 hus.1) (nW hss.2 hus.2), by have := h.len; have := mS out (yZ s.lo u.lo) (yV s.hi u.hi); omega, by rw [List.length_drop]; omega, ?_⟩
  rw [h.eq]
  obtain ⟨m, rfl⟩ : ∃ m, n = m + 1 := ⟨n - 1, by omega⟩
  match a1, b1, ha, hb, hs, hu with
  | x :: a2, y :: b2, _, _, hs, hu =>
    obtain rfl : x = s := hs
    obtain rfl : y = u := hu
    conv => lhs; unfold tR
    rw [if_pos he]; rfl
theorem BothB.stepB {a b : List Sp} {W : World} {A1 B1 : Option Addr} {c1 c2 n o b0 : Nat} {a1 b1 : List Sp} {v v2 : Value} {out : List Sp} {ob ob2 : List Blk} (h : BothB a b W A1 B1 c1 c2 n a1 b1 v out ob) (ha : 0 < a1.length) (hb : 0 < b1.length) {s u : Sp} (hs : a1[0] = s) (hu : b1[0] = u) (hB : B1 = some ⟨b0, o, none⟩)
    (he : ¬ s.hi = yV s.hi u.hi) (h2 : SlS v2 (gY out (yZ s.lo u.lo) (yV s.hi u.hi)) ob2) : BothB a b W A1 (some ⟨b0, o + (if c2 = (1 : Int).toNat then 0 else (1 : Int).toNat * 14), none⟩) c1 (c2 - (1 : Int).toNat) (n - 1) a1 (b1.drop 1) v2 (gY out (yZ s.lo u.lo) (yV s.hi u.hi)) ob2 := by
  have hss : s.short := hs ▸ h.sa _ (List.getElem_mem ha)
  have hus : u.short := hu ▸ h.sb _ (List.getElem_mem hb)
  have hf := h.fuel
  have h1 : (1 : Int).toNat = 1 := rfl
  refine ⟨h.ra, h.rb.drop1 zY hB h.cb, h.ca, by rw [List.length_drop, h1]; have := h.cb; omega, h.sa, drop1_short h.sb, h2, mR h.so (dW hss.1 hus.1) (nW hss.2 hus.2), by have := h.len; have := mS out (yZ s.lo u.lo) (yV s.hi u.hi); omega, by rw [List.length_drop]; omega, ?_⟩
  rw [h.eq]
  obtain ⟨m, rfl⟩ : ∃ m, n = m + 1 := ⟨n - 1, by omega⟩
  match a1, b1, ha, hb, hs, hu with
  | x :: a2, y :: b2, _, _, hs, hu =>
    obtain rfl : x = s := hs
    obtain rfl : y = u := hu
    conv => lhs; unfold tR
    rw [if_neg he]; rfl
theorem and4_any (A B : Option Addr) (cap capb : Nat) (a b : List Sp) (W : World) (hv : Reads yJ W W.heap.size A a) (hu : Reads yJ W W.heap.size B b) (hn : a.length ≤ 100000) (hm : b.length ≤ 100000) (ha : yU a) (hb : yU b) (hca : a.length ≤ cap) (hcb : b.length ≤ capb) :
    Calls Tryz.prog 81 #[.slice A a.length cap, .slice B b.length capb] W fun e w' => ∃ v' ob', e = .returned v' ∧ SlS v' (if zL a && zL b then uP a b else []) ob' ∧ Own [] W w' ob' := by
  refine Z2 (n := 66) Tryz.func81 rfl (ZO (Zv (.slice none 0 0) (ZN (z7 (ZO (Zv (.slice A a.length cap) (Zc (k := 129) (args := #[.slice A a.length cap]) (.bool (zL a)) (fun w hO => jV A cap a w (hv.on hO.below hO.size) (by omega) ha) ?_)))))))
  cases h1 : zL a with
  | true =>
    refine Zv Z5 (Zv Z5 (Zv (.slice B b.length capb) (Zc (k := 129) (args := #[.slice B b.length capb]) (.bool (zL b)) (fun w hO => jV B capb b w (hu.on hO.below hO.size) (by omega) hb) ?_)))
    cases h2 : zL b with
    | true =>
      refine Zv Z5 (Zv Z5 (ZX (ZB (ZO (Zv (.slice none 0 0) (zO (zB ?_)))))))
      refine z7 (zM (gW (L' := [] ++ []) rfl (yN (fun L f m => ∃ (A1 : Option Addr) (B1 : Option Addr) (q1 : Nat) (q2 : Nat) (c1 : Nat) (c2 : Nat) (n : Nat) (a1 : List Sp) (b1 : List Sp) (v : Value) (out : List Sp) (ob : List Blk) (j : Nat → Value), (q1 = a1.length ∧ q2 = b1.length ∧ BothB a b W A1 B1 c1 c2 n a1 b1 v out ob) ∧ L = ob ++ [] ∧ f = xZ j [(0, .slice A1 q1 c1), (1, .slice B1 q2 c2), (5, v)] ∧ m = a1.length + b1.length) (a.length + b.length) ⟨A, B, a.length, b.length, cap, capb, a.length + b.length, a, b, _, [], [], _, ⟨rfl, rfl, ⟨hv, hu, hca, hcb, ha, hb, Sl.nil _ _, fun s hs => by simp at hs, by simp, Nat.le_refl _, rfl⟩⟩, rfl, ZU, rfl⟩ ?_)))
      rintro L f m ⟨A1, B1, q1, q2, c1, c2, n, a1, b1, v, out, ob, j, hrel, rfl, rfl, rfl⟩
      obtain ⟨hq1, hq2, hrel⟩ := hrel; subst hq1; subst hq2; have hlen := hrel.len; have hfuel := hrel.fuel; refine gW (L' := ob) (List.append_nil ob) ?_
      refine z7 (ZO (Zv (.slice A1 a1.length c1) (Zv (.int .i64 (a1.length : Int)) ?_)))
      by_cases h3 : (0 : Int) < (a1.length : Int)
      · have hka : 0 < a1.length := by omega
        obtain ⟨ba, offa, hA, hlta, hcela⟩ := hrel.ra hka
        obtain ⟨s, hs⟩ : ∃ s, a1[0] = s := ⟨_, rfl⟩
        have hsk : s.short := hs ▸ hrel.sa _ (List.getElem_mem hka)
        refine Zg h3 (Zv Z4 (Zv (.slice B1 b1.length c2) (Zv (.int .i64 (b1.length : Int)) ?_)))
        by_cases h4 : (0 : Int) < (b1.length : Int)
        · have hkb : 0 < b1.length := by omega
          obtain ⟨bb, offb, hB, hltb, hcelb⟩ := hrel.rb hkb
          obtain ⟨u, hu1⟩ : ∃ u, b1[0] = u := ⟨_, rfl⟩
          have huk : u.short := hu1 ▸ hrel.sb _ (List.getElem_mem hkb)
          refine Zg h4 (Zv Z4 (ZY (ZB (zM (z7 (jS (fun L f => ∃ (p6 p7 : Nat) (j : Nat → Value), L = ⟨p7, (z8 (yZ s.lo u.lo)).cells, 78⟩ :: (⟨p6, (z8 (yV s.lo u.lo)).cells, 78⟩ :: (ob)) ∧ f = xZ j [(0, .slice A1 a1.length c1), (1, .slice B1 b1.length c2), (5, v), (6, Zp p6 0), (7, Zp p7 0)]) ?_ ?_))))))
          · refine j0 (by kernel_rfl) (ZT 0 [] _ (.slice A1 a1.length c1) yE rfl (vS 1 [] _ (Zp ba (offa + 0 * 14)) rfl (by kernel_rfl) (by kernel_rfl) (by kernel_rfl) yE (by kernel_rfl) (fun w _ => vL (b := ba) (off := offa) (c := c1) (n := a1.length) (k := .i64) (j := 0) (e := 80) (sz := 14) rfl (by kernel_rfl) hA (by kernel_rfl) (by kernel_rfl) (by kernel_rfl) (by omega) (by omega) (by omega) w) (ZT 2 [] _ (Zp ba (offa + 0 * 14 + 0)) yE rfl (f5 3 _ (a := ⟨ba, offa + 0 * 14 + 0, none⟩) (z8 s.lo) rfl (by kernel_rfl) (by kernel_rfl) (by kernel_rfl) yE (fun w hO => Own.sub [] hO) (by kernel_rfl) rfl (by kernel_rfl) (fun w hO => zX zY (fun j u h => (hO.below.cell (p := ⟨ba, offa + j, none⟩) hlta).trans (hcela j u h)) 0 0 hka (by omega) _ (by rw [hs]; kernel_rfl)) (ZT 4 [] _ (.slice B1 b1.length c2) yE rfl (vS 5 [] _ (Zp bb (offb + 0 * 14)) rfl (by kernel_rfl) (by kernel_rfl) (by kernel_rfl) yE (by kernel_rfl) (fun w _ => vL (b := bb) (off := offb) (c := c2) (n := b1.length) (k := .i64) (j := 0) (e := 80) (sz := 14) rfl (by kernel_rfl) hB (by kernel_rfl) (by kernel_rfl) (by kernel_rfl) (by omega) (by omega) (by omega) w) (ZT 6 [] _ (Zp bb (offb + 0 * 14 + 0)) yE rfl (f5 7 _ (a := ⟨bb, offb + 0 * 14 + 0, none⟩) (z8 u.lo) rfl (by kernel_rfl) (by kernel_rfl) (by kernel_rfl) yE (fun w hO => Own.sub [] hO) (by kernel_rfl) rfl (by kernel_rfl) (fun w hO => zX zY (fun j u h => (hO.below.cell (p := ⟨bb, offb + j, none⟩) hltb).trans (hcelb j u h)) 0 0 hkb (by omega) _ (by rw [hu1]; kernel_rfl)) (h_three 8 12 13 (by kernel_rfl) ?_ ?_ ?_)))))))))
            · refine Zx [] _ (k := 130) (args := #[z8 s.lo, z8 u.lo]) (.tuple #[z8 (yV s.lo u.lo), z8 (yZ s.lo u.lo)]) rfl (fun w _ => qC s.lo u.lo w hsk.1 huk.1) (ZT 9 [] _ (.tuple #[z8 (yV s.lo u.lo), z8 (yZ s.lo u.lo)]) yE rfl (ZT 10 [] _ (z8 (yV s.lo u.lo)) yE rfl (ZT 11 [] _ (z8 (yZ s.lo u.lo)) yE rfl (uR 12 13 (by kernel_rfl) ?_ ?_))))
              · exact Zy [] _ (.agg ZE) rfl rfl (fun b1 => Zz 13 (Zy [⟨b1, ZE, 78⟩] _ (.agg ZE) rfl rfl (fun b2 => Zz 14 (ZS [⟨b2, ZE, 78⟩, ⟨b1, ZE, 78⟩] _ 1 ⟨b1, ZE, 78⟩ (off := 0) (z8 (yV s.lo u.lo)) rfl rfl (Zz 15 (ZS [⟨b2, ZE, 78⟩, ⟨b1, (z8 (yV s.lo u.lo)).cells, 78⟩] _ 0 ⟨b2, ZE, 78⟩ (off := 0) (z8 (yZ s.lo u.lo)) rfl rfl (ZZ (yL ⟨b1, b2, _, rfl, ZU⟩))))))))
              exact Zy [] _ (.agg ZE) rfl rfl (fun b1 => Zz 12 (Zy [⟨b1, ZE, 78⟩] _ (.agg ZE) rfl rfl (fun b2 => Zz 14 (ZS [⟨b2, ZE, 78⟩, ⟨b1, ZE, 78⟩] _ 0 ⟨b2, ZE, 78⟩ (off := 0) (z8 (yV s.lo u.lo)) rfl rfl (Zz 15 (ZS [⟨b2, (z8 (yV s.lo u.lo)).cells, 78⟩, ⟨b1, ZE, 78⟩] _ 1 ⟨b1, ZE, 78⟩ (off := 0) (z8 (yZ s.lo u.lo)) rfl rfl (ZZ (jX (yL ⟨b2, b1, _, rfl, ZU⟩)))))))))
            · refine Zy [] _ (.agg ZE) rfl rfl (fun b1 => uR 8 13 (by kernel_rfl) ?_ ?_)
              · exact Zx [⟨b1, ZE, 78⟩] _ (k := 130) (args := #[z8 s.lo, z8 u.lo]) (.tuple #[z8 (yV s.lo u.lo), z8 (yZ s.lo u.lo)]) rfl (fun w _ => qC s.lo u.lo w hsk.1 huk.1) (ZT 9 [⟨b1, ZE, 78⟩] _ (.tuple #[z8 (yV s.lo u.lo), z8 (yZ s.lo u.lo)]) yE rfl (ZT 10 [⟨b1, ZE, 78⟩] _ (z8 (yV s.lo u.lo)) yE rfl (ZT 11 [⟨b1, ZE, 78⟩] _ (z8 (yZ s.lo u.lo)) yE rfl (Zz 13 (Zy [⟨b1, ZE, 78⟩] _ (.agg ZE) rfl rfl (fun b2 => Zz 14 (ZS [⟨b2, ZE, 78⟩, ⟨b1, ZE, 78⟩] _ 1 ⟨b1, ZE, 78⟩ (off := 0) (z8 (yV s.lo u.lo)) rfl rfl (Zz 15 (ZS [⟨b2, ZE, 78⟩, ⟨b1, (z8 (yV s.lo u.lo)).cells, 78⟩] _ 0 ⟨b2, ZE, 78⟩ (off := 0) (z8 (yZ s.lo u.lo)) rfl rfl (ZZ (yL ⟨b1, b2, _, rfl, ZU⟩)))))))))))
              exact Zy [⟨b1, ZE, 78⟩] _ (.agg ZE) rfl rfl (fun b2 => Zz 8 (Zx [⟨b2, ZE, 78⟩, ⟨b1, ZE, 78⟩] _ (k := 130) (args := #[z8 s.lo, z8 u.lo]) (.tuple #[z8 (yV s.lo u.lo), z8 (yZ s.lo u.lo)]) rfl (fun w _ => qC s.lo u.lo w hsk.1 huk.1) (ZT 9 [⟨b2, ZE, 78⟩, ⟨b1, ZE, 78⟩] _ (.tuple #[z8 (yV s.lo u.lo), z8 (yZ s.lo u.lo)]) yE rfl (ZT 10 [⟨b2, ZE, 78⟩, ⟨b1, ZE, 78⟩] _ (z8 (yV s.lo u.lo)) yE rfl (ZT 11 [⟨b2, ZE, 78⟩, ⟨b1, ZE, 78⟩] _ (z8 (yZ s.lo u.lo)) yE rfl (Zz 14 (ZS [⟨b2, ZE, 78⟩, ⟨b1, ZE, 78⟩] _ 1 ⟨b1, ZE, 78⟩ (off := 0) (z8 (yV s.lo u.lo)) rfl rfl (Zz 15 (ZS [⟨b2, ZE, 78⟩, ⟨b1, (z8 (yV s.lo u.lo)).cells, 78⟩] _ 0 ⟨b2, ZE, 78⟩ (off := 0) (z8 (yZ s.lo u.lo)) rfl rfl (ZZ (yL ⟨b1, b2, _, rfl, ZU⟩)))))))))))
            refine Zy [] _ (.agg ZE) rfl rfl (fun b1 => uR 8 12 (by kernel_rfl) ?_ ?_)
            · refine Zx [⟨b1, ZE, 78⟩] _ (k := 130) (args := #[z8 s.lo, z8 u.lo]) (.tuple #[z8 (yV s.lo u.lo), z8 (yZ s.lo u.lo)]) rfl (fun w _ => qC s.lo u.lo w hsk.1 huk.1) (ZT 9 [⟨b1, ZE, 78⟩] _ (.tuple #[z8 (yV s.lo u.lo), z8 (yZ s.lo u.lo)]) yE rfl (ZT 10 [⟨b1, ZE, 78⟩] _ (z8 (yV s.lo u.lo)) yE rfl (ZT 11 [⟨b1, ZE, 78⟩] _ (z8 (yZ s.lo u.lo)) yE rfl (Zz 12 (Zy [⟨b1, ZE, 78⟩] _ (.agg ZE) rfl rfl (fun b2 => Zz 14 (ZS [⟨b2, ZE, 78⟩, ⟨b1, ZE, 78⟩] _ 0 ⟨b2, ZE, 78⟩ (off := 0) (z8 (yV s.lo u.lo)) rfl rfl (Zz 15 (ZS [⟨b2, (z8 (yV s.lo u.lo)).cells, 78⟩, ⟨b1, ZE, 78⟩] _ 1 ⟨b1, ZE, 78⟩ (off := 0) (z8 (yZ s.lo u.lo)) rfl rfl (ZZ (jX ?_)))))))))))
              exact yL ⟨b2, b1, _, rfl, ZU⟩
            refine Zy [⟨b1, ZE, 78⟩] _ (.agg ZE) rfl rfl (fun b2 => Zz 8 (Zx [⟨b2, ZE, 78⟩, ⟨b1, ZE, 78⟩] _ (k := 130) (args := #[z8 s.lo, z8 u.lo]) (.tuple #[z8 (yV s.lo u.lo), z8 (yZ s.lo u.lo)]) rfl (fun w _ => qC s.lo u.lo w hsk.1 huk.1) (ZT 9 [⟨b2, ZE, 78⟩, ⟨b1, ZE, 78⟩] _ (.tuple #[z8 (yV s.lo u.lo), z8 (yZ s.lo u.lo)]) yE rfl (ZT 10 [⟨b2, ZE, 78⟩, ⟨b1, ZE, 78⟩] _ (z8 (yV s.lo u.lo)) yE rfl (ZT 11 [⟨b2, ZE, 78⟩, ⟨b1, ZE, 78⟩] _ (z8 (yZ s.lo u.lo)) yE rfl (Zz 14 (ZS [⟨b2, ZE, 78⟩, ⟨b1, ZE, 78⟩] _ 0 ⟨b2, ZE, 78⟩ (off := 0) (z8 (yV s.lo u.lo)) rfl rfl (Zz 15 (ZS [⟨b2, (z8 (yV s.lo u.lo)).cells, 78⟩, ⟨b1, ZE, 78⟩] _ 1 ⟨b1, ZE, 78⟩ (off := 0) (z8 (yZ s.lo u.lo)) rfl rfl (ZZ (jX ?_)))))))))))
            exact yL ⟨b2, b1, _, rfl, ZU⟩
          · rintro L f ⟨p6, p7, j, rfl, rfl⟩
            refine zB (z7 (jS (fun L f => ∃ (p8 p9 : Nat) (j : Nat → Value), L = ⟨p9, (z8 (yZ s.hi u.hi)).cells, 78⟩ :: (⟨p8, (z8 (yV s.hi u.hi)).cells, 78⟩ :: (⟨p7, (z8 (yZ s.lo u.lo)).cells, 78⟩ :: (⟨p6, (z8 (yV s.lo u.lo)).cells, 78⟩ :: (ob)))) ∧ f = xZ j [(0, .slice A1 a1.length c1), (1, .slice B1 b1.length c2), (5, v), (6, Zp p6 0), (7, Zp p7 0), (8, Zp p8 0), (9, Zp p9 0)]) ?_ ?_))
            · refine j0 (by kernel_rfl) (ZT 0 [] _ (.slice A1 a1.length c1) yE rfl (vS 1 [] _ (Zp ba (offa + 0 * 14)) rfl (by kernel_rfl) (by kernel_rfl) (by kernel_rfl) yE (by kernel_rfl) (fun w _ => vL (b := ba) (off := offa) (c := c1) (n := a1.length) (k := .i64) (j := 0) (e := 80) (sz := 14) rfl (by kernel_rfl) hA (by kernel_rfl) (by kernel_rfl) (by kernel_rfl) (by omega) (by omega) (by omega) w) (ZT 2 [] _ (Zp ba (offa + 0 * 14 + 7)) yE rfl (f5 3 _ (a := ⟨ba, offa + 0 * 14 + 7, none⟩) (z8 s.hi) rfl (by kernel_rfl) (by kernel_rfl) (by kernel_rfl) yE (fun w hO => Own.sub [] hO) (by kernel_rfl) rfl (by kernel_rfl) (fun w hO => zX zY (fun j u h => (hO.below.cell (p := ⟨ba, offa + j, none⟩) hlta).trans (hcela j u h)) 0 7 hka (by omega) _ (by rw [hs]; kernel_rfl)) (ZT 4 [] _ (.slice B1 b1.length c2) yE rfl (vS 5 [] _ (Zp bb (offb + 0 * 14)) rfl (by kernel_rfl) (by kernel_rfl) (by kernel_rfl) yE (by kernel_rfl) (fun w _ => vL (b := bb) (off := offb) (c := c2) (n := b1.length) (k := .i64) (j := 0) (e := 80) (sz := 14) rfl (by kernel_rfl) hB (by kernel_rfl) (by kernel_rfl) (by kernel_rfl) (by omega) (by omega) (by omega) w) (ZT 6 [] _ (Zp bb (offb + 0 * 14 + 7)) yE rfl (f5 7 _ (a := ⟨bb, offb + 0 * 14 + 7, none⟩) (z8 u.hi) rfl (by kernel_rfl) (by kernel_rfl) (by kernel_rfl) yE (fun w hO => Own.sub [] hO) (by kernel_rfl) rfl (by kernel_rfl) (fun w hO => zX zY (fun j u h => (hO.below.cell (p := ⟨bb, offb + j, none⟩) hltb).trans (hcelb j u h)) 0 7 hkb (by omega) _ (by rw [hu1]; kernel_rfl)) (h_three 8 12 13 (by kernel_rfl) ?_ ?_ ?_)))))))))
              · refine Zx [] _ (k := 130) (args := #[z8 s.hi, z8 u.hi]) (.tuple #[z8 (yV s.hi u.hi), z8 (yZ s.hi u.hi)]) rfl (fun w _ => qC s.hi u.hi w hsk.2 huk.2) (ZT 9 [] _ (.tuple #[z8 (yV s.hi u.hi), z8 (yZ s.hi u.hi)]) yE rfl (ZT 10 [] _ (z8 (yV s.hi u.hi)) yE rfl (ZT 11 [] _ (z8 (yZ s.hi u.hi)) yE rfl (uR 12 13 (by kernel_rfl) ?_ ?_))))
                · exact Zy [] _ (.agg ZE) rfl rfl (fun b3 => Zz 13 (Zy [⟨b3, ZE, 78⟩] _ (.agg ZE) rfl rfl (fun b4 => Zz 14 (ZS [⟨b4, ZE, 78⟩, ⟨b3, ZE, 78⟩] _ 1 ⟨b3, ZE, 78⟩ (off := 0) (z8 (yV s.hi u.hi)) rfl rfl (Zz 15 (ZS [⟨b4, ZE, 78⟩, ⟨b3, (z8 (yV s.hi u.hi)).cells, 78⟩] _ 0 ⟨b4, ZE, 78⟩ (off := 0) (z8 (yZ s.hi u.hi)) rfl rfl (ZZ (yL ⟨b3, b4, _, rfl, ZU⟩))))))))
                exact Zy [] _ (.agg ZE) rfl rfl (fun b3 => Zz 12 (Zy [⟨b3, ZE, 78⟩] _ (.agg ZE) rfl rfl (fun b4 => Zz 14 (ZS [⟨b4, ZE, 78⟩, ⟨b3, ZE, 78⟩] _ 0 ⟨b4, ZE, 78⟩ (off := 0) (z8 (yV s.hi u.hi)) rfl rfl (Zz 15 (ZS [⟨b4, (z8 (yV s.hi u.hi)).cells, 78⟩, ⟨b3, ZE, 78⟩] _ 1 ⟨b3, ZE, 78⟩ (off := 0) (z8 (yZ s.hi u.hi)) rfl rfl (ZZ (jX (yL ⟨b4, b3, _, rfl, ZU⟩)))))))))
              · refine Zy [] _ (.agg ZE) rfl rfl (fun b3 => uR 8 13 (by kernel_rfl) ?_ ?_)
                · exact Zx [⟨b3, ZE, 78⟩] _ (k := 130) (args := #[z8 s.hi, z8 u.hi]) (.tuple #[z8 (yV s.hi u.hi), z8 (yZ s.hi u.hi)]) rfl (fun w _ => qC s.hi u.hi w hsk.2 huk.2) (ZT 9 [⟨b3, ZE, 78⟩] _ (.tuple #[z8 (yV s.hi u.hi), z8 (yZ s.hi u.hi)]) yE rfl (ZT 10 [⟨b3, ZE, 78⟩] _ (z8 (yV s.hi u.hi)) yE rfl (ZT 11 [⟨b3, ZE, 78⟩] _ (z8 (yZ s.hi u.hi)) yE rfl (Zz 13 (Zy [⟨b3, ZE, 78⟩] _ (.agg ZE) rfl rfl (fun b4 => Zz 14 (ZS [⟨b4, ZE, 78⟩, ⟨b3, ZE, 78⟩] _ 1 ⟨b3, ZE, 78⟩ (off := 0) (z8 (yV s.hi u.hi)) rfl rfl (Zz 15 (ZS [⟨b4, ZE, 78⟩, ⟨b3, (z8 (yV s.hi u.hi)).cells, 78⟩] _ 0 ⟨b4, ZE, 78⟩ (off := 0) (z8 (yZ s.hi u.hi)) rfl rfl (ZZ (yL ⟨b3, b4, _, rfl, ZU⟩)))))))))))
                exact Zy [⟨b3, ZE, 78⟩] _ (.agg ZE) rfl rfl (fun b4 => Zz 8 (Zx [⟨b4, ZE, 78⟩, ⟨b3, ZE, 78⟩] _ (k := 130) (args := #[z8 s.hi, z8 u.hi]) (.tuple #[z8 (yV s.hi u.hi), z8 (yZ s.hi u.hi)]) rfl (fun w _ => qC s.hi u.hi w hsk.2 huk.2) (ZT 9 [⟨b4, ZE, 78⟩, ⟨b3, ZE, 78⟩] _ (.tuple #[z8 (yV s.hi u.hi), z8 (yZ s.hi u.hi)]) yE rfl (ZT 10 [⟨b4, ZE, 78⟩, ⟨b3, ZE, 78⟩] _ (z8 (yV s.hi u.hi)) yE rfl (ZT 11 [⟨b4, ZE, 78⟩, ⟨b3, ZE, 78⟩] _ (z8 (yZ s.hi u.hi)) yE rfl (Zz 14 (ZS [⟨b4, ZE, 78⟩, ⟨b3, ZE, 78⟩] _ 1 ⟨b3, ZE, 78⟩ (off := 0) (z8 (yV s.hi u.hi)) rfl rfl (Zz 15 (ZS [⟨b4, ZE, 78⟩, ⟨b3, (z8 (yV s.hi u.hi)).cells, 78⟩] _ 0 ⟨b4, ZE, 78⟩ (off := 0) (z8 (yZ s.hi u.hi)) rfl rfl (ZZ (yL ⟨b3, b4, _, rfl, ZU⟩)))))))))))
              refine Zy [] _ (.agg ZE) rfl rfl (fun b3 => uR 8 12 (by kernel_rfl) ?_ ?_)
              · refine Zx [⟨b3, ZE, 78⟩] _ (k := 130) (args := #[z8 s.hi, z8 u.hi]) (.tuple #[z8 (yV s.hi u.hi), z8 (yZ s.hi u.hi)]) rfl (fun w _ => qC s.hi u.hi w hsk.2 huk.2) (ZT 9 [⟨b3, ZE, 78⟩] _ (.tuple #[z8 (yV s.hi u.hi), z8 (yZ s.hi u.hi)]) yE rfl (ZT 10 [⟨b3, ZE, 78⟩] _ (z8 (yV s.hi u.hi)) yE rfl (ZT 11 [⟨b3, ZE, 78⟩] _ (z8 (yZ s.hi u.hi)) yE rfl (Zz 12 (Zy [⟨b3, ZE, 78⟩] _ (.agg ZE) rfl rfl (fun b4 => Zz 14 (ZS [⟨b4, ZE, 78⟩, ⟨b3, ZE, 78⟩] _ 0 ⟨b4, ZE, 78⟩ (off := 0) (z8 (yV s.hi u.hi)) rfl rfl (Zz 15 (ZS [⟨b4, (z8 (yV s.hi u.hi)).cells, 78⟩, ⟨b3, ZE, 78⟩] _ 1 ⟨b3, ZE, 78⟩ (off := 0) (z8 (yZ s.hi u.hi)) rfl rfl (ZZ (jX ?_)))))))))))
                exact yL ⟨b4, b3, _, rfl, ZU⟩
              refine Zy [⟨b3, ZE, 78⟩] _ (.agg ZE) rfl rfl (fun b4 => Zz 8 (Zx [⟨b4, ZE, 78⟩, ⟨b3, ZE, 78⟩] _ (k := 130) (args := #[z8 s.hi, z8 u.hi]) (.tuple #[z8 (yV s.hi u.hi), z8 (yZ s.hi u.hi)]) rfl (fun w _ => qC s.hi u.hi w hsk.2 huk.2) (ZT 9 [⟨b4, ZE, 78⟩, ⟨b3, ZE, 78⟩] _ (.tuple #[z8 (yV s.hi u.hi), z8 (yZ s.hi u.hi)]) yE rfl (ZT 10 [⟨b4, ZE, 78⟩, ⟨b3, ZE, 78⟩] _ (z8 (yV s.hi u.hi)) yE rfl (ZT 11 [⟨b4, ZE, 78⟩, ⟨b3, ZE, 78⟩] _ (z8 (yZ s.hi u.hi)) yE rfl (Zz 14 (ZS [⟨b4, ZE, 78⟩, ⟨b3, ZE, 78⟩] _ 0 ⟨b4, ZE, 78⟩ (off := 0) (z8 (yV s.hi u.hi)) rfl rfl (Zz 15 (ZS [⟨b4, (z8 (yV s.hi u.hi)).cells, 78⟩, ⟨b3, ZE, 78⟩] _ 1 ⟨b3, ZE, 78⟩ (off := 0) (z8 (yZ s.hi u.hi)) rfl rfl (ZZ (jX ?_)))))))))))
              exact yL ⟨b4, b3, _, rfl, ZU⟩
            · rintro L f ⟨p8, p9, j, rfl, rfl⟩
              refine zB (ZO (Zv (v) (Zl 2 ⟨p7, (z8 (yZ s.lo u.lo)).cells, 78⟩ (off := 0) (z8 (yZ s.lo u.lo)) (Zl 1 ⟨p8, (z8 (yV s.hi u.hi)).cells, 78⟩ (off := 0) (z8 (yV s.hi u.hi)) (Zr (k := 131) (args := #[v, z8 (yZ s.lo u.lo), z8 (yV s.hi u.hi)]) (fun v' L' => ∃ ob', L' = [⟨p9, (z8 (yZ s.hi u.hi)).cells, 78⟩, ⟨p8, (z8 (yV s.hi u.hi)).cells, 78⟩, ⟨p7, (z8 (yZ s.lo u.lo)).cells, 78⟩, ⟨p6, (z8 (yV s.lo u.lo)).cells, 78⟩] ++ ob' ∧ SlS v' (gY out (yZ s.lo u.lo) (yV s.hi u.hi)) ob') (fun w hO => add_call (E := [⟨p9, (z8 (yZ s.hi u.hi)).cells, 78⟩, ⟨p8, (z8 (yV s.hi u.hi)).cells, 78⟩, ⟨p7, (z8 (yZ s.lo u.lo)).cells, 78⟩, ⟨p6, (z8 (yV s.lo u.lo)).cells, 78⟩]) (yZ s.lo u.lo) (yV s.hi u.hi) hO hrel.sl (by omega) hrel.so (dW hsk.1 huk.1) (nW hsk.2 huk.2)) (fun v2 L2 hv2 => ?_))))))
              obtain ⟨ob2, rfl, hs2⟩ := hv2
              refine Zv (v2) (ZN (z7 (qM (by kernel_rfl) (by kernel_rfl) (Zw (.slice A1 a1.length c1) (gC (Zp ba (offa + 0 * 14)) (by kernel_rfl) (ZA (b := ba) (off := offa) (c := c1) (n := a1.length) (k := .i64) (j := 0) (e := 80) (sz := 14) hA) (Zw (Zp ba (offa + 0 * 14 + 7)) (n4 (z8 s.hi) (a := ⟨ba, offa + 0 * 14 + 7, none⟩) (by kernel_rfl) rfl (by kernel_rfl) (fun w hO => zX zY (fun j u h => (hO.below.cell (p := ⟨ba, offa + j, none⟩) hlta).trans (hcela j u h)) 0 7 hka (by omega) _ (by rw [hs]; kernel_rfl)) (Zm 1 ⟨p8, (z8 (yV s.hi u.hi)).cells, 78⟩ (off := 0) (z8 (yV s.hi u.hi)) ?_))))))))
              by_cases h5 : s.hi = yV s.hi u.hi
              · refine gC Z4 (by kernel_rfl) (jE (u := s.hi) (v := yV s.hi u.hi) rfl (by kernel_rfl) (by kernel_rfl) (decide_eq_true (h5))) (kP (zB (Zt (zA (Zv (.slice A1 a1.length c1) (zV (.slice (some ⟨ba, offa + (if c1 = (1 : Int).toNat then 0 else (1 : Int).toNat * 14), none⟩) (a1.length - (1 : Int).toNat) (c1 - (1 : Int).toNat)) (by kernel_rfl) (run_sllA (n := a1.length) (c := c1) (k := .i64) (j := 1) (e := 80) (sz := 14) rfl (by kernel_rfl) hA (by kernel_rfl) (by kernel_rfl) (by kernel_rfl) (by omega) (by omega)) (Zv (.slice (some ⟨ba, offa + (if c1 = (1 : Int).toNat then 0 else (1 : Int).toNat * 14), none⟩) (a1.length - (1 : Int).toNat) (c1 - (1 : Int).toNat)) (zO (zP (xB (L' := ob2 ++ []) (fun w hO => by rw [List.append_nil]; exact Own.sub [_, _, _, _] hO) ?_))))))))))
                have hd1 : (a1.drop 1).length = a1.length - 1 := List.length_drop
                exact zS (m' := (a1.drop 1).length + b1.length) (by omega) ⟨some ⟨ba, offa + (if c1 = (1 : Int).toNat then 0 else (1 : Int).toNat * 14), none⟩, B1, a1.length - (1 : Int).toNat, b1.length, c1 - (1 : Int).toNat, c2, n - 1, a1.drop 1, b1, v2, gY out (yZ s.lo u.lo) (yV s.hi u.hi), ob2, _, ⟨by rw [List.length_drop]; rfl, rfl, hrel.stepA hka hkb hs hu1 hA (by assumption) hs2⟩, rfl, ZU, rfl⟩
              refine gC Z5 (by kernel_rfl) (jE (u := s.hi) (v := yV s.hi u.hi) rfl (by kernel_rfl) (by kernel_rfl) (decide_eq_false (h5))) (kP (zB (Zf (zA (Zv (.slice B1 b1.length c2) (zV (.slice (some ⟨bb, offb + (if c2 = (1 : Int).toNat then 0 else (1 : Int).toNat * 14), none⟩) (b1.length - (1 : Int).toNat) (c2 - (1 : Int).toNat)) (by kernel_rfl) (run_sllA (n := b1.length) (c := c2) (k := .i64) (j := 1) (e := 80) (sz := 14) rfl (by kernel_rfl) hB (by kernel_rfl) (by kernel_rfl) (by kernel_rfl) (by omega) (by omega)) (Zv (.slice (some ⟨bb, offb + (if c2 = (1 : Int).toNat then 0 else (1 : Int).toNat * 14), none⟩) (b1.length - (1 : Int).toNat) (c2 - (1 : Int).toNat)) (zO (zP (xB (L' := ob2 ++ []) (fun w hO => by rw [List.append_nil]; exact Own.sub [_, _, _, _] hO) ?_))))))))))
              have hd1 : (b1.drop 1).length = b1.length - 1 := List.length_drop
              exact zS (m' := a1.length + (b1.drop 1).length) (by omega) ⟨A1, some ⟨bb, offb + (if c2 = (1 : Int).toNat then 0 else (1 : Int).toNat * 14), none⟩, a1.length, b1.length - (1 : Int).toNat, c1, c2 - (1 : Int).toNat, n - 1, a1, b1.drop 1, v2, gY out (yZ s.lo u.lo) (yV s.hi u.hi), ob2, _, ⟨rfl, by rw [List.length_drop]; rfl, hrel.stepB hka hkb hs hu1 hB (by assumption) hs2⟩, rfl, ZU, rfl⟩
        refine Zh h4 (Zv Z5 (ZX (y7 (zF (zN (zJ (zB (z7 (zA ?_)))))))))
        exact Zv (v) (Zr (k := 132) (args := #[v]) (fun v' L' => SlS v' out L') (fun w hO => (uT (E := []) hO hrel.sl (by omega) hrel.so).mono fun e w' ⟨v', L', k1, ⟨ob', k2, k3⟩, k4⟩ => ⟨v', L', k1, by subst k2; exact k3, k4⟩) (fun v4 ob4 hs4 => Zv (v4) (ZN (zC (ZF (v4) Tryz.results81 (fun w hO => ⟨v4, ob4, rfl, by rw [if_pos (by simp), ← andG_eq (by assumption) (by assumption), hrel.eq, andG_end (by omega)]; exact hs4, hO⟩))))))
      refine Zh h3 (Zv Z5 (Zk (Zk (Zk (Zv Z5 (ZX (y7 (zF (zN ?_)))))))))
      exact zJ (zB (ZO (Zv (v) (Zr (k := 132) (args := #[v]) (fun v' L' => SlS v' out L') (fun w hO => (uT (E := []) hO hrel.sl (by omega) hrel.so).mono fun e w' ⟨v', L', k1, ⟨ob', k2, k3⟩, k4⟩ => ⟨v', L', k1, by subst k2; exact k3, k4⟩) (fun v4 ob4 hs4 => Zv (v4) (ZN (zC (ZF (v4) Tryz.results81 (fun w hO => ⟨v4, ob4, rfl, by rw [if_pos (by simp), ← andG_eq (by assumption) (by assumption), hrel.eq, andG_end (by omega)]; exact hs4, hO⟩)))))))))
    | false =>
      refine Zv Z4 (Zv Z4 (ZY (ZO (Zv (.slice none 0 0) (ZN (zC (z6 ?_)))))))
      exact ZF (.slice none 0 0) Tryz.results81 (fun w hO => ⟨_, [], rfl, by rw [if_neg (by simp)]; exact Sl.nil _ _, by simpa using hO⟩)
  | false =>
    refine Zv Z4 (Zv Z4 (Zk (Zk (Zk (Zv Z4 (ZY (ZO (Zv (.slice none 0 0) ?_))))))))
    exact ZN (zC (z6 (ZF (.slice none 0 0) Tryz.results81 (fun w hO => ⟨_, [], rfl, by rw [if_neg (by simp)]; exact Sl.nil _ _, by simpa using hO⟩))))
end
end Go.Proofs.YtkljdpiaghepfaaGreatDoor
