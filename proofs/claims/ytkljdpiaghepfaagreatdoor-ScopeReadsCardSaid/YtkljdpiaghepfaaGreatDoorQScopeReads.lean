/-
  ScopeReads: for every input the call returns true, and each argument reads afterwards as it read before. Conditions: none but the row's own, that the listed package-level variables read as the program's text lays them.
-/
import Derived.Test.YtkljdpiaghepfaaGreatDoorCards
import Derived.Test.YtkljdpiaghepfaaGreatDoorTie
import Derived.Test.YtkljdpiaghepfaaGreatDoorMC10

section
/-
  linchpinlaw7's awake; ScopeReads: for any string the law returns true, and nothing that was there is changed. Condition: the library's table of powers of ten reads as it is laid.
-/
namespace Go.Proofs.YtkljdpiaghepfaaGreatDoor
open Go.RowKit
set_option maxRecDepth 100000
set_option linter.unusedVariables false
set_option linter.unusedSimpArgs false
set_option maxHeartbeats 2000000

theorem fine_all (s : List UInt8) : FineR ((yE s).getD []) := by
  cases h : yE s with
  | none => exact ⟨Nat.zero_le _, fun a ha => by simp at ha⟩
  | some r =>
    have := fine_get (f9 h).1
    rwa [h] at this
def aRg : List (List Co) := [[⟨7, 2, ⟨1, 2, 0, [], []⟩⟩, ⟨2, 3, ⟨1, 3, 0, [], []⟩⟩], [⟨8, 1, ⟨2, 0, 0, [], []⟩⟩]]
theorem aG1 : yE [94, 49, 46, 50, 44, 33, 61, 49, 46, 51, 46, 48, 124, 124, 126, 50] = some aRg := by decide +kernel
theorem aG2 : yE [94, 49, 46, 50, 44, 32, 33, 61, 49, 46, 51, 46, 48, 32, 124, 124, 32, 126, 50] = some aRg := by decide +kernel
theorem aG3 : xP [94, 49, 46, 50, 44] = 6 := by decide +kernel
theorem aMay7 : rgMay aRg = true := by decide +kernel
theorem aPr7 : fN aRg = [94, 49, 46, 50, 44, 32, 33, 61, 49, 46, 51, 46, 48, 32, 124, 124, 32, 126, 50] := by decide +kernel
theorem aHas1 : qP (yT aRg) ⟨2, 9, 0, [], []⟩ = true := by rw [rgSet_has aMay7 (by decide +kernel)]; decide +kernel
theorem aHas2 : qP (yT aRg) ⟨1, 3, 0, [], []⟩ = false := by rw [rgSet_has aMay7 (by decide +kernel)]; decide +kernel
theorem aD1 : (yE [94, 49, 46, 50, 44, 33, 61, 49, 46, 51, 46, 48, 124, 124, 126, 50]).getD [] = aRg := by rw [aG1]; rfl
theorem aD2 : (yE [94, 49, 46, 50, 44, 32, 33, 61, 49, 46, 51, 46, 48, 32, 124, 124, 32, 126, 50]).getD [] = aRg := by rw [aG2]; rfl
theorem awake7_any (W : World) (ht : HasLib W) : Calls Tryz.prog 11 #[] W fun e w' => e = .returned (.bool true) ∧ Below W.heap.size W w' := by
  refine Z2 (n := 45) Tryz.func11 rfl (ZO (Zv Z5 (ZR (Zr (k := 12) (args := #[.string ⟨#[94, 49, 46, 50, 44, 33, 61, 49, 46, 51, 46, 48, 124, 124, 126, 50]⟩]) (fun v' L' => ∃ sv ob', v' = .tuple #[sv, .int .i64 0] ∧ L' = ob' ++ ([]) ∧ RgO sv (aRg) ob') (fun w hO => (m7 ([94, 49, 46, 50, 44, 33, 61, 49, 46, 51, 46, 48, 124, 124, 126, 50]) w (by decide) (ht.on hO.below)).mono fun e w' ⟨v', ob', k1, k2, k3⟩ => ⟨.tuple #[v', .int .i64 0], _, k1.trans (by rw [show xP ([94, 49, 46, 50, 44, 33, 61, 49, 46, 51, 46, 48, 124, 124, 126, 50]) = 0 from (f9 aG1).1]), ⟨v', ob', rfl, rfl, by rw [show (yE ([94, 49, 46, 50, 44, 33, 61, 49, 46, 51, 46, 48, 124, 124, 126, 50])).getD [] = aRg from aD1] at k2; exact k2⟩, Own.joinN hO k3⟩) (fun tv L1 hv1 => ?_)))))
  obtain ⟨sv1, o1, rfl, rfl, hr1⟩ := hv1
  obtain ⟨xs1, u1, p1, q1, rfl, rfl, hx1, ha1⟩ := hr1
  obtain ⟨A1, c1, rfl⟩ := Sl.form ha1.top
  refine xT (L' := p1 ++ q1) (List.append_nil _) (Zv (.tuple #[.agg #[.slice A1 xs1.length c1], .int .i64 0]) (Zv (.agg #[.slice A1 xs1.length c1]) (Zv (.int .i64 0) (Za (.agg #[.slice none 0 0]) (fun b1 => Zs 0 ⟨b1, #[.slice none 0 0], 25⟩ (off := 0) (.agg #[.slice A1 xs1.length c1]) (Zv (.int .i64 0) (ZR (Zr (k := 14) (args := #[.string ⟨#[94, 49, 46, 50, 44, 32, 33, 61, 49, 46, 51, 46, 48, 32, 124, 124, 32, 126, 50]⟩]) (fun v' L' => ∃ sv ob', v' = .tuple #[sv, .int .i64 0] ∧ L' = ob' ++ (⟨b1, #[.slice A1 xs1.length c1], 25⟩ :: ((p1 ++ q1))) ∧ SetO sv (yT (aRg)) ob') (fun w hO => (gOf_any ([94, 49, 46, 50, 44, 32, 33, 61, 49, 46, 51, 46, 48, 32, 124, 124, 32, 126, 50]) w (by decide) (ht.on hO.below)).mono fun e w' ⟨v', ob', k1, k2, k3⟩ => ⟨.tuple #[v', .int .i64 0], _, k1.trans (by rw [show xP ([94, 49, 46, 50, 44, 32, 33, 61, 49, 46, 51, 46, 48, 32, 124, 124, 32, 126, 50]) = 0 from (f9 aG2).1]), ⟨v', ob', rfl, rfl, by rw [show (yE ([94, 49, 46, 50, 44, 32, 33, 61, 49, 46, 51, 46, 48, 32, 124, 124, 32, 126, 50])).getD [] = aRg from aD2] at k2; exact k2⟩, Own.joinN hO k3⟩) (fun tv L2 hv2 => ?_)))))))))
  obtain ⟨sv2, o2, rfl, rfl, hr2⟩ := hv2
  obtain ⟨V2, U2, c2, d2, rfl⟩ := hr2.form
  refine Zv (.tuple #[.agg #[.slice V2 ((yT (aRg)).rel.length) c2, .slice U2 ((yT (aRg)).pre.length) d2], .int .i64 0]) (Zv (.agg #[.slice V2 ((yT (aRg)).rel.length) c2, .slice U2 ((yT (aRg)).pre.length) d2]) (Zv (.int .i64 0) (Za (.agg ZM) (fun b2 => Zs 0 ⟨b2, ZM, 31⟩ (off := 0) (.agg #[.slice V2 ((yT (aRg)).rel.length) c2, .slice U2 ((yT (aRg)).pre.length) d2]) (Zv (.int .i64 0) (ZR (Zr (k := 12) (args := #[.string ⟨#[94, 49, 46, 50, 44]⟩]) (fun v' L' => ∃ sv ob', v' = .tuple #[sv, .int .i64 6] ∧ L' = ob' ++ (⟨b2, #[.slice V2 ((yT (aRg)).rel.length) c2, .slice U2 ((yT (aRg)).pre.length) d2], 31⟩ :: (o2 ++ (⟨b1, #[.slice A1 xs1.length c1], 25⟩ :: ((p1 ++ q1))))) ∧ RgO sv ((yE [94, 49, 46, 50, 44]).getD []) ob') (fun w hO => (m7 ([94, 49, 46, 50, 44]) w (by decide) (ht.on hO.below)).mono fun e w' ⟨v', ob', k1, k2, k3⟩ => ⟨.tuple #[v', .int .i64 6], _, k1.trans (by rw [show xP ([94, 49, 46, 50, 44]) = 6 from aG3]), ⟨v', ob', rfl, rfl, by rw [show (yE ([94, 49, 46, 50, 44])).getD [] = (yE [94, 49, 46, 50, 44]).getD [] from rfl] at k2; exact k2⟩, Own.joinN hO k3⟩) (fun tv L3 hv3 => ?_))))))))
  obtain ⟨sv3, o3, rfl, rfl, hr3⟩ := hv3
  obtain ⟨xs3, u3, p3, q3, rfl, rfl, hx3, ha3⟩ := hr3
  obtain ⟨A3, c3, rfl⟩ := Sl.form ha3.top
  refine Zv (.tuple #[.agg #[.slice A3 xs3.length c3], .int .i64 6]) (Zv (.agg #[.slice A3 xs3.length c3]) (Zv (.int .i64 6) (Za (.agg #[.slice none 0 0]) (fun b3 => Zs 0 ⟨b3, #[.slice none 0 0], 25⟩ (off := 0) (.agg #[.slice A3 xs3.length c3]) (Zv (.int .i64 6) (ZR (Zv (.int .i64 0) (Zv Z4 ?_))))))))
  refine Zv Z4 (Zv (.int .i64 0) (Zv Z4 (Zv Z4 (Zv Z4 (d7 ⟨b1, #[.slice A1 xs1.length c1], 25⟩ (off := 0) (.agg #[.slice A1 xs1.length c1]) (by kernel_rfl) rfl (by simp) (by kernel_rfl) (by kernel_rfl) (Zc (k := 21) (args := #[.agg #[.slice A1 xs1.length c1]]) (.string (mkS [94, 49, 46, 50, 44, 32, 33, 61, 49, 46, 51, 46, 48, 32, 124, 124, 32, 126, 50])) (fun w hO => jA (by rw [hx1, aPr7]) (gPrint_any A1 c1 xs1 w (RgA.inn ha1 rfl hO (fun x hx => by simp [hx]) (fun x hx => by simp [hx]) (by rw [hx1]; exact (aD1 ▸ fine_all ([94, 49, 46, 50, 44, 33, 61, 49, 46, 51, 46, 48, 124, 124, 126, 50])))) (ht.on hO.below))) (zU Z4 (by kernel_rfl) (yM (a := ([94, 49, 46, 50, 44, 32, 33, 61, 49, 46, 51, 46, 48, 32, 124, 124, 32, 126, 50])) (b := ([94, 49, 46, 50, 44, 32, 33, 61, 49, 46, 51, 46, 48, 32, 124, 124, 32, 126, 50])) rfl (by kernel_rfl) (by kernel_rfl) (decide_eq_true (rfl))) (Zv Z4 (Zv Z4 (Zv (.int .i64 6) (Zv Z4 ?_)))))))))))
  refine Zv Z4 (Zv Z4 (d7 ⟨b2, #[.slice V2 ((yT (aRg)).rel.length) c2, .slice U2 ((yT (aRg)).pre.length) d2], 31⟩ (off := 0) (.agg #[.slice V2 ((yT (aRg)).rel.length) c2, .slice U2 ((yT (aRg)).pre.length) d2]) (by kernel_rfl) rfl (by simp) (by kernel_rfl) (by kernel_rfl) (Zv (.agg #[.int .i64 2, .int .i64 9, .int .i64 0, .string ⟨#[]⟩, .string ⟨#[]⟩]) (Zc (k := 30) (args := #[.agg #[.slice V2 ((yT (aRg)).rel.length) c2, .slice U2 ((yT (aRg)).pre.length) d2], .agg #[.int .i64 2, .int .i64 9, .int .i64 0, .string ⟨#[]⟩, .string ⟨#[]⟩]]) Z4 (fun w hO => ret_b (aHas1) (rsetHas_any V2 U2 c2 d2 (yT (aRg)) ⟨2, 9, 0, [], []⟩ w (SetO.inn hr2 hO (fun x hx => by simp [hx]) ((tY (aRg))) (by decide)) ⟨by decide, by decide⟩)) (Zv Z4 (Zv Z4 (d7 ⟨b2, #[.slice V2 ((yT (aRg)).rel.length) c2, .slice U2 ((yT (aRg)).pre.length) d2], 31⟩ (off := 0) (.agg #[.slice V2 ((yT (aRg)).rel.length) c2, .slice U2 ((yT (aRg)).pre.length) d2]) (by kernel_rfl) rfl (by simp) (by kernel_rfl) (by kernel_rfl) (Zv (.agg #[.int .i64 1, .int .i64 3, .int .i64 0, .string ⟨#[]⟩, .string ⟨#[]⟩]) (Zc (k := 30) (args := #[.agg #[.slice V2 ((yT (aRg)).rel.length) c2, .slice U2 ((yT (aRg)).pre.length) d2], .agg #[.int .i64 1, .int .i64 3, .int .i64 0, .string ⟨#[]⟩, .string ⟨#[]⟩]]) Z5 (fun w hO => ret_b (aHas2) (rsetHas_any V2 U2 c2 d2 (yT (aRg)) ⟨1, 3, 0, [], []⟩ w (SetO.inn hr2 hO (fun x hx => by simp [hx]) ((tY (aRg))) (by decide)) ⟨by decide, by decide⟩)) (Zv Z4 (Zv Z4 ?_)))))))))))
  exact Zv Z4 (ZN (zB (ZF Z4 Tryz.results11 (fun w hO => ⟨rfl, hO.below⟩))))
set_option maxHeartbeats 8000000 in
theorem scopeReads.law (W : World) (s : List UInt8) (ht : HasLib W) :
    Calls Tryz.prog 3 #[.string (mkS s)] W fun e w' => e = .returned (.bool true) ∧ Below W.heap.size W w' := by
  have hsz := yY s
  refine Z2 (n := 56) Tryz.func3 rfl (ZO (Zv Z5 (ZN (z7 (ZO (Zv (.string (mkS s)) (Zv (.int .i64 ((mkS s).size)) ?_)))))))
  by_cases h1 : (300 : Int) < (mkS s).size
  · refine Zg h1 (ZY (ZO (Zc (k := 11) (args := #[]) Z4 (fun w hO => awake7_any w (ht.on hO.below)) (Zv Z4 (ZN (zB (z6 ?_)))))))
    exact ZF Z4 Tryz.results3 (fun w hO => ⟨rfl, hO.below⟩)
  refine Zh h1 (ZX (ZB (ZO (Zv (.string (mkS s)) (Zr (k := 12) (args := #[.string (mkS s)]) (fun v' L' => ∃ sv ob', v' = .tuple #[sv, .int .i64 (xP s)] ∧ L' = ob' ++ ([]) ∧ RgO sv ((yE s).getD []) ob') (fun w hO => (m7 s w (by omega) (ht.on hO.below)).mono fun e w' ⟨v', ob', k1, k2, k3⟩ => ⟨.tuple #[v', .int .i64 (xP s)], _, k1.trans (by rw [show xP s = (xP s) from rfl]), ⟨v', ob', rfl, rfl, by rw [show (yE s).getD [] = (yE s).getD [] from rfl] at k2; exact k2⟩, Own.joinN hO k3⟩) (fun tv L1 hv1 => ?_))))))
  obtain ⟨sv1, o1, rfl, rfl, hr1⟩ := hv1
  obtain ⟨xs1, u1, p1, q1, rfl, rfl, hx1, ha1⟩ := hr1
  obtain ⟨A1, c1, rfl⟩ := Sl.form ha1.top
  refine xT (L' := p1 ++ q1) (List.append_nil _) (Zv (.tuple #[.agg #[.slice A1 xs1.length c1], .int .i64 (xP s)]) (Zv (.agg #[.slice A1 xs1.length c1]) (Zv (.int .i64 (xP s)) (Za (.agg #[.slice none 0 0]) (fun b1 => Zs 0 ⟨b1, #[.slice none 0 0], 25⟩ (off := 0) (.agg #[.slice A1 xs1.length c1]) (Zv (.int .i64 (xP s)) (ZR (Zv (.string (mkS s)) ?_))))))))
  refine Zr (k := 13) (args := #[.string (mkS s)]) (fun v' L' => ∃ sv ob', v' = .tuple #[sv, .int .i64 (xP s)] ∧ L' = ob' ++ (⟨b1, #[.slice A1 xs1.length c1], 25⟩ :: ((p1 ++ q1))) ∧ RgO sv ((yE s).getD []) ob') (fun w hO => (rsParse_any s w (by omega)).mono fun e w' ⟨v', ob', k1, k2, k3⟩ => ⟨.tuple #[v', .int .i64 (xP s)], _, k1.trans (by rw [show xP s = (xP s) from rfl]), ⟨v', ob', rfl, rfl, by rw [show (yE s).getD [] = (yE s).getD [] from rfl] at k2; exact k2⟩, Own.joinN hO k3⟩) (fun tv L2 hv2 => ?_)
  obtain ⟨sv2, o2, rfl, rfl, hr2⟩ := hv2
  obtain ⟨xs2, u2, p2, q2, rfl, rfl, hx2, ha2⟩ := hr2
  obtain ⟨A2, c2, rfl⟩ := Sl.form ha2.top
  refine Zv (.tuple #[.agg #[.slice A2 xs2.length c2], .int .i64 (xP s)]) (Zv (.agg #[.slice A2 xs2.length c2]) (Zv (.int .i64 (xP s)) (Za (.agg #[.slice none 0 0]) (fun b2 => Zs 0 ⟨b2, #[.slice none 0 0], 25⟩ (off := 0) (.agg #[.slice A2 xs2.length c2]) (Zv (.int .i64 (xP s)) (ZR (Zv (.string (mkS s)) (Zr (k := 14) (args := #[.string (mkS s)]) (fun v' L' => ∃ sv ob', v' = .tuple #[sv, .int .i64 (xP s)] ∧ L' = ob' ++ (⟨b2, #[.slice A2 xs2.length c2], 25⟩ :: ((p2 ++ q2) ++ (⟨b1, #[.slice A1 xs1.length c1], 25⟩ :: ((p1 ++ q1))))) ∧ SetO sv (yT ((yE s).getD [])) ob') (fun w hO => (gOf_any s w (by omega) (ht.on hO.below)).mono fun e w' ⟨v', ob', k1, k2, k3⟩ => ⟨.tuple #[v', .int .i64 (xP s)], _, k1.trans (by rw [show xP s = (xP s) from rfl]), ⟨v', ob', rfl, rfl, by rw [show (yE s).getD [] = (yE s).getD [] from rfl] at k2; exact k2⟩, Own.joinN hO k3⟩) (fun tv L3 hv3 => ?_)))))))))
  obtain ⟨sv3, o3, rfl, rfl, hr3⟩ := hv3
  obtain ⟨V3, U3, c3, d3, rfl⟩ := hr3.form
  refine Zv (.tuple #[.agg #[.slice V3 ((yT ((yE s).getD [])).rel.length) c3, .slice U3 ((yT ((yE s).getD [])).pre.length) d3], .int .i64 (xP s)]) (Zv (.agg #[.slice V3 ((yT ((yE s).getD [])).rel.length) c3, .slice U3 ((yT ((yE s).getD [])).pre.length) d3]) (Zv (.int .i64 (xP s)) (Za (.agg ZM) (fun b3 => Zs 0 ⟨b3, ZM, 31⟩ (off := 0) (.agg #[.slice V3 ((yT ((yE s).getD [])).rel.length) c3, .slice U3 ((yT ((yE s).getD [])).pre.length) d3]) (Zv (.int .i64 (xP s)) (ZR (Zv (.string (mkS s)) (Zr (k := 15) (args := #[.string (mkS s)]) (fun v' L' => ∃ sv ob', v' = .tuple #[sv, .int .i64 (xP s)] ∧ L' = ob' ++ (⟨b3, #[.slice V3 ((yT ((yE s).getD [])).rel.length) c3, .slice U3 ((yT ((yE s).getD [])).pre.length) d3], 31⟩ :: (o3 ++ (⟨b2, #[.slice A2 xs2.length c2], 25⟩ :: ((p2 ++ q2) ++ (⟨b1, #[.slice A1 xs1.length c1], 25⟩ :: ((p1 ++ q1))))))) ∧ SetO sv (yT ((yE s).getD [])) ob') (fun w hO => (rsOf_any s w (by omega)).mono fun e w' ⟨v', ob', k1, k2, k3⟩ => ⟨.tuple #[v', .int .i64 (xP s)], _, k1.trans (by rw [show xP s = (xP s) from rfl]), ⟨v', ob', rfl, rfl, by rw [show (yE s).getD [] = (yE s).getD [] from rfl] at k2; exact k2⟩, Own.joinN hO k3⟩) (fun tv L4 hv4 => ?_)))))))))
  obtain ⟨sv4, o4, rfl, rfl, hr4⟩ := hv4
  obtain ⟨V4, U4, c4, d4, rfl⟩ := hr4.form
  refine Zv (.tuple #[.agg #[.slice V4 ((yT ((yE s).getD [])).rel.length) c4, .slice U4 ((yT ((yE s).getD [])).pre.length) d4], .int .i64 (xP s)]) (Zv (.agg #[.slice V4 ((yT ((yE s).getD [])).rel.length) c4, .slice U4 ((yT ((yE s).getD [])).pre.length) d4]) (Zv (.int .i64 (xP s)) (Za (.agg ZM) (fun b4 => Zs 0 ⟨b4, ZM, 31⟩ (off := 0) (.agg #[.slice V4 ((yT ((yE s).getD [])).rel.length) c4, .slice U4 ((yT ((yE s).getD [])).pre.length) d4]) (Zv (.int .i64 (xP s)) (ZR (Zc (k := 11) (args := #[]) Z4 (fun w hO => awake7_any w (ht.on hO.below)) (Zv Z4 ?_))))))))
  refine d7 ⟨b1, #[.slice A1 xs1.length c1], 25⟩ (off := 0) (.agg #[.slice A1 xs1.length c1]) (by kernel_rfl) rfl (by simp) (by kernel_rfl) (by kernel_rfl) (d7 ⟨b2, #[.slice A2 xs2.length c2], 25⟩ (off := 0) (.agg #[.slice A2 xs2.length c2]) (by kernel_rfl) rfl (by simp) (by kernel_rfl) (by kernel_rfl) (Zc (k := 16) (args := #[.agg #[.slice A1 xs1.length c1], .agg #[.slice A2 xs2.length c2]]) Z4 (fun w hO => ret_b (decide_eq_true (hx1.trans hx2.symm)) (same7_any A1 A2 c1 c2 xs1 xs2 w (RgA.inn ha1 rfl hO (fun x hx => by simp [hx]) (fun x hx => by simp [hx]) (by rw [hx1]; exact fine_all s)) (RgA.inn ha2 rfl hO (fun x hx => by simp [hx]) (fun x hx => by simp [hx]) (by rw [hx2]; exact fine_all s)))) (Zv Z4 (Zv Z4 (Zv (.int .i64 (xP s)) (Zv (.int .i64 (xP s)) (Zg (p := ((xP s) : Int) = (xP s)) (rfl) (Zv Z4 (Zv Z4 (d7 ⟨b3, #[.slice V3 ((yT ((yE s).getD [])).rel.length) c3, .slice U3 ((yT ((yE s).getD [])).pre.length) d3], 31⟩ (off := 0) (.agg #[.slice V3 ((yT ((yE s).getD [])).rel.length) c3, .slice U3 ((yT ((yE s).getD [])).pre.length) d3]) (by kernel_rfl) rfl (by simp) (by kernel_rfl) (by kernel_rfl) (Zl 0 ⟨b4, #[.slice V4 ((yT ((yE s).getD [])).rel.length) c4, .slice U4 ((yT ((yE s).getD [])).pre.length) d4], 31⟩ (off := 0) (.agg #[.slice V4 ((yT ((yE s).getD [])).rel.length) c4, .slice U4 ((yT ((yE s).getD [])).pre.length) d4]) ?_)))))))))))
  refine Zc (k := 17) (args := #[.agg #[.slice V3 ((yT ((yE s).getD [])).rel.length) c3, .slice U3 ((yT ((yE s).getD [])).pre.length) d3], .agg #[.slice V4 ((yT ((yE s).getD [])).rel.length) c4, .slice U4 ((yT ((yE s).getD [])).pre.length) d4]]) Z4 (fun w hO => ret_b ((same_g _ _).trans (decide_eq_true (rfl))) (rsetSame_any V3 U3 V4 U4 c3 d3 c4 d4 (yT ((yE s).getD [])) (yT ((yE s).getD [])) w (SetO.inn hr3 hO (fun x hx => by simp [hx]) ((tY ((yE s).getD []))) (by decide)) (SetO.inn hr4 hO (fun x hx => by simp [hx]) ((tY ((yE s).getD []))) (by decide)))) (Zv Z4 (Zv Z4 (Zv (.int .i64 (xP s)) (Zv (.int .i64 (xP s)) (Zg (p := ((xP s) : Int) = (xP s)) (rfl) (Zv Z4 (Zv Z4 (ZN (zB (ZF Z4 Tryz.results3 ?_))))))))))
  exact fun w hO => ⟨rfl, hO.below⟩
end Go.Proofs.YtkljdpiaghepfaaGreatDoor
end

section
/-
  ScopeReads: for every input the call returns true, and each argument reads afterwards as it read before. Conditions: none but the row's own, that the listed package-level variables read as the program's text lays them.
-/
namespace Go.Proofs.YtkljdpiaghepfaaGreatDoor.scopeReads
open Go.ChangeShapes Go.WideShapes Go.ChangeAt Go.RowKit
open Go.ChangeMaps (open_string shut_string)
set_option linter.unusedVariables false

set_option maxRecDepth 100000 in
theorem contract (H : Type) (enc : TypeId × Value → H) (W : World) (base : Nat) (args : Array Value) (ds gs : List (DataW H)) (before : List MemPlace)
    (hval : ∀ (j : Nat) t v, Tryz.f3.params[j]? = some t → args[j]? = some v → Value.okWide Tryz.prog W .any base t v)
    (hW : DataW.Whole enc Tryz.prog Tryz.f3.params.toList Rows.scopeReadsSpec.vars false W args.toList ds gs before) (hL : laidMetH Tryz.prog Rows.scopeReadsRow.laid W) (hS : W.ShapedOpen Tryz.prog) :
    Calls Tryz.prog 3 args W fun e W' => ∃ v, e = .returned v ∧ Rows.scopeReadsSpec.post enc Tryz.prog Tryz.f3 false true false false W args v W' := by
  have ht : HasLib W := hasLib_of (hasTab_of hL (by rfl)) hS
  have hW' := hW
  obtain ⟨p, q, hA0, hV, rfl, hfz, hnd⟩ := hW
  have hA : DataW.TrodAll enc Tryz.prog W 0 (fun _ => true) true Tryz.f3.params.toList args.toList ds p := hA0
  rw [Tryz.params3] at hA hval
  obtain ⟨v0, vs0, d0, ds0, p0, q0, hargs, rfl, rfl, h0, r0⟩ := trodAll_cons hA
  obtain ⟨rfl, rfl, rfl⟩ := trodAll_nil r0
  obtain rfl : args = #[v0] := by cases args; simp_all
  obtain ⟨rfl, rfl⟩ := trodVars_none hV
  obtain ⟨s, rfl, rfl, rfl, w0⟩ := open_string Tryz.underlying9 (hval 0 9 v0 rfl rfl) h0
  clear hA0
  obtain ⟨s_l, rfl⟩ : ∃ l : List UInt8, s = mkS l := ⟨s.data.toList, (mk_self s).symm⟩
  refine (scopeReads.law W s_l ht).mono fun e W' ⟨he, hb⟩ => ?_
  subst he
  exact ⟨_, rfl, law_end laidOut (fun t ht => by rw [Tryz.params3] at ht; simp at ht; subst ht; exact ⟨by kernel_rfl, of_decide_eq_true (by kernel_rfl)⟩) rfl rfl Tryz.underlying4 hW' (by rfl) hb⟩

noncomputable def laidWorld (os : Os) : World :=
  { World.holding Tryz.prog os ⟨#[], #[], []⟩ with heap := layAt (layAt (layAt (layAt (layAt ((World.holding Tryz.prog os ⟨#[], #[], []⟩).heap) 4 Rows.laid_math_bits_deBruijn32tab) 5 Rows.laid_math_bits_deBruijn64tab) 3 Rows.laid_internal_strconv_uint64pow10) 2 Rows.laid_unicode_utf8_acceptRanges) 1 Rows.laid_unicode_utf8_first }
theorem laid_met (os : Os) : laidMet Tryz.prog Rows.scopeReadsRow.laid ((laidWorld os).forCall (fun _ _ => 0) ⟨#[], #[.string ⟨#[]⟩], []⟩).memory :=
  laidMet_of_run' 8 (by kernel_rfl) (by kernel_rfl)
theorem reads (os : Os) {H : Type} (enc : TypeId × Value → H) : ∃ places, DataW.whole enc Tryz.prog ((laidWorld os).forCall (fun _ _ => 0) ⟨#[], #[.string ⟨#[]⟩], []⟩).memory Tryz.f3.params.toList Rows.scopeReadsSpec.vars false (#[.string ⟨#[]⟩] : Array Value).toList 8 = some ([.lit (.string [])], [], places) :=
  ⟨[], by kernel_rfl⟩

set_option maxRecDepth 100000 in
theorem lifted (os : Os) (started : os.Started) (H : Type) (enc : TypeId × Value → H) (F : Stop.Interp) :
    ReturnsInHanded {} Tryz.checked os 3 .any ((OpenSpec.ofChange Rows.scopeReadsSpec).preRow enc Tryz.prog Tryz.f3 Rows.scopeReadsRow.domain false Rows.scopeReadsRow.laid) (((OpenSpec.ofChange Rows.scopeReadsSpec).at F).post enc Tryz.prog Tryz.f3 false true false false) := by
  obtain ⟨places, hx⟩ := reads os enc
  refine returnsInHanded_of_row (C := Tryz.checked) (s := OpenSpec.ofChange Rows.scopeReadsSpec) own started (by kernel_rfl) Tryz.func3
    (witness_row_at (enc := enc) (C := Tryz.checked) false (laidWorld os) #[.string ⟨#[]⟩] rfl (by kernel_rfl) (by kernel_rfl) (by kernel_rfl)
      (OpenSpec.preRow_of_cond 8 hx (by kernel_rfl) (fun k hk => by cases hk) (by kernel_rfl) (laid_met os))) ?_
  intro W base args ds gs before hval hW _ _ _ hL hS _
  exact contract H enc W base args ds gs before hval hW hL hS

theorem said : Rows.ScopeReadsSaid :=
  OpenClaim.holds_of_cond 3 Tryz.f3 rfl rfl rfl rfl rfl rfl rfl ⟨rfl, rfl, rfl, rfl, rfl⟩ rfl rfl rfl rfl rfl (by kernel_rfl) Tryz.func3 (by kernel_rfl)
    (of_decide_eq_true (by kernel_rfl)) (by unfold Func.isWrapper; first | (rw [if_pos (by decide +kernel)]; kernel_rfl) | (rw [if_neg (by decide +kernel)]; exact ⟨rfl, rfl⟩))
    (fun os started H enc _ F => by rw [OpenClaim.pre_eq_preRow]; exact lifted os started H enc F)

theorem mM (f : FuncId) (fn : Func) (hf : Tryz.pinned.checked.prog.funcNamed "linchpin/linchpinlaw7.ScopeReads" = some f) (hfn : Tryz.pinned.checked.prog.funcs[f]? = some fn) :
    false = Tryz.pinned.checked.prog.looks [] ∧ ∀ (j : Nat) t, fn.params[j]? = some t → Tryz.pinned.checked.prog.wantsStandIn t = false := by
  obtain rfl : f = 3 := Option.some.inj ((show Tryz.prog.funcNamed "linchpin/linchpinlaw7.ScopeReads" = some 3 by kernel_rfl).symm.trans hf) |>.symm
  obtain rfl : fn = Tryz.f3 := (Option.some.inj (Tryz.func3.symm.trans hfn)).symm
  refine ⟨by kernel_rfl, fun j t ht => ?_⟩
  rw [Tryz.params3] at ht
  have hm := Array.mem_of_getElem? ht
  simp at hm
  subst hm
  exact (show Tryz.prog.wantsStandIn 9 = false by kernel_rfl)

theorem card : Rows.ScopeReadsCardSaid :=
  Claim7.holds_tied_plain_at .later [] _ _ _ _ said (fun _ h => by cases h) (by kernel_rfl) (fun _ h => by cases h) scopeReads_row_tie rfl ⟨rfl, rfl⟩ (by kernel_rfl) rfl mM (by kernel_rfl)

#print axioms card
end Go.Proofs.YtkljdpiaghepfaaGreatDoor.scopeReads
end
