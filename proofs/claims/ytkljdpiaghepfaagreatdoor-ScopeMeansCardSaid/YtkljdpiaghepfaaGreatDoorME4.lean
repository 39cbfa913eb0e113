/-
  What the statement's proof leans on: the ways of walking, tI mathematics, and what the program's functions return; each theorem says on what conditions.
-/
import Derived.Deep.RegionHeld3
import Derived.Outline
import Derived.Test.YtkljdpiaghepfaaGreatDoorME3
set_option maxRecDepth 1000000
set_option maxHeartbeats 8000000
set_option linter.unusedVariables false
set_option linter.unusedSimpArgs false
namespace Go.Proofs.YtkljdpiaghepfaaGreatDoor
open Go.RowKit

section
theorem uX {W : World} {v : Value} {l : List Int} (hv : ReadsI W W.heap.size v l) (hl : l.length ≤ 9223372036854775807) (i : Nat) (n : Int) (hi : i ≤ 1000000) (hn : 0 < n) (hn2 : n ≤ 1000000) {k : Int} (hk : plc (atL l i) n = k) :
    ∀ w, Below W.heap.size W w → Calls Tryz.prog 51 #[v, .int .i64 i, .int .i64 n] w fun e w' => e = .returned (.int .i64 k) ∧ Below w.heap.size w w' := fun w hb => by
  have h := from_any v l i n w ((hv.below hb).more hb.size) hl hi hn hn2
  rw [hk] at h
  exact h.mono fun _ _ ⟨e1, e2⟩ => ⟨e1, e2 ▸ Below.refl _ _⟩
theorem jL (v : Int) (n : Nat) (hn : 0 < n) : ∃ k : Nat, plc v n = (k : Int) ∧ k < n := by
  have h := plc_in v n (by omega)
  exact ⟨(plc v n).toNat, (Int.toNat_of_nonneg h.1).symm, by omega⟩
theorem rd_num : ∀ (k : Nat), k < 8 → kQ Tryz.prog 3 #[.int .i64 0, .int .i64 1, .int .i64 2, .int .i64 3, .int .i64 0, .int .i64 1, .int .i64 10, .int .i64 9999] k = some (.int .i64 (wH k))
  | 0, _ => by kernel_rfl
  | 1, _ => by kernel_rfl
  | 2, _ => by kernel_rfl
  | 3, _ => by kernel_rfl
  | 4, _ => by kernel_rfl
  | 5, _ => by kernel_rfl
  | 6, _ => by kernel_rfl
  | 7, _ => by kernel_rfl
theorem rd_pre : ∀ (k : Nat), k < 14 → kQ Tryz.prog 9 #[.string ⟨#[]⟩, .string ⟨#[]⟩, .string ⟨#[]⟩, .string ⟨#[]⟩, .string ⟨#[48]⟩, .string ⟨#[49]⟩, .string ⟨#[50]⟩, .string ⟨#[49, 49]⟩, .string ⟨#[97]⟩, .string ⟨#[97, 46, 49]⟩, .string ⟨#[97, 46, 98]⟩, .string ⟨#[98]⟩, .string ⟨#[48, 46, 48]⟩, .string ⟨#[114, 99, 46, 49]⟩] k = some (.string (mkS (wG k)))
  | 0, _ => by kernel_rfl
  | 1, _ => by kernel_rfl
  | 2, _ => by kernel_rfl
  | 3, _ => by kernel_rfl
  | 4, _ => by kernel_rfl
  | 5, _ => by kernel_rfl
  | 6, _ => by kernel_rfl
  | 7, _ => by kernel_rfl
  | 8, _ => by kernel_rfl
  | 9, _ => by kernel_rfl
  | 10, _ => by kernel_rfl
  | 11, _ => by kernel_rfl
  | 12, _ => by kernel_rfl
  | 13, _ => by kernel_rfl
theorem rd_bld : ∀ (k : Nat), k < 6 → kQ Tryz.prog 9 #[.string ⟨#[]⟩, .string ⟨#[]⟩, .string ⟨#[]⟩, .string ⟨#[]⟩, .string ⟨#[48, 48, 55]⟩, .string ⟨#[120, 46, 49]⟩] k = some (.string (mkS (bldT k)))
  | 0, _ => by kernel_rfl
  | 1, _ => by kernel_rfl
  | 2, _ => by kernel_rfl
  | 3, _ => by kernel_rfl
  | 4, _ => by kernel_rfl
  | 5, _ => by kernel_rfl
theorem gen_any (v : Value) (l : List Int) (i : Nat) (W : World) (hv : ReadsI W W.heap.size v l) (hl : l.length ≤ 9223372036854775807) (hi : i ≤ 100000) :
    Calls Tryz.prog 26 #[v, .int .i64 (i : Int)] W fun e w' => e = .returned (y5 (zR l i)) ∧ Below W.heap.size W w' := by
  obtain ⟨k0, e0, q0⟩ := jL (atL l i) 8 (by omega)
  have f0 := uX hv hl i 8 (by omega) (by omega) (by omega) e0
  obtain ⟨k1, e1, q1⟩ := jL (atL l (i + 1)) 8 (by omega)
  have f1 := uX hv hl (i + 1) 8 (by omega) (by omega) (by omega) e1
  obtain ⟨k2, e2, q2⟩ := jL (atL l (i + 2)) 8 (by omega)
  have f2 := uX hv hl (i + 2) 8 (by omega) (by omega) (by omega) e2
  obtain ⟨k3, e3, q3⟩ := jL (atL l (i + 3)) 14 (by omega)
  have f3 := uX hv hl (i + 3) 14 (by omega) (by omega) (by omega) e3
  obtain ⟨k4, e4, q4⟩ := jL (atL l (i + 4)) 6 (by omega)
  have f4 := uX hv hl (i + 4) 6 (by omega) (by omega) (by omega) e4
  have hg : zR l i = ⟨wH k0, wH k1, wH k2, wG k3, bldT k4⟩ := by unfold zR; rw [show plc (atL l i) 8 = _ from e0, show plc (atL l (i + 1)) 8 = _ from e1, show plc (atL l (i + 2)) 8 = _ from e2, show plc (atL l (i + 3)) 14 = _ from e3, show plc (atL l (i + 4)) 6 = _ from e4]; rfl
  rw [hg]
  refine zQ (n := 41) Tryz.func26 rfl (by kernel_rfl) (by kernel_rfl) (ZO (Za (.agg #[.int .i64 0, .int .i64 0, .int .i64 0, .string ⟨#[]⟩, .string ⟨#[]⟩]) (fun b1 => ZR (Zv (.agg #[.int .i64 0, .int .i64 1, .int .i64 2, .int .i64 3, .int .i64 0, .int .i64 1, .int .i64 10, .int .i64 9999]) (Za (.agg #[.int .i64 0, .int .i64 0, .int .i64 0, .int .i64 0, .int .i64 0, .int .i64 0, .int .i64 0, .int .i64 0]) (fun b2 => Zs 0 ⟨b2, #[.int .i64 0, .int .i64 0, .int .i64 0, .int .i64 0, .int .i64 0, .int .i64 0, .int .i64 0, .int .i64 0], 70⟩ (off := 0) (.agg #[.int .i64 0, .int .i64 1, .int .i64 2, .int .i64 3, .int .i64 0, .int .i64 1, .int .i64 10, .int .i64 9999]) (zP ?_)))))))
  refine zB (ZO (Zv (.agg #[.string ⟨#[]⟩, .string ⟨#[]⟩, .string ⟨#[]⟩, .string ⟨#[]⟩, .string ⟨#[48]⟩, .string ⟨#[49]⟩, .string ⟨#[50]⟩, .string ⟨#[49, 49]⟩, .string ⟨#[97]⟩, .string ⟨#[97, 46, 49]⟩, .string ⟨#[97, 46, 98]⟩, .string ⟨#[98]⟩, .string ⟨#[48, 46, 48]⟩, .string ⟨#[114, 99, 46, 49]⟩]) (Za (.agg #[.string ⟨#[]⟩, .string ⟨#[]⟩, .string ⟨#[]⟩, .string ⟨#[]⟩, .string ⟨#[]⟩, .string ⟨#[]⟩, .string ⟨#[]⟩, .string ⟨#[]⟩, .string ⟨#[]⟩, .string ⟨#[]⟩, .string ⟨#[]⟩, .string ⟨#[]⟩, .string ⟨#[]⟩, .string ⟨#[]⟩]) (fun b3 => Zs 0 ⟨b3, #[.string ⟨#[]⟩, .string ⟨#[]⟩, .string ⟨#[]⟩, .string ⟨#[]⟩, .string ⟨#[]⟩, .string ⟨#[]⟩, .string ⟨#[]⟩, .string ⟨#[]⟩, .string ⟨#[]⟩, .string ⟨#[]⟩, .string ⟨#[]⟩, .string ⟨#[]⟩, .string ⟨#[]⟩, .string ⟨#[]⟩], 71⟩ (off := 0) (.agg #[.string ⟨#[]⟩, .string ⟨#[]⟩, .string ⟨#[]⟩, .string ⟨#[]⟩, .string ⟨#[48]⟩, .string ⟨#[49]⟩, .string ⟨#[50]⟩, .string ⟨#[49, 49]⟩, .string ⟨#[97]⟩, .string ⟨#[97, 46, 49]⟩, .string ⟨#[97, 46, 98]⟩, .string ⟨#[98]⟩, .string ⟨#[48, 46, 48]⟩, .string ⟨#[114, 99, 46, 49]⟩]) (ZR (Zv (.agg #[.string ⟨#[]⟩, .string ⟨#[]⟩, .string ⟨#[]⟩, .string ⟨#[]⟩, .string ⟨#[48, 48, 55]⟩, .string ⟨#[120, 46, 49]⟩]) (Za (.agg #[.string ⟨#[]⟩, .string ⟨#[]⟩, .string ⟨#[]⟩, .string ⟨#[]⟩, .string ⟨#[]⟩, .string ⟨#[]⟩]) (fun b4 => ?_))))))))
  refine Zs 0 ⟨b4, #[.string ⟨#[]⟩, .string ⟨#[]⟩, .string ⟨#[]⟩, .string ⟨#[]⟩, .string ⟨#[]⟩, .string ⟨#[]⟩], 72⟩ (off := 0) (.agg #[.string ⟨#[]⟩, .string ⟨#[]⟩, .string ⟨#[]⟩, .string ⟨#[]⟩, .string ⟨#[48, 48, 55]⟩, .string ⟨#[120, 46, 49]⟩]) (ZN (z6 (fW 30 (by kernel_rfl) (by kernel_rfl) (by kernel_rfl) ?_)))
  simp only [List.take_succ_cons, List.take_zero, List.drop_succ_cons, List.drop_zero]
  refine Zw (v) (Zw (.int .i64 ((i : Nat) : Int)) (Zq (k := 51) (args := #[v, .int .i64 ((i : Nat) : Int), .int .i64 8]) (.int .i64 (k0 : Int)) (fun w hO => f0 w hO.below) (gF (.pointer (some ⟨b2, k0, none⟩)) (by kernel_rfl) (bT (b := b2) (off := 0) (k := .i64) (j := (k0 : Int)) (n := 8) (e := 3) (sz := 1) rfl (by kernel_rfl) (by kernel_rfl) (by kernel_rfl) (by kernel_rfl) (by omega) (by omega) (by omega)) (j0 2 ⟨b2, #[.int .i64 0, .int .i64 1, .int .i64 2, .int .i64 3, .int .i64 0, .int .i64 1, .int .i64 10, .int .i64 9999], 70⟩ (off := k0) (.int .i64 (wH k0)) (by kernel_rfl) rfl (by kernel_rfl) (by kernel_rfl) (rd_num k0 q0) (Zw (v) (Zw (.int .i64 ((i : Nat) : Int)) (q_sum (k := .i64) (((i + 1 : Nat) : Int)) (by kernel_rfl) (fun _ => by kernel_rfl) (IntWalk.i64_in _ (by omega)) (Zq (k := 51) (args := #[v, .int .i64 ((i + 1 : Nat) : Int), .int .i64 8]) (.int .i64 (k1 : Int)) (fun w hO => f1 w hO.below) (gF (.pointer (some ⟨b2, k1, none⟩)) (by kernel_rfl) (bT (b := b2) (off := 0) (k := .i64) (j := (k1 : Int)) (n := 8) (e := 3) (sz := 1) rfl (by kernel_rfl) (by kernel_rfl) (by kernel_rfl) (by kernel_rfl) (by omega) (by omega) (by omega)) (j0 2 ⟨b2, #[.int .i64 0, .int .i64 1, .int .i64 2, .int .i64 3, .int .i64 0, .int .i64 1, .int .i64 10, .int .i64 9999], 70⟩ (off := k1) (.int .i64 (wH k1)) (by kernel_rfl) rfl (by kernel_rfl) (by kernel_rfl) (rd_num k1 q1) (Zw (v) ?_)))))))))))
  refine Zw (.int .i64 ((i : Nat) : Int)) (q_sum (k := .i64) (((i + 2 : Nat) : Int)) (by kernel_rfl) (fun _ => by kernel_rfl) (IntWalk.i64_in _ (by omega)) (Zq (k := 51) (args := #[v, .int .i64 ((i + 2 : Nat) : Int), .int .i64 8]) (.int .i64 (k2 : Int)) (fun w hO => f2 w hO.below) (gF (.pointer (some ⟨b2, k2, none⟩)) (by kernel_rfl) (bT (b := b2) (off := 0) (k := .i64) (j := (k2 : Int)) (n := 8) (e := 3) (sz := 1) rfl (by kernel_rfl) (by kernel_rfl) (by kernel_rfl) (by kernel_rfl) (by omega) (by omega) (by omega)) (j0 2 ⟨b2, #[.int .i64 0, .int .i64 1, .int .i64 2, .int .i64 3, .int .i64 0, .int .i64 1, .int .i64 10, .int .i64 9999], 70⟩ (off := k2) (.int .i64 (wH k2)) (by kernel_rfl) rfl (by kernel_rfl) (by kernel_rfl) (rd_num k2 q2) (Zw (v) (Zw (.int .i64 ((i : Nat) : Int)) (q_sum (k := .i64) (((i + 3 : Nat) : Int)) (by kernel_rfl) (fun _ => by kernel_rfl) (IntWalk.i64_in _ (by omega)) (Zq (k := 51) (args := #[v, .int .i64 ((i + 3 : Nat) : Int), .int .i64 14]) (.int .i64 (k3 : Int)) (fun w hO => f3 w hO.below) (gF (.pointer (some ⟨b3, k3, none⟩)) (by kernel_rfl) (bT (b := b3) (off := 0) (k := .i64) (j := (k3 : Int)) (n := 14) (e := 9) (sz := 1) rfl (by kernel_rfl) (by kernel_rfl) (by kernel_rfl) (by kernel_rfl) (by omega) (by omega) (by omega)) (j0 1 ⟨b3, #[.string ⟨#[]⟩, .string ⟨#[]⟩, .string ⟨#[]⟩, .string ⟨#[]⟩, .string ⟨#[48]⟩, .string ⟨#[49]⟩, .string ⟨#[50]⟩, .string ⟨#[49, 49]⟩, .string ⟨#[97]⟩, .string ⟨#[97, 46, 49]⟩, .string ⟨#[97, 46, 98]⟩, .string ⟨#[98]⟩, .string ⟨#[48, 46, 48]⟩, .string ⟨#[114, 99, 46, 49]⟩], 71⟩ (off := k3) (.string (mkS (wG k3))) (by kernel_rfl) rfl (by kernel_rfl) (by kernel_rfl) (rd_pre k3 q3) (Zw (v) ?_)))))))))))
  refine Zw (.int .i64 ((i : Nat) : Int)) (q_sum (k := .i64) (((i + 4 : Nat) : Int)) (by kernel_rfl) (fun _ => by kernel_rfl) (IntWalk.i64_in _ (by omega)) (Zq (k := 51) (args := #[v, .int .i64 ((i + 4 : Nat) : Int), .int .i64 6]) (.int .i64 (k4 : Int)) (fun w hO => f4 w hO.below) (gF (.pointer (some ⟨b4, k4, none⟩)) (by kernel_rfl) (bT (b := b4) (off := 0) (k := .i64) (j := (k4 : Int)) (n := 6) (e := 9) (sz := 1) rfl (by kernel_rfl) (by kernel_rfl) (by kernel_rfl) (by kernel_rfl) (by omega) (by omega) (by omega)) (j0 0 ⟨b4, #[.string ⟨#[]⟩, .string ⟨#[]⟩, .string ⟨#[]⟩, .string ⟨#[]⟩, .string ⟨#[48, 48, 55]⟩, .string ⟨#[120, 46, 49]⟩], 72⟩ (off := k4) (.string (mkS (bldT k4))) (by kernel_rfl) rfl (by kernel_rfl) (by kernel_rfl) (rd_bld k4 q4) (Zw (.agg #[.int .i64 (wH k0), .int .i64 (wH k1), .int .i64 (wH k2), .string (mkS (wG k3)), .string (mkS (bldT k4))]) (kP (Zs 3 ⟨b1, #[.int .i64 0, .int .i64 0, .int .i64 0, .string ⟨#[]⟩, .string ⟨#[]⟩], 44⟩ (off := 0) (.agg #[.int .i64 (wH k0), .int .i64 (wH k1), .int .i64 (wH k2), .string (mkS (wG k3)), .string (mkS (bldT k4))]) (ZN (zC (ZC 3 ⟨b1, #[.int .i64 (wH k0), .int .i64 (wH k1), .int .i64 (wH k2), .string (mkS (wG k3)), .string (mkS (bldT k4))], 44⟩ (off := 0) (.agg #[.int .i64 (wH k0), .int .i64 (wH k1), .int .i64 (wH k2), .string (mkS (wG k3)), .string (mkS (bldT k4))]) Tryz.results26 ?_))))))))))
  exact fun w hO => ⟨rfl, hO.below⟩
end
section
def ordSp (c d : Cu) : Sp := if 0 < zM c d then ⟨d, c⟩ else ⟨c, d⟩
def spG (l : List Int) (i n : Nat) : Sp := ordSp (genC l (i + 12 * n - 11)) (genC l (i + 12 * n - 5))
def spansG (l : List Int) (i : Nat) : Nat → List Sp
  | 0 => []
  | n + 1 => (if (spG l i (n + 1)).may then [spG l i (n + 1)] else []) ++ spansG l i n
structure SpI (l : List Int) (i N n : Nat) (z : Int) (u : Value) (acc : List Sp) (ob : List Blk) : Prop where
  z : z = (n : Int)
  sl : SlS u acc ob
  len : acc.length + n ≤ N
  eq : acc ++ spansG l i n = spansG l i N
end
section
def rowG (l : List Int) (i : Nat) : List Sp := uJ (spansG l i (plc (atL l i) (4 + 1 : Nat)).toNat)
end
section
theorem rel_may (a b c : Int) : (Ver.rel a b c).may = (yH a && yH b && yH c) := by
  unfold Ver.may Ver.rel
  have h1 : qO [] = true := by decide
  have h2 : q8 [] = true := by decide
  dsimp only
  rw [h1, h2, Bool.and_true, Bool.and_true]
theorem may_nat3 {v : Ver} (h : v.may = true) : (0 ≤ v.maj ∧ v.maj ≤ 9999) ∧ (0 ≤ v.min ∧ v.min ≤ 9999) ∧ (0 ≤ v.pat ∧ v.pat ≤ 9999) := by
  obtain ⟨h1, h2, h3⟩ := qD h
  unfold yH at h1 h2 h3; simp at h1 h2 h3
  exact ⟨h1, h2, h3⟩
theorem up_ok {a : Int} (h : 0 ≤ a ∧ a ≤ 9999) : yH (a + 1) = !(a == 9999) := by
  unfold yH
  by_cases e : a = 9999
  · subst e; decide
  · have : (a == 9999) = false := by simpa using e
    rw [this]; simp; omega
theorem in_ok {a : Int} (h : 0 ≤ a ∧ a ≤ 9999) : yH a = true := by unfold yH; simp; omega
theorem bump_may {v : Ver} (h : v.may = true) (k : Nat) (hk : k < 3) : (tW v k).may = y6 v k := by
  obtain ⟨h1, h2, h3⟩ := may_nat3 h
  have hz : yH 0 = true := by decide
  match k, hk with
  | 0, _ =>
    show (Ver.rel (v.maj + 1) 0 0).may = _
    rw [rel_may, up_ok h1, hz]
    unfold y6; rw [h, show xN v.maj v.min v.pat ((0 : Nat) : Int).toNat = v.maj from rfl]; simp
  | 1, _ =>
    show (Ver.rel v.maj (v.min + 1) 0).may = _
    rw [rel_may, up_ok h2, hz, in_ok h1]
    unfold y6; rw [h, show xN v.maj v.min v.pat ((1 : Nat) : Int).toNat = v.min from rfl]; simp
  | 2, _ =>
    show (Ver.rel v.maj v.min (v.pat + 1)).may = _
    rw [rel_may, up_ok h3, in_ok h1, in_ok h2]
    unfold y6; rw [h, show xN v.maj v.min v.pat ((2 : Nat) : Int).toNat = v.pat from rfl]; simp
theorem qJ {v u : Ver} {part : Int} {b : Bool} {w wr : World} {tmps : Array Value} {old : Array Value} (h2 : tmps.getD 4 undef = .pointer (some ⟨w.heap.size + 1, 0, none⟩)) (h3 : tmps.getD 5 undef = .bool b)
    (hg : wr.heap[w.heap.size + 1]? = some (.cells old 44)) (hbel : Below w.heap.size w wr) (hb : y6 v part = b) (hv : yG v part = u) :
    bodyPost Tryz.prog Tryz.f186 (BEnd v part w) .ret ⟨tmps, []⟩ (wr.setRow (w.heap.size + 1) #[.int .i64 u.maj, .int .i64 u.min, .int .i64 u.pat, .string (mkS u.pre), .string (mkS u.build)]) := by
  have hrow := setRow_heap wr (w.heap.size + 1) _ #[.int .i64 u.maj, .int .i64 u.min, .int .i64 u.pat, .string (mkS u.pre), .string (mkS u.build)] _ _ hg
  have hr := run_loadVar_row (P := Tryz.prog) _ (w.heap.size + 1) 44 44 _ _ _ hrow Tryz.underlying44 rfl (by kernel_rfl)
  have h2' : tmps[4]?.getD undef = .pointer (some ⟨w.heap.size + 1, 0, none⟩) := by simpa using h2
  have h3' : tmps[5]?.getD undef = .bool b := by simpa using h3
  refine bodyPost_ret (v := .tuple #[y5 u, .bool b]) (by simp [results, Tryz.results186, asAddr, h2', h3', hr, y5]) rfl ⟨by rw [hv, hb], gE hbel (by omega) _⟩
theorem rbump_go (v : Ver) (part : Int) (w : World) (hp : v.pre.length ≤ 1000000) (hq : v.build.length ≤ 1000000) :
    Calls Tryz.prog 186 #[y5 v, .int .i64 part] w (BEnd v part w) := by
  have cM := fun w' => vD v w' hp hq
  obtain ⟨m, hm⟩ : ∃ m, v.may = m := ⟨_, rfl⟩
  rw [hm] at cM
  obtain ⟨a, b, c, p, q⟩ := v
  unfold y5 at cM ⊢
  dsimp only at cM ⊢
  cases m with
  | false =>
    have HB : Hid (y6 ⟨a, b, c, p, q⟩ part = false) := by show _ = _; unfold y6; rw [hm]; rfl
    clear hm
    go_enter Tryz.func186, Tryz.ntmps186
    go_wp2_with fail
    refine (cM _).mono ?_
    rintro e w1 ⟨rfl, hb1⟩
    have hgR := Lib.hid ((hb1.block (w.heap.size + 1) (by simp only [zV]; omega)).trans (uE _ _ _ (by simp only [zV])))
    have hbw : Below w.heap.size w w1 := (((Below.refl _ _).alloc (Nat.le_refl _) _).alloc (by simp only [zV]; omega) _).trans (hb1.mono (by simp only [zV]; omega))
    go_wp2_with (refine wpList_store_row rfl 44 _ _ rfl (w.heap.size + 1) #[.int .i64 0, .int .i64 0, .int .i64 0, .string ⟨#[]⟩, .string ⟨#[]⟩] rfl rfl _ _ hgR.out (by kernel_rfl) rfl (kI _ _ _ _ _) ?_)
    exact qJ (u := Ver.zero) rfl rfl hgR.out hbw HB.out (by unfold yG; rw [HB.out]; rfl)
  | true =>
    have HM := Lib.hid hm
    obtain ⟨⟨a0, a9⟩, ⟨b0, b9⟩, ⟨c0, c9⟩⟩ := may_nat3 hm
    dsimp only at a0 a9 b0 b9 c0 c9
    clear hm
    go_enter Tryz.func186, Tryz.ntmps186
    go_wp2_with fail
    refine (cM _).mono ?_
    rintro e w1 ⟨rfl, hb1⟩
    have hz1 := hb1.size
    simp only [zV] at hz1
    have hgB := (hb1.block w.heap.size (by simp only [zV]; omega)).trans ((xO _ _ (by simp only [zV]; omega)).trans (kT w _))
    have hgR := Lib.hid ((hb1.block (w.heap.size + 1) (by simp only [zV]; omega)).trans (uE _ _ _ (by simp only [zV])))
    have hbw : Below w.heap.size w w1 := (((Below.refl _ _).alloc (Nat.le_refl _) _).alloc (by simp only [zV]; omega) _).trans (hb1.mono (by simp only [zV]; omega))
    obtain ⟨k0, _⟩ := x9 (j := 0) hgB (by simp)
    obtain ⟨k1, _⟩ := x9 (j := 1) hgB (by simp)
    obtain ⟨k2, _⟩ := x9 (j := 2) hgB (by simp)
    simp only [List.getElem_toArray, List.getElem_cons_succ, List.getElem_cons_zero] at k0 k1 k2
    have hsB : w.heap.size < w1.heap.size := by omega
    clear hgB hb1 cM
    by_cases p0 : part < 0
    · have HB : Hid (y6 ⟨a, b, c, p, q⟩ part = false) := by show _ = _; unfold y6; rw [decide_eq_false (by omega)]; simp
      go_wp2_with (refine wpList_store_row rfl 44 _ _ rfl (w.heap.size + 1) #[.int .i64 0, .int .i64 0, .int .i64 0, .string ⟨#[]⟩, .string ⟨#[]⟩] rfl rfl _ _ hgR.out (by kernel_rfl) rfl (kI _ _ _ _ _) ?_)
      exact qJ (u := Ver.zero) rfl rfl hgR.out hbw HB.out (by unfold yG; rw [HB.out]; rfl)
    · by_cases p3 : 2 < part
      · have HB : Hid (y6 ⟨a, b, c, p, q⟩ part = false) := by show _ = _; unfold y6; rw [decide_eq_false (by omega)]; simp
        go_wp2_with (refine wpList_store_row rfl 44 _ _ rfl (w.heap.size + 1) #[.int .i64 0, .int .i64 0, .int .i64 0, .string ⟨#[]⟩, .string ⟨#[]⟩] rfl rfl _ _ hgR.out (by kernel_rfl) rfl (kI _ _ _ _ _) ?_)
        exact qJ (u := Ver.zero) rfl rfl hgR.out hbw HB.out (by unfold yG; rw [HB.out]; rfl)
      · have hpart : part = ((0 : Nat) : Int) ∨ part = ((1 : Nat) : Int) ∨ part = ((2 : Nat) : Int) := by omega
        clear p0 p3
        rcases hpart with rfl | rfl | rfl
        · have hmb := bump_may (v := ⟨a, b, c, p, q⟩) HM.out 0 (by omega)
          have cO := fun w' => vD (tW ⟨a, b, c, p, q⟩ 0) w' (by show (0 : Nat) ≤ _; omega) (by show (0 : Nat) ≤ _; omega)
          rw [hmb] at cO
          obtain ⟨o, ho⟩ : ∃ o, y6 ⟨a, b, c, p, q⟩ ((0 : Nat) : Int) = o := ⟨_, rfl⟩
          have hval : o = true → yG ⟨a, b, c, p, q⟩ ((0 : Nat) : Int) = Ver.rel (a + 1) (0) (0) := fun h => by unfold yG; rw [ho, h]; rfl
          have hval2 : o = false → yG ⟨a, b, c, p, q⟩ ((0 : Nat) : Int) = Ver.zero := fun h => by unfold yG; rw [ho, h]; rfl
          rw [ho] at cO
          have HO := Lib.hid ho
          have HV := Lib.hid hval
          have HV2 := Lib.hid hval2
          clear ho hval hval2 hmb
          rw [show tW ⟨a, b, c, p, q⟩ 0 = Ver.rel (a + 1) (0) (0) from rfl] at cO
          unfold y5 Ver.rel at cO
          dsimp only at cO
          go_wp2_with fail
          refine (cO _).mono ?_
          rintro e w2 ⟨rfl, hb2⟩
          have hg2 := Lib.hid ((hb2.block (w.heap.size + 1) (by rw [zV]; omega)).trans ((xO w1 _ (by omega)).trans hgR.out))
          have hgV := Lib.hid ((hb2.block w1.heap.size (by rw [zV]; omega)).trans (kT w1 _))
          have hbw2 : Below w.heap.size w w2 := (hbw.alloc (by omega) _).trans (hb2.mono (by rw [zV]; omega))
          cases o with
          | false =>
            go_wp2_with (refine wpList_store_row rfl 44 _ _ rfl (w.heap.size + 1) #[.int .i64 0, .int .i64 0, .int .i64 0, .string ⟨#[]⟩, .string ⟨#[]⟩] rfl rfl _ _ hg2.out (by kernel_rfl) rfl (kI _ _ _ _ _) ?_)
            exact qJ (u := Ver.zero) rfl rfl hg2.out hbw2 HO.out (HV2.out trivial)
          | true =>
            go_wp2_with (first
              | (refine wpList_load_row rfl 44 _ rfl w1.heap.size rfl _ _ _ _ hgV.out Tryz.underlying44 rfl (by kernel_rfl) ?_)
              | (refine wpList_store_row rfl 44 _ _ rfl (w.heap.size + 1) _ rfl rfl _ _ hg2.out (by kernel_rfl) rfl (kI _ _ _ _ _) ?_))
            exact qJ (u := Ver.rel (a + 1) (0) (0)) rfl rfl hg2.out hbw2 HO.out (HV.out trivial)
        · have hmb := bump_may (v := ⟨a, b, c, p, q⟩) HM.out 1 (by omega)
          have cO := fun w' => vD (tW ⟨a, b, c, p, q⟩ 1) w' (by show (0 : Nat) ≤ _; omega) (by show (0 : Nat) ≤ _; omega)
          rw [hmb] at cO
          obtain ⟨o, ho⟩ : ∃ o, y6 ⟨a, b, c, p, q⟩ ((1 : Nat) : Int) = o := ⟨_, rfl⟩
          have hval : o = true → yG ⟨a, b, c, p, q⟩ ((1 : Nat) : Int) = Ver.rel (a) (b + 1) (0) := fun h => by unfold yG; rw [ho, h]; rfl
          have hval2 : o = false → yG ⟨a, b, c, p, q⟩ ((1 : Nat) : Int) = Ver.zero := fun h => by unfold yG; rw [ho, h]; rfl
          rw [ho] at cO
          have HO := Lib.hid ho
          have HV := Lib.hid hval
          have HV2 := Lib.hid hval2
          clear ho hval hval2 hmb
          rw [show tW ⟨a, b, c, p, q⟩ 1 = Ver.rel (a) (b + 1) (0) from rfl] at cO
          unfold y5 Ver.rel at cO
          dsimp only at cO
          go_wp2_with fail
          refine (cO _).mono ?_
          rintro e w2 ⟨rfl, hb2⟩
          have hg2 := Lib.hid ((hb2.block (w.heap.size + 1) (by rw [zV]; omega)).trans ((xO w1 _ (by omega)).trans hgR.out))
          have hgV := Lib.hid ((hb2.block w1.heap.size (by rw [zV]; omega)).trans (kT w1 _))
          have hbw2 : Below w.heap.size w w2 := (hbw.alloc (by omega) _).trans (hb2.mono (by rw [zV]; omega))
          cases o with
          | false =>
            go_wp2_with (refine wpList_store_row rfl 44 _ _ rfl (w.heap.size + 1) #[.int .i64 0, .int .i64 0, .int .i64 0, .string ⟨#[]⟩, .string ⟨#[]⟩] rfl rfl _ _ hg2.out (by kernel_rfl) rfl (kI _ _ _ _ _) ?_)
            exact qJ (u := Ver.zero) rfl rfl hg2.out hbw2 HO.out (HV2.out trivial)
          | true =>
            go_wp2_with (first
              | (refine wpList_load_row rfl 44 _ rfl w1.heap.size rfl _ _ _ _ hgV.out Tryz.underlying44 rfl (by kernel_rfl) ?_)
              | (refine wpList_store_row rfl 44 _ _ rfl (w.heap.size + 1) _ rfl rfl _ _ hg2.out (by kernel_rfl) rfl (kI _ _ _ _ _) ?_))
            exact qJ (u := Ver.rel (a) (b + 1) (0)) rfl rfl hg2.out hbw2 HO.out (HV.out trivial)
        · have hmb := bump_may (v := ⟨a, b, c, p, q⟩) HM.out 2 (by omega)
          have cO := fun w' => vD (tW ⟨a, b, c, p, q⟩ 2) w' (by show (0 : Nat) ≤ _; omega) (by show (0 : Nat) ≤ _; omega)
          rw [hmb] at cO
          obtain ⟨o, ho⟩ : ∃ o, y6 ⟨a, b, c, p, q⟩ ((2 : Nat) : Int) = o := ⟨_, rfl⟩
          have hval : o = true → yG ⟨a, b, c, p, q⟩ ((2 : Nat) : Int) = Ver.rel (a) (b) (c + 1) := fun h => by unfold yG; rw [ho, h]; rfl
          have hval2 : o = false → yG ⟨a, b, c, p, q⟩ ((2 : Nat) : Int) = Ver.zero := fun h => by unfold yG; rw [ho, h]; rfl
          rw [ho] at cO
          have HO := Lib.hid ho
          have HV := Lib.hid hval
          have HV2 := Lib.hid hval2
          clear ho hval hval2 hmb
          rw [show tW ⟨a, b, c, p, q⟩ 2 = Ver.rel (a) (b) (c + 1) from rfl] at cO
          unfold y5 Ver.rel at cO
          dsimp only at cO
          go_wp2_with fail
          refine (cO _).mono ?_
          rintro e w2 ⟨rfl, hb2⟩
          have hg2 := Lib.hid ((hb2.block (w.heap.size + 1) (by rw [zV]; omega)).trans ((xO w1 _ (by omega)).trans hgR.out))
          have hgV := Lib.hid ((hb2.block w1.heap.size (by rw [zV]; omega)).trans (kT w1 _))
          have hbw2 : Below w.heap.size w w2 := (hbw.alloc (by omega) _).trans (hb2.mono (by rw [zV]; omega))
          cases o with
          | false =>
            go_wp2_with (refine wpList_store_row rfl 44 _ _ rfl (w.heap.size + 1) #[.int .i64 0, .int .i64 0, .int .i64 0, .string ⟨#[]⟩, .string ⟨#[]⟩] rfl rfl _ _ hg2.out (by kernel_rfl) rfl (kI _ _ _ _ _) ?_)
            exact qJ (u := Ver.zero) rfl rfl hg2.out hbw2 HO.out (HV2.out trivial)
          | true =>
            go_wp2_with (first
              | (refine wpList_load_row rfl 44 _ rfl w1.heap.size rfl _ _ _ _ hgV.out Tryz.underlying44 rfl (by kernel_rfl) ?_)
              | (refine wpList_store_row rfl 44 _ _ rfl (w.heap.size + 1) _ rfl rfl _ _ hg2.out (by kernel_rfl) rfl (kI _ _ _ _ _) ?_))
            exact qJ (u := Ver.rel (a) (b) (c + 1)) rfl rfl hg2.out hbw2 HO.out (HV.out trivial)
theorem rbump_any (v : Ver) (part : Int) (w : World) (hp : v.pre.length ≤ 1000000) (hq : v.build.length ≤ 1000000) :
    Calls Tryz.prog 186 #[y5 v, .int .i64 part] w fun e w' => e = .returned (.tuple #[y5 (yG v part), .bool (y6 v part)]) ∧ Below w.heap.size w w' := rbump_go v part w hp hq
end
section
theorem core_short {v : Ver} (h : v.short) : (yF v).short := ⟨h.1, by show ([] : List UInt8).length ≤ _; exact Nat.zero_le _⟩
theorem next_flat (v : Ver) : (x1 v).pre = [] ∧ (x1 v).build = [] := by
  cases h : v.may with
  | false => unfold x1; rw [h]; exact ⟨rfl, rfl⟩
  | true =>
    rcases next_is h with ⟨h1, h2, _⟩ | ⟨_, a, b, c, e, _⟩
    · unfold gD at h1
      rw [h, h2] at h1
      simp at h1
      unfold x1
      simp [h, h2, h1]
      exact ⟨rfl, rfl⟩
    · rw [e]; exact ⟨rfl, rfl⟩
theorem next_short (v : Ver) : (x1 v).short := ⟨by rw [(next_flat v).1]; exact Nat.zero_le _, by rw [(next_flat v).2]; exact Nat.zero_le _⟩
theorem relV_short (v : Ver) : (n8 v).short := ⟨by show ([] : List UInt8).length ≤ _; exact Nat.zero_le _, by show ([] : List UInt8).length ≤ _; exact Nat.zero_le _⟩
theorem rleast_any (v : Ver) (W : World) : Calls Tryz.prog 97 #[y5 v] W fun e w' => e = .returned (.bool (qZ v)) ∧ Below W.heap.size W w' := by
  refine zQ (n := 16) Tryz.func97 rfl (by kernel_rfl) (by kernel_rfl) (ZO (Zb (y5 v) (fun b1 => Zv (.bool false) (ZR (Zv (.pointer (some ⟨b1, 0, none⟩)) (Zl 0 ⟨b1, (y5 v).cells, 44⟩ (off := 0) (.int .i64 v.maj) ?_))))))
  by_cases h1 : (v.maj : Int) = 0
  · refine zW (p := (v.maj : Int) = 0) true (by kernel_rfl) (fun _ => by kernel_rfl) (decide_eq_true (h1)) ?_
    refine Zv (.bool true) (Zv (.pointer (some ⟨b1, 1, none⟩)) (Zl 0 ⟨b1, (y5 v).cells, 44⟩ (off := 1) (.int .i64 v.min) ?_))
    by_cases h2 : (v.min : Int) = 0
    · refine zW (p := (v.min : Int) = 0) true (by kernel_rfl) (fun _ => by kernel_rfl) (decide_eq_true (h2)) ?_
      refine Zv (.bool true) (Zv (.bool true) (Zv (.pointer (some ⟨b1, 2, none⟩)) (Zl 0 ⟨b1, (y5 v).cells, 44⟩ (off := 2) (.int .i64 v.pat) ?_)))
      by_cases h3 : (v.pat : Int) = 0
      · refine zW (p := (v.pat : Int) = 0) true (by kernel_rfl) (fun _ => by kernel_rfl) (decide_eq_true (h3)) ?_
        exact Zv (.bool true) (Zv (.bool true) (ZN (zC (ZF (.bool true) Tryz.results97 (fun w hO => ⟨by simp [qZ, h1, h2, h3], hO.below⟩)))))
      exact Zd (p := (v.pat : Int) = 0) false (decide_eq_false (h3)) (Zv (.bool false) (Zv (.bool false) (ZN (zC (ZF (.bool false) Tryz.results97 (fun w hO => ⟨by simp [qZ, h1, h2, h3], hO.below⟩))))))
    refine Zd (p := (v.min : Int) = 0) false (decide_eq_false (h2)) (Zv (.bool false) (Zv (.bool false) (Zk (Zk (Zk (Zv (.bool false) (Zv (.bool false) (ZN (zC (ZF (.bool false) Tryz.results97 ?_))))))))))
    exact fun w hO => ⟨by simp [qZ, h1, h2], hO.below⟩
  refine Zd (p := (v.maj : Int) = 0) false (decide_eq_false (h1)) (Zv (.bool false) (Zk (Zk (Zk (Zv (.bool false) (Zv (.bool false) (Zk (Zk (Zk (Zv (.bool false) (Zv (.bool false) ?_)))))))))))
  exact ZN (zC (ZF (.bool false) Tryz.results97 (fun w hO => ⟨by simp [qZ, h1], hO.below⟩)))
theorem rright_any (c : Cu) (W : World) : Calls Tryz.prog 55 #[zA c] W fun e w' => e = .returned (.bool (x6 c)) ∧ Below W.heap.size W w' := by
  refine zQ (n := 23) Tryz.func55 rfl (by kernel_rfl) (by kernel_rfl) (ZO (Zb (zA c) (fun b1 => Zv (.bool false) (ZR (Zv (.pointer (some ⟨b1, 0, none⟩)) (Zl 0 ⟨b1, (zA c).cells, 78⟩ (off := 0) (.int .i64 c.e) ?_))))))
  by_cases h1 : (c.e : Int) = 0
  · refine uN (p := (c.e : Int) = 0) true (by kernel_rfl) (fun _ => by kernel_rfl) (decide_eq_true (h1)) ?_
    refine Zv (.bool false) (Zv (.pointer (some ⟨b1, 6, none⟩)) (Zl 0 ⟨b1, (zA c).cells, 78⟩ (off := 6) (.bool c.aft) ?_))
    cases h2 : c.aft with
    | true =>
      refine Zv (.bool false) (Zv (.bool false) (Zk (Zk (Zk (Zk (Zv (.bool false) (Zv (.bool false) (Zk (Zk (Zk (Zk ?_)))))))))))
      exact Zv (.bool false) (Zv (.bool false) (Zv (.bool false) (ZN (zC (ZF (.bool false) Tryz.results55 (fun w hO => ⟨by simp [x6, h1, h2], hO.below⟩))))))
    | false =>
      refine Zv (.bool true) (Zv (.bool true) (Zv (.pointer (some ⟨b1, 1, none⟩)) (Zv (.pointer (some ⟨b1, 4, none⟩)) (Zl 0 ⟨b1, (zA c).cells, 78⟩ (off := 4) (.string (mkS c.v.pre)) ?_))))
      by_cases h3 : (c.v.pre : List UInt8) = []
      · refine zX (.bool true) (by kernel_rfl) (yV (a := c.v.pre) (b := ([])) rfl (by kernel_rfl) (by kernel_rfl) (decide_eq_true (h3))) ?_
        refine Zv (.bool true) (Zv (.bool true) (Zv (.pointer (some ⟨b1, 1, none⟩)) (Zl 0 ⟨b1, (zA c).cells, 78⟩ (off := 1) (.agg #[.int .i64 c.v.maj, .int .i64 c.v.min, .int .i64 c.v.pat, .string (mkS c.v.pre), .string (mkS c.v.build)]) (Zc (k := 97) (args := #[.agg #[.int .i64 c.v.maj, .int .i64 c.v.min, .int .i64 c.v.pat, .string (mkS c.v.pre), .string (mkS c.v.build)]]) (.bool (qZ c.v)) (fun w _ => rleast_any c.v w) ?_))))
        cases h4 : qZ c.v with
        | true =>
          exact Zv (.bool false) (Zv (.bool false) (Zv (.bool false) (Zv (.bool false) (ZN (zC (ZF (.bool false) Tryz.results55 (fun w hO => ⟨by simp [x6, h1, h2, h3, h4], hO.below⟩)))))))
        | false =>
          exact Zv (.bool true) (Zv (.bool true) (Zv (.bool true) (Zv (.bool true) (ZN (zC (ZF (.bool true) Tryz.results55 (fun w hO => ⟨by simp [x6, h1, h2, h3, h4], hO.below⟩)))))))
      refine zX (.bool false) (by kernel_rfl) (yV (a := c.v.pre) (b := ([])) rfl (by kernel_rfl) (by kernel_rfl) (decide_eq_false (h3))) (Zv (.bool false) (Zv (.bool false) (Zk (Zk (Zk (Zk (Zv (.bool false) (Zv (.bool false) (Zv (.bool false) (zP (zB ?_)))))))))))
      exact zC (ZF (.bool false) Tryz.results55 (fun w hO => ⟨by simp [x6, h1, h2, h3], hO.below⟩))
  refine Zn (p := (c.e : Int) = 0) false (decide_eq_false (h1)) (Zv (.bool true) (Zk (Zk (Zk (Zk (Zk (Zk (Zk (Zk (Zk (Zk ?_)))))))))))
  exact Zk (Zk (Zk (Zk (Zk (Zv (.bool true) (Zv (.bool true) (ZN (zC (ZF (.bool true) Tryz.results55 (fun w hO => ⟨by simp [x6, h1], hO.below⟩))))))))))
theorem fS (v : Ver) (W : World) (hv : v.short) : Calls Tryz.prog 142 #[y5 v] W fun e w' => e = .returned (zA ⟨0, yF v, false⟩) ∧ Below W.heap.size W w' := by
  refine zQ (n := 6) Tryz.func142 rfl (by kernel_rfl) (by kernel_rfl) (ZO (Zb (y5 v) (fun b1 => Za (.agg #[.int .i64 0, .int .i64 0, .int .i64 0, .int .i64 0, .string ⟨#[]⟩, .string ⟨#[]⟩, .bool false]) (fun b2 => ZR (Zl 1 ⟨b1, (y5 v).cells, 44⟩ (off := 0) (y5 v) (Zc (k := 183) (args := #[y5 v]) (y5 (yF v)) (fun w _ => rcore_any v w) (Zv (.agg #[.int .i64 0, .int .i64 ((yF v).maj), .int .i64 ((yF v).min), .int .i64 ((yF v).pat), .string (mkS (yF v).pre), .string (mkS (yF v).build), .bool false]) ?_)))))))
  exact Zs 0 ⟨b2, #[.int .i64 0, .int .i64 0, .int .i64 0, .int .i64 0, .string ⟨#[]⟩, .string ⟨#[]⟩, .bool false], 78⟩ (off := 0) (.agg #[.int .i64 0, .int .i64 ((yF v).maj), .int .i64 ((yF v).min), .int .i64 ((yF v).pat), .string (mkS (yF v).pre), .string (mkS (yF v).build), .bool false]) (ZN (zC (ZC 0 ⟨b2, #[.int .i64 0, .int .i64 ((yF v).maj), .int .i64 ((yF v).min), .int .i64 ((yF v).pat), .string (mkS (yF v).pre), .string (mkS (yF v).build), .bool false], 78⟩ (off := 0) (.agg #[.int .i64 0, .int .i64 ((yF v).maj), .int .i64 ((yF v).min), .int .i64 ((yF v).pat), .string (mkS (yF v).pre), .string (mkS (yF v).build), .bool false]) Tryz.results142 (fun w hO => ⟨rfl, hO.below⟩))))
theorem rbehindC_any (v : Ver) (W : World) (hv : v.short) : Calls Tryz.prog 145 #[y5 v] W fun e w' => e = .returned (zA ⟨0, yF v, true⟩) ∧ Below W.heap.size W w' := by
  refine zQ (n := 6) Tryz.func145 rfl (by kernel_rfl) (by kernel_rfl) (ZO (Zb (y5 v) (fun b1 => Za (.agg #[.int .i64 0, .int .i64 0, .int .i64 0, .int .i64 0, .string ⟨#[]⟩, .string ⟨#[]⟩, .bool false]) (fun b2 => ZR (Zl 1 ⟨b1, (y5 v).cells, 44⟩ (off := 0) (y5 v) (Zc (k := 183) (args := #[y5 v]) (y5 (yF v)) (fun w _ => rcore_any v w) (Zv (.agg #[.int .i64 0, .int .i64 ((yF v).maj), .int .i64 ((yF v).min), .int .i64 ((yF v).pat), .string (mkS (yF v).pre), .string (mkS (yF v).build), .bool true]) ?_)))))))
  exact Zs 0 ⟨b2, #[.int .i64 0, .int .i64 0, .int .i64 0, .int .i64 0, .string ⟨#[]⟩, .string ⟨#[]⟩, .bool false], 78⟩ (off := 0) (.agg #[.int .i64 0, .int .i64 ((yF v).maj), .int .i64 ((yF v).min), .int .i64 ((yF v).pat), .string (mkS (yF v).pre), .string (mkS (yF v).build), .bool true]) (ZN (zC (ZC 0 ⟨b2, #[.int .i64 0, .int .i64 ((yF v).maj), .int .i64 ((yF v).min), .int .i64 ((yF v).pat), .string (mkS (yF v).pre), .string (mkS (yF v).build), .bool true], 78⟩ (off := 0) (.agg #[.int .i64 0, .int .i64 ((yF v).maj), .int .i64 ((yF v).min), .int .i64 ((yF v).pat), .string (mkS (yF v).pre), .string (mkS (yF v).build), .bool true]) Tryz.results145 (fun w hO => ⟨rfl, hO.below⟩))))
end
section
structure SetIn (w : World) (B : Nat) (A A' : Option Addr) (a : St) : Prop where
  rel : Reads x4 w B A a.rel
  pre : Reads x4 w B A' a.pre
  lr : a.rel.length ≤ 100000
  lp : a.pre.length ≤ 100000
  sr : x7 a.rel
  sp : x7 a.pre
theorem SetIn.on {w w' : World} {B B' : Nat} {A A' : Option Addr} {a : St} (h : SetIn w B A A' a) (hb : Below B w w') (hB : B ≤ B') : SetIn w' B' A A' a := ⟨h.rel.on hb hB, h.pre.on hb hB, h.lr, h.lp, h.sr, h.sp⟩
theorem all_take (p : Sp → Bool) {l : List Sp} {k : Nat} (hk : k < l.length) (h : (l.take k).all p = true) (hs : p l[k] = true) : (l.take (k + 1)).all p = true := by
  rw [List.take_succ_eq_append_getElem hk, List.all_append, h]
  simp [hs]
theorem all_not (p : Sp → Bool) {l : List Sp} {k : Nat} (hk : k < l.length) (hs : p l[k] = false) : l.all p = false := by
  cases h : l.all p with
  | false => rfl
  | true => rw [List.all_eq_true.1 h _ (List.getElem_mem hk)] at hs; cases hs
theorem rsetMay_any (A B : Option Addr) (c d : Nat) (a : St) (W : World) (hs : SetIn W W.heap.size A B a) : Calls Tryz.prog 29 #[.agg #[.slice A a.rel.length c, .slice B a.pre.length d]] W fun e w' => e = .returned (.bool a.may) ∧ Below W.heap.size W w' := by
  refine zQ (n := 39) Tryz.func29 rfl (by kernel_rfl) (by kernel_rfl) (ZO (Zb (.agg #[.slice A a.rel.length c, .slice B a.pre.length d]) (fun b1 => Zv (.bool false) (ZN (z6 (ZO (Zv (.pointer (some ⟨b1, 0, none⟩)) (Zl 0 ⟨b1, #[.slice A a.rel.length c, .slice B a.pre.length d], 31⟩ (off := 0) (.slice A a.rel.length c) ?_))))))))
  refine Zc (k := 54) (args := #[.slice A a.rel.length c]) (.bool (zL a.rel)) (fun w hO => wY A c a.rel w (hs.rel.on hO.below hO.below.size) (Nat.le_trans hs.lr (by decide)) hs.sr) ?_
  cases h1 : zL a.rel with
  | true =>
    refine Zv (.bool false) (Zv (.bool false) (Zv (.pointer (some ⟨b1, 1, none⟩)) (Zl 0 ⟨b1, #[.slice A a.rel.length c, .slice B a.pre.length d], 31⟩ (off := 1) (.slice B a.pre.length d) (Zc (k := 54) (args := #[.slice B a.pre.length d]) (.bool (zL a.pre)) (fun w hO => wY B d a.pre w (hs.pre.on hO.below hO.below.size) (Nat.le_trans hs.lp (by decide)) hs.sp) ?_))))
    cases h2 : zL a.pre with
    | true =>
      refine Zv (.bool false) (Zv (.bool false) (ZX (ZB (z6 (ZO (Zv (.int .i64 0) (zP ?_)))))))
      refine zB (zK (yP (fun L f m => ∃ (k : Nat) (j : Nat → Value), (k ≤ a.rel.length ∧ (a.rel.take k).all (fun x => x6 x.lo && x6 x.hi) = true) ∧ L = [⟨b1, #[.slice A a.rel.length c, .slice B a.pre.length d], 31⟩] ∧ f = kA j [(1, .pointer (some ⟨b1, 0, none⟩)), (3, .int .i64 (k : Int))] ∧ m = a.rel.length - k) (a.rel.length - 0) ⟨0, _, ⟨Nat.zero_le _, by rw [List.take_zero]; rfl⟩, rfl, ZU, rfl⟩ ?_))
      rintro L f m ⟨k, j, hrel, rfl, rfl, rfl⟩
      have hkl := hrel.1; have hln := hs.lr
      refine z6 (ZO (Zv (.int .i64 (k : Int)) (Zv (.pointer (some ⟨b1, 0, none⟩)) (Zl 0 ⟨b1, #[.slice A a.rel.length c, .slice B a.pre.length d], 31⟩ (off := 0) (.slice A a.rel.length c) (Zv (.int .i64 (a.rel.length : Int)) ?_)))))
      by_cases h3 : (k : Int) < (a.rel.length : Int)
      · have hk : k < a.rel.length := by omega
        obtain ⟨b, off, hA, hlt, hcell⟩ := hs.rel (by omega)
        obtain ⟨s, he⟩ : ∃ s, a.rel[k] = s := ⟨_, rfl⟩
        refine Zd (p := (k : Int) < (a.rel.length : Int)) true (decide_eq_true (h3)) (ZY (ZB (z6 (zK (ZO (Zv (.pointer (some ⟨b1, 0, none⟩)) (Zl 0 ⟨b1, #[.slice A a.rel.length c, .slice B a.pre.length d], 31⟩ (off := 0) (.slice A a.rel.length c) ?_)))))))
        refine Zv (.int .i64 (k : Int)) (zX (.pointer (some ⟨b, off + k * 14, none⟩)) (by kernel_rfl) (ZA (b := b) (off := off) (c := c) (n := a.rel.length) (k := .i64) (j := (k : Int)) (e := 80) (sz := 14) hA) (Zv (.pointer (some ⟨b, off + k * 14 + 0, none⟩)) (Zo (zA s.lo) (a := ⟨b, off + k * 14 + 0, none⟩) (fun w hO => yD yB (fun j u h => (hO.below.cell (p := ⟨b, off + j, none⟩) hlt).trans (hcell j u h)) k 0 hk (by omega) _ (by rw [he]; kernel_rfl)) (Zc (k := 55) (args := #[zA s.lo]) (.bool (x6 s.lo)) (fun w _ => rright_any s.lo w) ?_))))
        cases h4 : x6 s.lo with
        | true =>
          refine Zv (.bool false) (Zv (.bool false) (Zv (.pointer (some ⟨b1, 0, none⟩)) (Zl 0 ⟨b1, #[.slice A a.rel.length c, .slice B a.pre.length d], 31⟩ (off := 0) (.slice A a.rel.length c) (Zv (.int .i64 (k : Int)) (zX (.pointer (some ⟨b, off + k * 14, none⟩)) (by kernel_rfl) (ZA (b := b) (off := off) (c := c) (n := a.rel.length) (k := .i64) (j := (k : Int)) (e := 80) (sz := 14) hA) (Zv (.pointer (some ⟨b, off + k * 14 + 7, none⟩)) (Zo (zA s.hi) (a := ⟨b, off + k * 14 + 7, none⟩) (fun w hO => yD yB (fun j u h => (hO.below.cell (p := ⟨b, off + j, none⟩) hlt).trans (hcell j u h)) k 7 hk (by omega) _ (by rw [he]; kernel_rfl)) (Zc (k := 55) (args := #[zA s.hi]) (.bool (x6 s.hi)) (fun w _ => rright_any s.hi w) ?_))))))))
          cases h5 : x6 s.hi with
          | true =>
            refine Zv (.bool false) (Zv (.bool false) (ZX (yS (zS (zB (z7 (Zv (.int .i64 (k : Int)) (Zu (k := .i64) (((k + 1 : Nat) : Int)) (IntWalk.i64_in _ (by omega)) (Zv (.int .i64 ((k + 1 : Nat) : Int)) ?_)))))))))
            refine zP ?_
            have hnext : (a.rel.take (k + 1)).all (fun x => x6 x.lo && x6 x.hi) = true := all_take _ hk hrel.2 (by simp [he, h1, h2, h3, h4, h5])
            exact zU (m' := a.rel.length - (k + 1)) (by omega) ⟨k + 1, _, ⟨by omega, hnext⟩, rfl, ZU, rfl⟩
          | false =>
            refine Zv (.bool true) (Zv (.bool true) (ZY (ZO (Zv (.bool false) (ZN (zC (zF ?_)))))))
            exact z8 (yC (zF (z8 (ZF (.bool false) Tryz.results29 (fun w hO => ⟨by unfold St.may; rw [all_not _ hk (by simp [he, h1, h2, h3, h4, h5])]; simp, hO.below⟩)))))
        | false =>
          refine Zv (.bool true) (Zv (.bool true) (Zk (Zk (Zk (Zk (Zk (Zk (Zk (Zk (Zv (.bool true) (zP ?_)))))))))))
          refine zB (Zt (ZO (Zv (.bool false) (ZN (zC (zF (z8 (yC (zF ?_)))))))))
          exact z8 (ZF (.bool false) Tryz.results29 (fun w hO => ⟨by unfold St.may; rw [all_not _ hk (by simp [he, h1, h2, h3, h4])]; simp, hO.below⟩))
      have hall : a.rel.all (fun x => x6 x.lo && x6 x.hi) = true := by have h := hrel.2; rwa [List.take_of_length_le (by omega)] at h
      refine Zd (p := (k : Int) < (a.rel.length : Int)) false (decide_eq_false (h3)) (ZX (y8 (zD (zN (zI (zB (ZO (Zv (.bool true) ?_))))))))
      exact ZN (zC (ZF (.bool true) Tryz.results29 (fun w hO => ⟨by unfold St.may; simp [hall, h1, h2, h3], hO.below⟩)))
    | false =>
      refine Zv (.bool true) (Zv (.bool true) (ZY (ZO (Zv (.bool false) (ZN (zC (z8 ?_)))))))
      exact ZF (.bool false) Tryz.results29 (fun w hO => ⟨by unfold St.may; simp [h1, h2], hO.below⟩)
  | false =>
    refine Zv (.bool true) (Zv (.bool true) (Zk (Zk (Zk (Zk (Zv (.bool true) (ZY (z6 (z7 ?_)))))))))
    exact Zv (.bool false) (ZN (zC (z8 (ZF (.bool false) Tryz.results29 (fun w hO => ⟨by unfold St.may; simp [h1], hO.below⟩)))))
theorem fN (A B : Option Addr) (c d : Nat) (a : St) (v : Ver) (W : World) (hs : SetIn W W.heap.size A B a) (hv : v.short) : Calls Tryz.prog 30 #[.agg #[.slice A a.rel.length c, .slice B a.pre.length d], y5 v] W fun e w' => e = .returned (.bool (q7 a v)) ∧ Below W.heap.size W w' := by
  refine zQ (n := 24) Tryz.func30 rfl (by kernel_rfl) (by kernel_rfl) (ZO (Zb (.agg #[.slice A a.rel.length c, .slice B a.pre.length d]) (fun b1 => Zb (y5 v) (fun b2 => Zv (.bool false) (ZN (z6 (ZO (Zl 1 ⟨b1, #[.slice A a.rel.length c, .slice B a.pre.length d], 31⟩ (off := 0) (.agg #[.slice A a.rel.length c, .slice B a.pre.length d]) ?_))))))))
  refine Zc (k := 29) (args := #[.agg #[.slice A a.rel.length c, .slice B a.pre.length d]]) (.bool a.may) (fun w hO => rsetMay_any A B c d a w (hs.on hO.below hO.size)) ?_
  cases h1 : a.may with
  | true =>
    refine Zv (.bool false) (Zv (.bool false) (Zl 0 ⟨b2, (y5 v).cells, 44⟩ (off := 0) (y5 v) (Zc (k := 56) (args := #[y5 v]) (.bool v.may) (fun w _ => vD v w hv.1 hv.2) ?_)))
    cases h2 : v.may with
    | true =>
      refine Zv (.bool false) (Zv (.bool false) (ZX (ZB (z6 (ZO (Zv (.pointer (some ⟨b2, 3, none⟩)) (Zl 0 ⟨b2, (y5 v).cells, 44⟩ (off := 3) (.string (mkS v.pre)) ?_)))))))
      by_cases h3 : (v.pre : List UInt8) = []
      · refine zX (.bool true) (by kernel_rfl) (yV (a := v.pre) (b := ([])) rfl (by kernel_rfl) (by kernel_rfl) (decide_eq_true (h3))) ?_
        refine ZY (ZO (Zv (.pointer (some ⟨b1, 0, none⟩)) (Zl 1 ⟨b1, #[.slice A a.rel.length c, .slice B a.pre.length d], 31⟩ (off := 0) (.slice A a.rel.length c) (Zl 0 ⟨b2, (y5 v).cells, 44⟩ (off := 0) (y5 v) (Zc (k := 52) (args := #[.slice A a.rel.length c, y5 v]) (.bool (xC a.rel v)) (fun w hO => fO A c a.rel v w (hs.rel.on hO.below hO.below.size) (Nat.le_trans hs.lr (by decide)) hs.sr hv) (Zv (.bool (xC a.rel v)) (zP (zB ?_))))))))
        exact zC (z8 (ZF (.bool (xC a.rel v)) Tryz.results30 (fun w hO => ⟨by simp [q7, h1, h2, h3], hO.below⟩)))
      refine zX (.bool false) (by kernel_rfl) (yV (a := v.pre) (b := ([])) rfl (by kernel_rfl) (by kernel_rfl) (decide_eq_false (h3))) (ZX (ZB (ZO (Zv (.pointer (some ⟨b1, 1, none⟩)) (Zl 1 ⟨b1, #[.slice A a.rel.length c, .slice B a.pre.length d], 31⟩ (off := 1) (.slice B a.pre.length d) (Zl 0 ⟨b2, (y5 v).cells, 44⟩ (off := 0) (y5 v) (Zc (k := 52) (args := #[.slice B a.pre.length d, y5 v]) (.bool (xC a.pre v)) (fun w hO => fO B d a.pre v w (hs.pre.on hO.below hO.below.size) (Nat.le_trans hs.lp (by decide)) hs.sp hv) ?_)))))))
      exact Zv (.bool (xC a.pre v)) (ZN (zC (ZF (.bool (xC a.pre v)) Tryz.results30 (fun w hO => ⟨by simp [q7, h1, h2, h3], hO.below⟩))))
    | false =>
      refine Zv (.bool true) (Zv (.bool true) (ZY (ZO (Zv (.bool false) (ZN (zC (z8 ?_)))))))
      exact ZF (.bool false) Tryz.results30 (fun w hO => ⟨by simp [q7, h1, h2], hO.below⟩)
  | false =>
    refine Zv (.bool true) (Zv (.bool true) (Zk (Zk (Zk (Zv (.bool true) (ZY (ZO (Zv (.bool false) ?_))))))))
    exact ZN (zC (z8 (ZF (.bool false) Tryz.results30 (fun w hO => ⟨by simp [q7, h1], hO.below⟩))))
end
section
section
variable {M : List Nat} {P : Program} {n : Nat} {ops : Array Oper} {W : World} {L0 : List Blk} {Q : Exit → Act → World → Prop} {fuel : Nat} {listed : Array Bool} {L : List Blk} {f : Nat → Value}
theorem h_drop (E : List Blk) (h : vQ M P n ops W L0 Q fuel listed L0 f) : vQ M P n ops W L0 Q fuel listed (E ++ L0) f := ⟨fun w hO => h.go w (Own.sub E hO)⟩
theorem hs_front {i : Nat} {E E' : List Blk} (p : E.Perm E') (h : uT M P n ops W L0 Q fuel listed i (E' ++ L0) f) : uT M P n ops W L0 Q fuel listed i (E ++ L0) f := ⟨fun w hO => h.go w (hO.perm (p.append_right L0))⟩
end
theorem qA {M : List Nat} {W w : World} {L : List Blk} (h : Own M W w L) : Own M W w [] := h.sublist (List.nil_sublist _)
theorem own_mid {M : List Nat} {W w : World} {x : Blk} {A B L0 : List Blk} (h : Own M W w ((x :: (A ++ (B ++ []))) ++ L0)) : Own M W w (A ++ B) := by
  rw [List.append_nil] at h
  exact h.sublist ((List.sublist_append_left (A ++ B) L0).cons x)
end
section
theorem wX {A : Option Addr} {n c : Nat} {l : List Sp} {ob : List Blk} (h : SlS (.slice A n c) l ob) : l.length ≤ c := by
  rcases h.2 with ⟨h1, h2, _⟩ | ⟨g, c', cur, h1, _, h3, _⟩
  · rw [h2]; exact Nat.zero_le _
  · simp only [Value.slice.injEq] at h1
    rw [h1.2.2]; exact h3
def SetO (v : Value) (a : St) (ob : List Blk) : Prop := ∃ v1 v2 o1 o2, v = .agg #[v1, v2] ∧ ob = o2 ++ o1 ∧ SlS v1 a.rel o1 ∧ SlS v2 a.pre o2
theorem SetO.form {v : Value} {a : St} {ob : List Blk} (h : SetO v a ob) : ∃ A B c d, v = .agg #[.slice A a.rel.length c, .slice B a.pre.length d] := by
  obtain ⟨v1, v2, o1, o2, rfl, _, h1, h2⟩ := h
  obtain ⟨A, c, rfl⟩ := h1.form
  obtain ⟨B, d, rfl⟩ := h2.form
  exact ⟨A, B, c, d, rfl⟩
theorem agg_two {a b c d : Value} (h : (Value.agg #[a, b]) = .agg #[c, d]) : a = c ∧ b = d := by
  injection h with h
  have h2 := congrArg Array.toList h
  simp only [List.cons.injEq, and_true] at h2
  exact h2
theorem SetO.inn {A B : Option Addr} {c d n : Nat} {a : St} {ob L : List Blk} {M : List Nat} {W w : World} (h : SetO (.agg #[.slice A a.rel.length c, .slice B a.pre.length d]) a ob) (hO : Own M W w L) (hob : ∀ x ∈ ob, x ∈ L) (hf : SF a n) (hn : n ≤ 100000) : SetIn w w.heap.size A B a := by
  obtain ⟨v1, v2, o1, o2, e, rfl, h1, h2⟩ := h
  obtain ⟨rfl, rfl⟩ := agg_two e
  exact ⟨Sl.reads h1 rfl hO (fun x hx => hob x (by simp [hx])), Sl.reads h2 rfl hO (fun x hx => hob x (by simp [hx])), Nat.le_trans hf.rel.len hn, Nat.le_trans hf.pre.len hn, hf.rel.short, hf.pre.short⟩
theorem SetO.caps {A B : Option Addr} {c d : Nat} {a : St} {ob : List Blk} (h : SetO (.agg #[.slice A a.rel.length c, .slice B a.pre.length d]) a ob) : a.rel.length ≤ c ∧ a.pre.length ≤ d := by
  obtain ⟨v1, v2, o1, o2, e, rfl, h1, h2⟩ := h
  obtain ⟨rfl, rfl⟩ := agg_two e
  exact ⟨wX h1, wX h2⟩
theorem SetO.none : SetO (.agg #[.slice none 0 0, .slice none 0 0]) gP [] := ⟨_, _, [], [], rfl, rfl, Sl.nil _ _, Sl.nil _ _⟩
end
section
def coV (c : Co) : Value := .agg #[.int .i64 c.op, .int .i64 c.parts, .int .i64 c.v.maj, .int .i64 c.v.min, .int .i64 c.v.pat, .string (mkS c.v.pre), .string (mkS c.v.build)]
def Co.short (c : Co) : Prop := c.v.short
def wS (p : Int) (v : Ver) : Ver := ⟨if p < 1 then 0 else v.maj, if p < 2 then 0 else v.min, if p < 3 then 0 else v.pat, if p < 3 then [] else v.pre, []⟩
def xP (l : List Int) (i : Nat) : Co :=
  ⟨1 + plc (atL l (i + 5)) 9, if 1 + plc (atL l (i + 5)) 9 = 9 then plc (atL l (i + 6)) 3 else 1 + plc (atL l (i + 6)) 3, wS (if 1 + plc (atL l (i + 5)) 9 = 9 then plc (atL l (i + 6)) 3 else 1 + plc (atL l (i + 6)) 3) (zR l i)⟩
theorem told_may {p : Int} {v : Ver} (h : v.may = true) : (wS p v).may = true := by
  obtain ⟨h1, h2, h3⟩ := qD h
  have h4 := dY h
  have k0 : yH 0 = true := by decide
  have kp : qO [] = true := by decide
  have kb : q8 [] = true := by decide
  unfold Ver.may wS
  dsimp only
  have e1 : yH (if p < 1 then 0 else v.maj) = true := by split <;> assumption
  have e2 : yH (if p < 2 then 0 else v.min) = true := by split <;> assumption
  have e3 : yH (if p < 3 then 0 else v.pat) = true := by split <;> assumption
  have e4 : qO (if p < 3 then [] else v.pre) = true := by split <;> assumption
  rw [e1, e2, e3, e4, kb]; rfl
theorem genCo_may (l : List Int) (i : Nat) : (xP l i).may = true := by
  have h5 := plc_in (atL l (i + 5)) 9 (by omega)
  have h6 := plc_in (atL l (i + 6)) 3 (by omega)
  unfold xP
  generalize plc (atL l (i + 5)) 9 = a at h5 ⊢
  generalize plc (atL l (i + 6)) 3 = b at h6 ⊢
  unfold Co.may
  dsimp only
  rw [told_may (gen_may l i)]
  have e : (1 ≤ 1 + a ∧ 1 + a ≤ 9) := by omega
  rw [decide_eq_true e, show (wS (if 1 + a = 9 then b else 1 + b) (zR l i)).build = [] from rfl]
  unfold wS
  dsimp only
  by_cases h9 : 1 + a = 9
  · rw [if_pos h9, if_pos h9]
    have : b = 0 ∨ b = 1 ∨ b = 2 := by omega
    rcases this with rfl | rfl | rfl <;> simp
  · rw [if_neg h9, if_neg h9]
    have : b = 0 ∨ b = 1 ∨ b = 2 := by omega
    rcases this with rfl | rfl | rfl <;> simp
theorem told_short {p : Int} {v : Ver} (h : v.pre.length ≤ 1000000) : (wS p v).short := by
  refine ⟨?_, Nat.zero_le _⟩
  unfold wS
  dsimp only
  by_cases hp : p < 3
  · rw [if_pos hp]; exact Nat.zero_le _
  · rw [if_neg hp]; exact h
theorem genCo_short (l : List Int) (i : Nat) : (xP l i).short := told_short (Nat.le_trans (gen_pre l i) (by decide))
end
section
end
section
theorem rjoin_any (v : Value) (l : List (List UInt8)) (b : UInt8) (w : World) (hv : ReadsT w w.heap.size v l) (hl : (yA b l).length ≤ 1000000000) (hn : l.length ≤ 1000000000) :
    Calls Tryz.prog 127 #[v, .int .u8 b.toNat] w fun e w' => e = .returned (.string (mkS (yA b l))) ∧ Below w.heap.size w w' := by
  have hcv := fun (w : World) (x : Int) => conv1 w x
  obtain ⟨A, cap, rfl, hcell⟩ := hv
  go_enter Tryz.func127, Tryz.ntmps127
  go_wp2
  go_loopw [5, 6] (fun sv iv wr => ∃ (k : Nat), iv = .int .i64 k ∧ k ≤ l.length ∧ sv = .string (mkS (yA b (l.take k))) ∧ Below w.heap.size w wr) (fun _ iv _ => l.length - (intOf iv).toNat)
  case atStart => exact ⟨0, rfl, Nat.zero_le _, rfl, Below.refl _ _⟩
  case round =>
    obtain ⟨k, rfl, hk, rfl, hb⟩ := hrel
    have hsz := hb.size
    by_cases hp : k < l.length
    · obtain ⟨ad, rfl, hlt, hc⟩ := hcell (by omega)
      have hck : wr.cell? (ad.add k) = some (.string (mkS l[k])) := (hb.cell (by rw [fE]; exact hlt)).trans (hc k hp)
      have hln : (yA b (l.take (k + 1))).length ≤ 1000000000 := Nat.le_trans (nK b l (k + 1)) hl
      have HJ := Lib.hid (joinL_snoc b (l.take k) l[k])
      rw [← take_snocL l k hp] at HJ
      clear hc hcell
      by_cases h0 : k = 0
      · subst h0
        have hx1 : (mkS (yA b [])).size ≤ 0 := by rw [d6]; simp [yA]
        have hx2 : (mkS l[0]).size ≤ 1000000000 := by
          rw [d6]; rw [HJ.out, if_pos List.take_zero] at hln; exact hln
        have hck0 : wr.cell? ad = some (.string (mkS l[0])) := hck
        clear hck
        go_wp2
        go_roundw
        case rel => exact ⟨0 + 1, by go_num, by omega, by rw [HJ.out, if_pos List.take_zero, dW]; rfl, hb⟩
        case measure => simp [intOf]; omega
      · have h0p : 0 < k := by omega
        have hlen : (yA b (l.take k)).length + (l[k].length + 1) ≤ 1000000000 := by
          rw [HJ.out, if_neg (uV l k hp h0p), List.length_append, List.length_cons] at hln; exact hln
        have hx1 : (mkS (yA b (l.take k))).size + ((mkS l[k]).size + 1) ≤ 1000000000 := by rw [d6, d6]; exact hlen
        have hx2 : (one (b.toNat : Int)).size ≤ 1 := Nat.le_refl _
        have hx3 : (mkS (yA b (l.take k)) ++ one (b.toNat : Int)).size ≤ (mkS (yA b (l.take k))).size + 1 := by rw [ByteArray.size_append]; omega
        clear hlen
        have hck2 := fun o => (World.cell?_alloc_lt wr o (ad.add k) (by rw [fE]; omega)).trans hck
        clear hck
        go_wp2
        go_roundw
        case rel => exact ⟨k + 1, by go_num, by omega, by rw [HJ.out, if_neg (uV l k hp h0p), one_mk, dW, dW, List.append_assoc]; rfl, hb.alloc hsz _⟩
        case measure => simp [intOf]; omega
    · obtain rfl : k = l.length := by omega
      go_wp2
      go_ret
      exact ⟨tD (by rw [List.take_length]), hb⟩
end
section
end
section
def SlT (v : Value) (l : List (List UInt8)) (ob : List Blk) : Prop := Sl 9 1 v l.length (qN l) ob
theorem SlT.form {v : Value} {l : List (List UInt8)} {ob : List Blk} (h : SlT v l ob) : ∃ A cap, v = .slice A l.length cap := by
  rcases h.2 with ⟨h1, h2, _⟩ | ⟨g, cap, cur, h1, _⟩
  · exact ⟨none, 0, by rw [h1, h2]⟩
  · exact ⟨_, _, h1⟩
def t7 (x : List UInt8) : List Value := [.string (mkS x)]
theorem bQ (x : List UInt8) : (t7 x).length = 1 := rfl
theorem wA : ∀ (l : List (List UInt8)), qN l = l.flatMap t7
  | [] => rfl
  | x :: l => by
    show Value.string (mkS x) :: qN l = [Value.string (mkS x)] ++ l.flatMap t7
    rw [wA l]; rfl
theorem SlT.reads {A : Option Addr} {n cap : Nat} {l : List (List UInt8)} {ob L : List Blk} {M : List Nat} {W w : World} (h : SlT (.slice A n cap) l ob) (hn : l.length = n) (hO : Own M W w L) (hs : ∀ x ∈ ob, x ∈ L) : Reads t7 w w.heap.size A l := by
  subst hn
  unfold SlT at h
  rw [wA] at h
  exact Sl.reads h rfl hO hs
theorem SlT.readsT {v : Value} {l : List (List UInt8)} {ob L : List Blk} {M : List Nat} {W w : World} (h : SlT v l ob) (hO : Own M W w L) (hs : ∀ x ∈ ob, x ∈ L) : ReadsT w w.heap.size v l := by
  obtain ⟨A, cap, rfl⟩ := h.form
  refine ⟨A, cap, rfl, fun h0 => ?_⟩
  obtain ⟨b, off, e, hlt, hc⟩ := SlT.reads h rfl hO hs h0
  refine ⟨⟨b, off, none⟩, e, hlt, fun j hj => ?_⟩
  rw [yQ]
  refine hc j _ ?_
  rw [← wA]
  unfold qN
  rw [List.getElem?_map, List.getElem?_eq_getElem hj]; rfl
theorem slt_lit (l : List (List UInt8)) (b : Nat) (cur : Array Value) (h : cur.toList = qN l) (hm : l.length ≤ maxLen) : SlT (.slice (some ⟨b, 0, none⟩) l.length l.length) l [⟨b, cur, 9⟩] := by
  have hc : cur.toList.length = l.length := by rw [h, j4]
  refine ⟨by rw [j4]; omega, .inr ⟨b, l.length, cur, rfl, rfl, Nat.le_refl _, hm, by rw [← Array.length_toList, hc]; omega, ?_⟩⟩
  rw [h]
  exact List.take_of_length_le (by rw [j4]; omega)
theorem str_cells (l : List (List UInt8)) : ∀ u ∈ qN l, u.oneCell' = true := fun u hu => by
  unfold qN at hu
  obtain ⟨x, _, rfl⟩ := List.mem_map.1 hu; rfl
end
section
theorem run_slhm {P : Program} {ρ : Operand → Value} {o : Oper} {t e : TypeId} {x z y : Operand} {b n c sz : Nat} {k q : IntKind} {j m : Int} (ho : o.op = .slice t x none (some z) (some y)) (hx : ρ x = .slice (some ⟨b, 0, none⟩) n c) (hz : ρ z = .int k j) (hy : ρ y = .int q m)
    (hu : P.underlying t = some (.slice e)) (hs : (P.info? e).map (·.size) = some sz) (h0 : 0 ≤ j) (h1 : j ≤ m) (h2 : m ≤ c) (w : World) : (execOp ρ o).run P w = .ok (.value (.slice (some ⟨b, 0, none⟩) j.toNat m.toNat)) w := by
  cases he : P.info? e with
  | none => rw [he] at hs; cases hs
  | some i =>
    rw [he] at hs
    obtain rfl := Option.some.inj hs
    have h3 : 0 ≤ m := Int.le_trans h0 h1
    unfold execOp
    simp [ho, hx, hz, hy, Instr.sliceAt, Instr.slice, Instr.sliceBounds, Instr.sliceBound, Sem.run_bind, asIntOf, run_underlying hu, h0, h1, h2, h3, sizeOf, typeInfo, he, yQ]
    try (first | omega | (rw [if_pos (by omega)]; simp [yQ]))
theorem yW {P : Program} {ρ : Operand → Value} {o : Oper} {t t' : TypeId} {x y : Operand} {a b : List UInt8} (ho : o.op = .binOp .add t x y t') (hx : ρ x = .string (mkS a)) (hy : ρ y = .string (mkS b)) (hb : a.length + b.length ≤ 4000000000) (w : World) : (execOp ρ o).run P w = .ok (.value (.string (mkS (a ++ b)))) w := by
  unfold execOp
  have h1 : ¬ (9223372036854775807 : Int) < ((mkS a).size : Int) + ((mkS b).size : Int) := by rw [xR, xR]; omega
  simp [ho, hx, hy, Sem.run_bind, eqGuard, binOp, Op.stringOp, dW, h1]
theorem run_min2 {P : Program} {ρ : Operand → Value} {o : Oper} {t t' : TypeId} {x y : Operand} {k q : IntKind} {i j : Int} (ho : o.op = .call { callee := .builtin .min, args := #[x, y], argTypes := #[t, t'] }) (hx : ρ x = .int k i) (hy : ρ y = .int q j) (w : World) : (execOp ρ o).run P w = .ok (.value (.int k (min i j))) w := by
  unfold execOp
  have e : min i j = if j < i then j else i := by split <;> omega
  simp [ho, resolve, invoke, builtin, Builtin.min_, Builtin.min2, hx, hy, e]
section
variable {M : List Nat} {P : Program} {n0 : Nat} {ops : Array Oper} {W : World} {Q : Exit → Act → World → Prop} {rest : List Oper} {o : Oper} {L : List Blk} {f : Nat → Value}
theorem s_appendF {t T : TypeId} {s x : Operand} {i : TypeInfo} {z : Value} {sz : Nat} (hw : k8 ops n0 f o = true) (ho : o.op = .call { callee := .builtin .append, args := #[s, x], argTypes := #[t, t] })
    (ht : P.underlying t = some (.slice T)) (hi : P.info? T = some i) (hz : i.zero = some z) (hsz : i.size = sz) (hzs : z.cells.size = sz)
    {b : Addr} {n cap : Nat} {xs : List Value} (hs : ev n0 f s = .slice (some b) n cap) (hxl : xs.length = n * sz) (hxs : ∀ w, Own M W w L → ∀ j u, xs[j]? = some u → w.cell? (b.add j) = some u)
    {a : Addr} {m c : Nat} {news : List Value} (hx : ev n0 f x = .slice (some a) m c) (hl : news.length = m * sz) (hnews : ∀ w, Own M W w L → ∀ j u, news[j]? = some u → w.cell? (a.add j) = some u)
    (hroom : cap < n + m) (h63 : n + m ≤ maxLen) (hbytes : (n + m) * i.bytes ≤ 140737488355328)
    (h : ∀ v' ob', Sl T sz v' (n + m) (xs ++ news) ob' → Seg M P n0 ops W Q rest (ob' ++ L) (upd f o.dst v')) : Seg M P n0 ops W Q (o :: rest) L f :=
  vZ hw fun w hO => by
    subst hsz
    have hsmall : n + m ≤ 9223372036854775807 := by simp only [maxLen] at h63; omega
    have hlen : (xs ++ news).length = (n + m) * i.size := by rw [List.length_append, hxl, hl, Nat.add_mul]
    have hr := run_append_grow (P := P) w t o.type T i z ht hi hz b n cap xs hxl (hxs w hO) a m c news hl (hnews w hO) (by omega) (by omega) (growslice_fits (by omega) hbytes)
    have hge := grownCap_ge w (n + m) cap T
    have hcm := grownCap_le_maxLen w (n + m) cap T h63
    refine vO _ (w' := _) ?_ ((h _ [⟨w.heap.size, xs.toArray ++ news.toArray ++ Builtin.zeroCells z.cells (grownCap w (n + m) cap T - (n + m)), T⟩] ⟨hlen, .inr ⟨w.heap.size, grownCap w (n + m) cap T, _, rfl, rfl, hge, hcm, ?_, ?_⟩⟩).go _ ((tS hO).alloc (xs.toArray ++ news.toArray ++ Builtin.zeroCells z.cells (grownCap w (n + m) cap T - (n + m))) T))
    · unfold execOp
      simp only [ho, resolve, invoke, builtin, Sem.run_bind, Sem.run_pure, Result.andThen_ok, List.map_toArray, List.map_cons, List.map_nil, hs, hx, hr]
    · simp only [Array.size_append, List.size_toArray, size_zeroCells, hzs, hxl, hl, ← Nat.add_mul]
      congr 1
      omega
    · simp only [Array.toList_append, List.append_assoc]
      rw [← List.append_assoc, ← hlen]
      exact List.take_left
end
section
variable {M : List Nat} {P : Program} {n : Nat} {ops : Array Oper} {W : World} {L0 : List Blk} {Q : Exit → Act → World → Prop} {fuel : Nat} {listed : Array Bool} {f : Nat → Value}
end
end
section
theorem bump_core (v : Ver) (k : Int) : yF (yG v k) = yG v k := by
  by_cases h : y6 v k = true
  · obtain ⟨a, b, c, e⟩ := bump_rel h
    rw [e]; rfl
  · unfold yG
    rw [if_neg h]; rfl
theorem pQ (v : Ver) (k : Int) : (yG v k).short := by
  by_cases h : y6 v k = true
  · obtain ⟨a, b, c, e⟩ := bump_rel h
    rw [e]; exact ⟨Nat.zero_le _, Nat.zero_le _⟩
  · unfold yG
    rw [if_neg h]; exact ⟨Nat.zero_le _, Nat.zero_le _⟩
def vU (v : Ver) (z : Int) : Cu := if z < 0 then zZ 1 else xX v z.toNat
theorem highZ_hit {v : Ver} {z : Int} (h0 : 0 ≤ z) (h : y6 v z = true) : vU v z = ⟨0, yG v z, false⟩ := by
  unfold vU
  rw [if_neg (by omega)]
  obtain ⟨k, rfl⟩ : ∃ k : Nat, z = k := ⟨z.toNat, by omega⟩
  rw [Int.toNat_natCast]
  cases k with
  | zero => unfold xX; exact if_pos h
  | succ k => unfold xX; rw [if_pos h]
theorem highZ_next {v : Ver} {z : Int} (h0 : 0 ≤ z) (h : y6 v z = false) : vU v z = vU v (z - 1) := by
  unfold vU
  rw [if_neg (by omega)]
  obtain ⟨k, rfl⟩ : ∃ k : Nat, z = k := ⟨z.toNat, by omega⟩
  rw [Int.toNat_natCast]
  cases k with
  | zero => unfold xX; rw [if_neg (by rw [show ((0 : Nat) : Int) = 0 from rfl] at h; rw [h]; decide), if_pos (by decide)]
  | succ k =>
    unfold xX
    rw [if_neg (by rw [h]; decide), if_neg (by omega)]
    rw [show (((k + 1 : Nat) : Int) - 1).toNat = k from by omega]
    cases k <;> rfl
theorem rcMay_any (c : Co) (W : World) (hc : c.short) : Calls Tryz.prog 79 #[coV c] W fun e w' => e = .returned (.bool c.may) ∧ Below W.heap.size W w' := by
  refine zQ (n := 80) Tryz.func79 rfl (by kernel_rfl) (by kernel_rfl) (ZO (Zb (coV c) (fun b1 => Zv (.bool false) (ZN (z6 (ZO (Zv (.pointer (some ⟨b1, 0, none⟩)) (Zl 0 ⟨b1, (coV c).cells, 51⟩ (off := 0) (.int .i64 c.op) ?_))))))))
  by_cases h1 : (c.op : Int) < 1
  · refine zW (p := (c.op : Int) < 1) true (by kernel_rfl) (fun _ => by kernel_rfl) (decide_eq_true (h1)) ?_
    refine Zv (.bool true) (Zk (Zk (Zk (Zv (.bool true) (Zv (.bool true) (Zk (Zk (Zk (Zk (Zv (.bool true) (Zv (.bool true) ?_)))))))))))
    refine Zk (Zk (Zk (Zk (Zv (.bool true) (ZY (ZO (Zv (.bool false) (zP ?_))))))))
    exact zB (zC (z8 (ZF (.bool false) Tryz.results79 (fun w hO => ⟨by rw [show c.may = false from Bool.eq_false_iff.2 fun q0 => by have q1 := Co.may_iff.1 q0; grind], hO.below⟩))))
  refine Zd (p := (c.op : Int) < 1) false (decide_eq_false (h1)) (Zv (.bool false) (Zv (.pointer (some ⟨b1, 0, none⟩)) (Zl 0 ⟨b1, (coV c).cells, 51⟩ (off := 0) (.int .i64 c.op) ?_)))
  by_cases h2 : (9 : Int) < c.op
  · refine zW (p := (9 : Int) < c.op) true (by kernel_rfl) (fun _ => by kernel_rfl) (decide_eq_true (h2)) ?_
    refine Zv (.bool true) (Zv (.bool true) (Zk (Zk (Zk (Zk (Zv (.bool true) (Zv (.bool true) (Zk (Zk (Zk (Zk ?_)))))))))))
    refine Zv (.bool true) (ZY (ZO (Zv (.bool false) (ZN (zC (z8 (ZF (.bool false) Tryz.results79 ?_)))))))
    exact fun w hO => ⟨by rw [show c.may = false from Bool.eq_false_iff.2 fun q0 => by have q1 := Co.may_iff.1 q0; grind], hO.below⟩
  refine Zd (p := (9 : Int) < c.op) false (decide_eq_false (h2)) (Zv (.bool false) (Zv (.bool false) (Zv (.pointer (some ⟨b1, 2, none⟩)) (Zl 0 ⟨b1, (coV c).cells, 51⟩ (off := 2) (.agg #[.int .i64 c.v.maj, .int .i64 c.v.min, .int .i64 c.v.pat, .string (mkS c.v.pre), .string (mkS c.v.build)]) (Zc (k := 56) (args := #[.agg #[.int .i64 c.v.maj, .int .i64 c.v.min, .int .i64 c.v.pat, .string (mkS c.v.pre), .string (mkS c.v.build)]]) (.bool c.v.may) (fun w _ => vD c.v w hc.1 hc.2) ?_)))))
  cases h3 : c.v.may with
  | true =>
    refine Zv (.bool false) (Zv (.bool false) (Zv (.bool false) (Zv (.pointer (some ⟨b1, 2, none⟩)) (Zv (.pointer (some ⟨b1, 6, none⟩)) (Zl 0 ⟨b1, (coV c).cells, 51⟩ (off := 6) (.string (mkS c.v.build)) ?_)))))
    by_cases h4 : (c.v.build : List UInt8) = []
    · refine zX (.bool false) (by kernel_rfl) (x2 (a := c.v.build) (b := ([])) rfl (by kernel_rfl) (by kernel_rfl) (decide_eq_true (h4))) ?_
      refine Zv (.bool false) (ZX (ZB (ZO (Zv (.int .i64 1) (Zv (.int .i64 3) (zP (zB ?_)))))))
      refine z6 (ZO (Zv (.pointer (some ⟨b1, 0, none⟩)) (Zl 0 ⟨b1, (coV c).cells, 51⟩ (off := 0) (.int .i64 c.op) ?_)))
      by_cases h5 : (c.op : Int) = 9
      · refine zW (p := (c.op : Int) = 9) true (by kernel_rfl) (fun _ => by kernel_rfl) (decide_eq_true (h5)) ?_
        refine ZN (jM (fun L f => ∃ (lo : Int) (hi : Int) (j : Nat → Value), ((c.op = 9 → lo = 0 ∧ hi = 2) ∧ (¬ c.op = 9 → lo = 1 ∧ hi = 3)) ∧ L = [⟨b1, (coV c).cells, 51⟩] ∧ f = kA j [(1, .pointer (some ⟨b1, 0, none⟩)), (3, .int .i64 lo), (4, .int .i64 hi)]) ?_ ?_)
        · refine ok_true (by kernel_rfl) ?_
          exact z7 (Zv (.int .i64 0) (Zv (.int .i64 2) (zP (yL ⟨0, 2, _, ⟨by omega, by omega⟩, rfl, ZU⟩))))
        · rintro L f ⟨lo, hi, j, hj3, rfl, rfl⟩
          refine zB (z6 (z6 (jM (fun L f => ∃ (bad : Bool) (j : Nat → Value), ((bad = true → ¬ (lo ≤ c.parts ∧ c.parts ≤ hi ∧ (3 ≤ c.parts ∨ c.v.pre = []))) ∧ (bad = false → lo ≤ c.parts ∧ c.parts ≤ hi ∧ (3 ≤ c.parts ∨ c.v.pre = []))) ∧ L = [⟨b1, (coV c).cells, 51⟩] ∧ f = kA j [(1, .pointer (some ⟨b1, 0, none⟩)), (48, .bool bad)]) ?_ ?_)))
          · refine z7 ?_
            refine Zv (.pointer (some ⟨b1, 1, none⟩)) (Zl 0 ⟨b1, (coV c).cells, 51⟩ (off := 1) (.int .i64 c.parts) (Zv (.int .i64 lo) ?_))
            by_cases h6 : (c.parts : Int) < lo
            · refine zW (p := (c.parts : Int) < lo) true (by kernel_rfl) (fun _ => by kernel_rfl) (decide_eq_true (h6)) ?_
              refine Zv (.bool true) (Zk (Zk (Zk (Zk (Zv (.bool true) (Zv (.bool true) (Zk (Zk (Zk (Zk (Zk ?_)))))))))))
              exact Zk (Zk (Zk (Zk (Zv (.bool true) (zP (yL ⟨true, _, ⟨fun q0 => by grind, fun q0 => absurd q0 (by decide)⟩, rfl, ZU⟩))))))
            refine Zd (p := (c.parts : Int) < lo) false (decide_eq_false (h6)) (Zv (.bool false) (Zv (.pointer (some ⟨b1, 1, none⟩)) (Zl 0 ⟨b1, (coV c).cells, 51⟩ (off := 1) (.int .i64 c.parts) (Zv (.int .i64 hi) ?_))))
            by_cases h7 : (hi : Int) < c.parts
            · refine zW (p := (hi : Int) < c.parts) true (by kernel_rfl) (fun _ => by kernel_rfl) (decide_eq_true (h7)) ?_
              refine Zv (.bool true) (Zv (.bool true) (Zk (Zk (Zk (Zk (Zk (Zk (Zk (Zk (Zk (Zv (.bool true) ?_)))))))))))
              exact zP (yL ⟨true, _, ⟨fun q0 => by grind, fun q0 => absurd q0 (by decide)⟩, rfl, ZU⟩)
            refine Zd (p := (hi : Int) < c.parts) false (decide_eq_false (h7)) (Zv (.bool false) (Zv (.bool false) (Zv (.pointer (some ⟨b1, 1, none⟩)) (Zl 0 ⟨b1, (coV c).cells, 51⟩ (off := 1) (.int .i64 c.parts) ?_))))
            by_cases h8 : (c.parts : Int) < 3
            · refine zW (p := (c.parts : Int) < 3) true (by kernel_rfl) (fun _ => by kernel_rfl) (decide_eq_true (h8)) ?_
              refine Zv (.bool true) (Zv (.pointer (some ⟨b1, 2, none⟩)) (Zv (.pointer (some ⟨b1, 5, none⟩)) (Zl 0 ⟨b1, (coV c).cells, 51⟩ (off := 5) (.string (mkS c.v.pre)) ?_)))
              by_cases h9 : (c.v.pre : List UInt8) = []
              · refine zX (.bool false) (by kernel_rfl) (x2 (a := c.v.pre) (b := ([])) rfl (by kernel_rfl) (by kernel_rfl) (decide_eq_true (h9))) ?_
                exact Zv (.bool false) (Zv (.bool false) (zP (yL ⟨false, _, ⟨fun q0 => absurd q0 (by decide), fun q0 => ⟨by omega, by omega, by first | exact .inr (by assumption) | exact .inl (by omega)⟩⟩, rfl, ZU⟩)))
              exact zX (.bool true) (by kernel_rfl) (x2 (a := c.v.pre) (b := ([])) rfl (by kernel_rfl) (by kernel_rfl) (decide_eq_false (h9))) (Zv (.bool true) (Zv (.bool true) (zP (yL ⟨true, _, ⟨fun q0 => by grind, fun q0 => absurd q0 (by decide)⟩, rfl, ZU⟩))))
            exact Zd (p := (c.parts : Int) < 3) false (decide_eq_false (h8)) (Zv (.bool false) (Zk (Zk (Zk (Zk (Zv (.bool false) (Zv (.bool false) (zP (yL ⟨false, _, ⟨fun q0 => absurd q0 (by decide), fun q0 => ⟨by omega, by omega, by first | exact .inr (by assumption) | exact .inl (by omega)⟩⟩, rfl, ZU⟩)))))))))
          · rintro L f ⟨bad, j, hj2, rfl, rfl⟩
            refine zB ?_
            cases h10 : bad with
            | true =>
              exact Zt (ZO (Zv (.bool false) (ZN (zC (z8 (ZF (.bool false) Tryz.results79 (fun w hO => ⟨by rw [show c.may = false from Bool.eq_false_iff.2 fun q0 => by have q1 := Co.may_iff.1 q0; grind], hO.below⟩)))))))
            | false =>
              refine Zf (ZB (ZO (Zv (.pointer (some ⟨b1, 1, none⟩)) (Zl 0 ⟨b1, (coV c).cells, 51⟩ (off := 1) (.int .i64 c.parts) ?_))))
              by_cases h11 : (0 : Int) < c.parts
              · refine zW (p := (0 : Int) < c.parts) true (by kernel_rfl) (fun _ => by kernel_rfl) (decide_eq_true (h11)) ?_
                refine Zv (.bool true) (Zk (Zk (Zk (Zk (Zv (.bool true) (Zv (.bool true) (Zv (.pointer (some ⟨b1, 1, none⟩)) (Zl 0 ⟨b1, (coV c).cells, 51⟩ (off := 1) (.int .i64 c.parts) ?_))))))))
                by_cases h12 : (1 : Int) < c.parts
                · refine zW (p := (1 : Int) < c.parts) true (by kernel_rfl) (fun _ => by kernel_rfl) (decide_eq_true (h12)) ?_
                  refine Zv (.bool true) (Zk (Zk (Zk (Zk (Zv (.bool true) (Zv (.bool true) (Zv (.bool true) (Zv (.pointer (some ⟨b1, 1, none⟩)) (Zl 0 ⟨b1, (coV c).cells, 51⟩ (off := 1) (.int .i64 c.parts) ?_)))))))))
                  by_cases h13 : (2 : Int) < c.parts
                  · refine zW (p := (2 : Int) < c.parts) true (by kernel_rfl) (fun _ => by kernel_rfl) (decide_eq_true (h13)) ?_
                    refine Zv (.bool true) (Zk (Zk (Zk (Zk (Zv (.bool true) (Zv (.bool true) (Zv (.bool true) (ZN (zC (ZF (.bool true) Tryz.results79 ?_))))))))))
                    exact fun w hO => ⟨by rw [Co.may_iff.2 ⟨by omega, by assumption, by assumption, by grind, by grind, by grind, by omega, by omega, by omega⟩], hO.below⟩
                  refine Zd (p := (2 : Int) < c.parts) false (decide_eq_false (h13)) (Zv (.bool false) (Zv (.pointer (some ⟨b1, 2, none⟩)) (Zv (.pointer (some ⟨b1, 4, none⟩)) (Zl 0 ⟨b1, (coV c).cells, 51⟩ (off := 4) (.int .i64 c.v.pat) ?_))))
                  by_cases h14 : (c.v.pat : Int) = 0
                  · refine zW (p := (c.v.pat : Int) = 0) true (by kernel_rfl) (fun _ => by kernel_rfl) (decide_eq_true (h14)) ?_
                    exact Zv (.bool true) (Zv (.bool true) (Zv (.bool true) (ZN (zC (ZF (.bool true) Tryz.results79 (fun w hO => ⟨by rw [Co.may_iff.2 ⟨by omega, by assumption, by assumption, by grind, by grind, by grind, by omega, by omega, by omega⟩], hO.below⟩))))))
                  exact Zd (p := (c.v.pat : Int) = 0) false (decide_eq_false (h14)) (Zv (.bool false) (Zv (.bool false) (Zv (.bool false) (ZN (zC (ZF (.bool false) Tryz.results79 (fun w hO => ⟨by rw [show c.may = false from Bool.eq_false_iff.2 fun q0 => by have q1 := Co.may_iff.1 q0; grind], hO.below⟩)))))))
                refine Zd (p := (1 : Int) < c.parts) false (decide_eq_false (h12)) (Zv (.bool false) (Zv (.pointer (some ⟨b1, 2, none⟩)) (Zv (.pointer (some ⟨b1, 3, none⟩)) (Zl 0 ⟨b1, (coV c).cells, 51⟩ (off := 3) (.int .i64 c.v.min) ?_))))
                by_cases h15 : (c.v.min : Int) = 0
                · refine zW (p := (c.v.min : Int) = 0) true (by kernel_rfl) (fun _ => by kernel_rfl) (decide_eq_true (h15)) ?_
                  refine Zv (.bool true) (Zv (.bool true) (Zv (.bool true) (Zv (.pointer (some ⟨b1, 1, none⟩)) (Zl 0 ⟨b1, (coV c).cells, 51⟩ (off := 1) (.int .i64 c.parts) ?_))))
                  by_cases h16 : (2 : Int) < c.parts
                  · refine zW (p := (2 : Int) < c.parts) true (by kernel_rfl) (fun _ => by kernel_rfl) (decide_eq_true (h16)) ?_
                    refine Zv (.bool true) (Zk (Zk (Zk (Zk (Zv (.bool true) (Zv (.bool true) (Zv (.bool true) (ZN (zC (ZF (.bool true) Tryz.results79 ?_))))))))))
                    exact fun w hO => ⟨by rw [Co.may_iff.2 ⟨by omega, by assumption, by assumption, by grind, by grind, by grind, by omega, by omega, by omega⟩], hO.below⟩
                  refine Zd (p := (2 : Int) < c.parts) false (decide_eq_false (h16)) (Zv (.bool false) (Zv (.pointer (some ⟨b1, 2, none⟩)) (Zv (.pointer (some ⟨b1, 4, none⟩)) (Zl 0 ⟨b1, (coV c).cells, 51⟩ (off := 4) (.int .i64 c.v.pat) ?_))))
                  by_cases h17 : (c.v.pat : Int) = 0
                  · refine zW (p := (c.v.pat : Int) = 0) true (by kernel_rfl) (fun _ => by kernel_rfl) (decide_eq_true (h17)) ?_
                    exact Zv (.bool true) (Zv (.bool true) (Zv (.bool true) (ZN (zC (ZF (.bool true) Tryz.results79 (fun w hO => ⟨by rw [Co.may_iff.2 ⟨by omega, by assumption, by assumption, by grind, by grind, by grind, by omega, by omega, by omega⟩], hO.below⟩))))))
                  exact Zd (p := (c.v.pat : Int) = 0) false (decide_eq_false (h17)) (Zv (.bool false) (Zv (.bool false) (Zv (.bool false) (ZN (zC (ZF (.bool false) Tryz.results79 (fun w hO => ⟨by rw [show c.may = false from Bool.eq_false_iff.2 fun q0 => by have q1 := Co.may_iff.1 q0; grind], hO.below⟩)))))))
                refine Zd (p := (c.v.min : Int) = 0) false (decide_eq_false (h15)) (Zv (.bool false) (Zv (.bool false) (Zv (.bool false) (Zk (Zk (Zk (Zk (Zk (Zk (Zk (Zk ?_)))))))))))
                exact Zk (Zv (.bool false) (Zv (.bool false) (ZN (zC (ZF (.bool false) Tryz.results79 (fun w hO => ⟨by rw [show c.may = false from Bool.eq_false_iff.2 fun q0 => by have q1 := Co.may_iff.1 q0; grind], hO.below⟩))))))
              refine Zd (p := (0 : Int) < c.parts) false (decide_eq_false (h11)) (Zv (.bool false) (Zv (.pointer (some ⟨b1, 2, none⟩)) (Zv (.pointer (some ⟨b1, 2, none⟩)) (Zl 0 ⟨b1, (coV c).cells, 51⟩ (off := 2) (.int .i64 c.v.maj) ?_))))
              by_cases h18 : (c.v.maj : Int) = 0
              · refine zW (p := (c.v.maj : Int) = 0) true (by kernel_rfl) (fun _ => by kernel_rfl) (decide_eq_true (h18)) ?_
                refine Zv (.bool true) (Zv (.bool true) (Zv (.pointer (some ⟨b1, 1, none⟩)) (Zl 0 ⟨b1, (coV c).cells, 51⟩ (off := 1) (.int .i64 c.parts) ?_)))
                by_cases h19 : (1 : Int) < c.parts
                · refine zW (p := (1 : Int) < c.parts) true (by kernel_rfl) (fun _ => by kernel_rfl) (decide_eq_true (h19)) ?_
                  refine Zv (.bool true) (Zk (Zk (Zk (Zk (Zv (.bool true) (Zv (.bool true) (Zv (.bool true) (Zv (.pointer (some ⟨b1, 1, none⟩)) (Zl 0 ⟨b1, (coV c).cells, 51⟩ (off := 1) (.int .i64 c.parts) ?_)))))))))
                  by_cases h20 : (2 : Int) < c.parts
                  · refine zW (p := (2 : Int) < c.parts) true (by kernel_rfl) (fun _ => by kernel_rfl) (decide_eq_true (h20)) ?_
                    refine Zv (.bool true) (Zk (Zk (Zk (Zk (Zv (.bool true) (Zv (.bool true) (Zv (.bool true) (ZN (zC (ZF (.bool true) Tryz.results79 ?_))))))))))
                    exact fun w hO => ⟨by rw [Co.may_iff.2 ⟨by omega, by assumption, by assumption, by grind, by grind, by grind, by omega, by omega, by omega⟩], hO.below⟩
                  refine Zd (p := (2 : Int) < c.parts) false (decide_eq_false (h20)) (Zv (.bool false) (Zv (.pointer (some ⟨b1, 2, none⟩)) (Zv (.pointer (some ⟨b1, 4, none⟩)) (Zl 0 ⟨b1, (coV c).cells, 51⟩ (off := 4) (.int .i64 c.v.pat) ?_))))
                  by_cases h21 : (c.v.pat : Int) = 0
                  · refine zW (p := (c.v.pat : Int) = 0) true (by kernel_rfl) (fun _ => by kernel_rfl) (decide_eq_true (h21)) ?_
                    exact Zv (.bool true) (Zv (.bool true) (Zv (.bool true) (ZN (zC (ZF (.bool true) Tryz.results79 (fun w hO => ⟨by rw [Co.may_iff.2 ⟨by omega, by assumption, by assumption, by grind, by grind, by grind, by omega, by omega, by omega⟩], hO.below⟩))))))
                  exact Zd (p := (c.v.pat : Int) = 0) false (decide_eq_false (h21)) (Zv (.bool false) (Zv (.bool false) (Zv (.bool false) (ZN (zC (ZF (.bool false) Tryz.results79 (fun w hO => ⟨by rw [show c.may = false from Bool.eq_false_iff.2 fun q0 => by have q1 := Co.may_iff.1 q0; grind], hO.below⟩)))))))
                refine Zd (p := (1 : Int) < c.parts) false (decide_eq_false (h19)) (Zv (.bool false) (Zv (.pointer (some ⟨b1, 2, none⟩)) (Zv (.pointer (some ⟨b1, 3, none⟩)) (Zl 0 ⟨b1, (coV c).cells, 51⟩ (off := 3) (.int .i64 c.v.min) ?_))))
                by_cases h22 : (c.v.min : Int) = 0
                · refine zW (p := (c.v.min : Int) = 0) true (by kernel_rfl) (fun _ => by kernel_rfl) (decide_eq_true (h22)) ?_
                  refine Zv (.bool true) (Zv (.bool true) (Zv (.bool true) (Zv (.pointer (some ⟨b1, 1, none⟩)) (Zl 0 ⟨b1, (coV c).cells, 51⟩ (off := 1) (.int .i64 c.parts) ?_))))
                  by_cases h23 : (2 : Int) < c.parts
                  · refine zW (p := (2 : Int) < c.parts) true (by kernel_rfl) (fun _ => by kernel_rfl) (decide_eq_true (h23)) ?_
                    refine Zv (.bool true) (Zk (Zk (Zk (Zk (Zv (.bool true) (Zv (.bool true) (Zv (.bool true) (ZN (zC (ZF (.bool true) Tryz.results79 ?_))))))))))
                    exact fun w hO => ⟨by rw [Co.may_iff.2 ⟨by omega, by assumption, by assumption, by grind, by grind, by grind, by omega, by omega, by omega⟩], hO.below⟩
                  refine Zd (p := (2 : Int) < c.parts) false (decide_eq_false (h23)) (Zv (.bool false) (Zv (.pointer (some ⟨b1, 2, none⟩)) (Zv (.pointer (some ⟨b1, 4, none⟩)) (Zl 0 ⟨b1, (coV c).cells, 51⟩ (off := 4) (.int .i64 c.v.pat) ?_))))
                  by_cases h24 : (c.v.pat : Int) = 0
                  · refine zW (p := (c.v.pat : Int) = 0) true (by kernel_rfl) (fun _ => by kernel_rfl) (decide_eq_true (h24)) ?_
                    exact Zv (.bool true) (Zv (.bool true) (Zv (.bool true) (ZN (zC (ZF (.bool true) Tryz.results79 (fun w hO => ⟨by rw [Co.may_iff.2 ⟨by omega, by assumption, by assumption, by grind, by grind, by grind, by omega, by omega, by omega⟩], hO.below⟩))))))
                  exact Zd (p := (c.v.pat : Int) = 0) false (decide_eq_false (h24)) (Zv (.bool false) (Zv (.bool false) (Zv (.bool false) (ZN (zC (ZF (.bool false) Tryz.results79 (fun w hO => ⟨by rw [show c.may = false from Bool.eq_false_iff.2 fun q0 => by have q1 := Co.may_iff.1 q0; grind], hO.below⟩)))))))
                refine Zd (p := (c.v.min : Int) = 0) false (decide_eq_false (h22)) (Zv (.bool false) (Zv (.bool false) (Zv (.bool false) (Zk (Zk (Zk (Zk (Zk (Zk (Zk (Zk ?_)))))))))))
                exact Zk (Zv (.bool false) (Zv (.bool false) (ZN (zC (ZF (.bool false) Tryz.results79 (fun w hO => ⟨by rw [show c.may = false from Bool.eq_false_iff.2 fun q0 => by have q1 := Co.may_iff.1 q0; grind], hO.below⟩))))))
              refine Zd (p := (c.v.maj : Int) = 0) false (decide_eq_false (h18)) (Zv (.bool false) (Zv (.bool false) (Zk (Zk (Zk (Zk (Zk (Zk (Zk (Zk (Zk ?_)))))))))))
              refine Zv (.bool false) (Zv (.bool false) (Zk (Zk (Zk (Zk (Zk (Zk (Zk (Zk (Zk (Zv (.bool false) ?_)))))))))))
              exact Zv (.bool false) (ZN (zC (ZF (.bool false) Tryz.results79 (fun w hO => ⟨by rw [show c.may = false from Bool.eq_false_iff.2 fun q0 => by have q1 := Co.may_iff.1 q0; grind], hO.below⟩))))
      refine Zd (p := (c.op : Int) = 9) false (decide_eq_false (h5)) (ZN (jM (fun L f => ∃ (lo : Int) (hi : Int) (j : Nat → Value), ((c.op = 9 → lo = 0 ∧ hi = 2) ∧ (¬ c.op = 9 → lo = 1 ∧ hi = 3)) ∧ L = [⟨b1, (coV c).cells, 51⟩] ∧ f = kA j [(1, .pointer (some ⟨b1, 0, none⟩)), (3, .int .i64 lo), (4, .int .i64 hi)]) ?_ ?_))
      · refine ok_false (by kernel_rfl) ?_
        exact yS (yL ⟨1, 3, _, ⟨by omega, by omega⟩, rfl, ZU⟩)
      · rintro L f ⟨lo, hi, j, hj3, rfl, rfl⟩
        refine zB (z6 (z6 (jM (fun L f => ∃ (bad : Bool) (j : Nat → Value), ((bad = true → ¬ (lo ≤ c.parts ∧ c.parts ≤ hi ∧ (3 ≤ c.parts ∨ c.v.pre = []))) ∧ (bad = false → lo ≤ c.parts ∧ c.parts ≤ hi ∧ (3 ≤ c.parts ∨ c.v.pre = []))) ∧ L = [⟨b1, (coV c).cells, 51⟩] ∧ f = kA j [(1, .pointer (some ⟨b1, 0, none⟩)), (48, .bool bad)]) ?_ ?_)))
        · refine z7 ?_
          refine Zv (.pointer (some ⟨b1, 1, none⟩)) (Zl 0 ⟨b1, (coV c).cells, 51⟩ (off := 1) (.int .i64 c.parts) (Zv (.int .i64 lo) ?_))
          by_cases h25 : (c.parts : Int) < lo
          · refine zW (p := (c.parts : Int) < lo) true (by kernel_rfl) (fun _ => by kernel_rfl) (decide_eq_true (h25)) ?_
            refine Zv (.bool true) (Zk (Zk (Zk (Zk (Zv (.bool true) (Zv (.bool true) (Zk (Zk (Zk (Zk (Zk ?_)))))))))))
            exact Zk (Zk (Zk (Zk (Zv (.bool true) (zP (yL ⟨true, _, ⟨fun q0 => by grind, fun q0 => absurd q0 (by decide)⟩, rfl, ZU⟩))))))
          refine Zd (p := (c.parts : Int) < lo) false (decide_eq_false (h25)) (Zv (.bool false) (Zv (.pointer (some ⟨b1, 1, none⟩)) (Zl 0 ⟨b1, (coV c).cells, 51⟩ (off := 1) (.int .i64 c.parts) (Zv (.int .i64 hi) ?_))))
          by_cases h26 : (hi : Int) < c.parts
          · refine zW (p := (hi : Int) < c.parts) true (by kernel_rfl) (fun _ => by kernel_rfl) (decide_eq_true (h26)) ?_
            refine Zv (.bool true) (Zv (.bool true) (Zk (Zk (Zk (Zk (Zk (Zk (Zk (Zk (Zk (Zv (.bool true) ?_)))))))))))
            exact zP (yL ⟨true, _, ⟨fun q0 => by grind, fun q0 => absurd q0 (by decide)⟩, rfl, ZU⟩)
          refine Zd (p := (hi : Int) < c.parts) false (decide_eq_false (h26)) (Zv (.bool false) (Zv (.bool false) (Zv (.pointer (some ⟨b1, 1, none⟩)) (Zl 0 ⟨b1, (coV c).cells, 51⟩ (off := 1) (.int .i64 c.parts) ?_))))
          by_cases h27 : (c.parts : Int) < 3
          · refine zW (p := (c.parts : Int) < 3) true (by kernel_rfl) (fun _ => by kernel_rfl) (decide_eq_true (h27)) ?_
            refine Zv (.bool true) (Zv (.pointer (some ⟨b1, 2, none⟩)) (Zv (.pointer (some ⟨b1, 5, none⟩)) (Zl 0 ⟨b1, (coV c).cells, 51⟩ (off := 5) (.string (mkS c.v.pre)) ?_)))
            by_cases h28 : (c.v.pre : List UInt8) = []
            · refine zX (.bool false) (by kernel_rfl) (x2 (a := c.v.pre) (b := ([])) rfl (by kernel_rfl) (by kernel_rfl) (decide_eq_true (h28))) ?_
              exact Zv (.bool false) (Zv (.bool false) (zP (yL ⟨false, _, ⟨fun q0 => absurd q0 (by decide), fun q0 => ⟨by omega, by omega, by first | exact .inr (by assumption) | exact .inl (by omega)⟩⟩, rfl, ZU⟩)))
            exact zX (.bool true) (by kernel_rfl) (x2 (a := c.v.pre) (b := ([])) rfl (by kernel_rfl) (by kernel_rfl) (decide_eq_false (h28))) (Zv (.bool true) (Zv (.bool true) (zP (yL ⟨true, _, ⟨fun q0 => by grind, fun q0 => absurd q0 (by decide)⟩, rfl, ZU⟩))))
          exact Zd (p := (c.parts : Int) < 3) false (decide_eq_false (h27)) (Zv (.bool false) (Zk (Zk (Zk (Zk (Zv (.bool false) (Zv (.bool false) (zP (yL ⟨false, _, ⟨fun q0 => absurd q0 (by decide), fun q0 => ⟨by omega, by omega, by first | exact .inr (by assumption) | exact .inl (by omega)⟩⟩, rfl, ZU⟩)))))))))
        · rintro L f ⟨bad, j, hj2, rfl, rfl⟩
          refine zB ?_
          cases h29 : bad with
          | true =>
            exact Zt (ZO (Zv (.bool false) (ZN (zC (z8 (ZF (.bool false) Tryz.results79 (fun w hO => ⟨by rw [show c.may = false from Bool.eq_false_iff.2 fun q0 => by have q1 := Co.may_iff.1 q0; grind], hO.below⟩)))))))
          | false =>
            refine Zf (ZB (ZO (Zv (.pointer (some ⟨b1, 1, none⟩)) (Zl 0 ⟨b1, (coV c).cells, 51⟩ (off := 1) (.int .i64 c.parts) ?_))))
            by_cases h30 : (0 : Int) < c.parts
            · refine zW (p := (0 : Int) < c.parts) true (by kernel_rfl) (fun _ => by kernel_rfl) (decide_eq_true (h30)) ?_
              refine Zv (.bool true) (Zk (Zk (Zk (Zk (Zv (.bool true) (Zv (.bool true) (Zv (.pointer (some ⟨b1, 1, none⟩)) (Zl 0 ⟨b1, (coV c).cells, 51⟩ (off := 1) (.int .i64 c.parts) ?_))))))))
              by_cases h31 : (1 : Int) < c.parts
              · refine zW (p := (1 : Int) < c.parts) true (by kernel_rfl) (fun _ => by kernel_rfl) (decide_eq_true (h31)) ?_
                refine Zv (.bool true) (Zk (Zk (Zk (Zk (Zv (.bool true) (Zv (.bool true) (Zv (.bool true) (Zv (.pointer (some ⟨b1, 1, none⟩)) (Zl 0 ⟨b1, (coV c).cells, 51⟩ (off := 1) (.int .i64 c.parts) ?_)))))))))
                by_cases h32 : (2 : Int) < c.parts
                · refine zW (p := (2 : Int) < c.parts) true (by kernel_rfl) (fun _ => by kernel_rfl) (decide_eq_true (h32)) ?_
                  refine Zv (.bool true) (Zk (Zk (Zk (Zk (Zv (.bool true) (Zv (.bool true) (Zv (.bool true) (ZN (zC (ZF (.bool true) Tryz.results79 ?_))))))))))
                  exact fun w hO => ⟨by rw [Co.may_iff.2 ⟨by omega, by assumption, by assumption, by grind, by grind, by grind, by omega, by omega, by omega⟩], hO.below⟩
                refine Zd (p := (2 : Int) < c.parts) false (decide_eq_false (h32)) (Zv (.bool false) (Zv (.pointer (some ⟨b1, 2, none⟩)) (Zv (.pointer (some ⟨b1, 4, none⟩)) (Zl 0 ⟨b1, (coV c).cells, 51⟩ (off := 4) (.int .i64 c.v.pat) ?_))))
                by_cases h33 : (c.v.pat : Int) = 0
                · refine zW (p := (c.v.pat : Int) = 0) true (by kernel_rfl) (fun _ => by kernel_rfl) (decide_eq_true (h33)) ?_
                  exact Zv (.bool true) (Zv (.bool true) (Zv (.bool true) (ZN (zC (ZF (.bool true) Tryz.results79 (fun w hO => ⟨by rw [Co.may_iff.2 ⟨by omega, by assumption, by assumption, by grind, by grind, by grind, by omega, by omega, by omega⟩], hO.below⟩))))))
                exact Zd (p := (c.v.pat : Int) = 0) false (decide_eq_false (h33)) (Zv (.bool false) (Zv (.bool false) (Zv (.bool false) (ZN (zC (ZF (.bool false) Tryz.results79 (fun w hO => ⟨by rw [show c.may = false from Bool.eq_false_iff.2 fun q0 => by have q1 := Co.may_iff.1 q0; grind], hO.below⟩)))))))
              refine Zd (p := (1 : Int) < c.parts) false (decide_eq_false (h31)) (Zv (.bool false) (Zv (.pointer (some ⟨b1, 2, none⟩)) (Zv (.pointer (some ⟨b1, 3, none⟩)) (Zl 0 ⟨b1, (coV c).cells, 51⟩ (off := 3) (.int .i64 c.v.min) ?_))))
              by_cases h34 : (c.v.min : Int) = 0
              · refine zW (p := (c.v.min : Int) = 0) true (by kernel_rfl) (fun _ => by kernel_rfl) (decide_eq_true (h34)) ?_
                refine Zv (.bool true) (Zv (.bool true) (Zv (.bool true) (Zv (.pointer (some ⟨b1, 1, none⟩)) (Zl 0 ⟨b1, (coV c).cells, 51⟩ (off := 1) (.int .i64 c.parts) ?_))))
                by_cases h35 : (2 : Int) < c.parts
                · refine zW (p := (2 : Int) < c.parts) true (by kernel_rfl) (fun _ => by kernel_rfl) (decide_eq_true (h35)) ?_
                  refine Zv (.bool true) (Zk (Zk (Zk (Zk (Zv (.bool true) (Zv (.bool true) (Zv (.bool true) (ZN (zC (ZF (.bool true) Tryz.results79 ?_))))))))))
                  exact fun w hO => ⟨by rw [Co.may_iff.2 ⟨by omega, by assumption, by assumption, by grind, by grind, by grind, by omega, by omega, by omega⟩], hO.below⟩
                refine Zd (p := (2 : Int) < c.parts) false (decide_eq_false (h35)) (Zv (.bool false) (Zv (.pointer (some ⟨b1, 2, none⟩)) (Zv (.pointer (some ⟨b1, 4, none⟩)) (Zl 0 ⟨b1, (coV c).cells, 51⟩ (off := 4) (.int .i64 c.v.pat) ?_))))
                by_cases h36 : (c.v.pat : Int) = 0
                · refine zW (p := (c.v.pat : Int) = 0) true (by kernel_rfl) (fun _ => by kernel_rfl) (decide_eq_true (h36)) ?_
                  exact Zv (.bool true) (Zv (.bool true) (Zv (.bool true) (ZN (zC (ZF (.bool true) Tryz.results79 (fun w hO => ⟨by rw [Co.may_iff.2 ⟨by omega, by assumption, by assumption, by grind, by grind, by grind, by omega, by omega, by omega⟩], hO.below⟩))))))
                exact Zd (p := (c.v.pat : Int) = 0) false (decide_eq_false (h36)) (Zv (.bool false) (Zv (.bool false) (Zv (.bool false) (ZN (zC (ZF (.bool false) Tryz.results79 (fun w hO => ⟨by rw [show c.may = false from Bool.eq_false_iff.2 fun q0 => by have q1 := Co.may_iff.1 q0; grind], hO.below⟩)))))))
              refine Zd (p := (c.v.min : Int) = 0) false (decide_eq_false (h34)) (Zv (.bool false) (Zv (.bool false) (Zv (.bool false) (Zk (Zk (Zk (Zk (Zk (Zk (Zk (Zk ?_)))))))))))
              exact Zk (Zv (.bool false) (Zv (.bool false) (ZN (zC (ZF (.bool false) Tryz.results79 (fun w hO => ⟨by rw [show c.may = false from Bool.eq_false_iff.2 fun q0 => by have q1 := Co.may_iff.1 q0; grind], hO.below⟩))))))
            refine Zd (p := (0 : Int) < c.parts) false (decide_eq_false (h30)) (Zv (.bool false) (Zv (.pointer (some ⟨b1, 2, none⟩)) (Zv (.pointer (some ⟨b1, 2, none⟩)) (Zl 0 ⟨b1, (coV c).cells, 51⟩ (off := 2) (.int .i64 c.v.maj) ?_))))
            by_cases h37 : (c.v.maj : Int) = 0
            · refine zW (p := (c.v.maj : Int) = 0) true (by kernel_rfl) (fun _ => by kernel_rfl) (decide_eq_true (h37)) ?_
              refine Zv (.bool true) (Zv (.bool true) (Zv (.pointer (some ⟨b1, 1, none⟩)) (Zl 0 ⟨b1, (coV c).cells, 51⟩ (off := 1) (.int .i64 c.parts) ?_)))
              by_cases h38 : (1 : Int) < c.parts
              · refine zW (p := (1 : Int) < c.parts) true (by kernel_rfl) (fun _ => by kernel_rfl) (decide_eq_true (h38)) ?_
                refine Zv (.bool true) (Zk (Zk (Zk (Zk (Zv (.bool true) (Zv (.bool true) (Zv (.bool true) (Zv (.pointer (some ⟨b1, 1, none⟩)) (Zl 0 ⟨b1, (coV c).cells, 51⟩ (off := 1) (.int .i64 c.parts) ?_)))))))))
                by_cases h39 : (2 : Int) < c.parts
                · refine zW (p := (2 : Int) < c.parts) true (by kernel_rfl) (fun _ => by kernel_rfl) (decide_eq_true (h39)) ?_
                  refine Zv (.bool true) (Zk (Zk (Zk (Zk (Zv (.bool true) (Zv (.bool true) (Zv (.bool true) (ZN (zC (ZF (.bool true) Tryz.results79 ?_))))))))))
                  exact fun w hO => ⟨by rw [Co.may_iff.2 ⟨by omega, by assumption, by assumption, by grind, by grind, by grind, by omega, by omega, by omega⟩], hO.below⟩
                refine Zd (p := (2 : Int) < c.parts) false (decide_eq_false (h39)) (Zv (.bool false) (Zv (.pointer (some ⟨b1, 2, none⟩)) (Zv (.pointer (some ⟨b1, 4, none⟩)) (Zl 0 ⟨b1, (coV c).cells, 51⟩ (off := 4) (.int .i64 c.v.pat) ?_))))
                by_cases h40 : (c.v.pat : Int) = 0
                · refine zW (p := (c.v.pat : Int) = 0) true (by kernel_rfl) (fun _ => by kernel_rfl) (decide_eq_true (h40)) ?_
                  exact Zv (.bool true) (Zv (.bool true) (Zv (.bool true) (ZN (zC (ZF (.bool true) Tryz.results79 (fun w hO => ⟨by rw [Co.may_iff.2 ⟨by omega, by assumption, by assumption, by grind, by grind, by grind, by omega, by omega, by omega⟩], hO.below⟩))))))
                exact Zd (p := (c.v.pat : Int) = 0) false (decide_eq_false (h40)) (Zv (.bool false) (Zv (.bool false) (Zv (.bool false) (ZN (zC (ZF (.bool false) Tryz.results79 (fun w hO => ⟨by rw [show c.may = false from Bool.eq_false_iff.2 fun q0 => by have q1 := Co.may_iff.1 q0; grind], hO.below⟩)))))))
              refine Zd (p := (1 : Int) < c.parts) false (decide_eq_false (h38)) (Zv (.bool false) (Zv (.pointer (some ⟨b1, 2, none⟩)) (Zv (.pointer (some ⟨b1, 3, none⟩)) (Zl 0 ⟨b1, (coV c).cells, 51⟩ (off := 3) (.int .i64 c.v.min) ?_))))
              by_cases h41 : (c.v.min : Int) = 0
              · refine zW (p := (c.v.min : Int) = 0) true (by kernel_rfl) (fun _ => by kernel_rfl) (decide_eq_true (h41)) ?_
                refine Zv (.bool true) (Zv (.bool true) (Zv (.bool true) (Zv (.pointer (some ⟨b1, 1, none⟩)) (Zl 0 ⟨b1, (coV c).cells, 51⟩ (off := 1) (.int .i64 c.parts) ?_))))
                by_cases h42 : (2 : Int) < c.parts
                · refine zW (p := (2 : Int) < c.parts) true (by kernel_rfl) (fun _ => by kernel_rfl) (decide_eq_true (h42)) ?_
                  refine Zv (.bool true) (Zk (Zk (Zk (Zk (Zv (.bool true) (Zv (.bool true) (Zv (.bool true) (ZN (zC (ZF (.bool true) Tryz.results79 ?_))))))))))
                  exact fun w hO => ⟨by rw [Co.may_iff.2 ⟨by omega, by assumption, by assumption, by grind, by grind, by grind, by omega, by omega, by omega⟩], hO.below⟩
                refine Zd (p := (2 : Int) < c.parts) false (decide_eq_false (h42)) (Zv (.bool false) (Zv (.pointer (some ⟨b1, 2, none⟩)) (Zv (.pointer (some ⟨b1, 4, none⟩)) (Zl 0 ⟨b1, (coV c).cells, 51⟩ (off := 4) (.int .i64 c.v.pat) ?_))))
                by_cases h43 : (c.v.pat : Int) = 0
                · refine zW (p := (c.v.pat : Int) = 0) true (by kernel_rfl) (fun _ => by kernel_rfl) (decide_eq_true (h43)) ?_
                  exact Zv (.bool true) (Zv (.bool true) (Zv (.bool true) (ZN (zC (ZF (.bool true) Tryz.results79 (fun w hO => ⟨by rw [Co.may_iff.2 ⟨by omega, by assumption, by assumption, by grind, by grind, by grind, by omega, by omega, by omega⟩], hO.below⟩))))))
                exact Zd (p := (c.v.pat : Int) = 0) false (decide_eq_false (h43)) (Zv (.bool false) (Zv (.bool false) (Zv (.bool false) (ZN (zC (ZF (.bool false) Tryz.results79 (fun w hO => ⟨by rw [show c.may = false from Bool.eq_false_iff.2 fun q0 => by have q1 := Co.may_iff.1 q0; grind], hO.below⟩)))))))
              refine Zd (p := (c.v.min : Int) = 0) false (decide_eq_false (h41)) (Zv (.bool false) (Zv (.bool false) (Zv (.bool false) (Zk (Zk (Zk (Zk (Zk (Zk (Zk (Zk ?_)))))))))))
              exact Zk (Zv (.bool false) (Zv (.bool false) (ZN (zC (ZF (.bool false) Tryz.results79 (fun w hO => ⟨by rw [show c.may = false from Bool.eq_false_iff.2 fun q0 => by have q1 := Co.may_iff.1 q0; grind], hO.below⟩))))))
            refine Zd (p := (c.v.maj : Int) = 0) false (decide_eq_false (h37)) (Zv (.bool false) (Zv (.bool false) (Zk (Zk (Zk (Zk (Zk (Zk (Zk (Zk (Zk ?_)))))))))))
            refine Zv (.bool false) (Zv (.bool false) (Zk (Zk (Zk (Zk (Zk (Zk (Zk (Zk (Zk (Zv (.bool false) ?_)))))))))))
            exact Zv (.bool false) (ZN (zC (ZF (.bool false) Tryz.results79 (fun w hO => ⟨by rw [show c.may = false from Bool.eq_false_iff.2 fun q0 => by have q1 := Co.may_iff.1 q0; grind], hO.below⟩))))
    refine zX (.bool true) (by kernel_rfl) (x2 (a := c.v.build) (b := ([])) rfl (by kernel_rfl) (by kernel_rfl) (decide_eq_false (h4))) (Zv (.bool true) (ZY (ZO (Zv (.bool false) (ZN (zC (z8 ?_)))))))
    exact ZF (.bool false) Tryz.results79 (fun w hO => ⟨by rw [show c.may = false from Bool.eq_false_iff.2 fun q0 => by have q1 := Co.may_iff.1 q0; grind], hO.below⟩)
  | false =>
    refine Zv (.bool true) (Zv (.bool true) (Zv (.bool true) (Zk (Zk (Zk (Zk (Zv (.bool true) (ZY (z6 ?_)))))))))
    exact z7 (Zv (.bool false) (ZN (zC (z8 (ZF (.bool false) Tryz.results79 (fun w hO => ⟨by rw [show c.may = false from Bool.eq_false_iff.2 fun q0 => by have q1 := Co.may_iff.1 q0; grind], hO.below⟩))))))
theorem rcsign_any (op : Int) (W : World) : Calls Tryz.prog 123 #[.int .i64 op] W fun e w' => e = .returned (.string (mkS (y9 op))) ∧ Below W.heap.size W w' := by
  refine zQ (n := 20) Tryz.func123 rfl (by kernel_rfl) (by kernel_rfl) (ZO (Zv (.string ⟨#[]⟩) (ZN (z6 (ZO (Zv (.int .i64 op) (zP (zB ?_))))))))
  refine zK (z6 (z7 ?_))
  by_cases h1 : (op : Int) = 1
  · refine zW (p := (op : Int) = 1) true (by kernel_rfl) (fun _ => by kernel_rfl) (decide_eq_true (h1)) ?_
    refine Zv (.bool true) (ZY (ZO (Zv (.string ⟨#[61]⟩) (ZN (zC (zF (z8 ?_)))))))
    exact ZF (.string ⟨#[61]⟩) Tryz.results123 (fun w hO => ⟨by unfold y9; simp [h1]; rfl, hO.below⟩)
  refine Zd (p := (op : Int) = 1) false (decide_eq_false (h1)) (Zv (.bool false) (ZX (z6 (z7 ?_))))
  by_cases h2 : (op : Int) = 2
  · refine zW (p := (op : Int) = 2) true (by kernel_rfl) (fun _ => by kernel_rfl) (decide_eq_true (h2)) ?_
    refine Zv (.bool true) (ZY (ZO (Zv (.string ⟨#[33, 61]⟩) (ZN (zC (zF (z8 ?_)))))))
    exact ZF (.string ⟨#[33, 61]⟩) Tryz.results123 (fun w hO => ⟨by unfold y9; simp [h1, h2]; rfl, hO.below⟩)
  refine Zd (p := (op : Int) = 2) false (decide_eq_false (h2)) (Zv (.bool false) (ZX (z6 (z7 ?_))))
  by_cases h3 : (op : Int) = 3
  · refine zW (p := (op : Int) = 3) true (by kernel_rfl) (fun _ => by kernel_rfl) (decide_eq_true (h3)) ?_
    refine Zv (.bool true) (ZY (ZO (Zv (.string ⟨#[60]⟩) (ZN (zC (zF (z8 ?_)))))))
    exact ZF (.string ⟨#[60]⟩) Tryz.results123 (fun w hO => ⟨by unfold y9; simp [h1, h2, h3]; rfl, hO.below⟩)
  refine Zd (p := (op : Int) = 3) false (decide_eq_false (h3)) (Zv (.bool false) (ZX (z6 (z7 ?_))))
  by_cases h4 : (op : Int) = 4
  · refine zW (p := (op : Int) = 4) true (by kernel_rfl) (fun _ => by kernel_rfl) (decide_eq_true (h4)) ?_
    refine Zv (.bool true) (ZY (ZO (Zv (.string ⟨#[60, 61]⟩) (ZN (zC (zF (z8 ?_)))))))
    exact ZF (.string ⟨#[60, 61]⟩) Tryz.results123 (fun w hO => ⟨by unfold y9; simp [h1, h2, h3, h4]; rfl, hO.below⟩)
  refine Zd (p := (op : Int) = 4) false (decide_eq_false (h4)) (Zv (.bool false) (ZX (z6 (z7 ?_))))
  by_cases h5 : (op : Int) = 5
  · refine zW (p := (op : Int) = 5) true (by kernel_rfl) (fun _ => by kernel_rfl) (decide_eq_true (h5)) ?_
    refine Zv (.bool true) (ZY (ZO (Zv (.string ⟨#[62]⟩) (ZN (zC (zF (z8 ?_)))))))
    exact ZF (.string ⟨#[62]⟩) Tryz.results123 (fun w hO => ⟨by unfold y9; simp [h1, h2, h3, h4, h5]; rfl, hO.below⟩)
  refine Zd (p := (op : Int) = 5) false (decide_eq_false (h5)) (Zv (.bool false) (ZX (z6 (z7 ?_))))
  by_cases h6 : (op : Int) = 6
  · refine zW (p := (op : Int) = 6) true (by kernel_rfl) (fun _ => by kernel_rfl) (decide_eq_true (h6)) ?_
    refine Zv (.bool true) (ZY (ZO (Zv (.string ⟨#[62, 61]⟩) (ZN (zC (zF (z8 ?_)))))))
    exact ZF (.string ⟨#[62, 61]⟩) Tryz.results123 (fun w hO => ⟨by unfold y9; simp [h1, h2, h3, h4, h5, h6]; rfl, hO.below⟩)
  refine Zd (p := (op : Int) = 6) false (decide_eq_false (h6)) (Zv (.bool false) (ZX (z6 (z7 ?_))))
  by_cases h7 : (op : Int) = 7
  · refine zW (p := (op : Int) = 7) true (by kernel_rfl) (fun _ => by kernel_rfl) (decide_eq_true (h7)) ?_
    refine Zv (.bool true) (ZY (ZO (Zv (.string ⟨#[94]⟩) (ZN (zC (zF (z8 ?_)))))))
    exact ZF (.string ⟨#[94]⟩) Tryz.results123 (fun w hO => ⟨by unfold y9; simp [h1, h2, h3, h4, h5, h6, h7]; rfl, hO.below⟩)
  refine Zd (p := (op : Int) = 7) false (decide_eq_false (h7)) (Zv (.bool false) (ZX (z6 (z7 ?_))))
  by_cases h8 : (op : Int) = 8
  · refine zW (p := (op : Int) = 8) true (by kernel_rfl) (fun _ => by kernel_rfl) (decide_eq_true (h8)) ?_
    refine Zv (.bool true) (ZY (ZO (Zv (.string ⟨#[126]⟩) (ZN (zC (zF (z8 ?_)))))))
    exact ZF (.string ⟨#[126]⟩) Tryz.results123 (fun w hO => ⟨by unfold y9; simp [h1, h2, h3, h4, h5, h6, h7, h8]; rfl, hO.below⟩)
  refine Zd (p := (op : Int) = 8) false (decide_eq_false (h8)) (Zv (.bool false) (ZX (yS (zS (zB (ZO (Zv (.string ⟨#[]⟩) (zP ?_))))))))
  exact zB (zC (ZF (.string ⟨#[]⟩) Tryz.results123 (fun w hO => ⟨by unfold y9; simp [h1, h2, h3, h4, h5, h6, h7, h8]; rfl, hO.below⟩)))
theorem dT (v : Ver) (z0 : Int) (k : Nat) (W : World) (hv : v.short) (hz : z0 = k) (hk : k < 3) : Calls Tryz.prog 146 #[y5 v, .int .i64 z0] W fun e w' => e = .returned (zA (xX v k)) ∧ Below W.heap.size W w' := by
  have hk0 : xX v k = vU v z0 := by unfold vU; rw [hz, if_neg (by omega), Int.toNat_natCast]
  refine zQ (n := 21) Tryz.func146 rfl (by kernel_rfl) (by kernel_rfl) (ZO (Zb (y5 v) (fun b1 => Za (.agg #[.int .i64 0, .int .i64 0, .int .i64 0, .int .i64 0, .string ⟨#[]⟩, .string ⟨#[]⟩, .bool false]) (fun b2 => ZN (z6 (zK (yP (fun L f m => ∃ (z : Int) (j : Nat → Value), (-1 ≤ z ∧ z ≤ 2 ∧ xX v k = vU v z) ∧ L = [⟨b2, #[.int .i64 0, .int .i64 0, .int .i64 0, .int .i64 0, .string ⟨#[]⟩, .string ⟨#[]⟩, .bool false], 78⟩, ⟨b1, (y5 v).cells, 44⟩] ∧ f = kA j [(1, .int .i64 z), (2, .pointer (some ⟨b1, 0, none⟩)), (4, .pointer (some ⟨b2, 0, none⟩))] ∧ m = (z + 1).toNat) ((z0 + 1).toNat) ⟨z0, _, ⟨by omega, by omega, hk0⟩, rfl, ZU, rfl⟩ ?_)))))))
  rintro L f m ⟨z, j, hrel, rfl, rfl, rfl⟩
  refine z6 (ZO (Zv (.int .i64 z) ?_))
  by_cases h1 : (0 : Int) ≤ z
  · refine zW (p := (0 : Int) ≤ z) true (by kernel_rfl) (fun _ => by kernel_rfl) (decide_eq_true (h1)) ?_
    refine ZY (ZB (z6 (zK (ZO (Zl 1 ⟨b1, (y5 v).cells, 44⟩ (off := 0) (y5 v) (Zv (.int .i64 z) (Zc (k := 186) (args := #[y5 v, .int .i64 z]) (.tuple #[y5 (yG v z), .bool (y6 v z)]) (fun w _ => rbump_any v z w hv.1 hv.2) ?_)))))))
    refine Zv (.tuple #[y5 (yG v z), .bool (y6 v z)]) (Zv (y5 (yG v z)) (Zv (.bool (y6 v z)) (Za (.agg #[.int .i64 0, .int .i64 0, .int .i64 0, .string ⟨#[]⟩, .string ⟨#[]⟩]) (fun b3 => Zs 0 ⟨b3, #[.int .i64 0, .int .i64 0, .int .i64 0, .string ⟨#[]⟩, .string ⟨#[]⟩], 44⟩ (off := 0) (y5 (yG v z)) (Zv (.bool (y6 v z)) (ZR (Zv (.bool (y6 v z)) (zP ?_))))))))
    refine zB ?_
    cases h2 : y6 v z with
    | true =>
      refine Zt (ZO (Zl 0 ⟨b3, (y5 (yG v z)).cells, 44⟩ (off := 0) (y5 (yG v z)) (Zc (k := 142) (args := #[y5 (yG v z)]) (zA ⟨0, yF (yG v z), false⟩) (fun w _ => fS (yG v z) w (pQ v z)) (Zs 1 ⟨b2, #[.int .i64 0, .int .i64 0, .int .i64 0, .int .i64 0, .string ⟨#[]⟩, .string ⟨#[]⟩, .bool false], 78⟩ (off := 0) (zA ⟨0, yF (yG v z), false⟩) (ZN (zC (zF (z8 (yC ?_)))))))))
      exact zF (z8 (ZC 1 ⟨b2, (zA ⟨0, yF (yG v z), false⟩).cells, 78⟩ (off := 0) (zA ⟨0, yF (yG v z), false⟩) Tryz.results146 (fun w hO => ⟨by rw [hrel.2.2, highZ_hit (by omega) (by assumption)]; rw [bump_core], hO.below⟩)))
    | false =>
      exact Zf (yS (zS (zB (z7 (Zv (.int .i64 z) (Zu (k := .i64) ((z : Int) - 1) (IntWalk.i64_in _ (by omega)) (Zv (.int .i64 ((z : Int) - 1)) (zP (xG (fun w hO => Own.sub [_] hO) (zU (m' := (z - 1 + 1).toNat) (by omega) ⟨z - 1, _, ⟨by omega, by omega, by rw [hrel.2.2, highZ_next (by omega) (by assumption)]⟩, rfl, ZU, rfl⟩))))))))))
  refine Zd (p := (0 : Int) ≤ z) false (decide_eq_false (h1)) (ZX (y8 (zD (zN (zI (zB (ZO (Zc (k := 148) (args := #[]) (zA (zZ 1)) (fun w _ => bV w) ?_))))))))
  exact Zs 0 ⟨b2, #[.int .i64 0, .int .i64 0, .int .i64 0, .int .i64 0, .string ⟨#[]⟩, .string ⟨#[]⟩, .bool false], 78⟩ (off := 0) (zA (zZ 1)) (ZN (zC (ZC 0 ⟨b2, (zA (zZ 1)).cells, 78⟩ (off := 0) (zA (zZ 1)) Tryz.results146 (fun w hO => ⟨by rw [hrel.2.2]; unfold vU; rw [if_pos (by omega)], hO.below⟩))))
theorem rcturns_any (c : Co) (W : World) (hc : c.short) : Calls Tryz.prog 149 #[coV c] W fun e w' => e = .returned (.int .i64 ((g8 c : Nat) : Int)) ∧ Below W.heap.size W w' := by
  refine zQ (n := 21) Tryz.func149 rfl (by kernel_rfl) (by kernel_rfl) (ZO (Zb (coV c) (fun b1 => Zv (.int .i64 0) (ZN (z6 (ZO (Zv (.pointer (some ⟨b1, 2, none⟩)) (Zv (.pointer (some ⟨b1, 2, none⟩)) ?_))))))))
  refine Zl 0 ⟨b1, (coV c).cells, 51⟩ (off := 2) (.int .i64 c.v.maj) ?_
  by_cases h1 : (0 : Int) < c.v.maj
  · refine zW (p := (0 : Int) < c.v.maj) true (by kernel_rfl) (fun _ => by kernel_rfl) (decide_eq_true (h1)) ?_
    refine Zv (.bool true) (Zk (Zk (Zk (Zv (.bool true) (ZY (ZO (Zv (.int .i64 0) (zP ?_))))))))
    exact zB (zC (z8 (ZF (.int .i64 0) Tryz.results149 (fun w hO => ⟨by rw [show g8 c = 0 from by unfold g8; grind]; rfl, hO.below⟩))))
  refine Zd (p := (0 : Int) < c.v.maj) false (decide_eq_false (h1)) (Zv (.bool false) (Zv (.pointer (some ⟨b1, 1, none⟩)) (Zl 0 ⟨b1, (coV c).cells, 51⟩ (off := 1) (.int .i64 c.parts) ?_)))
  by_cases h2 : (c.parts : Int) = 1
  · refine zW (p := (c.parts : Int) = 1) true (by kernel_rfl) (fun _ => by kernel_rfl) (decide_eq_true (h2)) ?_
    refine Zv (.bool true) (ZY (ZO (Zv (.int .i64 0) (ZN (zC (z8 (ZF (.int .i64 0) Tryz.results149 ?_)))))))
    exact fun w hO => ⟨by rw [show g8 c = 0 from by unfold g8; grind]; rfl, hO.below⟩
  refine Zd (p := (c.parts : Int) = 1) false (decide_eq_false (h2)) (Zv (.bool false) (ZX (ZB (z6 (ZO (Zv (.pointer (some ⟨b1, 2, none⟩)) (Zv (.pointer (some ⟨b1, 3, none⟩)) ?_)))))))
  refine Zl 0 ⟨b1, (coV c).cells, 51⟩ (off := 3) (.int .i64 c.v.min) ?_
  by_cases h3 : (0 : Int) < c.v.min
  · refine zW (p := (0 : Int) < c.v.min) true (by kernel_rfl) (fun _ => by kernel_rfl) (decide_eq_true (h3)) ?_
    refine Zv (.bool true) (Zk (Zk (Zk (Zv (.bool true) (ZY (ZO (Zv (.int .i64 1) (zP ?_))))))))
    exact zB (zC (z8 (ZF (.int .i64 1) Tryz.results149 (fun w hO => ⟨by rw [show g8 c = 1 from by unfold g8; grind]; rfl, hO.below⟩))))
  refine Zd (p := (0 : Int) < c.v.min) false (decide_eq_false (h3)) (Zv (.bool false) (Zv (.pointer (some ⟨b1, 1, none⟩)) (Zl 0 ⟨b1, (coV c).cells, 51⟩ (off := 1) (.int .i64 c.parts) ?_)))
  by_cases h4 : (c.parts : Int) = 2
  · refine zW (p := (c.parts : Int) = 2) true (by kernel_rfl) (fun _ => by kernel_rfl) (decide_eq_true (h4)) ?_
    refine Zv (.bool true) (ZY (ZO (Zv (.int .i64 1) (ZN (zC (z8 (ZF (.int .i64 1) Tryz.results149 ?_)))))))
    exact fun w hO => ⟨by rw [show g8 c = 1 from by unfold g8; grind]; rfl, hO.below⟩
  refine Zd (p := (c.parts : Int) = 2) false (decide_eq_false (h4)) (Zv (.bool false) (ZX (ZB (ZO (Zv (.int .i64 2) (zP (zB ?_)))))))
  exact zC (ZF (.int .i64 2) Tryz.results149 (fun w hO => ⟨by rw [show g8 c = 2 from by unfold g8; grind]; rfl, hO.below⟩))
theorem rcspan_any (c : Co) (W : World) (hc : c.short) (hm : c.may = true) : Calls Tryz.prog 93 #[coV c] W fun e w' => e = .returned (.tuple #[zA c.span.1, zA c.span.2]) ∧ Below W.heap.size W w' := by
  obtain ⟨ho, _, _, h9, hn, _⟩ := Co.facts hm
  refine zQ (n := 77) Tryz.func93 rfl (by kernel_rfl) (by kernel_rfl) (ZO (Zb (coV c) (fun b1 => Za (.agg #[.int .i64 0, .int .i64 0, .int .i64 0, .int .i64 0, .string ⟨#[]⟩, .string ⟨#[]⟩, .bool false]) (fun b2 => Za (.agg #[.int .i64 0, .int .i64 0, .int .i64 0, .int .i64 0, .string ⟨#[]⟩, .string ⟨#[]⟩, .bool false]) (fun b3 => ZN (z6 (jM (fun L f => ∃ (p4 : Nat) (j : Nat → Value), L = [⟨p4, (zA c.low).cells, 78⟩, ⟨b3, #[.int .i64 0, .int .i64 0, .int .i64 0, .int .i64 0, .string ⟨#[]⟩, .string ⟨#[]⟩, .bool false], 78⟩, ⟨b2, #[.int .i64 0, .int .i64 0, .int .i64 0, .int .i64 0, .string ⟨#[]⟩, .string ⟨#[]⟩, .bool false], 78⟩, ⟨b1, (coV c).cells, 51⟩] ∧ f = kA j [(1, .pointer (some ⟨b1, 0, none⟩)), (2, .pointer (some ⟨b2, 0, none⟩)), (3, .pointer (some ⟨b3, 0, none⟩)), (4, .pointer (some ⟨p4, 0, none⟩)), (5, .int .i64 ((c.parts : Int) - 1))]) ?_ ?_)))))))
  · refine uD (by kernel_rfl) ?_
    refine ZT 0 [] _ (.pointer (some ⟨b1, 2, none⟩)) yI rfl (ZL 1 [] _ 2 ⟨b1, (coV c).cells, 51⟩ (off := 2) (.agg #[.int .i64 c.v.maj, .int .i64 c.v.min, .int .i64 c.v.pat, .string (mkS c.v.pre), .string (mkS c.v.build)]) yI rfl rfl (ZT 3 [] _ (.pointer (some ⟨b1, 1, none⟩)) yI rfl (ZL 4 [] _ 2 ⟨b1, (coV c).cells, 51⟩ (off := 1) (.int .i64 c.parts) yI rfl rfl (hl_sum (k := .i64) 5 _ ((c.parts : Int) - 1) rfl (by kernel_rfl) (by kernel_rfl) (by kernel_rfl) yI (fun w hO => Own.sub [] hO) (by kernel_rfl) (fun _ => by kernel_rfl) (IntWalk.i64_in _ (by omega)) (d9 2 6 (by kernel_rfl) ?_ ?_)))))
    · refine xL [] _ (k := 142) (args := #[.agg #[.int .i64 c.v.maj, .int .i64 c.v.min, .int .i64 c.v.pat, .string (mkS c.v.pre), .string (mkS c.v.build)]]) (zA c.low) rfl (by kernel_rfl) (fun _ => by kernel_rfl) (fun w _ => fS c.v w hc) ?_
      exact zY 6 (by kernel_rfl) (yM [] _ (.agg #[.int .i64 0, .int .i64 0, .int .i64 0, .int .i64 0, .string ⟨#[]⟩, .string ⟨#[]⟩, .bool false]) rfl (by kernel_rfl) rfl (by kernel_rfl) (fun b4 => zY 7 (by kernel_rfl) (ZS [⟨b4, #[.int .i64 0, .int .i64 0, .int .i64 0, .int .i64 0, .string ⟨#[]⟩, .string ⟨#[]⟩, .bool false], 78⟩] _ 0 ⟨b4, #[.int .i64 0, .int .i64 0, .int .i64 0, .int .i64 0, .string ⟨#[]⟩, .string ⟨#[]⟩, .bool false], 78⟩ (off := 0) (zA c.low) rfl rfl (ZT 8 [⟨b4, (zA c.low).cells, 78⟩] _ (.int .i64 ((c.parts : Int) - 1)) yI rfl (yO (by kernel_rfl) (yL ⟨b4, _, rfl, ZU⟩))))))
    exact yM [] _ (.agg #[.int .i64 0, .int .i64 0, .int .i64 0, .int .i64 0, .string ⟨#[]⟩, .string ⟨#[]⟩, .bool false]) rfl (by kernel_rfl) rfl (by kernel_rfl) (fun b4 => zY 2 (by kernel_rfl) (xL [⟨b4, #[.int .i64 0, .int .i64 0, .int .i64 0, .int .i64 0, .string ⟨#[]⟩, .string ⟨#[]⟩, .bool false], 78⟩] _ (k := 142) (args := #[.agg #[.int .i64 c.v.maj, .int .i64 c.v.min, .int .i64 c.v.pat, .string (mkS c.v.pre), .string (mkS c.v.build)]]) (zA c.low) rfl (by kernel_rfl) (fun _ => by kernel_rfl) (fun w _ => fS c.v w hc) (zY 7 (by kernel_rfl) (ZS [⟨b4, #[.int .i64 0, .int .i64 0, .int .i64 0, .int .i64 0, .string ⟨#[]⟩, .string ⟨#[]⟩, .bool false], 78⟩] _ 0 ⟨b4, #[.int .i64 0, .int .i64 0, .int .i64 0, .int .i64 0, .string ⟨#[]⟩, .string ⟨#[]⟩, .bool false], 78⟩ (off := 0) (zA c.low) rfl rfl (ZT 8 [⟨b4, (zA c.low).cells, 78⟩] _ (.int .i64 ((c.parts : Int) - 1)) yI rfl (yO (by kernel_rfl) (yL ⟨b4, _, rfl, ZU⟩)))))))
  · rintro L f ⟨p4, j, rfl, rfl⟩
    refine zB (ZO (Zv (.pointer (some ⟨b1, 2, none⟩)) (Zl 3 ⟨b1, (coV c).cells, 51⟩ (off := 2) (.agg #[.int .i64 c.v.maj, .int .i64 c.v.min, .int .i64 c.v.pat, .string (mkS c.v.pre), .string (mkS c.v.build)]) (Zc (k := 145) (args := #[.agg #[.int .i64 c.v.maj, .int .i64 c.v.min, .int .i64 c.v.pat, .string (mkS c.v.pre), .string (mkS c.v.build)]]) (zA ⟨0, yF c.v, true⟩) (fun w _ => rbehindC_any c.v w hc) (Za (.agg #[.int .i64 0, .int .i64 0, .int .i64 0, .int .i64 0, .string ⟨#[]⟩, .string ⟨#[]⟩, .bool false]) (fun b5 => Zs 0 ⟨b5, #[.int .i64 0, .int .i64 0, .int .i64 0, .int .i64 0, .string ⟨#[]⟩, .string ⟨#[]⟩, .bool false], 78⟩ (off := 0) (zA ⟨0, yF c.v, true⟩) (vY (L' := [⟨b3, #[.int .i64 0, .int .i64 0, .int .i64 0, .int .i64 0, .string ⟨#[]⟩, .string ⟨#[]⟩, .bool false], 78⟩, ⟨b2, #[.int .i64 0, .int .i64 0, .int .i64 0, .int .i64 0, .string ⟨#[]⟩, .string ⟨#[]⟩, .bool false], 78⟩, ⟨b5, (zA ⟨0, yF c.v, true⟩).cells, 78⟩, ⟨p4, (zA c.low).cells, 78⟩, ⟨b1, (coV c).cells, 51⟩]) (fun w hO => hO.perm ((List.perm_append_comm (l₁ := [_, _]) (l₂ := [_, _])).append_right [_])) (ZN (z6 ?_)))))))))
    refine z6 (jM (fun L f => ∃ (j : Nat → Value), L = [⟨b3, #[.int .i64 0, .int .i64 0, .int .i64 0, .int .i64 0, .string ⟨#[]⟩, .string ⟨#[]⟩, .bool false], 78⟩, ⟨b2, #[.int .i64 0, .int .i64 0, .int .i64 0, .int .i64 0, .string ⟨#[]⟩, .string ⟨#[]⟩, .bool false], 78⟩, ⟨b5, (zA ⟨0, yF c.v, true⟩).cells, 78⟩, ⟨p4, (zA c.low).cells, 78⟩, ⟨b1, (coV c).cells, 51⟩] ∧ f = kA j [(1, .pointer (some ⟨b1, 0, none⟩)), (2, .pointer (some ⟨b2, 0, none⟩)), (3, .pointer (some ⟨b3, 0, none⟩)), (4, .pointer (some ⟨p4, 0, none⟩)), (5, .int .i64 ((c.parts : Int) - 1)), (6, .pointer (some ⟨b5, 0, none⟩)), (23, .bool (decide (c.parts < 3 ∧ 0 < c.parts)))]) ?_ ?_)
    · refine z7 ?_
      refine Zv (.pointer (some ⟨b1, 1, none⟩)) (Zl 4 ⟨b1, (coV c).cells, 51⟩ (off := 1) (.int .i64 c.parts) ?_)
      by_cases h1 : (c.parts : Int) < 3
      · refine zW (p := (c.parts : Int) < 3) true (by kernel_rfl) (fun _ => by kernel_rfl) (decide_eq_true (h1)) ?_
        refine Zv (.bool true) (Zv (.pointer (some ⟨b1, 1, none⟩)) (Zl 4 ⟨b1, (coV c).cells, 51⟩ (off := 1) (.int .i64 c.parts) ?_))
        by_cases h2 : (0 : Int) < c.parts
        · refine zW (p := (0 : Int) < c.parts) true (by kernel_rfl) (fun _ => by kernel_rfl) (decide_eq_true (h2)) ?_
          exact Zv (.bool true) (zP (yL ⟨_, rfl, by rw [decide_eq_true (show (c.parts < 3 ∧ 0 < c.parts) by omega)]; exact ZU⟩))
        exact Zd (p := (0 : Int) < c.parts) false (decide_eq_false (h2)) (Zv (.bool false) (zP (yL ⟨_, rfl, by rw [decide_eq_false (show ¬ (c.parts < 3 ∧ 0 < c.parts) by omega)]; exact ZU⟩)))
      exact Zd (p := (c.parts : Int) < 3) false (decide_eq_false (h1)) (Zv (.bool false) (Zk (Zk (Zk (Zv (.bool false) (zP (yL ⟨_, rfl, by rw [decide_eq_false (show ¬ (c.parts < 3 ∧ 0 < c.parts) by omega)]; exact ZU⟩)))))))
    · rintro L f ⟨j, rfl, rfl⟩
      refine zB (jM (fun L f => ∃ (j : Nat → Value), L = [⟨b3, #[.int .i64 0, .int .i64 0, .int .i64 0, .int .i64 0, .string ⟨#[]⟩, .string ⟨#[]⟩, .bool false], 78⟩, ⟨b2, #[.int .i64 0, .int .i64 0, .int .i64 0, .int .i64 0, .string ⟨#[]⟩, .string ⟨#[]⟩, .bool false], 78⟩, ⟨b5, (zA c.aft).cells, 78⟩, ⟨p4, (zA c.low).cells, 78⟩, ⟨b1, (coV c).cells, 51⟩] ∧ f = kA j [(1, .pointer (some ⟨b1, 0, none⟩)), (2, .pointer (some ⟨b2, 0, none⟩)), (3, .pointer (some ⟨b3, 0, none⟩)), (4, .pointer (some ⟨p4, 0, none⟩)), (5, .int .i64 ((c.parts : Int) - 1)), (6, .pointer (some ⟨b5, 0, none⟩))]) ?_ ?_)
      · cases h3 : decide (c.parts < 3 ∧ 0 < c.parts) with
        | true =>
          have hpp := of_decide_eq_true h3
          exact Zt (z7 (Zv (.pointer (some ⟨b1, 2, none⟩)) (Zl 4 ⟨b1, (coV c).cells, 51⟩ (off := 2) (.agg #[.int .i64 c.v.maj, .int .i64 c.v.min, .int .i64 c.v.pat, .string (mkS c.v.pre), .string (mkS c.v.build)]) (Zv (.int .i64 ((c.parts : Int) - 1)) (Zc (k := 146) (args := #[.agg #[.int .i64 c.v.maj, .int .i64 c.v.min, .int .i64 c.v.pat, .string (mkS c.v.pre), .string (mkS c.v.build)], .int .i64 ((c.parts : Int) - 1)]) (zA (xX c.v (c.parts - 1).toNat)) (fun w _ => dT c.v ((c.parts : Int) - 1) (c.parts - 1).toNat w hc (by omega) (by omega)) (Zs 2 ⟨b5, (zA ⟨0, yF c.v, true⟩).cells, 78⟩ (off := 0) (zA (xX c.v (c.parts - 1).toNat)) (zP (yL ⟨_, by rw [show c.aft = _ from if_pos (hpp)]; kernel_rfl, ZU⟩))))))))
        | false =>
          have hpp := of_decide_eq_false h3
          exact Zf (yS (yL ⟨_, by rw [show c.aft = _ from if_neg (hpp)], ZU⟩))
      · rintro L f ⟨j, rfl, rfl⟩
        refine zB (z6 (ZO (Zv (.pointer (some ⟨b1, 0, none⟩)) (Zl 4 ⟨b1, (coV c).cells, 51⟩ (off := 0) (.int .i64 c.op) (ZN (zK (z6 (z6 (z7 ?_)))))))))
        by_cases h4 : (c.op : Int) = 1
        · refine zW (p := (c.op : Int) = 1) true (by kernel_rfl) (fun _ => by kernel_rfl) (decide_eq_true (h4)) ?_
          refine Zv (.bool true) (ZY (ZB (Zt (z6 (xW ([⟨b5, (zA c.aft).cells, 78⟩, ⟨p4, (zA c.low).cells, 78⟩, ⟨b1, (coV c).cells, 51⟩]) (by kernel_rfl) (fun w hO => Own.sub [⟨b3, #[.int .i64 0, .int .i64 0, .int .i64 0, .int .i64 0, .string ⟨#[]⟩, .string ⟨#[]⟩, .bool false], 78⟩, ⟨b2, #[.int .i64 0, .int .i64 0, .int .i64 0, .int .i64 0, .string ⟨#[]⟩, .string ⟨#[]⟩, .bool false], 78⟩] hO) (ZL 0 [⟨b3, #[.int .i64 0, .int .i64 0, .int .i64 0, .int .i64 0, .string ⟨#[]⟩, .string ⟨#[]⟩, .bool false], 78⟩, ⟨b2, #[.int .i64 0, .int .i64 0, .int .i64 0, .int .i64 0, .string ⟨#[]⟩, .string ⟨#[]⟩, .bool false], 78⟩] _ 1 ⟨p4, (zA c.low).cells, 78⟩ (off := 0) (zA c.low) (zG (zO (zG zJ))) rfl rfl (ZL 1 [⟨b3, #[.int .i64 0, .int .i64 0, .int .i64 0, .int .i64 0, .string ⟨#[]⟩, .string ⟨#[]⟩, .bool false], 78⟩, ⟨b2, #[.int .i64 0, .int .i64 0, .int .i64 0, .int .i64 0, .string ⟨#[]⟩, .string ⟨#[]⟩, .bool false], 78⟩] _ 0 ⟨b5, (zA c.aft).cells, 78⟩ (off := 0) (zA c.aft) (zG (zO (zG zJ))) rfl rfl (zY 2 (by kernel_rfl) ?_))))))))
          exact ZS [⟨b3, #[.int .i64 0, .int .i64 0, .int .i64 0, .int .i64 0, .string ⟨#[]⟩, .string ⟨#[]⟩, .bool false], 78⟩, ⟨b2, #[.int .i64 0, .int .i64 0, .int .i64 0, .int .i64 0, .string ⟨#[]⟩, .string ⟨#[]⟩, .bool false], 78⟩] _ 1 ⟨b2, #[.int .i64 0, .int .i64 0, .int .i64 0, .int .i64 0, .string ⟨#[]⟩, .string ⟨#[]⟩, .bool false], 78⟩ (off := 0) (zA c.low) rfl rfl (zY 3 (by kernel_rfl) (ZS [⟨b3, #[.int .i64 0, .int .i64 0, .int .i64 0, .int .i64 0, .string ⟨#[]⟩, .string ⟨#[]⟩, .bool false], 78⟩, ⟨b2, (zA c.low).cells, 78⟩] _ 0 ⟨b3, #[.int .i64 0, .int .i64 0, .int .i64 0, .int .i64 0, .string ⟨#[]⟩, .string ⟨#[]⟩, .bool false], 78⟩ (off := 0) (zA c.aft) rfl rfl (yO (by kernel_rfl) (zB (zC (zF (z8 (qE 1 0 ⟨b2, (zA c.low).cells, 78⟩ ⟨b3, (zA c.aft).cells, 78⟩ (off := 0) (oft := 0) (zA c.low) (zA c.aft) Tryz.results93 (by kernel_rfl) (by kernel_rfl) (by kernel_rfl) (by kernel_rfl) (by kernel_rfl) (by kernel_rfl) (fun w hO => ⟨by rw [show c.span = (c.low, c.aft) from by unfold Co.span; simp [h4]], hO.below⟩)))))))))
        refine Zd (p := (c.op : Int) = 1) false (decide_eq_false (h4)) (Zv (.bool false) (ZX (z7 ?_)))
        by_cases h5 : (c.op : Int) = 2
        · refine zW (p := (c.op : Int) = 2) true (by kernel_rfl) (fun _ => by kernel_rfl) (decide_eq_true (h5)) ?_
          refine Zv (.bool true) (ZY (z6 (xW ([⟨b5, (zA c.aft).cells, 78⟩, ⟨p4, (zA c.low).cells, 78⟩, ⟨b1, (coV c).cells, 51⟩]) (by kernel_rfl) (fun w hO => Own.sub [⟨b3, #[.int .i64 0, .int .i64 0, .int .i64 0, .int .i64 0, .string ⟨#[]⟩, .string ⟨#[]⟩, .bool false], 78⟩, ⟨b2, #[.int .i64 0, .int .i64 0, .int .i64 0, .int .i64 0, .string ⟨#[]⟩, .string ⟨#[]⟩, .bool false], 78⟩] hO) (ZL 0 [⟨b3, #[.int .i64 0, .int .i64 0, .int .i64 0, .int .i64 0, .string ⟨#[]⟩, .string ⟨#[]⟩, .bool false], 78⟩, ⟨b2, #[.int .i64 0, .int .i64 0, .int .i64 0, .int .i64 0, .string ⟨#[]⟩, .string ⟨#[]⟩, .bool false], 78⟩] _ 1 ⟨p4, (zA c.low).cells, 78⟩ (off := 0) (zA c.low) (zG (zO (zG zJ))) rfl rfl (ZL 1 [⟨b3, #[.int .i64 0, .int .i64 0, .int .i64 0, .int .i64 0, .string ⟨#[]⟩, .string ⟨#[]⟩, .bool false], 78⟩, ⟨b2, #[.int .i64 0, .int .i64 0, .int .i64 0, .int .i64 0, .string ⟨#[]⟩, .string ⟨#[]⟩, .bool false], 78⟩] _ 0 ⟨b5, (zA c.aft).cells, 78⟩ (off := 0) (zA c.aft) (zG (zO (zG zJ))) rfl rfl (zY 2 (by kernel_rfl) (ZS [⟨b3, #[.int .i64 0, .int .i64 0, .int .i64 0, .int .i64 0, .string ⟨#[]⟩, .string ⟨#[]⟩, .bool false], 78⟩, ⟨b2, #[.int .i64 0, .int .i64 0, .int .i64 0, .int .i64 0, .string ⟨#[]⟩, .string ⟨#[]⟩, .bool false], 78⟩] _ 1 ⟨b2, #[.int .i64 0, .int .i64 0, .int .i64 0, .int .i64 0, .string ⟨#[]⟩, .string ⟨#[]⟩, .bool false], 78⟩ (off := 0) (zA c.low) rfl rfl (zY 3 (by kernel_rfl) (ZS [⟨b3, #[.int .i64 0, .int .i64 0, .int .i64 0, .int .i64 0, .string ⟨#[]⟩, .string ⟨#[]⟩, .bool false], 78⟩, ⟨b2, (zA c.low).cells, 78⟩] _ 0 ⟨b3, #[.int .i64 0, .int .i64 0, .int .i64 0, .int .i64 0, .string ⟨#[]⟩, .string ⟨#[]⟩, .bool false], 78⟩ (off := 0) (zA c.aft) rfl rfl ?_)))))))))
          exact yO (by kernel_rfl) (zB (zC (zF (z8 (qE 1 0 ⟨b2, (zA c.low).cells, 78⟩ ⟨b3, (zA c.aft).cells, 78⟩ (off := 0) (oft := 0) (zA c.low) (zA c.aft) Tryz.results93 (by kernel_rfl) (by kernel_rfl) (by kernel_rfl) (by kernel_rfl) (by kernel_rfl) (by kernel_rfl) (fun w hO => ⟨by rw [show c.span = (c.low, c.aft) from by unfold Co.span; simp [h4, h5]], hO.below⟩))))))
        refine Zd (p := (c.op : Int) = 2) false (decide_eq_false (h5)) (Zv (.bool false) (ZX (z6 (z7 ?_))))
        by_cases h6 : (c.op : Int) = 3
        · refine zW (p := (c.op : Int) = 3) true (by kernel_rfl) (fun _ => by kernel_rfl) (decide_eq_true (h6)) ?_
          refine Zv (.bool true) (ZY (z6 (xW ([⟨b5, (zA c.aft).cells, 78⟩, ⟨p4, (zA c.low).cells, 78⟩, ⟨b1, (coV c).cells, 51⟩]) (by kernel_rfl) (fun w hO => Own.sub [⟨b3, #[.int .i64 0, .int .i64 0, .int .i64 0, .int .i64 0, .string ⟨#[]⟩, .string ⟨#[]⟩, .bool false], 78⟩, ⟨b2, #[.int .i64 0, .int .i64 0, .int .i64 0, .int .i64 0, .string ⟨#[]⟩, .string ⟨#[]⟩, .bool false], 78⟩] hO) (ZL 1 [⟨b3, #[.int .i64 0, .int .i64 0, .int .i64 0, .int .i64 0, .string ⟨#[]⟩, .string ⟨#[]⟩, .bool false], 78⟩, ⟨b2, #[.int .i64 0, .int .i64 0, .int .i64 0, .int .i64 0, .string ⟨#[]⟩, .string ⟨#[]⟩, .bool false], 78⟩] _ 1 ⟨p4, (zA c.low).cells, 78⟩ (off := 0) (zA c.low) (zG (zO (zG zJ))) rfl rfl (zY 0 (by kernel_rfl) (xL [⟨b3, #[.int .i64 0, .int .i64 0, .int .i64 0, .int .i64 0, .string ⟨#[]⟩, .string ⟨#[]⟩, .bool false], 78⟩, ⟨b2, #[.int .i64 0, .int .i64 0, .int .i64 0, .int .i64 0, .string ⟨#[]⟩, .string ⟨#[]⟩, .bool false], 78⟩] _ (k := 147) (args := #[]) (zA (zZ (-1))) rfl (by kernel_rfl) (fun _ => by kernel_rfl) (fun w _ => dQ w) (zY 2 (by kernel_rfl) (ZS [⟨b3, #[.int .i64 0, .int .i64 0, .int .i64 0, .int .i64 0, .string ⟨#[]⟩, .string ⟨#[]⟩, .bool false], 78⟩, ⟨b2, #[.int .i64 0, .int .i64 0, .int .i64 0, .int .i64 0, .string ⟨#[]⟩, .string ⟨#[]⟩, .bool false], 78⟩] _ 1 ⟨b2, #[.int .i64 0, .int .i64 0, .int .i64 0, .int .i64 0, .string ⟨#[]⟩, .string ⟨#[]⟩, .bool false], 78⟩ (off := 0) (zA (zZ (-1))) rfl rfl (zY 3 (by kernel_rfl) ?_)))))))))
          exact ZS [⟨b3, #[.int .i64 0, .int .i64 0, .int .i64 0, .int .i64 0, .string ⟨#[]⟩, .string ⟨#[]⟩, .bool false], 78⟩, ⟨b2, (zA (zZ (-1))).cells, 78⟩] _ 0 ⟨b3, #[.int .i64 0, .int .i64 0, .int .i64 0, .int .i64 0, .string ⟨#[]⟩, .string ⟨#[]⟩, .bool false], 78⟩ (off := 0) (zA c.low) rfl rfl (yO (by kernel_rfl) (zB (zC (zF (z8 (qE 1 0 ⟨b2, (zA (zZ (-1))).cells, 78⟩ ⟨b3, (zA c.low).cells, 78⟩ (off := 0) (oft := 0) (zA (zZ (-1))) (zA c.low) Tryz.results93 (by kernel_rfl) (by kernel_rfl) (by kernel_rfl) (by kernel_rfl) (by kernel_rfl) (by kernel_rfl) (fun w hO => ⟨by rw [show c.span = ((zZ (-1)), c.low) from by unfold Co.span; simp [h4, h5, h6]], hO.below⟩)))))))
        refine Zd (p := (c.op : Int) = 3) false (decide_eq_false (h6)) (Zv (.bool false) (ZX (z6 (z7 ?_))))
        by_cases h7 : (c.op : Int) = 4
        · refine zW (p := (c.op : Int) = 4) true (by kernel_rfl) (fun _ => by kernel_rfl) (decide_eq_true (h7)) ?_
          refine Zv (.bool true) (ZY (z6 (xW ([⟨b5, (zA c.aft).cells, 78⟩, ⟨p4, (zA c.low).cells, 78⟩, ⟨b1, (coV c).cells, 51⟩]) (by kernel_rfl) (fun w hO => Own.sub [⟨b3, #[.int .i64 0, .int .i64 0, .int .i64 0, .int .i64 0, .string ⟨#[]⟩, .string ⟨#[]⟩, .bool false], 78⟩, ⟨b2, #[.int .i64 0, .int .i64 0, .int .i64 0, .int .i64 0, .string ⟨#[]⟩, .string ⟨#[]⟩, .bool false], 78⟩] hO) (ZL 1 [⟨b3, #[.int .i64 0, .int .i64 0, .int .i64 0, .int .i64 0, .string ⟨#[]⟩, .string ⟨#[]⟩, .bool false], 78⟩, ⟨b2, #[.int .i64 0, .int .i64 0, .int .i64 0, .int .i64 0, .string ⟨#[]⟩, .string ⟨#[]⟩, .bool false], 78⟩] _ 0 ⟨b5, (zA c.aft).cells, 78⟩ (off := 0) (zA c.aft) (zG (zO (zG zJ))) rfl rfl (zY 0 (by kernel_rfl) (xL [⟨b3, #[.int .i64 0, .int .i64 0, .int .i64 0, .int .i64 0, .string ⟨#[]⟩, .string ⟨#[]⟩, .bool false], 78⟩, ⟨b2, #[.int .i64 0, .int .i64 0, .int .i64 0, .int .i64 0, .string ⟨#[]⟩, .string ⟨#[]⟩, .bool false], 78⟩] _ (k := 147) (args := #[]) (zA (zZ (-1))) rfl (by kernel_rfl) (fun _ => by kernel_rfl) (fun w _ => dQ w) (zY 2 (by kernel_rfl) (ZS [⟨b3, #[.int .i64 0, .int .i64 0, .int .i64 0, .int .i64 0, .string ⟨#[]⟩, .string ⟨#[]⟩, .bool false], 78⟩, ⟨b2, #[.int .i64 0, .int .i64 0, .int .i64 0, .int .i64 0, .string ⟨#[]⟩, .string ⟨#[]⟩, .bool false], 78⟩] _ 1 ⟨b2, #[.int .i64 0, .int .i64 0, .int .i64 0, .int .i64 0, .string ⟨#[]⟩, .string ⟨#[]⟩, .bool false], 78⟩ (off := 0) (zA (zZ (-1))) rfl rfl (zY 3 (by kernel_rfl) ?_)))))))))
          exact ZS [⟨b3, #[.int .i64 0, .int .i64 0, .int .i64 0, .int .i64 0, .string ⟨#[]⟩, .string ⟨#[]⟩, .bool false], 78⟩, ⟨b2, (zA (zZ (-1))).cells, 78⟩] _ 0 ⟨b3, #[.int .i64 0, .int .i64 0, .int .i64 0, .int .i64 0, .string ⟨#[]⟩, .string ⟨#[]⟩, .bool false], 78⟩ (off := 0) (zA c.aft) rfl rfl (yO (by kernel_rfl) (zB (zC (zF (z8 (qE 1 0 ⟨b2, (zA (zZ (-1))).cells, 78⟩ ⟨b3, (zA c.aft).cells, 78⟩ (off := 0) (oft := 0) (zA (zZ (-1))) (zA c.aft) Tryz.results93 (by kernel_rfl) (by kernel_rfl) (by kernel_rfl) (by kernel_rfl) (by kernel_rfl) (by kernel_rfl) (fun w hO => ⟨by rw [show c.span = ((zZ (-1)), c.aft) from by unfold Co.span; simp [h4, h5, h6, h7]], hO.below⟩)))))))
        refine Zd (p := (c.op : Int) = 4) false (decide_eq_false (h7)) (Zv (.bool false) (ZX (z6 (z7 ?_))))
        by_cases h8 : (c.op : Int) = 5
        · refine zW (p := (c.op : Int) = 5) true (by kernel_rfl) (fun _ => by kernel_rfl) (decide_eq_true (h8)) ?_
          refine Zv (.bool true) (ZY (z6 (fW 2 (by kernel_rfl) (by kernel_rfl) (by kernel_rfl) ?_)))
          simp only [List.take_succ_cons, List.take_zero, List.drop_succ_cons, List.drop_zero]
          exact Zm 2 ⟨b5, (zA c.aft).cells, 78⟩ (off := 0) (zA c.aft) (Zq (k := 148) (args := #[]) (zA (zZ 1)) (fun w _ => bV w) (kP (Zs 1 ⟨b2, #[.int .i64 0, .int .i64 0, .int .i64 0, .int .i64 0, .string ⟨#[]⟩, .string ⟨#[]⟩, .bool false], 78⟩ (off := 0) (zA c.aft) (Zs 0 ⟨b3, #[.int .i64 0, .int .i64 0, .int .i64 0, .int .i64 0, .string ⟨#[]⟩, .string ⟨#[]⟩, .bool false], 78⟩ (off := 0) (zA (zZ 1)) (ZN (zC (zF (z8 (qE 1 0 ⟨b2, (zA c.aft).cells, 78⟩ ⟨b3, (zA (zZ 1)).cells, 78⟩ (off := 0) (oft := 0) (zA c.aft) (zA (zZ 1)) Tryz.results93 (by kernel_rfl) (by kernel_rfl) (by kernel_rfl) (by kernel_rfl) (by kernel_rfl) (by kernel_rfl) (fun w hO => ⟨by rw [show c.span = (c.aft, (zZ 1)) from by unfold Co.span; simp [h4, h5, h6, h7, h8]], hO.below⟩))))))))))
        refine Zd (p := (c.op : Int) = 5) false (decide_eq_false (h8)) (Zv (.bool false) (ZX (z6 (z7 ?_))))
        by_cases h9 : (c.op : Int) = 6
        · refine zW (p := (c.op : Int) = 6) true (by kernel_rfl) (fun _ => by kernel_rfl) (decide_eq_true (h9)) ?_
          refine Zv (.bool true) (ZY (z6 (fW 2 (by kernel_rfl) (by kernel_rfl) (by kernel_rfl) ?_)))
          simp only [List.take_succ_cons, List.take_zero, List.drop_succ_cons, List.drop_zero]
          exact Zm 3 ⟨p4, (zA c.low).cells, 78⟩ (off := 0) (zA c.low) (Zq (k := 148) (args := #[]) (zA (zZ 1)) (fun w _ => bV w) (kP (Zs 1 ⟨b2, #[.int .i64 0, .int .i64 0, .int .i64 0, .int .i64 0, .string ⟨#[]⟩, .string ⟨#[]⟩, .bool false], 78⟩ (off := 0) (zA c.low) (Zs 0 ⟨b3, #[.int .i64 0, .int .i64 0, .int .i64 0, .int .i64 0, .string ⟨#[]⟩, .string ⟨#[]⟩, .bool false], 78⟩ (off := 0) (zA (zZ 1)) (ZN (zC (zF (z8 (qE 1 0 ⟨b2, (zA c.low).cells, 78⟩ ⟨b3, (zA (zZ 1)).cells, 78⟩ (off := 0) (oft := 0) (zA c.low) (zA (zZ 1)) Tryz.results93 (by kernel_rfl) (by kernel_rfl) (by kernel_rfl) (by kernel_rfl) (by kernel_rfl) (by kernel_rfl) (fun w hO => ⟨by rw [show c.span = (c.low, (zZ 1)) from by unfold Co.span; simp [h4, h5, h6, h7, h8, h9]], hO.below⟩))))))))))
        refine Zd (p := (c.op : Int) = 6) false (decide_eq_false (h9)) (Zv (.bool false) (ZX (z6 (z7 ?_))))
        by_cases h10 : (c.op : Int) = 7
        · refine zW (p := (c.op : Int) = 7) true (by kernel_rfl) (fun _ => by kernel_rfl) (decide_eq_true (h10)) ?_
          refine Zv (.bool true) (ZY (z6 (xW ([⟨b5, (zA c.aft).cells, 78⟩, ⟨p4, (zA c.low).cells, 78⟩, ⟨b1, (coV c).cells, 51⟩]) (by kernel_rfl) (fun w hO => Own.sub [⟨b3, #[.int .i64 0, .int .i64 0, .int .i64 0, .int .i64 0, .string ⟨#[]⟩, .string ⟨#[]⟩, .bool false], 78⟩, ⟨b2, #[.int .i64 0, .int .i64 0, .int .i64 0, .int .i64 0, .string ⟨#[]⟩, .string ⟨#[]⟩, .bool false], 78⟩] hO) (ZL 0 [⟨b3, #[.int .i64 0, .int .i64 0, .int .i64 0, .int .i64 0, .string ⟨#[]⟩, .string ⟨#[]⟩, .bool false], 78⟩, ⟨b2, #[.int .i64 0, .int .i64 0, .int .i64 0, .int .i64 0, .string ⟨#[]⟩, .string ⟨#[]⟩, .bool false], 78⟩] _ 1 ⟨p4, (zA c.low).cells, 78⟩ (off := 0) (zA c.low) (zG (zO (zG zJ))) rfl rfl (ZT 1 [⟨b3, #[.int .i64 0, .int .i64 0, .int .i64 0, .int .i64 0, .string ⟨#[]⟩, .string ⟨#[]⟩, .bool false], 78⟩, ⟨b2, #[.int .i64 0, .int .i64 0, .int .i64 0, .int .i64 0, .string ⟨#[]⟩, .string ⟨#[]⟩, .bool false], 78⟩] _ (.pointer (some ⟨b1, 2, none⟩)) (zG (zO (zG zJ))) rfl (ZL 2 [⟨b3, #[.int .i64 0, .int .i64 0, .int .i64 0, .int .i64 0, .string ⟨#[]⟩, .string ⟨#[]⟩, .bool false], 78⟩, ⟨b2, #[.int .i64 0, .int .i64 0, .int .i64 0, .int .i64 0, .string ⟨#[]⟩, .string ⟨#[]⟩, .bool false], 78⟩] _ 2 ⟨b1, (coV c).cells, 51⟩ (off := 2) (.agg #[.int .i64 c.v.maj, .int .i64 c.v.min, .int .i64 c.v.pat, .string (mkS c.v.pre), .string (mkS c.v.build)]) (zG (zO (zG zJ))) rfl rfl (ZL 3 [⟨b3, #[.int .i64 0, .int .i64 0, .int .i64 0, .int .i64 0, .string ⟨#[]⟩, .string ⟨#[]⟩, .bool false], 78⟩, ⟨b2, #[.int .i64 0, .int .i64 0, .int .i64 0, .int .i64 0, .string ⟨#[]⟩, .string ⟨#[]⟩, .bool false], 78⟩] _ 2 ⟨b1, (coV c).cells, 51⟩ (off := 0) (coV c) (zG (zO (zG zJ))) rfl rfl (zY 4 (by kernel_rfl) (xL [⟨b3, #[.int .i64 0, .int .i64 0, .int .i64 0, .int .i64 0, .string ⟨#[]⟩, .string ⟨#[]⟩, .bool false], 78⟩, ⟨b2, #[.int .i64 0, .int .i64 0, .int .i64 0, .int .i64 0, .string ⟨#[]⟩, .string ⟨#[]⟩, .bool false], 78⟩] _ (k := 149) (args := #[coV c]) (.int .i64 ((g8 c : Nat) : Int)) rfl (by kernel_rfl) (fun _ => by kernel_rfl) (fun w _ => rcturns_any c w hc) ?_)))))))))
          refine zY 5 (by kernel_rfl) (xL [⟨b3, #[.int .i64 0, .int .i64 0, .int .i64 0, .int .i64 0, .string ⟨#[]⟩, .string ⟨#[]⟩, .bool false], 78⟩, ⟨b2, #[.int .i64 0, .int .i64 0, .int .i64 0, .int .i64 0, .string ⟨#[]⟩, .string ⟨#[]⟩, .bool false], 78⟩] _ (k := 146) (args := #[.agg #[.int .i64 c.v.maj, .int .i64 c.v.min, .int .i64 c.v.pat, .string (mkS c.v.pre), .string (mkS c.v.build)], .int .i64 ((g8 c : Nat) : Int)]) (zA (xX c.v (g8 c))) rfl (by kernel_rfl) (fun _ => by kernel_rfl) (fun w _ => dT c.v (((g8 c : Nat) : Int)) (g8 c) w hc (by omega) (turns_lt c)) (zY 6 (by kernel_rfl) (ZS [⟨b3, #[.int .i64 0, .int .i64 0, .int .i64 0, .int .i64 0, .string ⟨#[]⟩, .string ⟨#[]⟩, .bool false], 78⟩, ⟨b2, #[.int .i64 0, .int .i64 0, .int .i64 0, .int .i64 0, .string ⟨#[]⟩, .string ⟨#[]⟩, .bool false], 78⟩] _ 1 ⟨b2, #[.int .i64 0, .int .i64 0, .int .i64 0, .int .i64 0, .string ⟨#[]⟩, .string ⟨#[]⟩, .bool false], 78⟩ (off := 0) (zA c.low) rfl rfl (zY 7 (by kernel_rfl) (ZS [⟨b3, #[.int .i64 0, .int .i64 0, .int .i64 0, .int .i64 0, .string ⟨#[]⟩, .string ⟨#[]⟩, .bool false], 78⟩, ⟨b2, (zA c.low).cells, 78⟩] _ 0 ⟨b3, #[.int .i64 0, .int .i64 0, .int .i64 0, .int .i64 0, .string ⟨#[]⟩, .string ⟨#[]⟩, .bool false], 78⟩ (off := 0) (zA (xX c.v (g8 c))) rfl rfl (yO (by kernel_rfl) (zB (zC (zF (z8 (qE 1 0 ⟨b2, (zA c.low).cells, 78⟩ ⟨b3, (zA (xX c.v (g8 c))).cells, 78⟩ (off := 0) (oft := 0) (zA c.low) (zA (xX c.v (g8 c))) Tryz.results93 (by kernel_rfl) (by kernel_rfl) (by kernel_rfl) (by kernel_rfl) (by kernel_rfl) (by kernel_rfl) ?_)))))))))))
          exact fun w hO => ⟨by rw [show c.span = (c.low, (xX c.v (g8 c))) from by unfold Co.span; simp [h4, h5, h6, h7, h8, h9, h10]], hO.below⟩
        refine Zd (p := (c.op : Int) = 7) false (decide_eq_false (h10)) (Zv (.bool false) (ZX (z6 (z7 ?_))))
        by_cases h11 : (c.op : Int) = 8
        · refine zW (p := (c.op : Int) = 8) true (by kernel_rfl) (fun _ => by kernel_rfl) (decide_eq_true (h11)) ?_
          refine Zv (.bool true) (ZY (z6 (xW ([⟨b5, (zA c.aft).cells, 78⟩, ⟨p4, (zA c.low).cells, 78⟩, ⟨b1, (coV c).cells, 51⟩]) (by kernel_rfl) (fun w hO => Own.sub [⟨b3, #[.int .i64 0, .int .i64 0, .int .i64 0, .int .i64 0, .string ⟨#[]⟩, .string ⟨#[]⟩, .bool false], 78⟩, ⟨b2, #[.int .i64 0, .int .i64 0, .int .i64 0, .int .i64 0, .string ⟨#[]⟩, .string ⟨#[]⟩, .bool false], 78⟩] hO) (ZL 0 [⟨b3, #[.int .i64 0, .int .i64 0, .int .i64 0, .int .i64 0, .string ⟨#[]⟩, .string ⟨#[]⟩, .bool false], 78⟩, ⟨b2, #[.int .i64 0, .int .i64 0, .int .i64 0, .int .i64 0, .string ⟨#[]⟩, .string ⟨#[]⟩, .bool false], 78⟩] _ 1 ⟨p4, (zA c.low).cells, 78⟩ (off := 0) (zA c.low) (zG (zO (zG zJ))) rfl rfl (ZT 1 [⟨b3, #[.int .i64 0, .int .i64 0, .int .i64 0, .int .i64 0, .string ⟨#[]⟩, .string ⟨#[]⟩, .bool false], 78⟩, ⟨b2, #[.int .i64 0, .int .i64 0, .int .i64 0, .int .i64 0, .string ⟨#[]⟩, .string ⟨#[]⟩, .bool false], 78⟩] _ (.pointer (some ⟨b1, 2, none⟩)) (zG (zO (zG zJ))) rfl (ZL 2 [⟨b3, #[.int .i64 0, .int .i64 0, .int .i64 0, .int .i64 0, .string ⟨#[]⟩, .string ⟨#[]⟩, .bool false], 78⟩, ⟨b2, #[.int .i64 0, .int .i64 0, .int .i64 0, .int .i64 0, .string ⟨#[]⟩, .string ⟨#[]⟩, .bool false], 78⟩] _ 2 ⟨b1, (coV c).cells, 51⟩ (off := 2) (.agg #[.int .i64 c.v.maj, .int .i64 c.v.min, .int .i64 c.v.pat, .string (mkS c.v.pre), .string (mkS c.v.build)]) (zG (zO (zG zJ))) rfl rfl (ZT 3 [⟨b3, #[.int .i64 0, .int .i64 0, .int .i64 0, .int .i64 0, .string ⟨#[]⟩, .string ⟨#[]⟩, .bool false], 78⟩, ⟨b2, #[.int .i64 0, .int .i64 0, .int .i64 0, .int .i64 0, .string ⟨#[]⟩, .string ⟨#[]⟩, .bool false], 78⟩] _ (.int .i64 ((c.parts : Int) - 1)) (zG (zO (zG zJ))) rfl (uO 4 [⟨b3, #[.int .i64 0, .int .i64 0, .int .i64 0, .int .i64 0, .string ⟨#[]⟩, .string ⟨#[]⟩, .bool false], 78⟩, ⟨b2, #[.int .i64 0, .int .i64 0, .int .i64 0, .int .i64 0, .string ⟨#[]⟩, .string ⟨#[]⟩, .bool false], 78⟩] _ (.int .i64 (min ((c.parts : Int) - 1) (1 : Int))) rfl (by kernel_rfl) (by kernel_rfl) (by kernel_rfl) (zG (zO (zG zJ))) (by kernel_rfl) (fun w _ => run_min2 (k := .i64) (q := .i64) (i := (c.parts : Int) - 1) (j := 1) rfl (by kernel_rfl) (by kernel_rfl) w) (zY 5 (by kernel_rfl) ?_)))))))))
          exact xL [⟨b3, #[.int .i64 0, .int .i64 0, .int .i64 0, .int .i64 0, .string ⟨#[]⟩, .string ⟨#[]⟩, .bool false], 78⟩, ⟨b2, #[.int .i64 0, .int .i64 0, .int .i64 0, .int .i64 0, .string ⟨#[]⟩, .string ⟨#[]⟩, .bool false], 78⟩] _ (k := 146) (args := #[.agg #[.int .i64 c.v.maj, .int .i64 c.v.min, .int .i64 c.v.pat, .string (mkS c.v.pre), .string (mkS c.v.build)], .int .i64 (min ((c.parts : Int) - 1) (1 : Int))]) (zA (xX c.v (min (c.parts - 1) 1).toNat)) rfl (by kernel_rfl) (fun _ => by kernel_rfl) (fun w _ => dT c.v (min ((c.parts : Int) - 1) (1 : Int)) (min (c.parts - 1) 1).toNat w hc (by omega) (by omega)) (zY 6 (by kernel_rfl) (ZS [⟨b3, #[.int .i64 0, .int .i64 0, .int .i64 0, .int .i64 0, .string ⟨#[]⟩, .string ⟨#[]⟩, .bool false], 78⟩, ⟨b2, #[.int .i64 0, .int .i64 0, .int .i64 0, .int .i64 0, .string ⟨#[]⟩, .string ⟨#[]⟩, .bool false], 78⟩] _ 1 ⟨b2, #[.int .i64 0, .int .i64 0, .int .i64 0, .int .i64 0, .string ⟨#[]⟩, .string ⟨#[]⟩, .bool false], 78⟩ (off := 0) (zA c.low) rfl rfl (zY 7 (by kernel_rfl) (ZS [⟨b3, #[.int .i64 0, .int .i64 0, .int .i64 0, .int .i64 0, .string ⟨#[]⟩, .string ⟨#[]⟩, .bool false], 78⟩, ⟨b2, (zA c.low).cells, 78⟩] _ 0 ⟨b3, #[.int .i64 0, .int .i64 0, .int .i64 0, .int .i64 0, .string ⟨#[]⟩, .string ⟨#[]⟩, .bool false], 78⟩ (off := 0) (zA (xX c.v (min (c.parts - 1) 1).toNat)) rfl rfl (yO (by kernel_rfl) (zB (zC (zF (z8 (qE 1 0 ⟨b2, (zA c.low).cells, 78⟩ ⟨b3, (zA (xX c.v (min (c.parts - 1) 1).toNat)).cells, 78⟩ (off := 0) (oft := 0) (zA c.low) (zA (xX c.v (min (c.parts - 1) 1).toNat)) Tryz.results93 (by kernel_rfl) (by kernel_rfl) (by kernel_rfl) (by kernel_rfl) (by kernel_rfl) (by kernel_rfl) (fun w hO => ⟨by rw [show c.span = (c.low, (xX c.v (min (c.parts - 1) 1).toNat)) from by unfold Co.span; simp [h4, h5, h6, h7, h8, h9, h10, h11]], hO.below⟩)))))))))))
        refine Zd (p := (c.op : Int) = 8) false (decide_eq_false (h11)) (Zv (.bool false) (ZX (yS (zS (zB (z6 (ZO (Zv (.pointer (some ⟨b1, 1, none⟩)) ?_))))))))
        refine Zl 4 ⟨b1, (coV c).cells, 51⟩ (off := 1) (.int .i64 c.parts) ?_
        by_cases h12 : (c.parts : Int) = 0
        · refine zW (p := (c.parts : Int) = 0) true (by kernel_rfl) (fun _ => by kernel_rfl) (decide_eq_true (h12)) ?_
          refine ZY (ZO (Zc (k := 147) (args := #[]) (zA (zZ (-1))) (fun w _ => dQ w) (Zc (k := 148) (args := #[]) (zA (zZ 1)) (fun w _ => bV w) (Zs 1 ⟨b2, #[.int .i64 0, .int .i64 0, .int .i64 0, .int .i64 0, .string ⟨#[]⟩, .string ⟨#[]⟩, .bool false], 78⟩ (off := 0) (zA (zZ (-1))) (Zs 0 ⟨b3, #[.int .i64 0, .int .i64 0, .int .i64 0, .int .i64 0, .string ⟨#[]⟩, .string ⟨#[]⟩, .bool false], 78⟩ (off := 0) (zA (zZ 1)) (ZN (zC ?_)))))))
          exact z8 (qE 1 0 ⟨b2, (zA (zZ (-1))).cells, 78⟩ ⟨b3, (zA (zZ 1)).cells, 78⟩ (off := 0) (oft := 0) (zA (zZ (-1))) (zA (zZ 1)) Tryz.results93 (by kernel_rfl) (by kernel_rfl) (by kernel_rfl) (by kernel_rfl) (by kernel_rfl) (by kernel_rfl) (fun w hO => ⟨by rw [show c.span = ((zZ (-1)), (zZ 1)) from by unfold Co.span; simp [h4, h5, h6, h7, h8, h9, h10, h11, h12]], hO.below⟩))
        refine Zd (p := (c.parts : Int) = 0) false (decide_eq_false (h12)) (ZX (ZB (z6 (xW ([⟨b5, (zA c.aft).cells, 78⟩, ⟨p4, (zA c.low).cells, 78⟩, ⟨b1, (coV c).cells, 51⟩]) (by kernel_rfl) (fun w hO => Own.sub [⟨b3, #[.int .i64 0, .int .i64 0, .int .i64 0, .int .i64 0, .string ⟨#[]⟩, .string ⟨#[]⟩, .bool false], 78⟩, ⟨b2, #[.int .i64 0, .int .i64 0, .int .i64 0, .int .i64 0, .string ⟨#[]⟩, .string ⟨#[]⟩, .bool false], 78⟩] hO) (ZL 0 [⟨b3, #[.int .i64 0, .int .i64 0, .int .i64 0, .int .i64 0, .string ⟨#[]⟩, .string ⟨#[]⟩, .bool false], 78⟩, ⟨b2, #[.int .i64 0, .int .i64 0, .int .i64 0, .int .i64 0, .string ⟨#[]⟩, .string ⟨#[]⟩, .bool false], 78⟩] _ 1 ⟨p4, (zA c.low).cells, 78⟩ (off := 0) (zA c.low) (zG zJ) rfl rfl (ZT 1 [⟨b3, #[.int .i64 0, .int .i64 0, .int .i64 0, .int .i64 0, .string ⟨#[]⟩, .string ⟨#[]⟩, .bool false], 78⟩, ⟨b2, #[.int .i64 0, .int .i64 0, .int .i64 0, .int .i64 0, .string ⟨#[]⟩, .string ⟨#[]⟩, .bool false], 78⟩] _ (.pointer (some ⟨b1, 2, none⟩)) (zG zJ) rfl (ZL 2 [⟨b3, #[.int .i64 0, .int .i64 0, .int .i64 0, .int .i64 0, .string ⟨#[]⟩, .string ⟨#[]⟩, .bool false], 78⟩, ⟨b2, #[.int .i64 0, .int .i64 0, .int .i64 0, .int .i64 0, .string ⟨#[]⟩, .string ⟨#[]⟩, .bool false], 78⟩] _ 2 ⟨b1, (coV c).cells, 51⟩ (off := 2) (.agg #[.int .i64 c.v.maj, .int .i64 c.v.min, .int .i64 c.v.pat, .string (mkS c.v.pre), .string (mkS c.v.build)]) (zG zJ) rfl rfl (ZT 3 [⟨b3, #[.int .i64 0, .int .i64 0, .int .i64 0, .int .i64 0, .string ⟨#[]⟩, .string ⟨#[]⟩, .bool false], 78⟩, ⟨b2, #[.int .i64 0, .int .i64 0, .int .i64 0, .int .i64 0, .string ⟨#[]⟩, .string ⟨#[]⟩, .bool false], 78⟩] _ (.int .i64 ((c.parts : Int) - 1)) (zG zJ) rfl ?_))))))))
        exact zY 4 (by kernel_rfl) (xL [⟨b3, #[.int .i64 0, .int .i64 0, .int .i64 0, .int .i64 0, .string ⟨#[]⟩, .string ⟨#[]⟩, .bool false], 78⟩, ⟨b2, #[.int .i64 0, .int .i64 0, .int .i64 0, .int .i64 0, .string ⟨#[]⟩, .string ⟨#[]⟩, .bool false], 78⟩] _ (k := 146) (args := #[.agg #[.int .i64 c.v.maj, .int .i64 c.v.min, .int .i64 c.v.pat, .string (mkS c.v.pre), .string (mkS c.v.build)], .int .i64 ((c.parts : Int) - 1)]) (zA (xX c.v (c.parts - 1).toNat)) rfl (by kernel_rfl) (fun _ => by kernel_rfl) (fun w _ => dT c.v ((c.parts : Int) - 1) (c.parts - 1).toNat w hc (by omega) (by omega)) (zY 5 (by kernel_rfl) (ZS [⟨b3, #[.int .i64 0, .int .i64 0, .int .i64 0, .int .i64 0, .string ⟨#[]⟩, .string ⟨#[]⟩, .bool false], 78⟩, ⟨b2, #[.int .i64 0, .int .i64 0, .int .i64 0, .int .i64 0, .string ⟨#[]⟩, .string ⟨#[]⟩, .bool false], 78⟩] _ 1 ⟨b2, #[.int .i64 0, .int .i64 0, .int .i64 0, .int .i64 0, .string ⟨#[]⟩, .string ⟨#[]⟩, .bool false], 78⟩ (off := 0) (zA c.low) rfl rfl (zY 6 (by kernel_rfl) (ZS [⟨b3, #[.int .i64 0, .int .i64 0, .int .i64 0, .int .i64 0, .string ⟨#[]⟩, .string ⟨#[]⟩, .bool false], 78⟩, ⟨b2, (zA c.low).cells, 78⟩] _ 0 ⟨b3, #[.int .i64 0, .int .i64 0, .int .i64 0, .int .i64 0, .string ⟨#[]⟩, .string ⟨#[]⟩, .bool false], 78⟩ (off := 0) (zA (xX c.v (c.parts - 1).toNat)) rfl rfl (yO (by kernel_rfl) (zB (zC (qE 1 0 ⟨b2, (zA c.low).cells, 78⟩ ⟨b3, (zA (xX c.v (c.parts - 1).toNat)).cells, 78⟩ (off := 0) (oft := 0) (zA c.low) (zA (xX c.v (c.parts - 1).toNat)) Tryz.results93 (by kernel_rfl) (by kernel_rfl) (by kernel_rfl) (by kernel_rfl) (by kernel_rfl) (by kernel_rfl) (fun w hO => ⟨by rw [show c.span = (c.low, (xX c.v (c.parts - 1).toNat)) from by unfold Co.span; simp [h4, h5, h6, h7, h8, h9, h10, h11, h12]], hO.below⟩))))))))))
end
section
theorem slit6 (s : Sp) (b : Nat) (cur : Array Value) (h : cur.toList = x4 s) : SlS (.slice (some ⟨b, 0, none⟩) 1 1) [s] [⟨b, cur, 80⟩] := by
  have e : ([s] : List Sp).flatMap x4 = x4 s := List.append_nil _
  have hc : cur.toList.length = 14 := by rw [h]; rfl
  refine ⟨by rw [e]; rfl, .inr ⟨b, 1, cur, rfl, rfl, Nat.le_refl _, by decide, by rw [← Array.length_toList, hc], ?_⟩⟩
  rw [e, h]
  exact List.take_of_length_le (Nat.le_refl 14)
theorem high_short (v : Ver) (k : Nat) : (xX v k).short := by
  induction k with
  | zero =>
    unfold xX
    split
    · exact pQ v 0
    · exact ⟨Nat.zero_le _, Nat.zero_le _⟩
  | succ k ih =>
    unfold xX
    split
    · exact pQ v _
    · exact ih
theorem dO {c : Co} (h : c.short) : c.span.1.short ∧ c.span.2.short := by
  have hl : c.low.short := core_short h
  have he : ∀ e : Int, (zZ e).short := fun e => ⟨Nat.zero_le _, Nat.zero_le _⟩
  have ha : c.aft.short := by
    unfold Co.aft
    split
    · exact high_short _ _
    · exact core_short h
  have hh := fun k => high_short c.v k
  unfold Co.span
  repeat' split
  all_goals exact ⟨by first | exact hl | exact ha | exact he _ | exact hh _, by first | exact hl | exact ha | exact he _ | exact hh _⟩
theorem qK (lo hi : Cu) : kH lo hi = if zM lo hi < 0 then [⟨lo, hi⟩] else [] := by
  unfold kH gY
  by_cases h : zM lo hi < 0
  · rw [if_pos (wC h), if_pos h]; rfl
  · rw [if_neg (fun q => h (uR q)), if_neg h]
theorem rcRegion_any (c : Co) (W : World) (hc : c.short) : Calls Tryz.prog 53 #[coV c] W fun e w' => ∃ v' ob', e = .returned v' ∧ SlS v' c.region ob' ∧ Own [] W w' ob' := by
  have hs1 := (dO hc).1
  have hs2 := (dO hc).2
  refine zQ (n := 28) Tryz.func53 rfl (by kernel_rfl) (by kernel_rfl) (ZO (Zb (coV c) (fun b1 => Zv (.slice none 0 0) (ZN (z6 (ZO (Zl 0 ⟨b1, (coV c).cells, 51⟩ (off := 0) (coV c) (Zc (k := 79) (args := #[coV c]) (.bool c.may) (fun w _ => rcMay_any c w hc) ?_))))))))
  cases h1 : c.may with
  | true =>
    refine Zv (.bool false) (ZX (ZB (ZO (Zv (.slice none 0 0) (ZN (z6 ?_))))))
    refine z7 (Zl 0 ⟨b1, (coV c).cells, 51⟩ (off := 0) (coV c) (Zc (k := 93) (args := #[coV c]) (.tuple #[zA c.span.1, zA c.span.2]) (fun w _ => rcspan_any c w hc h1) (Zv (.tuple #[zA c.span.1, zA c.span.2]) (Zv (zA c.span.1) (Zv (zA c.span.2) (Za (.agg #[.int .i64 0, .int .i64 0, .int .i64 0, .int .i64 0, .string ⟨#[]⟩, .string ⟨#[]⟩, .bool false]) (fun b2 => Za (.agg #[.int .i64 0, .int .i64 0, .int .i64 0, .int .i64 0, .string ⟨#[]⟩, .string ⟨#[]⟩, .bool false]) (fun b3 => Zs 1 ⟨b2, #[.int .i64 0, .int .i64 0, .int .i64 0, .int .i64 0, .string ⟨#[]⟩, .string ⟨#[]⟩, .bool false], 78⟩ (off := 0) (zA c.span.1) (Zs 0 ⟨b3, #[.int .i64 0, .int .i64 0, .int .i64 0, .int .i64 0, .string ⟨#[]⟩, .string ⟨#[]⟩, .bool false], 78⟩ (off := 0) (zA c.span.2) (zP (zB ?_)))))))))))
    refine z6 (ZO (Zl 1 ⟨b2, (zA c.span.1).cells, 78⟩ (off := 0) (zA c.span.1) (Zl 0 ⟨b3, (zA c.span.2).cells, 78⟩ (off := 0) (zA c.span.2) (Zc (k := 94) (args := #[zA c.span.1, zA c.span.2]) (.int .i64 (zM c.span.1 c.span.2)) (fun w _ => j7 c.span.1 c.span.2 w hs1 hs2) ?_))))
    by_cases h2 : (zM c.span.1 c.span.2 : Int) < 0
    · refine zW (p := (zM c.span.1 c.span.2 : Int) < 0) true (by kernel_rfl) (fun _ => by kernel_rfl) (decide_eq_true (h2)) ?_
      refine ZY (z7 (Zl 1 ⟨b2, (zA c.span.1).cells, 78⟩ (off := 0) (zA c.span.1) (Zl 0 ⟨b3, (zA c.span.2).cells, 78⟩ (off := 0) (zA c.span.2) (Zv (.agg #[.int .i64 c.span.1.e, .int .i64 c.span.1.v.maj, .int .i64 c.span.1.v.min, .int .i64 c.span.1.v.pat, .string (mkS c.span.1.v.pre), .string (mkS c.span.1.v.build), .bool c.span.1.aft, .int .i64 c.span.2.e, .int .i64 c.span.2.v.maj, .int .i64 c.span.2.v.min, .int .i64 c.span.2.v.pat, .string (mkS c.span.2.v.pre), .string (mkS c.span.2.v.build), .bool c.span.2.aft]) (v6 80 #[.int .i64 c.span.1.e, .int .i64 c.span.1.v.maj, .int .i64 c.span.1.v.min, .int .i64 c.span.1.v.pat, .string (mkS c.span.1.v.pre), .string (mkS c.span.1.v.build), .bool c.span.1.aft, .int .i64 c.span.2.e, .int .i64 c.span.2.v.maj, .int .i64 c.span.2.v.min, .int .i64 c.span.2.v.pat, .string (mkS c.span.2.v.pre), .string (mkS c.span.2.v.build), .bool c.span.2.aft] (by kernel_rfl) rfl (fun _ => by kernel_rfl) (fun b4 => Zv (.slice (some ⟨b4, 0, none⟩) 1 1) (ZN (z6 ?_))))))))
      refine ZO (Zv (.pointer (some ⟨b1, 0, none⟩)) (Zl 3 ⟨b1, (coV c).cells, 51⟩ (off := 0) (.int .i64 c.op) ?_))
      by_cases h3 : (c.op : Int) = 2
      · refine zW (p := (c.op : Int) = 2) true (by kernel_rfl) (fun _ => by kernel_rfl) (decide_eq_true (h3)) ?_
        refine ZY (ZO (Zv (.slice (some ⟨b4, 0, none⟩) 1 1) (yK (k := 95) (args := #[.slice (some ⟨b4, 0, none⟩) 1 1]) (fun v' L' => ∃ ob', L' = ob' ++ ([⟨b4, #[.int .i64 c.span.1.e, .int .i64 c.span.1.v.maj, .int .i64 c.span.1.v.min, .int .i64 c.span.1.v.pat, .string (mkS c.span.1.v.pre), .string (mkS c.span.1.v.build), .bool c.span.1.aft, .int .i64 c.span.2.e, .int .i64 c.span.2.v.maj, .int .i64 c.span.2.v.min, .int .i64 c.span.2.v.pat, .string (mkS c.span.2.v.pre), .string (mkS c.span.2.v.build), .bool c.span.2.aft], 80⟩, ⟨b3, (zA c.span.2).cells, 78⟩, ⟨b2, (zA c.span.1).cells, 78⟩, ⟨b1, (coV c).cells, 51⟩]) ∧ SlS v' (qY [⟨c.span.1, c.span.2⟩]) ob') (by kernel_rfl) (fun _ => by kernel_rfl) (fun w hO => (rnot_any (some ⟨b4, 0, none⟩) 1 [⟨c.span.1, c.span.2⟩] w (Sl.reads (slit6 ⟨c.span.1, c.span.2⟩ b4 #[.int .i64 c.span.1.e, .int .i64 c.span.1.v.maj, .int .i64 c.span.1.v.min, .int .i64 c.span.1.v.pat, .string (mkS c.span.1.v.pre), .string (mkS c.span.1.v.build), .bool c.span.1.aft, .int .i64 c.span.2.e, .int .i64 c.span.2.v.maj, .int .i64 c.span.2.v.min, .int .i64 c.span.2.v.pat, .string (mkS c.span.2.v.pre), .string (mkS c.span.2.v.build), .bool c.span.2.aft] (by kernel_rfl)) rfl hO (fun x hx => by rw [List.mem_singleton.1 hx]; exact List.mem_cons_self)) (by show 1 ≤ _; decide) (fun s hs => by rw [List.mem_singleton.1 hs]; exact ⟨hs1, hs2⟩)).mono fun e w' ⟨v', ob', k1, k2, k3⟩ => ⟨v', _, k1, ⟨ob', rfl, by rw [if_pos (show zL [⟨c.span.1, c.span.2⟩] = true from wC (by assumption))] at k2; exact k2⟩, Own.joinN hO k3⟩) (fun v1 L1 hv1 => ?_))))
        obtain ⟨o1, rfl, hr1⟩ := hv1
        exact Zv (v1) (ZN (zC (z8 (ZF (v1) Tryz.results53 (fun w hO => ⟨_, o1, rfl, by rw [show c.region = qY [⟨c.span.1, c.span.2⟩] from by unfold Co.region; rw [if_pos (by assumption), if_pos h3, qK, if_pos h2]]; exact hr1, hO.sublist (List.sublist_append_left _ _)⟩)))))
      refine Zd (p := (c.op : Int) = 2) false (decide_eq_false (h3)) (ZX (ZB (ZO (Zv (.slice (some ⟨b4, 0, none⟩) 1 1) (Zv (.slice (some ⟨b4, 0, none⟩) 1 1) (zP (zB ?_)))))))
      exact zC (ZF (.slice (some ⟨b4, 0, none⟩) 1 1) Tryz.results53 (fun w hO => ⟨_, _, rfl, by rw [show c.region = [⟨c.span.1, c.span.2⟩] from by unfold Co.region; rw [if_pos (by assumption), if_neg h3, qK, if_pos h2]]; exact slit6 ⟨c.span.1, c.span.2⟩ b4 _ (by kernel_rfl), hO.sublist (List.cons_sublist_cons.2 (List.nil_sublist _))⟩))
    refine Zd (p := (zM c.span.1 c.span.2 : Int) < 0) false (decide_eq_false (h2)) (ZX (ZB (z6 (ZO (Zv (.pointer (some ⟨b1, 0, none⟩)) (Zl 2 ⟨b1, (coV c).cells, 51⟩ (off := 0) (.int .i64 c.op) ?_))))))
    by_cases h4 : (c.op : Int) = 2
    · refine zW (p := (c.op : Int) = 2) true (by kernel_rfl) (fun _ => by kernel_rfl) (decide_eq_true (h4)) ?_
      refine ZY (ZO (Zv (.slice none 0 0) (yK (k := 95) (args := #[.slice none 0 0]) (fun v' L' => ∃ ob', L' = ob' ++ ([⟨b3, (zA c.span.2).cells, 78⟩, ⟨b2, (zA c.span.1).cells, 78⟩, ⟨b1, (coV c).cells, 51⟩]) ∧ SlS v' (qY []) ob') (by kernel_rfl) (fun _ => by kernel_rfl) (fun w hO => (rnot_any none 0 [] w (fun h0 => absurd h0 (Nat.lt_irrefl 0)) (by show 0 ≤ _; decide) (fun s hs => by simp at hs)).mono fun e w' ⟨v', ob', k1, k2, k3⟩ => ⟨v', _, k1, ⟨ob', rfl, by rw [if_pos (show zL [] = true from rfl)] at k2; exact k2⟩, Own.joinN hO k3⟩) (fun v1 L1 hv1 => ?_))))
      obtain ⟨o1, rfl, hr1⟩ := hv1
      exact Zv (v1) (ZN (zC (z8 (ZF (v1) Tryz.results53 (fun w hO => ⟨_, o1, rfl, by rw [show c.region = qY [] from by unfold Co.region; rw [if_pos (by assumption), if_pos h4, qK, if_neg h2]]; exact hr1, hO.sublist (List.sublist_append_left _ _)⟩)))))
    refine Zd (p := (c.op : Int) = 2) false (decide_eq_false (h4)) (ZX (ZB (ZO (Zv (.slice none 0 0) (Zv (.slice none 0 0) (zP (zB ?_)))))))
    exact zC (ZF (.slice none 0 0) Tryz.results53 (fun w hO => ⟨_, [], rfl, by rw [show c.region = [] from by unfold Co.region; rw [if_pos (by assumption), if_neg h4, qK, if_neg h2]]; exact Sl.nil _ _, qA hO⟩))
  | false =>
    refine Zv (.bool true) (ZY (ZO (Zv (.slice none 0 0) (ZN (zC (z8 (ZF (.slice none 0 0) Tryz.results53 ?_)))))))
    exact fun w hO => ⟨_, [], rfl, by rw [show c.region = [] from by unfold Co.region; simp [h1]]; exact Sl.nil _ _, qA hO⟩
end
section
def triV (l : List (List UInt8)) : Ver := if l.length = 3 then ⟨zT (tg l 0), zT (tg l 1), zT (tg l 2), [], []⟩ else Ver.zero
def triB (l : List (List UInt8)) : Bool := decide (l.length = 3) && (gK (tg l 0) && gK (tg l 1) && gK (tg l 2))
theorem nV (n : Int) (h : yH n = true) (w : World) :
    Calls Tryz.prog 171 #[.int .i64 n] w fun e w' => e = .returned (.string (mkS (Lib.itoa n))) ∧ Below w.heap.size w w' := by
  unfold yH at h; simp at h
  exact rdigits_any n (by omega) (by omega) w
end
end Go.Proofs.YtkljdpiaghepfaaGreatDoor
