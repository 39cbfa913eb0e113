/-
  What the statement's proof leans on: the ways of walking, plain mathematics, and what the program's functions return; each theorem says on what conditions.
-/
import Derived.Lib.SliceRun
import Derived.Outline
import Derived.Lib.SplitLaws
import Derived.Lib.TrimByte
import Derived.Lib.Join
import Derived.Lib.SlTrimSet
import Derived.Lib.Strings
import Derived.Deep.RegionHeld3
import Derived.Test.YtiekhkapgjdblaaGreatDoorTS2
set_option maxRecDepth 1000000
set_option maxHeartbeats 8000000
set_option linter.unusedVariables false
set_option linter.unusedSimpArgs false
namespace Go.Proofs.YtiekhkapgjdblaaGreatDoor
open Go.RowKit

section
def bumpN (v : Ver) (k : Nat) : Ver := if k = 0 then Ver.rel (v.maj + 1) 0 0 else if k = 1 then Ver.rel v.maj (v.min + 1) 0 else Ver.rel v.maj v.min (v.pat + 1)
def y9 (v : Ver) (part : Int) : Bool := v.may && decide (0 ≤ part ∧ part < 3) && !(x5 v.maj v.min v.pat part.toNat == 9999)
def yO (v : Ver) (part : Int) : Ver := if y9 v part then bumpN v part.toNat else Ver.zero
def BEnd (v : Ver) (part : Int) (w : World) (e : Ending) (w' : World) : Prop := e = .returned (.tuple #[yK (yO v part), .bool (y9 v part)]) ∧ Below w.heap.size w w'
theorem empty_mk2 (b : List UInt8) : (mkS b).toList.isEmpty = b.isEmpty := by rw [Lib.toList_data, mk_data]
theorem qQ {v u : Ver} {part : Int} {b : Bool} {w wr : World} {tmps : Array Value} {old : Array Value} (h2 : tmps.getD 4 undef = .pointer (some ⟨w.heap.size + 1, 0, none⟩)) (h3 : tmps.getD 5 undef = .bool b)
    (hg : wr.heap[w.heap.size + 1]? = some (.cells old 70)) (hbel : Below w.heap.size w wr) (hb : y9 v part = b) (hv : yO v part = u) :
    bodyPost Tryz.prog Tryz.f160 (BEnd v part w) .ret ⟨tmps, []⟩ (wr.setRow (w.heap.size + 1) #[.int .i64 u.maj, .int .i64 u.min, .int .i64 u.pat, .string (mkS u.pre), .string (mkS u.build)]) := by
  have hrow := setRow_heap wr (w.heap.size + 1) _ #[.int .i64 u.maj, .int .i64 u.min, .int .i64 u.pat, .string (mkS u.pre), .string (mkS u.build)] _ _ hg
  have hr := run_loadVar_row (P := Tryz.prog) _ (w.heap.size + 1) 70 70 _ _ _ hrow Tryz.underlying70 rfl (by kernel_rfl)
  have h2' : tmps[4]?.getD undef = .pointer (some ⟨w.heap.size + 1, 0, none⟩) := by simpa using h2
  have h3' : tmps[5]?.getD undef = .bool b := by simpa using h3
  refine bodyPost_ret (v := .tuple #[yK u, .bool b]) (by simp [results, Tryz.results160, asAddr, h2', h3', hr, yK]) rfl ⟨by rw [hv, hb], kT hbel (by omega) _⟩
theorem zeroInt (w : World) : (zeroValue 3).run Tryz.prog w = .ok (.int .i64 0) w := by kernel_rfl
theorem bG {w : World} {N k : Nat} {a b c : Value} (x : Value) (hg : w.heap[N]? = some (.cells #[a, b, c] 128)) : w.setCell ⟨N, k, none⟩ x = w.setRow N ((#[a, b, c] : Array Value).setIfInBounds k x) := setCell_eq_setRow _ _ _ _ _ _ _ hg
theorem jX (w : World) (g : Nat) (a b : Array Value) : (w.setRow g a).setRow g b = w.setRow g b := setRow_setRow _ _ _ _
theorem clear_two {w : World} {N : Nat} {a b c : Int} {old : Array Value} (hg : w.heap[N]? = some (.cells old 128)) (_ho : old.size = 3) :
    (Builtin.clear_ #[33] 0 #[.slice (some ⟨N, 1, none⟩) 2 2]).run Tryz.prog (w.setRow N #[.int .i64 a, .int .i64 b, .int .i64 c]) = .ok (.tuple #[]) (w.setRow N #[.int .i64 a, .int .i64 0, .int .i64 0]) := by
  have h1 := setRow_heap w N old #[.int .i64 a, .int .i64 b, .int .i64 c] _ _ hg
  obtain ⟨n1, m1⟩ := xE (j := 1) h1 (by simp)
  obtain ⟨n2, m2⟩ := xE (j := 2) h1 (by simp)
  have := Lib.run_clear_slice (P := Tryz.prog) (w.setRow N #[.int .i64 a, .int .i64 b, .int .i64 c]) 33 3 0 (.int .i64 0) Tryz.underlying33 zeroInt rfl rfl N 1 2 2 (by omega)
    (fun j hj => by match j, hj with | 0, _ => rw [n1]; rfl | 1, _ => rw [n2]; rfl) (fun j hj => by match j, hj with | 0, _ => exact m1 | 1, _ => exact m2)
  rw [this]
  congr 1
  show ((w.setRow N #[.int .i64 a, .int .i64 b, .int .i64 c]).setCell ⟨N, 1, none⟩ (.int .i64 0)).setCell ⟨N, 2, none⟩ (.int .i64 0) = _
  rw [bG _ h1, jX]
  have h2 := setRow_heap w N old ((#[.int .i64 a, .int .i64 b, .int .i64 c] : Array Value).setIfInBounds 1 (.int .i64 0)) _ _ hg
  rw [bG (a := .int .i64 a) (b := .int .i64 0) (c := .int .i64 c) _ h2, jX]
  rfl
theorem clear_one {w : World} {N : Nat} {a b c : Int} {old : Array Value} (hg : w.heap[N]? = some (.cells old 128)) (_ho : old.size = 3) :
    (Builtin.clear_ #[33] 0 #[.slice (some ⟨N, 2, none⟩) 1 1]).run Tryz.prog (w.setRow N #[.int .i64 a, .int .i64 b, .int .i64 c]) = .ok (.tuple #[]) (w.setRow N #[.int .i64 a, .int .i64 b, .int .i64 0]) := by
  have h1 := setRow_heap w N old #[.int .i64 a, .int .i64 b, .int .i64 c] _ _ hg
  obtain ⟨n2, m2⟩ := xE (j := 2) h1 (by simp)
  have := Lib.run_clear_slice (P := Tryz.prog) (w.setRow N #[.int .i64 a, .int .i64 b, .int .i64 c]) 33 3 0 (.int .i64 0) Tryz.underlying33 zeroInt rfl rfl N 2 1 1 (by omega)
    (fun j hj => by match j, hj with | 0, _ => rw [n2]; rfl) (fun j hj => by match j, hj with | 0, _ => exact m2)
  rw [this]
  congr 1
  show (w.setRow N #[.int .i64 a, .int .i64 b, .int .i64 c]).setCell ⟨N, 2, none⟩ (.int .i64 0) = _
  rw [bG _ h1, jX]
  rfl
theorem clear_none {w : World} (x : Option Addr) (c : Nat) : (Builtin.clear_ #[33] 0 #[.slice x 0 c]).run Tryz.prog w = .ok (.tuple #[]) w := by
  cases x <;> simp [Builtin.clear_, run_underlying Tryz.underlying33]
theorem bump_go (v : Ver) (part : Int) (w : World) (hp : v.pre.length ≤ 1000000) (hq : v.build.length ≤ 1000000) :
    Calls Tryz.prog 160 #[yK v, .int .i64 part] w (BEnd v part w) := by
  have cM := fun w' => qN v w' (by omega) (by omega)
  have cN := fun w' => wQ v w'
  have hN : v.may = true → (0 ≤ v.maj ∧ v.maj ≤ 9999) ∧ (0 ≤ v.min ∧ v.min ≤ 9999) ∧ (0 ≤ v.pat ∧ v.pat ≤ 9999) := fun h => by
    obtain ⟨h1, h2, h3⟩ := gJ h
    unfold yF at h1 h2 h3; simp at h1 h2 h3
    exact ⟨h1, h2, h3⟩
  obtain ⟨u, hu⟩ : ∃ u, u = v := ⟨_, rfl⟩
  have HU := Lib.hid hu
  rw [← hu] at hN
  have hgo : BEnd v part w = BEnd u part w := by rw [hu]
  rw [hgo]
  obtain ⟨m, hm⟩ : ∃ m, u.may = m := ⟨_, rfl⟩
  rw [← hu, hm] at cM
  rw [← hu] at cN ⊢
  clear hgo hu
  obtain ⟨a, b, c, p, q⟩ := u
  unfold yK at cM cN ⊢
  dsimp only at cM cN hN ⊢
  go_enter Tryz.func160, Tryz.ntmps160
  go_wp2_with fail
  refine (cN _).mono ?_
  rintro e w1 ⟨rfl, hb1⟩
  have hz1 := hb1.size
  simp only [zY] at hz1
  have hgB := Lib.hid ((hb1.block w.heap.size (by simp only [zY]; omega)).trans ((xT _ _ (by simp only [zY]; omega)).trans (kN w _)))
  have hgR := Lib.hid ((hb1.block (w.heap.size + 1) (by simp only [zY]; omega)).trans (dK _ _ _ (by simp only [zY])))
  have hbw : Below w.heap.size w w1 := (((Below.refl _ _).alloc (Nat.le_refl _) _).alloc (by simp only [zY]; omega) _).trans (hb1.mono (by simp only [zY]; omega))
  have hlB : w.heap.size < w1.heap.size := by omega
  go_wp2_with (first | (refine wpList_load_row rfl 70 _ rfl w.heap.size rfl _ _ _ _ ((xT _ _ hlB).trans hgB.out) Tryz.underlying70 rfl (by kernel_rfl) ?_) | fail)
  refine (cM _).mono ?_
  rintro e w2 ⟨rfl, hb2⟩
  have hz2 := hb2.size
  rw [zY] at hz2
  have hgR2 := Lib.hid ((hb2.block (w.heap.size + 1) (by rw [zY]; omega)).trans ((xT _ _ (by omega)).trans hgR.out))
  have hgN := Lib.hid ((hb2.block w1.heap.size (by rw [zY]; omega)).trans (kN w1 _))
  have hbw2 : Below w.heap.size w w2 := (hbw.alloc (by omega) _).trans (hb2.mono (by rw [zY]; omega))
  clear hbw hb1 hb2 hgB hgR cM cN
  cases m with
  | false =>
    have HB : Hid (y9 ⟨a, b, c, p, q⟩ part = false) := by show _ = _; unfold y9; rw [hm]; rfl
    clear hm hN
    go_wp2_with (refine wpList_store_row rfl 70 _ _ rfl (w.heap.size + 1) #[.int .i64 0, .int .i64 0, .int .i64 0, .string ⟨#[]⟩, .string ⟨#[]⟩] rfl rfl _ _ hgR2.out (by kernel_rfl) rfl (gF _ _ _ _ _) ?_)
    exact qQ (u := Ver.zero) rfl rfl hgR2.out hbw2 HB.out (by unfold yO; rw [HB.out]; rfl)
  | true =>
    obtain ⟨⟨a0, a9⟩, ⟨b0, b9⟩, ⟨c0, c9⟩⟩ := hN hm
    have HM := Lib.hid hm
    clear hN hm
    by_cases p0 : part < 0
    · have HB : Hid (y9 ⟨a, b, c, p, q⟩ part = false) := by show _ = _; unfold y9; rw [decide_eq_false (by omega)]; simp
      go_wp2_with (refine wpList_store_row rfl 70 _ _ rfl (w.heap.size + 1) #[.int .i64 0, .int .i64 0, .int .i64 0, .string ⟨#[]⟩, .string ⟨#[]⟩] rfl rfl _ _ hgR2.out (by kernel_rfl) rfl (gF _ _ _ _ _) ?_)
      exact qQ (u := Ver.zero) rfl rfl hgR2.out hbw2 HB.out (by unfold yO; rw [HB.out]; rfl)
    · by_cases p3 : 3 ≤ part
      · have HB : Hid (y9 ⟨a, b, c, p, q⟩ part = false) := by show _ = _; unfold y9; rw [decide_eq_false (by omega)]; simp
        go_wp2_with (refine wpList_store_row rfl 70 _ _ rfl (w.heap.size + 1) #[.int .i64 0, .int .i64 0, .int .i64 0, .string ⟨#[]⟩, .string ⟨#[]⟩] rfl rfl _ _ hgR2.out (by kernel_rfl) rfl (gF _ _ _ _ _) ?_)
        exact qQ (u := Ver.zero) rfl rfl hgR2.out hbw2 HB.out (by unfold yO; rw [HB.out]; rfl)
      · obtain ⟨n0, m0⟩ := xE (j := 0) hgN.out (by simp)
        obtain ⟨n1, m1⟩ := xE (j := 1) hgN.out (by simp)
        obtain ⟨n2, m2⟩ := xE (j := 2) hgN.out (by simp)
        simp only [List.getElem_toArray, List.getElem_cons_succ, List.getElem_cons_zero] at n0 n1 n2
        have hpart : part = 0 ∨ part = 1 ∨ part = 2 := by omega
        clear p0 p3
        rcases hpart with rfl | rfl | rfl
        · by_cases h9 : a = 9999
          · have h9b : (a == 9999) = true := by simpa using h9
            have HB : Hid (y9 ⟨a, b, c, p, q⟩ 0 = false) := by show _ = _; unfold y9; rw [show x5 a b c (0 : Int).toNat = a from rfl, h9b]; simp
            clear h9
            go_wp2_with (refine wpList_store_row rfl 70 _ _ rfl (w.heap.size + 1) #[.int .i64 0, .int .i64 0, .int .i64 0, .string ⟨#[]⟩, .string ⟨#[]⟩] rfl rfl _ _ hgR2.out (by kernel_rfl) rfl (gF _ _ _ _ _) ?_)
            exact qQ (u := Ver.zero) rfl rfl hgR2.out hbw2 HB.out (by unfold yO; rw [HB.out]; rfl)
          · have h9b : (a == 9999) = false := by simpa using h9
            have HB : Hid (y9 ⟨a, b, c, p, q⟩ 0 = true) := by show _ = _; unfold y9; rw [HM.out, show x5 a b c (0 : Int).toNat = a from rfl, h9b]; rfl
            have hW : (w2.setCell ⟨w1.heap.size, 0, none⟩ (.int .i64 (a + 1))) = w2.setRow w1.heap.size #[.int .i64 (a + 1), .int .i64 (b), .int .i64 (c)] := bG _ hgN.out
            have hcl : (Builtin.clear_ #[33] 0 #[.slice (some ⟨w1.heap.size, 1, none⟩) 2 2]).run Tryz.prog (w2.setRow w1.heap.size #[.int .i64 (a + 1), .int .i64 (b), .int .i64 (c)]) = .ok (.tuple #[]) (w2.setRow w1.heap.size #[.int .i64 (a + 1), .int .i64 (0), .int .i64 (0)]) := clear_two hgN.out rfl
            have hN2 := Lib.hid (setRow_heap w2 w1.heap.size _ #[.int .i64 (a + 1), .int .i64 (0), .int .i64 (0)] _ _ hgN.out)
            have hR2 := Lib.hid ((gG w2 w1.heap.size (w.heap.size + 1) #[.int .i64 (a + 1), .int .i64 (0), .int .i64 (0)] (by omega)).trans hgR2.out)
            have hbR : Below w.heap.size w (w2.setRow w1.heap.size #[.int .i64 (a + 1), .int .i64 (0), .int .i64 (0)]) := kT hbw2 (by omega) _
            have hsR : (w2.setRow w1.heap.size #[.int .i64 (a + 1), .int .i64 (0), .int .i64 (0)]).heap.size = w2.heap.size := by unfold World.setRow; simp
            have HSR := Lib.hid hsR
            clear hsR h9
            go_wp2_with (first
              | (refine wpList_load_row rfl 128 _ rfl w1.heap.size rfl _ _ _ _ hN2.out Tryz.underlying128 rfl (by kernel_rfl) ?_)
              | (go_at_call 126; refine (jC _ _ _ _).mono ?_; unfold yK Ver.rel; rintro e w3 ⟨rfl, hb3⟩; have hR3 := Lib.hid ((hb3.block (w.heap.size + 1) (by rw [HSR.out]; omega)).trans hR2.out); have hbw3 := hbR.trans (hb3.mono hbR.size))
              | (refine wpList_store_row rfl 70 _ _ rfl (w.heap.size + 1) #[.int .i64 (a + 1), .int .i64 (0), .int .i64 (0), .string (mkS []), .string (mkS [])] rfl rfl _ _ hR3.out (by kernel_rfl) rfl (gF _ _ _ _ _) ?_))
            exact qQ (u := Ver.rel (a + 1) (0) (0)) rfl rfl hR3.out hbw3 HB.out (by unfold yO; rw [HB.out]; rfl)
        · by_cases h9 : b = 9999
          · have h9b : (b == 9999) = true := by simpa using h9
            have HB : Hid (y9 ⟨a, b, c, p, q⟩ 1 = false) := by show _ = _; unfold y9; rw [show x5 a b c (1 : Int).toNat = b from rfl, h9b]; simp
            clear h9
            go_wp2_with (refine wpList_store_row rfl 70 _ _ rfl (w.heap.size + 1) #[.int .i64 0, .int .i64 0, .int .i64 0, .string ⟨#[]⟩, .string ⟨#[]⟩] rfl rfl _ _ hgR2.out (by kernel_rfl) rfl (gF _ _ _ _ _) ?_)
            exact qQ (u := Ver.zero) rfl rfl hgR2.out hbw2 HB.out (by unfold yO; rw [HB.out]; rfl)
          · have h9b : (b == 9999) = false := by simpa using h9
            have HB : Hid (y9 ⟨a, b, c, p, q⟩ 1 = true) := by show _ = _; unfold y9; rw [HM.out, show x5 a b c (1 : Int).toNat = b from rfl, h9b]; rfl
            have hW : (w2.setCell ⟨w1.heap.size, 1, none⟩ (.int .i64 (b + 1))) = w2.setRow w1.heap.size #[.int .i64 (a), .int .i64 (b + 1), .int .i64 (c)] := bG _ hgN.out
            have hcl : (Builtin.clear_ #[33] 0 #[.slice (some ⟨w1.heap.size, 2, none⟩) 1 1]).run Tryz.prog (w2.setRow w1.heap.size #[.int .i64 (a), .int .i64 (b + 1), .int .i64 (c)]) = .ok (.tuple #[]) (w2.setRow w1.heap.size #[.int .i64 (a), .int .i64 (b + 1), .int .i64 (0)]) := clear_one hgN.out rfl
            have hN2 := Lib.hid (setRow_heap w2 w1.heap.size _ #[.int .i64 (a), .int .i64 (b + 1), .int .i64 (0)] _ _ hgN.out)
            have hR2 := Lib.hid ((gG w2 w1.heap.size (w.heap.size + 1) #[.int .i64 (a), .int .i64 (b + 1), .int .i64 (0)] (by omega)).trans hgR2.out)
            have hbR : Below w.heap.size w (w2.setRow w1.heap.size #[.int .i64 (a), .int .i64 (b + 1), .int .i64 (0)]) := kT hbw2 (by omega) _
            have hsR : (w2.setRow w1.heap.size #[.int .i64 (a), .int .i64 (b + 1), .int .i64 (0)]).heap.size = w2.heap.size := by unfold World.setRow; simp
            have HSR := Lib.hid hsR
            clear hsR h9
            go_wp2_with (first
              | (refine wpList_load_row rfl 128 _ rfl w1.heap.size rfl _ _ _ _ hN2.out Tryz.underlying128 rfl (by kernel_rfl) ?_)
              | (go_at_call 126; refine (jC _ _ _ _).mono ?_; unfold yK Ver.rel; rintro e w3 ⟨rfl, hb3⟩; have hR3 := Lib.hid ((hb3.block (w.heap.size + 1) (by rw [HSR.out]; omega)).trans hR2.out); have hbw3 := hbR.trans (hb3.mono hbR.size))
              | (refine wpList_store_row rfl 70 _ _ rfl (w.heap.size + 1) #[.int .i64 (a), .int .i64 (b + 1), .int .i64 (0), .string (mkS []), .string (mkS [])] rfl rfl _ _ hR3.out (by kernel_rfl) rfl (gF _ _ _ _ _) ?_))
            exact qQ (u := Ver.rel (a) (b + 1) (0)) rfl rfl hR3.out hbw3 HB.out (by unfold yO; rw [HB.out]; rfl)
        · by_cases h9 : c = 9999
          · have h9b : (c == 9999) = true := by simpa using h9
            have HB : Hid (y9 ⟨a, b, c, p, q⟩ 2 = false) := by show _ = _; unfold y9; rw [show x5 a b c (2 : Int).toNat = c from rfl, h9b]; simp
            clear h9
            go_wp2_with (refine wpList_store_row rfl 70 _ _ rfl (w.heap.size + 1) #[.int .i64 0, .int .i64 0, .int .i64 0, .string ⟨#[]⟩, .string ⟨#[]⟩] rfl rfl _ _ hgR2.out (by kernel_rfl) rfl (gF _ _ _ _ _) ?_)
            exact qQ (u := Ver.zero) rfl rfl hgR2.out hbw2 HB.out (by unfold yO; rw [HB.out]; rfl)
          · have h9b : (c == 9999) = false := by simpa using h9
            have HB : Hid (y9 ⟨a, b, c, p, q⟩ 2 = true) := by show _ = _; unfold y9; rw [HM.out, show x5 a b c (2 : Int).toNat = c from rfl, h9b]; rfl
            have hW : (w2.setCell ⟨w1.heap.size, 2, none⟩ (.int .i64 (c + 1))) = w2.setRow w1.heap.size #[.int .i64 (a), .int .i64 (b), .int .i64 (c + 1)] := bG _ hgN.out
            have hcl : (Builtin.clear_ #[33] 0 #[.slice (some ⟨w1.heap.size, 0, none⟩) 0 0]).run Tryz.prog (w2.setRow w1.heap.size #[.int .i64 (a), .int .i64 (b), .int .i64 (c + 1)]) = .ok (.tuple #[]) (w2.setRow w1.heap.size #[.int .i64 (a), .int .i64 (b), .int .i64 (c + 1)]) := clear_none _ _
            have hN2 := Lib.hid (setRow_heap w2 w1.heap.size _ #[.int .i64 (a), .int .i64 (b), .int .i64 (c + 1)] _ _ hgN.out)
            have hR2 := Lib.hid ((gG w2 w1.heap.size (w.heap.size + 1) #[.int .i64 (a), .int .i64 (b), .int .i64 (c + 1)] (by omega)).trans hgR2.out)
            have hbR : Below w.heap.size w (w2.setRow w1.heap.size #[.int .i64 (a), .int .i64 (b), .int .i64 (c + 1)]) := kT hbw2 (by omega) _
            have hsR : (w2.setRow w1.heap.size #[.int .i64 (a), .int .i64 (b), .int .i64 (c + 1)]).heap.size = w2.heap.size := by unfold World.setRow; simp
            have HSR := Lib.hid hsR
            clear hsR h9
            go_wp2_with (first
              | (refine wpList_load_row rfl 128 _ rfl w1.heap.size rfl _ _ _ _ hN2.out Tryz.underlying128 rfl (by kernel_rfl) ?_)
              | (go_at_call 126; refine (jC _ _ _ _).mono ?_; unfold yK Ver.rel; rintro e w3 ⟨rfl, hb3⟩; have hR3 := Lib.hid ((hb3.block (w.heap.size + 1) (by rw [HSR.out]; omega)).trans hR2.out); have hbw3 := hbR.trans (hb3.mono hbR.size))
              | (refine wpList_store_row rfl 70 _ _ rfl (w.heap.size + 1) #[.int .i64 (a), .int .i64 (b), .int .i64 (c + 1), .string (mkS []), .string (mkS [])] rfl rfl _ _ hR3.out (by kernel_rfl) rfl (gF _ _ _ _ _) ?_))
            exact qQ (u := Ver.rel (a) (b) (c + 1)) rfl rfl hR3.out hbw3 HB.out (by unfold yO; rw [HB.out]; rfl)
theorem bump_any (v : Ver) (part : Int) (w : World) (hp : v.pre.length ≤ 1000000) (hq : v.build.length ≤ 1000000) :
    Calls Tryz.prog 160 #[yK v, .int .i64 part] w fun e w' => e = .returned (.tuple #[yK (yO v part), .bool (y9 v part)]) ∧ Below w.heap.size w w' := bump_go v part w hp hq
def kR (v : Ver) : Bool := v.may && (!v.pre.isEmpty || y9 v 2 || y9 v 1 || y9 v 0)
def yP (v : Ver) : Ver :=
  if v.may then (if v.pre.isEmpty then (if y9 v 2 then yO v 2 else if y9 v 1 then yO v 1 else if y9 v 0 then yO v 0 else Ver.zero) else Ver.rel v.maj v.min v.pat) else Ver.zero
def NEnd (v : Ver) (w : World) (e : Ending) (w' : World) : Prop := e = .returned (.tuple #[yK (yP v), .bool (kR v)]) ∧ Below w.heap.size w w'
theorem bQ {v u : Ver} {b : Bool} {w wr : World} {tmps : Array Value} {old : Array Value} (h2 : tmps.getD 2 undef = .pointer (some ⟨w.heap.size + 1, 0, none⟩)) (h3 : tmps.getD 3 undef = .bool b)
    (hg : wr.heap[w.heap.size + 1]? = some (.cells old 70)) (hbel : Below w.heap.size w wr) (hb : kR v = b) (hv : yP v = u) :
    bodyPost Tryz.prog Tryz.f111 (NEnd v w) .ret ⟨tmps, []⟩ (wr.setRow (w.heap.size + 1) #[.int .i64 u.maj, .int .i64 u.min, .int .i64 u.pat, .string (mkS u.pre), .string (mkS u.build)]) := by
  have hrow := setRow_heap wr (w.heap.size + 1) _ #[.int .i64 u.maj, .int .i64 u.min, .int .i64 u.pat, .string (mkS u.pre), .string (mkS u.build)] _ _ hg
  have hr := run_loadVar_row (P := Tryz.prog) _ (w.heap.size + 1) 70 70 _ _ _ hrow Tryz.underlying70 rfl (by kernel_rfl)
  have h2' : tmps[2]?.getD undef = .pointer (some ⟨w.heap.size + 1, 0, none⟩) := by simpa using h2
  have h3' : tmps[3]?.getD undef = .bool b := by simpa using h3
  refine bodyPost_ret (v := .tuple #[yK u, .bool b]) (by simp [results, Tryz.results111, asAddr, h2', h3', hr, yK]) rfl ⟨by rw [hv, hb], kT hbel (by omega) _⟩
def vL (v : Ver) : Nat → Ver × Bool
  | 0 => (Ver.zero, false)
  | k + 1 => if y9 v k then (yO v k, true) else vL v k
theorem mG (v : Ver) (h : (!v.pre.isEmpty && v.may) = false) : yP v = (vL v 3).1 ∧ kR v = (vL v 3).2 := by
  unfold yP kR
  show _ = (if y9 v 2 then (yO v 2, true) else if y9 v 1 then (yO v 1, true) else if y9 v 0 then (yO v 0, true) else (Ver.zero, false)).1 ∧ _ = (if y9 v 2 then (yO v 2, true) else if y9 v 1 then (yO v 1, true) else if y9 v 0 then (yO v 0, true) else (Ver.zero, false)).2
  cases hm : v.may with
  | true =>
    rw [hm, Bool.and_true] at h
    rw [h]
    have hp : v.pre.isEmpty = true := by simpa using h
    rw [hp]
    cases y9 v 2 <;> cases y9 v 1 <;> cases y9 v 0 <;> simp
  | false =>
    have hk : ∀ k, y9 v k = false := fun k => by unfold y9; rw [hm]; rfl
    rw [hk, hk, hk]; simp
theorem next_go (v : Ver) (w : World) (hp : v.pre.length ≤ 1000000) (hq : v.build.length ≤ 1000000) :
    Calls Tryz.prog 111 #[yK v] w (NEnd v w) := by
  have cM := fun w' => qN v w' (by omega) (by omega)
  have cN := fun w' => wQ v w'
  have ep := empty_mk2 v.pre
  obtain ⟨a, b, c, p, q⟩ := v
  unfold yK at cM cN ⊢
  dsimp only at cM cN ep hp hq ⊢
  cases he : p.isEmpty with
  | true =>
    have HG : Hid ((!p.isEmpty && (Ver.mk a b c p q).may) = false) := by show _ = _; rw [he]; rfl
    rw [he] at ep
    clear he cM cN
    go_enter Tryz.func111, Tryz.ntmps111
    go_wp2
    go_loopw [4] (fun x wr => ∃ k : Nat, k ≤ 3 ∧ x = .int .i64 ((k : Int) - 1) ∧ wr.heap[w.heap.size]? = some (.cells #[.int .i64 a, .int .i64 b, .int .i64 c, .string (mkS p), .string (mkS q)] 70) ∧ wr.heap[w.heap.size + 1]? = some (.cells #[.int .i64 0, .int .i64 0, .int .i64 0, .string ⟨#[]⟩, .string ⟨#[]⟩] 70) ∧ Below w.heap.size w wr ∧ Hid (vL ⟨a, b, c, p, q⟩ k = vL ⟨a, b, c, p, q⟩ 3)) (fun x _ => ((intOf x) + 1).toNat)
    case atStart => exact ⟨3, by omega, rfl, (xT _ _ (by rw [zY]; omega)).trans (kN w _), dK _ _ _ (by rw [zY]), ((Below.refl _ _).alloc (Nat.le_refl _) _).alloc (by rw [zY]; omega) _, rfl⟩
    case round =>
      obtain ⟨k, hk, rfl, hB, hR, hbel, HR⟩ := hrel
      have hlR := (Array.getElem?_eq_some_iff.1 hR).1
      have HB := Lib.hid hB
      have HR0 := Lib.hid hR
      clear hB hR
      cases k with
      | zero =>
        have HF : Hid (vL ⟨a, b, c, p, q⟩ 3 = (Ver.zero, false)) := HR.out.symm
        go_wp2_with (refine wpList_store_row rfl 70 _ _ rfl (w.heap.size + 1) #[.int .i64 0, .int .i64 0, .int .i64 0, .string ⟨#[]⟩, .string ⟨#[]⟩] rfl rfl _ _ HR0.out (by kernel_rfl) rfl (gF _ _ _ _ _) ?_)
        have hf := mG ⟨a, b, c, p, q⟩ HG.out
        rw [HF.out] at hf
        exact bQ (u := Ver.zero) rfl rfl HR0.out hbel hf.2 hf.1
      | succ k =>
        have hk0 : (0 : Int) ≤ k := by omega
        have hke : (((k + 1 : Nat) : Int) - 1) = (k : Int) := by omega
        rw [hke]
        have cB := fun w' => bump_any ⟨a, b, c, p, q⟩ (k : Int) w' hp hq
        unfold yK at cB
        dsimp only at cB
        cases hb : y9 ⟨a, b, c, p, q⟩ (k : Int) with
        | true =>
          rw [hb] at cB
          obtain ⟨u, hu⟩ : ∃ u, yO ⟨a, b, c, p, q⟩ (k : Int) = u := ⟨_, rfl⟩
          rw [hu] at cB
          have hfq : vL ⟨a, b, c, p, q⟩ 3 = (u, true) := by rw [← HR.out, vL, hb, hu]; rfl
          have HF := Lib.hid hfq
          clear hfq hb hu hke
          go_wp2_with (first
            | (refine wpList_load_row rfl 70 _ rfl w.heap.size rfl _ _ _ _ HB.out Tryz.underlying70 rfl (by kernel_rfl) ?_)
            | (go_at_call 160; refine (cB _).mono ?_; rintro e w3 ⟨rfl, hb3⟩; have hR3 := Lib.hid ((hb3.block (w.heap.size + 1) hlR).trans HR0.out); have hbw3 := hbel.trans (hb3.mono hbel.size); have hl3 := Nat.lt_of_lt_of_le hlR hb3.size)
            | (refine wpList_store_row rfl 70 _ _ rfl (w.heap.size + 1) #[.int .i64 u.maj, .int .i64 u.min, .int .i64 u.pat, .string (mkS u.pre), .string (mkS u.build)] rfl rfl _ _ ((xT _ _ hl3).trans hR3.out) (by kernel_rfl) rfl (gF _ _ _ _ _) ?_))
          have hf := mG ⟨a, b, c, p, q⟩ HG.out
          rw [HF.out] at hf
          exact bQ (u := u) rfl rfl ((xT _ _ hl3).trans hR3.out) (hbw3.alloc (by omega) _) hf.2 hf.1
        | false =>
          rw [hb] at cB
          obtain ⟨u, hu⟩ : ∃ u, yO ⟨a, b, c, p, q⟩ (k : Int) = u := ⟨_, rfl⟩
          rw [hu] at cB
          have hfq : vL ⟨a, b, c, p, q⟩ k = vL ⟨a, b, c, p, q⟩ 3 := by rw [← HR.out, vL, hb]; rfl
          have HF := Lib.hid hfq
          clear hfq hb hu hke
          go_wp2_with (first
            | (refine wpList_load_row rfl 70 _ rfl w.heap.size rfl _ _ _ _ HB.out Tryz.underlying70 rfl (by kernel_rfl) ?_)
            | (go_at_call 160; refine (cB _).mono ?_; rintro e w3 ⟨rfl, hb3⟩; have hl3 := Nat.lt_of_lt_of_le hlR hb3.size))
          have hR3 := (hb3.block (w.heap.size + 1) hlR).trans HR0.out
          have hB3 := (hb3.block w.heap.size (by omega)).trans HB.out
          have hbw3 := hbel.trans (hb3.mono hbel.size)
          go_roundw
          case rel => exact ⟨k, by omega, rfl, (xT _ _ (by omega)).trans hB3, (xT _ _ hl3).trans hR3, hbw3.alloc (by omega) _, HF.out⟩
          case measure => simp [intOf]; try omega
  | false =>
    rw [he] at ep
    obtain ⟨m, hm⟩ : ∃ m, (Ver.mk a b c p q).may = m := ⟨_, rfl⟩
    rw [hm] at cM
    cases m with
    | false =>
      have HG : Hid ((!p.isEmpty && (Ver.mk a b c p q).may) = false) := by show _ = _; rw [hm, Bool.and_false]
      clear he hm cN
      go_enter Tryz.func111, Tryz.ntmps111
      go_wp2_with fail
      refine (cM _).mono ?_
      rintro e w1 ⟨rfl, hb1⟩
      have hgB := (hb1.block w.heap.size (by simp only [zY]; omega)).trans ((xT _ _ (by simp only [zY]; omega)).trans (kN w _))
      have hgR := (hb1.block (w.heap.size + 1) (by simp only [zY]; omega)).trans (dK _ _ _ (by simp only [zY]))
      have hbw : Below w.heap.size w w1 := (((Below.refl _ _).alloc (Nat.le_refl _) _).alloc (by simp only [zY]; omega) _).trans (hb1.mono (by simp only [zY]; omega))
      have HGB := Lib.hid hgB
      have HGR := Lib.hid hgR
      clear hgB hgR
      go_wp2
      go_loopw [4] (fun x wr => ∃ k : Nat, k ≤ 3 ∧ x = .int .i64 ((k : Int) - 1) ∧ wr.heap[w.heap.size]? = some (.cells #[.int .i64 a, .int .i64 b, .int .i64 c, .string (mkS p), .string (mkS q)] 70) ∧ wr.heap[w.heap.size + 1]? = some (.cells #[.int .i64 0, .int .i64 0, .int .i64 0, .string ⟨#[]⟩, .string ⟨#[]⟩] 70) ∧ Below w.heap.size w wr ∧ Hid (vL ⟨a, b, c, p, q⟩ k = vL ⟨a, b, c, p, q⟩ 3)) (fun x _ => ((intOf x) + 1).toNat)
      case atStart => exact ⟨3, by omega, rfl, HGB.out, HGR.out, hbw, rfl⟩
      case round =>
        obtain ⟨k, hk, rfl, hB, hR, hbel, HR⟩ := hrel
        have hlR := (Array.getElem?_eq_some_iff.1 hR).1
        have HB := Lib.hid hB
        have HR0 := Lib.hid hR
        clear hB hR
        cases k with
        | zero =>
          have HF : Hid (vL ⟨a, b, c, p, q⟩ 3 = (Ver.zero, false)) := HR.out.symm
          go_wp2_with (refine wpList_store_row rfl 70 _ _ rfl (w.heap.size + 1) #[.int .i64 0, .int .i64 0, .int .i64 0, .string ⟨#[]⟩, .string ⟨#[]⟩] rfl rfl _ _ HR0.out (by kernel_rfl) rfl (gF _ _ _ _ _) ?_)
          have hf := mG ⟨a, b, c, p, q⟩ HG.out
          rw [HF.out] at hf
          exact bQ (u := Ver.zero) rfl rfl HR0.out hbel hf.2 hf.1
        | succ k =>
          have hk0 : (0 : Int) ≤ k := by omega
          have hke : (((k + 1 : Nat) : Int) - 1) = (k : Int) := by omega
          rw [hke]
          have cB := fun w' => bump_any ⟨a, b, c, p, q⟩ (k : Int) w' hp hq
          unfold yK at cB
          dsimp only at cB
          cases hb : y9 ⟨a, b, c, p, q⟩ (k : Int) with
          | true =>
            rw [hb] at cB
            obtain ⟨u, hu⟩ : ∃ u, yO ⟨a, b, c, p, q⟩ (k : Int) = u := ⟨_, rfl⟩
            rw [hu] at cB
            have hfq : vL ⟨a, b, c, p, q⟩ 3 = (u, true) := by rw [← HR.out, vL, hb, hu]; rfl
            have HF := Lib.hid hfq
            clear hfq hb hu hke
            go_wp2_with (first
              | (refine wpList_load_row rfl 70 _ rfl w.heap.size rfl _ _ _ _ HB.out Tryz.underlying70 rfl (by kernel_rfl) ?_)
              | (go_at_call 160; refine (cB _).mono ?_; rintro e w3 ⟨rfl, hb3⟩; have hR3 := Lib.hid ((hb3.block (w.heap.size + 1) hlR).trans HR0.out); have hbw3 := hbel.trans (hb3.mono hbel.size); have hl3 := Nat.lt_of_lt_of_le hlR hb3.size)
              | (refine wpList_store_row rfl 70 _ _ rfl (w.heap.size + 1) #[.int .i64 u.maj, .int .i64 u.min, .int .i64 u.pat, .string (mkS u.pre), .string (mkS u.build)] rfl rfl _ _ ((xT _ _ hl3).trans hR3.out) (by kernel_rfl) rfl (gF _ _ _ _ _) ?_))
            have hf := mG ⟨a, b, c, p, q⟩ HG.out
            rw [HF.out] at hf
            exact bQ (u := u) rfl rfl ((xT _ _ hl3).trans hR3.out) (hbw3.alloc (by omega) _) hf.2 hf.1
          | false =>
            rw [hb] at cB
            obtain ⟨u, hu⟩ : ∃ u, yO ⟨a, b, c, p, q⟩ (k : Int) = u := ⟨_, rfl⟩
            rw [hu] at cB
            have hfq : vL ⟨a, b, c, p, q⟩ k = vL ⟨a, b, c, p, q⟩ 3 := by rw [← HR.out, vL, hb]; rfl
            have HF := Lib.hid hfq
            clear hfq hb hu hke
            go_wp2_with (first
              | (refine wpList_load_row rfl 70 _ rfl w.heap.size rfl _ _ _ _ HB.out Tryz.underlying70 rfl (by kernel_rfl) ?_)
              | (go_at_call 160; refine (cB _).mono ?_; rintro e w3 ⟨rfl, hb3⟩; have hl3 := Nat.lt_of_lt_of_le hlR hb3.size))
            have hR3 := (hb3.block (w.heap.size + 1) hlR).trans HR0.out
            have hB3 := (hb3.block w.heap.size (by omega)).trans HB.out
            have hbw3 := hbel.trans (hb3.mono hbel.size)
            go_roundw
            case rel => exact ⟨k, by omega, rfl, (xT _ _ (by omega)).trans hB3, (xT _ _ hl3).trans hR3, hbw3.alloc (by omega) _, HF.out⟩
            case measure => simp [intOf]; try omega
    | true =>
      have HV : Hid (yP ⟨a, b, c, p, q⟩ = Ver.rel a b c) := by show _ = _; unfold yP; rw [if_pos hm, if_neg (by simp [he])]
      have HO : Hid (kR ⟨a, b, c, p, q⟩ = true) := by show _ = _; unfold kR; rw [hm]; simp [he]
      clear he hm
      go_enter Tryz.func111, Tryz.ntmps111
      go_wp2_with fail
      refine (cM _).mono ?_
      rintro e w1 ⟨rfl, hb1⟩
      have hz1 := hb1.size
      simp only [zY] at hz1
      have hgB := (hb1.block w.heap.size (by simp only [zY]; omega)).trans ((xT _ _ (by simp only [zY]; omega)).trans (kN w _))
      have hgR := (hb1.block (w.heap.size + 1) (by simp only [zY]; omega)).trans (dK _ _ _ (by simp only [zY]))
      have hbw : Below w.heap.size w w1 := (((Below.refl _ _).alloc (Nat.le_refl _) _).alloc (by simp only [zY]; omega) _).trans (hb1.mono (by simp only [zY]; omega))
      have HGB := Lib.hid hgB
      have HGR := Lib.hid hgR
      clear hgB hgR hb1 cM
      go_wp2_with (first
        | (refine wpList_load_row rfl 70 _ rfl w.heap.size rfl _ _ _ _ HGB.out Tryz.underlying70 rfl (by kernel_rfl) ?_)
        | (go_at_call 159; refine (cN _).mono ?_; rintro e w2 ⟨rfl, hb2⟩; have hR2 := Lib.hid ((hb2.block (w.heap.size + 1) (by omega)).trans HGR.out); have hbw2 := hbw.trans (hb2.mono hbw.size); have hl2 := hb2.size)
        | (go_at_call 126; refine (jC _ _ _ _).mono ?_; unfold yK Ver.rel; rintro e w3 ⟨rfl, hb3⟩; have hR3 := Lib.hid ((hb3.block (w.heap.size + 1) (by omega)).trans hR2.out); have hbw3 := hbw2.trans (hb3.mono hbw2.size))
        | (refine wpList_store_row rfl 70 _ _ rfl (w.heap.size + 1) #[.int .i64 a, .int .i64 b, .int .i64 c, .string (mkS []), .string (mkS [])] rfl rfl _ _ hR3.out (by kernel_rfl) rfl (gF _ _ _ _ _) ?_))
      exact bQ (u := Ver.rel a b c) rfl rfl hR3.out hbw3 HO.out HV.out
theorem vnext_any (v : Ver) (w : World) (hp : v.pre.length ≤ 1000000) (hq : v.build.length ≤ 1000000) :
    Calls Tryz.prog 111 #[yK v] w fun e w' => e = .returned (.tuple #[yK (yP v), .bool (kR v)]) ∧ Below w.heap.size w w' := next_go v w hp hq
end
section
theorem bump2 {v : Ver} (h : v.may = true) : y9 v 2 = true ↔ v.pat ≠ 9999 := by
  unfold y9; rw [h, show x5 v.maj v.min v.pat (2 : Int).toNat = v.pat from rfl]; simp
theorem bump1 {v : Ver} (h : v.may = true) : y9 v 1 = true ↔ v.min ≠ 9999 := by
  unfold y9; rw [h, show x5 v.maj v.min v.pat (1 : Int).toNat = v.min from rfl]; simp
theorem bump0 {v : Ver} (h : v.may = true) : y9 v 0 = true ↔ v.maj ≠ 9999 := by
  unfold y9; rw [h, show x5 v.maj v.min v.pat (0 : Int).toNat = v.maj from rfl]; simp
theorem rel_in {a b c : Int} (ha : 0 ≤ a ∧ a ≤ 9999) (hb : 0 ≤ b ∧ b ≤ 9999) (hc : 0 ≤ c ∧ c ≤ 9999) : (Ver.rel a b c).may = true := by
  rw [rel_may4, num_in ha, num_in hb, num_in hc]; rfl
theorem next_is {v : Ver} (h : v.may = true) : (kR v = false ∧ v.pre = [] ∧ v.code = 999999999999) ∨
    (kR v = true ∧ ∃ a b c, yP v = Ver.rel a b c ∧ (Ver.rel a b c).may = true ∧ ((v.pre = [] ∧ (Ver.rel a b c).code = v.code + 1) ∨ (v.pre ≠ [] ∧ (Ver.rel a b c).code = v.code))) := by
  obtain ⟨h1, h2, h3⟩ := j5 h
  unfold kR yP
  rw [h]
  by_cases hp : v.pre = []
  · have e : v.pre.isEmpty = true := by rw [hp]; rfl
    rw [e]
    by_cases k2 : v.pat = 9999
    · have b2 : y9 v 2 = false := Bool.eq_false_iff.2 (fun e => (bump2 h).1 e k2)
      rw [b2]
      by_cases k1 : v.min = 9999
      · have b1 : y9 v 1 = false := Bool.eq_false_iff.2 (fun e => (bump1 h).1 e k1)
        rw [b1]
        by_cases k0 : v.maj = 9999
        · have b0 : y9 v 0 = false := Bool.eq_false_iff.2 (fun e => (bump0 h).1 e k0)
          rw [b0]
          exact .inl ⟨rfl, hp, by unfold Ver.code; omega⟩
        · have b0 := (bump0 h).2 k0
          have bv : yO v 0 = Ver.rel (v.maj + 1) 0 0 := by unfold yO; rw [b0]; rfl
          rw [b0, bv]
          exact .inr ⟨rfl, v.maj + 1, 0, 0, rfl, rel_in (by omega) (by omega) (by omega), .inl ⟨hp, by unfold Ver.code Ver.rel; dsimp only; omega⟩⟩
      · have b1 := (bump1 h).2 k1
        have bv : yO v 1 = Ver.rel v.maj (v.min + 1) 0 := by unfold yO; rw [b1]; rfl
        rw [b1, bv]
        exact .inr ⟨rfl, v.maj, v.min + 1, 0, rfl, rel_in (by omega) (by omega) (by omega), .inl ⟨hp, by unfold Ver.code Ver.rel; dsimp only; omega⟩⟩
    · have b2 := (bump2 h).2 k2
      have bv : yO v 2 = Ver.rel v.maj v.min (v.pat + 1) := by unfold yO; rw [b2]; rfl
      rw [b2, bv]
      exact .inr ⟨rfl, v.maj, v.min, v.pat + 1, rfl, rel_in (by omega) (by omega) (by omega), .inl ⟨hp, by unfold Ver.code Ver.rel; dsimp only; omega⟩⟩
  · have e : v.pre.isEmpty = false := List.isEmpty_eq_false_iff.2 hp
    rw [e]
    exact .inr ⟨rfl, v.maj, v.min, v.pat, rfl, rel_in h1 h2 h3, .inr ⟨hp, rfl⟩⟩
theorem code_max {v : Ver} (h : v.may = true) : 0 ≤ v.code ∧ v.code ≤ 999999999999 := by
  obtain ⟨h1, h2, h3⟩ := j5 h
  unfold Ver.code; omega
end
section
def wB (v : Ver) : Bool := decide (v.maj = 0) && decide (v.min = 0) && decide (v.pat = 0)
theorem least_code {v : Ver} (h : v.may = true) : wB v = decide (v.code = 0) := by
  obtain ⟨h1, h2, h3⟩ := j5 h
  unfold wB Ver.code
  rw [← Bool.decide_and, ← Bool.decide_and]
  exact decide_eq_decide.2 ⟨fun ⟨⟨a, b⟩, c⟩ => by omega, fun e => ⟨⟨by omega, by omega⟩, by omega⟩⟩
def kA (c : Cu) : Bool := decide (¬ c.e = 0) || (!c.aft && decide (c.v.pre = []) && !wB c.v)
def AllRight (l : List Sp) : Prop := ∀ s ∈ l, kA s.lo = true ∧ kA s.hi = true
def valC (c : Cu) : Int := if c.e = -1 then 0 else if c.e = 1 then 1000000000000 else c.v.code
def muI (v : Ver) : Int := if v.pre = [] then v.code else v.code - 1
def mu (x : Cu) : Int := if x.e = 0 then (if muI x.v < 0 then 0 else muI x.v) else 0
def denN (l : List Sp) (n : Int) : Bool := l.any fun s => decide (valC s.lo ≤ n) && decide (n < valC s.hi)
theorem nT (p : Cu → Cu → Bool) (Q : Cu → Prop) : ∀ (cs : List Cu) (out : List Sp), (∀ c ∈ cs, Q c) → (∀ s ∈ out, Q s.lo ∧ Q s.hi) → ∀ s ∈ q7 p out cs, Q s.lo ∧ Q s.hi
  | [], out, _, ho => by unfold q7; exact ho
  | [c], out, _, ho => by unfold q7; exact ho
  | c :: d :: r, out, hc, ho => by
    unfold q7
    refine nT p Q (d :: r) _ (fun x hx => hc x (List.mem_cons_of_mem _ hx)) ?_
    split
    · intro s hs
      unfold pS at hs
      split at hs
      · rename_i t ht
        split at hs
        · rcases List.mem_append.1 hs with h | h
          · exact ho s (List.dropLast_subset _ h)
          · obtain rfl : s = _ := by simpa using h
            exact ⟨(ho t (List.mem_of_getLast? ht)).1, hc d (by simp)⟩
        · rcases List.mem_append.1 hs with h | h
          · exact ho s h
          · obtain rfl : s = _ := by simpa using h
            exact ⟨hc c (by simp), hc d (by simp)⟩
      · obtain rfl : s = _ := by simpa using hs
        exact ⟨hc c (by simp), hc d (by simp)⟩
    · exact ho
theorem cutsL_all (Q : Cu → Prop) (h1 : Q (zZ (-1))) (h2 : Q (zZ 1)) (l : List Sp) (hl : ∀ s ∈ l, Q s.lo ∧ Q s.hi) : ∀ c ∈ qJ l, Q c := by
  have go : ∀ (l : List Sp) (out : List Cu), (∀ c ∈ out, Q c) → (∀ s ∈ l, Q s.lo ∧ Q s.hi) → ∀ c ∈ l.foldl (fun out s => gN s.hi (gN s.lo out)) out, Q c := by
    intro l
    induction l with
    | nil => intro out ho _; exact ho
    | cons s r ih =>
      intro out ho hl
      refine ih _ (fun c hc => ?_) (fun t ht => hl t (List.mem_cons_of_mem _ ht))
      rcases putL_mem _ _ _ hc with rfl | hc
      · exact (hl s (List.mem_cons_self ..)).2
      · rcases putL_mem _ _ _ hc with rfl | hc
        · exact (hl s (List.mem_cons_self ..)).1
        · exact ho c hc
  exact go l _ (fun c hc => by
    rcases List.mem_cons.1 hc with rfl | hc
    · exact h1
    · obtain rfl : c = _ := by simpa using hc
      exact h2) hl
theorem jW (k : Int) (h : ¬ k = 0) : kA (zZ k) = true := by unfold kA zZ; rw [decide_eq_true h]; rfl
theorem AllRight.make {l : List Sp} (h : AllRight l) : AllRight (wR l) := nT _ (kA · = true) _ [] (cutsL_all _ (jW _ (by decide)) (jW _ (by decide)) l h) (fun s hs => by simp at hs)
theorem AllRight.app {a b : List Sp} (ha : AllRight a) (hb : AllRight b) : AllRight (a ++ b) := fun s hs => (List.mem_append.1 hs).elim (ha s) (hb s)
theorem AllRight.or {a b : List Sp} (ha : AllRight a) (hb : AllRight b) : AllRight (orL a b) := (ha.app hb).make
end
section
def mN (v : Ver) : Ver := Ver.rel v.maj v.min v.pat
def relA (v : Ver) : Cu := if wB v then zZ (-1) else ⟨0, mN v, false⟩
def relB (v : Ver) : Cu := if kR (mN v) then ⟨0, yP (mN v), false⟩ else zZ 1
def kZ (c : Cu) : Cu := if ¬ c.e = 0 then c else if c.aft = true ∧ c.v.pre = [] then relB c.v else relA c.v
def bB (s : Sp) : Sp := ⟨kZ s.lo, kZ s.hi⟩
def gK (l : List Sp) : List Sp := wR ((l.map bB).filter (·.may))
theorem relV_may {v : Ver} (h : v.may = true) : (mN v).may = true := by
  obtain ⟨h1, h2, h3⟩ := j5 h
  exact rel_in h1 h2 h3
theorem relV_code (v : Ver) : (mN v).code = v.code := rfl
theorem relA_ok {v : Ver} (h : v.may = true) : (relA v).may = true ∧ kA (relA v) = true ∧ valC (relA v) = v.code := by
  unfold relA
  have hl := least_code h
  split
  · rename_i h1
    rw [hl, decide_eq_true_eq] at h1
    exact ⟨mF, jW _ (by decide), by rw [h1]; rfl⟩
  · rename_i h1
    have h2 : wB (mN v) = false := by
      have : wB (mN v) = wB v := rfl
      rw [this]; simpa using h1
    exact ⟨by unfold Cu.may; dsimp only; rw [if_pos rfl, relV_may h]; rfl, by unfold kA; dsimp only; rw [h2]; rfl, rfl⟩
theorem relB_ok {v : Ver} (h : v.may = true) : (relB v).may = true ∧ kA (relB v) = true ∧ valC (relB v) = v.code + 1 := by
  unfold relB
  rcases next_is (relV_may h) with ⟨h1, h2, h3⟩ | ⟨h1, a, b, c, h2, h3, h4⟩
  · rw [h1, if_neg (by decide)]
    rw [relV_code] at h3
    exact ⟨bS, jW _ (by decide), by rw [h3]; rfl⟩
  · rw [h1, if_pos rfl, h2]
    have hc : (Ver.rel a b c).code = v.code + 1 := by
      rcases h4 with ⟨_, h5⟩ | ⟨h5, _⟩
      · rw [h5, relV_code]
      · exact absurd rfl h5
    have h0 := (code_max h).1
    have hl : wB (Ver.rel a b c) = false := by rw [least_code h3, decide_eq_false_iff_not]; omega
    refine ⟨by unfold Cu.may; dsimp only; rw [if_pos rfl, h3]; rfl, by unfold kA; dsimp only; rw [hl]; rfl, ?_⟩
    unfold valC; dsimp only
    rw [if_neg (by decide), if_neg (by decide), hc]
theorem turn_ok {c : Cu} (h : c.may = true) : (kZ c).may = true ∧ kA (kZ c) = true := by
  unfold kZ
  split
  · rename_i h0
    exact ⟨h, by unfold kA; rw [decide_eq_true h0]; rfl⟩
  · split
    · have := relB_ok (wA h); exact ⟨this.1, this.2.1⟩
    · have := relA_ok (wA h); exact ⟨this.1, this.2.1⟩
theorem makeRel_mays (l : List Sp) : ∀ s ∈ (l.map bB).filter (·.may), s.may = true := fun s hs => (List.mem_filter.1 hs).2
theorem makeRel_right {l : List Sp} (h : ∀ s ∈ l, s.may = true) : AllRight (gK l) := by
  refine AllRight.make (fun s hs => ?_)
  obtain ⟨t, ht, rfl⟩ := List.mem_map.1 (List.mem_filter.1 hs).1
  have := zU (h t ht)
  exact ⟨(turn_ok this.1).2, (turn_ok this.2).2⟩
def oneRel (v : Ver) : List Sp := [⟨relA v, relB v⟩]
def onePre (v : Ver) : List Sp := [⟨⟨0, xY v, false⟩, ⟨0, xY v, true⟩⟩]
end
section
structure St where
  rel : List Sp
  pre : List Sp
def St.may (s : St) : Bool := zJ s.rel && zJ s.pre && s.rel.all fun x => kA x.lo && kA x.hi
structure SF (s : St) (n : Nat) : Prop where
  rel : RF s.rel n
  pre : RF s.pre n
  right : AllRight s.rel
theorem right_all {l : List Sp} : (l.all fun x => kA x.lo && kA x.hi) = true ↔ AllRight l := by
  rw [List.all_eq_true]
  exact ⟨fun h s hs => by simpa using h s hs, fun h s hs => by simpa using h s hs⟩
theorem SF.may {s : St} {n : Nat} (h : SF s n) : s.may = true := by
  unfold St.may
  rw [h.rel.may, h.pre.may, right_all.2 h.right]; rfl
theorem St.facts {s : St} (h : s.may = true) : zJ s.rel = true ∧ zJ s.pre = true ∧ AllRight s.rel := by
  unfold St.may at h
  rw [Bool.and_eq_true, Bool.and_eq_true, right_all] at h
  exact ⟨h.1.1, h.1.2, h.2⟩
theorem SF.of {s : St} {n : Nat} (h : s.may = true) (h1 : s.rel.length ≤ n) (h2 : s.pre.length ≤ n) : SF s n :=
  ⟨⟨(St.facts h).1, h1⟩, ⟨(St.facts h).2.1, h2⟩, (St.facts h).2.2⟩
def setHas (s : St) (v : Ver) : Bool := s.may && v.may && (if v.pre = [] then rowHas s.rel v else rowHas s.pre v)
def yY : St := ⟨[], []⟩
def gO : List Sp := [⟨zZ (-1), zZ 1⟩]
def allT : St := ⟨gO, gO⟩
def orT (a b : St) : St := ⟨orL a.rel b.rel, orL a.pre b.pre⟩
def andT (a b : St) : St := ⟨f5 a.rel b.rel, f5 a.pre b.pre⟩
def notT (a : St) : St := ⟨vD a.rel, vD a.pre⟩
def minusT (a b : St) : St := andT a (notT b)
def exactT (v : Ver) : St := if v.may then (if v.pre = [] then ⟨oneRel v, []⟩ else ⟨[], onePre v⟩) else yY
theorem St.eq {a b : St} (h1 : a.rel = b.rel) (h2 : a.pre = b.pre) : a = b := by cases a; cases b; simp only at h1 h2; rw [h1, h2]
theorem nil_rf : RF [] 0 := ⟨rfl, Nat.le_refl _⟩
theorem RF.le {l : List Sp} {n m : Nat} (h : RF l n) (hm : n ≤ m) : RF l m := ⟨h.may, Nat.le_trans h.len hm⟩
theorem SF.le {s : St} {n m : Nat} (h : SF s n) (hm : n ≤ m) : SF s m := ⟨h.rel.le hm, h.pre.le hm, h.right⟩
theorem nil_right : AllRight [] := fun s hs => by simp at hs
theorem none_sf : SF yY 0 := ⟨nil_rf, nil_rf, nil_right⟩
theorem whole_rf : RF gO 1 := ⟨by decide, Nat.le_refl _⟩
theorem whole_right : AllRight gO := fun s hs => by
  obtain rfl : s = _ := by simpa [gO] using hs
  exact ⟨jW _ (by decide), jW _ (by decide)⟩
theorem all_sf : SF allT 1 := ⟨whole_rf, whole_rf, whole_right⟩
section
variable {a b : St} {n m : Nat} {v : Ver} (ha : SF a n) (hb : SF b m) (hv : v.may = true)
include ha hb hv
end
theorem whole_den {x : Cu} (hx : x.may = true) (he : zN x (zZ 1) < 0) : den gO x = true := by
  show (g6 ⟨zZ (-1), zZ 1⟩ x || false) = true
  rw [Bool.or_false]
  unfold g6
  rw [decide_eq_true (fL hx), decide_eq_true he]; rfl
def edgeN (l : List Sp) : List Int := l.flatMap fun s => [s.lo, s.hi].filterMap fun c => if c.e = 0 then some c.v.code else none
theorem not_whole : vD gO = [] := hY _ _ (wV whole_rf.may).1 rfl fun x hx he => by
  rw [(wV whole_rf.may).2 x hx he, whole_den hx he]; rfl
theorem not_nil : vD [] = gO := by rw [← not_whole, not_not4 whole_rf.may]
end
section
structure Co where
  op : Int
  parts : Int
  v : Ver
deriving DecidableEq
def yB (op : Int) : List UInt8 := if op = 1 then [61] else if op = 2 then [33, 61] else if op = 3 then [60] else if op = 4 then [60, 61] else if op = 5 then [62] else if op = 6 then [62, 61] else if op = 7 then [94] else if op = 8 then [126] else []
def Co.may (c : Co) : Bool := decide (1 ≤ c.op ∧ c.op ≤ 9) && c.v.may && decide (c.v.build = []) && (if c.op = 9 then decide (0 ≤ c.parts ∧ c.parts ≤ 2) else decide (1 ≤ c.parts ∧ c.parts ≤ 3)) && decide (3 ≤ c.parts ∨ c.v.pre = []) && decide (0 < c.parts ∨ c.v.maj = 0) && decide (1 < c.parts ∨ c.v.min = 0) && decide (2 < c.parts ∨ c.v.pat = 0)
theorem Co.facts {c : Co} (h : c.may = true) : (1 ≤ c.op ∧ c.op ≤ 9) ∧ c.v.may = true ∧ c.v.build = [] ∧ (c.op = 9 → 0 ≤ c.parts ∧ c.parts ≤ 2) ∧ (¬ c.op = 9 → 1 ≤ c.parts ∧ c.parts ≤ 3) ∧ (3 ≤ c.parts ∨ c.v.pre = []) ∧ (0 < c.parts ∨ c.v.maj = 0) ∧ (1 < c.parts ∨ c.v.min = 0) ∧ (2 < c.parts ∨ c.v.pat = 0) := by
  unfold Co.may at h
  simp only [Bool.and_eq_true, decide_eq_true_eq] at h
  obtain ⟨⟨⟨⟨⟨⟨⟨h1, h2⟩, h3⟩, h4⟩, h5⟩, h6⟩, h7⟩, h8⟩ := h
  refine ⟨h1, h2, h3, fun e => ?_, fun e => ?_, h5, h6, h7, h8⟩
  · rw [if_pos e] at h4; exact of_decide_eq_true h4
  · rw [if_neg e] at h4; exact of_decide_eq_true h4
theorem Co.may_iff {c : Co} : c.may = true ↔ (1 ≤ c.op ∧ c.op ≤ 9) ∧ c.v.may = true ∧ c.v.build = [] ∧ (c.op = 9 → 0 ≤ c.parts ∧ c.parts ≤ 2) ∧ (¬ c.op = 9 → 1 ≤ c.parts ∧ c.parts ≤ 3) ∧ (3 ≤ c.parts ∨ c.v.pre = []) ∧ (0 < c.parts ∨ c.v.maj = 0) ∧ (1 < c.parts ∨ c.v.min = 0) ∧ (2 < c.parts ∨ c.v.pat = 0) := by
  refine ⟨Co.facts, fun ⟨h1, h2, h3, k9, kn, h5, h6, h7, h8⟩ => ?_⟩
  unfold Co.may
  rw [decide_eq_true h1, h2, decide_eq_true h3, decide_eq_true h5, decide_eq_true h6, decide_eq_true h7, decide_eq_true h8]
  by_cases e : c.op = 9
  · rw [if_pos e, decide_eq_true (k9 e)]; rfl
  · rw [if_neg e, decide_eq_true (kn e)]; rfl
def yI (v : Ver) (n : Nat) : List (List UInt8) := [Lib.itoa v.maj, Lib.itoa v.min, Lib.itoa v.pat].take n
def Co.rest (c : Co) : List UInt8 := if c.op = 9 then y5 46 (yI c.v c.parts.toNat ++ [[42]]) else y5 46 (yI c.v c.parts.toNat) ++ kI 45 c.v.pre
def Co.text (c : Co) : List UInt8 := yB c.op ++ c.rest
def Co.print (c : Co) : List UInt8 := if c.may then c.text else []
def yV (s t : List UInt8) : Bool := decide (s.take t.length = t)
def fC (s : List UInt8) : Int × List UInt8 :=
  if yV s [33, 61] then (2, s.drop 2) else if yV s [60, 61] then (4, s.drop 2) else if yV s [62, 61] then (6, s.drop 2) else if yV s [61] then (1, s.drop 1)
  else if yV s [60] then (3, s.drop 1) else if yV s [62] then (5, s.drop 1) else if yV s [94] then (7, s.drop 1) else if yV s [126] then (8, s.drop 1)
  else if s.getLast? = some 42 then (9, s) else (7, s)
def fK (op : Int) (rest : List UInt8) : List (List UInt8) := if op = 9 then (pcs (zS 45 rest).1).dropLast else pcs (zS 45 rest).1
def guessC (op : Int) (rest : List UInt8) : Option Co :=
  if (fK op rest).length ≤ 3 ∧ (fK op rest).all gA = true then
    some ⟨op, (fK op rest).length, ⟨zI (tg (fK op rest) 0), zI (tg (fK op rest) 1), zI (tg (fK op rest) 2), (zS 45 rest).2.1, []⟩⟩
  else none
def fits (s : List UInt8) (c : Co) : Bool := !decide (c.print = []) && (decide (c.print = s) || decide (c.print = 94 :: s))
def gQ (s : List UInt8) : Option Co := (guessC (fC s).1 (fC s).2).filter (fits s)
theorem print_may {c : Co} (h : ¬ c.print = []) : c.may = true := by
  cases hm : c.may with
  | true => rfl
  | false => exact absurd (show c.print = [] by unfold Co.print; rw [hm]; rfl) h
theorem qX {c : Co} (h : c.may = true) : c.print = c.text := by unfold Co.print; rw [h]; rfl
theorem parseC_back {s : List UInt8} {c : Co} (h : gQ s = some c) : c.may = true ∧ (c.text = s ∨ c.text = 94 :: s) := by
  unfold gQ at h
  obtain ⟨_, h⟩ := Option.filter_eq_some_iff.1 h
  unfold fits at h
  simp only [Bool.and_eq_true, Bool.not_eq_true', decide_eq_false_iff_not, Bool.or_eq_true, decide_eq_true_eq] at h
  have hm := print_may h.1
  rw [qX hm] at h
  exact ⟨hm, h.2⟩
theorem pcs_cons {x y : List UInt8} (h : (46 : UInt8) ∉ x) : pcs (x ++ 46 :: y) = x :: pcs y := by
  unfold pcs
  rw [kU, vC 46 _ _ h]
  simp
theorem pcs_one {x : List UInt8} (h : (46 : UInt8) ∉ x) : pcs x = [x] := by
  unfold pcs
  rw [kU, v7 46 _ h]
  simp
theorem pcs_join : ∀ (l : List (List UInt8)), l ≠ [] → (∀ x ∈ l, (46 : UInt8) ∉ x) → pcs (y5 46 l) = l
  | [], h, _ => absurd rfl h
  | [x], _, h => pcs_one (h x (List.mem_singleton.2 rfl))
  | x :: y :: r, _, h => by
    rw [y5, pcs_cons (h x (List.mem_cons_self ..)), pcs_join (y :: r) (by simp) fun z hz => h z (List.mem_cons_of_mem _ hz)]
theorem nums_mem {v : Ver} (hv : v.may = true) {n : Nat} {x : List UInt8} (h : x ∈ yI v n) : ∃ k : Int, yF k = true ∧ x = Lib.itoa k := by
  obtain ⟨h1, h2, h3⟩ := gJ hv
  unfold yI at h
  have h := List.mem_of_mem_take h
  simp only [List.mem_cons, List.not_mem_nil, or_false] at h
  rcases h with rfl | rfl | rfl
  · exact ⟨_, h1, rfl⟩
  · exact ⟨_, h2, rfl⟩
  · exact ⟨_, h3, rfl⟩
theorem vA {v : Ver} (hv : v.may = true) {n : Nat} (b : UInt8) (hb : kY b.toNat = false) : ∀ x ∈ yI v n, b ∉ x := fun x hx => by
  obtain ⟨k, hk, rfl⟩ := nums_mem hv hx
  exact vN hk b hb
theorem jT (b : UInt8) (hb : b ≠ 46) : ∀ (l : List (List UInt8)), (∀ x ∈ l, b ∉ x) → b ∉ y5 46 l
  | [], _ => by simp [y5]
  | [x], h => h x (List.mem_singleton.2 rfl)
  | x :: y :: r, h => by
    rw [y5]
    simp only [List.mem_append, List.mem_cons, not_or]
    exact ⟨h x (List.mem_cons_self ..), hb, jT b hb (y :: r) fun z hz => h z (List.mem_cons_of_mem _ hz)⟩
theorem vV (v : Ver) {n : Nat} (h : n ≤ 3) : (yI v n).length = n := by
  unfold yI
  rw [List.length_take]
  simp; omega
theorem nums_num {v : Ver} (hv : v.may = true) (n : Nat) : (yI v n).all gA = true := List.all_eq_true.2 fun x hx => by
  obtain ⟨k, hk, rfl⟩ := nums_mem hv hx
  exact mB hk
theorem nums_back {v : Ver} (hv : v.may = true) {n : Nat} (h : n ≤ 3) (h0 : 0 < n ∨ v.maj = 0) (h1 : 1 < n ∨ v.min = 0) (h2 : 2 < n ∨ v.pat = 0) : zI (tg (yI v n) 0) = v.maj ∧ zI (tg (yI v n) 1) = v.min ∧ zI (tg (yI v n) 2) = v.pat := by
  obtain ⟨m1, m2, m3⟩ := gJ hv
  have e1 := gS m1
  have e2 := gS m2
  have e3 := gS m3
  match n, h with
  | 0, _ => exact ⟨(h0.resolve_left (by decide)).symm, (h1.resolve_left (by decide)).symm, (h2.resolve_left (by decide)).symm⟩
  | 1, _ => exact ⟨e1, (h1.resolve_left (by decide)).symm, (h2.resolve_left (by decide)).symm⟩
  | 2, _ => exact ⟨e1, e2, (h2.resolve_left (by decide)).symm⟩
  | 3, _ => exact ⟨e1, e2, e3⟩
theorem guess_rest {c : Co} (h : c.may = true) : guessC c.op c.rest = some c := by
  obtain ⟨_, hv, hb, h9, hn, hp, k0, k1, k2⟩ := Co.facts h
  obtain ⟨op, parts, v⟩ := c
  simp only at hv hb h9 hn hp k0 k1 k2 ⊢
  have hparts : (parts.toNat : Int) = parts ∧ parts.toNat ≤ 3 := by
    by_cases e : op = 9
    · have := h9 e; omega
    · have := hn e; omega
  have key : fK op (Co.rest ⟨op, parts, v⟩) = yI v parts.toNat ∧ (zS 45 (Co.rest ⟨op, parts, v⟩)).2.1 = v.pre := by
    unfold fK Co.rest
    by_cases e : op = 9
    · rw [if_pos e]
      dsimp only
      rw [if_pos e]
      have f : ∀ b : UInt8, kY b.toNat = false → b ≠ 42 → ∀ x ∈ yI v parts.toNat ++ [[42]], b ∉ x := fun b hb hb2 x hx => by
        rcases List.mem_append.1 hx with hx | hx
        · exact vA hv b hb x hx
        · rw [List.mem_singleton.1 hx]
          intro hm
          exact hb2 (List.mem_singleton.1 hm)
      rw [v7 45 _ (jT 45 (by decide) _ (f 45 (by decide) (by decide)))]
      have hpre : v.pre = [] := hp.resolve_left (by have := h9 e; omega)
      exact ⟨by
        show (pcs (y5 46 (yI v parts.toNat ++ [[42]]))).dropLast = _
        rw [pcs_join _ (by simp) (f 46 (by decide) (by decide)), List.dropLast_concat], hpre.symm⟩
    · rw [if_neg e]
      dsimp only
      rw [if_neg e]
      have hne : yI v parts.toNat ≠ [] := fun h0 => by
        have := vV v hparts.2
        rw [h0] at this
        have := hn e
        simp at *; omega
      rw [pV 45 _ _ (jT 45 (by decide) _ (vA hv 45 (by decide)))]
      exact ⟨pcs_join _ hne (vA hv 46 (by decide)), rfl⟩
  unfold guessC
  rw [key.1, key.2, if_pos ⟨by rw [vV v hparts.2]; exact hparts.2, nums_num hv _⟩]
  obtain ⟨e1, e2, e3⟩ := nums_back hv hparts.2 (by omega) (by omega) (by omega)
  rw [e1, e2, e3, vV v hparts.2, hparts.1]
  obtain ⟨a, b, p, q, r⟩ := v
  simp only at hb
  rw [hb]
theorem itoa_head {k : Int} (h : yF k = true) : ∃ d r, Lib.itoa k = d :: r ∧ kY d.toNat = true := by
  have hm := num_itoa h
  cases e : Lib.itoa k with
  | nil => rw [e] at hm; cases hm
  | cons d r => exact ⟨d, r, rfl, by
      have := dig_mem k.toNat d (by rw [← fJ h, e]; exact List.mem_cons_self)
      exact this⟩
theorem join_head {x : List UInt8} {l : List (List UInt8)} {d : UInt8} {r : List UInt8} (h : x = d :: r) : ∃ r', y5 46 (x :: l) = d :: r' := by
  subst h
  cases l with
  | nil => exact ⟨r, rfl⟩
  | cons y t => exact ⟨_, rfl⟩
theorem bK {c : Co} (h : c.may = true) (hn : ¬ c.op = 9) : ∃ d r, c.rest = d :: r ∧ kY d.toNat = true := by
  obtain ⟨_, hv, _, _, h9, _⟩ := Co.facts h
  obtain ⟨d, r, e, hd⟩ := itoa_head (gJ hv).1
  obtain ⟨n, en⟩ : ∃ n, c.parts.toNat = n + 1 := ⟨c.parts.toNat - 1, by have := h9 hn; omega⟩
  obtain ⟨r', e'⟩ := join_head (l := [Lib.itoa c.v.min, Lib.itoa c.v.pat].take n) e
  refine ⟨d, r' ++ kI 45 c.v.pre, ?_, hd⟩
  unfold Co.rest yI
  rw [if_neg hn, en, List.take_succ_cons, e']; rfl
theorem fX {c : Co} (h : c.may = true) (hn : c.op = 9) : ∃ d r, c.rest = d :: r ∧ (kY d.toNat = true ∨ d = 42) := by
  obtain ⟨_, hv, _, h9, _⟩ := Co.facts h
  obtain ⟨d, r, e, hd⟩ := itoa_head (gJ hv).1
  unfold Co.rest yI
  rw [if_pos hn]
  cases hp : c.parts.toNat with
  | zero => exact ⟨42, [], rfl, .inr rfl⟩
  | succ n =>
    obtain ⟨r', e'⟩ := join_head (l := [Lib.itoa c.v.min, Lib.itoa c.v.pat].take n ++ [[42]]) e
    exact ⟨d, r', by rw [List.take_succ_cons, List.cons_append, e'], .inl hd⟩
theorem q5 {d : UInt8} {r : List UInt8} {a : UInt8} {t : List UInt8} (h : d ≠ a) : yV (d :: r) (a :: t) = false := decide_eq_false fun e => by
  rw [List.length_cons, List.take_succ_cons] at e
  injection e with e1 _
  exact h e1
theorem split_plain {d : UInt8} {r : List UInt8} (h : kY d.toNat = true ∨ d = 42) : fC (d :: r) = if (d :: r).getLast? = some 42 then (9, d :: r) else (7, d :: r) := by
  have hd : ∀ a : UInt8, kY a.toNat = false → a ≠ 42 → d ≠ a := fun a ha h42 e => by
    subst e
    rcases h with h | h
    · rw [ha] at h; cases h
    · exact h42 h
  unfold fC
  rw [q5 (hd 33 (by decide) (by decide)), q5 (hd 60 (by decide) (by decide)), q5 (hd 62 (by decide) (by decide)), q5 (hd 61 (by decide) (by decide)), q5 (hd 60 (by decide) (by decide)), q5 (hd 62 (by decide) (by decide)), q5 (hd 94 (by decide) (by decide)), q5 (hd 126 (by decide) (by decide))]
  rfl
theorem split_sign {op : Int} (h1 : 1 ≤ op) (h8 : op ≤ 8) {d : UInt8} {r : List UInt8} (hd : kY d.toNat = true) : fC (yB op ++ d :: r) = (op, d :: r) := by
  have h61 : d ≠ 61 := fun e => by subst e; revert hd; decide
  have hop : op = 1 ∨ op = 2 ∨ op = 3 ∨ op = 4 ∨ op = 5 ∨ op = 6 ∨ op = 7 ∨ op = 8 := by omega
  rcases hop with rfl | rfl | rfl | rfl | rfl | rfl | rfl | rfl <;> simp [yB, fC, yV, h61]
theorem tQ (x : List UInt8) : ∀ (l : List (List UInt8)), (y5 46 (l ++ [x ++ [42]])).getLast? = some 42
  | [] => by simp [y5]
  | [y] => by
    show (y ++ 46 :: (x ++ [42])).getLast? = some 42
    rw [show y ++ 46 :: (x ++ [42]) = (y ++ 46 :: x) ++ [42] from by simp, List.getLast?_concat]
  | y :: z :: r => by
    have := tQ x (z :: r)
    show (y ++ 46 :: y5 46 (z :: r ++ [x ++ [42]])).getLast? = some 42
    rw [List.getLast?_append]
    cases hj : y5 46 (z :: r ++ [x ++ [42]]) with
    | nil => rw [hj] at this; cases this
    | cons a b => rw [hj] at this; rw [List.getLast?_cons_cons, this]; rfl
theorem star_free (s : List UInt8) (h : gT s = true) : (42 : UInt8) ∉ s := by
  intro hm
  unfold gT at h
  rcases n7 46 s [] 42 hm with e | ⟨x, hx, hc⟩
  · revert e; decide
  · have hne : s.isEmpty = false := by cases s with
      | nil => cases hm
      | cons _ _ => rfl
    rw [hne, Bool.false_or, Bool.and_eq_true] at h
    have := List.all_eq_true.1 h.2 x hx
    unfold q9 at this
    rw [Bool.and_eq_true] at this
    have := List.all_eq_true.1 this.2 _ hc
    revert this; decide
theorem rest_star {c : Co} (h : c.may = true) (hn : ¬ c.op = 9) : (42 : UInt8) ∉ c.rest := by
  obtain ⟨_, hv, _⟩ := Co.facts h
  have hl : gT c.v.pre = true := by
    have := dI hv
    unfold vG at this
    exact (Bool.and_eq_true_iff.1 this).1
  unfold Co.rest
  rw [if_neg hn]
  intro hm
  rcases List.mem_append.1 hm with hm | hm
  · exact jT 42 (by decide) _ (vA hv 42 (by decide)) hm
  · unfold kI at hm
    split at hm
    · cases hm
    · rcases List.mem_cons.1 hm with e | hm
      · revert e; decide
      · exact star_free _ hl hm
theorem split_text {c : Co} (h : c.may = true) : fC c.text = (c.op, c.rest) := by
  obtain ⟨ho, _⟩ := Co.facts h
  unfold Co.text
  by_cases hn : c.op = 9
  · obtain ⟨d, r, e, hd⟩ := fX h hn
    have hl : c.rest.getLast? = some 42 := by unfold Co.rest; rw [if_pos hn]; exact tQ [] _
    rw [hn, show yB 9 = [] from rfl, List.nil_append]
    rw [e] at hl ⊢
    rw [split_plain hd, if_pos hl]
  · obtain ⟨d, r, e, hd⟩ := bK h hn
    rw [e]
    exact split_sign ho.1 (by omega) hd
theorem parseC_text {c : Co} (h : c.may = true) : gQ c.text = some c := by
  unfold gQ
  rw [split_text h, guess_rest h]
  refine Option.filter_eq_some_iff.2 ⟨rfl, ?_⟩
  have hne : ¬ c.text = [] := fun e => by
    unfold Co.text at e
    have e2 := (List.append_eq_nil_iff.1 e).2
    by_cases hn : c.op = 9
    · obtain ⟨d, r, e3, _⟩ := fX h hn; rw [e3] at e2; cases e2
    · obtain ⟨d, r, e3, _⟩ := bK h hn; rw [e3] at e2; cases e2
  unfold fits
  rw [qX h, decide_eq_false hne, decide_eq_true rfl]; rfl
theorem parseC_caret {c : Co} {s : List UInt8} (h : c.may = true) (hs : c.text = 94 :: s) : gQ s = some c := by
  obtain ⟨ho, _⟩ := Co.facts h
  have hop : c.op = 7 ∧ c.rest = s := by
    unfold Co.text at hs
    by_cases hn : c.op = 9
    · obtain ⟨d, r, e, hd⟩ := fX h hn
      rw [hn, show yB 9 = [] from rfl, List.nil_append, e] at hs
      injection hs with e1 _
      rw [e1] at hd
      exact absurd hd (by decide)
    · have hop : c.op = 1 ∨ c.op = 2 ∨ c.op = 3 ∨ c.op = 4 ∨ c.op = 5 ∨ c.op = 6 ∨ c.op = 7 ∨ c.op = 8 := by omega
      rcases hop with e | e | e | e | e | e | e | e <;> rw [e] at hs <;> simp [yB] at hs
      exact ⟨e, hs⟩
  obtain ⟨d, r, e, hd⟩ := bK h (by omega)
  have h42 : ¬ s.getLast? = some 42 := fun hl => by
    have := List.mem_of_getLast? hl
    rw [← hop.2] at this
    exact rest_star h (by omega) this
  unfold gQ
  have hsp : fC s = (7, s) := by
    rw [← hop.2, e, split_plain (.inl hd), if_neg (by rw [← e, hop.2]; exact h42)]
  rw [hsp]
  have hg := guess_rest h
  rw [hop.1, hop.2] at hg
  rw [hg]
  refine Option.filter_eq_some_iff.2 ⟨rfl, ?_⟩
  unfold fits
  rw [qX h, hs, decide_eq_false (by simp), decide_eq_true rfl, Bool.or_true]; rfl
theorem dF (s : List UInt8) (c : Co) : gQ s = some c ↔ c.may = true ∧ (c.text = s ∨ c.text = 94 :: s) :=
  ⟨parseC_back, fun ⟨hm, h⟩ => h.elim (fun e => e ▸ parseC_text hm) (fun e => parseC_caret hm e)⟩
end
section
def g8 (sep : List UInt8) : List (List UInt8) → List UInt8
  | [] => []
  | [x] => x
  | x :: y :: l => x ++ sep ++ g8 sep (y :: l)
theorem jV (sep x y : List UInt8) (l : List (List UInt8)) : g8 sep (x :: y :: l) = x ++ sep ++ g8 sep (y :: l) := rfl
theorem joinB_snoc (sep x : List UInt8) : ∀ (l : List (List UInt8)), g8 sep (l ++ [x]) = if l = [] then x else g8 sep l ++ sep ++ x
  | [] => rfl
  | [y] => rfl
  | y :: z :: l => by
    rw [if_neg (by simp)]
    show y ++ sep ++ g8 sep ((z :: l) ++ [x]) = y ++ sep ++ g8 sep (z :: l) ++ sep ++ x
    rw [joinB_snoc sep x (z :: l), if_neg (by simp)]
    simp only [List.append_assoc]
def sumN : List Nat → Nat
  | [] => 0
  | n :: l => n + sumN l
theorem tS (sep : List UInt8) : ∀ (l : List (List UInt8)), (g8 sep l).length = sumN (l.map (·.length)) + (l.length - 1) * sep.length
  | [] => by simp [g8, sumN]
  | [x] => by simp [g8, sumN]
  | x :: y :: l => by
    rw [jV, List.length_append, List.length_append, tS sep (y :: l)]
    show x.length + sep.length + (sumN ((y :: l).map (·.length)) + ((y :: l).length - 1) * sep.length) = x.length + sumN ((y :: l).map (·.length)) + ((y :: l).length + 1 - 1) * sep.length
    have e : ((y :: l).length + 1 - 1) * sep.length = ((y :: l).length - 1) * sep.length + sep.length := by
      rw [show (y :: l).length + 1 - 1 = ((y :: l).length - 1) + 1 from by simp, Nat.add_mul, Nat.one_mul]
    omega
def kC (a : List Co) : List UInt8 := g8 [44, 32] (a.map Co.print)
def qT (r : List (List Co)) : List UInt8 := g8 [32, 124, 124, 32] (r.map kC)
def fewA (a : List Co) : Bool := decide (1 ≤ a.length ∧ a.length ≤ 6) && a.all Co.may
def fewR (r : List (List Co)) : Bool := decide (1 ≤ r.length ∧ r.length ≤ 6) && r.all fewA
def rgMay (r : List (List Co)) : Bool := fewR r && decide ((qT r).length ≤ 96)
def m6 (r : List (List Co)) : List UInt8 := if rgMay r then qT r else []
theorem fewA.facts {a : List Co} (h : fewA a = true) : (1 ≤ a.length ∧ a.length ≤ 6) ∧ ∀ c ∈ a, c.may = true := by
  unfold fewA at h
  rw [Bool.and_eq_true, decide_eq_true_eq] at h
  exact ⟨h.1, List.all_eq_true.1 h.2⟩
theorem fewR.facts {r : List (List Co)} (h : fewR r = true) : (1 ≤ r.length ∧ r.length ≤ 6) ∧ ∀ a ∈ r, fewA a = true := by
  unfold fewR at h
  rw [Bool.and_eq_true, decide_eq_true_eq] at h
  exact ⟨h.1, List.all_eq_true.1 h.2⟩
theorem rgMay.facts {r : List (List Co)} (h : rgMay r = true) : fewR r = true ∧ (qT r).length ≤ 96 := by
  unfold rgMay at h
  rw [Bool.and_eq_true, decide_eq_true_eq] at h
  exact h
def k8 : List UInt8 → List UInt8
  | [] => []
  | c :: l => if c = 32 then k8 l else c :: l
def xO (s : List UInt8) : List UInt8 := (k8 (k8 s).reverse).reverse
def kV : List UInt8 → List UInt8 → List (List UInt8)
  | acc, [] => [acc]
  | acc, [c] => [acc ++ [c]]
  | acc, c :: d :: r => if c = 124 ∧ d = 124 then acc :: kV [] r else kV (acc ++ [c]) (d :: r)
def j0 {α β : Type} (f : α → Option β) : List α → Option (List β)
  | [] => some []
  | x :: l => match f x, j0 f l with
    | some y, some m => some (y :: m)
    | _, _ => none
theorem allO_cons {α β : Type} {f : α → Option β} {x : α} {l : List α} {y : β} {m : List β} (h1 : f x = some y) (h2 : j0 f l = some m) : j0 f (x :: l) = some (y :: m) := by
  show (match f x, j0 f l with | some y, some m => some (y :: m) | _, _ => none) = _
  rw [h1, h2]
theorem allO_inv {α β : Type} {f : α → Option β} {x : α} {l : List α} {m : List β} (h : j0 f (x :: l) = some m) : ∃ y m', m = y :: m' ∧ f x = some y ∧ j0 f l = some m' := by
  have h : (match f x, j0 f l with | some y, some m => some (y :: m) | _, _ => none) = some m := h
  cases h1 : f x with
  | none => rw [h1] at h; cases h
  | some y =>
    cases h2 : j0 f l with
    | none => rw [h1, h2] at h; cases h
    | some m' => rw [h1, h2] at h; injection h with h; exact ⟨y, m', h.symm, rfl, rfl⟩
theorem allO_none {α β : Type} {f : α → Option β} : ∀ {l : List α} {x : α}, x ∈ l → f x = none → j0 f l = none
  | y :: l, x, hx, h => by
    show (match f y, j0 f l with | some y, some m => some (y :: m) | _, _ => none) = _
    rcases List.mem_cons.1 hx with rfl | hx
    · rw [h]
    · rw [allO_none hx h]; cases f y <;> rfl
theorem d6 {α β : Type} {f : α → Option β} : ∀ {l : List α} {m : List β}, j0 f l = some m → m.length = l.length
  | [], m, h => by injection h with h; subst h; rfl
  | x :: l, m, h => by
    obtain ⟨y, m', rfl, _, h2⟩ := allO_inv h
    rw [List.length_cons, List.length_cons, d6 h2]
theorem allO_app {α β : Type} {f : α → Option β} {b : List α} {n : List β} (hb : j0 f b = some n) : ∀ {a : List α} {m : List β}, j0 f a = some m → j0 f (a ++ b) = some (m ++ n)
  | [], m, h => by injection h with h; subst h; exact hb
  | x :: a, m, h => by
    obtain ⟨y, m', rfl, h1, h2⟩ := allO_inv h
    exact allO_cons h1 (allO_app hb h2)
theorem allO_snoc {α β : Type} {f : α → Option β} {a : List α} {m : List β} {x : α} {y : β} (h : j0 f a = some m) (h1 : f x = some y) : j0 f (a ++ [x]) = some (m ++ [y]) := allO_app (allO_cons h1 rfl) h
theorem allO_back {α β : Type} {f : α → Option β} : ∀ {l : List α} {m : List β}, j0 f l = some m → ∀ y ∈ m, ∃ x ∈ l, f x = some y
  | [], m, h, y, hy => by injection h with h; subst h; cases hy
  | z :: l, m, h, y, hy => by
    obtain ⟨w, m', rfl, h1, h2⟩ := allO_inv h
    rcases List.mem_cons.1 hy with rfl | hy
    · exact ⟨z, List.mem_cons_self .., h1⟩
    · obtain ⟨x, hx, e⟩ := allO_back h2 y hy
      exact ⟨x, List.mem_cons_of_mem _ hx, e⟩
def parseP (s : List UInt8) : Option Co := gQ (xO s)
def parseA (s : List UInt8) : Option (List Co) := j0 parseP (yD 44 [] s)
def qA (s : List UInt8) : Option (List (List Co)) := j0 parseA (kV [] s)
def y7 (s : List UInt8) : Option (List (List Co)) := if 96 < s.length then none else (qA s).filter rgMay
def qE (s : List UInt8) : Int := if 96 < s.length then 3 else match qA s with
  | none => 6
  | some r => if fewR r then (if (qT r).length ≤ 96 then 0 else 3) else 6
def blanks (n : Nat) : List UInt8 := List.replicate n 32
theorem altsL_ne : ∀ (s acc : List UInt8), kV acc s ≠ []
  | [], acc => by simp [kV]
  | [c], acc => by simp [kV]
  | c :: d :: r, acc => by
    rw [kV]
    split
    · simp
    · exact altsL_ne (d :: r) _
theorem tD : ∀ (s acc : List UInt8), ∀ x ∈ kV acc s, x.length ≤ acc.length + s.length
  | [], acc, x, hx => by
    have : x = acc := by simpa [kV] using hx
    subst this; simp
  | [c], acc, x, hx => by
    have : x = acc ++ [c] := by simpa [kV] using hx
    subst this; simp
  | c :: d :: r, acc, x, hx => by
    rw [kV] at hx
    split at hx
    · rcases List.mem_cons.1 hx with rfl | hx
      · simp only [List.length_cons]; omega
      · have := tD r [] x hx
        simp only [List.length_cons, List.length_nil] at this ⊢; omega
    · have := tD (d :: r) (acc ++ [c]) x hx
      simp only [List.length_append, List.length_cons, List.length_nil] at this ⊢; omega
theorem nX : ∀ (s acc : List UInt8), (kV acc s).length ≤ s.length + 1
  | [], acc => by simp [kV]
  | [c], acc => by simp [kV]
  | c :: d :: r, acc => by
    rw [kV]
    split
    · have := nX r []; simp only [List.length_cons]; omega
    · have := nX (d :: r) (acc ++ [c]); simp only [List.length_cons] at this ⊢; omega
inductive Two {α β : Type} (R : α → β → Prop) : List α → List β → Prop
  | nil : Two R [] []
  | cons {x : α} {y : β} {l : List α} {m : List β} (h : R x y) (t : Two R l m) : Two R (x :: l) (y :: m)
def SpellC (s : List UInt8) (c : Co) : Prop := ∃ n m, s = blanks n ++ c.text ++ blanks m
def SpellA (s : List UInt8) (a : List Co) : Prop := ∃ ps, s = y5 44 ps ∧ Two SpellC ps a ∧ ps ≠ []
def SpellR (s : List UInt8) (r : List (List Co)) : Prop := ∃ l, s = g8 [124, 124] l ∧ Two SpellA l r ∧ l ≠ []
theorem text_ne {c : Co} (h : c.may = true) : c.text ≠ [] := by
  intro e
  have := (dF c.text c).2 ⟨h, .inl rfl⟩
  rw [e] at this
  revert this
  have : gQ [] = none := by decide
  rw [this]; simp
theorem err_some {s : List UInt8} {r : List (List Co)} (h : y7 s = some r) : qE s = 0 ∧ rgMay r = true ∧ qA s = some r ∧ s.length ≤ 96 := by
  unfold y7 at h
  split at h
  · cases h
  · rename_i hl
    cases hp : qA s with
    | none => rw [hp] at h; cases h
    | some q =>
      rw [hp] at h
      unfold Option.filter at h
      simp only at h
      split at h
      · rename_i hm
        injection h with h
        subst h
        obtain ⟨k1, k2⟩ := rgMay.facts hm
        refine ⟨?_, hm, rfl, by omega⟩
        unfold qE
        rw [if_neg hl, hp]
        simp only
        rw [if_pos k1, if_pos k2]
      · cases h
theorem err_none {s : List UInt8} (h : y7 s = none) : qE s = 3 ∨ qE s = 6 := by
  unfold y7 at h
  unfold qE
  split at h
  · rename_i hl; rw [if_pos hl]; exact .inl rfl
  · rename_i hl
    rw [if_neg hl]
    cases hp : qA s with
    | none => exact .inr rfl
    | some q =>
      rw [hp] at h
      simp only
      cases h1 : fewR q with
      | false => exact .inr rfl
      | true =>
        rw [if_pos rfl]
        by_cases h2 : (qT q).length ≤ 96
        · exfalso
          have : rgMay q = true := by unfold rgMay; rw [h1, decide_eq_true h2]; rfl
          simp [Option.filter, this] at h
        · rw [if_neg h2]; exact .inl rfl
end
section
def kS (c : Cu) : List UInt8 := (if c.aft then [62] else [62, 61]) ++ c.v.text
def gB (c : Cu) : List UInt8 := (if c.aft then [60, 61] else [60]) ++ c.v.text
def loW (c : Cu) : List (List UInt8) := if c.e = 0 then [kS c] else []
def hiW (c : Cu) : List (List UInt8) := if c.e = 0 then [gB c] else []
def spW (s : Sp) : List (List UInt8) := if loW s.lo ++ hiW s.hi = [] then [[42]] else loW s.lo ++ hiW s.hi
def xF (s : Sp) : List UInt8 := y5 32 (spW s)
def yG (l : List Sp) : List UInt8 := if l = [] then [45] else g8 [32, 111, 114, 32] (l.map xF)
def x8 (s : St) : List UInt8 := if s.pre = [] then yG s.rel else yG s.rel ++ [32, 47, 32] ++ yG s.pre
def yN (s : St) : List UInt8 := if s.may then x8 s else []
def pW (fr : Bool) : List UInt8 → Option Cu
  | [] => none
  | c :: r => if c = (if fr then 62 else 60) then (match r with
      | [] => (g5 []).map fun v => ⟨0, v, fr⟩
      | d :: q => if d = 61 then (g5 q).map fun v => ⟨0, v, !fr⟩ else (g5 (d :: q)).map fun v => ⟨0, v, fr⟩) else none
def spP : List (List UInt8) → Option Sp
  | [] => none
  | a :: r => if a = [42] ∧ r = [] then some ⟨zZ (-1), zZ 1⟩ else match pW true a with
    | some c => (match r with
      | [] => some ⟨c, zZ 1⟩
      | [b] => (pW false b).map fun d => ⟨c, d⟩
      | _ => none)
    | none => if r = [] then (pW false a).map fun d => ⟨zZ (-1), d⟩ else none
def grp : List (List UInt8) → List (List UInt8) → List (List (List UInt8))
  | acc, [] => [acc]
  | acc, w :: r => if w = [111, 114] then acc :: grp [] r else grp (acc ++ [w]) r
def mS (s : List UInt8) : Option (List Sp) := if s = [45] then some [] else j0 spP (grp [] (yD 32 [] s))
def cutS : List UInt8 → List UInt8 → List UInt8 × List UInt8
  | acc, 32 :: 47 :: 32 :: r => (acc, r)
  | acc, c :: r => cutS (acc ++ [c]) r
  | acc, [] => (acc, [])
def gZ (t : List UInt8) : Option St :=
  match mS (cutS [] t).1, (if (cutS [] t).2 = [] then some [] else mS (cutS [] t).2) with
  | some a, some b => if t ≠ [] ∧ yN ⟨a, b⟩ = t then some ⟨a, b⟩ else none
  | _, _ => none
theorem fG {t : List UInt8} {s : St} (h : gZ t = some s) : s.may = true ∧ x8 s = t := by
  unfold gZ at h
  split at h
  · split at h
    · rename_i a b _ _ hc
      injection h with h; subst h
      obtain ⟨h0, h1⟩ := hc
      unfold yN at h1
      by_cases hm : (St.mk a b).may = true
      · rw [if_pos hm] at h1; exact ⟨hm, h1⟩
      · rw [if_neg hm] at h1; exact absurd h1.symm h0
    · cases h
  · cases h
theorem joinL_avoid (b c : UInt8) (hb : b ≠ c) : ∀ (l : List (List UInt8)), (∀ x ∈ l, b ∉ x) → b ∉ y5 c l
  | [], _ => by simp [y5]
  | [x], h => h x (List.mem_singleton.2 rfl)
  | x :: y :: r, h => by
    rw [y5]
    simp only [List.mem_append, List.mem_cons, not_or]
    exact ⟨h x (List.mem_cons_self ..), hb, joinL_avoid b c hb (y :: r) fun z hz => h z (List.mem_cons_of_mem _ hz)⟩
theorem list_none {s : List UInt8} (h : gT s = true) (b : UInt8) (h1 : bE b = false) (h2 : b ≠ 46) : b ∉ s := by
  intro hm
  unfold gT at h
  rcases n7 46 s [] b hm with e | ⟨x, hx, hc⟩
  · exact h2 e
  · have hne : s.isEmpty = false := by cases s with
      | nil => cases hm
      | cons _ _ => rfl
    rw [hne, Bool.false_or, Bool.and_eq_true] at h
    have := List.all_eq_true.1 h.2 x hx
    unfold q9 at this
    rw [Bool.and_eq_true] at this
    have := List.all_eq_true.1 this.2 _ hc
    rw [h1] at this; cases this
theorem j7 {v : Ver} (h : v.may = true) (hb : v.build = []) (b : UInt8) (h1 : bE b = false) (h2 : b ≠ 46) : b ∉ v.text := by
  have hd : kY b.toNat = false := by
    unfold bE at h1
    rw [Bool.or_eq_false_iff, Bool.or_eq_false_iff] at h1
    exact h1.1.2
  have h45 : b ≠ 45 := fun e => by subst e; revert h1; decide
  have hl : gT v.pre = true := by
    have := dI h
    unfold vG at this
    exact (Bool.and_eq_true_iff.1 this).1
  unfold Ver.text
  rw [hb]
  intro hm
  rcases List.mem_append.1 hm with hm | hm
  · rcases List.mem_append.1 hm with hm | hm
    · exact nE h b hd h2 hm
    · unfold kI at hm
      split at hm
      · cases hm
      · rcases List.mem_cons.1 hm with e | hm
        · exact h45 e
        · exact list_none hl b h1 h2 hm
  · cases hm
theorem ver_ne {v : Ver} : v.text ≠ [] := by
  intro h
  unfold Ver.text bM at h
  simp at h
structure In (c : Cu) : Prop where
  e : c.e = 0
  m : c.v.may = true
  b : c.v.build = []
theorem In.of {c : Cu} (h : c.may = true) (h0 : c.e = 0) : In c := ⟨h0, wA h, qB h⟩
theorem In.eq {c : Cu} (h : In c) : c = ⟨0, c.v, c.aft⟩ := by obtain ⟨e, v, a⟩ := c; rw [show e = 0 from h.e]
theorem ver_head {v : Ver} (h : v.may = true) (hb : v.build = []) : ∃ d q, v.text = d :: q ∧ d ≠ 61 := by
  cases hq : v.text with
  | nil => exact absurd hq ver_ne
  | cons d q => exact ⟨d, q, rfl, fun e => j7 h hb 61 (by decide) (by decide) (by rw [hq, e]; exact List.mem_cons_self ..)⟩
theorem cutP_lo {c : Cu} (h : In c) : pW true (kS c) = some c := by
  obtain ⟨d, q, hq, hd⟩ := ver_head h.m h.b
  have hp := jE h.m
  have he := h.eq
  unfold kS
  cases ha : c.aft with
  | true =>
    rw [if_pos rfl, hq] at *
    show pW true (62 :: d :: q) = _
    rw [pW, if_pos (by rfl)]
    try dsimp only
    rw [if_neg hd, hp]
    show some (Cu.mk 0 c.v true) = some c
    rw [← ha, ← he]
  | false =>
    rw [if_neg (by decide)]
    show pW true (62 :: 61 :: c.v.text) = _
    rw [pW, if_pos (by rfl)]
    try dsimp only
    rw [if_pos rfl, hp]
    show some (Cu.mk 0 c.v false) = some c
    rw [← ha, ← he]
theorem cutP_hi {c : Cu} (h : In c) : pW false (gB c) = some c := by
  obtain ⟨d, q, hq, hd⟩ := ver_head h.m h.b
  have hp := jE h.m
  have he := h.eq
  unfold gB
  cases ha : c.aft with
  | true =>
    rw [if_pos rfl]
    show pW false (60 :: 61 :: c.v.text) = _
    rw [pW, if_pos (by rfl)]
    try dsimp only
    rw [if_pos rfl, hp]
    show some (Cu.mk 0 c.v true) = some c
    rw [← ha, ← he]
  | false =>
    rw [if_neg (by decide), hq] at *
    show pW false (60 :: d :: q) = _
    rw [pW, if_pos (by rfl)]
    try dsimp only
    rw [if_neg hd, hp]
    show some (Cu.mk 0 c.v false) = some c
    rw [← ha, ← he]
theorem cutP_no (c : Cu) : pW true (gB c) = none := by
  unfold gB
  cases c.aft with
  | true => rfl
  | false => rw [if_neg (by decide)]; rfl
theorem end_of {c : Cu} (h : c.may = true) (h0 : ¬ c.e = 0) : c = zZ (-1) ∨ c = zZ 1 := by
  rcases may_e h with e | ⟨e, h1, h2⟩
  · exact absurd e.1 h0
  · obtain ⟨x, v, a⟩ := c
    rcases e with e | e
    · left; show Cu.mk x v a = ⟨-1, Ver.zero, false⟩; rw [show x = -1 from e, show v = Ver.zero from h1, show a = false from h2]
    · right; show Cu.mk x v a = ⟨1, Ver.zero, false⟩; rw [show x = 1 from e, show v = Ver.zero from h1, show a = false from h2]
theorem lo_end {s : Sp} (h : s.may = true) (h0 : ¬ s.lo.e = 0) : s.lo = zZ (-1) := by
  obtain ⟨h1, h2⟩ := zU h
  rcases end_of h1 h0 with e | e
  · exact e
  · exfalso
    unfold Sp.may at h
    rw [decide_eq_true_eq, e] at h
    rw [e] at h1
    by_cases h3 : s.hi.e = 0
    · rw [qC h1 h2, show (zZ 1).e = 1 from rfl, h3] at h
      revert h; unfold lex; simp [Lib.compareInt]
    · rcases end_of h2 h3 with e2 | e2 <;> rw [e2] at h <;> revert h <;> decide
theorem hi_end {s : Sp} (h : s.may = true) (h0 : ¬ s.hi.e = 0) : s.hi = zZ 1 := by
  obtain ⟨h1, h2⟩ := zU h
  rcases end_of h2 h0 with e | e
  · exfalso
    unfold Sp.may at h
    rw [decide_eq_true_eq, e] at h
    rw [e] at h2
    by_cases h3 : s.lo.e = 0
    · rw [qC h1 h2, show (zZ (-1)).e = -1 from rfl, h3] at h
      revert h; unfold lex; simp [Lib.compareInt]
    · rcases end_of h1 h3 with e2 | e2 <;> rw [e2] at h <;> revert h <;> decide
  · exact e
theorem spW_ne (s : Sp) : spW s ≠ [] := by
  unfold spW
  split
  · simp
  · assumption
theorem lo_ne (c : Cu) : kS c ≠ [42] := by
  unfold kS
  cases c.aft with
  | true => rw [if_pos rfl]; simp
  | false => rw [if_neg (by decide)]; simp
theorem hi_ne (c : Cu) : gB c ≠ [42] := by
  unfold gB
  cases c.aft with
  | true => rw [if_pos rfl]; simp
  | false => rw [if_neg (by decide)]; simp
theorem spP_words {s : Sp} (h : s.may = true) : spP (spW s) = some s := by
  obtain ⟨h1, h2⟩ := zU h
  obtain ⟨lo, hi⟩ := s
  unfold spW loW hiW
  dsimp only at *
  by_cases a : lo.e = 0
  · have il := In.of h1 a
    by_cases b : hi.e = 0
    · have ih := In.of h2 b
      rw [if_pos a, if_pos b, if_neg (by simp)]
      show spP [kS lo, gB hi] = _
      rw [spP, if_neg (by simp), cutP_lo il]
      try dsimp only
      rw [cutP_hi ih]; rfl
    · have e := hi_end h b; dsimp only at e; subst e
      rw [if_pos a, if_neg b, if_neg (by simp)]
      show spP [kS lo] = _
      rw [spP, if_neg (by simp [lo_ne]), cutP_lo il]
  · have e := lo_end h a; dsimp only at e; subst e
    by_cases b : hi.e = 0
    · have ih := In.of h2 b
      rw [if_neg a, if_pos b, if_neg (by simp)]
      show spP [gB hi] = _
      rw [spP, if_neg (by simp [hi_ne]), cutP_no]
      try dsimp only
      rw [if_pos rfl, cutP_hi ih]; rfl
    · have e := hi_end h b; dsimp only at e; subst e
      rfl
structure Wd (x : List UInt8) : Prop where
  b : (32 : UInt8) ∉ x
  s : (47 : UInt8) ∉ x
  h : ∃ d q, x = d :: q ∧ (d = 42 ∨ d = 60 ∨ d = 62)
theorem wd_lo {c : Cu} (h : In c) : Wd (kS c) := by
  have h1 := j7 h.m h.b 32 (by decide) (by decide)
  have h2 := j7 h.m h.b 47 (by decide) (by decide)
  unfold kS
  cases c.aft with
  | true => rw [if_pos rfl]; exact ⟨by simp [h1], by simp [h2], ⟨62, _, rfl, by simp⟩⟩
  | false => rw [if_neg (by decide)]; exact ⟨by simp [h1], by simp [h2], ⟨62, _, rfl, by simp⟩⟩
theorem wd_hi {c : Cu} (h : In c) : Wd (gB c) := by
  have h1 := j7 h.m h.b 32 (by decide) (by decide)
  have h2 := j7 h.m h.b 47 (by decide) (by decide)
  unfold gB
  cases c.aft with
  | true => rw [if_pos rfl]; exact ⟨by simp [h1], by simp [h2], ⟨60, _, rfl, by simp⟩⟩
  | false => rw [if_neg (by decide)]; exact ⟨by simp [h1], by simp [h2], ⟨60, _, rfl, by simp⟩⟩
theorem d7 {s : Sp} (h : s.may = true) : ∀ x ∈ spW s, Wd x := by
  obtain ⟨h1, h2⟩ := zU h
  intro x hx
  unfold spW at hx
  split at hx
  · rw [List.mem_singleton.1 hx]; exact ⟨by decide, by decide, ⟨42, [], rfl, by simp⟩⟩
  · rcases List.mem_append.1 hx with hx | hx
    · unfold loW at hx
      split at hx
      · rename_i a; rw [List.mem_singleton.1 hx]; exact wd_lo (.of h1 a)
      · cases hx
    · unfold hiW at hx
      split at hx
      · rename_i a; rw [List.mem_singleton.1 hx]; exact wd_hi (.of h2 a)
      · cases hx
theorem Wd.or {x : List UInt8} (h : Wd x) : x ≠ [111, 114] := by
  obtain ⟨d, q, rfl, hd⟩ := h.h
  intro e
  injection e with e _
  subst e
  revert hd; decide
def rowW : List Sp → List (List UInt8)
  | [] => []
  | [s] => spW s
  | s :: t :: r => spW s ++ [111, 114] :: rowW (t :: r)
theorem joinL_app (b : UInt8) : ∀ (l m : List (List UInt8)), l ≠ [] → m ≠ [] → y5 b (l ++ m) = y5 b l ++ b :: y5 b m
  | [], _, h, _ => absurd rfl h
  | [x], [], _, h => absurd rfl h
  | [x], y :: m, _, _ => rfl
  | x :: y :: l, m, _, hm => by
    show x ++ b :: y5 b ((y :: l) ++ m) = _
    rw [joinL_app b (y :: l) m (by simp) hm, y5]
    simp
theorem rowW_ne : ∀ (l : List Sp), l ≠ [] → rowW l ≠ []
  | [], h => absurd rfl h
  | [s], _ => spW_ne s
  | s :: t :: r, _ => by rw [rowW]; simp
theorem bH : ∀ (l : List Sp), l ≠ [] → g8 [32, 111, 114, 32] (l.map xF) = y5 32 (rowW l)
  | [], h => absurd rfl h
  | [s], _ => rfl
  | s :: t :: r, _ => by
    show g8 [32, 111, 114, 32] (xF s :: xF t :: r.map xF) = _
    rw [jV, rowW, joinL_app 32 _ _ (spW_ne s) (by simp)]
    have e := bH (t :: r) (by simp)
    rw [List.map_cons] at e
    rw [e]
    cases hr : rowW (t :: r) with
    | nil => exact absurd hr (rowW_ne _ (by simp))
    | cons a q => simp [y5, xF]
theorem grp_free : ∀ (a acc : List (List UInt8)), (∀ x ∈ a, x ≠ [111, 114]) → grp acc a = [acc ++ a]
  | [], acc, _ => by simp [grp]
  | w :: a, acc, h => by
    rw [grp, if_neg (h w (List.mem_cons_self ..)), grp_free a _ fun x hx => h x (List.mem_cons_of_mem _ hx)]
    simp
theorem grp_hit : ∀ (a acc r : List (List UInt8)), (∀ x ∈ a, x ≠ [111, 114]) → grp acc (a ++ [111, 114] :: r) = (acc ++ a) :: grp [] r
  | [], acc, r, _ => by rw [List.nil_append, grp, if_pos rfl, List.append_nil]
  | w :: a, acc, r, h => by
    rw [List.cons_append, grp, if_neg (h w (List.mem_cons_self ..)), grp_hit a _ r fun x hx => h x (List.mem_cons_of_mem _ hx)]
    simp
theorem grp_row : ∀ (l : List Sp), l ≠ [] → (∀ s ∈ l, s.may = true) → grp [] (rowW l) = l.map spW
  | [], h, _ => absurd rfl h
  | [s], _, h => grp_free _ _ fun x hx => (d7 (h s (List.mem_singleton.2 rfl)) x hx).or
  | s :: t :: r, _, h => by
    rw [rowW, grp_hit _ _ _ fun x hx => (d7 (h s (List.mem_cons_self ..)) x hx).or, grp_row (t :: r) (by simp) fun x hx => h x (List.mem_cons_of_mem _ hx)]
    rfl
theorem all_row : ∀ (l : List Sp), (∀ s ∈ l, s.may = true) → j0 spP (l.map spW) = some l
  | [], _ => rfl
  | s :: l, h => allO_cons (spP_words (h s (List.mem_cons_self ..))) (all_row l fun x hx => h x (List.mem_cons_of_mem _ hx))
theorem wd_row : ∀ (l : List Sp), (∀ s ∈ l, s.may = true) → ∀ x ∈ rowW l, (32 : UInt8) ∉ x ∧ (47 : UInt8) ∉ x
  | [], _, x, hx => by cases hx
  | [s], h, x, hx => have q := d7 (h s (List.mem_singleton.2 rfl)) x hx; ⟨q.b, q.s⟩
  | s :: t :: r, h, x, hx => by
    rw [rowW] at hx
    rcases List.mem_append.1 hx with hx | hx
    · have q := d7 (h s (List.mem_cons_self ..)) x hx; exact ⟨q.b, q.s⟩
    · rcases List.mem_cons.1 hx with rfl | hx
      · exact ⟨by decide, by decide⟩
      · exact wd_row (t :: r) (fun x hx => h x (List.mem_cons_of_mem _ hx)) x hx
theorem fA (b : UInt8) : ∀ (l : List (List UInt8)), l ≠ [] → (∀ x ∈ l, b ∉ x) → yD b [] (y5 b l) = l
  | [], h, _ => absurd rfl h
  | [x], _, h => by
    show yD b [] x = [x]
    rw [kU, v7 b _ (h x (List.mem_singleton.2 rfl))]; simp
  | x :: y :: r, _, h => by
    rw [y5, kU, vC b _ _ (h x (List.mem_cons_self ..))]
    simp only [List.nil_append, if_true]
    rw [fA b (y :: r) (by simp) fun z hz => h z (List.mem_cons_of_mem _ hz)]
theorem n9 : ∀ (l : List Sp), l ≠ [] → (∀ s ∈ l, s.may = true) → ∃ d q, y5 32 (rowW l) = d :: q ∧ (d = 42 ∨ d = 60 ∨ d = 62) := by
  have key : ∀ (s : Sp) (w : List (List UInt8)), s.may = true → ∃ d q, y5 32 (spW s ++ w) = d :: q ∧ (d = 42 ∨ d = 60 ∨ d = 62) := by
    intro s w h
    cases hs : spW s with
    | nil => exact absurd hs (spW_ne s)
    | cons x r =>
      obtain ⟨d, q, rfl, hd⟩ := (d7 h x (by rw [hs]; exact List.mem_cons_self ..)).h
      rw [List.cons_append]
      cases hr : r ++ w with
      | nil => exact ⟨d, q, rfl, hd⟩
      | cons y z => exact ⟨d, _, rfl, hd⟩
  intro l h0 h
  match l, h0 with
  | [s], _ => have := key s [] (h s (List.mem_singleton.2 rfl)); rwa [List.append_nil] at this
  | s :: t :: r, _ => exact key s _ (h s (List.mem_cons_self ..))
theorem g0 {l : List Sp} (h : zJ l = true) : ∀ s ∈ l, s.may = true := x3 h
theorem rowsP_text {l : List Sp} (h : zJ l = true) : mS (yG l) = some l := by
  unfold mS yG
  by_cases h0 : l = []
  · subst h0; rfl
  · rw [if_neg h0, bH l h0]
    obtain ⟨d, q, e, hd⟩ := n9 l h0 (g0 h)
    rw [if_neg (by rw [e]; intro e2; injection e2 with e2 _; subst e2; revert hd; decide), fA 32 _ (rowW_ne l h0) fun x hx => (wd_row l (g0 h) x hx).1, grp_row l h0 (g0 h)]
    exact all_row l (g0 h)
theorem n8 {l : List Sp} (h : zJ l = true) : (47 : UInt8) ∉ yG l := by
  unfold yG
  split
  · decide
  · rename_i h0
    rw [bH l h0]
    exact joinL_avoid 47 32 (by decide) _ fun x hx => (wd_row l (g0 h) x hx).2
theorem rtext_ne {l : List Sp} (h : zJ l = true) : yG l ≠ [] := by
  unfold yG
  split
  · simp
  · rename_i h0
    obtain ⟨d, q, e, _⟩ := n9 l h0 (g0 h)
    rw [bH l h0, e]; simp
theorem cutS_free : ∀ (a acc : List UInt8), (47 : UInt8) ∉ a → cutS acc a = (acc ++ a, [])
  | [], acc, _ => by simp [cutS]
  | c :: r, acc, h => by
    have hr : (47 : UInt8) ∉ r := fun e => h (List.mem_cons_of_mem _ e)
    rw [cutS]
    · rw [cutS_free r _ hr]; simp
    · intro q e1 e2; subst e2; exact hr (List.mem_cons_self ..)
theorem cutS_hit : ∀ (a acc b : List UInt8), (47 : UInt8) ∉ a → cutS acc (a ++ [32, 47, 32] ++ b) = (acc ++ a, b)
  | [], acc, b, _ => by simp [cutS]
  | c :: r, acc, b, h => by
    have hr : (47 : UInt8) ∉ r := fun e => h (List.mem_cons_of_mem _ e)
    show cutS acc (c :: (r ++ [32, 47, 32] ++ b)) = _
    rw [cutS]
    · rw [cutS_hit r _ b hr]; simp
    · intro q e1 e2
      cases r with
      | nil => injection e2 with e2 _; revert e2; decide
      | cons x r => injection e2 with e2 _; subst e2; exact hr (List.mem_cons_self ..)
theorem parseT_text {s : St} (h : s.may = true) : gZ (x8 s) = some s := by
  obtain ⟨h1, h2, h3⟩ := St.facts h
  have hp : yN s = x8 s := if_pos h
  have hne : x8 s ≠ [] := by
    unfold x8
    split
    · exact rtext_ne h1
    · simp
  obtain ⟨a, b⟩ := s
  dsimp only at *
  have key : cutS [] (x8 ⟨a, b⟩) = (yG a, if b = [] then [] else yG b) := by
    unfold x8
    try dsimp only
    by_cases h0 : b = []
    · rw [if_pos h0, if_pos h0, cutS_free _ _ (n8 h1)]; rfl
    · rw [if_neg h0, if_neg h0, cutS_hit _ _ _ (n8 h1)]; rfl
  unfold gZ
  rw [key]
  try dsimp only
  have k2 : (if (if b = [] then [] else yG b) = [] then some [] else mS (if b = [] then [] else yG b)) = some b := by
    by_cases h0 : b = []
    · subst h0; rfl
    · rw [if_neg h0, if_neg (rtext_ne h2), rowsP_text h2]
  rw [k2, rowsP_text h1]
  try dsimp only
  rw [if_pos ⟨hne, hp⟩]
end
section
end
section
def gU (v : Ver) : Nat → Cu
  | 0 => if y9 v 0 then ⟨0, yO v 0, false⟩ else zZ 1
  | k + 1 => if y9 v ((k + 1 : Nat) : Int) then ⟨0, yO v ((k + 1 : Nat) : Int), false⟩ else gU v k
def turnsK (c : Co) : Nat := if 0 < c.v.maj ∨ c.parts = 1 then 0 else if 0 < c.v.min ∨ c.parts = 2 then 1 else 2
def Co.low (c : Co) : Cu := ⟨0, xY c.v, false⟩
def Co.aft (c : Co) : Cu := if c.parts < 3 ∧ 0 < c.parts then gU c.v (c.parts - 1).toNat else ⟨0, xY c.v, true⟩
def Co.span (c : Co) : Cu × Cu :=
  if c.op = 1 ∨ c.op = 2 then (c.low, c.aft) else if c.op = 3 then (zZ (-1), c.low) else if c.op = 4 then (zZ (-1), c.aft) else if c.op = 5 then (c.aft, zZ 1) else if c.op = 6 then (c.low, zZ 1)
  else if c.op = 7 then (c.low, gU c.v (turnsK c)) else if c.op = 8 then (c.low, gU c.v (min (c.parts - 1) 1).toNat) else if c.parts = 0 then (zZ (-1), zZ 1) else (c.low, gU c.v (c.parts - 1).toNat)
def xS (lo hi : Cu) : List Sp := gM [] lo hi
def Co.region (c : Co) : List Sp := if c.may then (if c.op = 2 then vD (xS c.span.1 c.span.2) else xS c.span.1 c.span.2) else []
def Co.zone (c : Co) : List Sp := if c.may && !decide (c.v.pre = []) then [⟨⟨0, { c.v with pre := [48], build := [] }, false⟩, ⟨0, { c.v with pre := [], build := [] }, false⟩⟩] else []
theorem oneRow_may (lo hi : Cu) : zJ (xS lo hi) = true := add_ok rfl (fun t h => by cases h)
theorem before_may {v : Ver} (h : v.may = true) (a : Bool) : (⟨0, xY v, a⟩ : Cu).may = true := by
  have h2 := fO h
  unfold Cu.may
  rw [if_pos rfl]
  show ((xY v).may && ([] : List UInt8).isEmpty) = true
  rw [h2]; rfl
theorem bump_rel {v : Ver} {k : Int} (h : y9 v k = true) : ∃ a b c, yO v k = Ver.rel a b c := by
  unfold yO
  rw [if_pos h]
  unfold bumpN
  split
  · exact ⟨_, _, _, rfl⟩
  · split
    · exact ⟨_, _, _, rfl⟩
    · exact ⟨_, _, _, rfl⟩
def upN (v : Ver) (k : Nat) : Int := if k = 0 then (v.maj + 1) * 100000000 else if k = 1 then v.maj * 100000000 + (v.min + 1) * 10000 else v.code + 1
def ordB (op n : Int) : Bool := if op = 1 then decide (n = 0) else if op = 2 then decide (¬ n = 0) else if op = 3 then decide (n < 0) else if op = 4 then decide (n ≤ 0) else if op = 5 then decide (0 < n) else decide (0 ≤ n)
end
section
def jO (c : Co) (v : Ver) (p : Int) : Bool := (decide (p < 1) || decide (v.maj = c.v.maj)) && (decide (p < 2) || decide (v.min = c.v.min)) && (decide (p < 3) || decide (v.pat = c.v.pat))
def overB (c : Co) (v : Ver) : Bool := if ¬ v.maj = c.v.maj ∨ c.parts = 1 then decide (c.v.maj < v.maj) else if ¬ v.min = c.v.min ∨ c.parts = 2 then decide (c.v.min < v.min) else decide (c.v.pat < v.pat)
def saysN (c : Co) : Int := if 0 < c.v.maj ∨ c.parts = 1 then 1 else if 0 < c.v.min ∨ c.parts = 2 then 2 else 3
def saysB (c : Co) (v : Ver) : Bool :=
  if c.op = 1 ∨ c.op = 9 then jO c v c.parts else if c.op = 2 then !jO c v c.parts else if c.op = 3 then !jO c v c.parts && !overB c v else if c.op = 4 then jO c v c.parts || !overB c v
  else if c.op = 5 then overB c v else if c.op = 6 then jO c v c.parts || overB c v else if c.op = 8 then jO c v (min c.parts 2) && (jO c v c.parts || overB c v)
  else jO c v (saysN c) && (jO c v c.parts || overB c v)
def truncN (v : Ver) (q : Nat) : Int := if q = 1 then v.maj * 100000000 else if q = 2 then v.maj * 100000000 + v.min * 10000 else v.code
end
section
def fI (v : Ver) : Ver := { v with pre := [48], build := [] }
def bareV (v : Ver) : Ver := { v with pre := [], build := [] }
theorem least_may {v : Ver} (h : v.may = true) : (fI v).may = true ∧ (bareV v).may = true := by
  obtain ⟨h1, h2, h3⟩ := gJ h
  have k : vG [48] = true := by decide
  unfold Ver.may fI bareV
  dsimp only
  rw [h1, h2, h3, k]
  exact ⟨rfl, rfl⟩
theorem zone_row {c : Co} (h : c.may = true) (hp : ¬ c.v.pre = []) : c.zone = [⟨⟨0, fI c.v, false⟩, ⟨0, bareV c.v, false⟩⟩] := by
  unfold Co.zone
  rw [h, decide_eq_false hp]; rfl
theorem zone_sp {v : Ver} (h : v.may = true) : (Sp.mk ⟨0, fI v, false⟩ ⟨0, bareV v, false⟩).may = true := by
  obtain ⟨m1, m2⟩ := least_may h
  refine bF ?_
  have c1 : (⟨0, fI v, false⟩ : Cu).may = true := before_may m1 false
  have c2 : (⟨0, bareV v, false⟩ : Cu).may = true := before_may m2 false
  rw [qC c1 c2]
  have e : gW (fI v) (bareV v) = -1 := by
    rw [cmpR_code m1 m2]
    have e1 : (fI v).code = (bareV v).code := rfl
    rw [e1, if_neg (by omega), if_neg (by omega)]; rfl
  show lex (Lib.compareInt 0 0) (lex (gW (fI v) (bareV v)) (Lib.compareInt (b01 false) (b01 false))) < 0
  rw [e]
  decide
theorem zone_may {c : Co} : zJ c.zone = true := by
  by_cases h : c.may = true
  · by_cases hp : c.v.pre = []
    · unfold Co.zone; rw [h, decide_eq_true hp]; rfl
    · rw [zone_row h hp]; exact zone_sp (Co.facts h).2.1
  · unfold Co.zone
    rw [Bool.eq_false_iff.2 h]; rfl
def withO (c : Co) (o : Int) : Co := { c with op := o }
end
section
theorem nodup_le {α : Type} [DecidableEq α] : ∀ (l m : List α), l.Nodup → (∀ x ∈ l, x ∈ m) → l.length ≤ m.length
  | [], m, _, _ => Nat.zero_le _
  | x :: l, m, hn, hs => by
    have hx := hs x (List.mem_cons_self ..)
    have h1 := List.length_erase_of_mem hx
    have hn2 := List.nodup_cons.1 hn
    have h2 := nodup_le l (m.erase x) hn2.2 fun y hy => (List.mem_erase_of_ne (by rintro rfl; exact hn2.1 hy)).2 (hs y (List.mem_cons_of_mem _ hy))
    have h3 : 0 < m.length := List.length_pos_of_mem hx
    rw [List.length_cons]; omega
def flatC : List Sp → List Cu
  | [] => []
  | s :: l => s.lo :: s.hi :: flatC l
theorem flatC_len : ∀ (l : List Sp), (flatC l).length = 2 * l.length
  | [] => rfl
  | s :: l => by show (flatC l).length + 1 + 1 = 2 * (l.length + 1); rw [flatC_len l]; omega
theorem mE : ∀ {l : List Sp} {x : Cu}, x ∈ flatC l → ∃ s ∈ l, x = s.lo ∨ x = s.hi
  | s :: l, x, h => by
    rcases List.mem_cons.1 h with e | h
    · exact ⟨s, List.mem_cons_self .., .inl e⟩
    · rcases List.mem_cons.1 h with e | h
      · exact ⟨s, List.mem_cons_self .., .inr e⟩
      · obtain ⟨t, ht, e⟩ := mE h
        exact ⟨t, List.mem_cons_of_mem _ ht, e⟩
theorem flatC_nodup : ∀ {l : List Sp}, zJ l = true → (flatC l).Nodup
  | [], _ => List.nodup_nil
  | s :: l, h => by
    have hs := xD h
    have hm := zU hs
    have hlt := jK hs
    have haf := kW h
    have far : ∀ x ∈ flatC l, zN s.hi x < 0 := fun x hx => by
      obtain ⟨t, ht, e⟩ := mE hx
      have tm := x3 (kD h) t ht
      have t2 := zU tm
      rcases e with rfl | rfl
      · exact haf t ht
      · exact xB hm.2 t2.1 t2.2 (haf t ht) (jK tm)
    have xm : ∀ x ∈ flatC l, x.may = true := fun x hx => by
      obtain ⟨t, ht, e⟩ := mE hx
      have t2 := zU (x3 (kD h) t ht)
      rcases e with rfl | rfl
      · exact t2.1
      · exact t2.2
    refine List.nodup_cons.2 ⟨fun hx => ?_, List.nodup_cons.2 ⟨fun hx => ?_, flatC_nodup (kD h)⟩⟩
    · rcases List.mem_cons.1 hx with e | hx
      · rw [e, kO] at hlt; omega
      · have := xB hm.1 hm.2 (xm _ hx) hlt (far _ hx)
        rw [kO] at this; omega
    · have := far _ hx
      rw [kO] at this; omega
theorem row_half {l : List Sp} {C : List Cu} (h : zJ l = true) (hc : ∀ s ∈ l, s.lo ∈ C ∧ s.hi ∈ C) : 2 * l.length ≤ C.length := by
  rw [← flatC_len]
  refine nodup_le _ _ (flatC_nodup h) fun x hx => ?_
  obtain ⟨s, hs, e⟩ := mE hx
  rcases e with rfl | rfl
  · exact (hc s hs).1
  · exact (hc s hs).2
theorem nS {p : Cu → Cu → Bool} {l : List Sp} (hl : ∀ s ∈ l, s.may = true) (h : zJ (q7 p [] (qJ l)) = true) : (q7 p [] (qJ l)).length ≤ 1 + l.length := by
  have h1 := row_half h (nT p (· ∈ qJ l) (qJ l) [] (fun c hc => hc) (fun s hs => by simp at hs))
  have h2 := cuts_len hl
  omega
theorem RF.make1 {l : List Sp} {n : Nat} (hl : ∀ s ∈ l, s.may = true) (hn : l.length ≤ n) : RF (wR l) (1 + n) := ⟨(pN hl).1, by
  have := nS (p := inL l) hl (pN hl).1
  unfold wR; omega⟩
theorem RF.or1 {a b : List Sp} {n m : Nat} (ha : RF a n) (hb : RF b m) : RF (orL a b) (1 + (n + m)) := RF.make1 (t7 ha.may hb.may) (by rw [List.length_append]; have := ha.len; have := hb.len; omega)
theorem RF.and1 {a b : List Sp} {n m : Nat} (ha : RF a n) (hb : RF b m) : RF (f5 a b) (1 + (n + m)) := ⟨(and_ok ha.may hb.may).1, by
  have h1 := nS (p := fun c d => inL a c d && inL b c d) (t7 ha.may hb.may) (and_ok ha.may hb.may).1
  have := ha.len; have := hb.len
  rw [List.length_append] at h1
  unfold f5; omega⟩
theorem RF.not1 {a : List Sp} {n : Nat} (ha : RF a n) : RF (vD a) (1 + n) := ⟨(wV ha.may).1, by
  have h1 := nS (p := fun c d => !inL a c d) (x3 ha.may) (wV ha.may).1
  have := ha.len
  unfold vD; omega⟩
theorem RF.rel1 {a : List Sp} {n : Nat} (ha : RF a n) : RF (gK a) (1 + n) := RF.make1 (makeRel_mays a) (by
  have := List.length_filter_le (fun s : Sp => s.may) (a.map bB)
  rw [List.length_map] at this
  have := ha.len; omega)
theorem SF.or1 {a b : St} {n m : Nat} (ha : SF a n) (hb : SF b m) : SF (orT a b) (1 + (n + m)) := ⟨ha.rel.or1 hb.rel, ha.pre.or1 hb.pre, ha.right.or hb.right⟩
theorem one_r1 (lo hi : Cu) : RF (xS lo hi) 1 := ⟨oneRow_may lo hi, by have := mM [] lo hi; unfold xS; simpa using this⟩
theorem m7 (c : Co) : RF c.region 2 := by
  unfold Co.region
  split
  · split
    · exact (one_r1 _ _).not1
    · exact (one_r1 _ _).le (by decide)
  · exact nil_rf.le (by decide)
theorem zone_r1 (c : Co) : RF c.zone 1 := ⟨zone_may, by unfold Co.zone; split <;> simp⟩
def xJ (a : List Co) : List Sp := a.foldl (fun l c => f5 l c.region) gO
def xL (a : List Co) : List Sp := a.foldl (fun l c => orL l c.zone) []
def yX (a : List Co) : St := ⟨gK (xJ a), f5 (xJ a) (xL a)⟩
def x9 (r : List (List Co)) : St := r.foldl (fun s a => orT s (yX a)) yY
def yW (r : List (List Co)) : St := if rgMay r then x9 r else yY
theorem altRel_snoc (a : List Co) (c : Co) : xJ (a ++ [c]) = f5 (xJ a) c.region := by unfold xJ; rw [List.foldl_append]; rfl
theorem tE (a : List Co) (c : Co) : xL (a ++ [c]) = orL (xL a) c.zone := by unfold xL; rw [List.foldl_append]; rfl
theorem orAll_snoc (r : List (List Co)) (a : List Co) : x9 (r ++ [a]) = orT (x9 r) (yX a) := by unfold x9; rw [List.foldl_append]; rfl
theorem snoc_rec {α : Type} {P : List α → Prop} (h0 : P []) (h1 : ∀ l x, P l → P (l ++ [x])) (l : List α) : P l := by
  have : ∀ n (l : List α), l.length = n → P l := by
    intro n
    induction n with
    | zero => intro l hl; rw [List.length_eq_zero_iff.1 hl]; exact h0
    | succ n ih =>
      intro l hl
      have hne : l ≠ [] := by rintro rfl; simp at hl
      rw [← List.dropLast_concat_getLast hne]
      exact h1 _ _ (ih _ (by rw [List.length_dropLast, hl]; rfl))
  exact this _ l rfl
theorem mJ (a : List Co) : RF (xJ a) (1 + 3 * a.length) :=
  snoc_rec (P := fun a => RF (xJ a) (1 + 3 * a.length)) whole_rf (fun l x h => by
    rw [altRel_snoc, List.length_append]
    exact (h.and1 (m7 x)).le (by simp; omega)) a
theorem altZone_rf (a : List Co) : RF (xL a) (2 * a.length) :=
  snoc_rec (P := fun a => RF (xL a) (2 * a.length)) nil_rf (fun l x h => by
    rw [tE, List.length_append]
    exact (h.or1 (zone_r1 x)).le (by simp; omega)) a
theorem altSet_sf (a : List Co) : SF (yX a) (2 + 5 * a.length) := ⟨(mJ a).rel1.le (by omega), ((mJ a).and1 (altZone_rf a)).le (by omega), makeRel_right (x3 (mJ a).may)⟩
theorem orAll_sf {n : Nat} (r : List (List Co)) : (∀ a ∈ r, a.length ≤ n) → SF (x9 r) (r.length * (3 + 5 * n)) :=
  snoc_rec (P := fun r => (∀ a ∈ r, a.length ≤ n) → SF (x9 r) (r.length * (3 + 5 * n))) (fun _ => by rw [List.length_nil, Nat.zero_mul]; exact none_sf) (fun l x h ha => by
    rw [orAll_snoc, List.length_append]
    have h1 := h fun a hm => ha a (List.mem_append.2 (.inl hm))
    have h2 := (altSet_sf x).le (m := 2 + 5 * n) (by have := ha x (by simp); omega)
    refine (h1.or1 h2).le ?_
    show _ ≤ (l.length + 1) * (3 + 5 * n)
    rw [Nat.add_mul, Nat.one_mul]; omega) r
theorem orAll_few {r : List (List Co)} (h : fewR r = true) : SF (x9 r) 198 := by
  obtain ⟨h1, h2⟩ := fewR.facts h
  refine (orAll_sf (n := 6) r fun a ha => ((fewA.facts (h2 a ha)).1).2).le ?_
  show r.length * 33 ≤ 198
  omega
theorem rgSet_sf (r : List (List Co)) : SF (yW r) 198 := by
  unfold yW
  split
  · rename_i h; exact orAll_few (rgMay.facts h).1
  · exact none_sf.le (by decide)
end
section
theorem altsL_index : ∀ (s acc : List UInt8), kV acc s = if Lib.index s [124, 124] = -1 then [acc ++ s] else (acc ++ s.take (Lib.index s [124, 124]).toNat) :: kV [] (s.drop ((Lib.index s [124, 124]).toNat + 2))
  | [], acc => by simp [kV, Lib.index]
  | [c], acc => by simp [kV, Lib.index, List.isPrefixOf]
  | c :: d :: r, acc => by
    by_cases h : c = 124 ∧ d = 124
    · obtain ⟨rfl, rfl⟩ := h
      have e : Lib.index (124 :: 124 :: r) [124, 124] = 0 := by simp [Lib.index, List.isPrefixOf]
      rw [e, kV, if_pos ⟨rfl, rfl⟩, if_neg (by decide)]; simp
    · have hp : List.isPrefixOf ([124, 124] : List UInt8) (c :: d :: r) = false := by
        rw [List.isPrefixOf, List.isPrefixOf, List.isPrefixOf]
        by_cases hc : c = 124
        · have hd : ¬ d = 124 := fun q => h ⟨hc, q⟩
          have : ((124 : UInt8) == d) = false := beq_eq_false_iff_ne.2 (Ne.symm hd)
          simp [this]
        · have : ((124 : UInt8) == c) = false := beq_eq_false_iff_ne.2 (Ne.symm hc)
          simp [this]
      have ge := Lib.index_ge (d :: r) [124, 124]
      rw [kV, if_neg h, altsL_index (d :: r) (acc ++ [c])]
      have e : Lib.index (c :: d :: r) [124, 124] = if Lib.index (d :: r) [124, 124] = -1 then -1 else Lib.index (d :: r) [124, 124] + 1 := by
        conv => lhs; rw [Lib.index]
        rw [hp, if_neg (by decide)]
        simp
      rw [e]
      generalize Lib.index (d :: r) [124, 124] = n at ge
      by_cases hn : n = -1
      · subst hn; simp
      · rw [if_neg hn, if_neg hn, if_neg (by omega)]
        have e2 : (n + 1).toNat = n.toNat + 1 := by omega
        rw [e2, List.take_succ_cons, show n.toNat + 1 + 2 = (n.toNat + 2) + 1 from by omega, List.drop_succ_cons]
        simp
theorem fB (sep : List UInt8) : ∀ (f : Nat) (s : List UInt8), s.length < f → Lib.splitK sep 0 (Lib.countFrom sep f s) s = if Lib.index s sep = -1 then [s] else s.take (Lib.index s sep).toNat :: Lib.splitK sep 0 (Lib.countFrom sep (f - 1) (s.drop ((Lib.index s sep).toNat + sep.length))) (s.drop ((Lib.index s sep).toNat + sep.length))
  | f + 1, s, h => by
    rw [Lib.countFrom]
    by_cases q : Lib.index s sep = -1
    · rw [if_pos (by simp [q]), if_pos q, Lib.splitK]
    · rw [if_neg (by simp [q]), if_neg q, Nat.add_comm 1, Lib.splitK, if_neg (by simp [q]), Nat.add_zero]; rfl
theorem alts_from : ∀ (f : Nat) (s : List UInt8), s.length < f → Lib.splitK [124, 124] 0 (Lib.countFrom [124, 124] f s) s = kV [] s
  | f + 1, s, h => by
    rw [fB _ _ _ h, altsL_index s []]
    by_cases q : Lib.index s [124, 124] = -1
    · rw [if_pos q, if_pos q]; rfl
    · have hr := Lib.index_room s [124, 124] (by have := Lib.index_ge s [124, 124]; omega)
      rw [if_neg q, if_neg q]
      show _ :: Lib.splitK [124, 124] 0 (Lib.countFrom [124, 124] f _) _ = _
      rw [alts_from f _ (by rw [List.length_drop]; simp only [List.length_cons, List.length_nil]; simp only [List.length_cons, List.length_nil] at hr; have := Lib.index_ge s [124, 124]; omega)]
      rfl
theorem split_alts (s : List UInt8) : Lib.splitK [124, 124] 0 (Lib.count s [124, 124]) s = kV [] s := alts_from _ s (Nat.lt_succ_self _)
theorem cut_index (b : UInt8) (s : List UInt8) : yD b [] s = if Lib.index s [b] = -1 then [s] else s.take (Lib.index s [b]).toNat :: yD b [] (s.drop ((Lib.index s [b]).toNat + 1)) := by
  have hc := tX b s
  have hge := Lib.index_ge s [b]
  rw [kU, ← hc]
  unfold Lib.cut
  by_cases h : Lib.index s [b] = -1
  · have h2 : ¬ 0 ≤ Lib.index s [b] := by omega
    simp [h]
  · have h2 : 0 ≤ Lib.index s [b] := by omega
    simp [h, h2]
theorem cuts_from (b : UInt8) : ∀ (f : Nat) (s : List UInt8), s.length < f → Lib.splitK [b] 0 (Lib.countFrom [b] f s) s = yD b [] s
  | f + 1, s, h => by
    rw [fB _ _ _ h, cut_index b s]
    by_cases q : Lib.index s [b] = -1
    · rw [if_pos q, if_pos q]
    · have hr := Lib.index_room s [b] (by have := Lib.index_ge s [b]; omega)
      rw [if_neg q, if_neg q]
      show _ :: Lib.splitK [b] 0 (Lib.countFrom [b] f _) _ = _
      rw [cuts_from b f _ (by rw [List.length_drop]; simp only [List.length_cons, List.length_nil]; simp only [List.length_cons, List.length_nil] at hr; have := Lib.index_ge s [b]; omega)]
      rfl
theorem split_cuts (b : UInt8) (s : List UInt8) : Lib.splitK [b] 0 (Lib.count s [b]) s = yD b [] s := cuts_from b _ s (Nat.lt_succ_self _)
theorem wM (sep : List UInt8) (k : Nat) (s : List UInt8) : Lib.splitB (mkS sep) 0 k (mkS s) = (Lib.splitK sep 0 k s).map mkS := by
  have h := Lib.splitB_data (mkS sep) 0 k (mkS s)
  rw [mk_data, mk_data] at h
  rw [← h, List.map_map]
  refine ((List.map_congr_left fun x _ => ?_).trans (List.map_id _)).symm
  exact Lib.mk_data x
theorem splitB_alts (s : List UInt8) : Lib.splitB (mkS [124, 124]) 0 (Lib.countB (mkS s) (mkS [124, 124])) (mkS s) = (kV [] s).map mkS := by
  rw [wM, show Lib.countB (mkS s) (mkS [124, 124]) = Lib.count s [124, 124] from by unfold Lib.countB; rw [mk_data, mk_data], split_alts]
theorem splitB_cuts (b : UInt8) (s : List UInt8) : Lib.splitB (mkS [b]) 0 (Lib.countB (mkS s) (mkS [b])) (mkS s) = (yD b [] s).map mkS := by
  rw [wM, show Lib.countB (mkS s) (mkS [b]) = Lib.count s [b] from by unfold Lib.countB; rw [mk_data, mk_data], split_cuts]
theorem nV : ∀ (s : List UInt8), Lib.trimLeftB s 32 = k8 s
  | [] => rfl
  | c :: l => by
    unfold Lib.trimLeftB
    rw [k8, List.dropWhile_cons]
    by_cases h : c = 32
    · subst h
      rw [if_pos (by decide), if_pos rfl]; exact nV l
    · rw [if_neg (by simp [h]), if_neg h]
def bareR (s : List UInt8) : List UInt8 := (k8 s.reverse).reverse
theorem bareF_snoc {c : UInt8} (h : c ≠ 32) : ∀ (x : List UInt8), k8 (x ++ [c]) = k8 x ++ [c]
  | [] => by
    show k8 [c] = [c]
    rw [k8]; exact if_neg h
  | d :: x => by
    rw [List.cons_append, k8, k8]
    by_cases q : d = 32
    · rw [if_pos q, if_pos q, bareF_snoc h x]
    · rw [if_neg q, if_neg q]; rfl
theorem tA : ∀ (x : List UInt8), k8 (x ++ [32]) = if k8 x = [] then [] else k8 x ++ [32]
  | [] => by simp [k8]
  | d :: x => by
    rw [List.cons_append, k8, k8]
    by_cases q : d = 32
    · rw [if_pos q, if_pos q, tA x]
    · rw [if_neg q, if_neg q, if_neg (by simp)]; rfl
theorem bare_swap : ∀ (s : List UInt8), k8 (bareR s) = bareR (k8 s)
  | [] => rfl
  | c :: l => by
    have ih := bare_swap l
    by_cases h : c = 32
    · subst h
      rw [show k8 (32 :: l) = k8 l from by rw [k8, if_pos rfl], ← ih]
      unfold bareR
      rw [List.reverse_cons, tA]
      by_cases q : k8 l.reverse = []
      · rw [if_pos q, q]
      · rw [if_neg q, List.reverse_append]
        show k8 (32 :: (k8 l.reverse).reverse) = _
        rw [k8, if_pos rfl]
    · rw [show k8 (c :: l) = c :: l from by rw [k8, if_neg h]]
      unfold bareR
      rw [List.reverse_cons, bareF_snoc h, List.reverse_append]
      show k8 (c :: (k8 l.reverse).reverse) = c :: (k8 l.reverse).reverse
      rw [k8, if_neg h]
theorem trim_bare (s : List UInt8) : Lib.trimB s 32 = xO s := by
  unfold Lib.trimB Lib.trimRightB
  have e : ∀ l : List UInt8, l.dropWhile (· == 32) = k8 l := nV
  rw [e, nV]
  exact bare_swap s
def wJ (r : List (List Co)) : List UInt8 := if fewR r then qT r else []
theorem altText_ne {a : List Co} (h : fewA a = true) : kC a ≠ [] := by
  obtain ⟨h1, h2⟩ := fewA.facts h
  cases a with
  | nil => exact absurd h1.1 (by decide)
  | cons c l =>
    have hc : c.print ≠ [] := by
      rw [qX (h2 c (List.mem_cons_self ..))]
      exact text_ne (h2 c (List.mem_cons_self ..))
    unfold kC
    cases l with
    | nil => exact hc
    | cons d l => 
      rw [List.map_cons, List.map_cons, jV]
      intro e
      exact hc (List.append_eq_nil_iff.1 (List.append_eq_nil_iff.1 e).1).1
theorem rgText_ne {r : List (List Co)} (h : fewR r = true) : qT r ≠ [] := by
  obtain ⟨h1, h2⟩ := fewR.facts h
  cases r with
  | nil => exact absurd h1.1 (by decide)
  | cons a l =>
    have hc := altText_ne (h2 a (List.mem_cons_self ..))
    unfold qT
    cases l with
    | nil => exact hc
    | cons d l =>
      rw [List.map_cons, List.map_cons, jV]
      intro e
      exact hc (List.append_eq_nil_iff.1 (List.append_eq_nil_iff.1 e).1).1
theorem textR_nil {r : List (List Co)} : wJ r = [] ↔ fewR r = false := by
  unfold wJ
  cases h : fewR r with
  | false => simp
  | true => simp [rgText_ne h]
theorem print_text (r : List (List Co)) : m6 r = if 96 < (wJ r).length then [] else wJ r := by
  unfold m6 rgMay wJ
  cases fewR r with
  | false => simp
  | true =>
    by_cases h : (qT r).length ≤ 96
    · simp [h, Nat.not_lt.2 h]
    · simp [h, Nat.lt_of_not_le h]
theorem print_nil (r : List (List Co)) : m6 r = [] ↔ rgMay r = false := by
  unfold m6
  cases h : rgMay r with
  | false => simp
  | true => simp [rgText_ne (rgMay.facts h).1]
end
section
def sgs : List UInt8 := [60, 61, 62]
def vH (p : List UInt8) : List UInt8 := Lib.trimLeftS p sgs
def vU (p : List UInt8) : List UInt8 := p.takeWhile (sgs.contains ·)
theorem sgn_num (p : List UInt8) : vU p ++ vH p = p := List.takeWhile_append_dropWhile ..
theorem trim_sgn (p : List UInt8) : Lib.trimSuffix p (vH p) = vU p := by
  have h := sgn_num p
  unfold Lib.trimSuffix Lib.hasSuffix
  rw [if_pos (by rw [List.isSuffixOf_iff_suffix]; exact ⟨vU p, h⟩)]
  conv => lhs; rw [← h]
  rw [show (vU p ++ vH p).length - (vH (vU p ++ vH p)).length = (vU p).length from by rw [h, ← h]; rw [List.length_append, h]; omega]
  rw [List.take_left]
theorem num_len (p : List UInt8) : (vH p).length ≤ p.length := by
  have h := congrArg List.length (sgn_num p)
  rw [List.length_append] at h; omega
def kE (x : Sp) (p : List UInt8) : Sp :=
  if vU p = [62, 61] then ⟨⟨0, (g5 (vH p)).getD Ver.zero, false⟩, x.hi⟩
  else if vU p = [62] then ⟨⟨0, (g5 (vH p)).getD Ver.zero, true⟩, x.hi⟩
  else if vU p = [60] then ⟨x.lo, ⟨0, (g5 (vH p)).getD Ver.zero, false⟩⟩
  else if vU p = [60, 61] then ⟨x.lo, ⟨0, (g5 (vH p)).getD Ver.zero, true⟩⟩
  else x
def spW0 : Sp := ⟨zZ (-1), zZ 1⟩
def wU (s : List UInt8) : Sp := (yD 32 [] s).foldl kE spW0
def tM (s : List UInt8) : List (List UInt8) := Lib.splitK [32, 111, 114, 32] 0 (Lib.count s [32, 111, 114, 32]) s
def x4 (s : List UInt8) : List Sp := if s = [45] then [] else (tM s).map wU
def dW (s : List UInt8) : St := ⟨x4 (Lib.cut s [32, 47, 32]).1, if (Lib.cut s [32, 47, 32]).2.2 = true then x4 (Lib.cut s [32, 47, 32]).2.1 else []⟩
theorem nN {c : UInt8} {r sep : List UInt8} (h : List.isPrefixOf sep (c :: r) = false) : Lib.index (c :: r) sep = if Lib.index r sep = -1 then -1 else Lib.index r sep + 1 := by
  conv => lhs; rw [Lib.index]
  rw [h, if_neg (by decide)]
  simp
def adv (n : Int) (k : Nat) : Int := if n = -1 then -1 else n + k
theorem adv_succ {n : Int} (h : -1 ≤ n) (k : Nat) : (if adv n k = -1 then -1 else adv n k + 1) = adv n (k + 1) := by
  unfold adv
  by_cases q : n = -1
  · simp [q]
  · rw [if_neg q, if_neg q, if_neg (by omega)]; push_cast; omega
theorem adv_adv {n : Int} (h : -1 ≤ n) (a b : Nat) : adv (adv n a) b = adv n (a + b) := by
  unfold adv
  by_cases q : n = -1
  · simp [q]
  · rw [if_neg q, if_neg q, if_neg (by omega)]; push_cast; omega
theorem nM (t : List UInt8) (r : List UInt8) : ∀ (w : List UInt8), (32 : UInt8) ∉ w → Lib.index (w ++ r) (32 :: t) = adv (Lib.index r (32 :: t)) w.length
  | [], _ => by
    unfold adv
    rw [List.nil_append]
    split
    · assumption
    · simp
  | c :: w, h => by
    have hc : ((32 : UInt8) == c) = false := beq_eq_false_iff_ne.2 fun e => h (by rw [e]; exact List.mem_cons_self ..)
    rw [List.cons_append, nN (by rw [List.isPrefixOf, hc]; rfl), nM t r w fun e => h (List.mem_cons_of_mem _ e), adv_succ (Lib.index_ge _ _)]
    rfl
theorem index_blank {d : UInt8} {r t : List UInt8} {x : UInt8} (h : d ≠ x) : Lib.index (32 :: d :: r) (32 :: x :: t) = adv (Lib.index (d :: r) (32 :: x :: t)) 1 := by
  have hc : (x == d) = false := beq_eq_false_iff_ne.2 (Ne.symm h)
  rw [nN (by rw [List.isPrefixOf, List.isPrefixOf, hc]; simp)]
  unfold adv; simp
theorem index_hit (sep r : List UInt8) (h : sep ≠ []) : Lib.index (sep ++ r) sep = 0 := by
  cases sep with
  | nil => exact absurd rfl h
  | cons a s =>
    rw [List.cons_append, Lib.index, if_pos]
    rw [List.isPrefixOf_iff_prefix]
    exact ⟨r, rfl⟩
theorem index_nil (a : UInt8) (t : List UInt8) : Lib.index [] (a :: t) = -1 := rfl
theorem words_index {s : Sp} (h : s.may = true) (r : List UInt8) : Lib.index (xF s ++ r) [32, 111, 114, 32] = adv (Lib.index r [32, 111, 114, 32]) (xF s).length := by
  have hw := d7 h
  have key : ∀ l : List (List UInt8), (∀ x ∈ l, Wd x) → l ≠ [] → Lib.index (y5 32 l ++ r) [32, 111, 114, 32] = adv (Lib.index r [32, 111, 114, 32]) (y5 32 l).length := by
    intro l
    induction l with
    | nil => intro _ h; exact absurd rfl h
    | cons x l ih =>
      intro hx _
      cases l with
      | nil => exact nM _ r x (hx x (List.mem_cons_self ..)).b
      | cons y m =>
        have h2 := ih (fun z hz => hx z (List.mem_cons_of_mem _ hz)) (by simp)
        obtain ⟨d, q, e, hd⟩ : ∃ d q, y5 32 (y :: m) = d :: q ∧ d ≠ 111 := by
          obtain ⟨d, q, e, hd⟩ := (hx y (by simp)).h
          have hd2 : d ≠ 111 := by rcases hd with rfl | rfl | rfl <;> decide
          cases m with
          | nil => exact ⟨d, q, by rw [← e]; rfl, hd2⟩
          | cons z m => exact ⟨d, q ++ 32 :: y5 32 (z :: m), by rw [y5, e]; rfl, hd2⟩
        rw [y5, List.append_assoc, nM _ _ x (hx x (List.mem_cons_self ..)).b, List.cons_append]
        rw [e] at h2 ⊢
        rw [List.cons_append, index_blank hd]
        rw [List.cons_append] at h2
        rw [h2, adv_adv (Lib.index_ge _ _), adv_adv (Lib.index_ge _ _)]
        congr 1
        simp only [List.length_append, List.length_cons]; omega
  exact key _ hw (spW_ne s)
theorem ors_unf (s : List UInt8) : tM s = if Lib.index s [32, 111, 114, 32] = -1 then [s] else s.take (Lib.index s [32, 111, 114, 32]).toNat :: tM (s.drop ((Lib.index s [32, 111, 114, 32]).toNat + 4)) := by
  have hge := Lib.index_ge s [32, 111, 114, 32]
  have key : ∀ (f g : Nat) (t : List UInt8), t.length < f → t.length < g → Lib.countFrom [32, 111, 114, 32] f t = Lib.countFrom [32, 111, 114, 32] g t := by
    intro f
    induction f with
    | zero => intro g t h; omega
    | succ f ih =>
      intro g t h1 h2
      cases g with
      | zero => omega
      | succ g =>
        rw [Lib.countFrom, Lib.countFrom]
        by_cases q : Lib.index t [32, 111, 114, 32] = -1
        · rw [if_pos (by simp [q]), if_pos (by simp [q])]
        · have hr := Lib.index_room t [32, 111, 114, 32] (by have := Lib.index_ge t [32, 111, 114, 32]; omega)
          simp only [List.length_cons, List.length_nil] at hr
          have hg := Lib.index_ge t [32, 111, 114, 32]
          rw [if_neg (by simp [q]), if_neg (by simp [q]), ih g _ (by rw [List.length_drop]; simp only [List.length_cons, List.length_nil]; omega) (by rw [List.length_drop]; simp only [List.length_cons, List.length_nil]; omega)]
  unfold tM Lib.count
  rw [fB _ _ _ (Nat.lt_succ_self _)]
  by_cases q : Lib.index s [32, 111, 114, 32] = -1
  · rw [if_pos q, if_pos q]
  · have hr := Lib.index_room s [32, 111, 114, 32] (by omega)
    simp only [List.length_cons, List.length_nil] at hr
    rw [if_neg q, if_neg q, show ([32, 111, 114, 32] : List UInt8).length = 4 from rfl]
    congr 2
    exact key _ _ _ (by rw [List.length_drop]; omega) (by omega)
theorem ors_row : ∀ (l : List Sp), l ≠ [] → (∀ s ∈ l, s.may = true) → tM (g8 [32, 111, 114, 32] (l.map xF)) = l.map xF
  | [], h, _ => absurd rfl h
  | [s], _, h => by
    have e := words_index (h s (List.mem_singleton.2 rfl)) []
    rw [List.append_nil, index_nil, show adv (-1) (xF s).length = -1 from if_pos rfl] at e
    rw [List.map_cons, List.map_nil, g8, ors_unf, e, if_pos rfl]
  | s :: t :: r, _, h => by
    have e := words_index (h s (List.mem_cons_self ..)) ([32, 111, 114, 32] ++ g8 [32, 111, 114, 32] ((t :: r).map xF))
    rw [index_hit _ _ (by decide)] at e
    have e2 : adv 0 (xF s).length = ((xF s).length : Int) := by unfold adv; rw [if_neg (by decide)]; omega
    rw [e2] at e
    have ih := ors_row (t :: r) (by simp) fun x hx => h x (List.mem_cons_of_mem _ hx)
    rw [List.map_cons] at e ih
    have hd : (xF s ++ ([32, 111, 114, 32] ++ g8 [32, 111, 114, 32] (xF t :: r.map xF))).drop ((xF s).length + 4) = g8 [32, 111, 114, 32] (xF t :: r.map xF) := by
      rw [← List.append_assoc, show (xF s).length + 4 = (xF s ++ [32, 111, 114, 32]).length from by rw [List.length_append]; rfl, List.drop_left]
    rw [List.map_cons, List.map_cons, jV, List.append_assoc, ors_unf, e, if_neg (by omega), Int.toNat_natCast, List.take_left, hd, ih]
theorem ors_len (s : List UInt8) : (tM s).length ≤ s.length + 1 := by
  have h := wM [32, 111, 114, 32] (Lib.count s [32, 111, 114, 32]) s
  have h2 := Lib.splitB_length_le (mkS [32, 111, 114, 32]) 0 (Lib.count s [32, 111, 114, 32]) (mkS s)
  rw [h, List.length_map] at h2
  have h3 := Lib.countB_le (mkS [32, 111, 114, 32]) (by decide) (mkS s).size (mkS s) (Nat.le_refl _)
  rw [show Lib.countB (mkS s) (mkS [32, 111, 114, 32]) = Lib.count s [32, 111, 114, 32] from by unfold Lib.countB; rw [mk_data, mk_data], show (mkS s).size = s.length from by rw [Lib.size_eq, mk_data]] at h3
  unfold tM; omega
theorem splitK_le (sep : List UInt8) : ∀ (k : Nat) (s : List UInt8), ∀ x ∈ Lib.splitK sep 0 k s, x.length ≤ s.length
  | 0, s, x, h => by rw [Lib.splitK, List.mem_singleton] at h; rw [h]; exact Nat.le_refl _
  | k + 1, s, x, h => by
    rw [Lib.splitK] at h
    split at h
    · rw [List.mem_singleton] at h; rw [h]; exact Nat.le_refl _
    · rcases List.mem_cons.1 h with rfl | h
      · rw [List.length_take]; exact Nat.min_le_right ..
      · have := splitK_le sep k _ x h; rw [List.length_drop] at this; omega
theorem ors_le (s : List UInt8) : ∀ x ∈ tM s, x.length ≤ s.length := splitK_le _ _ _
theorem sgn_at : ∀ (a n : List UInt8), (∀ x ∈ a, sgs.contains x = true) → (∀ d q, n = d :: q → sgs.contains d = false) → vU (a ++ n) = a ∧ vH (a ++ n) = n
  | [], n, _, h => by
    unfold vU vH Lib.trimLeftS
    cases n with
    | nil => exact ⟨rfl, rfl⟩
    | cons d q =>
      have hd := h d q rfl
      rw [List.nil_append]
      exact ⟨List.takeWhile_cons_of_neg (by rw [hd]; decide), List.dropWhile_cons_of_neg (by rw [hd]; decide)⟩
  | c :: a, n, ha, h => by
    have ih := sgn_at a n (fun x hx => ha x (List.mem_cons_of_mem _ hx)) h
    have hc := ha c (List.mem_cons_self ..)
    unfold vU vH Lib.trimLeftS at ih ⊢
    rw [List.cons_append, List.takeWhile_cons_of_pos hc, List.dropWhile_cons_of_pos hc, ih.1, ih.2]
    exact ⟨rfl, rfl⟩
theorem ver_sgn {v : Ver} (h : v.may = true) (hb : v.build = []) : ∀ d q, v.text = d :: q → sgs.contains d = false := by
  intro d q e
  have hm : d ∈ v.text := by rw [e]; exact List.mem_cons_self ..
  have h1 := j7 h hb 60 (by decide) (by decide)
  have h2 := j7 h hb 61 (by decide) (by decide)
  have h3 := j7 h hb 62 (by decide) (by decide)
  unfold sgs
  simp only [List.contains, List.elem]
  have e1 : (d == 60) = false := beq_eq_false_iff_ne.2 fun q => h1 (q ▸ hm)
  have e2 : (d == 61) = false := beq_eq_false_iff_ne.2 fun q => h2 (q ▸ hm)
  have e3 : (d == 62) = false := beq_eq_false_iff_ne.2 fun q => h3 (q ▸ hm)
  rw [e1, e2, e3]
theorem rd_lo {c : Cu} (h : In c) (x : Sp) : kE x (kS c) = ⟨c, x.hi⟩ := by
  have hp := jE h.m
  have he := h.eq
  have hv := ver_sgn h.m h.b
  unfold kS kE
  cases ha : c.aft with
  | true =>
    obtain ⟨e1, e2⟩ := sgn_at [62] c.v.text (by decide) hv
    rw [show (if true = true then ([62] : List UInt8) else [62, 61]) = [62] from rfl, e1, e2, if_neg (by decide), if_pos rfl, hp, Option.getD_some, ← ha, ← he]
  | false =>
    obtain ⟨e1, e2⟩ := sgn_at [62, 61] c.v.text (by decide) hv
    rw [show (if false = true then ([62] : List UInt8) else [62, 61]) = [62, 61] from rfl, e1, e2, if_pos rfl, hp, Option.getD_some, ← ha, ← he]
theorem rd_hi {c : Cu} (h : In c) (x : Sp) : kE x (gB c) = ⟨x.lo, c⟩ := by
  have hp := jE h.m
  have he := h.eq
  have hv := ver_sgn h.m h.b
  unfold gB kE
  cases ha : c.aft with
  | true =>
    obtain ⟨e1, e2⟩ := sgn_at [60, 61] c.v.text (by decide) hv
    rw [show (if true = true then ([60, 61] : List UInt8) else [60]) = [60, 61] from rfl, e1, e2, if_neg (by decide), if_neg (by decide), if_neg (by decide), if_pos rfl, hp, Option.getD_some, ← ha, ← he]
  | false =>
    obtain ⟨e1, e2⟩ := sgn_at [60] c.v.text (by decide) hv
    rw [show (if false = true then ([60, 61] : List UInt8) else [60]) = [60] from rfl, e1, e2, if_neg (by decide), if_neg (by decide), if_pos rfl, hp, Option.getD_some, ← ha, ← he]
theorem rd_span {s : Sp} (h : s.may = true) : wU (xF s) = s := by
  obtain ⟨h1, h2⟩ := zU h
  unfold wU xF
  rw [fA 32 _ (spW_ne s) fun x hx => (d7 h x hx).b]
  obtain ⟨lo, hi⟩ := s
  unfold spW loW hiW
  dsimp only at *
  by_cases a : lo.e = 0
  · have il := In.of h1 a
    by_cases b : hi.e = 0
    · have ih := In.of h2 b
      rw [if_pos a, if_pos b, if_neg (by simp)]
      show kE (kE spW0 (kS lo)) (gB hi) = _
      rw [rd_lo il, rd_hi ih]
    · have e := hi_end h b; dsimp only at e; subst e
      rw [if_pos a, if_neg b, if_neg (by simp)]
      show kE spW0 (kS lo) = _
      rw [rd_lo il]; rfl
  · have e := lo_end h a; dsimp only at e; subst e
    by_cases b : hi.e = 0
    · have ih := In.of h2 b
      rw [if_neg a, if_pos b, if_neg (by simp)]
      show kE spW0 (gB hi) = _
      rw [rd_hi ih]; rfl
    · have e := hi_end h b; dsimp only at e; subst e
      rfl
theorem rd_row {l : List Sp} (h : zJ l = true) : x4 (yG l) = l := by
  unfold x4 yG
  by_cases h0 : l = []
  · subst h0; rfl
  · obtain ⟨d, q, e, hd⟩ := n9 l h0 (g0 h)
    rw [if_neg h0, if_neg (by rw [bH l h0, e]; intro e2; injection e2 with e2 _; subst e2; revert hd; decide), ors_row l h0 (g0 h), List.map_map]
    conv => rhs; rw [← List.map_id l]
    exact List.map_congr_left fun s hs => rd_span (g0 h s hs)
theorem d8 : ∀ (a r : List UInt8), (47 : UInt8) ∉ a → (r = [] ∨ ∃ b, r = [32, 47, 32] ++ b) → Lib.index (a ++ r) [32, 47, 32] = adv (Lib.index r [32, 47, 32]) a.length
  | [], r, _, _ => by
    unfold adv
    rw [List.nil_append]
    split
    · assumption
    · simp
  | c :: a, r, h, hr => by
    have ha : (47 : UInt8) ∉ a := fun e => h (List.mem_cons_of_mem _ e)
    have hp : List.isPrefixOf ([32, 47, 32] : List UInt8) (c :: (a ++ r)) = false := by
      rw [List.isPrefixOf]
      cases a with
      | nil =>
        rcases hr with rfl | ⟨b, rfl⟩
        · simp [List.isPrefixOf]
        · simp [List.isPrefixOf]
      | cons d a =>
        have hd : ((47 : UInt8) == d) = false := beq_eq_false_iff_ne.2 fun e => ha (by rw [e]; exact List.mem_cons_self ..)
        rw [List.cons_append, List.isPrefixOf, hd]; simp
    rw [List.cons_append, nN hp, d8 a r ha hr, adv_succ (Lib.index_ge _ _)]
    rfl
theorem rdSet_text {s : St} (h : s.may = true) : dW (x8 s) = s := by
  obtain ⟨h1, h2, h3⟩ := St.facts h
  obtain ⟨a, b⟩ := s
  dsimp only at *
  have hz := n8 h1
  unfold dW x8
  dsimp only
  by_cases h0 : b = []
  · have e := d8 (yG a) [] hz (.inl rfl)
    rw [List.append_nil, index_nil] at e
    have hc : Lib.cut (yG a) [32, 47, 32] = (yG a, [], false) := by unfold Lib.cut; rw [e]; rfl
    rw [if_pos h0, hc]
    show St.mk (x4 (yG a)) [] = _
    rw [rd_row h1, h0]
  · have e := d8 (yG a) ([32, 47, 32] ++ yG b) hz (.inr ⟨_, rfl⟩)
    rw [index_hit _ _ (by decide)] at e
    have e2 : adv 0 (yG a).length = ((yG a).length : Int) := by unfold adv; rw [if_neg (by decide)]; omega
    rw [e2] at e
    have hc : Lib.cut (yG a ++ [32, 47, 32] ++ yG b) [32, 47, 32] = (yG a, yG b, true) := by
      unfold Lib.cut
      rw [List.append_assoc, e, if_pos (by omega), Int.toNat_natCast, List.take_left, ← List.append_assoc, show (yG a).length + ([32, 47, 32] : List UInt8).length = (yG a ++ [32, 47, 32]).length from by rw [List.length_append], List.drop_left]
    rw [if_neg h0, hc, if_pos rfl, rd_row h1, rd_row h2]
theorem land_eq (t : List UInt8) : (if yN (dW t) = t then some (dW t) else none) = gZ t := by
  by_cases h : yN (dW t) = t
  · rw [if_pos h]
    have h2 := h
    unfold yN at h2
    by_cases hm : (dW t).may = true
    · rw [if_pos hm] at h2
      conv => rhs; rw [← h2]
      exact (parseT_text hm).symm
    · rw [if_neg hm] at h2
      exfalso
      subst h2
      revert hm; decide +kernel
  · rw [if_neg h]
    cases hp : gZ t with
    | none => rfl
    | some s =>
      obtain ⟨h1, h2⟩ := fG hp
      exfalso
      apply h
      rw [← h2, rdSet_text h1]
      exact if_pos h1
end
section
end
section
def ordSp (c d : Cu) : Sp := if 0 < zN c d then ⟨d, c⟩ else ⟨c, d⟩
def spG (l : List Int) (i n : Nat) : Sp := ordSp (genC l (i + 12 * n - 11)) (genC l (i + 12 * n - 5))
def spansG (l : List Int) (i : Nat) : Nat → List Sp
  | 0 => []
  | n + 1 => (if (spG l i (n + 1)).may then [spG l i (n + 1)] else []) ++ spansG l i n
structure SpI (l : List Int) (i N n : Nat) (z : Int) (u : Value) (acc : List Sp) (ob : List Blk) : Prop where
  z : z = (n : Int)
  sl : SlS u acc ob
  len : acc.length + n ≤ N
  eq : acc ++ spansG l i n = spansG l i N
end
section
def rowG (l : List Int) (i : Nat) : List Sp := wR (spansG l i (plc (atL l i) (4 + 1 : Nat)).toNat)
end
section
end
section
theorem core_short {v : Ver} (h : v.short) : (xY v).short := ⟨h.1, by show ([] : List UInt8).length ≤ _; exact Nat.zero_le _⟩
theorem tO (v : Ver) : (yP v).pre = [] ∧ (yP v).build = [] := by
  cases h : v.may with
  | false => unfold yP; rw [h]; exact ⟨rfl, rfl⟩
  | true =>
    rcases next_is h with ⟨h1, h2, _⟩ | ⟨_, a, b, c, e, _⟩
    · unfold kR at h1
      rw [h, h2] at h1
      simp at h1
      unfold yP
      simp [h, h2, h1]
      exact ⟨rfl, rfl⟩
    · rw [e]; exact ⟨rfl, rfl⟩
theorem next_short (v : Ver) : (yP v).short := ⟨by rw [(tO v).1]; exact Nat.zero_le _, by rw [(tO v).2]; exact Nat.zero_le _⟩
theorem relV_short (v : Ver) : (mN v).short := ⟨by show ([] : List UInt8).length ≤ _; exact Nat.zero_le _, by show ([] : List UInt8).length ≤ _; exact Nat.zero_le _⟩
end
section
structure SetIn (w : World) (B : Nat) (A A' : Option Addr) (a : St) : Prop where
  rel : Reads yR w B A a.rel
  pre : Reads yR w B A' a.pre
  lr : a.rel.length ≤ 100000
  lp : a.pre.length ≤ 100000
  sr : yU a.rel
  sp : yU a.pre
theorem SetIn.on {w w' : World} {B B' : Nat} {A A' : Option Addr} {a : St} (h : SetIn w B A A' a) (hb : Below B w w') (hB : B ≤ B') : SetIn w' B' A A' a := ⟨h.rel.on hb hB, h.pre.on hb hB, h.lr, h.lp, h.sr, h.sp⟩
theorem rsetSame_any (A B A' B' : Option Addr) (c d c' d' : Nat) (a b : St) (W : World) (hs : SetIn W W.heap.size A B a) (ht : SetIn W W.heap.size A' B' b) : Calls Tryz.prog 15 #[.agg #[.slice A a.rel.length c, .slice B a.pre.length d], .agg #[.slice A' b.rel.length c', .slice B' b.pre.length d']] W fun e w' => e = .returned (.bool (decide (a.rel = b.rel) && decide (a.pre = b.pre))) ∧ Below W.heap.size W w' := by
  refine zR (n := 17) Tryz.func15 rfl (by kernel_rfl) (by kernel_rfl) (ZO (Zb (.agg #[.slice A a.rel.length c, .slice B a.pre.length d]) (fun b1 => Zb (.agg #[.slice A' b.rel.length c', .slice B' b.pre.length d']) (fun b2 => Zv (.bool false) (ZR (Zv (.pointer (some ⟨b1, 0, none⟩)) (Zl 1 ⟨b1, #[.slice A a.rel.length c, .slice B a.pre.length d], 24⟩ (off := 0) (.slice A a.rel.length c) ?_)))))))
  refine Zv (.pointer (some ⟨b2, 0, none⟩)) (Zl 0 ⟨b2, #[.slice A' b.rel.length c', .slice B' b.pre.length d'], 24⟩ (off := 0) (.slice A' b.rel.length c') (Zc (k := 31) (args := #[.slice A a.rel.length c, .slice A' b.rel.length c']) (.bool (decide (a.rel = b.rel))) (fun w hO => rsame_any A A' c c' a.rel b.rel w (hs.rel.on hO.below hO.size) (ht.rel.on hO.below hO.size) (Nat.le_trans hs.lr (by decide)) (Nat.le_trans ht.lr (by decide))) (Zv (.bool (decide (a.rel = b.rel))) ?_)))
  cases h1 : decide (a.rel = b.rel) with
  | true =>
    exact Zv (.pointer (some ⟨b1, 1, none⟩)) (Zl 1 ⟨b1, #[.slice A a.rel.length c, .slice B a.pre.length d], 24⟩ (off := 1) (.slice B a.pre.length d) (Zv (.pointer (some ⟨b2, 1, none⟩)) (Zl 0 ⟨b2, #[.slice A' b.rel.length c', .slice B' b.pre.length d'], 24⟩ (off := 1) (.slice B' b.pre.length d') (Zc (k := 31) (args := #[.slice B a.pre.length d, .slice B' b.pre.length d']) (.bool (decide (a.pre = b.pre))) (fun w hO => rsame_any B B' d d' a.pre b.pre w (hs.pre.on hO.below hO.size) (ht.pre.on hO.below hO.size) (Nat.le_trans hs.lp (by decide)) (Nat.le_trans ht.lp (by decide))) (Zv (.bool (decide (a.pre = b.pre))) (Zv (.bool (decide (a.pre = b.pre))) (ZN (zF (ZF (.bool (decide (a.pre = b.pre))) Tryz.results15 (fun w hO => ⟨by simp [h1], hO.below⟩))))))))))
  | false =>
    exact Zk (Zk (Zk (Zk (Zk (Zv (.bool false) (Zv (.bool false) (ZN (zF (ZF (.bool false) Tryz.results15 (fun w hO => ⟨by simp [h1], hO.below⟩))))))))))
end
section
section
variable {M : List Nat} {P : Program} {n : Nat} {ops : Array Oper} {W : World} {L0 : List Blk} {Q : Exit → Act → World → Prop} {fuel : Nat} {listed : Array Bool} {L : List Blk} {f : Nat → Value}
theorem hs_front {i : Nat} {E E' : List Blk} (p : E.Perm E') (h : jM M P n ops W L0 Q fuel listed i (E' ++ L0) f) : jM M P n ops W L0 Q fuel listed i (E ++ L0) f := ⟨fun w hO => h.go w (hO.perm (p.append_right L0))⟩
end
theorem gH {M : List Nat} {W w : World} {L : List Blk} (h : Own M W w L) : Own M W w [] := h.sublist (List.nil_sublist _)
theorem own_mid {M : List Nat} {W w : World} {x : Blk} {A B L0 : List Blk} (h : Own M W w ((x :: (A ++ (B ++ []))) ++ L0)) : Own M W w (A ++ B) := by
  rw [List.append_nil] at h
  exact h.sublist ((List.sublist_append_left (A ++ B) L0).cons x)
end
section
theorem wO {A : Option Addr} {n c : Nat} {l : List Sp} {ob : List Blk} (h : SlS (.slice A n c) l ob) : l.length ≤ c := by
  rcases h.2 with ⟨h1, h2, _⟩ | ⟨g, c', cur, h1, _, h3, _⟩
  · rw [h2]; exact Nat.zero_le _
  · simp only [Value.slice.injEq] at h1
    rw [h1.2.2]; exact h3
def SetO (v : Value) (a : St) (ob : List Blk) : Prop := ∃ v1 v2 o1 o2, v = .agg #[v1, v2] ∧ ob = o2 ++ o1 ∧ SlS v1 a.rel o1 ∧ SlS v2 a.pre o2
theorem SetO.form {v : Value} {a : St} {ob : List Blk} (h : SetO v a ob) : ∃ A B c d, v = .agg #[.slice A a.rel.length c, .slice B a.pre.length d] := by
  obtain ⟨v1, v2, o1, o2, rfl, _, h1, h2⟩ := h
  obtain ⟨A, c, rfl⟩ := h1.form
  obtain ⟨B, d, rfl⟩ := h2.form
  exact ⟨A, B, c, d, rfl⟩
theorem agg_two {a b c d : Value} (h : (Value.agg #[a, b]) = .agg #[c, d]) : a = c ∧ b = d := by
  injection h with h
  have h2 := congrArg Array.toList h
  simp only [List.cons.injEq, and_true] at h2
  exact h2
theorem SetO.inn {A B : Option Addr} {c d n : Nat} {a : St} {ob L : List Blk} {M : List Nat} {W w : World} (h : SetO (.agg #[.slice A a.rel.length c, .slice B a.pre.length d]) a ob) (hO : Own M W w L) (hob : ∀ x ∈ ob, x ∈ L) (hf : SF a n) (hn : n ≤ 100000) : SetIn w w.heap.size A B a := by
  obtain ⟨v1, v2, o1, o2, e, rfl, h1, h2⟩ := h
  obtain ⟨rfl, rfl⟩ := agg_two e
  exact ⟨Sl.reads h1 rfl hO (fun x hx => hob x (by simp [hx])), Sl.reads h2 rfl hO (fun x hx => hob x (by simp [hx])), Nat.le_trans hf.rel.len hn, Nat.le_trans hf.pre.len hn, hf.rel.short, hf.pre.short⟩
theorem SetO.caps {A B : Option Addr} {c d : Nat} {a : St} {ob : List Blk} (h : SetO (.agg #[.slice A a.rel.length c, .slice B a.pre.length d]) a ob) : a.rel.length ≤ c ∧ a.pre.length ≤ d := by
  obtain ⟨v1, v2, o1, o2, e, rfl, h1, h2⟩ := h
  obtain ⟨rfl, rfl⟩ := agg_two e
  exact ⟨wO h1, wO h2⟩
theorem SetO.none : SetO (.agg #[.slice none 0 0, .slice none 0 0]) yY [] := ⟨_, _, [], [], rfl, rfl, Sl.nil _ _, Sl.nil _ _⟩
end
section
def coV (c : Co) : Value := .agg #[.int .i64 c.op, .int .i64 c.parts, .int .i64 c.v.maj, .int .i64 c.v.min, .int .i64 c.v.pat, .string (mkS c.v.pre), .string (mkS c.v.build)]
def Co.short (c : Co) : Prop := c.v.short
def toldV (p : Int) (v : Ver) : Ver := ⟨if p < 1 then 0 else v.maj, if p < 2 then 0 else v.min, if p < 3 then 0 else v.pat, if p < 3 then [] else v.pre, []⟩
def genCo (l : List Int) (i : Nat) : Co :=
  ⟨1 + plc (atL l (i + 5)) 9, if 1 + plc (atL l (i + 5)) 9 = 9 then plc (atL l (i + 6)) 3 else 1 + plc (atL l (i + 6)) 3, toldV (if 1 + plc (atL l (i + 5)) 9 = 9 then plc (atL l (i + 6)) 3 else 1 + plc (atL l (i + 6)) 3) (genV l i)⟩
end
section
end
section
end
section
def SlT (v : Value) (l : List (List UInt8)) (ob : List Blk) : Prop := Sl 9 1 v l.length (vT l) ob
theorem SlT.form {v : Value} {l : List (List UInt8)} {ob : List Blk} (h : SlT v l ob) : ∃ A cap, v = .slice A l.length cap := by
  rcases h.2 with ⟨h1, h2, _⟩ | ⟨g, cap, cur, h1, _⟩
  · exact ⟨none, 0, by rw [h1, h2]⟩
  · exact ⟨_, _, h1⟩
def pC (x : List UInt8) : List Value := [.string (mkS x)]
theorem j9 (x : List UInt8) : (pC x).length = 1 := rfl
theorem jQ : ∀ (l : List (List UInt8)), vT l = l.flatMap pC
  | [] => rfl
  | x :: l => by
    show Value.string (mkS x) :: vT l = [Value.string (mkS x)] ++ l.flatMap pC
    rw [jQ l]; rfl
theorem SlT.reads {A : Option Addr} {n cap : Nat} {l : List (List UInt8)} {ob L : List Blk} {M : List Nat} {W w : World} (h : SlT (.slice A n cap) l ob) (hn : l.length = n) (hO : Own M W w L) (hs : ∀ x ∈ ob, x ∈ L) : Reads pC w w.heap.size A l := by
  subst hn
  unfold SlT at h
  rw [jQ] at h
  exact Sl.reads h rfl hO hs
theorem SlT.readsT {v : Value} {l : List (List UInt8)} {ob L : List Blk} {M : List Nat} {W w : World} (h : SlT v l ob) (hO : Own M W w L) (hs : ∀ x ∈ ob, x ∈ L) : ReadsT w w.heap.size v l := by
  obtain ⟨A, cap, rfl⟩ := h.form
  refine ⟨A, cap, rfl, fun h0 => ?_⟩
  obtain ⟨b, off, e, hlt, hc⟩ := SlT.reads h rfl hO hs h0
  refine ⟨⟨b, off, none⟩, e, hlt, fun j hj => ?_⟩
  rw [xV]
  refine hc j _ ?_
  rw [← jQ]
  unfold vT
  rw [List.getElem?_map, List.getElem?_eq_getElem hj]; rfl
theorem slt_lit (l : List (List UInt8)) (b : Nat) (cur : Array Value) (h : cur.toList = vT l) (hm : l.length ≤ maxLen) : SlT (.slice (some ⟨b, 0, none⟩) l.length l.length) l [⟨b, cur, 9⟩] := by
  have hc : cur.toList.length = l.length := by rw [h, wL]
  refine ⟨by rw [wL]; omega, .inr ⟨b, l.length, cur, rfl, rfl, Nat.le_refl _, hm, by rw [← Array.length_toList, hc]; omega, ?_⟩⟩
  rw [h]
  exact List.take_of_length_le (by rw [wL]; omega)
theorem str_cells (l : List (List UInt8)) : ∀ u ∈ vT l, u.oneCell' = true := fun u hu => by
  unfold vT at hu
  obtain ⟨x, _, rfl⟩ := List.mem_map.1 hu; rfl
end
section
theorem xR {P : Program} {ρ : Operand → Value} {o : Oper} {t t' : TypeId} {x y : Operand} {a b : List UInt8} (ho : o.op = .binOp .add t x y t') (hx : ρ x = .string (mkS a)) (hy : ρ y = .string (mkS b)) (hb : a.length + b.length ≤ 4000000000) (w : World) : (execOp ρ o).run P w = .ok (.value (.string (mkS (a ++ b)))) w := by
  unfold execOp
  have h1 : ¬ (9223372036854775807 : Int) < ((mkS a).size : Int) + ((mkS b).size : Int) := by rw [x6, x6]; omega
  simp [ho, hx, hy, Sem.run_bind, eqGuard, binOp, Op.stringOp, q6, h1]
theorem run_min2 {P : Program} {ρ : Operand → Value} {o : Oper} {t t' : TypeId} {x y : Operand} {k q : IntKind} {i j : Int} (ho : o.op = .call { callee := .builtin .min, args := #[x, y], argTypes := #[t, t'] }) (hx : ρ x = .int k i) (hy : ρ y = .int q j) (w : World) : (execOp ρ o).run P w = .ok (.value (.int k (min i j))) w := by
  unfold execOp
  have e : min i j = if j < i then j else i := by split <;> omega
  simp [ho, resolve, invoke, builtin, Builtin.min_, Builtin.min2, hx, hy, e]
section
variable {M : List Nat} {P : Program} {n0 : Nat} {ops : Array Oper} {W : World} {Q : Exit → Act → World → Prop} {rest : List Oper} {o : Oper} {L : List Blk} {f : Nat → Value}
end
section
variable {M : List Nat} {P : Program} {n : Nat} {ops : Array Oper} {W : World} {L0 : List Blk} {Q : Exit → Act → World → Prop} {fuel : Nat} {listed : Array Bool} {f : Nat → Value}
end
end
section
theorem bump_short (v : Ver) (k : Int) : (yO v k).short := by
  by_cases h : y9 v k = true
  · obtain ⟨a, b, c, e⟩ := bump_rel h
    rw [e]; exact ⟨Nat.zero_le _, Nat.zero_le _⟩
  · unfold yO
    rw [if_neg h]; exact ⟨Nat.zero_le _, Nat.zero_le _⟩
def jF (v : Ver) (z : Int) : Cu := if z < 0 then zZ 1 else gU v z.toNat
theorem highZ_hit {v : Ver} {z : Int} (h0 : 0 ≤ z) (h : y9 v z = true) : jF v z = ⟨0, yO v z, false⟩ := by
  unfold jF
  rw [if_neg (by omega)]
  obtain ⟨k, rfl⟩ : ∃ k : Nat, z = k := ⟨z.toNat, by omega⟩
  rw [Int.toNat_natCast]
  cases k with
  | zero => unfold gU; exact if_pos h
  | succ k => unfold gU; rw [if_pos h]
theorem highZ_next {v : Ver} {z : Int} (h0 : 0 ≤ z) (h : y9 v z = false) : jF v z = jF v (z - 1) := by
  unfold jF
  rw [if_neg (by omega)]
  obtain ⟨k, rfl⟩ : ∃ k : Nat, z = k := ⟨z.toNat, by omega⟩
  rw [Int.toNat_natCast]
  cases k with
  | zero => unfold gU; rw [if_neg (by rw [show ((0 : Nat) : Int) = 0 from rfl] at h; rw [h]; decide), if_pos (by decide)]
  | succ k =>
    unfold gU
    rw [if_neg (by rw [h]; decide), if_neg (by omega)]
    rw [show (((k + 1 : Nat) : Int) - 1).toNat = k from by omega]
    cases k <;> rfl
end
section
theorem slit6 (s : Sp) (b : Nat) (cur : Array Value) (h : cur.toList = yR s) : SlS (.slice (some ⟨b, 0, none⟩) 1 1) [s] [⟨b, cur, 74⟩] := by
  have e : ([s] : List Sp).flatMap yR = yR s := List.append_nil _
  have hc : cur.toList.length = 14 := by rw [h]; rfl
  refine ⟨by rw [e]; rfl, .inr ⟨b, 1, cur, rfl, rfl, Nat.le_refl _, by decide, by rw [← Array.length_toList, hc], ?_⟩⟩
  rw [e, h]
  exact List.take_of_length_le (Nat.le_refl 14)
theorem high_short (v : Ver) (k : Nat) : (gU v k).short := by
  induction k with
  | zero =>
    unfold gU
    split
    · exact bump_short v 0
    · exact ⟨Nat.zero_le _, Nat.zero_le _⟩
  | succ k ih =>
    unfold gU
    split
    · exact bump_short v _
    · exact ih
theorem span_short {c : Co} (h : c.short) : c.span.1.short ∧ c.span.2.short := by
  have hl : c.low.short := core_short h
  have he : ∀ e : Int, (zZ e).short := fun e => ⟨Nat.zero_le _, Nat.zero_le _⟩
  have ha : c.aft.short := by
    unfold Co.aft
    split
    · exact high_short _ _
    · exact core_short h
  have hh := fun k => high_short c.v k
  unfold Co.span
  repeat' split
  all_goals exact ⟨by first | exact hl | exact ha | exact he _ | exact hh _, by first | exact hl | exact ha | exact he _ | exact hh _⟩
theorem dG (lo hi : Cu) : xS lo hi = if zN lo hi < 0 then [⟨lo, hi⟩] else [] := by
  unfold xS gM
  by_cases h : zN lo hi < 0
  · rw [if_pos (bF h), if_pos h]; rfl
  · rw [if_neg (fun q => h (jK q)), if_neg h]
end
section
def triV (l : List (List UInt8)) : Ver := if l.length = 3 then ⟨zI (tg l 0), zI (tg l 1), zI (tg l 2), [], []⟩ else Ver.zero
def triB (l : List (List UInt8)) : Bool := decide (l.length = 3) && (gA (tg l 0) && gA (tg l 1) && gA (tg l 2))
end
section
theorem hD (op : Int) : (yB op).length ≤ 2 := by
  unfold yB
  repeat' split
  all_goals decide
theorem join_len (b : UInt8) (m : Nat) : ∀ (l : List (List UInt8)), (∀ x ∈ l, x.length ≤ m) → (y5 b l).length ≤ l.length * (m + 1)
  | [], _ => by simp [y5]
  | [x], h => by
    have := h x (List.mem_singleton.2 rfl)
    simp [y5]; omega
  | x :: y :: r, h => by
    have h1 := h x (List.mem_cons_self ..)
    have h2 := join_len b m (y :: r) fun z hz => h z (List.mem_cons_of_mem _ hz)
    rw [y5, List.length_append, List.length_cons]
    simp only [List.length_cons, Nat.add_mul] at h2 ⊢
    omega
theorem nums_len9 {v : Ver} (hv : v.may = true) {n : Nat} : ∀ x ∈ yI v n, x.length ≤ 21 := fun x hx => by
  obtain ⟨k, hk, rfl⟩ := nums_mem hv hx
  have := pQ hk
  omega
theorem bL (v : Ver) (n : Nat) : (yI v n).length ≤ 3 := by unfold yI; rw [List.length_take]; simp; omega
theorem jS {v : Ver} (hv : v.may = true) (n : Nat) : (y5 46 (yI v n)).length ≤ 100 := by
  have h := join_len 46 21 (yI v n) (nums_len9 hv)
  have := bL v n
  omega
theorem jR {v : Ver} (hv : v.may = true) (n : Nat) : (y5 46 (yI v n ++ [[42]])).length ≤ 200 := by
  have h := join_len 46 21 (yI v n ++ [[42]]) (fun x hx => by
    rcases List.mem_append.1 hx with hx | hx
    · exact nums_len9 hv x hx
    · rw [List.mem_singleton.1 hx]; decide)
  have := bL v n
  rw [List.length_append] at h
  simp at h; omega
def toldC (v : Ver) : Array Value := #[.string (mkS (Lib.itoa v.maj)), .string (mkS (Lib.itoa v.min)), .string (mkS (Lib.itoa v.pat))]
theorem strInfo : (Tryz.prog.info? 9).map (fun i => (i.zero.map (·.cells.size), i.size, i.bytes)) = some (some 1, 1, 16) := by kernel_rfl
theorem pB : ∃ i z, Tryz.prog.info? 9 = some i ∧ i.zero = some z ∧ i.size = 1 ∧ z.cells.size = 1 ∧ i.bytes = 16 := by
  have h := strInfo
  cases hi : Tryz.prog.info? 9 with
  | none => rw [hi] at h; cases h
  | some i =>
    rw [hi] at h
    simp only [Option.map_some, Option.some.injEq, Prod.mk.injEq] at h
    cases hz : i.zero with
    | none => rw [hz] at h; simp at h
    | some z => rw [hz] at h; simp at h; exact ⟨i, z, rfl, hz, h.2.1, h.1, h.2.2⟩
theorem parts_nat {c : Co} (h : c.may = true) : ((c.parts.toNat : Nat) : Int) = c.parts ∧ c.parts.toNat ≤ 3 := by
  obtain ⟨_, _, _, h9, hn, _⟩ := Co.facts h
  by_cases e : c.op = 9
  · have := h9 e; omega
  · have := hn e; omega
theorem star_text {c : Co} (h9 : c.op = 9) : y5 46 (yI c.v c.parts.toNat ++ [[42]]) = c.text := by
  unfold Co.text Co.rest
  rw [h9, if_pos rfl]; rfl
theorem text_pre {c : Co} (h9 : ¬ c.op = 9) (hp : ¬ c.v.pre = []) : yB c.op ++ y5 46 (yI c.v c.parts.toNat) ++ [45] ++ c.v.pre = c.text := by
  unfold Co.text Co.rest kI
  rw [if_neg h9]
  cases hq : c.v.pre with
  | nil => exact absurd hq hp
  | cons a r => simp
theorem text_bare {c : Co} (h9 : ¬ c.op = 9) (hp : c.v.pre = []) : yB c.op ++ y5 46 (yI c.v c.parts.toNat) = c.text := by
  unfold Co.text Co.rest kI
  rw [if_neg h9, hp]; simp
end
section
def numsOk (l : List (List UInt8)) : Bool := decide (l.length ≤ 3) && l.all gA
def numsVal (l : List (List UInt8)) : Ver := if numsOk l then ⟨zI (tg l 0), zI (tg l 1), zI (tg l 2), [], []⟩ else Ver.zero
theorem p4 {l : List (List UInt8)} {i : Nat} (h : i < l.length) : l[i] = tg l i := by
  unfold tg
  rw [List.getElem?_eq_getElem h]; rfl
theorem tgi_out {l : List (List UInt8)} {i : Nat} (h : l.length ≤ i) : zI (tg l i) = 0 := by
  unfold tg
  rw [List.getElem?_eq_none h]; rfl
end
section
def pcV (s : List UInt8) : Co := (gQ s).getD ⟨0, 0, Ver.zero⟩
def pcE (s : List UInt8) : Int := if (gQ s).isSome then 0 else 6
theorem pc_none {s : List UInt8} (h : gQ s = none) : pcV s = ⟨0, 0, Ver.zero⟩ ∧ pcE s = 6 := by unfold pcV pcE; rw [h]; exact ⟨rfl, rfl⟩
theorem pc_some {s : List UInt8} {c : Co} (h : gQ s = some c) : pcV s = c ∧ pcE s = 0 := by unfold pcV pcE; rw [h]; exact ⟨rfl, rfl⟩
theorem tg_short {l : List (List UInt8)} (h : ∀ x ∈ l, x.length ≤ 1000000) (i : Nat) : (tg l i).length ≤ 1000000 := by
  unfold tg
  cases hq : l[i]? with
  | none => exact Nat.zero_le _
  | some x => exact h x (List.mem_of_getElem? hq)
end
section
def coC (c : Co) : List Value := (coV c).cells.toList
theorem coC_len (c : Co) : (coC c).length = 7 := rfl
theorem co_cells (c : Co) : ∀ u ∈ coC c, u.oneCell' = true := by
  intro u hu
  unfold coC coV at hu
  simp only [Value.cells, List.mem_cons, List.not_mem_nil, or_false] at hu
  rcases hu with rfl | rfl | rfl | rfl | rfl | rfl | rfl <;> rfl
structure Al where
  A : Option Addr
  l : List Co
  cap : Nat
def alC (x : Al) : List Value := [.slice x.A x.l.length x.cap]
theorem alC_len (x : Al) : (alC x).length = 1 := rfl
theorem al_cells (x : Al) : ∀ u ∈ alC x, u.oneCell' = true := fun u hu => by rw [List.mem_singleton.1 hu]; rfl
def xI (xs : List Al) : List (List Co) := xs.map Al.l
theorem kM (xs : List Al) : (xI xs).length = xs.length := List.length_map ..
theorem rgOf_get {xs : List Al} {i : Nat} (hi : i < xs.length) {x : Al} (h : xs[i] = x) : (xI xs)[i]'(by rw [kM]; exact hi) = x.l := by
  unfold xI; rw [List.getElem_map, h]
def ShortA (l : List Co) : Prop := ∀ c ∈ l, c.short
structure RgIn (w : World) (B : Nat) (A : Option Addr) (xs : List Al) : Prop where
  top : Reads alC w B A xs
  each : ∀ x ∈ xs, Reads coC w B x.A x.l
  n : xs.length ≤ 1000
  m : ∀ x ∈ xs, x.l.length ≤ 1000
  short : ∀ x ∈ xs, ShortA x.l
theorem RgIn.on {w w' : World} {B B' : Nat} {A : Option Addr} {xs : List Al} (h : RgIn w B A xs) (hb : Below B w w') (hB : B ≤ B') : RgIn w' B' A xs := ⟨h.top.on hb hB, fun x hx => (h.each x hx).on hb hB, h.n, h.m, h.short⟩
theorem take_all {α : Type} {p : α → Prop} {l : List α} {i : Nat} (h : ∀ x ∈ l.take i, p x) (hi : i < l.length) {x : α} (hx : l[i] = x) (hp : p x) : ∀ y ∈ l.take (i + 1), p y := fun y hy => by
  rw [List.take_succ_eq_append_getElem hi] at hy
  rcases List.mem_append.1 hy with hy | hy
  · exact h y hy
  · rw [List.mem_singleton.1 hy, hx]; exact hp
theorem fewA_len {l : List Co} (h : ¬ (1 ≤ l.length ∧ l.length ≤ 6)) : fewA l = false := by unfold fewA; rw [decide_eq_false h]; rfl
theorem fewA_one {l : List Co} {c : Co} (hm : c ∈ l) (h : c.may = false) : fewA l = false := by
  cases hf : fewA l with
  | false => rfl
  | true => rw [(fewA.facts hf).2 c hm] at h; cases h
theorem fewA_all {l : List Co} (h1 : 1 ≤ l.length ∧ l.length ≤ 6) (h : ∀ c ∈ l, c.may = true) : fewA l = true := by
  unfold fewA; rw [decide_eq_true h1, List.all_eq_true.2 h]; rfl
theorem few_len {xs : List Al} (h : ¬ (1 ≤ xs.length ∧ xs.length ≤ 6)) : fewR (xI xs) = false := by unfold fewR; rw [kM, decide_eq_false h]; rfl
theorem few_one {xs : List Al} {x : Al} (hm : x ∈ xs) (h : fewA x.l = false) : fewR (xI xs) = false := by
  cases hf : fewR (xI xs) with
  | false => rfl
  | true => rw [(fewR.facts hf).2 x.l (List.mem_map.2 ⟨x, hm, rfl⟩)] at h; cases h
theorem few_all {xs : List Al} (h1 : 1 ≤ xs.length ∧ xs.length ≤ 6) (h : ∀ x ∈ xs, fewA x.l = true) : fewR (xI xs) = true := by
  unfold fewR; rw [kM, decide_eq_true h1, List.all_eq_true.2 fun a ha => by obtain ⟨x, hx, rfl⟩ := List.mem_map.1 ha; exact h x hx]; rfl
theorem few_mem {xs : List Al} (h : fewR (xI xs) = true) : (1 ≤ xs.length ∧ xs.length ≤ 6) ∧ ∀ x ∈ xs, (1 ≤ x.l.length ∧ x.l.length ≤ 6) ∧ ∀ c ∈ x.l, c.may = true := by
  obtain ⟨h1, h2⟩ := fewR.facts h
  rw [kM] at h1
  exact ⟨h1, fun x hx => fewA.facts (h2 x.l (List.mem_map.2 ⟨x, hx, rfl⟩))⟩
theorem joinB_step (sep : List UInt8) {l : List (List UInt8)} {i : Nat} (hi : i < l.length) : g8 sep (l.take (i + 1)) = (if i = 0 then [] else g8 sep (l.take i) ++ sep) ++ l[i] := by
  rw [List.take_succ_eq_append_getElem hi, joinB_snoc]
  by_cases h : i = 0
  · subst h; rfl
  · have hne : l.take i ≠ [] := fun e => by
      have h3 : (l.take i).length = 0 := by rw [e]; rfl
      rw [List.length_take] at h3; omega
    rw [if_neg hne, if_neg h]
theorem co_len {c : Co} (h : c.may = true) : c.print.length ≤ 300 := by
  obtain ⟨_, hv, _⟩ := Co.facts h
  have hp := fF (dI hv)
  rw [qX h]
  unfold Co.text Co.rest
  rw [List.length_append]
  have h1 : (yB c.op).length ≤ 2 := by
    unfold yB
    repeat' split
    all_goals decide
  split
  · have := jR hv c.parts.toNat; omega
  · rw [List.length_append]
    have := jS hv c.parts.toNat
    have : (kI 45 c.v.pre).length ≤ 37 := by
      unfold kI
      split
      · exact Nat.zero_le _
      · rw [List.length_cons]; omega
    omega
end
section
theorem jP {v : Ver} (h : v.may = true) (hb : v.build = []) : v.text.length ≤ 60 := by
  obtain ⟨h1, h2, h3⟩ := gJ h
  have hn := nums_len h1 h2 h3
  rw [jU] at hn
  have hp := fF (dI h)
  have e : kI 43 ([] : List UInt8) = [] := rfl
  have hq : (kI 45 v.pre).length ≤ 37 := by
    unfold kI
    split
    · exact Nat.zero_le _
    · rw [List.length_cons]; omega
  unfold Ver.text
  rw [hb, e, List.append_nil, List.length_append]
  unfold bM
  omega
theorem lo_len {c : Cu} (h : In c) : (kS c).length ≤ 62 := by
  have := jP h.m h.b
  unfold kS
  rw [List.length_append]
  split
  · rw [List.length_cons, List.length_nil]; omega
  · rw [List.length_cons, List.length_cons, List.length_nil]; omega
theorem hi_len {c : Cu} (h : In c) : (gB c).length ≤ 62 := by
  have := jP h.m h.b
  unfold gB
  rw [List.length_append]
  split
  · rw [List.length_cons, List.length_cons, List.length_nil]; omega
  · rw [List.length_cons, List.length_nil]; omega
theorem pE (s : Sp) : xF s = if s.lo.e = 0 then (if s.hi.e = 0 then kS s.lo ++ 32 :: gB s.hi else kS s.lo) else (if s.hi.e = 0 then gB s.hi else [42]) := by
  unfold xF spW loW hiW
  by_cases a : s.lo.e = 0
  · by_cases b : s.hi.e = 0
    · rw [if_pos a, if_pos b, if_pos a, if_pos b, if_neg (by simp)]; rfl
    · rw [if_pos a, if_neg b, if_pos a, if_neg b, if_neg (by simp)]; rfl
  · by_cases b : s.hi.e = 0
    · rw [if_neg a, if_pos b, if_neg a, if_pos b, if_neg (by simp)]; rfl
    · rw [if_neg a, if_neg b, if_neg a, if_neg b]; rfl
theorem sp_len {s : Sp} (h : s.may = true) : (xF s).length ≤ 130 := by
  obtain ⟨h1, h2⟩ := zU h
  rw [pE]
  by_cases a : s.lo.e = 0
  · have := lo_len (In.of h1 a)
    by_cases b : s.hi.e = 0
    · have := hi_len (In.of h2 b)
      rw [if_pos a, if_pos b, List.length_append, List.length_cons]; omega
    · rw [if_pos a, if_neg b]; omega
  · by_cases b : s.hi.e = 0
    · have := hi_len (In.of h2 b)
      rw [if_neg a, if_pos b]; omega
    · rw [if_neg a, if_neg b]; decide
def wT (l : List Sp) (k : Nat) : List UInt8 := g8 [32, 111, 114, 32] ((l.take k).map xF)
theorem rowK_len {l : List Sp} (h : ∀ s ∈ l, s.may = true) (k : Nat) : (wT l k).length ≤ l.length * 140 := by
  unfold wT
  rw [tS]
  have key : ∀ (m : List Sp), (∀ s ∈ m, s.may = true) → sumN ((m.map xF).map (·.length)) + (m.length - 1) * 4 ≤ m.length * 140 := by
    intro m hm
    induction m with
    | nil => simp [sumN]
    | cons s m ih =>
      have := ih fun x hx => hm x (List.mem_cons_of_mem _ hx)
      have := sp_len (hm s (List.mem_cons_self ..))
      rw [List.map_cons, List.map_cons, sumN, List.length_cons]; omega
  have h1 := key (l.take k) fun s hs => h s (List.mem_of_mem_take hs)
  have h2 : (l.take k).length ≤ l.length := by rw [List.length_take]; exact Nat.min_le_right ..
  rw [List.length_map]
  have h3 : ([32, 111, 114, 32] : List UInt8).length = 4 := rfl
  rw [h3]
  omega
theorem rowK_zero (l : List Sp) : wT l 0 = [] := rfl
theorem rowK_step {l : List Sp} {k : Nat} (hk : k < l.length) : wT l (k + 1) = (if k = 0 then [] else wT l k ++ [32, 111, 114, 32]) ++ xF l[k] := by
  unfold wT
  have h := joinB_step [32, 111, 114, 32] (l := l.map xF) (i := k) (by rw [List.length_map]; exact hk)
  rw [← List.map_take, ← List.map_take, List.getElem_map] at h
  exact h
theorem rowK_all {l : List Sp} {k : Nat} (h0 : l ≠ []) (hk : l.length ≤ k) : wT l k = yG l := by
  unfold wT yG
  rw [List.take_of_length_le hk, if_neg h0]
theorem hJ {l : List Sp} (h : ∀ s ∈ l, s.may = true) : (yG l).length ≤ 1 + l.length * 140 := by
  by_cases h0 : l = []
  · subst h0; decide
  · rw [← rowK_all h0 (Nat.le_refl _)]
    have := rowK_len h l.length
    omega
theorem stext_len {s : St} (h : s.may = true) : (x8 s).length ≤ 5 + (s.rel.length + s.pre.length) * 140 := by
  obtain ⟨h1, h2, h3⟩ := St.facts h
  have q1 := hJ (g0 h1)
  have q2 := hJ (g0 h2)
  unfold x8
  split
  · omega
  · rw [List.length_append, List.length_append]
    have : ([32, 47, 32] : List UInt8).length = 3 := rfl
    omega
theorem stext_ne {s : St} (h : s.may = true) : x8 s ≠ [] := by
  obtain ⟨h1, h2, h3⟩ := St.facts h
  unfold x8
  split
  · exact rtext_ne h1
  · simp
end
section
theorem coInfo : (Tryz.prog.info? 94).map (fun i => (i.zero.map (·.cells.size), i.size, i.bytes)) = some (some 7, 7, 72) := by kernel_rfl
theorem co_info : ∃ i z, Tryz.prog.info? 94 = some i ∧ i.zero = some z ∧ i.size = 7 ∧ z.cells.size = 7 ∧ i.bytes = 72 := by
  have h := coInfo
  cases hi : Tryz.prog.info? 94 with
  | none => rw [hi] at h; cases h
  | some i =>
    rw [hi] at h
    simp only [Option.map_some, Option.some.injEq, Prod.mk.injEq] at h
    cases hz : i.zero with
    | none => rw [hz] at h; simp at h
    | some z => rw [hz] at h; simp at h; exact ⟨i, z, rfl, hz, h.2.1, h.1, h.2.2⟩
theorem alInfo : (Tryz.prog.info? 92).map (fun i => (i.zero.map (·.cells.size), i.size, i.bytes)) = some (some 1, 1, 24) := by kernel_rfl
theorem al_info : ∃ i z, Tryz.prog.info? 92 = some i ∧ i.zero = some z ∧ i.size = 1 ∧ z.cells.size = 1 ∧ i.bytes = 24 := by
  have h := alInfo
  cases hi : Tryz.prog.info? 92 with
  | none => rw [hi] at h; cases h
  | some i =>
    rw [hi] at h
    simp only [Option.map_some, Option.some.injEq, Prod.mk.injEq] at h
    cases hz : i.zero with
    | none => rw [hz] at h; simp at h
    | some z => rw [hz] at h; simp at h; exact ⟨i, z, rfl, hz, h.2.1, h.1, h.2.2⟩
def SlCo (v : Value) (l : List Co) (ob : List Blk) : Prop := Sl 94 7 v l.length (l.flatMap coC) ob
theorem Sl.form {T sz n : Nat} {v : Value} {xs : List Value} {ob : List Blk} (h : Sl T sz v n xs ob) : ∃ A cap, v = .slice A n cap := by
  rcases h.2 with ⟨h1, h2, _⟩ | ⟨g, cap, cur, h1, _⟩
  · exact ⟨none, 0, by rw [h1, h2]⟩
  · exact ⟨_, _, h1⟩
structure RgA (u : Value) (xs : List Al) (o1 o2 : List Blk) : Prop where
  top : Sl 92 1 u xs.length (xs.flatMap alC) o1
  each : ∀ x ∈ xs, ∃ o, (∀ b ∈ o, b ∈ o2) ∧ SlCo (.slice x.A x.l.length x.cap) x.l o
def RgO (v : Value) (r : List (List Co)) (ob : List Blk) : Prop := ∃ xs u o1 o2, v = .agg #[u] ∧ ob = o1 ++ o2 ∧ xI xs = r ∧ RgA u xs o1 o2
theorem RgA.nil : RgA (.slice none 0 0) [] [] [] := ⟨Sl.nil _ _, fun x hx => by simp at hx⟩
theorem RgO.nil : RgO (.agg #[.slice none 0 0]) [] [] := ⟨[], _, [], [], rfl, rfl, rfl, RgA.nil⟩
theorem RgA.add {u u2 : Value} {xs : List Al} {o1 o2 o3 oa : List Blk} {A : Option Addr} {cap : Nat} {a : List Co} (h : RgA u xs o1 o2) (h2 : Sl 92 1 u2 (xs.length + 1) (xs.flatMap alC ++ alC ⟨A, a, cap⟩) o3) (ha : SlCo (.slice A a.length cap) a oa) : RgA u2 (xs ++ [⟨A, a, cap⟩]) o3 (oa ++ o2) :=
  ⟨h2.to (by simp) (by simp), fun x hx => by
    rcases List.mem_append.1 hx with hx | hx
    · obtain ⟨o, k1, k2⟩ := h.each x hx
      exact ⟨o, fun b hb => List.mem_append_right _ (k1 b hb), k2⟩
    · obtain rfl := List.mem_singleton.1 hx
      exact ⟨oa, fun b hb => List.mem_append_left _ hb, ha⟩⟩
structure FineR (r : List (List Co)) : Prop where
  n : r.length ≤ 1000
  m : ∀ a ∈ r, a.length ≤ 1000 ∧ ShortA a
theorem RgA.inn {A : Option Addr} {n cap : Nat} {xs : List Al} {o1 o2 L : List Blk} {M : List Nat} {W w : World} (h : RgA (.slice A n cap) xs o1 o2) (hn : xs.length = n) (hO : Own M W w L) (h1 : ∀ x ∈ o1, x ∈ L) (h2 : ∀ x ∈ o2, x ∈ L) (hf : FineR (xI xs)) : RgIn w w.heap.size A xs := by
  subst hn
  refine ⟨Sl.reads h.top rfl hO h1, fun x hx => ?_, by have := hf.n; rwa [kM] at this, fun x hx => (hf.m x.l (List.mem_map.2 ⟨x, hx, rfl⟩)).1, fun x hx => (hf.m x.l (List.mem_map.2 ⟨x, hx, rfl⟩)).2⟩
  obtain ⟨o, k1, k2⟩ := h.each x hx
  exact Sl.reads k2 rfl hO fun b hb => h2 b (k1 b hb)
theorem SlT.blk {v : Value} {l : List (List UInt8)} {ob : List Blk} (h : SlT v l ob) (hn : l ≠ []) : ∃ g cur cap, v = .slice (some ⟨g, 0, none⟩) l.length cap ∧ ob = [⟨g, cur, 9⟩] ∧ cur.toList.take (l.length * 1) = l.flatMap pC := by
  obtain ⟨A, cap, rfl⟩ := h.form
  have h0 : 0 < l.length := by cases l with
    | nil => exact absurd rfl hn
    | cons _ _ => simp
  obtain ⟨g, cur, rfl, e, _, _, _, e2⟩ := Sl.block h h0
  exact ⟨g, cur, cap, rfl, e, by rw [e2, jQ]⟩
theorem pc_ok {s : List UInt8} (h : pcE s = 0) : gQ s = some (pcV s) := by
  cases hp : gQ s with
  | none => rw [(pc_none hp).2] at h; exact absurd h (by decide)
  | some c => rw [(pc_some hp).1]
theorem pc_err {s : List UInt8} (h : ¬ pcE s = 0) : gQ s = none := by
  cases hp : gQ s with
  | none => rfl
  | some c => exact absurd (pc_some hp).2 h
theorem parseP_may {s : List UInt8} {c : Co} (h : parseP s = some c) : c.may = true := ((dF _ c).1 h).1
theorem co_short {c : Co} (h : c.may = true) : c.short := by
  obtain ⟨_, hv, hb, _⟩ := Co.facts h
  exact may_short hv hb
theorem parseA_fine {s : List UInt8} {a : List Co} (h : parseA s = some a) (hs : s.length ≤ 100) : a.length ≤ 1000 ∧ ∀ c ∈ a, c.may = true := by
  refine ⟨?_, fun c hc => ?_⟩
  · rw [d6 h, split_len]
    have := List.length_filter_le (fun x : UInt8 => x == 44) s
    omega
  · obtain ⟨x, _, e⟩ := allO_back h c hc
    exact parseP_may e
theorem fine_part {s : List UInt8} (hs : s.length ≤ 96) {l : List (List UInt8)} (hl : ∀ x ∈ l, x ∈ kV [] s) (hn : l.length ≤ 97) {r : List (List Co)} (h : j0 parseA l = some r) : FineR r := by
  refine ⟨by rw [d6 h]; omega, fun a ha => ?_⟩
  obtain ⟨x, hx, e⟩ := allO_back h a ha
  have := tD s [] x (hl x hx)
  have := parseA_fine e (by simp at this; omega)
  exact ⟨this.1, fun c hc => co_short (this.2 c hc)⟩
theorem fine_few {r : List (List Co)} (h : fewR r = true) : FineR r := by
  obtain ⟨h1, h2⟩ := fewR.facts h
  refine ⟨by omega, fun a ha => ?_⟩
  obtain ⟨k1, k2⟩ := fewA.facts (h2 a ha)
  exact ⟨by omega, fun c hc => co_short (k2 c hc)⟩
theorem allO_next {α β : Type} {f : α → Option β} {l : List α} {i : Nat} (hi : i < l.length) {y : α} (hy : l[i] = y) {m : List β} {z : β} (h : j0 f (l.take i) = some m) (hz : f y = some z) : j0 f (l.take (i + 1)) = some (m ++ [z]) := by
  rw [List.take_succ_eq_append_getElem hi, hy]
  exact allO_snoc h hz
theorem all_fails {s : List UInt8} {l m : List (List UInt8)} (hl : l = kV [] s) {i k : Nat} (hi : i < l.length) {y z : List UInt8} (hy : l[i] = y) (hm : m = yD 44 [] y) (hk : k < m.length) (hz : m[k] = z) (h : ¬ pcE (xO z) = 0) : qA s = none := by
  have h1 : parseA y = none := allO_none (x := z) (by rw [← hm, ← hz]; exact List.getElem_mem hk) (pc_err h)
  exact allO_none (x := y) (by rw [← hl, ← hy]; exact List.getElem_mem hi) h1
theorem errG_none {s : List UInt8} (hs : s.length ≤ 96) (h : qA s = none) : qE s = 6 ∧ y7 s = none := by
  unfold qE y7
  rw [if_neg (by omega), if_neg (by omega), h]; exact ⟨rfl, rfl⟩
theorem errG_few {s : List UInt8} (hs : s.length ≤ 96) {r : List (List Co)} (h : qA s = some r) (hf : fewR r = false) : qE s = 6 ∧ y7 s = none := by
  unfold qE y7
  rw [if_neg (by omega), if_neg (by omega), h]
  simp [hf, rgMay, Option.filter]
theorem errG_big {s : List UInt8} (hs : s.length ≤ 96) {r : List (List Co)} (h : qA s = some r) (hf : fewR r = true) (hb : 96 < (qT r).length) : qE s = 3 ∧ y7 s = none := by
  unfold qE y7
  rw [if_neg (by omega), if_neg (by omega), h]
  simp [hf, rgMay, Option.filter]; omega
theorem errG_fine {s : List UInt8} (hs : s.length ≤ 96) {r : List (List Co)} (h : qA s = some r) (hf : fewR r = true) (hb : (qT r).length ≤ 96) : qE s = 0 ∧ y7 s = some r := by
  unfold qE y7
  rw [if_neg (by omega), if_neg (by omega), h]
  simp [hf, rgMay, Option.filter, hb]
theorem errG_long {s : List UInt8} (hs : 96 < s.length) : qE s = 3 ∧ y7 s = none := by
  unfold qE y7
  rw [if_pos hs, if_pos hs]; exact ⟨rfl, rfl⟩
theorem bareF_len : ∀ (s : List UInt8), (k8 s).length ≤ s.length
  | [] => Nat.le_refl _
  | c :: l => by
    rw [k8]
    split
    · have := bareF_len l; rw [List.length_cons]; omega
    · exact Nat.le_refl _
theorem bareL_len (s : List UInt8) : (xO s).length ≤ s.length := by
  unfold xO
  rw [List.length_reverse]
  have h1 := bareF_len (k8 s).reverse
  rw [List.length_reverse] at h1
  have := bareF_len s
  omega
theorem pieces_len {y : List UInt8} (h : y.length ≤ 96) : (yD 44 [] y).length ≤ 97 ∧ ∀ z ∈ yD 44 [] y, z.length ≤ 96 := by
  refine ⟨?_, fun z hz => by have := split_le 44 y [] z hz; simp at this; omega⟩
  rw [split_len]
  have := List.length_filter_le (fun x : UInt8 => x == 44) y
  omega
section
variable {M : List Nat} {W w : World}
theorem own_two {x y : Blk} {A : List Blk} (h : Own M W w (x :: y :: A)) : Own M W w A := h.sublist ((List.sublist_cons_self y A).trans (List.sublist_cons_self x (y :: A)))
theorem own_turn {x y r t g : Blk} {oa o1 o2 : List Blk} (h : Own M W w (([x, y, g, r, t] ++ oa) ++ o1 ++ o2)) : Own M W w (g :: r :: t :: (o1 ++ (oa ++ o2))) := by
  have h1 : Own M W w (x :: y :: g :: r :: t :: ((oa ++ o1) ++ o2)) := by simpa [List.append_assoc] using h
  refine (own_two h1).perm (List.Perm.cons _ (List.Perm.cons _ (List.Perm.cons _ ?_)))
  rw [← List.append_assoc]
  exact List.Perm.append_right _ List.perm_append_comm
end
end
section
section
variable {M : List Nat} {P : Program} {n : Nat} {ops : Array Oper} {W : World} {L0 : List Blk} {Q : Exit → Act → World → Prop} {fuel : Nat} {listed : Array Bool} {f : Nat → Value}
end
end
section
end
section
section
variable {M : List Nat} {P : Program} {n : Nat} {ops : Array Oper} {W : World} {L0 : List Blk} {Q : Exit → Act → World → Prop} {fuel : Nat} {listed : Array Bool} {f : Nat → Value}
theorem hs_cast {i : Nat} {L L' : List Blk} (e : L = L') (h : jM M P n ops W L0 Q fuel listed i L' f) : jM M P n ops W L0 Q fuel listed i L f := by subst e; exact h
end
end
section
theorem Own.belowB {M : List Nat} {W w : World} {L : List Blk} {B : Nat} (h : Own M W w L) (hM : ∀ k ∈ M, B ≤ k) (hB : B ≤ W.heap.size) : Below B W w :=
  ⟨h.os, h.tape, h.output, h.size, h.drawn, fun k hk => h.kept k (Nat.lt_of_lt_of_le hk hB) fun hm => absurd (hM k hm) (Nat.not_le.2 hk)⟩
theorem Own.allB {M : List Nat} {W w : World} {L : List Blk} {B : Nat} (h : Own M W w L) (hM : ∀ k ∈ M, B ≤ k) (hB : B ≤ W.heap.size) : ∀ x ∈ L, B ≤ x.b := fun x hx => (h.base x hx).elim (fun q => Nat.le_trans hB q) (fun q => hM _ q)
structure LibOn (B : Nat) (W : World) : Prop where
  go : ∀ w, Below B W w → HasTab w
theorem LibOn.on {B : Nat} {W w : World} (h : LibOn B W) (hb : Below B W w) : LibOn B w := ⟨fun w' h' => h.go w' (hb.trans h')⟩
theorem own_fst {M : List Nat} {W w : World} {A B C : List Blk} (h : Own M W w ((A ++ B) ++ C)) : Own M W w A := h.sublist (by rw [List.append_assoc]; exact List.sublist_append_left _ _)
theorem map_ge {ob : List Blk} {B : Nat} (h : ∀ x ∈ ob, B ≤ x.b) : ∀ k ∈ ob.map Blk.b, B ≤ k := fun k hk => by
  obtain ⟨x, hx, rfl⟩ := List.mem_map.1 hk; exact h x hx
theorem part_lo {c : Cu} (h : In c) : (if c.aft = true then [62] else [62, 61]) ++ c.v.print = kS c := by rw [vF h.m]; rfl
theorem part_hi {c : Cu} (h : In c) : (if c.aft = true then [60, 61] else [60]) ++ c.v.print = gB c := by rw [vF h.m]; rfl
theorem qY (b : Nat) (l : List UInt8) (s : List UInt8) (ob : List Blk) (W : World) (hB : Bu b l ob) (hO : Own (ob.map Blk.b) W W ob) (hl : l.length ≤ 1000000000000) (hs : s.length ≤ 1000000000000) :
    Calls Tryz.prog 23 #[.pointer (some ⟨b, 0, none⟩), .string (mkS s)] W fun e w' => ∃ ob', e = .returned (.tuple #[.int .i64 ((mkS s).size : Int), .nilIface]) ∧ Bu b (l ++ s) ob' ∧ Own (ob.map Blk.b) W w' ob' := by
  obtain ⟨p, v, g, rfl, hp, hv⟩ := hB
  obtain ⟨A, cap, rfl⟩ := Sl.form hv
  have hsz := x6 s
  refine vZ (n := 19) hO Tryz.func23 rfl (by kernel_rfl) (by kernel_rfl) (ZO (Zv (.int .i64 0) (Zv (.nilIface) (ZR (Zv (.pointer (some ⟨b, 0, none⟩)) (zV (k := 42) (args := #[.pointer (some ⟨b, 0, none⟩)]) (fun v' L' => v' = .tuple #[] ∧ L' = ⟨b, #[.pointer (some ⟨b, 0, none⟩), .slice A l.length cap], 46⟩ :: g) (by kernel_rfl) (fun _ => by kernel_rfl) (fun w hO => (wcheck_any b p _ _ _ _ w hp hO).mono fun e w' ⟨k1, k2⟩ => ⟨_, _, k1, ⟨rfl, rfl⟩, k2⟩) (fun v0 L0 hv0 => ?_)))))))
  obtain ⟨rfl, rfl⟩ := hv0
  refine ZR (Zv (.pointer (some ⟨b, 0, none⟩)) (Zv (.pointer (some ⟨b, 0, none⟩)) (Zv (.pointer (some ⟨b, 0, none⟩)) (Zv (.pointer (some ⟨b, 1, none⟩)) (Zl 0 ⟨b, #[.pointer (some ⟨b, 0, none⟩), .slice A l.length cap], 46⟩ (off := 1) (.slice A l.length cap) (Zv (.string (mkS s)) ?_))))))
  obtain ⟨i0, e1, e2, e3, e4⟩ := infoU8
  refine xM (L' := [⟨b, #[.pointer (some ⟨b, 0, none⟩), .slice A l.length cap], 46⟩] ++ g ++ []) (by simp) (s_appstr (by kernel_rfl) rfl Tryz.underlying35 Tryz.underlying9 e1 e2 e3 e4 (by kernel_rfl) hv (s := mkS s) (by kernel_rfl) (by rw [hsz]; unfold maxLen; omega) (by rw [hsz]; omega) (fun v2 g2 hv2 => ?_))
  have hv3 : Sl 5 1 v2 (l ++ s).length (Lib.byteCells (l ++ s)) g2 := by rw [List.length_append, Lib.byteCells_append]; rw [hsz, j8] at hv2; exact hv2
  obtain ⟨A2, cap2, rfl⟩ := Sl.form hv3
  refine xM (L' := ⟨b, #[.pointer (some ⟨b, 0, none⟩), .slice A l.length cap], 46⟩ :: (g2)) (by simp) (Zv (.pointer (some ⟨b, 0, none⟩)) (Zv (.pointer (some ⟨b, 1, none⟩)) (Zs 0 ⟨b, #[.pointer (some ⟨b, 0, none⟩), .slice A l.length cap], 46⟩ (off := 1) (.slice A2 ((l ++ s).length) cap2) (ZR (Zv (.string (mkS s)) (Zv (.int .i64 ((mkS s).size)) (Zv (.int .i64 ((mkS s).size)) (Zv (.nilIface) ?_))))))))
  exact ZN (zF (pU (.int .i64 ((mkS s).size)) (.nilIface) Tryz.results23 (by kernel_rfl) (by kernel_rfl) (fun w hO => ⟨_, rfl, ⟨_, _, g2, rfl, .inr rfl, hv3⟩, hO⟩)))
theorem wByte_any (b : Nat) (l : List UInt8) (c : UInt8) (z : Int) (ob : List Blk) (W : World) (hB : Bu b l ob) (hO : Own (ob.map Blk.b) W W ob) (hl : l.length ≤ 1000000000000) (hz : (c.toNat : Int) = z) :
    Calls Tryz.prog 69 #[.pointer (some ⟨b, 0, none⟩), .int .u8 z] W fun e w' => ∃ ob', e = .returned (.nilIface) ∧ Bu b (l ++ [c]) ob' ∧ Own (ob.map Blk.b) W w' ob' := by
  obtain ⟨p, v, g, rfl, hp, hv⟩ := hB
  obtain ⟨A, cap, rfl⟩ := Sl.form hv
  subst hz
  refine vZ (n := 17) hO Tryz.func69 rfl (by kernel_rfl) (by kernel_rfl) (ZO (Zv (.nilIface) (ZR (Zv (.pointer (some ⟨b, 0, none⟩)) (zV (k := 42) (args := #[.pointer (some ⟨b, 0, none⟩)]) (fun v' L' => v' = .tuple #[] ∧ L' = ⟨b, #[.pointer (some ⟨b, 0, none⟩), .slice A l.length cap], 46⟩ :: g) (by kernel_rfl) (fun _ => by kernel_rfl) (fun w hO => (wcheck_any b p _ _ _ _ w hp hO).mono fun e w' ⟨k1, k2⟩ => ⟨_, _, k1, ⟨rfl, rfl⟩, k2⟩) (fun v0 L0 hv0 => ?_))))))
  obtain ⟨rfl, rfl⟩ := hv0
  refine ZR (Zv (.pointer (some ⟨b, 0, none⟩)) (Zv (.pointer (some ⟨b, 0, none⟩)) (Zv (.pointer (some ⟨b, 0, none⟩)) (Zv (.pointer (some ⟨b, 1, none⟩)) (Zl 0 ⟨b, #[.pointer (some ⟨b, 0, none⟩), .slice A l.length cap], 46⟩ (off := 1) (.slice A l.length cap) (Zv (.int .u8 (c.toNat : Int)) (vQ 5 #[.int .u8 (c.toNat : Int)] (by kernel_rfl) rfl (fun _ => by kernel_rfl) (fun b1 => ?_))))))))
  obtain ⟨i0, e1, e2, e3, e4⟩ := infoU8
  refine xM (L' := [⟨b1, #[.int .u8 (c.toNat : Int)], 5⟩, ⟨b, #[.pointer (some ⟨b, 0, none⟩), .slice A l.length cap], 46⟩] ++ g ++ []) (by simp) (gP (sz := 1) (by kernel_rfl) rfl Tryz.underlying35 e1 e2 e3 rfl (by kernel_rfl) hv (a := ⟨b1, 0, none⟩) (m := 1) (c := 1) (news := Lib.byteCells [c]) (by kernel_rfl) rfl (fun w hO j u hj => ?_) (fun u hu => by rw [List.mem_singleton.1 hu]; rfl) (by unfold maxLen; omega) (by rw [e4]; omega) (fun v2 g2 hv2 => ?_))
  · rw [xV, cell_of_row w b1 (0 + j) (Lib.byteCells [c]).toArray 5 _ (hO.held ⟨b1, (Lib.byteCells [c]).toArray, 5⟩ (List.mem_append_left _ (List.mem_append_left _ (List.mem_cons_self ..))))]; simpa using hj
  have hv3 : Sl 5 1 v2 (l ++ [c]).length (Lib.byteCells (l ++ [c])) g2 := by rw [List.length_append, Lib.byteCells_append]; exact hv2
  obtain ⟨A2, cap2, rfl⟩ := Sl.form hv3
  refine xM (L' := ⟨b1, #[.int .u8 (c.toNat : Int)], 5⟩ :: (⟨b, #[.pointer (some ⟨b, 0, none⟩), .slice A l.length cap], 46⟩ :: (g2))) (by simp) (Zv (.pointer (some ⟨b, 0, none⟩)) (Zv (.pointer (some ⟨b, 1, none⟩)) (Zs 1 ⟨b, #[.pointer (some ⟨b, 0, none⟩), .slice A l.length cap], 46⟩ (off := 1) (.slice A2 ((l ++ [c]).length) cap2) (ZR (Zv (.nilIface) (ZN (zF ?_)))))))
  exact ZF (.nilIface) Tryz.results69 (fun w hO => ⟨_, rfl, ⟨_, _, g2, rfl, .inr rfl, hv3⟩, Own.sub [⟨b1, #[.int .u8 (c.toNat : Int)], 5⟩] hO⟩)
theorem fT (b : Nat) (l x y : List UInt8) (c : Cu) (ob : List Blk) (W : World) (hB : Bu b l ob) (hO : Own (ob.map Blk.b) W W ob) (B : Nat) (hM : ∀ x ∈ ob, B ≤ x.b) (hBW : B ≤ W.heap.size) (hT : LibOn B W) (hl : l.length ≤ 100000000000) (hx : x.length ≤ 10) (hy : y.length ≤ 10) (hc : c.short) (hpl : c.v.print.length ≤ 1000000) :
    Calls Tryz.prog 68 #[.pointer (some ⟨b, 0, none⟩), zC c, .string (mkS x), .string (mkS y)] W fun e w' => ∃ ob', e = .returned (.tuple #[]) ∧ Bu b (l ++ ((if c.aft = true then y else x) ++ c.v.print)) ob' ∧ Own (ob.map Blk.b) W w' ob' := by
  have hM' := map_ge hM
  refine vZ (n := 25) hO Tryz.func68 rfl (by kernel_rfl) (by kernel_rfl) (ZO (Zb (zC c) (fun b1 => ZR (Zv (.string (mkS x)) (Zv (.string (mkS x)) (zT (zB ?_)))))))
  refine z6 (ZO (Zv (.pointer (some ⟨b1, 6, none⟩)) (Zl 0 ⟨b1, (zC c).cells, 72⟩ (off := 6) (.bool c.aft) (zT (zB ?_)))))
  cases h1 : c.aft with
  | true =>
    refine Zt (z7 (Zv (.string (mkS y)) (Zv (.string (mkS y)) (ZR (Zv (.pointer (some ⟨b, 0, none⟩)) (Zv (.pointer (some ⟨b, 0, none⟩)) (Zv (.pointer (some ⟨b, 0, none⟩)) (Zv (.string (mkS y)) ?_))))))))
    refine yQ (L' := ob ++ ([⟨b1, (zC c).cells, 72⟩] : List Blk)) (fun w hO => hO.perm (List.perm_append_comm (l₁ := ([⟨b1, (zC c).cells, 72⟩] : List Blk)) (l₂ := ob))) (zV (k := 23) (args := #[.pointer (some ⟨b, 0, none⟩), .string (mkS y)]) (fun v' L' => v' = .tuple #[.int .i64 ((mkS y).size : Int), .nilIface] ∧ ∃ ob', L' = ob' ++ ([⟨b1, (zC c).cells, 72⟩] : List Blk) ∧ Bu b (l ++ y) ob') (by kernel_rfl) (fun _ => by kernel_rfl) (fun w hO => (qY b l y ob w hB (Own.lent (R := ([⟨b1, (zC c).cells, 72⟩] : List Blk)) hO) (by first | omega | (simp only [List.length_append, List.length_cons, List.length_nil]; omega)) (by first | omega | (simp only [List.length_append, List.length_cons, List.length_nil]; omega))).mono fun e w' ⟨ob', k1, k2, k3⟩ => ⟨_, _, k1, ⟨rfl, ob', rfl, k2⟩, Own.back hO k3⟩) (fun vl1 Ll1 hvl1 => ?_))
    obtain ⟨rfl, ob1, rfl, hB1⟩ := hvl1
    refine yQ (L' := ⟨b1, (zC c).cells, 72⟩ :: (ob1)) (fun w hO => hO.perm (List.perm_append_comm (l₁ := ob1) (l₂ := ([⟨b1, (zC c).cells, 72⟩] : List Blk)))) (ZN (ok_take (L' := (ob1 ++ ([] : List Blk)) ++ [⟨b1, (zC c).cells, 72⟩]) (fun w hO => hO.perm (by simpa using (List.perm_append_comm (l₁ := [⟨b1, (zC c).cells, 72⟩]) (l₂ := ob1)))) (gI ([⟨b1, (zC c).cells, 72⟩]) (by kernel_rfl) (fun w hO => Own.sub (ob1 ++ ([] : List Blk)) hO) (ZT 0 (ob1 ++ ([] : List Blk)) _ (.pointer (some ⟨b, 0, none⟩)) zO rfl (ZT 1 (ob1 ++ ([] : List Blk)) _ (.pointer (some ⟨b, 0, none⟩)) zO rfl (ZT 2 (ob1 ++ ([] : List Blk)) _ (.pointer (some ⟨b, 0, none⟩)) zO rfl (ZT 3 (ob1 ++ ([] : List Blk)) _ (.pointer (some ⟨b1, 1, none⟩)) zO rfl (ZL 4 (ob1 ++ ([] : List Blk)) _ 0 ⟨b1, (zC c).cells, 72⟩ (off := 1) (.agg #[.int .i64 c.v.maj, .int .i64 c.v.min, .int .i64 c.v.pat, .string (mkS c.v.pre), .string (mkS c.v.build)]) zO rfl rfl (y6 5 (by kernel_rfl) (kK (ob1 ++ ([] : List Blk)) _ (k := 114) (args := #[.agg #[.int .i64 c.v.maj, .int .i64 c.v.min, .int .i64 c.v.pat, .string (mkS c.v.pre), .string (mkS c.v.build)]]) (.string (mkS c.v.print)) rfl (by kernel_rfl) (fun _ => by kernel_rfl) (fun w hO => mW c.v w hc.1 hc.2 (hT.go w (hO.belowB hM' hBW))) ?_))))))))))
    refine y6 6 (by kernel_rfl) (hs_cast (L' := ob1 ++ (([] : List Blk) ++ ([⟨b1, (zC c).cells, 72⟩]))) (by simp <;> rfl) (vK _ (k := 23) (args := #[.pointer (some ⟨b, 0, none⟩), .string (mkS c.v.print)]) (fun v' L' => v' = .tuple #[.int .i64 ((mkS c.v.print).size : Int), .nilIface] ∧ ∃ ob', L' = ob' ++ (([] : List Blk) ++ ([⟨b1, (zC c).cells, 72⟩])) ∧ Bu b (l ++ y ++ c.v.print) ob') rfl (by kernel_rfl) (fun _ => by kernel_rfl) (fun w hO => (qY b (l ++ y) c.v.print ob1 w hB1 (Own.lent hO) (by first | omega | (simp only [List.length_append, List.length_cons, List.length_nil]; omega)) (Nat.le_trans hpl (by decide))).mono fun e w' ⟨ob', k1, k2, k3⟩ => ⟨_, _, k1, ⟨rfl, ob', rfl, k2⟩, Own.back hO k3⟩) (fun v' L' ⟨_, ob', e, _⟩ w hO => by subst e; exact Own.sub ([] : List Blk) (Own.sub ob' hO)) (fun vlob9 Llob9 hvlob9 => ?_)))
    obtain ⟨rfl, ob9, rfl, hB9⟩ := hvlob9
    exact dL (L' := (ob9 ++ ([] : List Blk)) ++ ([⟨b1, (zC c).cells, 72⟩])) (by simp <;> rfl) (x7 (by kernel_rfl) (jH Tryz.results68 (fun w hO => ⟨ob9, rfl, by simpa using hB9, own_fst hO⟩)))
  | false =>
    refine Zf (ZB (ZO (Zv (.pointer (some ⟨b, 0, none⟩)) (Zv (.pointer (some ⟨b, 0, none⟩)) (Zv (.pointer (some ⟨b, 0, none⟩)) (Zv (.string (mkS x)) (yQ (L' := ob ++ ([⟨b1, (zC c).cells, 72⟩] : List Blk)) (fun w hO => hO.perm (List.perm_append_comm (l₁ := ([⟨b1, (zC c).cells, 72⟩] : List Blk)) (l₂ := ob))) (zV (k := 23) (args := #[.pointer (some ⟨b, 0, none⟩), .string (mkS x)]) (fun v' L' => v' = .tuple #[.int .i64 ((mkS x).size : Int), .nilIface] ∧ ∃ ob', L' = ob' ++ ([⟨b1, (zC c).cells, 72⟩] : List Blk) ∧ Bu b (l ++ x) ob') (by kernel_rfl) (fun _ => by kernel_rfl) (fun w hO => (qY b l x ob w hB (Own.lent (R := ([⟨b1, (zC c).cells, 72⟩] : List Blk)) hO) (by first | omega | (simp only [List.length_append, List.length_cons, List.length_nil]; omega)) (by first | omega | (simp only [List.length_append, List.length_cons, List.length_nil]; omega))).mono fun e w' ⟨ob', k1, k2, k3⟩ => ⟨_, _, k1, ⟨rfl, ob', rfl, k2⟩, Own.back hO k3⟩) (fun vl2 Ll2 hvl2 => ?_)))))))))
    obtain ⟨rfl, ob2, rfl, hB2⟩ := hvl2
    refine yQ (L' := ⟨b1, (zC c).cells, 72⟩ :: (ob2)) (fun w hO => hO.perm (List.perm_append_comm (l₁ := ob2) (l₂ := ([⟨b1, (zC c).cells, 72⟩] : List Blk)))) (ZN (ok_take (L' := (ob2 ++ ([] : List Blk)) ++ [⟨b1, (zC c).cells, 72⟩]) (fun w hO => hO.perm (by simpa using (List.perm_append_comm (l₁ := [⟨b1, (zC c).cells, 72⟩]) (l₂ := ob2)))) (gI ([⟨b1, (zC c).cells, 72⟩]) (by kernel_rfl) (fun w hO => Own.sub (ob2 ++ ([] : List Blk)) hO) (ZT 0 (ob2 ++ ([] : List Blk)) _ (.pointer (some ⟨b, 0, none⟩)) zO rfl (ZT 1 (ob2 ++ ([] : List Blk)) _ (.pointer (some ⟨b, 0, none⟩)) zO rfl (ZT 2 (ob2 ++ ([] : List Blk)) _ (.pointer (some ⟨b, 0, none⟩)) zO rfl (ZT 3 (ob2 ++ ([] : List Blk)) _ (.pointer (some ⟨b1, 1, none⟩)) zO rfl (ZL 4 (ob2 ++ ([] : List Blk)) _ 0 ⟨b1, (zC c).cells, 72⟩ (off := 1) (.agg #[.int .i64 c.v.maj, .int .i64 c.v.min, .int .i64 c.v.pat, .string (mkS c.v.pre), .string (mkS c.v.build)]) zO rfl rfl (y6 5 (by kernel_rfl) (kK (ob2 ++ ([] : List Blk)) _ (k := 114) (args := #[.agg #[.int .i64 c.v.maj, .int .i64 c.v.min, .int .i64 c.v.pat, .string (mkS c.v.pre), .string (mkS c.v.build)]]) (.string (mkS c.v.print)) rfl (by kernel_rfl) (fun _ => by kernel_rfl) (fun w hO => mW c.v w hc.1 hc.2 (hT.go w (hO.belowB hM' hBW))) ?_))))))))))
    refine y6 6 (by kernel_rfl) (hs_cast (L' := ob2 ++ (([] : List Blk) ++ ([⟨b1, (zC c).cells, 72⟩]))) (by simp <;> rfl) (vK _ (k := 23) (args := #[.pointer (some ⟨b, 0, none⟩), .string (mkS c.v.print)]) (fun v' L' => v' = .tuple #[.int .i64 ((mkS c.v.print).size : Int), .nilIface] ∧ ∃ ob', L' = ob' ++ (([] : List Blk) ++ ([⟨b1, (zC c).cells, 72⟩])) ∧ Bu b (l ++ x ++ c.v.print) ob') rfl (by kernel_rfl) (fun _ => by kernel_rfl) (fun w hO => (qY b (l ++ x) c.v.print ob2 w hB2 (Own.lent hO) (by first | omega | (simp only [List.length_append, List.length_cons, List.length_nil]; omega)) (Nat.le_trans hpl (by decide))).mono fun e w' ⟨ob', k1, k2, k3⟩ => ⟨_, _, k1, ⟨rfl, ob', rfl, k2⟩, Own.back hO k3⟩) (fun v' L' ⟨_, ob', e, _⟩ w hO => by subst e; exact Own.sub ([] : List Blk) (Own.sub ob' hO)) (fun vlob9 Llob9 hvlob9 => ?_)))
    obtain ⟨rfl, ob9, rfl, hB9⟩ := hvlob9
    exact dL (L' := (ob9 ++ ([] : List Blk)) ++ ([⟨b1, (zC c).cells, 72⟩])) (by simp <;> rfl) (x7 (by kernel_rfl) (jH Tryz.results68 (fun w hO => ⟨ob9, rfl, by simpa using hB9, own_fst hO⟩)))
end
section
theorem wspan_any (b : Nat) (l : List UInt8) (s : Sp) (ob : List Blk) (W : World) (hB : Bu b l ob) (hO : Own (ob.map Blk.b) W W ob) (B : Nat) (hM : ∀ x ∈ ob, B ≤ x.b) (hBW : B ≤ W.heap.size) (hT : LibOn B W) (hl : l.length ≤ 10000000000) (hm : s.may = true) (hsh : s.short) :
    Calls Tryz.prog 41 #[.pointer (some ⟨b, 0, none⟩), zM s] W fun e w' => ∃ ob', e = .returned (.tuple #[]) ∧ Bu b (l ++ xF s) ob' ∧ Own (ob.map Blk.b) W w' ob' := by
  have hM' := map_ge hM
  obtain ⟨m1, m2⟩ := zU hm
  refine vZ (n := 42) hO Tryz.func41 rfl (by kernel_rfl) (by kernel_rfl) (ZO (Zb (zM s) (fun b1 => ZN (z6 (mA (by kernel_rfl) (by kernel_rfl) (Zw (.pointer (some ⟨b1, 0, none⟩)) (Zw (.pointer (some ⟨b1, 0, none⟩)) (Zm 0 ⟨b1, (zM s).cells, 74⟩ (off := 0) (.int .i64 s.lo.e) ?_))))))))
  by_cases h1 : (s.lo.e : Int) = 0
  · have il := In.of m1 h1
    have ill := lo_len il
    refine Ze (p := (s.lo.e : Int) = 0) true (decide_eq_true (h1)) (Zw (.pointer (some ⟨b1, 7, none⟩)) (Zw (.pointer (some ⟨b1, 7, none⟩)) (Zm 0 ⟨b1, (zM s).cells, 74⟩ (off := 7) (.int .i64 s.hi.e) ?_)))
    by_cases h2 : (s.hi.e : Int) = 0
    · have ih := In.of m2 h2
      have ihl := hi_len ih
      refine Ze (p := (s.hi.e : Int) = 0) true (decide_eq_true (h2)) (Zw (.bool true) (Zw (.bool true) (vR (zB (z6 (ZO (Zv (.bool true) (ZN (Zt ?_)))))))))
      refine z7 (Zv (.pointer (some ⟨b, 0, none⟩)) (Zv (.pointer (some ⟨b1, 0, none⟩)) (Zl 0 ⟨b1, (zM s).cells, 74⟩ (off := 0) (.agg #[.int .i64 s.lo.e, .int .i64 s.lo.v.maj, .int .i64 s.lo.v.min, .int .i64 s.lo.v.pat, .string (mkS s.lo.v.pre), .string (mkS s.lo.v.build), .bool s.lo.aft]) (yQ (L' := ob ++ ([⟨b1, (zM s).cells, 74⟩] : List Blk)) (fun w hO => hO.perm (List.perm_append_comm (l₁ := ([⟨b1, (zM s).cells, 74⟩] : List Blk)) (l₂ := ob))) (zV (k := 68) (args := #[.pointer (some ⟨b, 0, none⟩), .agg #[.int .i64 s.lo.e, .int .i64 s.lo.v.maj, .int .i64 s.lo.v.min, .int .i64 s.lo.v.pat, .string (mkS s.lo.v.pre), .string (mkS s.lo.v.build), .bool s.lo.aft], .string ⟨#[62, 61]⟩, .string ⟨#[62]⟩]) (fun v' L' => v' = .tuple #[] ∧ ∃ ob', L' = ob' ++ ([⟨b1, (zM s).cells, 74⟩] : List Blk) ∧ Bu b (l ++ kS s.lo) ob') (by kernel_rfl) (fun _ => by kernel_rfl) (fun w hO => (fT b l [62, 61] [62] s.lo ob w hB (Own.lent (R := ([⟨b1, (zM s).cells, 74⟩] : List Blk)) hO) B (fun x hx => hO.allB hM' hBW x (List.mem_append_left _ hx)) (Nat.le_trans hBW hO.size) (hT.on (hO.belowB hM' hBW)) (by first | omega | (simp only [List.length_append, List.length_cons, List.length_nil]; omega)) (by decide) (by decide) hsh.1 (by rw [vF il.m]; exact Nat.le_trans (jP il.m il.b) (by decide))).mono fun e w' ⟨ob', k1, k2, k3⟩ => ⟨_, _, k1, ⟨rfl, ob', rfl, by rw [part_lo il] at k2; exact k2⟩, Own.back hO k3⟩) (fun vl1 Ll1 hvl1 => ?_))))))
      obtain ⟨rfl, ob1, rfl, hB1⟩ := hvl1
      refine yQ (L' := ⟨b1, (zM s).cells, 74⟩ :: (ob1)) (fun w hO => hO.perm (List.perm_append_comm (l₁ := ob1) (l₂ := ([⟨b1, (zM s).cells, 74⟩] : List Blk)))) (ZN (z6 (ZO (Zv (.bool true) (Zv (.bool true) (Zv (.bool true) (Zv (.bool true) (zT (zB ?_)))))))))
      refine Zt (z7 (Zv (.pointer (some ⟨b, 0, none⟩)) (Zv (.pointer (some ⟨b, 0, none⟩)) (Zv (.pointer (some ⟨b, 0, none⟩)) (yQ (L' := ob1 ++ ([⟨b1, (zM s).cells, 74⟩] : List Blk)) (fun w hO => hO.perm (List.perm_append_comm (l₁ := ([⟨b1, (zM s).cells, 74⟩] : List Blk)) (l₂ := ob1))) (zV (k := 69) (args := #[.pointer (some ⟨b, 0, none⟩), .int .u8 32]) (fun v' L' => v' = .nilIface ∧ ∃ ob', L' = ob' ++ ([⟨b1, (zM s).cells, 74⟩] : List Blk) ∧ Bu b (l ++ kS s.lo ++ [32]) ob') (by kernel_rfl) (fun _ => by kernel_rfl) (fun w hO => (wByte_any b (l ++ kS s.lo) 32 32 ob1 w hB1 (Own.lent (R := ([⟨b1, (zM s).cells, 74⟩] : List Blk)) hO) (by first | omega | (simp only [List.length_append, List.length_cons, List.length_nil]; omega)) (by decide)).mono fun e w' ⟨ob', k1, k2, k3⟩ => ⟨_, _, k1, ⟨rfl, ob', rfl, k2⟩, Own.back hO k3⟩) (fun vl2 Ll2 hvl2 => ?_)))))))
      obtain ⟨rfl, ob2, rfl, hB2⟩ := hvl2
      refine yQ (L' := ⟨b1, (zM s).cells, 74⟩ :: (ob2)) (fun w hO => hO.perm (List.perm_append_comm (l₁ := ob2) (l₂ := ([⟨b1, (zM s).cells, 74⟩] : List Blk)))) (ZN (z6 (ZO (Zv (.bool true) (ZY (z7 (Zv (.pointer (some ⟨b, 0, none⟩)) ?_)))))))
      refine Zv (.pointer (some ⟨b1, 7, none⟩)) (Zl 0 ⟨b1, (zM s).cells, 74⟩ (off := 7) (.agg #[.int .i64 s.hi.e, .int .i64 s.hi.v.maj, .int .i64 s.hi.v.min, .int .i64 s.hi.v.pat, .string (mkS s.hi.v.pre), .string (mkS s.hi.v.build), .bool s.hi.aft]) (yQ (L' := ob2 ++ ([⟨b1, (zM s).cells, 74⟩] : List Blk)) (fun w hO => hO.perm (List.perm_append_comm (l₁ := ([⟨b1, (zM s).cells, 74⟩] : List Blk)) (l₂ := ob2))) (zV (k := 68) (args := #[.pointer (some ⟨b, 0, none⟩), .agg #[.int .i64 s.hi.e, .int .i64 s.hi.v.maj, .int .i64 s.hi.v.min, .int .i64 s.hi.v.pat, .string (mkS s.hi.v.pre), .string (mkS s.hi.v.build), .bool s.hi.aft], .string ⟨#[60]⟩, .string ⟨#[60, 61]⟩]) (fun v' L' => v' = .tuple #[] ∧ ∃ ob', L' = ob' ++ ([⟨b1, (zM s).cells, 74⟩] : List Blk) ∧ Bu b (l ++ kS s.lo ++ [32] ++ gB s.hi) ob') (by kernel_rfl) (fun _ => by kernel_rfl) (fun w hO => (fT b (l ++ kS s.lo ++ [32]) [60] [60, 61] s.hi ob2 w hB2 (Own.lent (R := ([⟨b1, (zM s).cells, 74⟩] : List Blk)) hO) B (fun x hx => hO.allB hM' hBW x (List.mem_append_left _ hx)) (Nat.le_trans hBW hO.size) (hT.on (hO.belowB hM' hBW)) (by first | omega | (simp only [List.length_append, List.length_cons, List.length_nil]; omega)) (by decide) (by decide) hsh.2 (by rw [vF ih.m]; exact Nat.le_trans (jP ih.m ih.b) (by decide))).mono fun e w' ⟨ob', k1, k2, k3⟩ => ⟨_, _, k1, ⟨rfl, ob', rfl, by rw [part_hi ih] at k2; exact k2⟩, Own.back hO k3⟩) (fun vl3 Ll3 hvl3 => ?_))))
      obtain ⟨rfl, ob3, rfl, hB3⟩ := hvl3
      refine yQ (L' := ⟨b1, (zM s).cells, 74⟩ :: (ob3)) (fun w hO => hO.perm (List.perm_append_comm (l₁ := ob3) (l₂ := ([⟨b1, (zM s).cells, 74⟩] : List Blk)))) (ZR (Zv (.bool true) (Zv (.bool false) (Zv (.bool false) (Zk (Zk (Zv (.bool false) (zT ?_))))))))
      exact zB (Zf (xK (jH Tryz.results41 (fun w hO => ⟨ob3, rfl, by rw [pE, if_pos h1, if_pos h2]; simpa using hB3, Own.sub [_] hO⟩))))
    refine Ze (p := (s.hi.e : Int) = 0) false (decide_eq_false (h2)) (Zw (.bool true) (Zw (.bool false) (vR (zB (z6 (ZO (Zv (.bool true) (ZN (Zt ?_)))))))))
    refine z7 (Zv (.pointer (some ⟨b, 0, none⟩)) (Zv (.pointer (some ⟨b1, 0, none⟩)) (Zl 0 ⟨b1, (zM s).cells, 74⟩ (off := 0) (.agg #[.int .i64 s.lo.e, .int .i64 s.lo.v.maj, .int .i64 s.lo.v.min, .int .i64 s.lo.v.pat, .string (mkS s.lo.v.pre), .string (mkS s.lo.v.build), .bool s.lo.aft]) (yQ (L' := ob ++ ([⟨b1, (zM s).cells, 74⟩] : List Blk)) (fun w hO => hO.perm (List.perm_append_comm (l₁ := ([⟨b1, (zM s).cells, 74⟩] : List Blk)) (l₂ := ob))) (zV (k := 68) (args := #[.pointer (some ⟨b, 0, none⟩), .agg #[.int .i64 s.lo.e, .int .i64 s.lo.v.maj, .int .i64 s.lo.v.min, .int .i64 s.lo.v.pat, .string (mkS s.lo.v.pre), .string (mkS s.lo.v.build), .bool s.lo.aft], .string ⟨#[62, 61]⟩, .string ⟨#[62]⟩]) (fun v' L' => v' = .tuple #[] ∧ ∃ ob', L' = ob' ++ ([⟨b1, (zM s).cells, 74⟩] : List Blk) ∧ Bu b (l ++ kS s.lo) ob') (by kernel_rfl) (fun _ => by kernel_rfl) (fun w hO => (fT b l [62, 61] [62] s.lo ob w hB (Own.lent (R := ([⟨b1, (zM s).cells, 74⟩] : List Blk)) hO) B (fun x hx => hO.allB hM' hBW x (List.mem_append_left _ hx)) (Nat.le_trans hBW hO.size) (hT.on (hO.belowB hM' hBW)) (by first | omega | (simp only [List.length_append, List.length_cons, List.length_nil]; omega)) (by decide) (by decide) hsh.1 (by rw [vF il.m]; exact Nat.le_trans (jP il.m il.b) (by decide))).mono fun e w' ⟨ob', k1, k2, k3⟩ => ⟨_, _, k1, ⟨rfl, ob', rfl, by rw [part_lo il] at k2; exact k2⟩, Own.back hO k3⟩) (fun vl4 Ll4 hvl4 => ?_))))))
    obtain ⟨rfl, ob4, rfl, hB4⟩ := hvl4
    refine yQ (L' := ⟨b1, (zM s).cells, 74⟩ :: (ob4)) (fun w hO => hO.perm (List.perm_append_comm (l₁ := ob4) (l₂ := ([⟨b1, (zM s).cells, 74⟩] : List Blk)))) (ZN (z6 (ZO (Zv (.bool true) (Zv (.bool true) (Zv (.bool false) (Zv (.bool false) (zT (zB ?_)))))))))
    refine Zf (ZB (z6 (ZO (Zv (.bool false) (ZX (xK (zB ?_)))))))
    refine ZO (Zv (.bool true) (Zv (.bool false) (Zv (.bool false) (Zk (Zk (Zv (.bool false) (ZX (xK ?_))))))))
    exact jH Tryz.results41 (fun w hO => ⟨ob4, rfl, by rw [pE, if_pos h1, if_neg h2]; simpa using hB4, Own.sub [_] hO⟩)
  refine Ze (p := (s.lo.e : Int) = 0) false (decide_eq_false (h1)) (Zw (.pointer (some ⟨b1, 7, none⟩)) (Zw (.pointer (some ⟨b1, 7, none⟩)) (Zm 0 ⟨b1, (zM s).cells, 74⟩ (off := 7) (.int .i64 s.hi.e) ?_)))
  by_cases h3 : (s.hi.e : Int) = 0
  · have ih := In.of m2 h3
    have ihl := hi_len ih
    refine Ze (p := (s.hi.e : Int) = 0) true (decide_eq_true (h3)) (Zw (.bool false) (Zw (.bool true) (vR (zB (z6 (ZO (Zv (.bool false) (ZN (Zf ?_)))))))))
    refine ZB (z6 (ZO (Zv (.bool false) (Zv (.bool false) (Zk (Zv (.bool false) (ZN (Zf ?_))))))))
    refine ZB (z6 (ZO (Zv (.bool true) (ZY (z7 (Zv (.pointer (some ⟨b, 0, none⟩)) (Zv (.pointer (some ⟨b1, 7, none⟩)) ?_)))))))
    refine Zl 0 ⟨b1, (zM s).cells, 74⟩ (off := 7) (.agg #[.int .i64 s.hi.e, .int .i64 s.hi.v.maj, .int .i64 s.hi.v.min, .int .i64 s.hi.v.pat, .string (mkS s.hi.v.pre), .string (mkS s.hi.v.build), .bool s.hi.aft]) (yQ (L' := ob ++ ([⟨b1, (zM s).cells, 74⟩] : List Blk)) (fun w hO => hO.perm (List.perm_append_comm (l₁ := ([⟨b1, (zM s).cells, 74⟩] : List Blk)) (l₂ := ob))) (zV (k := 68) (args := #[.pointer (some ⟨b, 0, none⟩), .agg #[.int .i64 s.hi.e, .int .i64 s.hi.v.maj, .int .i64 s.hi.v.min, .int .i64 s.hi.v.pat, .string (mkS s.hi.v.pre), .string (mkS s.hi.v.build), .bool s.hi.aft], .string ⟨#[60]⟩, .string ⟨#[60, 61]⟩]) (fun v' L' => v' = .tuple #[] ∧ ∃ ob', L' = ob' ++ ([⟨b1, (zM s).cells, 74⟩] : List Blk) ∧ Bu b (l ++ gB s.hi) ob') (by kernel_rfl) (fun _ => by kernel_rfl) (fun w hO => (fT b l [60] [60, 61] s.hi ob w hB (Own.lent (R := ([⟨b1, (zM s).cells, 74⟩] : List Blk)) hO) B (fun x hx => hO.allB hM' hBW x (List.mem_append_left _ hx)) (Nat.le_trans hBW hO.size) (hT.on (hO.belowB hM' hBW)) (by first | omega | (simp only [List.length_append, List.length_cons, List.length_nil]; omega)) (by decide) (by decide) hsh.2 (by rw [vF ih.m]; exact Nat.le_trans (jP ih.m ih.b) (by decide))).mono fun e w' ⟨ob', k1, k2, k3⟩ => ⟨_, _, k1, ⟨rfl, ob', rfl, by rw [part_hi ih] at k2; exact k2⟩, Own.back hO k3⟩) (fun vl5 Ll5 hvl5 => ?_)))
    obtain ⟨rfl, ob5, rfl, hB5⟩ := hvl5
    refine yQ (L' := ⟨b1, (zM s).cells, 74⟩ :: (ob5)) (fun w hO => hO.perm (List.perm_append_comm (l₁ := ob5) (l₂ := ([⟨b1, (zM s).cells, 74⟩] : List Blk)))) (ZR (Zv (.bool false) (Zv (.bool true) (Zv (.bool true) (Zv (.bool true) (Zv (.bool false) (Zv (.bool false) (zT ?_))))))))
    exact zB (Zf (xK (jH Tryz.results41 (fun w hO => ⟨ob5, rfl, by rw [pE, if_neg h1, if_pos h3]; simpa using hB5, Own.sub [_] hO⟩))))
  refine Ze (p := (s.hi.e : Int) = 0) false (decide_eq_false (h3)) (Zw (.bool false) (Zw (.bool false) (vR (zB (z6 (ZO (Zv (.bool false) (ZN (Zf ?_)))))))))
  refine ZB (z6 (ZO (Zv (.bool false) (Zv (.bool false) (Zk (Zv (.bool false) (ZN (Zf ?_))))))))
  refine ZB (z6 (ZO (Zv (.bool false) (ZX (ZB (z6 ?_))))))
  refine z7 (Zv (.bool false) (Zv (.bool true) (Zv (.bool true) (Zv (.bool false) (Zv (.bool true) (Zv (.bool true) (ZY (z7 (Zv (.pointer (some ⟨b, 0, none⟩)) ?_)))))))))
  refine Zv (.pointer (some ⟨b, 0, none⟩)) (Zv (.pointer (some ⟨b, 0, none⟩)) (yQ (L' := ob ++ ([⟨b1, (zM s).cells, 74⟩] : List Blk)) (fun w hO => hO.perm (List.perm_append_comm (l₁ := ([⟨b1, (zM s).cells, 74⟩] : List Blk)) (l₂ := ob))) (zV (k := 69) (args := #[.pointer (some ⟨b, 0, none⟩), .int .u8 42]) (fun v' L' => v' = .nilIface ∧ ∃ ob', L' = ob' ++ ([⟨b1, (zM s).cells, 74⟩] : List Blk) ∧ Bu b (l ++ [42]) ob') (by kernel_rfl) (fun _ => by kernel_rfl) (fun w hO => (wByte_any b l 42 42 ob w hB (Own.lent (R := ([⟨b1, (zM s).cells, 74⟩] : List Blk)) hO) (by first | omega | (simp only [List.length_append, List.length_cons, List.length_nil]; omega)) (by decide)).mono fun e w' ⟨ob', k1, k2, k3⟩ => ⟨_, _, k1, ⟨rfl, ob', rfl, k2⟩, Own.back hO k3⟩) (fun vl6 Ll6 hvl6 => ?_))))
  obtain ⟨rfl, ob6, rfl, hB6⟩ := hvl6
  exact yQ (L' := ⟨b1, (zM s).cells, 74⟩ :: (ob6)) (fun w hO => hO.perm (List.perm_append_comm (l₁ := ob6) (l₂ := ([⟨b1, (zM s).cells, 74⟩] : List Blk)))) (zT (jH Tryz.results41 (fun w hO => ⟨ob6, rfl, by rw [pE, if_neg h1, if_neg h3]; simpa using hB6, Own.sub [_] hO⟩)))
theorem wrow_any (b : Nat) (l0 : List UInt8) (A : Option Addr) (cap : Nat) (l : List Sp) (ob : List Blk) (W : World) (hB : Bu b l0 ob) (hO : Own (ob.map Blk.b) W W ob) (B : Nat) (hM : ∀ x ∈ ob, B ≤ x.b) (hBW : B ≤ W.heap.size) (hT : LibOn B W) (hv : Reads yR W B A l) (hm : ∀ s ∈ l, s.may = true) (hsh : yU l) (hl0 : l0.length ≤ 1000000000) (hn : l.length ≤ 1000000) :
    Calls Tryz.prog 22 #[.pointer (some ⟨b, 0, none⟩), .slice A l.length cap] W fun e w' => ∃ ob', e = .returned (.tuple #[]) ∧ Bu b (l0 ++ yG l) ob' ∧ Own (ob.map Blk.b) W w' ob' := by
  have hM' := map_ge hM
  refine vZ (n := 30) hO Tryz.func22 rfl (by kernel_rfl) (by kernel_rfl) (z6 (ZO (Zv (.slice A l.length cap) (Zv (.int .i64 (l.length : Int)) ?_))))
  by_cases h1 : (l.length : Int) = 0
  · refine yS (p := (l.length : Int) = 0) true (by kernel_rfl) (fun _ => by kernel_rfl) (decide_eq_true (h1)) ?_
    refine ZY (z7 (Zv (.pointer (some ⟨b, 0, none⟩)) (Zv (.pointer (some ⟨b, 0, none⟩)) (Zv (.pointer (some ⟨b, 0, none⟩)) (xM (L' := ob ++ ([] : List Blk)) (List.append_nil _).symm (zV (k := 23) (args := #[.pointer (some ⟨b, 0, none⟩), .string ⟨#[45]⟩]) (fun v' L' => v' = .tuple #[.int .i64 ((mkS [45]).size : Int), .nilIface] ∧ ∃ ob', L' = ob' ++ ([] : List Blk) ∧ Bu b (l0 ++ [45]) ob') (by kernel_rfl) (fun _ => by kernel_rfl) (fun w hO => (qY b l0 [45] ob w hB (Own.lent (R := ([] : List Blk)) hO) (by first | omega | (simp only [List.length_append, List.length_cons, List.length_nil]; omega)) (by first | omega | (simp only [List.length_append, List.length_cons, List.length_nil]; omega))).mono fun e w' ⟨ob', k1, k2, k3⟩ => ⟨_, _, k1, ⟨rfl, ob', rfl, k2⟩, Own.back hO k3⟩) (fun vl1 Ll1 hvl1 => ?_)))))))
    obtain ⟨rfl, ob1, rfl, hB1⟩ := hvl1
    refine xM (L' := ob1) (List.append_nil _) (ZR (Zv (.slice A l.length cap) (Zv (.int .i64 (l.length : Int)) (Zv (.int .i64 0) (ZN (zL (kJ (L' := ob1 ++ ([] : List Blk)) (List.append_nil _).symm ?_)))))))
    refine xA (fun L f m => ∃ (k : Nat) (oc : List Blk) (j : Nat → Value), (k ≤ l.length ∧ Bu b (l0 ++ [45] ++ wT l k) oc) ∧ L = oc ++ ([] : List Blk) ∧ f = g9 j [(0, .pointer (some ⟨b, 0, none⟩)), (13, .slice A l.length cap), (14, .int .i64 (l.length : Int)), (15, .int .i64 (k : Int))] ∧ m = l.length - k) (l.length - 0) ⟨0, ob1, _, ⟨Nat.zero_le _, by rw [rowK_zero, List.append_nil]; exact hB1⟩, rfl, ZU, rfl⟩ ?_
    rintro L f m ⟨k, oc, j, hrel, rfl, rfl, rfl⟩
    obtain ⟨hkl, hBk⟩ := hrel; have hrk := rowK_len hm k; refine kJ (L' := oc) (List.append_nil oc) ?_
    refine ZO (Zd (p := (k : Int) < (l.length : Int)) false (decide_eq_false (by omega)) (ZN (z6 (Zf (y8 (z8 (zQ (zG (jH Tryz.results22 ?_)))))))))
    intro w hO
    have e0 : l = [] := List.eq_nil_of_length_eq_zero (by omega)
    have e2 : wT l k = [] := by rw [e0]; unfold wT; simp [g8]
    rw [e2] at hBk
    exact ⟨oc, rfl, by rw [show yG l = [45] from by rw [e0]; rfl]; simpa using hBk, hO⟩
  refine Zd (p := (l.length : Int) = 0) false (decide_eq_false (h1)) (ZX (ZB (ZO (Zv (.slice A l.length cap) (Zv (.int .i64 (l.length : Int)) (Zv (.int .i64 0) (zT ?_)))))))
  refine zB (zL (kJ (L' := ob ++ ([] : List Blk)) (List.append_nil _).symm (xA (fun L f m => ∃ (k : Nat) (oc : List Blk) (j : Nat → Value), (k ≤ l.length ∧ Bu b (l0 ++ wT l k) oc) ∧ L = oc ++ ([] : List Blk) ∧ f = g9 j [(0, .pointer (some ⟨b, 0, none⟩)), (13, .slice A l.length cap), (14, .int .i64 (l.length : Int)), (15, .int .i64 (k : Int))] ∧ m = l.length - k) (l.length - 0) ⟨0, ob, _, ⟨Nat.zero_le _, by rw [rowK_zero, List.append_nil]; exact hB⟩, rfl, ZU, rfl⟩ ?_)))
  rintro L f m ⟨k, oc, j, hrel, rfl, rfl, rfl⟩
  obtain ⟨hkl, hBk⟩ := hrel; have hrk := rowK_len hm k; refine kJ (L' := oc) (List.append_nil oc) ?_
  refine z6 (z7 ?_)
  by_cases h2 : (k : Int) < (l.length : Int)
  · have hk : k < l.length := by omega
    obtain ⟨bp, off, hA, hlt, hcell⟩ := hv (by omega)
    obtain ⟨s, hs⟩ : ∃ s, l[k] = s := ⟨_, rfl⟩
    have hsm : s ∈ l := hs ▸ List.getElem_mem hk
    have hsl := sp_len (hm s hsm)
    refine Zd (p := (k : Int) < (l.length : Int)) true (decide_eq_true (h2)) (ZN (z6 (Zt (ZB (z6 (zL (ZO (Zv (.int .i64 (k : Int)) ?_))))))))
    refine zW (.pointer (some ⟨bp, off + k * 14, none⟩)) (by kernel_rfl) (ZA (b := bp) (off := off) (c := cap) (n := l.length) (k := .i64) (j := (k : Int)) (e := 74) (sz := 14) hA) (Zo (zM s) (a := ⟨bp, off + k * 14, none⟩) (fun w hO => xG yC (fun j u h => ((hO.belowB hM' hBW).cell (p := ⟨bp, off + j, none⟩) hlt).trans (hcell j u h)) k 0 hk (by omega) _ (by rw [hs]; kernel_rfl)) (Za (.agg #[.int .i64 0, .int .i64 0, .int .i64 0, .int .i64 0, .string ⟨#[]⟩, .string ⟨#[]⟩, .bool false, .int .i64 0, .int .i64 0, .int .i64 0, .int .i64 0, .string ⟨#[]⟩, .string ⟨#[]⟩, .bool false]) (fun b1 => Zv (.int .i64 (k : Int)) (Zs 0 ⟨b1, #[.int .i64 0, .int .i64 0, .int .i64 0, .int .i64 0, .string ⟨#[]⟩, .string ⟨#[]⟩, .bool false, .int .i64 0, .int .i64 0, .int .i64 0, .int .i64 0, .string ⟨#[]⟩, .string ⟨#[]⟩, .bool false], 74⟩ (off := 0) (zM s) (ZN (z6 (ZO (Zv (.int .i64 (k : Int)) ?_))))))))
    by_cases h3 : (0 : Int) < (k : Int)
    · refine yS (p := (0 : Int) < (k : Int)) true (by kernel_rfl) (fun _ => by kernel_rfl) (decide_eq_true (h3)) ?_
      refine ZY (z7 (Zv (.pointer (some ⟨b, 0, none⟩)) (Zv (.pointer (some ⟨b, 0, none⟩)) (Zv (.pointer (some ⟨b, 0, none⟩)) (yQ (L' := oc ++ ([⟨b1, (zM s).cells, 74⟩] : List Blk)) (fun w hO => hO.perm (List.perm_append_comm (l₁ := ([⟨b1, (zM s).cells, 74⟩] : List Blk)) (l₂ := oc))) (zV (k := 23) (args := #[.pointer (some ⟨b, 0, none⟩), .string ⟨#[32, 111, 114, 32]⟩]) (fun v' L' => v' = .tuple #[.int .i64 ((mkS ([32, 111, 114, 32])).size : Int), .nilIface] ∧ ∃ ob', L' = ob' ++ ([⟨b1, (zM s).cells, 74⟩] : List Blk) ∧ Bu b (l0 ++ wT l k ++ ([32, 111, 114, 32])) ob') (by kernel_rfl) (fun _ => by kernel_rfl) (fun w hO => (qY b (l0 ++ wT l k) ([32, 111, 114, 32]) oc w hBk (Own.lent (R := ([⟨b1, (zM s).cells, 74⟩] : List Blk)) hO) (by first | omega | (simp only [List.length_append, List.length_cons, List.length_nil]; omega)) (by first | omega | (simp only [List.length_append, List.length_cons, List.length_nil]; omega))).mono fun e w' ⟨ob', k1, k2, k3⟩ => ⟨_, _, k1, ⟨rfl, ob', rfl, k2⟩, Own.back hO k3⟩) (fun vl2 Ll2 hvl2 => ?_)))))))
      obtain ⟨rfl, ob2, rfl, hB2⟩ := hvl2
      refine yQ (L' := ⟨b1, (zM s).cells, 74⟩ :: (ob2)) (fun w hO => hO.perm (List.perm_append_comm (l₁ := ob2) (l₂ := ([⟨b1, (zM s).cells, 74⟩] : List Blk)))) (ZN (z7 (Zv (.pointer (some ⟨b, 0, none⟩)) (Zl 0 ⟨b1, (zM s).cells, 74⟩ (off := 0) (zM s) (yQ (L' := ob2 ++ ([⟨b1, (zM s).cells, 74⟩] : List Blk)) (fun w hO => hO.perm (List.perm_append_comm (l₁ := ([⟨b1, (zM s).cells, 74⟩] : List Blk)) (l₂ := ob2))) (zV (k := 41) (args := #[.pointer (some ⟨b, 0, none⟩), zM s]) (fun v' L' => v' = .tuple #[] ∧ ∃ ob', L' = ob' ++ ([⟨b1, (zM s).cells, 74⟩] : List Blk) ∧ Bu b (l0 ++ wT l k ++ ([32, 111, 114, 32]) ++ xF s) ob') (by kernel_rfl) (fun _ => by kernel_rfl) (fun w hO => (wspan_any b (l0 ++ wT l k ++ ([32, 111, 114, 32])) s ob2 w hB2 (Own.lent (R := ([⟨b1, (zM s).cells, 74⟩] : List Blk)) hO) B (fun x hx => hO.allB hM' hBW x (List.mem_append_left _ hx)) (Nat.le_trans hBW hO.size) (hT.on (hO.belowB hM' hBW)) (by first | omega | (simp only [List.length_append, List.length_cons, List.length_nil]; omega)) (hm s hsm) (hsh s hsm)).mono fun e w' ⟨ob', k1, k2, k3⟩ => ⟨_, _, k1, ⟨rfl, ob', rfl, k2⟩, Own.back hO k3⟩) (fun vl3 Ll3 hvl3 => ?_)))))))
      obtain ⟨rfl, ob3, rfl, hB3⟩ := hvl3
      refine yQ (L' := ⟨b1, (zM s).cells, 74⟩ :: (ob3)) (fun w hO => hO.perm (List.perm_append_comm (l₁ := ob3) (l₂ := ([⟨b1, (zM s).cells, 74⟩] : List Blk)))) (zT (zP (zB (z7 (Zu (k := .i64) (((k + 1 : Nat) : Int)) (IntWalk.i64_in _ (by omega)) (Zv (.int .i64 ((k + 1 : Nat) : Int)) (zT ?_)))))))
      have hnx : Bu b (l0 ++ wT l (k + 1)) ob3 := by rw [rowK_step hk, if_neg (show ¬ k = 0 by omega), hs]; simpa using hB3
      exact yZ (L' := ob3 ++ ([] : List Blk)) (fun w hO => by rw [List.append_nil]; exact Own.sub [⟨b1, (zM s).cells, 74⟩] hO) (zX (m' := l.length - (k + 1)) (by omega) ⟨k + 1, ob3, _, ⟨by omega, hnx⟩, rfl, ZU, rfl⟩)
    refine Zd (p := (0 : Int) < (k : Int)) false (decide_eq_false (h3)) (ZX (ZB (z7 (Zv (.pointer (some ⟨b, 0, none⟩)) (Zl 0 ⟨b1, (zM s).cells, 74⟩ (off := 0) (zM s) (yQ (L' := oc ++ ([⟨b1, (zM s).cells, 74⟩] : List Blk)) (fun w hO => hO.perm (List.perm_append_comm (l₁ := ([⟨b1, (zM s).cells, 74⟩] : List Blk)) (l₂ := oc))) (zV (k := 41) (args := #[.pointer (some ⟨b, 0, none⟩), zM s]) (fun v' L' => v' = .tuple #[] ∧ ∃ ob', L' = ob' ++ ([⟨b1, (zM s).cells, 74⟩] : List Blk) ∧ Bu b (l0 ++ wT l k ++ xF s) ob') (by kernel_rfl) (fun _ => by kernel_rfl) (fun w hO => (wspan_any b (l0 ++ wT l k) s oc w hBk (Own.lent (R := ([⟨b1, (zM s).cells, 74⟩] : List Blk)) hO) B (fun x hx => hO.allB hM' hBW x (List.mem_append_left _ hx)) (Nat.le_trans hBW hO.size) (hT.on (hO.belowB hM' hBW)) (by first | omega | (simp only [List.length_append, List.length_cons, List.length_nil]; omega)) (hm s hsm) (hsh s hsm)).mono fun e w' ⟨ob', k1, k2, k3⟩ => ⟨_, _, k1, ⟨rfl, ob', rfl, k2⟩, Own.back hO k3⟩) (fun vl4 Ll4 hvl4 => ?_))))))))
    obtain ⟨rfl, ob4, rfl, hB4⟩ := hvl4
    refine yQ (L' := ⟨b1, (zM s).cells, 74⟩ :: (ob4)) (fun w hO => hO.perm (List.perm_append_comm (l₁ := ob4) (l₂ := ([⟨b1, (zM s).cells, 74⟩] : List Blk)))) (zT (zP (zB (z7 (Zu (k := .i64) (((k + 1 : Nat) : Int)) (IntWalk.i64_in _ (by omega)) (Zv (.int .i64 ((k + 1 : Nat) : Int)) (zT ?_)))))))
    have e0 : wT l k = [] := by rw [show k = 0 by omega]; rfl
    rw [e0] at hB4
    have hnx : Bu b (l0 ++ wT l (k + 1)) ob4 := by rw [rowK_step hk, if_pos (show k = 0 by omega), hs]; simpa using hB4
    exact yZ (L' := ob4 ++ ([] : List Blk)) (fun w hO => by rw [List.append_nil]; exact Own.sub [⟨b1, (zM s).cells, 74⟩] hO) (zX (m' := l.length - (k + 1)) (by omega) ⟨k + 1, ob4, _, ⟨by omega, hnx⟩, rfl, ZU, rfl⟩)
  exact Zd (p := (k : Int) < (l.length : Int)) false (decide_eq_false (h2)) (ZN (z6 (Zf (y8 (z8 (zQ (zG (jH Tryz.results22 (fun w hO => ⟨oc, rfl, by rw [← rowK_all (l := l) (k := k) (fun e => h1 (by rw [e]; rfl)) (by omega)]; exact hBk, hO⟩)))))))))
end
section
theorem none_in (w : World) (n : Nat) : SetIn w n none none yY := ⟨fun h0 => absurd h0 (Nat.lt_irrefl 0), fun h0 => absurd h0 (Nat.lt_irrefl 0), Nat.zero_le _, Nat.zero_le _, fun s hs => by simp [yY] at hs, fun s hs => by simp [yY] at hs⟩
theorem sls_lit (s : Sp) (b : Nat) (cur : Array Value) (h : cur.toList = yR s) : SlS (.slice (some ⟨b, 0, none⟩) 1 1) [s] [⟨b, cur, 74⟩] := by
  have e : ([s] : List Sp).flatMap yR = yR s := List.append_nil _
  have hc : cur.toList.length = 14 := by rw [h]; rfl
  refine ⟨by rw [e]; rfl, .inr ⟨b, 1, cur, rfl, rfl, Nat.le_refl _, by decide, by rw [← Array.length_toList, hc], ?_⟩⟩
  rw [e, h]
  exact List.take_of_length_le (Nat.le_refl 14)
end
section
theorem turn_short {c : Cu} (h : c.short) : (kZ c).short := by
  unfold kZ
  split
  · exact h
  · split
    · unfold relB
      split
      · exact next_short _
      · exact ⟨by simp [zZ, Ver.zero], by simp [zZ, Ver.zero]⟩
    · unfold relA
      split
      · exact ⟨by simp [zZ, Ver.zero], by simp [zZ, Ver.zero]⟩
      · exact relV_short _
def nZ (l : List Sp) (k : Nat) : List Sp := ((l.take k).map bB).filter (·.may)
theorem turnL_step {l : List Sp} {k : Nat} (hk : k < l.length) {s : Sp} (hs : l[k] = s) : nZ l (k + 1) = nZ l k ++ (if (bB s).may then [bB s] else []) := by
  unfold nZ
  rw [List.take_succ_eq_append_getElem hk, List.map_append, List.filter_append, hs]
  congr 1
  show List.filter _ [bB s] = _
  cases h : (bB s).may <;> simp [h]
theorem turnL_len (l : List Sp) (k : Nat) : (nZ l k).length ≤ k := by
  unfold nZ
  refine Nat.le_trans (List.length_filter_le _ _) ?_
  rw [List.length_map, List.length_take]; omega
structure MkI (l : List Sp) (k : Nat) (u : Value) (acc : List Sp) (ob : List Blk) : Prop where
  le : k ≤ l.length
  sl : SlS u acc ob
  eq : acc = nZ l k
theorem MkI.keep {l : List Sp} {k : Nat} {u : Value} {acc : List Sp} {ob : List Blk} (h : MkI l k u acc ob) (hk : k < l.length) {s : Sp} {x y : Cu} (hs : l[k] = s) (hx : kZ s.lo = x) (hy : kZ s.hi = y) (hm : (Sp.mk x y).may = false) : MkI l (k + 1) u acc ob :=
  ⟨hk, h.sl, by rw [turnL_step hk hs, show bB s = ⟨x, y⟩ from by unfold bB; rw [hx, hy], hm, h.eq]; simp⟩
theorem MkI.grow {l : List Sp} {k : Nat} {u u2 : Value} {acc : List Sp} {ob ob2 : List Blk} (h : MkI l k u acc ob) (hk : k < l.length) {s : Sp} {x y : Cu} (hs : l[k] = s) (hx : kZ s.lo = x) (hy : kZ s.hi = y) (hm : (Sp.mk x y).may = true) (h2 : Sl 74 14 u2 (acc.length + 1) (acc.flatMap yR ++ yR ⟨x, y⟩) ob2) : MkI l (k + 1) u2 (acc ++ [⟨x, y⟩]) ob2 :=
  ⟨hk, h2.to (by simp) (by simp), by rw [turnL_step hk hs, show bB s = ⟨x, y⟩ from by unfold bB; rw [hx, hy], hm, ← h.eq, if_pos rfl]⟩
theorem turnL_may (l : List Sp) (k : Nat) : ∀ s ∈ nZ l k, s.may = true := fun s hs => by
  unfold nZ at hs
  exact (List.mem_filter.1 hs).2
theorem own_drop {M : List Nat} {W w : World} {x y z : Blk} {A : List Blk} (h : Own M W w ([x, y] ++ A ++ [z])) : Own M W w (A ++ [z]) := h.sublist (by rw [List.append_assoc]; exact List.sublist_append_right [x, y] _)
end
section
theorem unshare_any (A : Option Addr) (cap : Nat) (l : List Sp) (ob : List Blk) (W : World) (hv : SlS (.slice A l.length cap) l ob) (hO : Own (ob.map Blk.b) W W ob) (hn : l.length ≤ 1000000) (hl : yU l) :
    Calls Tryz.prog 152 #[.slice A l.length cap] W fun e w' => ∃ ob', e = .returned (.slice A l.length cap) ∧ SlS (.slice A l.length cap) l ob' ∧ Own (ob.map Blk.b) W w' ob' := by
  unfold SlS at hv ⊢
  refine vZ (n := 39) hO Tryz.func152 rfl (by kernel_rfl) (by kernel_rfl) (ZO (Zv (.slice none 0 0) (ZN (z6 (ZO (Zv (.slice A l.length cap) (Zv (.int .i64 (l.length : Int)) (Zv (.int .i64 0) ?_))))))))
  refine ZN (zL (kJ (L' := ob ++ []) (List.append_nil _).symm (xA (fun L f m => ∃ (k : Nat) (oc : List Blk) (j : Nat → Value), (k ≤ l.length ∧ Sl 74 14 (.slice A l.length cap) l.length (l.flatMap yR) oc) ∧ L = oc ++ [] ∧ f = g9 j [(0, .slice A l.length cap), (5, .slice A l.length cap), (6, .int .i64 (l.length : Int)), (7, .int .i64 (k : Int))] ∧ m = l.length - k) (l.length - 0) ⟨0, ob, _, ⟨Nat.zero_le _, hv⟩, rfl, ZU, rfl⟩ ?_)))
  rintro L f m ⟨k, oc, j, hrel, rfl, rfl, rfl⟩
  have hkl := hrel.1
  refine z6 (z7 ?_)
  by_cases h1 : (k : Int) < (l.length : Int)
  · have hk : k < l.length := by omega
    obtain ⟨g, cur, hA, rfl, hcap, hmax, hsz, hcur⟩ := hrel.2.block (by omega)
    obtain ⟨s, hs⟩ : ∃ s, l[k] = s := ⟨_, rfl⟩
    have hsk : s.short := hs ▸ hl l[k] (List.getElem_mem hk)
    have hset : l.set k s = l := by rw [← hs]; exact List.set_getElem_self _
    refine xM (L' := [⟨g, cur, 74⟩]) (List.append_nil _) (Zd (p := (k : Int) < (l.length : Int)) true (decide_eq_true (h1)) (ZN (z6 (Zt (ZB (z6 (zL (z6 (z7 ?_)))))))))
    refine Zv (.int .i64 (k : Int)) (Zv (.int .i64 (k : Int)) (ZR (Zv (.slice A l.length cap) (Zv (.int .i64 (k : Int)) (zW (.pointer (some ⟨g, k * 14, none⟩)) (by kernel_rfl) (dA (b := g) (off := 0) (c := cap) (n := l.length) (k := .i64) (j := (k : Int)) (e := 74) (sz := 14) rfl (by kernel_rfl) hA (by kernel_rfl) (by kernel_rfl) (by kernel_rfl) (by omega) (by omega) (by show 0 + k * 14 = k * 14; omega)) (Zv (.pointer (some ⟨g, k * 14, none⟩)) (zT (zB ?_))))))))
    refine ZO (Zv (.pointer (some ⟨g, k * 14, none⟩)) (Zv (.pointer (some ⟨g, k * 14, none⟩)) (Zv (.pointer (some ⟨g, k * 14, none⟩)) (Zv (.pointer (some ⟨g, k * 14 + 0, none⟩)) (Zv (.pointer (some ⟨g, k * 14 + 1, none⟩)) (Zv (.pointer (some ⟨g, k * 14 + 4, none⟩)) (qS 0 ⟨g, cur, 74⟩ (off := k * 14 + 4) (.string (mkS s.lo.v.pre)) (by kernel_rfl) rfl (by kernel_rfl) (by kernel_rfl) (kX yC hcur k 4 (by omega) (by omega) _ (by rw [hs]; kernel_rfl)) (Zc (k := 93) (args := #[.string (mkS s.lo.v.pre)]) (.string (mkS s.lo.v.pre)) (fun w _ => qP (mkS s.lo.v.pre) w (by rw [x6]; have := hsk.1.1; omega)) (Zv (.pointer (some ⟨g, k * 14, none⟩)) (Zv (.pointer (some ⟨g, k * 14 + 0, none⟩)) ?_))))))))))
    refine Zv (.pointer (some ⟨g, k * 14 + 1, none⟩)) (Zv (.pointer (some ⟨g, k * 14 + 4, none⟩)) (s_storeS 0 ⟨g, cur, 74⟩ (off := k * 14 + 4) (.string (mkS s.lo.v.pre)) 1 (by kernel_rfl) rfl rfl (by kernel_rfl) (by kernel_rfl) (by kernel_rfl) (by kernel_rfl) (by kernel_rfl) (by show k * 14 + 4 + 1 ≤ cur.size; omega) (by kernel_rfl) ?_))
    have hse2 := n5 yC hcur k 4 (by omega) (Value.string (mkS s.lo.v.pre)).cells s (show 4 + 1 ≤ 14 by decide) (by rw [hs]; rfl)
    rw [hset] at hse2
    obtain ⟨cur2, hc2⟩ : ∃ x, x = xU cur (k * 14 + 4) (Value.string (mkS s.lo.v.pre)).cells := ⟨_, rfl⟩
    rw [← hc2] at hse2
    refine xM (L' := [⟨g, cur2, 74⟩]) (by rw [hc2]; rfl) ?_
    have hcur2 := hse2.1
    have hsz2 : cur2.size = cap * 14 := by rw [hse2.2]; exact hsz
    refine ZN (z7 (Zv (.pointer (some ⟨g, k * 14, none⟩)) (Zv (.pointer (some ⟨g, k * 14, none⟩)) (Zv (.pointer (some ⟨g, k * 14, none⟩)) (Zv (.pointer (some ⟨g, k * 14 + 7, none⟩)) (Zv (.pointer (some ⟨g, k * 14 + 8, none⟩)) (Zv (.pointer (some ⟨g, k * 14 + 11, none⟩)) (qS 0 ⟨g, cur2, 74⟩ (off := k * 14 + 11) (.string (mkS s.hi.v.pre)) (by kernel_rfl) rfl (by kernel_rfl) (by kernel_rfl) (kX yC hcur2 k 11 (by omega) (by omega) _ (by rw [hs]; kernel_rfl)) (Zc (k := 93) (args := #[.string (mkS s.hi.v.pre)]) (.string (mkS s.hi.v.pre)) (fun w _ => qP (mkS s.hi.v.pre) w (by rw [x6]; have := hsk.2.1; omega)) (Zv (.pointer (some ⟨g, k * 14, none⟩)) ?_))))))))))
    refine Zv (.pointer (some ⟨g, k * 14 + 7, none⟩)) (Zv (.pointer (some ⟨g, k * 14 + 8, none⟩)) (Zv (.pointer (some ⟨g, k * 14 + 11, none⟩)) (s_storeS 0 ⟨g, cur2, 74⟩ (off := k * 14 + 11) (.string (mkS s.hi.v.pre)) 1 (by kernel_rfl) rfl rfl (by kernel_rfl) (by kernel_rfl) (by kernel_rfl) (by kernel_rfl) (by kernel_rfl) (by show k * 14 + 11 + 1 ≤ cur2.size; omega) (by kernel_rfl) ?_)))
    have hse3 := n5 yC hcur2 k 11 (by omega) (Value.string (mkS s.hi.v.pre)).cells s (show 11 + 1 ≤ 14 by decide) (by rw [hs]; rfl)
    rw [hset] at hse3
    obtain ⟨cur3, hc3⟩ : ∃ x, x = xU cur2 (k * 14 + 11) (Value.string (mkS s.hi.v.pre)).cells := ⟨_, rfl⟩
    rw [← hc3] at hse3
    refine xM (L' := [⟨g, cur3, 74⟩]) (by rw [hc3]; rfl) ?_
    have hcur3 := hse3.1
    have hsz3 : cur3.size = cap * 14 := by rw [hse3.2]; exact hsz2
    exact zT (zP (zB (z7 (Zu (k := .i64) (((k + 1 : Nat) : Int)) (IntWalk.i64_in _ (by omega)) (Zv (.int .i64 ((k + 1 : Nat) : Int)) (zT (zX (m' := l.length - (k + 1)) (by omega) ⟨k + 1, [⟨g, cur3, 74⟩], _, ⟨by omega, by rw [jG yC], .inr ⟨g, cap, _, by rw [hA], rfl, hcap, hmax, hsz3, hcur3⟩⟩, rfl, ZU, rfl⟩)))))))
  refine Zd (p := (k : Int) < (l.length : Int)) false (decide_eq_false (h1)) (ZN (z6 (Zf (y8 (z8 (zQ (zG (zB (z6 (z7 ?_))))))))))
  exact Zv (.slice A l.length cap) (Zv (.slice A l.length cap) (ZN (zF (ZF (.slice A l.length cap) Tryz.results152 (fun w hO => ⟨oc, rfl, hrel.2, by simpa using hO⟩)))))
end
end Go.Proofs.YtiekhkapgjdblaaGreatDoor
