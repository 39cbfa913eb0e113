/-
  What the statements' proofs lean on, part 2: each part begins with a remark that says what it proves and on what conditions.
-/
import Derived.Lib.SliceRun
import Derived.Outline
import Derived.Lib.Small
import Derived.Deep.RegionHeld3
import Derived.IntWalk
import Derived.StillTailTactics
import Derived.Laws.StructEq
import Derived.WalkLawsBesides
import Derived.Test.YtjabcbagggicaaaGreatDoorMD1

section
/-
  Package version: Bump and Next: what they return for every version and every part; nothing that was there is changed. Conditions: strings of at most a million bytes.
-/
namespace Go.Proofs.YtjabcbagggicaaaGreatDoor
open Go.RowKit

def bumpN (v : Ver) (k : Nat) : Ver := if k = 0 then Ver.rel (v.maj + 1) 0 0 else if k = 1 then Ver.rel v.maj (v.min + 1) 0 else Ver.rel v.maj v.min (v.pat + 1)
def bumpOk (v : Ver) (part : Int) : Bool := v.may && decide (0 ≤ part ∧ part < 3) && !(nth3 v.maj v.min v.pat part.toNat == 9999)
def bumpV (v : Ver) (part : Int) : Ver := if bumpOk v part then bumpN v part.toNat else Ver.zero
def BEnd (v : Ver) (part : Int) (w : World) (e : Ending) (w' : World) : Prop := e = .returned (.tuple #[verV (bumpV v part), .bool (bumpOk v part)]) ∧ Below w.heap.size w w'

theorem bump_done {v u : Ver} {part : Int} {b : Bool} {w wr : World} {tmps : Array Value} {old : Array Value} (h2 : tmps.getD 4 undef = .pointer (some ⟨w.heap.size + 1, 0, none⟩)) (h3 : tmps.getD 5 undef = .bool b)
    (hg : wr.heap[w.heap.size + 1]? = some (.cells old 24)) (hbel : Below w.heap.size w wr) (hb : bumpOk v part = b) (hv : bumpV v part = u) :
    bodyPost Tryz.prog Tryz.f129 (BEnd v part w) .ret ⟨tmps, []⟩ (wr.setRow (w.heap.size + 1) #[.int .i64 u.maj, .int .i64 u.min, .int .i64 u.pat, .string (mkS u.pre), .string (mkS u.build)]) := by
  have hrow := setRow_heap wr (w.heap.size + 1) _ #[.int .i64 u.maj, .int .i64 u.min, .int .i64 u.pat, .string (mkS u.pre), .string (mkS u.build)] _ _ hg
  have hr := run_loadVar_row (P := Tryz.prog) _ (w.heap.size + 1) 24 24 _ _ _ hrow Tryz.underlying24 rfl (by kernel_rfl)
  have h2' : tmps[4]?.getD undef = .pointer (some ⟨w.heap.size + 1, 0, none⟩) := by simpa using h2
  have h3' : tmps[5]?.getD undef = .bool b := by simpa using h3
  refine bodyPost_ret (v := .tuple #[verV u, .bool b]) (by simp [results, Tryz.results129, asAddr, h2', h3', hr, verV]) rfl ⟨by rw [hv, hb], below_setRow hbel (by omega) _⟩

theorem zeroInt (w : World) : (zeroValue 3).run Tryz.prog w = .ok (.int .i64 0) w := by kernel_rfl
theorem set_row3 {w : World} {N k : Nat} {a b c : Value} (x : Value) (hg : w.heap[N]? = some (.cells #[a, b, c] 55)) : w.setCell ⟨N, k, none⟩ x = w.setRow N ((#[a, b, c] : Array Value).setIfInBounds k x) := setCell_eq_setRow _ _ _ _ _ _ _ hg

theorem setRow_setRow' (w : World) (g : Nat) (a b : Array Value) : (w.setRow g a).setRow g b = w.setRow g b := setRow_setRow _ _ _ _
set_option maxRecDepth 100000 in
theorem clear_two {w : World} {N : Nat} {a b c : Int} {old : Array Value} (hg : w.heap[N]? = some (.cells old 55)) (_ho : old.size = 3) :
    (Builtin.clear_ #[36] 0 #[.slice (some ⟨N, 1, none⟩) 2 2]).run Tryz.prog (w.setRow N #[.int .i64 a, .int .i64 b, .int .i64 c]) = .ok (.tuple #[]) (w.setRow N #[.int .i64 a, .int .i64 0, .int .i64 0]) := by
  have h1 := setRow_heap w N old #[.int .i64 a, .int .i64 b, .int .i64 c] _ _ hg
  obtain ⟨n1, m1⟩ := cell_row (j := 1) h1 (by simp)
  obtain ⟨n2, m2⟩ := cell_row (j := 2) h1 (by simp)
  have := Lib.run_clear_slice (P := Tryz.prog) (w.setRow N #[.int .i64 a, .int .i64 b, .int .i64 c]) 36 3 0 (.int .i64 0) Tryz.underlying36 zeroInt rfl rfl N 1 2 2 (by omega)
    (fun j hj => by match j, hj with | 0, _ => rw [n1]; rfl | 1, _ => rw [n2]; rfl) (fun j hj => by match j, hj with | 0, _ => exact m1 | 1, _ => exact m2)
  rw [this]
  congr 1
  show ((w.setRow N #[.int .i64 a, .int .i64 b, .int .i64 c]).setCell ⟨N, 1, none⟩ (.int .i64 0)).setCell ⟨N, 2, none⟩ (.int .i64 0) = _
  rw [set_row3 _ h1, setRow_setRow']
  have h2 := setRow_heap w N old ((#[.int .i64 a, .int .i64 b, .int .i64 c] : Array Value).setIfInBounds 1 (.int .i64 0)) _ _ hg
  rw [set_row3 (a := .int .i64 a) (b := .int .i64 0) (c := .int .i64 c) _ h2, setRow_setRow']
  rfl
set_option maxRecDepth 100000 in
theorem clear_one {w : World} {N : Nat} {a b c : Int} {old : Array Value} (hg : w.heap[N]? = some (.cells old 55)) (_ho : old.size = 3) :
    (Builtin.clear_ #[36] 0 #[.slice (some ⟨N, 2, none⟩) 1 1]).run Tryz.prog (w.setRow N #[.int .i64 a, .int .i64 b, .int .i64 c]) = .ok (.tuple #[]) (w.setRow N #[.int .i64 a, .int .i64 b, .int .i64 0]) := by
  have h1 := setRow_heap w N old #[.int .i64 a, .int .i64 b, .int .i64 c] _ _ hg
  obtain ⟨n2, m2⟩ := cell_row (j := 2) h1 (by simp)
  have := Lib.run_clear_slice (P := Tryz.prog) (w.setRow N #[.int .i64 a, .int .i64 b, .int .i64 c]) 36 3 0 (.int .i64 0) Tryz.underlying36 zeroInt rfl rfl N 2 1 1 (by omega)
    (fun j hj => by match j, hj with | 0, _ => rw [n2]; rfl) (fun j hj => by match j, hj with | 0, _ => exact m2)
  rw [this]
  congr 1
  show (w.setRow N #[.int .i64 a, .int .i64 b, .int .i64 c]).setCell ⟨N, 2, none⟩ (.int .i64 0) = _
  rw [set_row3 _ h1, setRow_setRow']
  rfl
theorem clear_none {w : World} (x : Option Addr) (c : Nat) : (Builtin.clear_ #[36] 0 #[.slice x 0 c]).run Tryz.prog w = .ok (.tuple #[]) w := by
  cases x <;> simp [Builtin.clear_, run_underlying Tryz.underlying36]

set_option maxHeartbeats 4000000 in
set_option maxRecDepth 100000 in
theorem bump_go (v : Ver) (part : Int) (w : World) (hp : v.pre.length ≤ 1000000) (hq : v.build.length ≤ 1000000) :
    Calls Tryz.prog 129 #[verV v, .int .i64 part] w (BEnd v part w) := by
  have cM := fun w' => may_any v w' (by omega) (by omega)
  have cN := fun w' => numbers_any v w'
  have hN : v.may = true → (0 ≤ v.maj ∧ v.maj ≤ 9999) ∧ (0 ≤ v.min ∧ v.min ≤ 9999) ∧ (0 ≤ v.pat ∧ v.pat ≤ 9999) := fun h => by
    obtain ⟨h1, h2, h3⟩ := may_nums h
    unfold numOkI at h1 h2 h3; simp at h1 h2 h3
    exact ⟨h1, h2, h3⟩
  obtain ⟨u, hu⟩ : ∃ u, u = v := ⟨_, rfl⟩
  have HU := Lib.hid hu
  rw [← hu] at hN
  have hgo : BEnd v part w = BEnd u part w := by rw [hu]
  rw [hgo]
  obtain ⟨m, hm⟩ : ∃ m, u.may = m := ⟨_, rfl⟩
  rw [← hu, hm] at cM
  rw [← hu] at cN ⊢
  clear hgo hu
  obtain ⟨a, b, c, p, q⟩ := u
  unfold verV at cM cN ⊢
  dsimp only at cM cN hN ⊢
  go_enter Tryz.func129, Tryz.ntmps129
  go_wp2_with fail
  refine (cN _).mono ?_
  rintro e w1 ⟨rfl, hb1⟩
  have hz1 := hb1.size
  simp only [size_box] at hz1
  have hgB := Lib.hid ((hb1.block w.heap.size (by simp only [size_box]; omega)).trans ((heap_old _ _ (by simp only [size_box]; omega)).trans (heap_new w _)))
  have hgR := Lib.hid ((hb1.block (w.heap.size + 1) (by simp only [size_box]; omega)).trans (heap_at _ _ _ (by simp only [size_box])))
  have hbw : Below w.heap.size w w1 := (((Below.refl _ _).alloc (Nat.le_refl _) _).alloc (by simp only [size_box]; omega) _).trans (hb1.mono (by simp only [size_box]; omega))
  have hlB : w.heap.size < w1.heap.size := by omega
  go_wp2_with (first | (refine wpList_load_row rfl 24 _ rfl w.heap.size rfl _ _ _ _ ((heap_old _ _ hlB).trans hgB.out) Tryz.underlying24 rfl (by kernel_rfl) ?_) | fail)
  refine (cM _).mono ?_
  rintro e w2 ⟨rfl, hb2⟩
  have hz2 := hb2.size
  rw [size_box] at hz2
  have hgR2 := Lib.hid ((hb2.block (w.heap.size + 1) (by rw [size_box]; omega)).trans ((heap_old _ _ (by omega)).trans hgR.out))
  have hgN := Lib.hid ((hb2.block w1.heap.size (by rw [size_box]; omega)).trans (heap_new w1 _))
  have hbw2 : Below w.heap.size w w2 := (hbw.alloc (by omega) _).trans (hb2.mono (by rw [size_box]; omega))
  clear hbw hb1 hb2 hgB hgR cM cN
  cases m with
  | false =>
    have HB : Hid (bumpOk ⟨a, b, c, p, q⟩ part = false) := by show _ = _; unfold bumpOk; rw [hm]; rfl
    clear hm hN
    go_wp2_with (refine wpList_store_row rfl 24 _ _ rfl (w.heap.size + 1) #[.int .i64 0, .int .i64 0, .int .i64 0, .string ⟨#[]⟩, .string ⟨#[]⟩] rfl rfl _ _ hgR2.out (by kernel_rfl) rfl (ver_one _ _ _ _ _) ?_)
    exact bump_done (u := Ver.zero) rfl rfl hgR2.out hbw2 HB.out (by unfold bumpV; rw [HB.out]; rfl)
  | true =>
    obtain ⟨⟨a0, a9⟩, ⟨b0, b9⟩, ⟨c0, c9⟩⟩ := hN hm
    have HM := Lib.hid hm
    clear hN hm
    by_cases p0 : part < 0
    · have HB : Hid (bumpOk ⟨a, b, c, p, q⟩ part = false) := by show _ = _; unfold bumpOk; rw [decide_eq_false (by omega)]; simp
      go_wp2_with (refine wpList_store_row rfl 24 _ _ rfl (w.heap.size + 1) #[.int .i64 0, .int .i64 0, .int .i64 0, .string ⟨#[]⟩, .string ⟨#[]⟩] rfl rfl _ _ hgR2.out (by kernel_rfl) rfl (ver_one _ _ _ _ _) ?_)
      exact bump_done (u := Ver.zero) rfl rfl hgR2.out hbw2 HB.out (by unfold bumpV; rw [HB.out]; rfl)
    · by_cases p3 : 3 ≤ part
      · have HB : Hid (bumpOk ⟨a, b, c, p, q⟩ part = false) := by show _ = _; unfold bumpOk; rw [decide_eq_false (by omega)]; simp
        go_wp2_with (refine wpList_store_row rfl 24 _ _ rfl (w.heap.size + 1) #[.int .i64 0, .int .i64 0, .int .i64 0, .string ⟨#[]⟩, .string ⟨#[]⟩] rfl rfl _ _ hgR2.out (by kernel_rfl) rfl (ver_one _ _ _ _ _) ?_)
        exact bump_done (u := Ver.zero) rfl rfl hgR2.out hbw2 HB.out (by unfold bumpV; rw [HB.out]; rfl)
      · obtain ⟨n0, m0⟩ := cell_row (j := 0) hgN.out (by simp)
        obtain ⟨n1, m1⟩ := cell_row (j := 1) hgN.out (by simp)
        obtain ⟨n2, m2⟩ := cell_row (j := 2) hgN.out (by simp)
        simp only [List.getElem_toArray, List.getElem_cons_succ, List.getElem_cons_zero] at n0 n1 n2
        have hpart : part = 0 ∨ part = 1 ∨ part = 2 := by omega
        clear p0 p3
        rcases hpart with rfl | rfl | rfl
        · by_cases h9 : a = 9999
          · have h9b : (a == 9999) = true := by simpa using h9
            have HB : Hid (bumpOk ⟨a, b, c, p, q⟩ 0 = false) := by show _ = _; unfold bumpOk; rw [show nth3 a b c (0 : Int).toNat = a from rfl, h9b]; simp
            clear h9
            go_wp2_with (refine wpList_store_row rfl 24 _ _ rfl (w.heap.size + 1) #[.int .i64 0, .int .i64 0, .int .i64 0, .string ⟨#[]⟩, .string ⟨#[]⟩] rfl rfl _ _ hgR2.out (by kernel_rfl) rfl (ver_one _ _ _ _ _) ?_)
            exact bump_done (u := Ver.zero) rfl rfl hgR2.out hbw2 HB.out (by unfold bumpV; rw [HB.out]; rfl)
          · have h9b : (a == 9999) = false := by simpa using h9
            have HB : Hid (bumpOk ⟨a, b, c, p, q⟩ 0 = true) := by show _ = _; unfold bumpOk; rw [HM.out, show nth3 a b c (0 : Int).toNat = a from rfl, h9b]; rfl
            have hW : (w2.setCell ⟨w1.heap.size, 0, none⟩ (.int .i64 (a + 1))) = w2.setRow w1.heap.size #[.int .i64 (a + 1), .int .i64 (b), .int .i64 (c)] := set_row3 _ hgN.out
            have hcl : (Builtin.clear_ #[36] 0 #[.slice (some ⟨w1.heap.size, 1, none⟩) 2 2]).run Tryz.prog (w2.setRow w1.heap.size #[.int .i64 (a + 1), .int .i64 (b), .int .i64 (c)]) = .ok (.tuple #[]) (w2.setRow w1.heap.size #[.int .i64 (a + 1), .int .i64 (0), .int .i64 (0)]) := clear_two hgN.out rfl
            have hN2 := Lib.hid (setRow_heap w2 w1.heap.size _ #[.int .i64 (a + 1), .int .i64 (0), .int .i64 (0)] _ _ hgN.out)
            have hR2 := Lib.hid ((setRow_apart w2 w1.heap.size (w.heap.size + 1) #[.int .i64 (a + 1), .int .i64 (0), .int .i64 (0)] (by omega)).trans hgR2.out)
            have hbR : Below w.heap.size w (w2.setRow w1.heap.size #[.int .i64 (a + 1), .int .i64 (0), .int .i64 (0)]) := below_setRow hbw2 (by omega) _
            have hsR : (w2.setRow w1.heap.size #[.int .i64 (a + 1), .int .i64 (0), .int .i64 (0)]).heap.size = w2.heap.size := by unfold World.setRow; simp
            have HSR := Lib.hid hsR
            clear hsR h9
            go_wp2_with (first
              | (refine wpList_load_row rfl 55 _ rfl w1.heap.size rfl _ _ _ _ hN2.out Tryz.underlying55 rfl (by kernel_rfl) ?_)
              | (go_at_call 147; refine (release_any _ _ _ _).mono ?_; unfold verV Ver.rel; rintro e w3 ⟨rfl, hb3⟩; have hR3 := Lib.hid ((hb3.block (w.heap.size + 1) (by rw [HSR.out]; omega)).trans hR2.out); have hbw3 := hbR.trans (hb3.mono hbR.size))
              | (refine wpList_store_row rfl 24 _ _ rfl (w.heap.size + 1) #[.int .i64 (a + 1), .int .i64 (0), .int .i64 (0), .string (mkS []), .string (mkS [])] rfl rfl _ _ hR3.out (by kernel_rfl) rfl (ver_one _ _ _ _ _) ?_))
            exact bump_done (u := Ver.rel (a + 1) (0) (0)) rfl rfl hR3.out hbw3 HB.out (by unfold bumpV; rw [HB.out]; rfl)
        · by_cases h9 : b = 9999
          · have h9b : (b == 9999) = true := by simpa using h9
            have HB : Hid (bumpOk ⟨a, b, c, p, q⟩ 1 = false) := by show _ = _; unfold bumpOk; rw [show nth3 a b c (1 : Int).toNat = b from rfl, h9b]; simp
            clear h9
            go_wp2_with (refine wpList_store_row rfl 24 _ _ rfl (w.heap.size + 1) #[.int .i64 0, .int .i64 0, .int .i64 0, .string ⟨#[]⟩, .string ⟨#[]⟩] rfl rfl _ _ hgR2.out (by kernel_rfl) rfl (ver_one _ _ _ _ _) ?_)
            exact bump_done (u := Ver.zero) rfl rfl hgR2.out hbw2 HB.out (by unfold bumpV; rw [HB.out]; rfl)
          · have h9b : (b == 9999) = false := by simpa using h9
            have HB : Hid (bumpOk ⟨a, b, c, p, q⟩ 1 = true) := by show _ = _; unfold bumpOk; rw [HM.out, show nth3 a b c (1 : Int).toNat = b from rfl, h9b]; rfl
            have hW : (w2.setCell ⟨w1.heap.size, 1, none⟩ (.int .i64 (b + 1))) = w2.setRow w1.heap.size #[.int .i64 (a), .int .i64 (b + 1), .int .i64 (c)] := set_row3 _ hgN.out
            have hcl : (Builtin.clear_ #[36] 0 #[.slice (some ⟨w1.heap.size, 2, none⟩) 1 1]).run Tryz.prog (w2.setRow w1.heap.size #[.int .i64 (a), .int .i64 (b + 1), .int .i64 (c)]) = .ok (.tuple #[]) (w2.setRow w1.heap.size #[.int .i64 (a), .int .i64 (b + 1), .int .i64 (0)]) := clear_one hgN.out rfl
            have hN2 := Lib.hid (setRow_heap w2 w1.heap.size _ #[.int .i64 (a), .int .i64 (b + 1), .int .i64 (0)] _ _ hgN.out)
            have hR2 := Lib.hid ((setRow_apart w2 w1.heap.size (w.heap.size + 1) #[.int .i64 (a), .int .i64 (b + 1), .int .i64 (0)] (by omega)).trans hgR2.out)
            have hbR : Below w.heap.size w (w2.setRow w1.heap.size #[.int .i64 (a), .int .i64 (b + 1), .int .i64 (0)]) := below_setRow hbw2 (by omega) _
            have hsR : (w2.setRow w1.heap.size #[.int .i64 (a), .int .i64 (b + 1), .int .i64 (0)]).heap.size = w2.heap.size := by unfold World.setRow; simp
            have HSR := Lib.hid hsR
            clear hsR h9
            go_wp2_with (first
              | (refine wpList_load_row rfl 55 _ rfl w1.heap.size rfl _ _ _ _ hN2.out Tryz.underlying55 rfl (by kernel_rfl) ?_)
              | (go_at_call 147; refine (release_any _ _ _ _).mono ?_; unfold verV Ver.rel; rintro e w3 ⟨rfl, hb3⟩; have hR3 := Lib.hid ((hb3.block (w.heap.size + 1) (by rw [HSR.out]; omega)).trans hR2.out); have hbw3 := hbR.trans (hb3.mono hbR.size))
              | (refine wpList_store_row rfl 24 _ _ rfl (w.heap.size + 1) #[.int .i64 (a), .int .i64 (b + 1), .int .i64 (0), .string (mkS []), .string (mkS [])] rfl rfl _ _ hR3.out (by kernel_rfl) rfl (ver_one _ _ _ _ _) ?_))
            exact bump_done (u := Ver.rel (a) (b + 1) (0)) rfl rfl hR3.out hbw3 HB.out (by unfold bumpV; rw [HB.out]; rfl)
        · by_cases h9 : c = 9999
          · have h9b : (c == 9999) = true := by simpa using h9
            have HB : Hid (bumpOk ⟨a, b, c, p, q⟩ 2 = false) := by show _ = _; unfold bumpOk; rw [show nth3 a b c (2 : Int).toNat = c from rfl, h9b]; simp
            clear h9
            go_wp2_with (refine wpList_store_row rfl 24 _ _ rfl (w.heap.size + 1) #[.int .i64 0, .int .i64 0, .int .i64 0, .string ⟨#[]⟩, .string ⟨#[]⟩] rfl rfl _ _ hgR2.out (by kernel_rfl) rfl (ver_one _ _ _ _ _) ?_)
            exact bump_done (u := Ver.zero) rfl rfl hgR2.out hbw2 HB.out (by unfold bumpV; rw [HB.out]; rfl)
          · have h9b : (c == 9999) = false := by simpa using h9
            have HB : Hid (bumpOk ⟨a, b, c, p, q⟩ 2 = true) := by show _ = _; unfold bumpOk; rw [HM.out, show nth3 a b c (2 : Int).toNat = c from rfl, h9b]; rfl
            have hW : (w2.setCell ⟨w1.heap.size, 2, none⟩ (.int .i64 (c + 1))) = w2.setRow w1.heap.size #[.int .i64 (a), .int .i64 (b), .int .i64 (c + 1)] := set_row3 _ hgN.out
            have hcl : (Builtin.clear_ #[36] 0 #[.slice (some ⟨w1.heap.size, 0, none⟩) 0 0]).run Tryz.prog (w2.setRow w1.heap.size #[.int .i64 (a), .int .i64 (b), .int .i64 (c + 1)]) = .ok (.tuple #[]) (w2.setRow w1.heap.size #[.int .i64 (a), .int .i64 (b), .int .i64 (c + 1)]) := clear_none _ _
            have hN2 := Lib.hid (setRow_heap w2 w1.heap.size _ #[.int .i64 (a), .int .i64 (b), .int .i64 (c + 1)] _ _ hgN.out)
            have hR2 := Lib.hid ((setRow_apart w2 w1.heap.size (w.heap.size + 1) #[.int .i64 (a), .int .i64 (b), .int .i64 (c + 1)] (by omega)).trans hgR2.out)
            have hbR : Below w.heap.size w (w2.setRow w1.heap.size #[.int .i64 (a), .int .i64 (b), .int .i64 (c + 1)]) := below_setRow hbw2 (by omega) _
            have hsR : (w2.setRow w1.heap.size #[.int .i64 (a), .int .i64 (b), .int .i64 (c + 1)]).heap.size = w2.heap.size := by unfold World.setRow; simp
            have HSR := Lib.hid hsR
            clear hsR h9
            go_wp2_with (first
              | (refine wpList_load_row rfl 55 _ rfl w1.heap.size rfl _ _ _ _ hN2.out Tryz.underlying55 rfl (by kernel_rfl) ?_)
              | (go_at_call 147; refine (release_any _ _ _ _).mono ?_; unfold verV Ver.rel; rintro e w3 ⟨rfl, hb3⟩; have hR3 := Lib.hid ((hb3.block (w.heap.size + 1) (by rw [HSR.out]; omega)).trans hR2.out); have hbw3 := hbR.trans (hb3.mono hbR.size))
              | (refine wpList_store_row rfl 24 _ _ rfl (w.heap.size + 1) #[.int .i64 (a), .int .i64 (b), .int .i64 (c + 1), .string (mkS []), .string (mkS [])] rfl rfl _ _ hR3.out (by kernel_rfl) rfl (ver_one _ _ _ _ _) ?_))
            exact bump_done (u := Ver.rel (a) (b) (c + 1)) rfl rfl hR3.out hbw3 HB.out (by unfold bumpV; rw [HB.out]; rfl)

theorem bump_any (v : Ver) (part : Int) (w : World) (hp : v.pre.length ≤ 1000000) (hq : v.build.length ≤ 1000000) :
    Calls Tryz.prog 129 #[verV v, .int .i64 part] w fun e w' => e = .returned (.tuple #[verV (bumpV v part), .bool (bumpOk v part)]) ∧ Below w.heap.size w w' := bump_go v part w hp hq

/-! ### Next -/
def nextOk (v : Ver) : Bool := v.may && (!v.pre.isEmpty || bumpOk v 2 || bumpOk v 1 || bumpOk v 0)
def nextV (v : Ver) : Ver :=
  if v.may then (if v.pre.isEmpty then (if bumpOk v 2 then bumpV v 2 else if bumpOk v 1 then bumpV v 1 else if bumpOk v 0 then bumpV v 0 else Ver.zero) else Ver.rel v.maj v.min v.pat) else Ver.zero
def NEnd (v : Ver) (w : World) (e : Ending) (w' : World) : Prop := e = .returned (.tuple #[verV (nextV v), .bool (nextOk v)]) ∧ Below w.heap.size w w'
/-- What the loop over the parts 2, 1, 0 finds from a part on. -/
def findB (v : Ver) : Nat → Ver × Bool
  | 0 => (Ver.zero, false)
  | k + 1 => if bumpOk v k then (bumpV v k, true) else findB v k
end Go.Proofs.YtjabcbagggicaaaGreatDoor
end

section
/-
  Plain mathematics for chapter 2: the order of versions. A version's key is a list of numbers; Compare is the order of keys, read as lists.
-/
namespace Go.Proofs.YtjabcbagggicaaaGreatDoor
open Go.RowKit

/-! ### Lists of numbers -/
def cmpL : List Nat → List Nat → Int
  | [], [] => 0
  | [], _ :: _ => -1
  | _ :: _, [] => 1
  | a :: l, b :: m => if a < b then -1 else if b < a then 1 else cmpL l m
theorem cmpL_cons (a b : Nat) (l m : List Nat) : cmpL (a :: l) (b :: m) = if a < b then -1 else if b < a then 1 else cmpL l m := rfl
theorem cmpL_self (a : List Nat) : cmpL a a = 0 := by
  induction a with
  | nil => rfl
  | cons x l ih => rw [cmpL, if_neg (by omega), if_neg (by omega)]; exact ih
theorem cmpL_anti (a : List Nat) : ∀ b, cmpL b a = - cmpL a b := by
  induction a with
  | nil => intro b; cases b <;> rfl
  | cons x l ih =>
    intro b
    cases b with
    | nil => rfl
    | cons y m =>
      rw [cmpL, cmpL]
      by_cases h1 : x < y
      · rw [if_neg (by omega), if_pos h1, if_pos h1]; rfl
      · by_cases h2 : y < x
        · rw [if_pos h2, if_neg h1, if_pos h2]
        · rw [if_neg h2, if_neg h1, if_neg h1, if_neg h2]; exact ih m
theorem cmpL_range (a : List Nat) : ∀ b, cmpL a b = -1 ∨ cmpL a b = 0 ∨ cmpL a b = 1 := by
  induction a with
  | nil => intro b; cases b <;> simp [cmpL]
  | cons x l ih =>
    intro b
    cases b with
    | nil => simp [cmpL]
    | cons y m =>
      rw [cmpL]
      split
      · simp
      · split
        · simp
        · exact ih m
theorem cmpL_zero (a : List Nat) : ∀ b, cmpL a b = 0 → a = b := by
  induction a with
  | nil => intro b; cases b <;> simp [cmpL]
  | cons x l ih =>
    intro b
    cases b with
    | nil => simp [cmpL]
    | cons y m =>
      rw [cmpL]
      split
      · intro h; omega
      · split
        · intro h; omega
        · intro h; rw [ih m h, show x = y from by omega]
theorem cmpL_trans (a : List Nat) : ∀ b c, cmpL a b ≤ 0 → cmpL b c ≤ 0 → cmpL a c ≤ 0 ∧ (cmpL a c = 0 → cmpL a b = 0 ∧ cmpL b c = 0) := by
  induction a with
  | nil =>
    intro b c h1 h2
    cases b with
    | nil => cases c <;> simp [cmpL]
    | cons y m =>
      cases c with
      | nil => simp [cmpL] at h2
      | cons z n => simp [cmpL]
  | cons x l ih =>
    intro b c h1 h2
    cases b with
    | nil => simp [cmpL] at h1
    | cons y m =>
      cases c with
      | nil => simp [cmpL] at h2
      | cons z n =>
        simp only [cmpL_cons] at h1 h2 ⊢
        by_cases a1 : x < y
        · simp only [if_pos a1] at h1 ⊢
          by_cases a2 : y < z
          · have : x < z := by omega
            simp only [if_pos this]; omega
          · by_cases a3 : z < y
            · simp only [if_neg a2, if_pos a3] at h2; omega
            · have : x < z := by omega
              simp only [if_pos this]; omega
        · by_cases a1' : y < x
          · simp only [if_neg a1, if_pos a1'] at h1; omega
          · simp only [if_neg a1, if_neg a1'] at h1 ⊢
            obtain rfl : x = y := by omega
            by_cases a2 : x < z
            · simp only [if_pos a2]; omega
            · by_cases a3 : z < x
              · simp only [if_neg a2, if_pos a3] at h2; omega
              · simp only [if_neg a2, if_neg a3] at h2 ⊢
                exact ih m n h1 h2

/-! ### Keys -/
def oneR (a b : List UInt8) : Int :=
  if numer a && numer b then Lib.compareInt (numD a) (numD b) else if numer a then -1 else if numer b then 1 else Lib.compareBytes a b
def presL : List (List UInt8) → List (List UInt8) → Int
  | [], [] => 0
  | [], _ :: _ => -1
  | _ :: _, [] => 1
  | a :: l, b :: m => if oneR a b ≠ 0 then oneR a b else presL l m
def presR (a b : List UInt8) : Int := if a = b then 0 else if a = [] then 1 else if b = [] then -1 else presL (pcs a) (pcs b)
def tagKey (t : List UInt8) : List Nat := if numer t then [1, (numD t).toNat] else 2 :: (t.map (fun c => c.toNat + 1) ++ [0])
def tailKey (l : List (List UInt8)) : List Nat := l.flatMap tagKey ++ [0]
def preKey (p : List UInt8) : List Nat := if p = [] then [3] else tailKey (pcs p)
def Ver.key (v : Ver) : List Nat := v.maj.toNat :: v.min.toNat :: v.pat.toNat :: preKey v.pre

theorem numD_nat (t : List UInt8) : 0 ≤ numD t := by unfold numD; omega
theorem cmpL_bytes (a : List UInt8) : ∀ (b : List UInt8) (x y : List Nat), cmpL (a.map (fun c => c.toNat + 1) ++ 0 :: x) (b.map (fun c => c.toNat + 1) ++ 0 :: y) = if Lib.compareBytes a b ≠ 0 then Lib.compareBytes a b else cmpL x y := by
  induction a with
  | nil =>
    intro b x y
    cases b with
    | nil => simp [cmpL, Lib.compareBytes]
    | cons c r => simp [cmpL, Lib.compareBytes]
  | cons c r ih =>
    intro b x y
    cases b with
    | nil => simp [cmpL, Lib.compareBytes]
    | cons d q =>
      simp only [List.map_cons, List.cons_append, cmpL_cons]
      by_cases h1 : c < d
      · have h1' : c.toNat < d.toNat := UInt8.lt_iff_toNat_lt.1 h1
        have e : Lib.compareBytes (c :: r) (d :: q) = -1 := by rw [Lib.compareBytes, if_pos h1]
        rw [e, if_pos (by omega)]; rfl
      · by_cases h2 : d < c
        · have h2' : d.toNat < c.toNat := UInt8.lt_iff_toNat_lt.1 h2
          have e : Lib.compareBytes (c :: r) (d :: q) = 1 := by rw [Lib.compareBytes, if_neg h1, if_pos h2]
          rw [e, if_neg (by omega), if_pos (by omega)]; rfl
        · have a1 : ¬ c.toNat < d.toNat := fun h => h1 (UInt8.lt_iff_toNat_lt.2 h)
          have a2 : ¬ d.toNat < c.toNat := fun h => h2 (UInt8.lt_iff_toNat_lt.2 h)
          have e : Lib.compareBytes (c :: r) (d :: q) = Lib.compareBytes r q := by rw [Lib.compareBytes, if_neg h1, if_neg h2]
          rw [e, if_neg (by omega), if_neg (by omega)]
          exact ih q x y
theorem cmpL_tag (a b : List UInt8) (x y : List Nat) : cmpL (tagKey a ++ x) (tagKey b ++ y) = if oneR a b ≠ 0 then oneR a b else cmpL x y := by
  unfold tagKey oneR
  cases ha : numer a <;> cases hb : numer b
  · have := cmpL_bytes a b x y
    simpa [cmpL] using this
  · simp [cmpL]
  · simp [cmpL]
  · have h1 := numD_nat a
    have h2 := numD_nat b
    simp only [Bool.and_true, if_true, List.cons_append, List.nil_append, cmpL, Lib.compareInt]
    by_cases h : numD a < numD b
    · rw [if_pos h, if_pos (by omega : (numD a).toNat < (numD b).toNat)]; rfl
    · by_cases h' : numD b < numD a
      · rw [if_neg h, if_pos h', if_neg (by omega : ¬ (numD a).toNat < (numD b).toNat), if_pos (by omega : (numD b).toNat < (numD a).toNat)]; rfl
      · rw [if_neg h, if_neg h', if_neg (by omega : ¬ (numD a).toNat < (numD b).toNat), if_neg (by omega : ¬ (numD b).toNat < (numD a).toNat)]; rfl
theorem tag_cons (a : List UInt8) : ∃ k r, tagKey a = k :: r ∧ 0 < k ∧ k < 3 := by
  unfold tagKey; split
  · exact ⟨_, _, rfl, by omega, by omega⟩
  · exact ⟨_, _, rfl, by omega, by omega⟩
theorem cmpL_tail (l : List (List UInt8)) : ∀ m, cmpL (tailKey l) (tailKey m) = presL l m := by
  induction l with
  | nil =>
    intro m
    cases m with
    | nil => rfl
    | cons b m =>
      obtain ⟨k, r, e, h, _⟩ := tag_cons b
      unfold tailKey
      rw [List.flatMap_cons, e]
      simp [cmpL, presL, h]
  | cons a l ih =>
    intro m
    cases m with
    | nil =>
      obtain ⟨k, r, e, h, _⟩ := tag_cons a
      unfold tailKey
      rw [List.flatMap_cons, e]
      simp [cmpL, presL, h]
    | cons b m =>
      have := ih m
      unfold tailKey at this ⊢
      rw [List.flatMap_cons, List.flatMap_cons, List.append_assoc, List.append_assoc, cmpL_tag, this, presL]
theorem tail_small (l : List (List UInt8)) : ∃ k r, tailKey l = k :: r ∧ k < 3 := by
  unfold tailKey
  cases l with
  | nil => exact ⟨0, [], rfl, by omega⟩
  | cons a l =>
    obtain ⟨k, r, e, _, h⟩ := tag_cons a
    exact ⟨k, r ++ (l.flatMap tagKey ++ [0]), by rw [List.flatMap_cons, e]; simp, h⟩
theorem presR_key (a b : List UInt8) : presR a b = cmpL (preKey a) (preKey b) := by
  unfold presR
  by_cases h : a = b
  · rw [if_pos h, h, cmpL_self]
  · rw [if_neg h]
    unfold preKey
    by_cases ha : a = []
    · have hb : b ≠ [] := fun e => h (ha.trans e.symm)
      rw [if_pos ha, if_pos ha, if_neg hb]
      obtain ⟨k, r, e, hk⟩ := tail_small (pcs b)
      rw [e, cmpL, if_neg (by omega), if_pos hk]
    · rw [if_neg ha, if_neg ha]
      by_cases hb : b = []
      · rw [if_pos hb, if_pos hb]
        obtain ⟨k, r, e, hk⟩ := tail_small (pcs a)
        rw [e, cmpL, if_pos hk]
      · rw [if_neg hb, if_neg hb]; exact (cmpL_tail _ _).symm

/-! ### The document's own Compare -/
def cmpN (v w : Ver) : Int :=
  if Lib.compareInt v.maj w.maj ≠ 0 then Lib.compareInt v.maj w.maj
  else if Lib.compareInt v.min w.min ≠ 0 then Lib.compareInt v.min w.min
  else Lib.compareInt v.pat w.pat
def cmpR (v w : Ver) : Int := if v.may && w.may then (if cmpN v w ≠ 0 then cmpN v w else presR v.pre w.pre) else 0
theorem may_nat {v : Ver} (h : v.may = true) : (0 ≤ v.maj ∧ v.maj ≤ 9999) ∧ (0 ≤ v.min ∧ v.min ≤ 9999) ∧ (0 ≤ v.pat ∧ v.pat ≤ 9999) := by
  obtain ⟨h1, h2, h3⟩ := may_nums h
  unfold numOkI at h1 h2 h3; simp at h1 h2 h3
  exact ⟨h1, h2, h3⟩
theorem cmpL_num {a b : Int} (ha : 0 ≤ a) (hb : 0 ≤ b) (x y : List Nat) : cmpL (a.toNat :: x) (b.toNat :: y) = if Lib.compareInt a b ≠ 0 then Lib.compareInt a b else cmpL x y := by
  rw [cmpL]
  unfold Lib.compareInt
  by_cases h : a < b
  · rw [if_pos h, if_pos (by omega)]; rfl
  · by_cases h' : b < a
    · rw [if_neg h, if_pos h', if_neg (by omega), if_pos (by omega)]; rfl
    · rw [if_neg h, if_neg h', if_neg (by omega), if_neg (by omega)]; rfl
theorem cmpR_key {v w : Ver} (hv : v.may = true) (hw : w.may = true) : cmpR v w = cmpL v.key w.key := by
  obtain ⟨v1, v2, v3⟩ := may_nat hv
  obtain ⟨w1, w2, w3⟩ := may_nat hw
  unfold cmpR
  rw [hv, hw, presR_key]
  unfold Ver.key
  rw [cmpL_num v1.1 w1.1, cmpL_num v2.1 w2.1, cmpL_num v3.1 w3.1]
  unfold cmpN
  simp only [Bool.and_true, if_true]
  by_cases h1 : Lib.compareInt v.maj w.maj = 0
  · by_cases h2 : Lib.compareInt v.min w.min = 0
    · simp [h1, h2]
    · simp [h1, h2]
  · simp [h1]

/-! ### What package version does -/
def oneP (a b : List UInt8) : Int :=
  if numI a && numI b then Lib.compareInt (numD a) (numD b) else if numI a && !b.isEmpty then -1 else if numI b && !a.isEmpty then 1 else Lib.compareBytes a b
def seqP : Nat → List (List UInt8) → List (List UInt8) → Int
  | 0, _, _ => 0
  | n + 1, l, m => if oneP (tg l 0) (tg m 0) ≠ 0 then oneP (tg l 0) (tg m 0) else seqP n l.tail m.tail
theorem numI_numer {t : List UInt8} (h : preT t = true) : numI t = numer t := by
  cases hi : numI t with
  | true =>
    unfold numI at hi
    obtain ⟨n, hn⟩ := Option.isSome_iff_exists.1 hi
    obtain ⟨e, _⟩ := numGo_back t n hn
    unfold numer
    have h1 := (dec_fold n).1
    rw [e, h1]
    cases hd : Lib.decDigits n with
    | nil => have := congrArg List.length hd; rw [Lib.decDigits_length] at this; have := Lib.nDigits_pos n; simp at *; omega
    | cons _ _ => rfl
  | false => unfold preT at h; rw [hi, Bool.or_false] at h; simpa using h.symm
def fine (t : List UInt8) : Bool := tagOk t && preT t
theorem fine_ne {t : List UInt8} (h : fine t = true) : t ≠ [] := by
  unfold fine at h; rw [Bool.and_eq_true] at h
  have := (tagOk_len h.1).1
  intro e; subst e; simp at this
theorem oneP_one {a b : List UInt8} (ha : fine a = true) (hb : fine b = true) : oneP a b = oneR a b := by
  have n1 := fine_ne ha
  have n2 := fine_ne hb
  unfold fine at ha hb; rw [Bool.and_eq_true] at ha hb
  unfold oneP oneR
  rw [numI_numer ha.2, numI_numer hb.2]
  have e1 : a.isEmpty = false := by cases a <;> simp_all
  have e2 : b.isEmpty = false := by cases b <;> simp_all
  rw [e1, e2]; simp
theorem oneP_nil : oneP [] [] = 0 := by decide
theorem oneP_left {b : List UInt8} (h : b ≠ []) : oneP [] b = -1 := by
  unfold oneP
  have e : numI [] = false := by decide
  rw [e]
  cases b with
  | nil => exact absurd rfl h
  | cons c r => simp [Lib.compareBytes]
theorem oneP_right {a : List UInt8} (h : a ≠ []) : oneP a [] = 1 := by
  unfold oneP
  have e : numI [] = false := by decide
  rw [e]
  cases a with
  | nil => exact absurd rfl h
  | cons c r => simp [Lib.compareBytes]
theorem seqP_pres (n : Nat) : ∀ l m, l.length ≤ n → m.length ≤ n → l.all fine = true → m.all fine = true → seqP n l m = presL l m := by
  induction n with
  | zero =>
    intro l m hl hm _ _
    obtain rfl : l = [] := List.eq_nil_of_length_eq_zero (by omega)
    obtain rfl : m = [] := List.eq_nil_of_length_eq_zero (by omega)
    rfl
  | succ n ih =>
    intro l m hl hm fl fm
    unfold seqP
    match l, m with
    | [], [] =>
      rw [show tg [] 0 = [] from rfl, oneP_nil]
      simpa using ih [] [] (by simp) (by simp) rfl rfl
    | [], b :: m =>
      rw [List.all_cons, Bool.and_eq_true] at fm
      rw [show tg [] 0 = [] from rfl, show tg (b :: m) 0 = b from rfl, oneP_left (fine_ne fm.1)]
      rfl
    | a :: l, [] =>
      rw [List.all_cons, Bool.and_eq_true] at fl
      rw [show tg [] 0 = [] from rfl, show tg (a :: l) 0 = a from rfl, oneP_right (fine_ne fl.1)]
      rfl
    | a :: l, b :: m =>
      rw [List.all_cons, Bool.and_eq_true] at fl fm
      rw [show tg (a :: l) 0 = a from rfl, show tg (b :: m) 0 = b from rfl, oneP_one fl.1 fm.1, presL]
      simp at hl hm
      rw [show (a :: l).tail = l from rfl, show (b :: m).tail = m from rfl, ih l m hl hm fl.2 fm.2]
/-- What comparePre returns. -/
def cpre (a b : List UInt8) : Int := if a = [] then 1 else if b = [] then -1 else seqP 4 (lst a).1 (lst b).1
theorem pre_fine {p : List UInt8} (h : preOk p = true) (hne : p ≠ []) : (lst p).1 = pcs p ∧ (pcs p).all fine = true ∧ (pcs p).length ≤ 4 := by
  have e : p.isEmpty = false := by cases p <;> simp_all
  have hl : listOk p = true := by unfold preOk at h; rw [Bool.and_eq_true] at h; exact h.1
  have h1 := lst_all p hl
  rw [e] at h1
  have h1' : (lst p).1 = pcs p := by simpa using h1
  refine ⟨h1', ?_, ?_⟩
  · unfold preOk at h; rw [e, Bool.false_or, Bool.and_eq_true] at h
    unfold listOk at hl; rw [e, Bool.false_or, Bool.and_eq_true] at hl
    rw [List.all_eq_true]
    intro x hx
    unfold fine
    rw [List.all_eq_true.1 hl.2 x hx, List.all_eq_true.1 h.2 x hx]; rfl
  · rw [← h1']; exact lst_len p
theorem cpre_pres {a b : List UInt8} (ha : preOk a = true) (hb : preOk b = true) (hne : a ≠ b) : cpre a b = presR a b := by
  unfold cpre presR
  rw [if_neg hne]
  by_cases h1 : a = []
  · rw [if_pos h1, if_pos h1]
  · rw [if_neg h1, if_neg h1]
    by_cases h2 : b = []
    · rw [if_pos h2, if_pos h2]
    · rw [if_neg h2, if_neg h2]
      obtain ⟨e1, f1, l1⟩ := pre_fine ha h1
      obtain ⟨e2, f2, l2⟩ := pre_fine hb h2
      rw [e1, e2]
      exact seqP_pres 4 _ _ l1 l2 f1 f2
theorem cmpR_bad {v w : Ver} (h : v.may = false ∨ w.may = false) : cmpR v w = 0 := by
  unfold cmpR
  rw [if_neg]
  rcases h with h | h <;> simp [h]
def coreV (v : Ver) : Ver := { v with build := [] }
theorem compareInt_self (x : Int) : Lib.compareInt x x = 0 := by unfold Lib.compareInt; simp
theorem cmpR_core {v w : Ver} (h : coreV v = coreV w) : cmpR v w = 0 := by
  unfold coreV at h
  simp only [Ver.mk.injEq, and_true] at h
  obtain ⟨h1, h2, h3, h4⟩ := h
  unfold cmpR cmpN presR
  rw [h1, h2, h3, h4]
  simp [compareInt_self]
theorem compareInt_zero {a b : Int} (h : Lib.compareInt a b = 0) : a = b := by
  unfold Lib.compareInt at h
  split at h
  · omega
  · split at h
    · omega
    · omega
theorem cmpR_go {v w : Ver} (hv : v.may = true) (hw : w.may = true) (hc : ¬ coreV v = coreV w) : cmpR v w = if cmpN v w ≠ 0 then cmpN v w else cpre v.pre w.pre := by
  unfold cmpR
  rw [hv, hw]
  simp only [Bool.and_true, if_true]
  by_cases h : cmpN v w = 0
  · rw [if_neg (by simpa using h), if_neg (by simpa using h)]
    refine (cpre_pres ?_ ?_ ?_).symm
    · unfold Ver.may at hv; simp only [Bool.and_eq_true] at hv; exact hv.1.2
    · unfold Ver.may at hw; simp only [Bool.and_eq_true] at hw; exact hw.1.2
    · intro e
      apply hc
      unfold cmpN at h
      have h1 : Lib.compareInt v.maj w.maj = 0 := by
        by_cases g : Lib.compareInt v.maj w.maj = 0
        · exact g
        · rw [if_pos g] at h; exact absurd h g
      rw [if_neg (by simpa using h1)] at h
      have h2 : Lib.compareInt v.min w.min = 0 := by
        by_cases g : Lib.compareInt v.min w.min = 0
        · exact g
        · rw [if_pos g] at h; exact absurd h g
      rw [if_neg (by simpa using h2)] at h
      unfold coreV
      rw [compareInt_zero h1, compareInt_zero h2, compareInt_zero h, e]
  · rw [if_pos h, if_pos h]
end Go.Proofs.YtjabcbagggicaaaGreatDoor
end

section
/-
  Plain mathematics for chapter 2: what follows from the order of versions: total, Build ignored, the next release, the zone of a release's pre-releases; and the versions that numbers name.
-/
namespace Go.Proofs.YtjabcbagggicaaaGreatDoor
open Go.RowKit

theorem cmpB_eq (a : List UInt8) : ∀ b, Lib.compareBytes a b = 0 → a = b := by
  induction a with
  | nil => intro b; cases b <;> simp [Lib.compareBytes]
  | cons x l ih =>
    intro b
    cases b with
    | nil => simp [Lib.compareBytes]
    | cons y m =>
      rw [Lib.compareBytes]
      by_cases h1 : x < y
      · rw [if_pos h1]; intro h; omega
      · by_cases h2 : y < x
        · rw [if_neg h1, if_pos h2]; intro h; omega
        · rw [if_neg h1, if_neg h2]
          intro h
          rw [ih m h, UInt8.le_antisymm (UInt8.not_lt.1 h2) (UInt8.not_lt.1 h1)]
theorem fine_num {t : List UInt8} (h : fine t = true) (hn : numer t = true) : t = Lib.decDigits (numD t).toNat := by
  unfold fine at h; rw [Bool.and_eq_true] at h
  have hi := (numI_numer h.2).trans hn
  unfold numI at hi
  obtain ⟨n, hg⟩ := Option.isSome_iff_exists.1 hi
  have e := (numGo_back t n hg).1
  have hd : numD t = (n : Nat) := by unfold numD; rw [hg]; rfl
  rw [hd]; exact e
theorem oneR_zero {a b : List UInt8} (fa : fine a = true) (fb : fine b = true) (h : oneR a b = 0) : a = b := by
  unfold oneR at h
  cases ha : numer a <;> cases hb : numer b
  · rw [ha, hb] at h; exact cmpB_eq a b (by simpa using h)
  · rw [ha, hb] at h; simp at h
  · rw [ha, hb] at h; simp at h
  · rw [ha, hb] at h
    have e := compareInt_zero (by simpa using h)
    rw [fine_num fa ha, fine_num fb hb, e]
theorem presL_zero (l : List (List UInt8)) : ∀ m, l.all fine = true → m.all fine = true → presL l m = 0 → l = m := by
  induction l with
  | nil => intro m _ _ h; cases m <;> simp [presL] at h ⊢
  | cons a l ih =>
    intro m fl fm h
    cases m with
    | nil => simp [presL] at h
    | cons b m =>
      rw [List.all_cons, Bool.and_eq_true] at fl fm
      rw [presL] at h
      by_cases h0 : oneR a b = 0
      · rw [if_neg (by simpa using h0)] at h
        rw [oneR_zero fl.1 fm.1 h0, ih m fl.2 fm.2 h]
      · rw [if_pos h0] at h; exact absurd h h0
theorem presR_zero {a b : List UInt8} (ha : preOk a = true) (hb : preOk b = true) (h : presR a b = 0) : a = b := by
  unfold presR at h
  by_cases h0 : a = b
  · exact h0
  · rw [if_neg h0] at h
    by_cases h1 : a = []
    · rw [if_pos h1] at h; omega
    · by_cases h2 : b = []
      · rw [if_neg h1, if_pos h2] at h; omega
      · rw [if_neg h1, if_neg h2] at h
        have e := presL_zero _ _ (pre_fine ha h1).2.1 (pre_fine hb h2).2.1 h
        have j1 := join_split 46 a []
        have j2 := join_split 46 b []
        unfold pcs at e
        rw [e] at j1
        simpa using j1.symm.trans j2
theorem may_pre {v : Ver} (h : v.may = true) : preOk v.pre = true := by
  unfold Ver.may at h; simp only [Bool.and_eq_true] at h; exact h.1.2
theorem cmpR_zero {v w : Ver} (hv : v.may = true) (hw : w.may = true) (h : cmpR v w = 0) : coreV v = coreV w := by
  by_cases hc : coreV v = coreV w
  · exact hc
  · unfold cmpR at h
    rw [hv, hw] at h
    simp only [Bool.and_true, if_true] at h
    by_cases h0 : cmpN v w = 0
    · rw [if_neg (by simpa using h0)] at h
      have hp := presR_zero (may_pre hv) (may_pre hw) h
      unfold cmpN at h0
      by_cases g1 : Lib.compareInt v.maj w.maj = 0
      · rw [if_neg (by simpa using g1)] at h0
        by_cases g2 : Lib.compareInt v.min w.min = 0
        · rw [if_neg (by simpa using g2)] at h0
          unfold coreV
          rw [compareInt_zero g1, compareInt_zero g2, compareInt_zero h0, hp]
        · rw [if_pos g2] at h0; exact absurd h0 g2
      · rw [if_pos g1] at h0; exact absurd h0 g1
    · rw [if_pos h0] at h; exact absurd h h0

/-! ### Order -/
theorem core_may {v : Ver} (h : v.may = true) : (coreV v).may = true := by
  have e : listOk [] = true := by decide
  unfold Ver.may at h ⊢; simp only [Bool.and_eq_true] at h ⊢
  exact ⟨⟨h.1.1, h.1.2⟩, e⟩
theorem order_anti {a b : Ver} (ha : a.may = true) (hb : b.may = true) : cmpR b a = - cmpR a b := by
  rw [cmpR_key hb ha, cmpR_key ha hb, cmpL_anti]
theorem order_self {a : Ver} : cmpR a a = 0 := cmpR_core rfl
theorem order_core {a b : Ver} (ha : a.may = true) (hb : b.may = true) : cmpR (coreV a) b = cmpR a b := by
  rw [cmpR_key (core_may ha) hb, cmpR_key ha hb]; rfl
/-! ### Numbers as one -/
def Ver.code (v : Ver) : Int := (v.maj * 10000 + v.min) * 10000 + v.pat
theorem ci_lt {x y : Int} (h : x < y) : Lib.compareInt x y = -1 := by unfold Lib.compareInt; rw [if_pos h]
theorem ci_gt {x y : Int} (h : y < x) : Lib.compareInt x y = 1 := by unfold Lib.compareInt; rw [if_neg (by omega), if_pos h]
/-! ### The next release; bumps -/
theorem rel_may4 (a b c : Int) : (Ver.rel a b c).may = (numOkI a && numOkI b && numOkI c) := by
  unfold Ver.may Ver.rel
  have h1 : preOk [] = true := by decide
  have h2 : listOk [] = true := by decide
  dsimp only
  rw [h1, h2, Bool.and_true, Bool.and_true]
theorem num_in {a : Int} (h : 0 ≤ a ∧ a ≤ 9999) : numOkI a = true := by unfold numOkI; simp; omega
end Go.Proofs.YtjabcbagggicaaaGreatDoor
end

section
/-
  Plain mathematics for chapter 2: the next release is greater than the version, and no release lies between.
-/
namespace Go.Proofs.YtjabcbagggicaaaGreatDoor
open Go.RowKit

end Go.Proofs.YtjabcbagggicaaaGreatDoor
end

section
/-
  Plain mathematics of chapter 6: comparators and their strings; a string is read as the comparator whose string it is. No condition of its own.
-/
namespace Go.Proofs.YtjabcbagggicaaaGreatDoor
set_option linter.unusedVariables false
set_option linter.unusedSimpArgs false

structure Co where
  op : Int
  parts : Int
  v : Ver
deriving DecidableEq
def signL (op : Int) : List UInt8 := if op = 1 then [61] else if op = 2 then [33, 61] else if op = 3 then [60] else if op = 4 then [60, 61] else if op = 5 then [62] else if op = 6 then [62, 61] else if op = 7 then [94] else if op = 8 then [126] else []
def Co.may (c : Co) : Bool := decide (1 ≤ c.op ∧ c.op ≤ 9) && c.v.may && decide (c.v.build = []) && (if c.op = 9 then decide (0 ≤ c.parts ∧ c.parts ≤ 2) else decide (1 ≤ c.parts ∧ c.parts ≤ 3)) && decide (3 ≤ c.parts ∨ c.v.pre = []) && decide (0 < c.parts ∨ c.v.maj = 0) && decide (1 < c.parts ∨ c.v.min = 0) && decide (2 < c.parts ∨ c.v.pat = 0)
theorem Co.facts {c : Co} (h : c.may = true) : (1 ≤ c.op ∧ c.op ≤ 9) ∧ c.v.may = true ∧ c.v.build = [] ∧ (c.op = 9 → 0 ≤ c.parts ∧ c.parts ≤ 2) ∧ (¬ c.op = 9 → 1 ≤ c.parts ∧ c.parts ≤ 3) ∧ (3 ≤ c.parts ∨ c.v.pre = []) ∧ (0 < c.parts ∨ c.v.maj = 0) ∧ (1 < c.parts ∨ c.v.min = 0) ∧ (2 < c.parts ∨ c.v.pat = 0) := by
  unfold Co.may at h
  simp only [Bool.and_eq_true, decide_eq_true_eq] at h
  obtain ⟨⟨⟨⟨⟨⟨⟨h1, h2⟩, h3⟩, h4⟩, h5⟩, h6⟩, h7⟩, h8⟩ := h
  refine ⟨h1, h2, h3, fun e => ?_, fun e => ?_, h5, h6, h7, h8⟩
  · rw [if_pos e] at h4; exact of_decide_eq_true h4
  · rw [if_neg e] at h4; exact of_decide_eq_true h4
theorem Co.may_iff {c : Co} : c.may = true ↔ (1 ≤ c.op ∧ c.op ≤ 9) ∧ c.v.may = true ∧ c.v.build = [] ∧ (c.op = 9 → 0 ≤ c.parts ∧ c.parts ≤ 2) ∧ (¬ c.op = 9 → 1 ≤ c.parts ∧ c.parts ≤ 3) ∧ (3 ≤ c.parts ∨ c.v.pre = []) ∧ (0 < c.parts ∨ c.v.maj = 0) ∧ (1 < c.parts ∨ c.v.min = 0) ∧ (2 < c.parts ∨ c.v.pat = 0) := by
  refine ⟨Co.facts, fun ⟨h1, h2, h3, k9, kn, h5, h6, h7, h8⟩ => ?_⟩
  unfold Co.may
  rw [decide_eq_true h1, h2, decide_eq_true h3, decide_eq_true h5, decide_eq_true h6, decide_eq_true h7, decide_eq_true h8]
  by_cases e : c.op = 9
  · rw [if_pos e, decide_eq_true (k9 e)]; rfl
  · rw [if_neg e, decide_eq_true (kn e)]; rfl
def numsN (v : Ver) (n : Nat) : List (List UInt8) := [Lib.itoa v.maj, Lib.itoa v.min, Lib.itoa v.pat].take n
def Co.rest (c : Co) : List UInt8 := if c.op = 9 then joinL 46 (numsN c.v c.parts.toNat ++ [[42]]) else joinL 46 (numsN c.v c.parts.toNat) ++ tailS 45 c.v.pre
def Co.text (c : Co) : List UInt8 := signL c.op ++ c.rest
def Co.print (c : Co) : List UInt8 := if c.may then c.text else []

def beginsL (s t : List UInt8) : Bool := decide (s.take t.length = t)
/-- The operator of a string, and what stands behind its sign. -/
def splitC (s : List UInt8) : Int × List UInt8 :=
  if beginsL s [33, 61] then (2, s.drop 2) else if beginsL s [60, 61] then (4, s.drop 2) else if beginsL s [62, 61] then (6, s.drop 2) else if beginsL s [61] then (1, s.drop 1)
  else if beginsL s [60] then (3, s.drop 1) else if beginsL s [62] then (5, s.drop 1) else if beginsL s [94] then (7, s.drop 1) else if beginsL s [126] then (8, s.drop 1)
  else if s.getLast? = some 42 then (9, s) else (7, s)
def guessL (op : Int) (rest : List UInt8) : List (List UInt8) := if op = 9 then (pcs (cutAt 45 rest).1).dropLast else pcs (cutAt 45 rest).1
def guessC (op : Int) (rest : List UInt8) : Option Co :=
  if (guessL op rest).length ≤ 3 ∧ (guessL op rest).all numI = true then
    some ⟨op, (guessL op rest).length, ⟨numD (tg (guessL op rest) 0), numD (tg (guessL op rest) 1), numD (tg (guessL op rest) 2), (cutAt 45 rest).2.1, []⟩⟩
  else none
def fits (s : List UInt8) (c : Co) : Bool := !decide (c.print = []) && (decide (c.print = s) || decide (c.print = 94 :: s))
def parseC (s : List UInt8) : Option Co := (guessC (splitC s).1 (splitC s).2).filter (fits s)

theorem print_may {c : Co} (h : ¬ c.print = []) : c.may = true := by
  cases hm : c.may with
  | true => rfl
  | false => exact absurd (show c.print = [] by unfold Co.print; rw [hm]; rfl) h
theorem co_print {c : Co} (h : c.may = true) : c.print = c.text := by unfold Co.print; rw [h]; rfl
theorem parseC_back {s : List UInt8} {c : Co} (h : parseC s = some c) : c.may = true ∧ (c.text = s ∨ c.text = 94 :: s) := by
  unfold parseC at h
  obtain ⟨_, h⟩ := Option.filter_eq_some_iff.1 h
  unfold fits at h
  simp only [Bool.and_eq_true, Bool.not_eq_true', decide_eq_false_iff_not, Bool.or_eq_true, decide_eq_true_eq] at h
  have hm := print_may h.1
  rw [co_print hm] at h
  exact ⟨hm, h.2⟩
/-! ### The numbers between dots -/
theorem pcs_cons {x y : List UInt8} (h : (46 : UInt8) ∉ x) : pcs (x ++ 46 :: y) = x :: pcs y := by
  unfold pcs
  rw [cutAt_split, cutAt_hit 46 _ _ h]
  simp
theorem pcs_one {x : List UInt8} (h : (46 : UInt8) ∉ x) : pcs x = [x] := by
  unfold pcs
  rw [cutAt_split, cutAt_miss 46 _ h]
  simp
theorem pcs_join : ∀ (l : List (List UInt8)), l ≠ [] → (∀ x ∈ l, (46 : UInt8) ∉ x) → pcs (joinL 46 l) = l
  | [], h, _ => absurd rfl h
  | [x], _, h => pcs_one (h x (List.mem_singleton.2 rfl))
  | x :: y :: r, _, h => by
    rw [joinL, pcs_cons (h x (List.mem_cons_self ..)), pcs_join (y :: r) (by simp) fun z hz => h z (List.mem_cons_of_mem _ hz)]
theorem nums_mem {v : Ver} (hv : v.may = true) {n : Nat} {x : List UInt8} (h : x ∈ numsN v n) : ∃ k : Int, numOkI k = true ∧ x = Lib.itoa k := by
  obtain ⟨h1, h2, h3⟩ := may_nums hv
  unfold numsN at h
  have h := List.mem_of_mem_take h
  simp only [List.mem_cons, List.not_mem_nil, or_false] at h
  rcases h with rfl | rfl | rfl
  · exact ⟨_, h1, rfl⟩
  · exact ⟨_, h2, rfl⟩
  · exact ⟨_, h3, rfl⟩
theorem nums_free {v : Ver} (hv : v.may = true) {n : Nat} (b : UInt8) (hb : digB b.toNat = false) : ∀ x ∈ numsN v n, b ∉ x := fun x hx => by
  obtain ⟨k, hk, rfl⟩ := nums_mem hv hx
  exact dig_free hk b hb
theorem join_free (b : UInt8) (hb : b ≠ 46) : ∀ (l : List (List UInt8)), (∀ x ∈ l, b ∉ x) → b ∉ joinL 46 l
  | [], _ => by simp [joinL]
  | [x], h => h x (List.mem_singleton.2 rfl)
  | x :: y :: r, h => by
    rw [joinL]
    simp only [List.mem_append, List.mem_cons, not_or]
    exact ⟨h x (List.mem_cons_self ..), hb, join_free b hb (y :: r) fun z hz => h z (List.mem_cons_of_mem _ hz)⟩
theorem numsN_len (v : Ver) {n : Nat} (h : n ≤ 3) : (numsN v n).length = n := by
  unfold numsN
  rw [List.length_take]
  simp; omega
theorem nums_num {v : Ver} (hv : v.may = true) (n : Nat) : (numsN v n).all numI = true := List.all_eq_true.2 fun x hx => by
  obtain ⟨k, hk, rfl⟩ := nums_mem hv hx
  exact numI_itoa hk
theorem nums_back {v : Ver} (hv : v.may = true) {n : Nat} (h : n ≤ 3) (h0 : 0 < n ∨ v.maj = 0) (h1 : 1 < n ∨ v.min = 0) (h2 : 2 < n ∨ v.pat = 0) : numD (tg (numsN v n) 0) = v.maj ∧ numD (tg (numsN v n) 1) = v.min ∧ numD (tg (numsN v n) 2) = v.pat := by
  obtain ⟨m1, m2, m3⟩ := may_nums hv
  have e1 := numD_itoa m1
  have e2 := numD_itoa m2
  have e3 := numD_itoa m3
  match n, h with
  | 0, _ => exact ⟨(h0.resolve_left (by decide)).symm, (h1.resolve_left (by decide)).symm, (h2.resolve_left (by decide)).symm⟩
  | 1, _ => exact ⟨e1, (h1.resolve_left (by decide)).symm, (h2.resolve_left (by decide)).symm⟩
  | 2, _ => exact ⟨e1, e2, (h2.resolve_left (by decide)).symm⟩
  | 3, _ => exact ⟨e1, e2, e3⟩
/-! ### What is behind the sign is read back -/
theorem guess_rest {c : Co} (h : c.may = true) : guessC c.op c.rest = some c := by
  obtain ⟨_, hv, hb, h9, hn, hp, k0, k1, k2⟩ := Co.facts h
  obtain ⟨op, parts, v⟩ := c
  simp only at hv hb h9 hn hp k0 k1 k2 ⊢
  have hparts : (parts.toNat : Int) = parts ∧ parts.toNat ≤ 3 := by
    by_cases e : op = 9
    · have := h9 e; omega
    · have := hn e; omega
  have key : guessL op (Co.rest ⟨op, parts, v⟩) = numsN v parts.toNat ∧ (cutAt 45 (Co.rest ⟨op, parts, v⟩)).2.1 = v.pre := by
    unfold guessL Co.rest
    by_cases e : op = 9
    · rw [if_pos e]
      dsimp only
      rw [if_pos e]
      have f : ∀ b : UInt8, digB b.toNat = false → b ≠ 42 → ∀ x ∈ numsN v parts.toNat ++ [[42]], b ∉ x := fun b hb hb2 x hx => by
        rcases List.mem_append.1 hx with hx | hx
        · exact nums_free hv b hb x hx
        · rw [List.mem_singleton.1 hx]
          intro hm
          exact hb2 (List.mem_singleton.1 hm)
      rw [cutAt_miss 45 _ (join_free 45 (by decide) _ (f 45 (by decide) (by decide)))]
      have hpre : v.pre = [] := hp.resolve_left (by have := h9 e; omega)
      exact ⟨by
        show (pcs (joinL 46 (numsN v parts.toNat ++ [[42]]))).dropLast = _
        rw [pcs_join _ (by simp) (f 46 (by decide) (by decide)), List.dropLast_concat], hpre.symm⟩
    · rw [if_neg e]
      dsimp only
      rw [if_neg e]
      have hne : numsN v parts.toNat ≠ [] := fun h0 => by
        have := numsN_len v hparts.2
        rw [h0] at this
        have := hn e
        simp at *; omega
      rw [cut_tail 45 _ _ (join_free 45 (by decide) _ (nums_free hv 45 (by decide)))]
      exact ⟨pcs_join _ hne (nums_free hv 46 (by decide)), rfl⟩
  unfold guessC
  rw [key.1, key.2, if_pos ⟨by rw [numsN_len v hparts.2]; exact hparts.2, nums_num hv _⟩]
  obtain ⟨e1, e2, e3⟩ := nums_back hv hparts.2 (by omega) (by omega) (by omega)
  rw [e1, e2, e3, numsN_len v hparts.2, hparts.1]
  obtain ⟨a, b, p, q, r⟩ := v
  simp only at hb
  rw [hb]
/-! ### The sign -/
theorem itoa_head {k : Int} (h : numOkI k = true) : ∃ d r, Lib.itoa k = d :: r ∧ digB d.toNat = true := by
  have hm := num_itoa h
  cases e : Lib.itoa k with
  | nil => rw [e] at hm; cases hm
  | cons d r => exact ⟨d, r, rfl, by
      have := dig_mem k.toNat d (by rw [← itoa_nat h, e]; exact List.mem_cons_self)
      exact this⟩
theorem join_head {x : List UInt8} {l : List (List UInt8)} {d : UInt8} {r : List UInt8} (h : x = d :: r) : ∃ r', joinL 46 (x :: l) = d :: r' := by
  subst h
  cases l with
  | nil => exact ⟨r, rfl⟩
  | cons y t => exact ⟨_, rfl⟩
theorem rest_head {c : Co} (h : c.may = true) (hn : ¬ c.op = 9) : ∃ d r, c.rest = d :: r ∧ digB d.toNat = true := by
  obtain ⟨_, hv, _, _, h9, _⟩ := Co.facts h
  obtain ⟨d, r, e, hd⟩ := itoa_head (may_nums hv).1
  obtain ⟨n, en⟩ : ∃ n, c.parts.toNat = n + 1 := ⟨c.parts.toNat - 1, by have := h9 hn; omega⟩
  obtain ⟨r', e'⟩ := join_head (l := [Lib.itoa c.v.min, Lib.itoa c.v.pat].take n) e
  refine ⟨d, r' ++ tailS 45 c.v.pre, ?_, hd⟩
  unfold Co.rest numsN
  rw [if_neg hn, en, List.take_succ_cons, e']; rfl
theorem star_head {c : Co} (h : c.may = true) (hn : c.op = 9) : ∃ d r, c.rest = d :: r ∧ (digB d.toNat = true ∨ d = 42) := by
  obtain ⟨_, hv, _, h9, _⟩ := Co.facts h
  obtain ⟨d, r, e, hd⟩ := itoa_head (may_nums hv).1
  unfold Co.rest numsN
  rw [if_pos hn]
  cases hp : c.parts.toNat with
  | zero => exact ⟨42, [], rfl, .inr rfl⟩
  | succ n =>
    obtain ⟨r', e'⟩ := join_head (l := [Lib.itoa c.v.min, Lib.itoa c.v.pat].take n ++ [[42]]) e
    exact ⟨d, r', by rw [List.take_succ_cons, List.cons_append, e'], .inl hd⟩
theorem not_begins {d : UInt8} {r : List UInt8} {a : UInt8} {t : List UInt8} (h : d ≠ a) : beginsL (d :: r) (a :: t) = false := decide_eq_false fun e => by
  rw [List.length_cons, List.take_succ_cons] at e
  injection e with e1 _
  exact h e1
theorem split_plain {d : UInt8} {r : List UInt8} (h : digB d.toNat = true ∨ d = 42) : splitC (d :: r) = if (d :: r).getLast? = some 42 then (9, d :: r) else (7, d :: r) := by
  have hd : ∀ a : UInt8, digB a.toNat = false → a ≠ 42 → d ≠ a := fun a ha h42 e => by
    subst e
    rcases h with h | h
    · rw [ha] at h; cases h
    · exact h42 h
  unfold splitC
  rw [not_begins (hd 33 (by decide) (by decide)), not_begins (hd 60 (by decide) (by decide)), not_begins (hd 62 (by decide) (by decide)), not_begins (hd 61 (by decide) (by decide)), not_begins (hd 60 (by decide) (by decide)), not_begins (hd 62 (by decide) (by decide)), not_begins (hd 94 (by decide) (by decide)), not_begins (hd 126 (by decide) (by decide))]
  rfl
theorem split_sign {op : Int} (h1 : 1 ≤ op) (h8 : op ≤ 8) {d : UInt8} {r : List UInt8} (hd : digB d.toNat = true) : splitC (signL op ++ d :: r) = (op, d :: r) := by
  have h61 : d ≠ 61 := fun e => by subst e; revert hd; decide
  have hop : op = 1 ∨ op = 2 ∨ op = 3 ∨ op = 4 ∨ op = 5 ∨ op = 6 ∨ op = 7 ∨ op = 8 := by omega
  rcases hop with rfl | rfl | rfl | rfl | rfl | rfl | rfl | rfl <;> simp [signL, splitC, beginsL, h61]
theorem last_join (x : List UInt8) : ∀ (l : List (List UInt8)), (joinL 46 (l ++ [x ++ [42]])).getLast? = some 42
  | [] => by simp [joinL]
  | [y] => by
    show (y ++ 46 :: (x ++ [42])).getLast? = some 42
    rw [show y ++ 46 :: (x ++ [42]) = (y ++ 46 :: x) ++ [42] from by simp, List.getLast?_concat]
  | y :: z :: r => by
    have := last_join x (z :: r)
    show (y ++ 46 :: joinL 46 (z :: r ++ [x ++ [42]])).getLast? = some 42
    rw [List.getLast?_append]
    cases hj : joinL 46 (z :: r ++ [x ++ [42]]) with
    | nil => rw [hj] at this; cases this
    | cons a b => rw [hj] at this; rw [List.getLast?_cons_cons, this]; rfl
theorem star_free (s : List UInt8) (h : listOk s = true) : (42 : UInt8) ∉ s := by
  intro hm
  unfold listOk at h
  rcases splitL_mem 46 s [] 42 hm with e | ⟨x, hx, hc⟩
  · revert e; decide
  · have hne : s.isEmpty = false := by cases s with
      | nil => cases hm
      | cons _ _ => rfl
    rw [hne, Bool.false_or, Bool.and_eq_true] at h
    have := List.all_eq_true.1 h.2 x hx
    unfold tagOk at this
    rw [Bool.and_eq_true] at this
    have := List.all_eq_true.1 this.2 _ hc
    revert this; decide
theorem rest_star {c : Co} (h : c.may = true) (hn : ¬ c.op = 9) : (42 : UInt8) ∉ c.rest := by
  obtain ⟨_, hv, _⟩ := Co.facts h
  have hl : listOk c.v.pre = true := by
    have := may_pre hv
    unfold preOk at this
    exact (Bool.and_eq_true_iff.1 this).1
  unfold Co.rest
  rw [if_neg hn]
  intro hm
  rcases List.mem_append.1 hm with hm | hm
  · exact join_free 42 (by decide) _ (nums_free hv 42 (by decide)) hm
  · unfold tailS at hm
    split at hm
    · cases hm
    · rcases List.mem_cons.1 hm with e | hm
      · revert e; decide
      · exact star_free _ hl hm
theorem split_text {c : Co} (h : c.may = true) : splitC c.text = (c.op, c.rest) := by
  obtain ⟨ho, _⟩ := Co.facts h
  unfold Co.text
  by_cases hn : c.op = 9
  · obtain ⟨d, r, e, hd⟩ := star_head h hn
    have hl : c.rest.getLast? = some 42 := by unfold Co.rest; rw [if_pos hn]; exact last_join [] _
    rw [hn, show signL 9 = [] from rfl, List.nil_append]
    rw [e] at hl ⊢
    rw [split_plain hd, if_pos hl]
  · obtain ⟨d, r, e, hd⟩ := rest_head h hn
    rw [e]
    exact split_sign ho.1 (by omega) hd
theorem parseC_text {c : Co} (h : c.may = true) : parseC c.text = some c := by
  unfold parseC
  rw [split_text h, guess_rest h]
  refine Option.filter_eq_some_iff.2 ⟨rfl, ?_⟩
  have hne : ¬ c.text = [] := fun e => by
    unfold Co.text at e
    have e2 := (List.append_eq_nil_iff.1 e).2
    by_cases hn : c.op = 9
    · obtain ⟨d, r, e3, _⟩ := star_head h hn; rw [e3] at e2; cases e2
    · obtain ⟨d, r, e3, _⟩ := rest_head h hn; rw [e3] at e2; cases e2
  unfold fits
  rw [co_print h, decide_eq_false hne, decide_eq_true rfl]; rfl
/-- A Caret without its sign. -/
theorem parseC_caret {c : Co} {s : List UInt8} (h : c.may = true) (hs : c.text = 94 :: s) : parseC s = some c := by
  obtain ⟨ho, _⟩ := Co.facts h
  have hop : c.op = 7 ∧ c.rest = s := by
    unfold Co.text at hs
    by_cases hn : c.op = 9
    · obtain ⟨d, r, e, hd⟩ := star_head h hn
      rw [hn, show signL 9 = [] from rfl, List.nil_append, e] at hs
      injection hs with e1 _
      rw [e1] at hd
      exact absurd hd (by decide)
    · have hop : c.op = 1 ∨ c.op = 2 ∨ c.op = 3 ∨ c.op = 4 ∨ c.op = 5 ∨ c.op = 6 ∨ c.op = 7 ∨ c.op = 8 := by omega
      rcases hop with e | e | e | e | e | e | e | e <;> rw [e] at hs <;> simp [signL] at hs
      exact ⟨e, hs⟩
  obtain ⟨d, r, e, hd⟩ := rest_head h (by omega)
  have h42 : ¬ s.getLast? = some 42 := fun hl => by
    have := List.mem_of_getLast? hl
    rw [← hop.2] at this
    exact rest_star h (by omega) this
  unfold parseC
  have hsp : splitC s = (7, s) := by
    rw [← hop.2, e, split_plain (.inl hd), if_neg (by rw [← e, hop.2]; exact h42)]
  rw [hsp]
  have hg := guess_rest h
  rw [hop.1, hop.2] at hg
  rw [hg]
  refine Option.filter_eq_some_iff.2 ⟨rfl, ?_⟩
  unfold fits
  rw [co_print h, hs, decide_eq_false (by simp), decide_eq_true rfl, Bool.or_true]; rfl
/-- Reading is right: the comparator that may be and whose string it is, or that is so behind a Caret's sign. -/
theorem parseC_iff (s : List UInt8) (c : Co) : parseC s = some c ↔ c.may = true ∧ (c.text = s ∨ c.text = 94 :: s) :=
  ⟨parseC_back, fun ⟨hm, h⟩ => h.elim (fun e => e ▸ parseC_text hm) (fun e => parseC_caret hm e)⟩
end Go.Proofs.YtjabcbagggicaaaGreatDoor
end

section
/-
  linchpinlaw0: Place, At, From, Version and Release: what they return for every list of numbers; nothing that was there is changed.
-/
namespace Go.Proofs.YtjabcbagggicaaaGreatDoor
open Go.RowKit

/-- A slice that reads as a list of ints. -/
def ReadsI (w : World) (B : Nat) (v : Value) (l : List Int) : Prop :=
  ∃ A cap, v = .slice A l.length cap ∧ (0 < l.length → ∃ ad : Addr, A = some ad ∧ ad.block < B ∧ ∀ j (h : j < l.length), w.cell? (ad.add j) = some (.int .i64 l[j]))
theorem add_block (a : Addr) (n : Nat) : (a.add n).block = a.block := by unfold Addr.add; split <;> rfl
theorem ReadsI.below {w w' : World} {B : Nat} {v : Value} {l : List Int} (h : ReadsI w B v l) (hb : Below B w w') : ReadsI w' B v l := by
  obtain ⟨A, cap, hv, hc⟩ := h
  exact ⟨A, cap, hv, fun hpos => by
    obtain ⟨ad, hA, hlt, hcc⟩ := hc hpos
    exact ⟨ad, hA, hlt, fun j hj => (hb.cell (by rw [add_block]; exact hlt)).trans (hcc j hj)⟩⟩
theorem ReadsI.more {w : World} {B B' : Nat} {v : Value} {l : List Int} (h : ReadsI w B v l) (hB : B ≤ B') : ReadsI w B' v l := by
  obtain ⟨A, cap, hv, hc⟩ := h
  exact ⟨A, cap, hv, fun hpos => by
    obtain ⟨ad, hA, hlt, hcc⟩ := hc hpos
    exact ⟨ad, hA, Nat.lt_of_lt_of_le hlt hB, hcc⟩⟩
def atL (l : List Int) (i : Nat) : Int := (l[i]?).getD 0
/-- The place of any number among n. -/
def plc (v n : Int) : Int := if v.tmod n < 0 then v.tmod n + n else v.tmod n
theorem tmod_in (v n : Int) (hn : 0 < n) : -n < v.tmod n ∧ v.tmod n < n := by
  rcases Int.lt_or_le v 0 with h | h
  · have h3 := Int.tmod_lt_of_pos (-v) hn
    have h4 := Int.tmod_nonneg n (show 0 ≤ -v by omega)
    rw [Int.neg_tmod] at h3 h4; omega
  · have h3 := Int.tmod_lt_of_pos v hn
    have h4 := Int.tmod_nonneg n h
    omega
theorem plc_in (v n : Int) (hn : 0 < n) : 0 ≤ plc v n ∧ plc v n < n := by
  obtain ⟨h1, h2⟩ := tmod_in v n hn
  unfold plc
  split <;> omega

theorem place_any (v n : Int) (w : World) (hn : 0 < n) (hn2 : n ≤ 1000000) :
    Calls Tryz.prog 102 #[.int .i64 v, .int .i64 n] w fun e w' => e = .returned (.int .i64 (plc v n)) ∧ w = w' := by
  obtain ⟨h1, h2⟩ := tmod_in v n hn
  have HP : Hid (plc v n = if v.tmod n < 0 then v.tmod n + n else v.tmod n) := rfl
  have hn0 : (n == 0) = false := by simp; omega
  have hw : IntKind.i64.wrap (v.tmod n) = v.tmod n := IntWalk.i64_in _ (by omega)
  obtain ⟨m, hm⟩ : ∃ m, v.tmod n = m := ⟨_, rfl⟩
  rw [hm] at h1 h2 HP hw
  by_cases h0 : m < 0
  · have hs : 0 ≤ m + n := by omega
    have hs2 : m + n ≤ 1000000 := by omega
    go_enter Tryz.func102, Tryz.ntmps102
    go_wp2
    go_ret
    exact ⟨ret_int (by rw [HP.out, if_pos h0]), rfl⟩
  · go_enter Tryz.func102, Tryz.ntmps102
    go_wp2
    go_ret
    exact ⟨ret_int (by rw [HP.out, if_neg (by omega)]), rfl⟩
theorem at_any (v : Value) (l : List Int) (i : Nat) (w : World) (hv : ReadsI w w.heap.size v l) (hl : l.length ≤ 9223372036854775807) (hi : i ≤ 1000000) :
    Calls Tryz.prog 103 #[v, .int .i64 i] w fun e w' => e = .returned (.int .i64 (atL l i)) ∧ w = w' := by
  obtain ⟨A, cap, rfl, hc⟩ := hv
  by_cases h : i < l.length
  · obtain ⟨ad, rfl, hlt, hcc⟩ := hc (by omega)
    have hcell := hcc i h
    have hi1 : (i : Int) < l.length := by omega
    have hi2 : ¬ (l.length : Int) ≤ i := by omega
    have HA : Hid (atL l i = l[i]) := by show _ = _; unfold atL; rw [List.getElem?_eq_getElem h]; rfl
    clear hc hcc
    go_enter Tryz.func103, Tryz.ntmps103
    go_wp2
    go_ret
    exact ⟨ret_int HA.out.symm, rfl⟩
  · have hi1 : (l.length : Int) ≤ i := by omega
    have HA : Hid (atL l i = 0) := by show _ = _; unfold atL; rw [List.getElem?_eq_none (by omega)]; rfl
    clear hc
    go_enter Tryz.func103, Tryz.ntmps103
    go_wp2
    go_ret
    exact ⟨ret_int HA.out.symm, rfl⟩

def i64in (n : Int) : Prop := -9223372036854775808 ≤ n ∧ n ≤ 9223372036854775807
theorem from_any (v : Value) (l : List Int) (i : Nat) (n : Int) (w : World) (hv : ReadsI w w.heap.size v l) (hl : l.length ≤ 9223372036854775807) (hi : i ≤ 1000000) (hn : 0 < n) (hn2 : n ≤ 1000000) :
    Calls Tryz.prog 58 #[v, .int .i64 i, .int .i64 n] w fun e w' => e = .returned (.int .i64 (plc (atL l i) n)) ∧ w = w' := by
  have cA := at_any v l i w hv hl hi
  obtain ⟨A, cap, rfl, hc⟩ := hv
  clear hc
  go_enter Tryz.func58, Tryz.ntmps58
  go_wp2_with fail
  refine cA.mono ?_
  rintro e w1 ⟨rfl, rfl⟩
  go_wp2_with fail
  refine (place_any _ n _ hn hn2).mono ?_
  rintro e w1 ⟨rfl, rfl⟩
  go_wp2
  go_ret
  exact ⟨rfl, rfl⟩

def numT (k : Nat) : Int := (([0, 1, 2, 3, 0, 1, 10, 9999] : List Int)[k]?).getD 0
def preT14 (k : Nat) : List UInt8 := (([[], [], [], [], [48], [49], [50], [49, 49], [97], [97, 46, 49], [97, 46, 98], [98], [48, 46, 48], [114, 99, 46, 49]] : List (List UInt8))[k]?).getD []
def bldT (k : Nat) : List UInt8 := (([[], [], [], [], [48, 48, 55], [120, 46, 49]] : List (List UInt8))[k]?).getD []
def genV (l : List Int) (i : Nat) : Ver := ⟨numT (plc (atL l i) 8).toNat, numT (plc (atL l (i + 1)) 8).toNat, numT (plc (atL l (i + 2)) 8).toNat, preT14 (plc (atL l (i + 3)) 14).toNat, bldT (plc (atL l (i + 4)) 6).toNat⟩
def GEnd (u : Ver) (w : World) (e : Ending) (w' : World) : Prop := e = .returned (verV u) ∧ Below w.heap.size w w'
end Go.Proofs.YtjabcbagggicaaaGreatDoor
end

section
/-
  linchpinlaw0's Version at the place 0: the version that five numbers of the list name.
-/
namespace Go.Proofs.YtjabcbagggicaaaGreatDoor
open Go.RowKit

end Go.Proofs.YtjabcbagggicaaaGreatDoor
end

section
/-
  linchpinlaw0's Version at the place 5: the version that five numbers of the list name.
-/
namespace Go.Proofs.YtjabcbagggicaaaGreatDoor
open Go.RowKit

end Go.Proofs.YtjabcbagggicaaaGreatDoor
end

section
/-
  linchpinlaw0's Version at the place 10: the version that five numbers of the list name.
-/
namespace Go.Proofs.YtjabcbagggicaaaGreatDoor
open Go.RowKit

end Go.Proofs.YtjabcbagggicaaaGreatDoor
end

section
/-
  What linchpinlaw0's Version makes is valid and short.
-/
namespace Go.Proofs.YtjabcbagggicaaaGreatDoor
open Go.RowKit

theorem numT_ok : ∀ k, k < 8 → numOkI (numT k) = true := by decide +kernel
theorem preT_ok : ∀ k, k < 14 → preOk (preT14 k) = true ∧ (preT14 k).length ≤ 300 := by decide +kernel
theorem bldT_ok : ∀ k, k < 6 → listOk (bldT k) = true ∧ (bldT k).length ≤ 300 := by decide +kernel
theorem plc_nat (v n : Int) (m : Nat) (hn : 0 < n) (hm : n = m) : (plc v n).toNat < m := by
  obtain ⟨h1, h2⟩ := plc_in v n hn; omega
theorem gen_may (l : List Int) (i : Nat) : (genV l i).may = true := by
  unfold genV Ver.may
  dsimp only
  rw [numT_ok _ (plc_nat _ 8 8 (by omega) rfl), numT_ok _ (plc_nat _ 8 8 (by omega) rfl), numT_ok _ (plc_nat _ 8 8 (by omega) rfl), (preT_ok _ (plc_nat _ 14 14 (by omega) rfl)).1, (bldT_ok _ (plc_nat _ 6 6 (by omega) rfl)).1]
  rfl
theorem gen_pre (l : List Int) (i : Nat) : (genV l i).pre.length ≤ 300 := (preT_ok _ (plc_nat _ 14 14 (by omega) rfl)).2
theorem gen_bld (l : List Int) (i : Nat) : (genV l i).build.length ≤ 300 := (bldT_ok _ (plc_nat _ 6 6 (by omega) rfl)).2
end Go.Proofs.YtjabcbagggicaaaGreatDoor
end

section
/-
  Plain mathematics for chapter 3: cuts, their order, what stands ahead of a version, spans; and the cuts that numbers name.
-/
namespace Go.Proofs.YtjabcbagggicaaaGreatDoor
open Go.RowKit
set_option linter.unusedVariables false
set_option linter.unusedSimpArgs false

structure Cu where
  e : Int
  v : Ver
  aft : Bool
deriving DecidableEq

def Cu.may (c : Cu) : Bool := if c.e = 0 then c.v.may && c.v.build.isEmpty else decide (c.e = -1 ∨ c.e = 1) && decide (c.v = Ver.zero) && !c.aft
def b01 (b : Bool) : Int := if b then 1 else 0
def lex (x y : Int) : Int := if x = 0 then y else x
def cmpC (a b : Cu) : Int := if a.may && b.may then lex (Lib.compareInt a.e b.e) (lex (cmpR a.v b.v) (Lib.compareInt (b01 a.aft) (b01 b.aft))) else 0
theorem zero_may : Ver.zero.may = true := by decide
theorem may_v {c : Cu} (h : c.may = true) : c.v.may = true := by
  unfold Cu.may at h
  split at h
  · rw [Bool.and_eq_true] at h; exact h.1
  · simp only [Bool.and_eq_true, decide_eq_true_eq] at h; rw [h.1.2]; exact zero_may
theorem may_e {c : Cu} (h : c.may = true) : (c.e = 0 ∧ c.v.build = []) ∨ ((c.e = -1 ∨ c.e = 1) ∧ c.v = Ver.zero ∧ c.aft = false) := by
  unfold Cu.may at h
  split at h
  · rename_i h0; rw [Bool.and_eq_true] at h; exact .inl ⟨h0, List.isEmpty_iff.1 h.2⟩
  · simp only [Bool.and_eq_true, decide_eq_true_eq, Bool.not_eq_true'] at h; exact .inr ⟨h.1.1, h.1.2, h.2⟩
theorem may_build {c : Cu} (h : c.may = true) : c.v.build = [] := by
  rcases may_e h with h | h
  · exact h.2
  · rw [h.2.1]; rfl
theorem cmpR_range {v w : Ver} : cmpR v w = -1 ∨ cmpR v w = 0 ∨ cmpR v w = 1 := by
  by_cases hv : v.may = true
  · by_cases hw : w.may = true
    · rw [cmpR_key hv hw]; exact cmpL_range _ _
    · exact .inr (.inl (cmpR_bad (.inr (by simpa using hw))))
  · exact .inr (.inl (cmpR_bad (.inl (by simpa using hv))))
theorem ci_range (x y : Int) : Lib.compareInt x y = -1 ∨ Lib.compareInt x y = 0 ∨ Lib.compareInt x y = 1 := by
  unfold Lib.compareInt
  by_cases h : x < y
  · rw [if_pos h]; simp
  · rw [if_neg h]
    by_cases h2 : y < x
    · rw [if_pos h2]; simp
    · rw [if_neg h2]; simp
theorem cmpC_good {a b : Cu} (ha : a.may = true) (hb : b.may = true) : cmpC a b = lex (Lib.compareInt a.e b.e) (lex (cmpR a.v b.v) (Lib.compareInt (b01 a.aft) (b01 b.aft))) := by
  unfold cmpC; rw [ha, hb]; rfl
theorem cmpC_range (a b : Cu) : cmpC a b = -1 ∨ cmpC a b = 0 ∨ cmpC a b = 1 := by
  unfold cmpC lex
  have h1 := ci_range a.e b.e
  have h2 := cmpR_range (v := a.v) (w := b.v)
  have h3 := ci_range (b01 a.aft) (b01 b.aft)
  split
  · split
    · split
      · exact h3
      · exact h2
    · exact h1
  · simp

/-! ### Orders put one behind the other -/
structure Ord3 {α : Type} (c : α → α → Int) : Prop where
  anti : ∀ x y, c y x = - c x y
  on : ∀ x y z, c x y ≤ 0 → c y z ≤ 0 → c x z ≤ 0 ∧ (c x z = 0 → c x y = 0 ∧ c y z = 0)
  same : ∀ x y z, c x y = 0 → c y z = 0 → c x z = 0
theorem lex_ord {α : Type} {c d : α → α → Int} (hc : Ord3 c) (hd : Ord3 d) : Ord3 (fun x y => lex (c x y) (d x y)) := by
  refine ⟨fun x y => ?_, fun x y z h1 h2 => ?_, fun x y z h1 h2 => ?_⟩
  · have a := hc.anti x y; have b := hd.anti x y
    show lex (c y x) (d y x) = - lex (c x y) (d x y)
    unfold lex
    by_cases h : c x y = 0
    · rw [if_pos h, if_pos (by omega)]; exact b
    · rw [if_neg h, if_neg (by omega)]; exact a
  · have a := hc.on x y z; have b := hd.on x y z; have s := hc.same x y z
    show lex _ _ ≤ 0 ∧ (lex _ _ = 0 → lex _ _ = 0 ∧ lex _ _ = 0)
    replace h1 : lex (c x y) (d x y) ≤ 0 := h1
    replace h2 : lex (c y z) (d y z) ≤ 0 := h2
    unfold lex at h1 h2 ⊢
    by_cases p : c x y = 0
    · by_cases q : c y z = 0
      · rw [if_pos p] at h1 ⊢; rw [if_pos q] at h2 ⊢; rw [if_pos (s p q)]; exact b h1 h2
      · rw [if_pos p] at h1 ⊢; rw [if_neg q] at h2 ⊢
        obtain ⟨a1, a2⟩ := a (by omega) h2
        have : c x z ≠ 0 := fun e => q (a2 e).2
        rw [if_neg this]; exact ⟨a1, fun e => absurd e this⟩
    · rw [if_neg p] at h1 ⊢
      have h2' : c y z ≤ 0 := by
        by_cases q : c y z = 0
        · omega
        · rw [if_neg q] at h2; exact h2
      obtain ⟨a1, a2⟩ := a h1 h2'
      have : c x z ≠ 0 := fun e => p (a2 e).1
      rw [if_neg this]; exact ⟨a1, fun e => absurd e this⟩
  · have s := hc.same x y z; have t := hd.same x y z
    show lex _ _ = 0
    replace h1 : lex (c x y) (d x y) = 0 := h1
    replace h2 : lex (c y z) (d y z) = 0 := h2
    unfold lex at h1 h2 ⊢
    by_cases p : c x y = 0
    · by_cases q : c y z = 0
      · rw [if_pos p] at h1; rw [if_pos q] at h2; rw [if_pos (s p q)]; exact t h1 h2
      · rw [if_neg q] at h2; exact absurd h2 q
    · rw [if_neg p] at h1; exact absurd h1 p
theorem ci_ord {α : Type} (f : α → Int) : Ord3 (fun x y => Lib.compareInt (f x) (f y)) := by
  refine ⟨fun x y => ?_, fun x y z => ?_, fun x y z => ?_⟩ <;> unfold Lib.compareInt <;> (repeat' split) <;> omega
theorem cmpL_ord {α : Type} (f : α → List Nat) : Ord3 (fun x y => cmpL (f x) (f y)) := by
  refine ⟨fun x y => cmpL_anti _ _, fun x y z => cmpL_trans _ _ _, fun x y z h1 h2 => ?_⟩
  show cmpL (f x) (f z) = 0
  rw [cmpL_zero _ _ h1, cmpL_zero _ _ h2]; exact cmpL_self _
def cmpK (a b : Cu) : Int := lex (Lib.compareInt a.e b.e) (lex (cmpL a.v.key b.v.key) (Lib.compareInt (b01 a.aft) (b01 b.aft)))
theorem cmpK_ord : Ord3 cmpK := lex_ord (ci_ord (fun c : Cu => c.e)) (lex_ord (cmpL_ord (fun c : Cu => c.v.key)) (ci_ord (fun c : Cu => b01 c.aft)))
theorem cmpC_K {a b : Cu} (ha : a.may = true) (hb : b.may = true) : cmpC a b = cmpK a b := by
  rw [cmpC_good ha hb, cmpR_key (may_v ha) (may_v hb)]; rfl
theorem cmpC_bad {a b : Cu} (h : a.may = false ∨ b.may = false) : cmpC a b = 0 := by
  unfold cmpC
  rcases h with h | h <;> rw [h] <;> simp
theorem cut_anti {a b : Cu} : cmpC b a = - cmpC a b := by
  cases ha : a.may with
  | true =>
    cases hb : b.may with
    | true => rw [cmpC_K ha hb, cmpC_K hb ha]; exact cmpK_ord.anti _ _
    | false => rw [cmpC_bad (.inl hb), cmpC_bad (.inr hb)]; rfl
  | false => rw [cmpC_bad (a := a) (.inl ha), cmpC_bad (b := a) (.inr ha)]; rfl
theorem cut_on {a b c : Cu} (ha : a.may = true) (hb : b.may = true) (hc : c.may = true) (h1 : cmpC a b ≤ 0) (h2 : cmpC b c ≤ 0) : cmpC a c ≤ 0 ∧ (cmpC a c = 0 → cmpC a b = 0 ∧ cmpC b c = 0) := by
  rw [cmpC_K ha hb] at h1 ⊢; rw [cmpC_K hb hc] at h2 ⊢; rw [cmpC_K ha hc]; exact cmpK_ord.on _ _ _ h1 h2
theorem lex_neg (x : Int) : lex (-1) x = -1 := rfl
theorem lex_pos (x : Int) : lex 1 x = 1 := rfl
theorem lex_0 (x : Int) : lex 0 x = x := rfl
theorem lex_zero {x y : Int} : lex x y = 0 ↔ x = 0 ∧ y = 0 := by
  unfold lex
  split
  · rename_i h; exact ⟨fun e => ⟨h, e⟩, fun e => e.2⟩
  · rename_i h; exact ⟨fun e => absurd e h, fun e => absurd e.1 h⟩
theorem b01_eq {a b : Bool} (h : b01 a = b01 b) : a = b := by cases a <;> cases b <;> simp [b01] at h ⊢
theorem cut_eq {a b : Cu} (ha : a.may = true) (hb : b.may = true) : cmpC a b = 0 ↔ a = b := by
  constructor
  · intro h
    rw [cmpC_good ha hb, lex_zero, lex_zero] at h
    obtain ⟨h1, h2, h3⟩ := h
    have e2 := cmpR_zero (may_v ha) (may_v hb) h2
    have e1 := compareInt_zero h1
    have e3 := b01_eq (compareInt_zero h3)
    have ba := may_build ha
    have bb := may_build hb
    obtain ⟨ae, ⟨a1, a2, a3, a4, a5⟩, aa⟩ := a
    obtain ⟨be, ⟨b1, b2, b3, b4, b5⟩, ba'⟩ := b
    unfold coreV at e2
    dsimp only at *
    simp only [Ver.mk.injEq] at e2
    obtain ⟨rfl, rfl, rfl, rfl, _⟩ := e2
    subst ba bb e1 e3
    rfl
  · rintro rfl
    have := cut_anti (a := a) (b := a)
    omega

/-! ### Ahead of a version -/
def endC (e : Int) : Cu := ⟨e, Ver.zero, false⟩
def posC (v : Ver) : Cu := ⟨0, coreV v, false⟩
theorem first_may : (endC (-1)).may = true := by decide
theorem last_may : (endC 1).may = true := by decide
theorem posC_may {v : Ver} (h : v.may = true) : (posC v).may = true := by
  unfold posC Cu.may
  rw [if_pos rfl, core_may h]; rfl
theorem first_le {a : Cu} (ha : a.may = true) : cmpC (endC (-1)) a ≤ 0 := by
  rw [cmpC_good first_may ha]
  rcases may_e ha with ⟨h, _⟩ | ⟨h | h, h2, h3⟩
  · have : Lib.compareInt (endC (-1)).e a.e = -1 := ci_lt (by show (-1 : Int) < a.e; omega)
    rw [this, lex_neg]; decide
  · rw [show (endC (-1)).e = a.e from h.symm, compareInt_self, h2, h3]; decide
  · have : Lib.compareInt (endC (-1)).e a.e = -1 := ci_lt (by show (-1 : Int) < a.e; omega)
    rw [this, lex_neg]; decide
theorem le_last {a : Cu} (ha : a.may = true) : cmpC a (endC 1) ≤ 0 := by
  rw [cmpC_good ha last_may]
  rcases may_e ha with ⟨h, _⟩ | ⟨h | h, h2, h3⟩
  · have : Lib.compareInt a.e (endC 1).e = -1 := ci_lt (by show a.e < (1 : Int); omega)
    rw [this, lex_neg]; decide
  · have : Lib.compareInt a.e (endC 1).e = -1 := ci_lt (by show a.e < (1 : Int); omega)
    rw [this, lex_neg]; decide
  · rw [show (endC 1).e = a.e from h.symm, compareInt_self, h2, h3]; decide
def aheadC (c : Cu) (v : Ver) : Bool := c.may && v.may && (if c.e = 0 then decide (cmpR c.v v < 0 ∨ (cmpR c.v v = 0 ∧ c.aft = false)) else decide (c.e < 0))
theorem cmpR_coreR {a v : Ver} (ha : a.may = true) (hv : v.may = true) : cmpR a (coreV v) = cmpR a v := by
  rw [cmpR_key ha (core_may hv), cmpR_key ha hv]; rfl
theorem ahead_pos {c : Cu} {v : Ver} (hc : c.may = true) (hv : v.may = true) : aheadC c v = decide (cmpC c (posC v) ≤ 0) := by
  rw [cmpC_good hc (posC_may hv)]
  unfold aheadC
  rw [hc, hv]
  show (true && true && _) = decide (lex (Lib.compareInt c.e 0) (lex (cmpR c.v (coreV v)) (Lib.compareInt (b01 c.aft) (b01 false))) ≤ 0)
  rw [cmpR_coreR (may_v hc) hv]
  rcases may_e hc with ⟨h, _⟩ | ⟨h, h2, h3⟩
  · rw [if_pos h, h, compareInt_self]
    unfold lex
    rw [if_pos rfl]
    rcases cmpR_range (v := c.v) (w := v) with e | e | e <;> rw [e] <;> cases c.aft <;> decide
  · rw [if_neg (by omega)]
    rcases h with h | h <;> rw [h]
    · rw [show Lib.compareInt (-1) 0 = -1 from by decide]; unfold lex; simp
    · rw [show Lib.compareInt 1 0 = 1 from by decide]; unfold lex; simp
/-- Who stands ahead of a cut that is ahead of a version is ahead of it. -/
theorem ahead_on {a b : Cu} {v : Ver} (ha : a.may = true) (hb : b.may = true) (hv : v.may = true) (h : cmpC a b ≤ 0) (h2 : aheadC b v = true) : aheadC a v = true := by
  rw [ahead_pos hb hv, decide_eq_true_eq] at h2
  rw [ahead_pos ha hv, decide_eq_true_eq]
  exact (cut_on ha hb (posC_may hv) h h2).1
theorem ahead_first {v : Ver} (hv : v.may = true) : aheadC (endC (-1)) v = true := by
  unfold aheadC; rw [first_may, hv]; rfl
theorem ahead_last {v : Ver} (_hv : v.may = true) : aheadC (endC 1) v = false := by
  unfold aheadC; rw [if_neg (by decide), show decide ((endC 1).e < 0) = false from by decide, Bool.and_false]

/-! ### The order as the code finds it -/
def lessC (a b : Cu) : Bool := if a.e = b.e then (if cmpR a.v b.v = -1 then true else if cmpR a.v b.v = 1 then false else !a.aft && b.aft) else decide (a.e < b.e)
theorem less_cmpC {a b : Cu} (ha : a.may = true) (hb : b.may = true) : cmpC a b = if lessC a b then -1 else if lessC b a then 1 else 0 := by
  rw [cmpC_good ha hb]
  have hanti := order_anti (may_v ha) (may_v hb)
  by_cases he : a.e = b.e
  · unfold lessC
    rw [if_pos he, if_pos he.symm, he, compareInt_self, hanti, lex_0]
    rcases cmpR_range (v := a.v) (w := b.v) with e | e | e <;> rw [e] <;> cases a.aft <;> cases b.aft <;> rfl
  · have l1 : lessC a b = decide (a.e < b.e) := by unfold lessC; rw [if_neg he]
    have l2 : lessC b a = decide (b.e < a.e) := by unfold lessC; rw [if_neg (fun h => he h.symm)]
    rw [l1, l2]
    rcases Int.lt_or_gt_of_ne he with h | h
    · rw [ci_lt h, lex_neg, decide_eq_true h]; rfl
    · rw [ci_gt h, lex_pos, decide_eq_true h, decide_eq_false (by omega)]; rfl
/-! ### Spans -/
structure Sp where
  lo : Cu
  hi : Cu
def Sp.may (s : Sp) : Bool := decide (cmpC s.lo s.hi = -1)
def holdsC (s : Sp) (v : Ver) : Bool := s.may && aheadC s.lo v && !aheadC s.hi v
theorem span_mays {s : Sp} (h : s.may = true) : s.lo.may = true ∧ s.hi.may = true := by
  unfold Sp.may at h
  rw [decide_eq_true_eq] at h
  constructor
  · cases e : s.lo.may with
    | true => rfl
    | false => rw [cmpC_bad (.inl e)] at h; omega
  · cases e : s.hi.may with
    | true => rfl
    | false => rw [cmpC_bad (.inr e)] at h; omega
theorem span_ref (s : Sp) : (s.lo.may && s.hi.may && decide (cmpC s.lo s.hi < 0)) = s.may := by
  cases h : s.may with
  | true =>
    obtain ⟨h1, h2⟩ := span_mays h
    unfold Sp.may at h
    rw [decide_eq_true_eq] at h
    rw [h1, h2, h]; rfl
  | false =>
    unfold Sp.may at h
    rw [decide_eq_false_iff_not] at h
    have : ¬ cmpC s.lo s.hi < 0 := by rcases cmpC_range s.lo s.hi with e | e | e <;> omega
    rw [decide_eq_false this, Bool.and_false]
theorem holds_ref (s : Sp) (v : Ver) : (s.may && v.may && aheadC s.lo v && !aheadC s.hi v) = holdsC s v := by
  unfold holdsC
  cases hv : v.may with
  | true => rw [Bool.and_true]
  | false =>
    have : aheadC s.lo v = false := by unfold aheadC; rw [hv]; simp
    rw [this]; simp
theorem beside {v w : Ver} (hv : v.may = true) (hw : w.may = true) : (Sp.mk ⟨0, coreV v, false⟩ ⟨0, coreV v, true⟩).may = true ∧ holdsC ⟨⟨0, coreV v, false⟩, ⟨0, coreV v, true⟩⟩ w = decide (cmpR v w = 0) := by
  have m1 : (Cu.mk 0 (coreV v) false).may = true := posC_may hv
  have m2 : (Cu.mk 0 (coreV v) true).may = true := by unfold Cu.may; rw [if_pos rfl, core_may hv]; rfl
  have hs : (Sp.mk ⟨0, coreV v, false⟩ ⟨0, coreV v, true⟩).may = true := by
    unfold Sp.may
    rw [cmpC_good m1 m2]
    dsimp only
    rw [order_self]; rfl
  refine ⟨hs, ?_⟩
  unfold holdsC aheadC
  rw [hs, m1, m2, hw]
  dsimp only
  rw [if_pos rfl, if_pos rfl, order_core hv hw]
  rcases cmpR_range (v := v) (w := w) with e | e | e <;> rw [e] <;> rfl
theorem between {a b : Cu} {v : Ver} (ha : a.may = true) (hb : b.may = true) (hv : v.may = true) (h1 : aheadC a v = true) (h2 : aheadC b v = false) : cmpC a b = -1 := by
  have h3 : ¬ cmpC b a ≤ 0 := fun h => by rw [ahead_on hb ha hv h h1] at h2; cases h2
  have := cut_anti (a := a) (b := b)
  rcases cmpC_range a b with e | e | e <;> omega
/-! ### The cuts that numbers name -/
def genC (l : List Int) (i : Nat) : Cu :=
  if plc (atL l (i + 5)) 9 < 2 then endC (2 * plc (atL l (i + 5)) 9 - 1) else ⟨0, coreV (genV l i), decide (plc (atL l (i + 5)) 2 = 1)⟩
end Go.Proofs.YtjabcbagggicaaaGreatDoor
end

section
/-
  Equality of structs, whole: versions and cuts. No condition.
-/
namespace Go.Proofs.YtjabcbagggicaaaGreatDoor
open Go.RowKit
set_option linter.unusedVariables false
set_option linter.unusedSimpArgs false

def EqOk (P : Program) (d : Nat) (xs ys : Array Value) : List Field → List Bool → Prop
  | [], [] => True
  | f :: fs, b :: bs => f.name ≠ "_" ∧ (∃ u v, ∀ w, (part f.type xs f.offset).run P w = .ok u w ∧ (part f.type ys f.offset).run P w = .ok v w ∧ (Op.equalIn d f.type u v).run P w = .ok b w) ∧ EqOk P d xs ys fs bs
  | _, _ => False
theorem eqF {P : Program} {d : Nat} {xs ys : Array Value} : ∀ (fs : List Field) (bs : List Bool), EqOk P d xs ys fs bs → ∀ w, (Op.eqFields d xs ys fs).run P w = .ok (bs.all id) w
  | [], [], _, w => rfl
  | f :: fs, b :: bs, h, w => by
    obtain ⟨h1, ⟨u, v, h2⟩, h3⟩ := h
    obtain ⟨e1, e2, e3⟩ := h2 w
    have ih := eqF fs bs h3 w
    unfold Op.eqFields
    rw [if_pos h1]
    simp only [Sem.run_bind, e1, e2, e3, Result.andThen_ok]
    cases b with
    | false => simp
    | true => simp [ih]
  | [], _ :: _, h, _ => h.elim
  | _ :: _, [], h, _ => h.elim
theorem eq_agg {P : Program} {d : Nat} {t : TypeId} {xs ys : Array Value} {fs : List Field} {bs : List Bool} (hu : P.underlying t = some (.struct fs.toArray)) (hp : P.stoodInHeld t = false) (h : EqOk P d xs ys fs bs) (w : World) :
    (Op.equalIn (d + 1) t (.agg xs) (.agg ys)).run P w = .ok (bs.all id) w := by
  have hf : P.fieldsOf t = fs.toArray := by unfold Program.fieldsOf; rw [hu]
  rw [run_equalIn_struct w d t xs ys (by rw [hf]; exact hu) hp, hf]
  have : fs.toArray.toList = fs := by simp
  rw [this]
  exact eqF fs bs h w
theorem run_eq_op {P : Program} {ρ : Operand → Value} {o : Oper} {t t' : TypeId} {x y : Operand} {xs ys : Array Value} {b : Bool} (ho : o.op = .binOp .eql t x y t') (hx : ρ x = .agg xs) (hy : ρ y = .agg ys) (hm : P.eqGuardType P.depth t = false)
    (h : ∀ w, (Op.equalIn 10000 t (.agg xs) (.agg ys)).run P w = .ok b w) (w : World) : (execOp ρ o).run P w = .ok (.value (.bool b)) w := by
  have h1 := run_eqGuard_agg (P := P) w .eql t x y xs ys hm
  have h2 : (binOp .eql t (.agg xs) (.agg ys)).run P w = .ok (.bool b) w := by rw [run_eql_struct, h w]; rfl
  unfold execOp
  simp only [ho, hx, hy, Sem.run_bind, h1, Result.andThen_ok, h2, Sem.run_pure]
theorem str_beq (a b : List UInt8) : ((mkS a).toList == (mkS b).toList) = decide (a = b) := by
  rw [Lib.toList_data, Lib.toList_data, mk_data, mk_data]
  by_cases h : a = b
  · subst h; simp
  · rw [decide_eq_false h]; simpa using h
theorem guard_str {P : Program} {op : BinOp} {t : TypeId} {x y : Operand} {a b : ByteArray} (w : World) : (eqGuard op t x y (.string a) (.string b)).run P w = .ok () w := by cases op <;> simp [eqGuard]
theorem run_streql {P : Program} {ρ : Operand → Value} {o : Oper} {t t' : TypeId} {x y : Operand} {a b : List UInt8} {r : Bool} (ho : o.op = .binOp .eql t x y t') (hx : ρ x = .string (mkS a)) (hy : ρ y = .string (mkS b)) (h : decide (a = b) = r) (w : World) : (execOp ρ o).run P w = .ok (.value (.bool r)) w := by
  unfold execOp
  simp only [ho, hx, hy, Sem.run_bind, guard_str, Result.andThen_ok, binOp_string_eql, Sem.run_pure, str_beq, h]
theorem binOp_string_neq' (t : TypeId) (a b : ByteArray) : binOp .neq t (.string a) (.string b) = pure (.bool (!(a.toList == b.toList))) := by simp [binOp, Op.stringOp]
theorem run_strneq {P : Program} {ρ : Operand → Value} {o : Oper} {t t' : TypeId} {x y : Operand} {a b : List UInt8} {r : Bool} (ho : o.op = .binOp .neq t x y t') (hx : ρ x = .string (mkS a)) (hy : ρ y = .string (mkS b)) (h : decide (a = b) = r) (w : World) : (execOp ρ o).run P w = .ok (.value (.bool (!r))) w := by
  unfold execOp
  simp only [ho, hx, hy, Sem.run_bind, guard_str, Result.andThen_ok, binOp_string_neq', Sem.run_pure, str_beq, h]
theorem all5 (a b c d e : Bool) : ([a, b, c, d, e].all id) = (a && (b && (c && (d && e)))) := by simp
theorem all3 (a b c : Bool) : ([a, b, c].all id) = (a && (b && c)) := by simp
theorem ver_dec (u v : Ver) : decide (u = v) = (decide (u.maj = v.maj) && (decide (u.min = v.min) && (decide (u.pat = v.pat) && (decide (u.pre = v.pre) && decide (u.build = v.build))))) := by
  obtain ⟨a, b, c, d, e⟩ := u
  obtain ⟨a', b', c', d', e'⟩ := v
  simp only [Ver.mk.injEq, Bool.decide_and]
theorem int_beq (a b : Int) : (a == b) = decide (a = b) := rfl
theorem eq_ver (u v : Ver) (d : Nat) (w : World) : (Op.equalIn (d + 1 + 1) 24 (verV u) (verV v)).run Tryz.prog w = .ok (decide (u = v)) w := by
  have h := eq_agg (P := Tryz.prog) (d := d + 1) (t := 24) (xs := (verV u).cells) (ys := (verV v).cells) (bs := [u.maj == v.maj, u.min == v.min, u.pat == v.pat, (mkS u.pre).toList == (mkS v.pre).toList, (mkS u.build).toList == (mkS v.build).toList]) Tryz.underlying24 (by kernel_rfl)
    ⟨by decide, ⟨.int .i64 u.maj, .int .i64 v.maj, fun w => ⟨by kernel_rfl, by kernel_rfl, run_equalIn_int w d _ _ _ _ _ Tryz.underlying3⟩⟩,
     by decide, ⟨.int .i64 u.min, .int .i64 v.min, fun w => ⟨by kernel_rfl, by kernel_rfl, run_equalIn_int w d _ _ _ _ _ Tryz.underlying3⟩⟩,
     by decide, ⟨.int .i64 u.pat, .int .i64 v.pat, fun w => ⟨by kernel_rfl, by kernel_rfl, run_equalIn_int w d _ _ _ _ _ Tryz.underlying3⟩⟩,
     by decide, ⟨.string (mkS u.pre), .string (mkS v.pre), fun w => ⟨by kernel_rfl, by kernel_rfl, run_equalIn_string w d _ _ _ Tryz.underlying9⟩⟩,
     by decide, ⟨.string (mkS u.build), .string (mkS v.build), fun w => ⟨by kernel_rfl, by kernel_rfl, run_equalIn_string w d _ _ _ Tryz.underlying9⟩⟩, trivial⟩ w
  rw [all5, str_beq, str_beq, int_beq, int_beq, int_beq, ← ver_dec] at h
  exact h
/-- A cut as a value. -/
def cutV (c : Cu) : Value := .agg #[.int .i64 c.e, .int .i64 c.v.maj, .int .i64 c.v.min, .int .i64 c.v.pat, .string (mkS c.v.pre), .string (mkS c.v.build), .bool c.aft]
def spanV (s : Sp) : Value := .agg #[.int .i64 s.lo.e, .int .i64 s.lo.v.maj, .int .i64 s.lo.v.min, .int .i64 s.lo.v.pat, .string (mkS s.lo.v.pre), .string (mkS s.lo.v.build), .bool s.lo.aft, .int .i64 s.hi.e, .int .i64 s.hi.v.maj, .int .i64 s.hi.v.min, .int .i64 s.hi.v.pat, .string (mkS s.hi.v.pre), .string (mkS s.hi.v.build), .bool s.hi.aft]
theorem cut_dec (u v : Cu) : decide (u = v) = (decide (u.e = v.e) && (decide (u.v = v.v) && (u.aft == v.aft))) := by
  obtain ⟨a, b, c⟩ := u
  obtain ⟨a', b', c'⟩ := v
  simp only [Cu.mk.injEq, Bool.decide_and]
  cases c <;> cases c' <;> simp
theorem eq_cut (u v : Cu) (d : Nat) (w : World) : (Op.equalIn (d + 1 + 1 + 1) 48 (cutV u) (cutV v)).run Tryz.prog w = .ok (decide (u = v)) w := by
  have h := eq_agg (P := Tryz.prog) (d := d + 1 + 1) (t := 48) (xs := (cutV u).cells) (ys := (cutV v).cells) (bs := [u.e == v.e, decide (u.v = v.v), u.aft == v.aft]) Tryz.underlying48 (by kernel_rfl)
    ⟨by decide, ⟨.int .i64 u.e, .int .i64 v.e, fun w => ⟨by kernel_rfl, by kernel_rfl, run_equalIn_int w (d + 1) _ _ _ _ _ Tryz.underlying3⟩⟩,
     by decide, ⟨verV u.v, verV v.v, fun w => ⟨by kernel_rfl, by kernel_rfl, eq_ver u.v v.v d w⟩⟩,
     by decide, ⟨.bool u.aft, .bool v.aft, fun w => ⟨by kernel_rfl, by kernel_rfl, run_equalIn_bool' w (d + 1) _ _ _ Tryz.underlying4⟩⟩, trivial⟩ w
  rw [all3, int_beq, ← cut_dec] at h
  exact h
theorem guard_ver : Tryz.prog.eqGuardType Tryz.prog.depth 24 = false := by kernel_rfl
theorem guard_cut : Tryz.prog.eqGuardType Tryz.prog.depth 48 = false := by kernel_rfl
theorem op_eq_ver {ρ : Operand → Value} {o : Oper} {t' : TypeId} {x y : Operand} {u v : Ver} {b : Bool} (ho : o.op = .binOp .eql 24 x y t') (hx : ρ x = verV u) (hy : ρ y = verV v) (hb : decide (u = v) = b) (w : World) : (execOp ρ o).run Tryz.prog w = .ok (.value (.bool b)) w :=
  run_eq_op ho hx hy guard_ver (fun w => hb ▸ eq_ver u v 9998 w) w
theorem op_eq_cut {ρ : Operand → Value} {o : Oper} {t' : TypeId} {x y : Operand} {u v : Cu} {b : Bool} (ho : o.op = .binOp .eql 48 x y t') (hx : ρ x = cutV u) (hy : ρ y = cutV v) (hb : decide (u = v) = b) (w : World) : (execOp ρ o).run Tryz.prog w = .ok (.value (.bool b)) w :=
  run_eq_op ho hx hy guard_cut (fun w => hb ▸ eq_cut u v 9997 w) w
end Go.Proofs.YtjabcbagggicaaaGreatDoor
end

section
/-
  Package version: compareTag, comparePre and Compare: what they return; nothing that was there is changed. Conditions: strings of at most a million bytes.
-/
namespace Go.Proofs.YtjabcbagggicaaaGreatDoor
open Go.RowKit

theorem ret_i64 {a b : Int} (h : a = b) : Ending.returned (.int .i64 a) = .returned (.int .i64 b) := by rw [h]
theorem below_drew {B : Nat} {a w : World} (h : Below B a w) : Below B a w.drew := h.drew
theorem empty_mk (b : List UInt8) : (mkS b).toList.isEmpty = b.isEmpty := by rw [Lib.toList_data, mk_data]

set_option maxHeartbeats 2000000 in
theorem compareTag_any (a b : List UInt8) (w : World) (ha : a.length ≤ 1000000) (hb : b.length ≤ 1000000) :
    Calls Tryz.prog 108 #[.string (mkS a), .string (mkS b)] w fun e w' => e = .returned (.int .i64 (oneP a b)) ∧ Below w.heap.size w w' := by
  have la : a.length ≤ maxLen := by unfold maxLen; omega
  have lb : b.length ≤ maxLen := by unfold maxLen; omega
  have HO : Hid (oneP a b = if numI a && numI b then Lib.compareInt (numD a) (numD b) else if numI a && !b.isEmpty then -1 else if numI b && !a.isEmpty then 1 else Lib.compareBytes a b) := rfl
  have ea := empty_mk a
  have eb := empty_mk b
  obtain ⟨na, hna⟩ : ∃ n, numD a = n := ⟨_, rfl⟩
  obtain ⟨nb, hnb⟩ : ∃ n, numD b = n := ⟨_, rfl⟩
  have cC := fun w' => Tryz.strings_Compare (mkS a) (mkS b) w'
  rw [mk_data, mk_data] at cC
  obtain ⟨x, hx⟩ : ∃ n, Lib.compareBytes a b = n := ⟨_, rfl⟩
  have cI := fun w' => Tryz.cmp_Compare_int na nb w'
  obtain ⟨y, hy⟩ : ∃ n, Lib.compareInt na nb = n := ⟨_, rfl⟩
  rw [hx] at cC HO
  rw [hna, hnb, hy] at HO
  rw [hy] at cI
  clear hx hy
  cases hi : numI a <;> cases hj : numI b <;> cases ga : a.isEmpty <;> cases gb : b.isEmpty
  all_goals
    rw [hi, hj, ga, gb] at HO
    have cA := fun w' => number_mk a _ hi w' la
    have cB := fun w' => number_mk b _ hj w' lb
    rw [hna] at cA
    rw [hnb] at cB
    rw [ga] at ea
    rw [gb] at eb
    clear hi hj ga gb
    go_enter Tryz.func108, Tryz.ntmps108
    go_wp2_with fail
    refine (cA _).mono ?_
    rintro e w1 ⟨rfl, hb1⟩
    go_wp2_with fail
    refine (cB _).mono ?_
    rintro e w2 ⟨rfl, hb2⟩
    have hbw : Below w.heap.size w w2 := hb1.trans (hb2.mono hb1.size)
    go_wp2_with (first
      | (go_at_call 64; refine (cI _).mono ?_; rintro e w3 ⟨rfl, rfl⟩)
      | (go_at_call 132; refine (cC _).mono ?_; rintro e w3 ⟨rfl, rfl⟩))
    go_ret
    exact ⟨ret_i64 (by rw [HO.out]; simp), hbw⟩

theorem lcell_get (l : List (List UInt8)) (k : Nat) (hk : k < 4) : (lcells l)[k]? = some (.string (mkS (tg l k))) := by
  match k, hk with
  | 0, _ => rfl
  | 1, _ => rfl
  | 2, _ => rfl
  | 3, _ => rfl
theorem tag_cell {w : World} {B : Nat} {l : List (List UInt8)} {T : TypeId} (h : w.heap[B]? = some (.cells (lcells l) T)) (k : Nat) (hk : k < 4) : w.cell? ⟨B, k, none⟩ = some (.string (mkS (tg l k))) := by
  rw [cell_of_row w B k _ _ _ h]; exact lcell_get l k hk
theorem seqP_on (n : Nat) (l m : List (List UInt8)) (h : oneP (tg l 0) (tg m 0) = 0) : seqP (n + 1) l m = seqP n l.tail m.tail := by
  rw [seqP, if_neg (by simpa using h)]
theorem seqP_off (n : Nat) (l m : List (List UInt8)) (h : ¬ oneP (tg l 0) (tg m 0) = 0) : seqP (n + 1) l m = oneP (tg l 0) (tg m 0) := by
  rw [seqP, if_pos h]
theorem tg_drop (l : List (List UInt8)) (k : Nat) : tg (l.drop k) 0 = tg l k := by unfold tg; simp

set_option maxHeartbeats 2000000 in
theorem cfunc_any (bx by_ : Nat) (l m : List (List UInt8)) (w : World) (hx : w.heap[bx]? = some (.cells (lcells l) 107)) (hy : w.heap[by_]? = some (.cells (lcells m) 107)) (hl : ∀ i, (tg l i).length ≤ 8) (hm : ∀ i, (tg m i).length ≤ 8) :
    Calls Tryz.prog 107 #[.slice (some ⟨bx, 0, none⟩) 4 4, .slice (some ⟨by_, 0, none⟩) 4 4, .func (.func 108) #[] #[]] w fun e w' => e = .returned (.int .i64 (seqP 4 l m)) ∧ Below w.heap.size w w' := by
  have hbx := (Array.getElem?_eq_some_iff.1 hx).1
  have hby := (Array.getElem?_eq_some_iff.1 hy).1
  have HX := Lib.hid hx
  have HY := Lib.hid hy
  have HL := Lib.hid hl
  have HM := Lib.hid hm
  clear hx hy hl hm
  go_enter Tryz.func107, Tryz.ntmps107
  go_wp2
  go_loopw [13] (fun v wr => ∃ k : Nat, k ≤ 4 ∧ v = .int .i64 k ∧ Below w.heap.size w wr ∧ Hid (seqP (4 - k) (l.drop k) (m.drop k) = seqP 4 l m)) (fun v _ => 4 - (intOf v).toNat)
  case atStart => exact ⟨0, by omega, rfl, Below.refl _ _, rfl⟩
  case round =>
    obtain ⟨k, hk, rfl, hbel, HR⟩ := hrel
    by_cases hk4 : k < 4
    · have hki : (k : Int) < 4 := by omega
      have hkn : ¬ (4 : Int) ≤ k := by omega
      have cx := tag_cell ((hbel.block bx hbx).trans HX.out) k hk4
      have cy := tag_cell ((hbel.block by_ hby).trans HY.out) k hk4
      have lx := HL.out k
      have ly := HM.out k
      obtain ⟨n, hn⟩ : ∃ n, 4 - k = n + 1 := ⟨3 - k, by omega⟩
      have cT := fun w' => compareTag_any (tg l k) (tg m k) w' (by omega) (by omega)
      obtain ⟨o, ho⟩ : ∃ o, oneP (tg l k) (tg m k) = o := ⟨_, rfl⟩
      rw [ho] at cT
      by_cases h0 : o = 0
      · have hq : seqP n (l.drop (k + 1)) (m.drop (k + 1)) = seqP 4 l m := by
          rw [← HR.out, hn, seqP_on _ _ _ (by rw [tg_drop, tg_drop, ho, h0])]; simp [List.tail_drop]
        have HQ := Lib.hid hq
        have HN := Lib.hid hn
        subst h0
        clear hq hn ho
        go_wp2_with fail
        refine (cT _).mono ?_
        rintro e w1 ⟨rfl, hb1⟩
        go_wp2
        go_roundw
        case rel => exact ⟨k + 1, by omega, by go_num, hbel.trans (hb1.mono hbel.size), by have := HN.out; rw [show 4 - (k + 1) = n from by omega]; exact HQ.out⟩
        case measure => simp [intOf]; omega
      · have hq : o = seqP 4 l m := by
          rw [← HR.out, hn, seqP_off _ _ _ (by rw [tg_drop, tg_drop, ho]; exact h0), tg_drop, tg_drop, ho]
        have HQ := Lib.hid hq
        have h0b : (o != 0) = true := by simpa using h0
        clear hq hn ho
        go_wp2_with fail
        refine (cT _).mono ?_
        rintro e w1 ⟨rfl, hb1⟩
        go_wp2
        go_ret
        exact ⟨ret_i64 HQ.out, hbel.trans (hb1.mono hbel.size)⟩
    · have hki : ¬ (k : Int) < 4 := by omega
      obtain rfl : k = 4 := by omega
      go_wp2
      go_ret
      exact ⟨ret_i64 HR.out, hbel⟩

set_option maxHeartbeats 2000000 in
theorem comparePre_go (a b : List UInt8) (w : World) (ha : a.length ≤ 1000000) (hb : b.length ≤ 1000000) (na : a ≠ []) (nb : b ≠ []) :
    Calls Tryz.prog 65 #[.string (mkS a), .string (mkS b)] w fun e w' => e = .returned (.int .i64 (seqP 4 (lst a).1 (lst b).1)) ∧ Below w.heap.size w w' := by
  have ea := empty_mk a
  have eb := empty_mk b
  rw [List.isEmpty_eq_false_iff.2 na] at ea
  rw [List.isEmpty_eq_false_iff.2 nb] at eb
  have cA := fun w' => list_lit a w' (by omega)
  have cB := fun w' => list_lit b w' (by omega)
  obtain ⟨L, hL⟩ : ∃ L, (lst a).1 = L := ⟨_, rfl⟩
  obtain ⟨M, hM⟩ : ∃ L, (lst b).1 = L := ⟨_, rfl⟩
  rw [hL] at cA
  rw [hM] at cB
  rw [hL, hM]
  have H8 := Lib.hid (tg_len a)
  have H9 := Lib.hid (tg_len b)
  rw [hL] at H8
  rw [hM] at H9
  clear hL hM na nb
  go_enter Tryz.func65, Tryz.ntmps65
  go_wp2_with fail
  refine (cA _).mono ?_
  rintro e w1 ⟨rfl, hb1⟩
  go_wp2_with fail
  refine (cB _).mono ?_
  rintro e w2 ⟨rfl, hb2⟩
  have hz1 := hb1.size
  have hz2 := hb2.size
  rw [size_box] at hz2
  have hbw : Below w.heap.size w w2 := (hb1.alloc hb1.size _).trans (hb2.mono (by rw [size_box]; omega))
  have hx := (hb2.block w1.heap.size (by rw [size_box]; omega)).trans (heap_new w1 _)
  have hy := heap_new w2 (.cells #[.string (mkS (tg M 0)), .string (mkS (tg M 1)), .string (mkS (tg M 2)), .string (mkS (tg M 3))] 107)
  have hx2 := (heap_old w2 (.cells #[.string (mkS (tg M 0)), .string (mkS (tg M 1)), .string (mkS (tg M 2)), .string (mkS (tg M 3))] 107) (by omega : w1.heap.size < w2.heap.size)).trans hx
  have cF := cfunc_any w1.heap.size w2.heap.size L M ((w2.alloc (.cells #[.string (mkS (tg M 0)), .string (mkS (tg M 1)), .string (mkS (tg M 2)), .string (mkS (tg M 3))] 107)).drew) hx2 hy H8.out H9.out
  clear hx hy hx2
  go_wp2_with fail
  go_region_with (refine cF.mono ?_; rintro e w3 ⟨rfl, hb3⟩)
  all_goals
    go_wp2
    go_ret
    exact ⟨rfl, (below_drew (hbw.alloc (by omega) _)).trans (hb3.mono (by show _ ≤ (w2.alloc _).heap.size; rw [size_box]; omega))⟩

theorem comparePre_any (a b : List UInt8) (w : World) (ha : a.length ≤ 1000000) (hb : b.length ≤ 1000000) :
    Calls Tryz.prog 65 #[.string (mkS a), .string (mkS b)] w fun e w' => e = .returned (.int .i64 (cpre a b)) ∧ Below w.heap.size w w' := by
  by_cases h1 : a = []
  · have ea := empty_mk a
    rw [List.isEmpty_iff.2 h1] at ea
    have HC : Hid (cpre a b = 1) := by show _ = _; unfold cpre; rw [if_pos h1]
    clear h1
    go_enter Tryz.func65, Tryz.ntmps65
    go_wp2
    go_ret
    exact ⟨ret_i64 HC.out.symm, Below.refl _ _⟩
  · by_cases h2 : b = []
    · have ea := empty_mk a
      rw [List.isEmpty_eq_false_iff.2 h1] at ea
      have eb := empty_mk b
      rw [List.isEmpty_iff.2 h2] at eb
      have HC : Hid (cpre a b = -1) := by show _ = _; unfold cpre; rw [if_neg h1, if_pos h2]
      clear h1 h2
      go_enter Tryz.func65, Tryz.ntmps65
      go_wp2
      go_ret
      exact ⟨ret_i64 HC.out.symm, Below.refl _ _⟩
    · have hc : cpre a b = seqP 4 (lst a).1 (lst b).1 := by unfold cpre; rw [if_neg h1, if_neg h2]
      rw [hc]
      exact comparePre_go a b w ha hb h1 h2

def or3 (x y z : Int) : Int := if x ≠ 0 then x else if y ≠ 0 then y else z
def nthI (x y z : Int) (k : Nat) : Int := if k = 0 then x else if k = 1 then y else z
set_option maxHeartbeats 2000000 in
theorem or_any (B : Nat) (x y z : Int) (w : World) (h : w.heap[B]? = some (.cells #[.int .i64 x, .int .i64 y, .int .i64 z] 3)) :
    Calls Tryz.prog 63 #[.slice (some ⟨B, 0, none⟩) 3 3] w fun e w' => e = .returned (.int .i64 (or3 x y z)) ∧ w = w' := by
  obtain ⟨c0, _⟩ := cell_row (j := 0) h (by simp)
  obtain ⟨c1, _⟩ := cell_row (j := 1) h (by simp)
  obtain ⟨c2, _⟩ := cell_row (j := 2) h (by simp)
  simp only [List.getElem_toArray, List.getElem_cons_succ, List.getElem_cons_zero] at c0 c1 c2
  have HC : Hid (∀ k, k < 3 → w.cell? ⟨B, k, none⟩ = some (.int .i64 (nthI x y z k))) := by
    intro k hk
    match k, hk with
    | 0, _ => exact c0
    | 1, _ => exact c1
    | 2, _ => exact c2
  clear c0 c1 c2 h
  go_enter Tryz.func63, Tryz.ntmps63
  go_wp2
  go_loop [8] (fun v => ∃ k : Nat, k ≤ 3 ∧ v = .int .i64 k ∧ Hid (∀ j, j < k → nthI x y z j = 0)) (fun v => 3 - (intOf v).toNat)
  case atStart => exact ⟨0, by omega, rfl, fun j hj => by omega⟩
  case round =>
    obtain ⟨k, hk, rfl, HR⟩ := hrel
    by_cases hk3 : k < 3
    · have hki : (k : Int) < 3 := by omega
      have hc := HC.out k hk3
      obtain ⟨o, ho⟩ : ∃ o, nthI x y z k = o := ⟨_, rfl⟩
      rw [ho] at hc
      by_cases h0 : o = 0
      · subst h0
        have HO := Lib.hid ho
        clear ho
        go_wp2
        go_round
        case rel => exact ⟨k + 1, by omega, by go_num, fun j hj => by
          by_cases hjk : j < k
          · exact HR.out j hjk
          · obtain rfl : j = k := by omega
            exact HO.out⟩
        case measure => simp [intOf]; omega
      · have h0b : (o != 0) = true := by simpa using h0
        have HO := Lib.hid ho
        clear ho
        go_wp2
        go_ret
        refine ⟨ret_i64 ?_, rfl⟩
        have h1 := HR.out
        have h2 := HO.out
        unfold or3
        match k, hk3 with
        | 0, _ => rw [show x = o from h2, if_pos h0]
        | 1, _ => rw [show x = 0 from h1 0 (by omega), show y = o from h2, if_neg (by simp), if_pos h0]
        | 2, _ => rw [show x = 0 from h1 0 (by omega), show y = 0 from h1 1 (by omega), show z = o from h2]; simp
    · have hki : ¬ (k : Int) < 3 := by omega
      obtain rfl : k = 3 := by omega
      go_wp2
      go_ret
      refine ⟨ret_i64 ?_, rfl⟩
      have h1 := HR.out
      unfold or3
      rw [show x = 0 from h1 0 (by omega), show y = 0 from h1 1 (by omega), show z = 0 from h1 2 (by omega)]; simp
end Go.Proofs.YtjabcbagggicaaaGreatDoor
end

section
/-
  Package version: Compare: the order that the document names; nothing that was there is changed. Conditions: strings of at most a million bytes.
-/
namespace Go.Proofs.YtjabcbagggicaaaGreatDoor
open Go.RowKit

/-- Two boxes hold two versions, and nothing that was there before has changed: so it stays behind a call that changes nothing old. -/
theorem two_keep {w w' w2 : World} {A B : Nat} {v1 v2 v3 v4 v5 u1 u2 u3 u4 u5 : Value} (hS : (w'.cell? ⟨A, 0, none⟩ = some v1 ∧ w'.cell? ⟨A, 1, none⟩ = some v2 ∧ w'.cell? ⟨A, 2, none⟩ = some v3 ∧ w'.cell? ⟨A, 3, none⟩ = some v4 ∧ w'.cell? ⟨A, 4, none⟩ = some v5) ∧ (w'.cell? ⟨B, 0, none⟩ = some u1 ∧ w'.cell? ⟨B, 1, none⟩ = some u2 ∧ w'.cell? ⟨B, 2, none⟩ = some u3 ∧ w'.cell? ⟨B, 3, none⟩ = some u4 ∧ w'.cell? ⟨B, 4, none⟩ = some u5) ∧ Below w.heap.size w w' ∧ A < w'.heap.size ∧ B < w'.heap.size) (hb : Below w'.heap.size w' w2) :
    (w2.cell? ⟨A, 0, none⟩ = some v1 ∧ w2.cell? ⟨A, 1, none⟩ = some v2 ∧ w2.cell? ⟨A, 2, none⟩ = some v3 ∧ w2.cell? ⟨A, 3, none⟩ = some v4 ∧ w2.cell? ⟨A, 4, none⟩ = some v5) ∧ (w2.cell? ⟨B, 0, none⟩ = some u1 ∧ w2.cell? ⟨B, 1, none⟩ = some u2 ∧ w2.cell? ⟨B, 2, none⟩ = some u3 ∧ w2.cell? ⟨B, 3, none⟩ = some u4 ∧ w2.cell? ⟨B, 4, none⟩ = some u5) ∧ Below w.heap.size w w2 ∧ A < w2.heap.size ∧ B < w2.heap.size := by
  obtain ⟨⟨a0, a1, a2, a3, a4⟩, ⟨b0, b1, b2, b3, b4⟩, h, hA, hB⟩ := hS
  have k : ∀ C i v, C < w'.heap.size → w'.cell? ⟨C, i, none⟩ = some v → w2.cell? ⟨C, i, none⟩ = some v := fun C i v hC e => (hb.cell (p := ⟨C, i, none⟩) hC).trans e
  exact ⟨⟨k _ _ _ hA a0, k _ _ _ hA a1, k _ _ _ hA a2, k _ _ _ hA a3, k _ _ _ hA a4⟩, ⟨k _ _ _ hB b0, k _ _ _ hB b1, k _ _ _ hB b2, k _ _ _ hB b3, k _ _ _ hB b4⟩, h.trans (hb.mono h.size), Nat.lt_of_lt_of_le hA hb.size, Nat.lt_of_lt_of_le hB hb.size⟩
theorem heap_new_drew (w : World) (o : Obj) : (w.alloc o).drew.heap[w.heap.size]? = some o := heap_new w o
theorem two_start (w : World) (v1 v2 v3 v4 v5 u1 u2 u3 u4 u5 : Value) (T : TypeId) :
    (((w.alloc (.cells #[v1, v2, v3, v4, v5] T)).alloc (.cells #[u1, u2, u3, u4, u5] T)).drew.cell? ⟨w.heap.size, 0, none⟩ = some v1 ∧ ((w.alloc (.cells #[v1, v2, v3, v4, v5] T)).alloc (.cells #[u1, u2, u3, u4, u5] T)).drew.cell? ⟨w.heap.size, 1, none⟩ = some v2 ∧ ((w.alloc (.cells #[v1, v2, v3, v4, v5] T)).alloc (.cells #[u1, u2, u3, u4, u5] T)).drew.cell? ⟨w.heap.size, 2, none⟩ = some v3 ∧ ((w.alloc (.cells #[v1, v2, v3, v4, v5] T)).alloc (.cells #[u1, u2, u3, u4, u5] T)).drew.cell? ⟨w.heap.size, 3, none⟩ = some v4 ∧ ((w.alloc (.cells #[v1, v2, v3, v4, v5] T)).alloc (.cells #[u1, u2, u3, u4, u5] T)).drew.cell? ⟨w.heap.size, 4, none⟩ = some v5) ∧ (((w.alloc (.cells #[v1, v2, v3, v4, v5] T)).alloc (.cells #[u1, u2, u3, u4, u5] T)).drew.cell? ⟨(w.heap.size + 1), 0, none⟩ = some u1 ∧ ((w.alloc (.cells #[v1, v2, v3, v4, v5] T)).alloc (.cells #[u1, u2, u3, u4, u5] T)).drew.cell? ⟨(w.heap.size + 1), 1, none⟩ = some u2 ∧ ((w.alloc (.cells #[v1, v2, v3, v4, v5] T)).alloc (.cells #[u1, u2, u3, u4, u5] T)).drew.cell? ⟨(w.heap.size + 1), 2, none⟩ = some u3 ∧ ((w.alloc (.cells #[v1, v2, v3, v4, v5] T)).alloc (.cells #[u1, u2, u3, u4, u5] T)).drew.cell? ⟨(w.heap.size + 1), 3, none⟩ = some u4 ∧ ((w.alloc (.cells #[v1, v2, v3, v4, v5] T)).alloc (.cells #[u1, u2, u3, u4, u5] T)).drew.cell? ⟨(w.heap.size + 1), 4, none⟩ = some u5) ∧ Below w.heap.size w ((w.alloc (.cells #[v1, v2, v3, v4, v5] T)).alloc (.cells #[u1, u2, u3, u4, u5] T)).drew ∧ w.heap.size < ((w.alloc (.cells #[v1, v2, v3, v4, v5] T)).alloc (.cells #[u1, u2, u3, u4, u5] T)).drew.heap.size ∧ (w.heap.size + 1) < ((w.alloc (.cells #[v1, v2, v3, v4, v5] T)).alloc (.cells #[u1, u2, u3, u4, u5] T)).drew.heap.size := by
  have h0 : ((w.alloc (.cells #[v1, v2, v3, v4, v5] T)).alloc (.cells #[u1, u2, u3, u4, u5] T)).drew.heap[w.heap.size]? = some (.cells #[v1, v2, v3, v4, v5] T) := (heap_old _ _ (by rw [size_box]; omega)).trans (heap_new w _)
  have h1 : ((w.alloc (.cells #[v1, v2, v3, v4, v5] T)).alloc (.cells #[u1, u2, u3, u4, u5] T)).drew.heap[w.heap.size + 1]? = some (.cells #[u1, u2, u3, u4, u5] T) := heap_at _ _ _ (by rw [size_box])
  have k0 : ∀ i v, (#[v1, v2, v3, v4, v5] : Array Value)[i]? = some v → ((w.alloc (.cells #[v1, v2, v3, v4, v5] T)).alloc (.cells #[u1, u2, u3, u4, u5] T)).drew.cell? ⟨w.heap.size, i, none⟩ = some v := fun i v e => (cell_of_row _ _ i _ _ _ h0).trans e
  have k1 : ∀ i v, (#[u1, u2, u3, u4, u5] : Array Value)[i]? = some v → ((w.alloc (.cells #[v1, v2, v3, v4, v5] T)).alloc (.cells #[u1, u2, u3, u4, u5] T)).drew.cell? ⟨w.heap.size + 1, i, none⟩ = some v := fun i v e => (cell_of_row _ _ i _ _ _ h1).trans e
  have hs : ((w.alloc (.cells #[v1, v2, v3, v4, v5] T)).alloc (.cells #[u1, u2, u3, u4, u5] T)).drew.heap.size = w.heap.size + 2 := by show ((w.alloc _).alloc _).heap.size = _; rw [size_box, size_box]
  exact ⟨⟨k0 0 _ rfl, k0 1 _ rfl, k0 2 _ rfl, k0 3 _ rfl, k0 4 _ rfl⟩, ⟨k1 0 _ rfl, k1 1 _ rfl, k1 2 _ rfl, k1 3 _ rfl, k1 4 _ rfl⟩, below_drew (((Below.refl _ _).alloc (Nat.le_refl _) _).alloc (by rw [size_box]; omega) _), by omega, by omega⟩

set_option maxHeartbeats 4000000 in
set_option maxRecDepth 100000 in
theorem compare_same (a1 a2 a3 : Int) (p q q' : List UInt8) (w : World) (h1 : p.length ≤ 1000000) (h2 : q.length ≤ 1000000) (h4 : q'.length ≤ 1000000) (hm : (Ver.mk a1 a2 a3 p q).may = true) (hn : (Ver.mk a1 a2 a3 p q').may = true) :
    Calls Tryz.prog 28 #[verV ⟨a1, a2, a3, p, q⟩, verV ⟨a1, a2, a3, p, q'⟩] w fun e w' => e = .returned (.int .i64 0) ∧ Below w.heap.size w w' := by
  have cM := fun w' => may_any (Ver.mk a1 a2 a3 p q) w' (by show p.length < _; omega) (by show q.length < _; omega)
  have cN := fun w' => may_any (Ver.mk a1 a2 a3 p q') w' (by show p.length < _; omega) (by show q'.length < _; omega)
  have cO := fun w' => core_any (Ver.mk a1 a2 a3 p q) w' (by show p.length ≤ _; omega)
  have cP := fun w' => core_any (Ver.mk a1 a2 a3 p q') w' (by show p.length ≤ _; omega)
  rw [hm] at cM
  rw [hn] at cN
  unfold verV at cM cN cO cP ⊢
  dsimp only at cM cN cO cP ⊢
  clear hm hn
  go_enter Tryz.func28, Tryz.ntmps28
  go_wp2_with fail
  go_region_held3 (fun w' => (w'.cell? ⟨w.heap.size, 0, none⟩ = some (.int .i64 a1) ∧ w'.cell? ⟨w.heap.size, 1, none⟩ = some (.int .i64 a2) ∧ w'.cell? ⟨w.heap.size, 2, none⟩ = some (.int .i64 a3) ∧ w'.cell? ⟨w.heap.size, 3, none⟩ = some (.string (mkS p)) ∧ w'.cell? ⟨w.heap.size, 4, none⟩ = some (.string (mkS q))) ∧ (w'.cell? ⟨(w.heap.size + 1), 0, none⟩ = some (.int .i64 a1) ∧ w'.cell? ⟨(w.heap.size + 1), 1, none⟩ = some (.int .i64 a2) ∧ w'.cell? ⟨(w.heap.size + 1), 2, none⟩ = some (.int .i64 a3) ∧ w'.cell? ⟨(w.heap.size + 1), 3, none⟩ = some (.string (mkS p)) ∧ w'.cell? ⟨(w.heap.size + 1), 4, none⟩ = some (.string (mkS q'))) ∧ Below w.heap.size w w' ∧ w.heap.size < w'.heap.size ∧ (w.heap.size + 1) < w'.heap.size)
    ((first | exact two_start w _ _ _ _ _ _ _ _ _ _ _ | exact two_keep ‹_› ‹_›))
    (first
      | (go_at_call 47; with_reducible refine (cM _).mono ?_; rintro e w1 ⟨rfl, hb1⟩)
      | (go_at_call 47; with_reducible refine (cN _).mono ?_; rintro e w2 ⟨rfl, hb2⟩)
      | (go_at_call 62; with_reducible refine (cO _).mono ?_; rintro e w3 ⟨rfl, hb3⟩)
      | (go_at_call 62; with_reducible refine (cP _).mono ?_; rintro e w4 ⟨rfl, hb4⟩))
  all_goals
    go_wp2
    go_ret
    rename_i hH
    exact ⟨rfl, hH.2.2.1⟩

set_option maxHeartbeats 8000000 in
set_option maxRecDepth 100000 in
theorem compare_diff (a1 a2 a3 b1 b2 b3 : Int) (p q p' q' : List UInt8) (w : World) (h1 : p.length ≤ 1000000) (h2 : q.length ≤ 1000000) (h3 : p'.length ≤ 1000000) (h4 : q'.length ≤ 1000000) (hm : (Ver.mk a1 a2 a3 p q).may = true) (hn : (Ver.mk b1 b2 b3 p' q').may = true)
    (hd : (a1 == b1) = false ∨ ((a1 == b1) = true ∧ (a2 == b2) = false) ∨ ((a1 == b1) = true ∧ (a2 == b2) = true ∧ (a3 == b3) = false) ∨ ((a1 == b1) = true ∧ (a2 == b2) = true ∧ (a3 == b3) = true ∧ ((mkS p).toList == (mkS p').toList) = false))
    (n : Int) (hn2 : or3 (Lib.compareInt a1 b1) (Lib.compareInt a2 b2) (Lib.compareInt a3 b3) = n) :
    Calls Tryz.prog 28 #[verV ⟨a1, a2, a3, p, q⟩, verV ⟨b1, b2, b3, p', q'⟩] w fun e w' => e = .returned (.int .i64 (if n ≠ 0 then n else cpre p p')) ∧ Below w.heap.size w w' := by
  have cM := fun w' => may_any (Ver.mk a1 a2 a3 p q) w' (by show p.length < _; omega) (by show q.length < _; omega)
  have cN := fun w' => may_any (Ver.mk b1 b2 b3 p' q') w' (by show p'.length < _; omega) (by show q'.length < _; omega)
  have cO := fun w' => core_any (Ver.mk a1 a2 a3 p q) w' (by show p.length ≤ _; omega)
  have cP := fun w' => core_any (Ver.mk b1 b2 b3 p' q') w' (by show p'.length ≤ _; omega)
  have i1 := fun w' => Tryz.cmp_Compare_int a1 b1 w'
  have i2 := fun w' => Tryz.cmp_Compare_int a2 b2 w'
  have i3 := fun w' => Tryz.cmp_Compare_int a3 b3 w'
  obtain ⟨o1, ho1⟩ : ∃ o, Lib.compareInt a1 b1 = o := ⟨_, rfl⟩
  obtain ⟨o2, ho2⟩ : ∃ o, Lib.compareInt a2 b2 = o := ⟨_, rfl⟩
  obtain ⟨o3, ho3⟩ : ∃ o, Lib.compareInt a3 b3 = o := ⟨_, rfl⟩
  rw [ho1] at i1 hn2
  rw [ho2] at i2 hn2
  rw [ho3] at i3 hn2
  have cR := fun B w' h => or_any B o1 o2 o3 w' h
  rw [hn2] at cR
  rw [hm] at cM
  rw [hn] at cN
  unfold verV at cM cN cO cP ⊢
  dsimp only at cM cN cO cP ⊢
  clear hm hn ho1 ho2 ho3 hn2
  have cQ := fun w' => comparePre_any p p' w' h1 h3
  obtain ⟨x, hx⟩ : ∃ x, cpre p p' = x := ⟨_, rfl⟩
  rw [hx] at cQ ⊢
  clear hx
  rcases hd with d1 | ⟨d1, d2⟩ | ⟨d1, d2, d3⟩ | ⟨d1, d2, d3, d4⟩
  all_goals
    go_enter Tryz.func28, Tryz.ntmps28
    go_wp2_with fail
    go_region_held3 (fun w' => (w'.cell? ⟨w.heap.size, 0, none⟩ = some (.int .i64 a1) ∧ w'.cell? ⟨w.heap.size, 1, none⟩ = some (.int .i64 a2) ∧ w'.cell? ⟨w.heap.size, 2, none⟩ = some (.int .i64 a3) ∧ w'.cell? ⟨w.heap.size, 3, none⟩ = some (.string (mkS p)) ∧ w'.cell? ⟨w.heap.size, 4, none⟩ = some (.string (mkS q))) ∧ (w'.cell? ⟨(w.heap.size + 1), 0, none⟩ = some (.int .i64 b1) ∧ w'.cell? ⟨(w.heap.size + 1), 1, none⟩ = some (.int .i64 b2) ∧ w'.cell? ⟨(w.heap.size + 1), 2, none⟩ = some (.int .i64 b3) ∧ w'.cell? ⟨(w.heap.size + 1), 3, none⟩ = some (.string (mkS p')) ∧ w'.cell? ⟨(w.heap.size + 1), 4, none⟩ = some (.string (mkS q'))) ∧ Below w.heap.size w w' ∧ w.heap.size < w'.heap.size ∧ (w.heap.size + 1) < w'.heap.size)
      ((first | exact two_start w _ _ _ _ _ _ _ _ _ _ _ | exact two_keep ‹_› ‹_›))
      (first
        | (go_at_call 47; with_reducible refine (cM _).mono ?_; rintro e w1 ⟨rfl, hb1⟩)
        | (go_at_call 47; with_reducible refine (cN _).mono ?_; rintro e w2 ⟨rfl, hb2⟩)
        | (go_at_call 62; with_reducible refine (cO _).mono ?_; rintro e w3 ⟨rfl, hb3⟩)
        | (go_at_call 62; with_reducible refine (cP _).mono ?_; rintro e w4 ⟨rfl, hb4⟩))
    all_goals
      rename_i hH
      go_wp2_with fail
      go_region_held3 (fun w' => (w'.cell? ⟨w.heap.size, 0, none⟩ = some (.int .i64 a1) ∧ w'.cell? ⟨w.heap.size, 1, none⟩ = some (.int .i64 a2) ∧ w'.cell? ⟨w.heap.size, 2, none⟩ = some (.int .i64 a3) ∧ w'.cell? ⟨w.heap.size, 3, none⟩ = some (.string (mkS p)) ∧ w'.cell? ⟨w.heap.size, 4, none⟩ = some (.string (mkS q))) ∧ (w'.cell? ⟨(w.heap.size + 1), 0, none⟩ = some (.int .i64 b1) ∧ w'.cell? ⟨(w.heap.size + 1), 1, none⟩ = some (.int .i64 b2) ∧ w'.cell? ⟨(w.heap.size + 1), 2, none⟩ = some (.int .i64 b3) ∧ w'.cell? ⟨(w.heap.size + 1), 3, none⟩ = some (.string (mkS p')) ∧ w'.cell? ⟨(w.heap.size + 1), 4, none⟩ = some (.string (mkS q'))) ∧ Below w.heap.size w w' ∧ w.heap.size < w'.heap.size ∧ (w.heap.size + 1) < w'.heap.size)
        ((first | exact hH | exact two_keep hH (below_drew (Below.refl _ _)) | assumption | exact two_keep ‹_› ((Below.refl _ _).alloc (Nat.le_refl _) _)))
        (first
          | (go_at_call 64; with_reducible refine (i1 _).mono ?_; rintro e w5 ⟨rfl, rfl⟩)
          | (go_at_call 64; with_reducible refine (i2 _).mono ?_; rintro e w6 ⟨rfl, rfl⟩)
          | (go_at_call 64; with_reducible refine (i3 _).mono ?_; rintro e w7 ⟨rfl, rfl⟩)
          | (go_at_call 63; refine (cR _ _ (heap_new_drew _ _)).mono ?_; rintro e w8 ⟨rfl, rfl⟩))
      all_goals
        rename_i hK
        obtain ⟨⟨_, _, _, k4, _⟩, ⟨_, _, _, m4, _⟩, hbk, _, _⟩ := hK
        by_cases h0 : n = 0
        · subst h0
          go_wp2_with (go_at_call 65; refine (cQ _).mono ?_; rintro e w9 ⟨rfl, hb9⟩)
          go_ret
          exact ⟨rfl, hbk.trans (hb9.mono hbk.size)⟩
        · have h0b : (n == 0) = false := by simpa using h0
          go_wp2
          go_ret
          exact ⟨rfl, hbk⟩

set_option maxHeartbeats 8000000 in
set_option maxRecDepth 100000 in
theorem compare_bad (v u : Ver) (w : World) (h1 : v.pre.length ≤ 1000000) (h2 : v.build.length ≤ 1000000) (h3 : u.pre.length ≤ 1000000) (h4 : u.build.length ≤ 1000000) (hm : v.may = false ∨ (v.may = true ∧ u.may = false)) :
    Calls Tryz.prog 28 #[verV v, verV u] w fun e w' => e = .returned (.int .i64 0) ∧ Below w.heap.size w w' := by
  have cM := fun w' => may_any v w' (by omega) (by omega)
  have cN := fun w' => may_any u w' (by omega) (by omega)
  obtain ⟨a1, a2, a3, p, q⟩ := v
  obtain ⟨b1, b2, b3, p', q'⟩ := u
  unfold verV at cM cN ⊢
  dsimp only at cM cN ⊢
  rcases hm with hm | ⟨hm, hn⟩
  · rw [hm] at cM
    clear hm
    go_enter Tryz.func28, Tryz.ntmps28
    go_wp2_with fail
    go_region_with (go_at_call 47; with_reducible refine (cM _).mono ?_; rintro e w1 ⟨rfl, hb1⟩)
    all_goals
      go_wp2
      go_ret
      exact ⟨rfl, (two_keep (two_start w _ _ _ _ _ _ _ _ _ _ _) hb1).2.2.1⟩
  · rw [hm] at cM
    rw [hn] at cN
    clear hm hn
    go_enter Tryz.func28, Tryz.ntmps28
    go_wp2_with fail
    go_region_with (first
        | (go_at_call 47; with_reducible refine (cM _).mono ?_; rintro e w1 ⟨rfl, hb1⟩; obtain ⟨⟨k1, k2, k3, k4, k5⟩, ⟨m1, m2, m3, m4, m5⟩, hbk, _, _⟩ := two_keep (two_start w _ _ _ _ _ _ _ _ _ _ _) hb1)
        | (go_at_call 47; with_reducible refine (cN _).mono ?_; rintro e w2 ⟨rfl, hb2⟩))
    all_goals
      go_wp2
      go_ret
      exact ⟨rfl, hbk.trans (hb2.mono hbk.size)⟩

theorem or3_cmpN (v u : Ver) : or3 (Lib.compareInt v.maj u.maj) (Lib.compareInt v.min u.min) (Lib.compareInt v.pat u.pat) = cmpN v u := rfl
/-- Compare, for all versions. -/
theorem vcompare_any (v u : Ver) (w : World) (h1 : v.pre.length ≤ 1000000) (h2 : v.build.length ≤ 1000000) (h3 : u.pre.length ≤ 1000000) (h4 : u.build.length ≤ 1000000) :
    Calls Tryz.prog 28 #[verV v, verV u] w fun e w' => e = .returned (.int .i64 (cmpR v u)) ∧ Below w.heap.size w w' := by
  cases hm : v.may with
  | false => rw [cmpR_bad (.inl hm)]; exact compare_bad v u w h1 h2 h3 h4 (.inl hm)
  | true =>
    cases hn : u.may with
    | false => rw [cmpR_bad (.inr hn)]; exact compare_bad v u w h1 h2 h3 h4 (.inr ⟨hm, hn⟩)
    | true =>
      by_cases hc : coreV v = coreV u
      · rw [cmpR_core hc]
        obtain ⟨a1, a2, a3, p, q⟩ := v
        obtain ⟨b1, b2, b3, p', q'⟩ := u
        unfold coreV at hc
        simp only [Ver.mk.injEq, and_true] at hc
        obtain ⟨rfl, rfl, rfl, rfl⟩ := hc
        exact compare_same a1 a2 a3 p q q' w h1 h2 h4 hm hn
      · rw [cmpR_go hm hn hc]
        obtain ⟨a1, a2, a3, p, q⟩ := v
        obtain ⟨b1, b2, b3, p', q'⟩ := u
        refine compare_diff a1 a2 a3 b1 b2 b3 p q p' q' w h1 h2 h3 h4 hm hn ?_ _ (or3_cmpN ⟨a1, a2, a3, p, q⟩ ⟨b1, b2, b3, p', q'⟩)
        by_cases g1 : a1 = b1
        · by_cases g2 : a2 = b2
          · by_cases g3 : a3 = b3
            · have g4 : p ≠ p' := fun e => hc (by unfold coreV; rw [g1, g2, g3, e])
              exact .inr (.inr (.inr ⟨by simpa using g1, by simpa using g2, by simpa using g3, mkS_ne g4⟩))
            · exact .inr (.inr (.inl ⟨by simpa using g1, by simpa using g2, by simpa using g3⟩))
          · exact .inr (.inl ⟨by simpa using g1, by simpa using g2⟩)
        · exact .inl (by simpa using g1)
end Go.Proofs.YtjabcbagggicaaaGreatDoor
end

section
/-
  The document's own answer for chapter 2 (linchpinref2): Numeric, tag, tags, num and May: the same plain functions as package version's. Conditions: strings of at most a million bytes.
-/
namespace Go.Proofs.YtjabcbagggicaaaGreatDoor
open Go.RowKit

set_option maxHeartbeats 1000000 in
theorem rnumeric_any (s : ByteArray) (w : World) (hs : s.size ≤ maxLen) :
    Calls Tryz.prog 121 #[.string s] w fun e w' => e = .returned (.bool (numer s.data.toList)) ∧ w = w' := by
  unfold maxLen at hs
  go_enter Tryz.func121, Tryz.ntmps121
  go_wp2
  go_loop [3] (fun i => ∃ k : Nat, k ≤ s.size ∧ i = .int .i64 k ∧ Hid (allDig (s.data.toList.drop k) = allDig s.data.toList)) (fun i => s.size - (intOf i).toNat)
  case atStart => exact ⟨0, Nat.zero_le _, rfl, rfl⟩
  case round =>
    obtain ⟨k, hk, rfl, HR⟩ := hrel
    by_cases hp : k < s.size
    · have HD := Lib.hid (drop_cons s k hp)
      by_cases h1 : ((s[k]'hp).toNat : Int) < 48
      · go_wp2
        go_ret
        exact ⟨ret_bool (by unfold numer; rw [← HR.out, HD.out, allDig_cons_bad _ _ (by unfold digB; simp; omega), Bool.and_false]), rfl⟩
      · by_cases h2 : (57 : Int) < (s[k]'hp).toNat
        · go_wp2
          go_ret
          exact ⟨ret_bool (by unfold numer; rw [← HR.out, HD.out, allDig_cons_bad _ _ (by unfold digB; simp; omega), Bool.and_false]), rfl⟩
        · go_wp2
          go_round
          case rel => exact ⟨k + 1, by omega, by go_num, by rw [← HR.out, HD.out, allDig_cons_ok _ _ (by unfold digB; simp; omega)]; rfl⟩
          case measure => simp [intOf]; omega
    · have HD := Lib.hid (drop_end s k hp)
      have hl : s.data.toList.length = s.size := len_data s
      by_cases h0 : s.size = 0
      · have he : s.data.toList = [] := List.eq_nil_of_length_eq_zero (by omega)
        have h0i : ¬ (0 : Int) < s.size := by omega
        have HE := Lib.hid he
        clear he h0 hl
        go_wp2
        go_ret
        exact ⟨ret_bool (by unfold numer; rw [HE.out]; simp; exact ByteArray.ext (Array.toList_inj.1 HE.out)), rfl⟩
      · have he : s.data.toList.isEmpty = false := by
          cases h : s.data.toList with
          | nil => rw [h] at hl; simp at hl; omega
          | cons _ _ => rfl
        have h0i : (0 : Int) < s.size := by omega
        have HE := Lib.hid he
        clear he h0 hl
        go_wp2
        go_ret
        exact ⟨ret_bool (by unfold numer; rw [HE.out, ← HR.out, HD.out]; simp [allDig]; omega), rfl⟩

set_option maxHeartbeats 2000000 in
theorem rtag_any (s : ByteArray) (w : World) (hs : s.size ≤ maxLen) :
    Calls Tryz.prog 120 #[.string s] w fun e w' => e = .returned (.bool (tagOk s.data.toList)) ∧ w = w' := by
  unfold maxLen at hs
  have hl : s.data.toList.length = s.size := len_data s
  by_cases h1 : s.size < 1
  · have HT : Hid (tagOk s.data.toList = false) := tagOk_short (List.eq_nil_of_length_eq_zero (by omega))
    clear hl
    go_enter Tryz.func120, Tryz.ntmps120
    go_wp2
    go_ret
    exact ⟨ret_bool HT.out.symm, rfl⟩
  · by_cases h8 : 8 < s.size
    · have HT : Hid (tagOk s.data.toList = false) := tagOk_long (by omega)
      clear hl
      go_enter Tryz.func120, Tryz.ntmps120
      go_wp2
      go_ret
      exact ⟨ret_bool HT.out.symm, rfl⟩
    · have HT : Hid (tagOk s.data.toList = s.data.toList.all tagC) := tagOk_mid (by intro e; rw [e] at hl; simp at hl; omega) (by omega)
      clear hl
      go_enter Tryz.func120, Tryz.ntmps120
      go_wp2
      go_loop [3] (fun i => ∃ k : Nat, k ≤ s.size ∧ i = .int .i64 k ∧ Hid ((s.data.toList.drop k).all tagC = s.data.toList.all tagC)) (fun i => s.size - (intOf i).toNat)
      case atStart => exact ⟨0, Nat.zero_le _, rfl, rfl⟩
      case round =>
        obtain ⟨k, hk, rfl, HR⟩ := hrel
        by_cases hp : k < s.size
        · have HD := Lib.hid (drop_cons s k hp)
          by_cases hL : (97 : Int) ≤ (s[k]'hp).toNat ∧ ((s[k]'hp).toNat : Int) ≤ 122
          · obtain ⟨hla, hlb⟩ := hL
            go_wp2
            go_round
            case rel => exact ⟨k + 1, by omega, by go_num, by rw [← HR.out, HD.out, all_ok _ _ (tagC_let _ (by unfold letB; simp; omega))]; rfl⟩
            case measure => simp [intOf]; omega
          · have hL2 : ((s[k]'hp).toNat : Int) < 97 ∨ (122 : Int) < (s[k]'hp).toNat := by omega
            by_cases hG : (48 : Int) ≤ (s[k]'hp).toNat ∧ ((s[k]'hp).toNat : Int) ≤ 57
            · obtain ⟨hga, hgb⟩ := hG
              have hL3 : ((s[k]'hp).toNat : Int) < 97 := by omega
              clear hL hL2
              go_wp2
              go_round
              case rel => exact ⟨k + 1, by omega, by go_num, by rw [← HR.out, HD.out, all_ok _ _ (tagC_dig _ (by unfold digB; simp; omega))]; rfl⟩
              case measure => simp [intOf]; omega
            · have hG2 : ((s[k]'hp).toNat : Int) < 48 ∨ (57 : Int) < (s[k]'hp).toNat := by omega
              by_cases h3 : ((s[k]'hp).toNat : Int) = 45
              · have h3b : (((s[k]'hp).toNat : Int) != 45) = false := by simp [h3]
                have hL3 : ((s[k]'hp).toNat : Int) < 97 := by omega
                have hG3 : ((s[k]'hp).toNat : Int) < 48 := by omega
                have H3 := Lib.hid h3
                clear h3 hL hL2 hG hG2
                go_wp2
                go_round
                case rel => exact ⟨k + 1, by omega, by go_num, by rw [← HR.out, HD.out, all_ok _ _ (tagC_dash _ H3.out)]; rfl⟩
                case measure => simp [intOf]; omega
              · have h3b : (((s[k]'hp).toNat : Int) != 45) = true := by simpa using h3
                have HB : Hid (s.data.toList.all tagC = false) := by
                  show _ = _
                  rw [← HR.out, HD.out, all_bad _ _ (tagC_bad _ (by unfold digB; simp; omega) (by unfold letB; simp; omega) h3)]
                clear hL hG h3
                rcases hL2 with hL2 | hL2 <;> rcases hG2 with hG2 | hG2
                · go_wp2
                  go_ret
                  exact ⟨ret_bool (by rw [HT.out, HB.out]), rfl⟩
                · have h9 : (48 : Int) ≤ (s[k]'hp).toNat := by omega
                  go_wp2
                  go_ret
                  exact ⟨ret_bool (by rw [HT.out, HB.out]), rfl⟩
                · exfalso; omega
                · have h9 : (97 : Int) ≤ (s[k]'hp).toNat := by omega
                  have h7 : (48 : Int) ≤ (s[k]'hp).toNat := by omega
                  go_wp2
                  go_ret
                  exact ⟨ret_bool (by rw [HT.out, HB.out]), rfl⟩
        · have HD := Lib.hid (drop_end s k hp)
          go_wp2
          go_ret
          exact ⟨ret_bool (by rw [HT.out, ← HR.out, HD.out]; rfl), rfl⟩

theorem rnum_any (n : Int) (w : World) :
    Calls Tryz.prog 83 #[.int .i64 n] w fun e w' => e = .returned (.bool (numOkI n)) ∧ w = w' := by
  unfold numOkI
  go_enter Tryz.func83, Tryz.ntmps83
  go_wp2
  all_goals go_ret
  all_goals exact ⟨ret_bool (by simp; try omega), rfl⟩

theorem rnumber_mk (t : List UInt8) (w : World) (ht : t.length ≤ maxLen) :
    Calls Tryz.prog 75 #[.string (mkS t)] w fun e w' => e = .returned (.tuple #[.int .i64 (numD t), .bool (numI t)]) ∧ w = w' := by
  have := rnumber_any (mkS t) w (by rw [mkS_sz]; exact ht)
  rw [numV_mk, numOk_mk] at this
  exact this
theorem rnumeric_mk (t : List UInt8) (w : World) (ht : t.length ≤ maxLen) :
    Calls Tryz.prog 121 #[.string (mkS t)] w fun e w' => e = .returned (.bool (numer t)) ∧ w = w' := by
  have := rnumeric_any (mkS t) w (by rw [mkS_sz]; exact ht)
  rw [mk_data] at this
  exact this
theorem rtag_mk (t : List UInt8) (w : World) (ht : t.length ≤ maxLen) :
    Calls Tryz.prog 120 #[.string (mkS t)] w fun e w' => e = .returned (.bool (tagOk t)) ∧ w = w' := by
  have := rtag_any (mkS t) w (by rw [mkS_sz]; exact ht)
  rw [mk_data] at this
  exact this
theorem rsplit_mk (s : List UInt8) (w : World) (hs : s.length ≤ 1000000) :
    Calls Tryz.prog 41 #[.string (mkS s), .int .u8 46] w fun e w' => ∃ v, e = .returned v ∧ w'.ownsRow w.heap.size 9 1 v (pcs s).length (strV (pcs s)) ∧ Below w.heap.size w w' := by
  have := rsplit_any (mkS s) 46 w (by rw [mkS_sz]; exact hs)
  unfold piecesOf at this
  rw [mk_data] at this
  exact this
theorem pcs_mem_len (s : List UInt8) : ∀ x ∈ pcs s, x.length ≤ s.length := by
  intro x hx
  have := split_le 46 s [] x hx
  simpa using this
theorem pcs_len (s : List UInt8) : (pcs s).length ≤ s.length + 1 := by
  unfold pcs; rw [split_len]
  have := List.length_filter_le (fun x : UInt8 => x == 46) s
  omega

/-- tags: at the flag pre. -/
def tagsB (s : List UInt8) (b : Bool) : Bool := s.isEmpty || (decide ((pcs s).length ≤ 4) && (pcs s).all fun t => tagOk t && !(b && numer t && !numI t))
theorem all_both {α : Type} (p q r : α → Bool) (h : ∀ x, r x = (p x && q x)) (l : List α) : l.all r = (l.all p && l.all q) := by
  induction l with
  | nil => rfl
  | cons a l ih =>
    rw [List.all_cons, List.all_cons, List.all_cons, ih, h]
    cases p a <;> cases q a <;> simp
theorem tagsB_pre (s : List UInt8) : tagsB s true = preOk s := by
  unfold tagsB preOk listOk preT
  cases s.isEmpty
  · simp only [Bool.false_or, Bool.true_and, Bool.and_assoc]
    congr 1
    refine all_both _ _ _ (fun t => ?_) _
    cases tagOk t <;> cases numer t <;> cases numI t <;> rfl
  · rfl
theorem tagsB_build (s : List UInt8) : tagsB s false = listOk s := by
  unfold tagsB listOk
  simp

def tagF (b : Bool) (t : List UInt8) : Bool := tagOk t && !(b && numer t && !numI t)
theorem tagsB_eq (s : List UInt8) (b : Bool) : tagsB s b = (s.isEmpty || (decide ((pcs s).length ≤ 4) && (pcs s).all (tagF b))) := rfl
theorem all_cut {l : List (List UInt8)} {p : List UInt8 → Bool} (k : Nat) (h : k < l.length) (hb : p l[k] = false) : l.all p = false := by
  rw [Bool.eq_false_iff]; intro e
  have := List.all_eq_true.1 e l[k] (List.getElem_mem h)
  rw [this] at hb; cases hb
theorem all_done {l : List (List UInt8)} {p : List UInt8 → Bool} (h : ∀ j (hj : j < l.length), p l[j] = true) : l.all p = true := by
  rw [List.all_eq_true]
  intro x hx
  obtain ⟨j, hj, rfl⟩ := List.getElem_of_mem hx
  exact h j hj

set_option maxHeartbeats 4000000 in
set_option maxRecDepth 100000 in
theorem rtags_any (s : List UInt8) (b : Bool) (w : World) (hs : s.length ≤ 1000000) :
    Calls Tryz.prog 84 #[.string (mkS s), .bool b] w fun e w' => e = .returned (.bool (tagsB s b)) ∧ Below w.heap.size w w' := by
  have es := (show (mkS s).toList.isEmpty = s.isEmpty by rw [Lib.toList_data, mk_data])
  have HT := Lib.hid (tagsB_eq s b)
  cases he : s.isEmpty with
  | true =>
    rw [he] at es HT
    clear he
    go_enter Tryz.func84, Tryz.ntmps84
    go_wp2
    go_ret
    exact ⟨ret_bool (by rw [HT.out]; rfl), Below.refl _ _⟩
  | false =>
    rw [he] at es HT
    clear he
    have HM := Lib.hid (pcs_mem_len s)
    have cS := fun w' => rsplit_mk s w' hs
    have hne : 0 < (pcs s).length := by
      have := splitL_ne 46 s []
      cases h : pcs s with
      | nil => exact absurd h this
      | cons _ _ => simp
    obtain ⟨l, hl⟩ : ∃ l, pcs s = l := ⟨_, rfl⟩
    rw [hl] at cS HM hne HT
    clear hl
    go_enter Tryz.func84, Tryz.ntmps84
    go_wp2_with fail
    refine (cS _).mono ?_
    rintro e w1 ⟨v, rfl, hown, hb1⟩
    obtain ⟨A, cap, rfl, hcell⟩ := ReadsT.of_own hown
    obtain ⟨ad, rfl, hlt, hc⟩ := hcell hne
    have HC := Lib.hid hc
    clear hc hcell hown cS
    by_cases h4 : 4 < l.length
    · have h4i : (4 : Int) < l.length := by omega
      go_wp2
      go_ret
      exact ⟨ret_bool (by rw [HT.out, decide_eq_false (by omega)]; rfl), hb1⟩
    · have h4i : ¬ (4 : Int) < l.length := by omega
      go_wp2
      go_loop [6] (fun x => ∃ k : Nat, k ≤ l.length ∧ x = .int .i64 k ∧ Hid (∀ j (hj : j < l.length), j < k → tagF b l[j] = true)) (fun x => l.length - (intOf x).toNat)
      case atStart => exact ⟨0, by omega, rfl, fun j hj h => by omega⟩
      case round =>
        obtain ⟨k, hk, rfl, HR⟩ := hrel
        by_cases hp : k < l.length
        · have hki : (k : Int) < l.length := by omega
          have hck := HC.out k hp
          have ht : l[k].length ≤ maxLen := by have := HM.out l[k] (List.getElem_mem hp); unfold maxLen; omega
          have cT := fun w' => rtag_mk l[k] w' ht
          have cN := fun w' => rnumber_mk l[k] w' ht
          have cD := fun w' => rnumeric_mk l[k] w' ht
          have HF : Hid (tagF b l[k] = (tagOk l[k] && !(b && numer l[k] && !numI l[k]))) := rfl
          obtain ⟨g1, e1⟩ : ∃ g, tagOk l[k] = g := ⟨_, rfl⟩
          obtain ⟨g2, e2⟩ : ∃ g, numer l[k] = g := ⟨_, rfl⟩
          obtain ⟨g3, e3⟩ : ∃ g, numI l[k] = g := ⟨_, rfl⟩
          rw [e1] at cT HF
          rw [e2] at cD HF
          rw [e3] at cN HF
          clear e1 e2 e3
          cases hf : (g1 && !(b && g2 && !g3)) with
          | true =>
            have HFT : Hid (tagF b l[k] = true) := by show _ = _; rw [HF.out, hf]
            clear HF
            cases g1 <;> cases b <;> cases g2 <;> cases g3 <;> simp at hf
            all_goals
              go_wp2_with (first
                | (go_at_call 120; refine (cT _).mono ?_; rintro e w2 ⟨rfl, rfl⟩)
                | (go_at_call 75; refine (cN _).mono ?_; rintro e w3 ⟨rfl, rfl⟩)
                | (go_at_call 121; refine (cD _).mono ?_; rintro e w4 ⟨rfl, rfl⟩))
              go_round
              case rel => exact ⟨k + 1, by omega, by go_num, fun j hj h => by
                by_cases hjk : j < k
                · exact HR.out j hj hjk
                · obtain rfl : j = k := by omega
                  exact HFT.out⟩
              case measure => simp [intOf]; omega
          | false =>
            have HFT : Hid (tagF b l[k] = false) := by show _ = _; rw [HF.out, hf]
            clear HF
            cases g1 <;> cases b <;> cases g2 <;> cases g3 <;> simp at hf
            all_goals
              go_wp2_with (first
                | (go_at_call 120; refine (cT _).mono ?_; rintro e w2 ⟨rfl, rfl⟩)
                | (go_at_call 75; refine (cN _).mono ?_; rintro e w3 ⟨rfl, rfl⟩)
                | (go_at_call 121; refine (cD _).mono ?_; rintro e w4 ⟨rfl, rfl⟩))
              go_ret
              exact ⟨ret_bool (by rw [HT.out, all_cut k hp HFT.out]; simp), hb1⟩
        · have hki : ¬ (k : Int) < l.length := by omega
          have hall := all_done (l := l) (p := tagF b) (fun j hj => HR.out j hj (by omega))
          have HA := Lib.hid hall
          clear hall
          go_wp2
          go_ret
          exact ⟨ret_bool (by rw [HT.out, HA.out, decide_eq_true (by omega)]; rfl), hb1⟩

set_option maxHeartbeats 4000000 in
set_option maxRecDepth 100000 in
theorem rmay_any (v : Ver) (w : World) (hp : v.pre.length ≤ 1000000) (hq : v.build.length ≤ 1000000) :
    Calls Tryz.prog 48 #[verV v] w fun e w' => e = .returned (.bool v.may) ∧ Below w.heap.size w w' := by
  have HM : Hid (v.may = (numOkI v.maj && numOkI v.min && numOkI v.pat && tagsB v.pre true && tagsB v.build false)) := by
    show _ = _
    rw [tagsB_pre, tagsB_build]; rfl
  have cP := fun w' => rtags_any v.pre true w' hp
  have cQ := fun w' => rtags_any v.build false w' hq
  have c1 := fun w' => rnum_any v.maj w'
  have c2 := fun w' => rnum_any v.min w'
  have c3 := fun w' => rnum_any v.pat w'
  obtain ⟨m, hm⟩ : ∃ m, v.may = m := ⟨_, rfl⟩
  rw [hm] at HM ⊢
  obtain ⟨g1, e1⟩ : ∃ g, numOkI v.maj = g := ⟨_, rfl⟩
  obtain ⟨g2, e2⟩ : ∃ g, numOkI v.min = g := ⟨_, rfl⟩
  obtain ⟨g3, e3⟩ : ∃ g, numOkI v.pat = g := ⟨_, rfl⟩
  obtain ⟨g4, e4⟩ : ∃ g, tagsB v.pre true = g := ⟨_, rfl⟩
  obtain ⟨g5, e5⟩ : ∃ g, tagsB v.build false = g := ⟨_, rfl⟩
  rw [e1, e2, e3, e4, e5] at HM
  rw [e1] at c1
  rw [e2] at c2
  rw [e3] at c3
  rw [e4] at cP
  rw [e5] at cQ
  clear e1 e2 e3 e4 e5 hm
  obtain ⟨a, b, c, p, q⟩ := v
  unfold verV
  dsimp only at c1 c2 c3 cP cQ ⊢
  have hcases : g1 = false ∨ (g1 = true ∧ g2 = false) ∨ (g1 = true ∧ g2 = true ∧ g3 = false) ∨ (g1 = true ∧ g2 = true ∧ g3 = true ∧ g4 = false) ∨ (g1 = true ∧ g2 = true ∧ g3 = true ∧ g4 = true) := by
    cases g1 <;> cases g2 <;> cases g3 <;> cases g4 <;> simp
  rcases hcases with rfl | ⟨rfl, rfl⟩ | ⟨rfl, rfl, rfl⟩ | ⟨rfl, rfl, rfl, rfl⟩ | ⟨rfl, rfl, rfl, rfl⟩
  · go_enter Tryz.func48, Tryz.ntmps48
    go_wp2_with fail
    refine (c1 _).mono ?_
    rintro e w1 ⟨rfl, rfl⟩
    go_wp2
    go_ret
    exact ⟨ret_bool (by rw [HM.out]; rfl), (Below.refl _ _).alloc (Nat.le_refl _) _⟩
  · go_enter Tryz.func48, Tryz.ntmps48
    go_wp2_with fail
    refine (c1 _).mono ?_
    rintro e w1 ⟨rfl, rfl⟩
    go_wp2_with fail
    refine (c2 _).mono ?_
    rintro e w1 ⟨rfl, rfl⟩
    go_wp2
    go_ret
    exact ⟨ret_bool (by rw [HM.out]; rfl), (Below.refl _ _).alloc (Nat.le_refl _) _⟩
  · go_enter Tryz.func48, Tryz.ntmps48
    go_wp2_with fail
    refine (c1 _).mono ?_
    rintro e w1 ⟨rfl, rfl⟩
    go_wp2_with fail
    refine (c2 _).mono ?_
    rintro e w1 ⟨rfl, rfl⟩
    go_wp2_with fail
    refine (c3 _).mono ?_
    rintro e w1 ⟨rfl, rfl⟩
    go_wp2
    go_ret
    exact ⟨ret_bool (by rw [HM.out]; rfl), (Below.refl _ _).alloc (Nat.le_refl _) _⟩
  · go_enter Tryz.func48, Tryz.ntmps48
    go_wp2_with fail
    refine (c1 _).mono ?_
    rintro e w1 ⟨rfl, rfl⟩
    go_wp2_with fail
    refine (c2 _).mono ?_
    rintro e w1 ⟨rfl, rfl⟩
    go_wp2_with fail
    refine (c3 _).mono ?_
    rintro e w1 ⟨rfl, rfl⟩
    go_wp2_with fail
    refine (cP _).mono ?_
    rintro e w1 ⟨rfl, hb1⟩
    go_wp2
    go_ret
    exact ⟨ret_bool (by rw [HM.out]; rfl), ((Below.refl _ _).alloc (Nat.le_refl _) _).trans (hb1.mono (by simp))⟩
  · go_enter Tryz.func48, Tryz.ntmps48
    go_wp2_with fail
    refine (c1 _).mono ?_
    rintro e w1 ⟨rfl, rfl⟩
    go_wp2_with fail
    refine (c2 _).mono ?_
    rintro e w1 ⟨rfl, rfl⟩
    go_wp2_with fail
    refine (c3 _).mono ?_
    rintro e w1 ⟨rfl, rfl⟩
    go_wp2_with fail
    refine (cP _).mono ?_
    rintro e w1 ⟨rfl, hb1⟩
    obtain ⟨k4, m4⟩ := box_cells hb1 4 (by simp)
    simp only [List.getElem_toArray, List.getElem_cons_succ, List.getElem_cons_zero] at k4
    have hbw : Below w.heap.size w w1 := ((Below.refl _ _).alloc (Nat.le_refl _) _).trans (hb1.mono (by simp))
    go_wp2_with fail
    refine (cQ _).mono ?_
    rintro e w2 ⟨rfl, hb2⟩
    go_wp2
    go_ret
    exact ⟨ret_bool (by rw [HM.out]; rfl), hbw.trans (hb2.mono hbw.size)⟩
end Go.Proofs.YtjabcbagggicaaaGreatDoor
end

section
/-
  The document's own answer for chapter 2 (linchpinref2): Ints, Texts, one, pres, Compare and Core. Conditions: strings of at most a million bytes.
-/
namespace Go.Proofs.YtjabcbagggicaaaGreatDoor
open Go.RowKit

theorem below_drew2 {B : Nat} {a w : World} (h : Below B a w) : Below B a w.drew := h.drew
theorem rints_any (a b : Int) (w : World) :
    Calls Tryz.prog 99 #[.int .i64 a, .int .i64 b] w fun e w' => e = .returned (.int .i64 (Lib.compareInt a b)) ∧ w = w' := by
  by_cases h1 : a < b
  · have HV : Hid (Lib.compareInt a b = -1) := by show _ = _; unfold Lib.compareInt; rw [if_pos h1]
    go_enter Tryz.func99, Tryz.ntmps99
    go_wp2
    go_ret
    exact ⟨ret_int HV.out.symm, rfl⟩
  · by_cases h2 : b < a
    · have HV : Hid (Lib.compareInt a b = 1) := by show _ = _; unfold Lib.compareInt; rw [if_neg h1, if_pos h2]
      go_enter Tryz.func99, Tryz.ntmps99
      go_wp2
      go_ret
      exact ⟨ret_int HV.out.symm, rfl⟩
    · have HV : Hid (Lib.compareInt a b = 0) := by show _ = _; unfold Lib.compareInt; rw [if_neg h1, if_neg h2]
      go_enter Tryz.func99, Tryz.ntmps99
      go_wp2
      go_ret
      exact ⟨ret_int HV.out.symm, rfl⟩

theorem less_cmp (a : List UInt8) : ∀ b, Op.bytesLess a b = decide (Lib.compareBytes a b = -1) := by
  induction a with
  | nil => intro b; cases b <;> simp [Op.bytesLess, Lib.compareBytes]
  | cons x l ih =>
    intro b
    cases b with
    | nil => simp [Op.bytesLess, Lib.compareBytes]
    | cons y m =>
      rw [Op.bytesLess, Lib.compareBytes, ih]
      by_cases h1 : x < y
      · simp [h1]
      · by_cases h2 : y < x
        · simp [h1, h2]
          intro e; subst e; exact absurd h2 h1
        · have e : x = y := UInt8.le_antisymm (UInt8.not_lt.1 h2) (UInt8.not_lt.1 h1)
          simp [e]
theorem cmpB_zero (a : List UInt8) : ∀ b, Lib.compareBytes a b = 0 ↔ a = b := by
  induction a with
  | nil => intro b; cases b <;> simp [Lib.compareBytes]
  | cons x l ih =>
    intro b
    cases b with
    | nil => simp [Lib.compareBytes]
    | cons y m =>
      rw [Lib.compareBytes]
      by_cases h1 : x < y
      · simp [h1]; intro e; subst e; exact absurd h1 (UInt8.lt_irrefl _)
      · by_cases h2 : y < x
        · simp [h1, h2]; intro e; subst e; exact absurd h2 (UInt8.lt_irrefl _)
        · have e : x = y := UInt8.le_antisymm (UInt8.not_lt.1 h2) (UInt8.not_lt.1 h1)
          simp [e, ih]
theorem cmpB_range (a : List UInt8) : ∀ b, Lib.compareBytes a b = -1 ∨ Lib.compareBytes a b = 0 ∨ Lib.compareBytes a b = 1 := by
  induction a with
  | nil => intro b; cases b <;> simp [Lib.compareBytes]
  | cons x l ih =>
    intro b
    cases b with
    | nil => simp [Lib.compareBytes]
    | cons y m =>
      rw [Lib.compareBytes]
      split
      · simp
      · split
        · simp
        · exact ih m
theorem rtexts_any (a b : List UInt8) (w : World) :
    Calls Tryz.prog 167 #[.string (mkS a), .string (mkS b)] w fun e w' => e = .returned (.int .i64 (Lib.compareBytes a b)) ∧ w = w' := by
  have hl := less_cmp a b
  have ha : (mkS a).toList = a := by rw [Lib.toList_data, mk_data]
  have hb : (mkS b).toList = b := by rw [Lib.toList_data, mk_data]
  have he : (a == b) = decide (Lib.compareBytes a b = 0) := by
    rw [Bool.eq_iff_iff]; simp [cmpB_zero]
  have hr := cmpB_range a b
  obtain ⟨x, hx⟩ : ∃ x, Lib.compareBytes a b = x := ⟨_, rfl⟩
  rw [hx] at hl he hr ⊢
  have hl2 : Op.bytesLess (mkS a).toList (mkS b).toList = decide (x = -1) := by rw [ha, hb]; exact hl
  have he2 : ((mkS a).toList == (mkS b).toList) = decide (x = 0) := by rw [ha, hb]; exact he
  clear ha hb hl he hx
  rcases hr with rfl | rfl | rfl
  · have a1 : Op.bytesLess (mkS a).toList (mkS b).toList = true := hl2
    have a2 : ((mkS a).toList == (mkS b).toList) = false := he2
    clear hl2 he2
    go_enter Tryz.func167, Tryz.ntmps167
    go_wp2
    go_ret
    exact ⟨rfl, rfl⟩
  · have a1 : Op.bytesLess (mkS a).toList (mkS b).toList = false := hl2
    have a2 : ((mkS a).toList == (mkS b).toList) = true := he2
    clear hl2 he2
    go_enter Tryz.func167, Tryz.ntmps167
    go_wp2
    go_ret
    exact ⟨rfl, rfl⟩
  · have a1 : Op.bytesLess (mkS a).toList (mkS b).toList = false := hl2
    have a2 : ((mkS a).toList == (mkS b).toList) = false := he2
    clear hl2 he2
    go_enter Tryz.func167, Tryz.ntmps167
    go_wp2
    go_ret
    exact ⟨rfl, rfl⟩

set_option maxHeartbeats 2000000 in
theorem rone_any (a b : List UInt8) (w : World) (ha : a.length ≤ 1000000) (hb : b.length ≤ 1000000) :
    Calls Tryz.prog 148 #[.string (mkS a), .string (mkS b)] w fun e w' => e = .returned (.int .i64 (oneR a b)) ∧ w = w' := by
  have la : a.length ≤ maxLen := by unfold maxLen; omega
  have lb : b.length ≤ maxLen := by unfold maxLen; omega
  have HO : Hid (oneR a b = if numer a && numer b then Lib.compareInt (numD a) (numD b) else if numer a then -1 else if numer b then 1 else Lib.compareBytes a b) := rfl
  obtain ⟨o, ho⟩ : ∃ o, oneR a b = o := ⟨_, rfl⟩
  rw [ho] at HO ⊢
  clear ho
  have nA := fun w' => rnumeric_mk a w' la
  have nB := fun w' => rnumeric_mk b w' lb
  have vA := fun w' => rnumber_mk a w' la
  have vB := fun w' => rnumber_mk b w' lb
  have cI := fun w' => rints_any (numD a) (numD b) w'
  have cT := fun w' => rtexts_any a b w'
  obtain ⟨g1, d1⟩ : ∃ g, numer a = g := ⟨_, rfl⟩
  obtain ⟨g2, d2⟩ : ∃ g, numer b = g := ⟨_, rfl⟩
  obtain ⟨x, dx⟩ : ∃ g, Lib.compareInt (numD a) (numD b) = g := ⟨_, rfl⟩
  obtain ⟨y, dy⟩ : ∃ g, Lib.compareBytes a b = g := ⟨_, rfl⟩
  rw [dx] at HO cI
  rw [dy] at HO cT
  rw [d1] at nA HO
  rw [d2] at nB HO
  obtain ⟨na, ea⟩ : ∃ n, numD a = n := ⟨_, rfl⟩
  obtain ⟨nb, eb⟩ : ∃ n, numD b = n := ⟨_, rfl⟩
  rw [ea] at vA cI
  rw [eb] at vB cI
  clear dx dy d1 d2 ea eb
  cases g1 <;> cases g2
  all_goals
    go_enter Tryz.func148, Tryz.ntmps148
    go_wp2_with fail
    refine (nA _).mono ?_
    rintro e w1 ⟨rfl, rfl⟩
    go_wp2_with fail
    refine (nB _).mono ?_
    rintro e w1 ⟨rfl, rfl⟩
    go_wp2_with (first
      | (go_at_call 167; refine (cT _).mono ?_; rintro e w1 ⟨rfl, rfl⟩)
      | (go_at_call 75; with_reducible refine (vA _).mono ?_; rintro e w1 ⟨rfl, rfl⟩)
      | (go_at_call 75; with_reducible refine (vB _).mono ?_; rintro e w1 ⟨rfl, rfl⟩)
      | (go_at_call 99; refine (cI _).mono ?_; rintro e w1 ⟨rfl, rfl⟩))
    go_ret
    exact ⟨ret_int (by rw [HO.out]; simp), rfl⟩

theorem presL_end (l m : List (List UInt8)) (k : Nat) (hl : k ≤ l.length) (hm : k ≤ m.length) (h : ¬ (k < l.length ∧ k < m.length)) : presL (l.drop k) (m.drop k) = Lib.compareInt l.length m.length := by
  unfold Lib.compareInt
  by_cases h1 : k < l.length
  · have h2 : ¬ k < m.length := fun h2 => h ⟨h1, h2⟩
    rw [List.drop_eq_nil_of_le (by omega : m.length ≤ k), List.drop_eq_getElem_cons h1, presL, if_neg (by omega), if_pos (by omega)]
  · by_cases h2 : k < m.length
    · rw [List.drop_eq_nil_of_le (by omega : l.length ≤ k), List.drop_eq_getElem_cons h2, presL, if_pos (by omega)]
    · rw [List.drop_eq_nil_of_le (by omega : m.length ≤ k), List.drop_eq_nil_of_le (by omega : l.length ≤ k), presL, if_neg (by omega), if_neg (by omega)]
theorem presL_on (l m : List (List UInt8)) (k : Nat) (h1 : k < l.length) (h2 : k < m.length) (h : oneR l[k] m[k] = 0) : presL (l.drop k) (m.drop k) = presL (l.drop (k + 1)) (m.drop (k + 1)) := by
  rw [List.drop_eq_getElem_cons h1, List.drop_eq_getElem_cons h2, presL, if_neg (by simpa using h)]
theorem presL_off (l m : List (List UInt8)) (k : Nat) (h1 : k < l.length) (h2 : k < m.length) (h : ¬ oneR l[k] m[k] = 0) : presL (l.drop k) (m.drop k) = oneR l[k] m[k] := by
  rw [List.drop_eq_getElem_cons h1, List.drop_eq_getElem_cons h2, presL, if_pos h]
theorem own_cells {w : World} {base : Nat} {v : Value} {l : List (List UInt8)} (h : w.ownsRow base 9 1 v l.length (strV l)) (hl : 0 < l.length) :
    ∃ g cap, v = .slice (some ⟨g, 0, none⟩) l.length cap ∧ g < w.heap.size ∧ ∀ j (hj : j < l.length), w.cell? ⟨g, j, none⟩ = some (.string (mkS l[j])) := by
  rcases h.2 with ⟨_, h0⟩ | ⟨g, cap, cur, hv, hg, hh, hn, _⟩
  · omega
  · refine ⟨g, cap, hv, (Array.getElem?_eq_some_iff.1 hh).1, fun j hj => ?_⟩
    have h := h.cells (g := g) (by rw [hv]; rfl) j (.string (mkS l[j])) (by unfold strV; rw [List.getElem?_map, List.getElem?_eq_getElem hj]; rfl)
    have ha : (⟨g, 0, none⟩ : Addr).add j = ⟨g, j, none⟩ := by unfold Addr.add; split <;> simp_all
    rwa [ha] at h
theorem pcs_pos (s : List UInt8) : 0 < (pcs s).length := by
  have := splitL_ne 46 s []
  cases h : pcs s with
  | nil => exact absurd h this
  | cons _ _ => simp

set_option maxHeartbeats 4000000 in
set_option maxRecDepth 100000 in
theorem rpres_go (a b : List UInt8) (w : World) (ha : a.length ≤ 1000000) (hb : b.length ≤ 1000000) (n0 : a ≠ b) (na : a ≠ []) (nb : b ≠ []) :
    Calls Tryz.prog 131 #[.string (mkS a), .string (mkS b)] w fun e w' => e = .returned (.int .i64 (presL (pcs a) (pcs b))) ∧ Below w.heap.size w w' := by
  have e0 : ((mkS a).toList == (mkS b).toList) = false := by rw [Lib.toList_data, Lib.toList_data, mk_data, mk_data]; simpa using n0
  have ea : (mkS a).toList.isEmpty = false := by rw [Lib.toList_data, mk_data]; exact List.isEmpty_eq_false_iff.2 na
  have eb : (mkS b).toList.isEmpty = false := by rw [Lib.toList_data, mk_data]; exact List.isEmpty_eq_false_iff.2 nb
  have cA := fun w' => rsplit_mk a w' ha
  have cB := fun w' => rsplit_mk b w' hb
  have HA := Lib.hid (pcs_mem_len a)
  have HB := Lib.hid (pcs_mem_len b)
  have pa := pcs_pos a
  have pb := pcs_pos b
  have la := pcs_len a
  have lb := pcs_len b
  obtain ⟨l, hl⟩ : ∃ l, pcs a = l := ⟨_, rfl⟩
  obtain ⟨m, hm⟩ : ∃ l, pcs b = l := ⟨_, rfl⟩
  rw [hl] at cA HA pa la ⊢
  rw [hm] at cB HB pb lb ⊢
  clear n0 na nb hl hm
  go_enter Tryz.func131, Tryz.ntmps131
  go_wp2_with fail
  refine (cA _).mono ?_
  rintro e w1 ⟨v, rfl, hown1, hb1⟩
  obtain ⟨g1, cap1, rfl, hg1, hc1⟩ := own_cells hown1 pa
  go_wp2_with fail
  refine (cB _).mono ?_
  rintro e w2 ⟨v, rfl, hown2, hb2⟩
  obtain ⟨g2, cap2, rfl, hg2, hc2⟩ := own_cells hown2 pb
  have HC1 : Hid (∀ j (hj : j < l.length), w2.cell? ⟨g1, j, none⟩ = some (.string (mkS l[j]))) := fun j hj => (hb2.cell (p := ⟨g1, j, none⟩) hg1).trans (hc1 j hj)
  have HC2 := Lib.hid hc2
  have hg12 : g1 < w2.heap.size := Nat.lt_of_lt_of_le hg1 hb2.size
  have hbw : Below w.heap.size w w2 := hb1.trans (hb2.mono hb1.size)
  clear hc1 hc2 hown1 hown2 hb1 hb2 cA cB
  go_wp2
  go_loopw [7] (fun x wr => ∃ k : Nat, k ≤ l.length ∧ k ≤ m.length ∧ x = .int .i64 k ∧ Below w2.heap.size w2 wr ∧ Hid (presL (l.drop k) (m.drop k) = presL l m)) (fun x _ => l.length - (intOf x).toNat)
  case atStart => exact ⟨0, by omega, by omega, rfl, Below.refl _ _, rfl⟩
  case round =>
    obtain ⟨k, hk1, hk2, rfl, hbel, HR⟩ := hrel
    by_cases h1 : k < l.length
    · by_cases h2 : k < m.length
      · have i1 : (k : Int) < l.length := by omega
        have i2 : (k : Int) < m.length := by omega
        have q1 := (hbel.cell (p := ⟨g1, k, none⟩) hg12).trans (HC1.out k h1)
        have q2 := (hbel.cell (p := ⟨g2, k, none⟩) hg2).trans (HC2.out k h2)
        have t1 := Nat.le_trans (HA.out l[k] (List.getElem_mem h1)) ha
        have t2 := Nat.le_trans (HB.out m[k] (List.getElem_mem h2)) hb
        have cO := fun w' => rone_any l[k] m[k] w' t1 t2
        obtain ⟨o, ho⟩ : ∃ o, oneR l[k] m[k] = o := ⟨_, rfl⟩
        rw [ho] at cO
        by_cases h0 : o = 0
        · have HQ : Hid (presL (l.drop (k + 1)) (m.drop (k + 1)) = presL l m) := by show _ = _; rw [← HR.out, presL_on l m k h1 h2 (ho.trans h0)]
          subst h0
          clear ho
          go_wp2_with fail
          go_region_with (go_at_call 148; refine (cO _).mono ?_; rintro e w4 ⟨rfl, rfl⟩)
          all_goals
            go_wp2
            go_roundw
            case rel => exact ⟨k + 1, by omega, by omega, by go_num, below_drew2 hbel, HQ.out⟩
            case measure => simp [intOf]; omega
        · have HQ : Hid (o = presL l m) := by show _ = _; rw [← HR.out, presL_off l m k h1 h2 (by rw [ho]; exact h0), ho]
          have h0b : (o != 0) = true := by simpa using h0
          clear ho
          go_wp2_with fail
          go_region_with (go_at_call 148; refine (cO _).mono ?_; rintro e w4 ⟨rfl, rfl⟩)
          all_goals
            go_wp2
            go_ret
            exact ⟨ret_int HQ.out, hbw.trans ((below_drew2 hbel).mono hbw.size)⟩
      · have i1 : (k : Int) < l.length := by omega
        have i2 : ¬ (k : Int) < m.length := by omega
        have HQ : Hid (Lib.compareInt l.length m.length = presL l m) := by show _ = _; rw [← HR.out, presL_end l m k hk1 hk2 (fun h => h2 h.2)]
        go_wp2_with (go_at_call 99; refine (rints_any _ _ _).mono ?_; rintro e w4 ⟨rfl, rfl⟩)
        go_ret
        exact ⟨ret_int HQ.out, hbw.trans (hbel.mono hbw.size)⟩
    · have i1 : ¬ (k : Int) < l.length := by omega
      have HQ : Hid (Lib.compareInt l.length m.length = presL l m) := by show _ = _; rw [← HR.out, presL_end l m k hk1 hk2 (fun h => h1 h.1)]
      go_wp2_with (go_at_call 99; refine (rints_any _ _ _).mono ?_; rintro e w4 ⟨rfl, rfl⟩)
      go_ret
      exact ⟨ret_int HQ.out, hbw.trans (hbel.mono hbw.size)⟩

theorem rpres_any (a b : List UInt8) (w : World) (ha : a.length ≤ 1000000) (hb : b.length ≤ 1000000) :
    Calls Tryz.prog 131 #[.string (mkS a), .string (mkS b)] w fun e w' => e = .returned (.int .i64 (presR a b)) ∧ Below w.heap.size w w' := by
  by_cases h0 : a = b
  · have e0 : ((mkS a).toList == (mkS b).toList) = true := by rw [h0]; simp
    have HC : Hid (presR a b = 0) := by show _ = _; unfold presR; rw [if_pos h0]
    clear h0
    go_enter Tryz.func131, Tryz.ntmps131
    go_wp2
    go_ret
    exact ⟨ret_int HC.out.symm, Below.refl _ _⟩
  · have e0 : ((mkS a).toList == (mkS b).toList) = false := by rw [Lib.toList_data, Lib.toList_data, mk_data, mk_data]; simpa using h0
    by_cases h1 : a = []
    · have ea : (mkS a).toList.isEmpty = true := by rw [Lib.toList_data, mk_data, h1]; rfl
      have HC : Hid (presR a b = 1) := by show _ = _; unfold presR; rw [if_neg h0, if_pos h1]
      clear h0 h1
      go_enter Tryz.func131, Tryz.ntmps131
      go_wp2
      go_ret
      exact ⟨ret_int HC.out.symm, Below.refl _ _⟩
    · have ea : (mkS a).toList.isEmpty = false := by rw [Lib.toList_data, mk_data]; exact List.isEmpty_eq_false_iff.2 h1
      by_cases h2 : b = []
      · have eb : (mkS b).toList.isEmpty = true := by rw [Lib.toList_data, mk_data, h2]; rfl
        have HC : Hid (presR a b = -1) := by show _ = _; unfold presR; rw [if_neg h0, if_neg h1, if_pos h2]
        clear h0 h1 h2
        go_enter Tryz.func131, Tryz.ntmps131
        go_wp2
        go_ret
        exact ⟨ret_int HC.out.symm, Below.refl _ _⟩
      · have hc : presR a b = presL (pcs a) (pcs b) := by unfold presR; rw [if_neg h0, if_neg h1, if_neg h2]
        rw [hc]
        exact rpres_go a b w ha hb h0 h1 h2

theorem cmpR_split (v u : Ver) : cmpR v u = if v.may && u.may then (if Lib.compareInt v.maj u.maj ≠ 0 then Lib.compareInt v.maj u.maj else if Lib.compareInt v.min u.min ≠ 0 then Lib.compareInt v.min u.min else if Lib.compareInt v.pat u.pat ≠ 0 then Lib.compareInt v.pat u.pat else presR v.pre u.pre) else 0 := by
  unfold cmpR cmpN
  by_cases h : (v.may && u.may) = true
  · rw [if_pos h, if_pos h]
    by_cases h1 : Lib.compareInt v.maj u.maj = 0
    · by_cases h2 : Lib.compareInt v.min u.min = 0
      · simp [h1, h2]
      · simp [h1, h2]
    · simp [h1]
  · rw [if_neg h, if_neg h]

set_option maxHeartbeats 8000000 in
set_option maxRecDepth 100000 in
theorem rcompare_any (v u : Ver) (w : World) (h1 : v.pre.length ≤ 1000000) (h2 : v.build.length ≤ 1000000) (h3 : u.pre.length ≤ 1000000) (h4 : u.build.length ≤ 1000000) :
    Calls Tryz.prog 100 #[verV v, verV u] w fun e w' => e = .returned (.int .i64 (cmpR v u)) ∧ Below w.heap.size w w' := by
  have HC := Lib.hid (cmpR_split v u)
  have cM := fun w' => rmay_any v w' h1 h2
  have cN := fun w' => rmay_any u w' h3 h4
  have i1 := fun w' => rints_any v.maj u.maj w'
  have i2 := fun w' => rints_any v.min u.min w'
  have i3 := fun w' => rints_any v.pat u.pat w'
  have cP := fun w' => rpres_any v.pre u.pre w' h1 h3
  obtain ⟨r, hr⟩ : ∃ r, cmpR v u = r := ⟨_, rfl⟩
  obtain ⟨m, hm⟩ : ∃ r, v.may = r := ⟨_, rfl⟩
  obtain ⟨n, hn⟩ : ∃ r, u.may = r := ⟨_, rfl⟩
  obtain ⟨o1, ho1⟩ : ∃ r, Lib.compareInt v.maj u.maj = r := ⟨_, rfl⟩
  obtain ⟨o2, ho2⟩ : ∃ r, Lib.compareInt v.min u.min = r := ⟨_, rfl⟩
  obtain ⟨o3, ho3⟩ : ∃ r, Lib.compareInt v.pat u.pat = r := ⟨_, rfl⟩
  obtain ⟨o4, ho4⟩ : ∃ r, presR v.pre u.pre = r := ⟨_, rfl⟩
  rw [hr, hm, hn, ho1, ho2, ho3, ho4] at HC
  rw [hr]
  rw [hm] at cM
  rw [hn] at cN
  rw [ho1] at i1
  rw [ho2] at i2
  rw [ho3] at i3
  rw [ho4] at cP
  clear hr hm hn ho1 ho2 ho3 ho4
  obtain ⟨a1, a2, a3, p, q⟩ := v
  obtain ⟨b1, b2, b3, p', q'⟩ := u
  unfold verV at cM cN ⊢
  dsimp only at cM cN i1 i2 i3 cP ⊢
  cases m with
  | false =>
    go_enter Tryz.func100, Tryz.ntmps100
    go_wp2_with (go_at_call 48; with_reducible refine (cM _).mono ?_; rintro e w1 ⟨rfl, hb1⟩)
    go_ret
    exact ⟨ret_int (by rw [HC.out]; simp), (((Below.refl _ _).alloc (Nat.le_refl _) _).alloc (by simp) _).trans (hb1.mono (by simp; omega))⟩
  | true =>
    go_enter Tryz.func100, Tryz.ntmps100
    go_wp2_with fail
    refine (cM _).mono ?_
    rintro e w1 ⟨rfl, hb1⟩
    have hz1 := hb1.size
    simp only [size_box] at hz1
    have hgA := Lib.hid ((hb1.block w.heap.size (by simp only [size_box]; omega)).trans ((heap_old _ _ (by simp only [size_box]; omega)).trans (heap_new w _)))
    have hgB := Lib.hid ((hb1.block (w.heap.size + 1) (by simp only [size_box]; omega)).trans (heap_at _ _ _ (by simp only [size_box])))
    have hbw : Below w.heap.size w w1 := (((Below.refl _ _).alloc (Nat.le_refl _) _).alloc (by simp only [size_box]; omega) _).trans (hb1.mono (by simp only [size_box]; omega))
    clear hb1 cM
    obtain ⟨y0, _⟩ := cell_row (j := 0) hgB.out (by simp)
    obtain ⟨y1, _⟩ := cell_row (j := 1) hgB.out (by simp)
    obtain ⟨y2, _⟩ := cell_row (j := 2) hgB.out (by simp)
    obtain ⟨y3, _⟩ := cell_row (j := 3) hgB.out (by simp)
    obtain ⟨y4, _⟩ := cell_row (j := 4) hgB.out (by simp)
    simp only [List.getElem_toArray, List.getElem_cons_succ, List.getElem_cons_zero] at y0 y1 y2 y3 y4
    go_wp2_with fail
    refine (cN _).mono ?_
    rintro e w2 ⟨rfl, hb2⟩
    have hbw2 : Below w.heap.size w w2 := hbw.trans (hb2.mono hbw.size)
    cases n with
    | false =>
      go_wp2
      go_ret
      exact ⟨ret_int (by rw [HC.out]; simp), hbw2⟩
    | true =>
      have hA := (hb2.block w.heap.size (by omega)).trans hgA.out
      have hB := (hb2.block (w.heap.size + 1) (by omega)).trans hgB.out
      obtain ⟨k0, _⟩ := cell_row (j := 0) hA (by simp)
      obtain ⟨k1, _⟩ := cell_row (j := 1) hA (by simp)
      obtain ⟨k2, _⟩ := cell_row (j := 2) hA (by simp)
      obtain ⟨k3, _⟩ := cell_row (j := 3) hA (by simp)
      obtain ⟨m0, _⟩ := cell_row (j := 0) hB (by simp)
      obtain ⟨m1, _⟩ := cell_row (j := 1) hB (by simp)
      obtain ⟨m2, _⟩ := cell_row (j := 2) hB (by simp)
      obtain ⟨m3, _⟩ := cell_row (j := 3) hB (by simp)
      simp only [List.getElem_toArray, List.getElem_cons_succ, List.getElem_cons_zero] at k0 k1 k2 k3 m0 m1 m2 m3
      clear hA hB hb2 cN
      by_cases z1 : o1 = 0
      · by_cases z2 : o2 = 0
        · by_cases z3 : o3 = 0
          · subst z1 z2 z3
            go_wp2_with fail
            refine (i1 _).mono ?_
            rintro e w3 ⟨rfl, rfl⟩
            go_wp2_with fail
            refine (i2 _).mono ?_
            rintro e w3 ⟨rfl, rfl⟩
            go_wp2_with fail
            refine (i3 _).mono ?_
            rintro e w3 ⟨rfl, rfl⟩
            go_wp2_with fail
            refine (cP _).mono ?_
            rintro e w3 ⟨rfl, hb3⟩
            go_wp2
            go_ret
            exact ⟨ret_int (by rw [HC.out]; simp), hbw2.trans (hb3.mono hbw2.size)⟩
          · have z3b : (o3 != 0) = true := by simpa using z3
            have Z3 := Lib.hid z3
            subst z1 z2
            clear z3
            go_wp2_with fail
            refine (i1 _).mono ?_
            rintro e w3 ⟨rfl, rfl⟩
            go_wp2_with fail
            refine (i2 _).mono ?_
            rintro e w3 ⟨rfl, rfl⟩
            go_wp2_with fail
            refine (i3 _).mono ?_
            rintro e w3 ⟨rfl, rfl⟩
            go_wp2
            go_ret
            exact ⟨ret_int (by rw [HC.out]; simp [Z3.out]), hbw2⟩
        · have z2b : (o2 != 0) = true := by simpa using z2
          have Z2 := Lib.hid z2
          subst z1
          clear z2
          go_wp2_with fail
          refine (i1 _).mono ?_
          rintro e w3 ⟨rfl, rfl⟩
          go_wp2_with fail
          refine (i2 _).mono ?_
          rintro e w3 ⟨rfl, rfl⟩
          go_wp2
          go_ret
          exact ⟨ret_int (by rw [HC.out]; simp [Z2.out]), hbw2⟩
      · have z1b : (o1 != 0) = true := by simpa using z1
        have Z1 := Lib.hid z1
        clear z1
        go_wp2_with fail
        refine (i1 _).mono ?_
        rintro e w3 ⟨rfl, rfl⟩
        go_wp2
        go_ret
        exact ⟨ret_int (by rw [HC.out]; simp [Z1.out]), hbw2⟩

end Go.Proofs.YtjabcbagggicaaaGreatDoor
end

section
/-
  Package cut and the document's own answer for chapter 3: May, Compare, Ahead, SpanMay, Holds of both: what they return for cuts and versions whose strings have at most a million bytes; nothing that was there is changed.
-/
namespace Go.Proofs.YtjabcbagggicaaaGreatDoor
open Go.RowKit
set_option maxRecDepth 100000
set_option linter.unusedVariables false
set_option linter.unusedSimpArgs false
set_option maxHeartbeats 2000000

def Cu.short (c : Cu) : Prop := c.v.pre.length ≤ 1000000 ∧ c.v.build.length ≤ 1000000
def Ver.short (v : Ver) : Prop := v.pre.length ≤ 1000000 ∧ v.build.length ≤ 1000000
def Sp.short (s : Sp) : Prop := s.lo.short ∧ s.hi.short
theorem mayC_0 {c : Cu} (h : c.e = 0) : c.may = (c.v.may && c.v.build.isEmpty) := by unfold Cu.may; rw [if_pos h]
theorem mayC_1 {c : Cu} (h : c.e = -1 ∨ c.e = 1) : c.may = decide (c = ⟨c.e, Ver.zero, false⟩) := by
  unfold Cu.may
  rw [if_neg (by omega), decide_eq_true h]
  obtain ⟨e, v, a⟩ := c
  simp only [Cu.mk.injEq, Bool.true_and, true_and, Bool.decide_and]
  cases a <;> simp
theorem mayC_n {c : Cu} (h0 : ¬ c.e = 0) (h : ¬ (c.e = -1 ∨ c.e = 1)) : c.may = false := by
  unfold Cu.may; rw [if_neg h0, decide_eq_false h]; rfl

theorem less_any (a b : Cu) (W : World) (ha : a.short) (hb : b.short) : Calls Tryz.prog 146 #[cutV a, cutV b] W fun e w' => e = .returned (.bool (lessC a b)) ∧ Below W.heap.size W w' := by
  refine calls_ok (n := 31) Tryz.func146 rfl (by kernel_rfl) (by kernel_rfl) ?_
  refine ok_seq ?_
  refine ok_region ?_
  refine s_box (cutV a) (by kernel_rfl) rfl (by kernel_rfl) (fun b1 => ?_)
  refine s_box (cutV b) (by kernel_rfl) rfl (by kernel_rfl) (fun b2 => ?_)
  refine s_val (.bool false) (by kernel_rfl) (fun _ => by kernel_rfl) ?_
  refine s_nil ?_
  refine fin_seq ?_
  refine ok_seq ?_
  refine ok_seq ?_
  refine ok_region ?_
  refine s_val (.pointer (some ⟨b1, 0, none⟩)) (by kernel_rfl) (fun _ => by kernel_rfl) ?_
  refine s_load 1 ⟨b1, (cutV a).cells, 48⟩ (off := 0) (.int .i64 a.e) (by kernel_rfl) rfl (by kernel_rfl) (by kernel_rfl) (by kernel_rfl) ?_
  refine s_val (.pointer (some ⟨b2, 0, none⟩)) (by kernel_rfl) (fun _ => by kernel_rfl) ?_
  refine s_load 0 ⟨b2, (cutV b).cells, 48⟩ (off := 0) (.int .i64 b.e) (by kernel_rfl) rfl (by kernel_rfl) (by kernel_rfl) (by kernel_rfl) ?_
  by_cases h1 : (a.e : Int) = b.e
  · skip
    refine s_ndec (p := (a.e : Int) = b.e) true (by kernel_rfl) (fun _ => by kernel_rfl) (decide_eq_true (h1)) ?_
    refine s_nil ?_
    refine fin_seq ?_
    refine ok_false (by kernel_rfl) ?_
    refine ok_skip ?_
    refine fin_seq ?_
    refine ok_seq ?_
    refine ok_seq ?_
    refine ok_region ?_
    refine s_val (.pointer (some ⟨b1, 1, none⟩)) (by kernel_rfl) (fun _ => by kernel_rfl) ?_
    refine s_load 1 ⟨b1, (cutV a).cells, 48⟩ (off := 1) (.agg #[.int .i64 a.v.maj, .int .i64 a.v.min, .int .i64 a.v.pat, .string (mkS a.v.pre), .string (mkS a.v.build)]) (by kernel_rfl) rfl (by kernel_rfl) (by kernel_rfl) (by kernel_rfl) ?_
    refine s_val (.pointer (some ⟨b2, 1, none⟩)) (by kernel_rfl) (fun _ => by kernel_rfl) ?_
    refine s_load 0 ⟨b2, (cutV b).cells, 48⟩ (off := 1) (.agg #[.int .i64 b.v.maj, .int .i64 b.v.min, .int .i64 b.v.pat, .string (mkS b.v.pre), .string (mkS b.v.build)]) (by kernel_rfl) rfl (by kernel_rfl) (by kernel_rfl) (by kernel_rfl) ?_
    refine s_call (k := 28) (args := #[.agg #[.int .i64 a.v.maj, .int .i64 a.v.min, .int .i64 a.v.pat, .string (mkS a.v.pre), .string (mkS a.v.build)], .agg #[.int .i64 b.v.maj, .int .i64 b.v.min, .int .i64 b.v.pat, .string (mkS b.v.pre), .string (mkS b.v.build)]]) (.int .i64 (cmpR a.v b.v)) (by kernel_rfl) (fun _ => by kernel_rfl) (fun w _ => vcompare_any a.v b.v w ha.1 ha.2 hb.1 hb.2) ?_
    refine s_nil ?_
    refine fin_seq ?_
    refine ok_block ?_
    refine ok_seq ?_
    refine ok_region ?_
    by_cases h2 : (cmpR a.v b.v : Int) = -1
    · skip
      refine s_dec (p := (cmpR a.v b.v : Int) = -1) true (by kernel_rfl) (fun _ => by kernel_rfl) (decide_eq_true (h2)) ?_
      refine s_val (.bool true) (by kernel_rfl) (fun _ => by kernel_rfl) ?_
      refine s_nil ?_
      refine fin_seq ?_
      refine ok_true (by kernel_rfl) ?_
      refine ok_seq ?_
      refine ok_region ?_
      refine s_val (.bool true) (by kernel_rfl) (fun _ => by kernel_rfl) ?_
      refine s_nil ?_
      refine fin_seq ?_
      refine ok_ret ?_
      refine fin_block_ret ?_
      refine fin_seq_ret ?_
      refine fin_ret (.bool true) Tryz.results146 (by kernel_rfl) ?_
      exact fun w hO => ⟨by rw [show lessC a b = true from by unfold lessC; simp [h1, h2]], hO.below⟩
    · skip
      refine s_dec (p := (cmpR a.v b.v : Int) = -1) false (by kernel_rfl) (fun _ => by kernel_rfl) (decide_eq_false (h2)) ?_
      refine s_val (.bool false) (by kernel_rfl) (fun _ => by kernel_rfl) ?_
      refine s_nil ?_
      refine fin_seq ?_
      refine ok_false (by kernel_rfl) ?_
      refine ok_seq ?_
      refine ok_region ?_
      by_cases h3 : (cmpR a.v b.v : Int) = 1
      · skip
        refine s_dec (p := (cmpR a.v b.v : Int) = 1) true (by kernel_rfl) (fun _ => by kernel_rfl) (decide_eq_true (h3)) ?_
        refine s_val (.bool true) (by kernel_rfl) (fun _ => by kernel_rfl) ?_
        refine s_nil ?_
        refine fin_seq ?_
        refine ok_true (by kernel_rfl) ?_
        refine ok_seq ?_
        refine ok_region ?_
        refine s_val (.bool false) (by kernel_rfl) (fun _ => by kernel_rfl) ?_
        refine s_nil ?_
        refine fin_seq ?_
        refine ok_ret ?_
        refine fin_block_ret ?_
        refine fin_seq_ret ?_
        refine fin_ret (.bool false) Tryz.results146 (by kernel_rfl) ?_
        exact fun w hO => ⟨by rw [show lessC a b = false from by unfold lessC; simp [h1, h2, h3]], hO.below⟩
      · skip
        refine s_dec (p := (cmpR a.v b.v : Int) = 1) false (by kernel_rfl) (fun _ => by kernel_rfl) (decide_eq_false (h3)) ?_
        refine s_val (.bool false) (by kernel_rfl) (fun _ => by kernel_rfl) ?_
        refine s_nil ?_
        refine fin_seq ?_
        refine ok_false (by kernel_rfl) ?_
        refine ok_skip ?_
        refine fin_block ?_
        refine fin_seq ?_
        refine ok_seq ?_
        refine ok_region ?_
        refine s_val (.pointer (some ⟨b1, 6, none⟩)) (by kernel_rfl) (fun _ => by kernel_rfl) ?_
        refine s_load 1 ⟨b1, (cutV a).cells, 48⟩ (off := 6) (.bool a.aft) (by kernel_rfl) rfl (by kernel_rfl) (by kernel_rfl) (by kernel_rfl) ?_
        cases h4 : a.aft with
        | true =>
          refine s_val (.bool false) (by kernel_rfl) (fun _ => by kernel_rfl) ?_
          refine s_val (.bool false) (by kernel_rfl) (fun _ => by kernel_rfl) ?_
          refine s_skip (by kernel_rfl) ?_
          refine s_skip (by kernel_rfl) ?_
          refine s_val (.bool false) (by kernel_rfl) (fun _ => by kernel_rfl) ?_
          refine s_val (.bool false) (by kernel_rfl) (fun _ => by kernel_rfl) ?_
          refine s_nil ?_
          refine fin_seq ?_
          refine ok_ret ?_
          refine fin_ret (.bool false) Tryz.results146 (by kernel_rfl) ?_
          exact fun w hO => ⟨by rw [show lessC a b = false from by unfold lessC; simp [h1, h2, h3, h4]], hO.below⟩
        | false =>
          refine s_val (.bool true) (by kernel_rfl) (fun _ => by kernel_rfl) ?_
          refine s_val (.bool true) (by kernel_rfl) (fun _ => by kernel_rfl) ?_
          refine s_val (.pointer (some ⟨b2, 6, none⟩)) (by kernel_rfl) (fun _ => by kernel_rfl) ?_
          refine s_load 0 ⟨b2, (cutV b).cells, 48⟩ (off := 6) (.bool b.aft) (by kernel_rfl) rfl (by kernel_rfl) (by kernel_rfl) (by kernel_rfl) ?_
          refine s_val (.bool b.aft) (by kernel_rfl) (fun _ => by kernel_rfl) ?_
          refine s_val (.bool b.aft) (by kernel_rfl) (fun _ => by kernel_rfl) ?_
          refine s_nil ?_
          refine fin_seq ?_
          refine ok_ret ?_
          refine fin_ret (.bool b.aft) Tryz.results146 (by kernel_rfl) ?_
          exact fun w hO => ⟨by rw [show lessC a b = b.aft from by unfold lessC; simp [h1, h2, h3, h4]], hO.below⟩
  · skip
    refine s_ndec (p := (a.e : Int) = b.e) false (by kernel_rfl) (fun _ => by kernel_rfl) (decide_eq_false (h1)) ?_
    refine s_nil ?_
    refine fin_seq ?_
    refine ok_true (by kernel_rfl) ?_
    refine ok_seq ?_
    refine ok_region ?_
    refine s_val (.pointer (some ⟨b1, 0, none⟩)) (by kernel_rfl) (fun _ => by kernel_rfl) ?_
    refine s_load 1 ⟨b1, (cutV a).cells, 48⟩ (off := 0) (.int .i64 a.e) (by kernel_rfl) rfl (by kernel_rfl) (by kernel_rfl) (by kernel_rfl) ?_
    refine s_val (.pointer (some ⟨b2, 0, none⟩)) (by kernel_rfl) (fun _ => by kernel_rfl) ?_
    refine s_load 0 ⟨b2, (cutV b).cells, 48⟩ (off := 0) (.int .i64 b.e) (by kernel_rfl) rfl (by kernel_rfl) (by kernel_rfl) (by kernel_rfl) ?_
    by_cases h5 : (a.e : Int) < b.e
    · skip
      refine s_dec (p := (a.e : Int) < b.e) true (by kernel_rfl) (fun _ => by kernel_rfl) (decide_eq_true (h5)) ?_
      refine s_val (.bool true) (by kernel_rfl) (fun _ => by kernel_rfl) ?_
      refine s_nil ?_
      refine fin_seq ?_
      refine ok_ret ?_
      refine fin_seq_ret ?_
      refine fin_ret (.bool true) Tryz.results146 (by kernel_rfl) ?_
      exact fun w hO => ⟨by rw [show lessC a b = true from by unfold lessC; simp [h1, h5]], hO.below⟩
    · skip
      refine s_dec (p := (a.e : Int) < b.e) false (by kernel_rfl) (fun _ => by kernel_rfl) (decide_eq_false (h5)) ?_
      refine s_val (.bool false) (by kernel_rfl) (fun _ => by kernel_rfl) ?_
      refine s_nil ?_
      refine fin_seq ?_
      refine ok_ret ?_
      refine fin_seq_ret ?_
      refine fin_ret (.bool false) Tryz.results146 (by kernel_rfl) ?_
      exact fun w hO => ⟨by rw [show lessC a b = false from by unfold lessC; simp [h1, h5]], hO.below⟩
theorem mayC_any (c : Cu) (W : World) (hc : c.short) : Calls Tryz.prog 145 #[cutV c] W fun e w' => e = .returned (.bool c.may) ∧ Below W.heap.size W w' := by
  refine calls_ok (n := 24) Tryz.func145 rfl (by kernel_rfl) (by kernel_rfl) ?_
  refine ok_seq ?_
  refine ok_region ?_
  refine s_box (cutV c) (by kernel_rfl) rfl (by kernel_rfl) (fun b1 => ?_)
  refine s_val (.bool false) (by kernel_rfl) (fun _ => by kernel_rfl) ?_
  refine s_nil ?_
  refine fin_seq ?_
  refine ok_seq ?_
  refine ok_seq ?_
  refine ok_region ?_
  refine s_val (.pointer (some ⟨b1, 0, none⟩)) (by kernel_rfl) (fun _ => by kernel_rfl) ?_
  refine s_load 0 ⟨b1, (cutV c).cells, 48⟩ (off := 0) (.int .i64 c.e) (by kernel_rfl) rfl (by kernel_rfl) (by kernel_rfl) (by kernel_rfl) ?_
  refine s_nil ?_
  refine fin_seq ?_
  refine ok_block ?_
  refine ok_seq ?_
  refine ok_seq ?_
  refine ok_region ?_
  by_cases h1 : (c.e : Int) = -1
  · skip
    refine s_dec (p := (c.e : Int) = -1) true (by kernel_rfl) (fun _ => by kernel_rfl) (decide_eq_true (h1)) ?_
    refine s_val (.bool true) (by kernel_rfl) (fun _ => by kernel_rfl) ?_
    refine s_nil ?_
    refine fin_seq ?_
    refine ok_true (by kernel_rfl) ?_
    refine ok_skip ?_
    refine fin_seq ?_
    refine ok_true (by kernel_rfl) ?_
    refine ok_seq ?_
    refine ok_region ?_
    refine s_load 0 ⟨b1, (cutV c).cells, 48⟩ (off := 0) (cutV c) (by kernel_rfl) rfl (by kernel_rfl) (by kernel_rfl) (by kernel_rfl) ?_
    refine s_val (.pointer (some ⟨b1, 0, none⟩)) (by kernel_rfl) (fun _ => by kernel_rfl) ?_
    refine s_load 0 ⟨b1, (cutV c).cells, 48⟩ (off := 0) (.int .i64 c.e) (by kernel_rfl) rfl (by kernel_rfl) (by kernel_rfl) (by kernel_rfl) ?_
    refine s_val (.agg #[.int .i64 c.e, .int .i64 0, .int .i64 0, .int .i64 0, .string ⟨#[]⟩, .string ⟨#[]⟩, .bool false]) (by kernel_rfl) (fun _ => by kernel_rfl) ?_
    by_cases h2 : c = ⟨c.e, Ver.zero, false⟩
    · skip
      refine s_val (.bool true) (by kernel_rfl) (op_eq_cut rfl (by kernel_rfl) (by kernel_rfl) (decide_eq_true (h2))) ?_
      refine s_val (.bool true) (by kernel_rfl) (fun _ => by kernel_rfl) ?_
      refine s_nil ?_
      refine fin_seq ?_
      refine ok_ret ?_
      refine fin_block_ret ?_
      refine fin_seq_ret ?_
      refine fin_ret (.bool true) Tryz.results145 (by kernel_rfl) ?_
      exact fun w hO => ⟨by rw [show c.may = true from by first | exact (mayC_1 (by omega)).trans (decide_eq_true (by assumption)) | exact (mayC_1 (by omega)).trans (decide_eq_false (by assumption)) | (rw [mayC_0 (by omega)]; simp [h1, h2]) | (rw [mayC_n (by omega) (by omega)])], hO.below⟩
    · skip
      refine s_val (.bool false) (by kernel_rfl) (op_eq_cut rfl (by kernel_rfl) (by kernel_rfl) (decide_eq_false (h2))) ?_
      refine s_val (.bool false) (by kernel_rfl) (fun _ => by kernel_rfl) ?_
      refine s_nil ?_
      refine fin_seq ?_
      refine ok_ret ?_
      refine fin_block_ret ?_
      refine fin_seq_ret ?_
      refine fin_ret (.bool false) Tryz.results145 (by kernel_rfl) ?_
      exact fun w hO => ⟨by rw [show c.may = false from by first | exact (mayC_1 (by omega)).trans (decide_eq_true (by assumption)) | exact (mayC_1 (by omega)).trans (decide_eq_false (by assumption)) | (rw [mayC_0 (by omega)]; simp [h1, h2]) | (rw [mayC_n (by omega) (by omega)])], hO.below⟩
  · skip
    refine s_dec (p := (c.e : Int) = -1) false (by kernel_rfl) (fun _ => by kernel_rfl) (decide_eq_false (h1)) ?_
    refine s_val (.bool false) (by kernel_rfl) (fun _ => by kernel_rfl) ?_
    refine s_nil ?_
    refine fin_seq ?_
    refine ok_false (by kernel_rfl) ?_
    refine ok_region ?_
    by_cases h3 : (c.e : Int) = 1
    · skip
      refine s_dec (p := (c.e : Int) = 1) true (by kernel_rfl) (fun _ => by kernel_rfl) (decide_eq_true (h3)) ?_
      refine s_val (.bool true) (by kernel_rfl) (fun _ => by kernel_rfl) ?_
      refine s_nil ?_
      refine fin_seq ?_
      refine ok_true (by kernel_rfl) ?_
      refine ok_seq ?_
      refine ok_region ?_
      refine s_load 0 ⟨b1, (cutV c).cells, 48⟩ (off := 0) (cutV c) (by kernel_rfl) rfl (by kernel_rfl) (by kernel_rfl) (by kernel_rfl) ?_
      refine s_val (.pointer (some ⟨b1, 0, none⟩)) (by kernel_rfl) (fun _ => by kernel_rfl) ?_
      refine s_load 0 ⟨b1, (cutV c).cells, 48⟩ (off := 0) (.int .i64 c.e) (by kernel_rfl) rfl (by kernel_rfl) (by kernel_rfl) (by kernel_rfl) ?_
      refine s_val (.agg #[.int .i64 c.e, .int .i64 0, .int .i64 0, .int .i64 0, .string ⟨#[]⟩, .string ⟨#[]⟩, .bool false]) (by kernel_rfl) (fun _ => by kernel_rfl) ?_
      by_cases h4 : c = ⟨c.e, Ver.zero, false⟩
      · skip
        refine s_val (.bool true) (by kernel_rfl) (op_eq_cut rfl (by kernel_rfl) (by kernel_rfl) (decide_eq_true (h4))) ?_
        refine s_val (.bool true) (by kernel_rfl) (fun _ => by kernel_rfl) ?_
        refine s_nil ?_
        refine fin_seq ?_
        refine ok_ret ?_
        refine fin_block_ret ?_
        refine fin_seq_ret ?_
        refine fin_ret (.bool true) Tryz.results145 (by kernel_rfl) ?_
        exact fun w hO => ⟨by rw [show c.may = true from by first | exact (mayC_1 (by omega)).trans (decide_eq_true (by assumption)) | exact (mayC_1 (by omega)).trans (decide_eq_false (by assumption)) | (rw [mayC_0 (by omega)]; simp [h1, h3, h4]) | (rw [mayC_n (by omega) (by omega)])], hO.below⟩
      · skip
        refine s_val (.bool false) (by kernel_rfl) (op_eq_cut rfl (by kernel_rfl) (by kernel_rfl) (decide_eq_false (h4))) ?_
        refine s_val (.bool false) (by kernel_rfl) (fun _ => by kernel_rfl) ?_
        refine s_nil ?_
        refine fin_seq ?_
        refine ok_ret ?_
        refine fin_block_ret ?_
        refine fin_seq_ret ?_
        refine fin_ret (.bool false) Tryz.results145 (by kernel_rfl) ?_
        exact fun w hO => ⟨by rw [show c.may = false from by first | exact (mayC_1 (by omega)).trans (decide_eq_true (by assumption)) | exact (mayC_1 (by omega)).trans (decide_eq_false (by assumption)) | (rw [mayC_0 (by omega)]; simp [h1, h3, h4]) | (rw [mayC_n (by omega) (by omega)])], hO.below⟩
    · skip
      refine s_dec (p := (c.e : Int) = 1) false (by kernel_rfl) (fun _ => by kernel_rfl) (decide_eq_false (h3)) ?_
      refine s_val (.bool false) (by kernel_rfl) (fun _ => by kernel_rfl) ?_
      refine s_nil ?_
      refine fin_seq ?_
      refine ok_false (by kernel_rfl) ?_
      refine ok_seq ?_
      refine ok_region ?_
      by_cases h5 : (c.e : Int) = 0
      · skip
        refine s_dec (p := (c.e : Int) = 0) true (by kernel_rfl) (fun _ => by kernel_rfl) (decide_eq_true (h5)) ?_
        refine s_val (.bool true) (by kernel_rfl) (fun _ => by kernel_rfl) ?_
        refine s_nil ?_
        refine fin_seq ?_
        refine ok_true (by kernel_rfl) ?_
        refine ok_seq ?_
        refine ok_region ?_
        refine s_val (.pointer (some ⟨b1, 1, none⟩)) (by kernel_rfl) (fun _ => by kernel_rfl) ?_
        refine s_val (.pointer (some ⟨b1, 5, none⟩)) (by kernel_rfl) (fun _ => by kernel_rfl) ?_
        refine s_load 0 ⟨b1, (cutV c).cells, 48⟩ (off := 5) (.string (mkS c.v.build)) (by kernel_rfl) rfl (by kernel_rfl) (by kernel_rfl) (by kernel_rfl) ?_
        by_cases h6 : (c.v.build : List UInt8) = []
        · skip
          refine s_val (.bool true) (by kernel_rfl) (run_streql (a := c.v.build) (b := ([])) rfl (by kernel_rfl) (by kernel_rfl) (decide_eq_true (h6))) ?_
          refine s_val (.bool true) (by kernel_rfl) (fun _ => by kernel_rfl) ?_
          refine s_val (.pointer (some ⟨b1, 1, none⟩)) (by kernel_rfl) (fun _ => by kernel_rfl) ?_
          refine s_load 0 ⟨b1, (cutV c).cells, 48⟩ (off := 1) (.agg #[.int .i64 c.v.maj, .int .i64 c.v.min, .int .i64 c.v.pat, .string (mkS c.v.pre), .string (mkS c.v.build)]) (by kernel_rfl) rfl (by kernel_rfl) (by kernel_rfl) (by kernel_rfl) ?_
          refine s_call (k := 47) (args := #[.agg #[.int .i64 c.v.maj, .int .i64 c.v.min, .int .i64 c.v.pat, .string (mkS c.v.pre), .string (mkS c.v.build)]]) (.bool c.v.may) (by kernel_rfl) (fun _ => by kernel_rfl) (fun w _ => may_any c.v w (Nat.lt_of_le_of_lt hc.1 (by decide)) (Nat.lt_of_le_of_lt hc.2 (by decide))) ?_
          refine s_val (.bool c.v.may) (by kernel_rfl) (fun _ => by kernel_rfl) ?_
          refine s_val (.bool c.v.may) (by kernel_rfl) (fun _ => by kernel_rfl) ?_
          refine s_nil ?_
          refine fin_seq ?_
          refine ok_ret ?_
          refine fin_block_ret ?_
          refine fin_seq_ret ?_
          refine fin_ret (.bool c.v.may) Tryz.results145 (by kernel_rfl) ?_
          exact fun w hO => ⟨by rw [show c.may = c.v.may from by first | exact (mayC_1 (by omega)).trans (decide_eq_true (by assumption)) | exact (mayC_1 (by omega)).trans (decide_eq_false (by assumption)) | (rw [mayC_0 (by omega)]; simp [h1, h3, h5, h6]) | (rw [mayC_n (by omega) (by omega)])], hO.below⟩
        · skip
          refine s_val (.bool false) (by kernel_rfl) (run_streql (a := c.v.build) (b := ([])) rfl (by kernel_rfl) (by kernel_rfl) (decide_eq_false (h6))) ?_
          refine s_val (.bool false) (by kernel_rfl) (fun _ => by kernel_rfl) ?_
          refine s_skip (by kernel_rfl) ?_
          refine s_skip (by kernel_rfl) ?_
          refine s_skip (by kernel_rfl) ?_
          refine s_val (.bool false) (by kernel_rfl) (fun _ => by kernel_rfl) ?_
          refine s_val (.bool false) (by kernel_rfl) (fun _ => by kernel_rfl) ?_
          refine s_nil ?_
          refine fin_seq ?_
          refine ok_ret ?_
          refine fin_block_ret ?_
          refine fin_seq_ret ?_
          refine fin_ret (.bool false) Tryz.results145 (by kernel_rfl) ?_
          exact fun w hO => ⟨by rw [show c.may = false from by first | exact (mayC_1 (by omega)).trans (decide_eq_true (by assumption)) | exact (mayC_1 (by omega)).trans (decide_eq_false (by assumption)) | (rw [mayC_0 (by omega)]; simp [h1, h3, h5, h6]) | (rw [mayC_n (by omega) (by omega)])], hO.below⟩
      · skip
        refine s_dec (p := (c.e : Int) = 0) false (by kernel_rfl) (fun _ => by kernel_rfl) (decide_eq_false (h5)) ?_
        refine s_val (.bool false) (by kernel_rfl) (fun _ => by kernel_rfl) ?_
        refine s_nil ?_
        refine fin_seq ?_
        refine ok_false (by kernel_rfl) ?_
        refine ok_skip ?_
        refine fin_block ?_
        refine fin_seq ?_
        refine ok_seq ?_
        refine ok_region ?_
        refine s_val (.bool false) (by kernel_rfl) (fun _ => by kernel_rfl) ?_
        refine s_nil ?_
        refine fin_seq ?_
        refine ok_ret ?_
        refine fin_ret (.bool false) Tryz.results145 (by kernel_rfl) ?_
        exact fun w hO => ⟨by rw [show c.may = false from by first | exact (mayC_1 (by omega)).trans (decide_eq_true (by assumption)) | exact (mayC_1 (by omega)).trans (decide_eq_false (by assumption)) | (rw [mayC_0 (by omega)]; simp [h1, h3, h5]) | (rw [mayC_n (by omega) (by omega)])], hO.below⟩
theorem rmayC_any (c : Cu) (W : World) (hc : c.short) : Calls Tryz.prog 98 #[cutV c] W fun e w' => e = .returned (.bool c.may) ∧ Below W.heap.size W w' := by
  refine calls_ok (n := 34) Tryz.func98 rfl (by kernel_rfl) (by kernel_rfl) ?_
  refine ok_seq ?_
  refine ok_region ?_
  refine s_box (cutV c) (by kernel_rfl) rfl (by kernel_rfl) (fun b1 => ?_)
  refine s_val (.bool false) (by kernel_rfl) (fun _ => by kernel_rfl) ?_
  refine s_nil ?_
  refine fin_seq ?_
  refine ok_seq ?_
  refine ok_seq ?_
  refine ok_region ?_
  refine s_val (.pointer (some ⟨b1, 0, none⟩)) (by kernel_rfl) (fun _ => by kernel_rfl) ?_
  refine s_load 0 ⟨b1, (cutV c).cells, 48⟩ (off := 0) (.int .i64 c.e) (by kernel_rfl) rfl (by kernel_rfl) (by kernel_rfl) (by kernel_rfl) ?_
  by_cases h1 : (c.e : Int) = 0
  · skip
    refine s_dec (p := (c.e : Int) = 0) true (by kernel_rfl) (fun _ => by kernel_rfl) (decide_eq_true (h1)) ?_
    refine s_nil ?_
    refine fin_seq ?_
    refine ok_true (by kernel_rfl) ?_
    refine ok_seq ?_
    refine ok_region ?_
    refine s_val (.pointer (some ⟨b1, 1, none⟩)) (by kernel_rfl) (fun _ => by kernel_rfl) ?_
    refine s_load 0 ⟨b1, (cutV c).cells, 48⟩ (off := 1) (.agg #[.int .i64 c.v.maj, .int .i64 c.v.min, .int .i64 c.v.pat, .string (mkS c.v.pre), .string (mkS c.v.build)]) (by kernel_rfl) rfl (by kernel_rfl) (by kernel_rfl) (by kernel_rfl) ?_
    refine s_call (k := 48) (args := #[.agg #[.int .i64 c.v.maj, .int .i64 c.v.min, .int .i64 c.v.pat, .string (mkS c.v.pre), .string (mkS c.v.build)]]) (.bool c.v.may) (by kernel_rfl) (fun _ => by kernel_rfl) (fun w _ => rmay_any c.v w hc.1 hc.2) ?_
    refine s_val (.bool c.v.may) (by kernel_rfl) (fun _ => by kernel_rfl) ?_
    cases h2 : c.v.may with
    | true =>
      refine s_val (.pointer (some ⟨b1, 1, none⟩)) (by kernel_rfl) (fun _ => by kernel_rfl) ?_
      refine s_val (.pointer (some ⟨b1, 5, none⟩)) (by kernel_rfl) (fun _ => by kernel_rfl) ?_
      refine s_load 0 ⟨b1, (cutV c).cells, 48⟩ (off := 5) (.string (mkS c.v.build)) (by kernel_rfl) rfl (by kernel_rfl) (by kernel_rfl) (by kernel_rfl) ?_
      by_cases h3 : (c.v.build : List UInt8) = []
      · skip
        refine s_val (.bool true) (by kernel_rfl) (run_streql (a := c.v.build) (b := ([])) rfl (by kernel_rfl) (by kernel_rfl) (decide_eq_true (h3))) ?_
        refine s_val (.bool true) (by kernel_rfl) (fun _ => by kernel_rfl) ?_
        refine s_val (.bool true) (by kernel_rfl) (fun _ => by kernel_rfl) ?_
        refine s_nil ?_
        refine fin_seq ?_
        refine ok_ret ?_
        refine fin_seq_ret ?_
        refine fin_ret (.bool true) Tryz.results98 (by kernel_rfl) ?_
        exact fun w hO => ⟨by rw [show c.may = true from by unfold Cu.may; simp [h1, h2, h3]], hO.below⟩
      · skip
        refine s_val (.bool false) (by kernel_rfl) (run_streql (a := c.v.build) (b := ([])) rfl (by kernel_rfl) (by kernel_rfl) (decide_eq_false (h3))) ?_
        refine s_val (.bool false) (by kernel_rfl) (fun _ => by kernel_rfl) ?_
        refine s_val (.bool false) (by kernel_rfl) (fun _ => by kernel_rfl) ?_
        refine s_nil ?_
        refine fin_seq ?_
        refine ok_ret ?_
        refine fin_seq_ret ?_
        refine fin_ret (.bool false) Tryz.results98 (by kernel_rfl) ?_
        exact fun w hO => ⟨by rw [show c.may = false from by unfold Cu.may; simp [h1, h2, h3]], hO.below⟩
    | false =>
      refine s_skip (by kernel_rfl) ?_
      refine s_skip (by kernel_rfl) ?_
      refine s_skip (by kernel_rfl) ?_
      refine s_skip (by kernel_rfl) ?_
      refine s_val (.bool false) (by kernel_rfl) (fun _ => by kernel_rfl) ?_
      refine s_val (.bool false) (by kernel_rfl) (fun _ => by kernel_rfl) ?_
      refine s_nil ?_
      refine fin_seq ?_
      refine ok_ret ?_
      refine fin_seq_ret ?_
      refine fin_ret (.bool false) Tryz.results98 (by kernel_rfl) ?_
      exact fun w hO => ⟨by rw [show c.may = false from by unfold Cu.may; simp [h1, h2]], hO.below⟩
  · skip
    refine s_dec (p := (c.e : Int) = 0) false (by kernel_rfl) (fun _ => by kernel_rfl) (decide_eq_false (h1)) ?_
    refine s_nil ?_
    refine fin_seq ?_
    refine ok_false (by kernel_rfl) ?_
    refine ok_skip ?_
    refine fin_seq ?_
    refine ok_seq ?_
    refine ok_region ?_
    refine s_val (.pointer (some ⟨b1, 0, none⟩)) (by kernel_rfl) (fun _ => by kernel_rfl) ?_
    refine s_load 0 ⟨b1, (cutV c).cells, 48⟩ (off := 0) (.int .i64 c.e) (by kernel_rfl) rfl (by kernel_rfl) (by kernel_rfl) (by kernel_rfl) ?_
    by_cases h4 : (c.e : Int) = -1
    · skip
      refine s_dec (p := (c.e : Int) = -1) true (by kernel_rfl) (fun _ => by kernel_rfl) (decide_eq_true (h4)) ?_
      refine s_val (.bool true) (by kernel_rfl) (fun _ => by kernel_rfl) ?_
      refine s_skip (by kernel_rfl) ?_
      refine s_skip (by kernel_rfl) ?_
      refine s_skip (by kernel_rfl) ?_
      refine s_val (.bool true) (by kernel_rfl) (fun _ => by kernel_rfl) ?_
      refine s_val (.bool true) (by kernel_rfl) (fun _ => by kernel_rfl) ?_
      refine s_val (.pointer (some ⟨b1, 1, none⟩)) (by kernel_rfl) (fun _ => by kernel_rfl) ?_
      refine s_load 0 ⟨b1, (cutV c).cells, 48⟩ (off := 1) (.agg #[.int .i64 c.v.maj, .int .i64 c.v.min, .int .i64 c.v.pat, .string (mkS c.v.pre), .string (mkS c.v.build)]) (by kernel_rfl) rfl (by kernel_rfl) (by kernel_rfl) (by kernel_rfl) ?_
      refine s_val (.agg #[.int .i64 0, .int .i64 0, .int .i64 0, .string ⟨#[]⟩, .string ⟨#[]⟩]) (by kernel_rfl) (fun _ => by kernel_rfl) ?_
      by_cases h5 : c.v = Ver.zero
      · skip
        refine s_val (.bool true) (by kernel_rfl) (op_eq_ver rfl (by kernel_rfl) (by kernel_rfl) (decide_eq_true (h5))) ?_
        refine s_val (.bool true) (by kernel_rfl) (fun _ => by kernel_rfl) ?_
        refine s_val (.bool true) (by kernel_rfl) (fun _ => by kernel_rfl) ?_
        refine s_val (.pointer (some ⟨b1, 6, none⟩)) (by kernel_rfl) (fun _ => by kernel_rfl) ?_
        refine s_load 0 ⟨b1, (cutV c).cells, 48⟩ (off := 6) (.bool c.aft) (by kernel_rfl) rfl (by kernel_rfl) (by kernel_rfl) (by kernel_rfl) ?_
        cases h6 : c.aft with
        | true =>
          refine s_val (.bool false) (by kernel_rfl) (fun _ => by kernel_rfl) ?_
          refine s_val (.bool false) (by kernel_rfl) (fun _ => by kernel_rfl) ?_
          refine s_val (.bool false) (by kernel_rfl) (fun _ => by kernel_rfl) ?_
          refine s_nil ?_
          refine fin_seq ?_
          refine ok_ret ?_
          refine fin_ret (.bool false) Tryz.results98 (by kernel_rfl) ?_
          exact fun w hO => ⟨by rw [show c.may = false from by unfold Cu.may; simp [h1, h4, h5, h6]], hO.below⟩
        | false =>
          refine s_val (.bool true) (by kernel_rfl) (fun _ => by kernel_rfl) ?_
          refine s_val (.bool true) (by kernel_rfl) (fun _ => by kernel_rfl) ?_
          refine s_val (.bool true) (by kernel_rfl) (fun _ => by kernel_rfl) ?_
          refine s_nil ?_
          refine fin_seq ?_
          refine ok_ret ?_
          refine fin_ret (.bool true) Tryz.results98 (by kernel_rfl) ?_
          exact fun w hO => ⟨by rw [show c.may = true from by unfold Cu.may; simp [h1, h4, h5, h6]], hO.below⟩
      · skip
        refine s_val (.bool false) (by kernel_rfl) (op_eq_ver rfl (by kernel_rfl) (by kernel_rfl) (decide_eq_false (h5))) ?_
        refine s_val (.bool false) (by kernel_rfl) (fun _ => by kernel_rfl) ?_
        refine s_val (.bool false) (by kernel_rfl) (fun _ => by kernel_rfl) ?_
        refine s_skip (by kernel_rfl) ?_
        refine s_skip (by kernel_rfl) ?_
        refine s_skip (by kernel_rfl) ?_
        refine s_val (.bool false) (by kernel_rfl) (fun _ => by kernel_rfl) ?_
        refine s_val (.bool false) (by kernel_rfl) (fun _ => by kernel_rfl) ?_
        refine s_nil ?_
        refine fin_seq ?_
        refine ok_ret ?_
        refine fin_ret (.bool false) Tryz.results98 (by kernel_rfl) ?_
        exact fun w hO => ⟨by rw [show c.may = false from by unfold Cu.may; simp [h1, h4, h5]], hO.below⟩
    · skip
      refine s_dec (p := (c.e : Int) = -1) false (by kernel_rfl) (fun _ => by kernel_rfl) (decide_eq_false (h4)) ?_
      refine s_val (.bool false) (by kernel_rfl) (fun _ => by kernel_rfl) ?_
      refine s_val (.pointer (some ⟨b1, 0, none⟩)) (by kernel_rfl) (fun _ => by kernel_rfl) ?_
      refine s_load 0 ⟨b1, (cutV c).cells, 48⟩ (off := 0) (.int .i64 c.e) (by kernel_rfl) rfl (by kernel_rfl) (by kernel_rfl) (by kernel_rfl) ?_
      by_cases h7 : (c.e : Int) = 1
      · skip
        refine s_dec (p := (c.e : Int) = 1) true (by kernel_rfl) (fun _ => by kernel_rfl) (decide_eq_true (h7)) ?_
        refine s_val (.bool true) (by kernel_rfl) (fun _ => by kernel_rfl) ?_
        refine s_val (.bool true) (by kernel_rfl) (fun _ => by kernel_rfl) ?_
        refine s_val (.pointer (some ⟨b1, 1, none⟩)) (by kernel_rfl) (fun _ => by kernel_rfl) ?_
        refine s_load 0 ⟨b1, (cutV c).cells, 48⟩ (off := 1) (.agg #[.int .i64 c.v.maj, .int .i64 c.v.min, .int .i64 c.v.pat, .string (mkS c.v.pre), .string (mkS c.v.build)]) (by kernel_rfl) rfl (by kernel_rfl) (by kernel_rfl) (by kernel_rfl) ?_
        refine s_val (.agg #[.int .i64 0, .int .i64 0, .int .i64 0, .string ⟨#[]⟩, .string ⟨#[]⟩]) (by kernel_rfl) (fun _ => by kernel_rfl) ?_
        by_cases h8 : c.v = Ver.zero
        · skip
          refine s_val (.bool true) (by kernel_rfl) (op_eq_ver rfl (by kernel_rfl) (by kernel_rfl) (decide_eq_true (h8))) ?_
          refine s_val (.bool true) (by kernel_rfl) (fun _ => by kernel_rfl) ?_
          refine s_val (.bool true) (by kernel_rfl) (fun _ => by kernel_rfl) ?_
          refine s_val (.pointer (some ⟨b1, 6, none⟩)) (by kernel_rfl) (fun _ => by kernel_rfl) ?_
          refine s_load 0 ⟨b1, (cutV c).cells, 48⟩ (off := 6) (.bool c.aft) (by kernel_rfl) rfl (by kernel_rfl) (by kernel_rfl) (by kernel_rfl) ?_
          cases h9 : c.aft with
          | true =>
            refine s_val (.bool false) (by kernel_rfl) (fun _ => by kernel_rfl) ?_
            refine s_val (.bool false) (by kernel_rfl) (fun _ => by kernel_rfl) ?_
            refine s_val (.bool false) (by kernel_rfl) (fun _ => by kernel_rfl) ?_
            refine s_nil ?_
            refine fin_seq ?_
            refine ok_ret ?_
            refine fin_ret (.bool false) Tryz.results98 (by kernel_rfl) ?_
            exact fun w hO => ⟨by rw [show c.may = false from by unfold Cu.may; simp [h1, h4, h7, h8, h9]], hO.below⟩
          | false =>
            refine s_val (.bool true) (by kernel_rfl) (fun _ => by kernel_rfl) ?_
            refine s_val (.bool true) (by kernel_rfl) (fun _ => by kernel_rfl) ?_
            refine s_val (.bool true) (by kernel_rfl) (fun _ => by kernel_rfl) ?_
            refine s_nil ?_
            refine fin_seq ?_
            refine ok_ret ?_
            refine fin_ret (.bool true) Tryz.results98 (by kernel_rfl) ?_
            exact fun w hO => ⟨by rw [show c.may = true from by unfold Cu.may; simp [h1, h4, h7, h8, h9]], hO.below⟩
        · skip
          refine s_val (.bool false) (by kernel_rfl) (op_eq_ver rfl (by kernel_rfl) (by kernel_rfl) (decide_eq_false (h8))) ?_
          refine s_val (.bool false) (by kernel_rfl) (fun _ => by kernel_rfl) ?_
          refine s_val (.bool false) (by kernel_rfl) (fun _ => by kernel_rfl) ?_
          refine s_skip (by kernel_rfl) ?_
          refine s_skip (by kernel_rfl) ?_
          refine s_skip (by kernel_rfl) ?_
          refine s_val (.bool false) (by kernel_rfl) (fun _ => by kernel_rfl) ?_
          refine s_val (.bool false) (by kernel_rfl) (fun _ => by kernel_rfl) ?_
          refine s_nil ?_
          refine fin_seq ?_
          refine ok_ret ?_
          refine fin_ret (.bool false) Tryz.results98 (by kernel_rfl) ?_
          exact fun w hO => ⟨by rw [show c.may = false from by unfold Cu.may; simp [h1, h4, h7, h8]], hO.below⟩
      · skip
        refine s_dec (p := (c.e : Int) = 1) false (by kernel_rfl) (fun _ => by kernel_rfl) (decide_eq_false (h7)) ?_
        refine s_val (.bool false) (by kernel_rfl) (fun _ => by kernel_rfl) ?_
        refine s_val (.bool false) (by kernel_rfl) (fun _ => by kernel_rfl) ?_
        refine s_skip (by kernel_rfl) ?_
        refine s_skip (by kernel_rfl) ?_
        refine s_skip (by kernel_rfl) ?_
        refine s_skip (by kernel_rfl) ?_
        refine s_val (.bool false) (by kernel_rfl) (fun _ => by kernel_rfl) ?_
        refine s_val (.bool false) (by kernel_rfl) (fun _ => by kernel_rfl) ?_
        refine s_skip (by kernel_rfl) ?_
        refine s_skip (by kernel_rfl) ?_
        refine s_skip (by kernel_rfl) ?_
        refine s_val (.bool false) (by kernel_rfl) (fun _ => by kernel_rfl) ?_
        refine s_val (.bool false) (by kernel_rfl) (fun _ => by kernel_rfl) ?_
        refine s_nil ?_
        refine fin_seq ?_
        refine ok_ret ?_
        refine fin_ret (.bool false) Tryz.results98 (by kernel_rfl) ?_
        exact fun w hO => ⟨by rw [show c.may = false from by unfold Cu.may; simp [h1, h4, h7]], hO.below⟩
theorem cmpC_any (a b : Cu) (W : World) (ha : a.short) (hb : b.short) : Calls Tryz.prog 127 #[cutV a, cutV b] W fun e w' => e = .returned (.int .i64 (cmpC a b)) ∧ Below W.heap.size W w' := by
  refine calls_ok (n := 22) Tryz.func127 rfl (by kernel_rfl) (by kernel_rfl) ?_
  refine ok_seq ?_
  refine ok_region ?_
  refine s_box (cutV a) (by kernel_rfl) rfl (by kernel_rfl) (fun b1 => ?_)
  refine s_box (cutV b) (by kernel_rfl) rfl (by kernel_rfl) (fun b2 => ?_)
  refine s_val (.int .i64 0) (by kernel_rfl) (fun _ => by kernel_rfl) ?_
  refine s_nil ?_
  refine fin_seq ?_
  refine ok_seq ?_
  refine ok_block ?_
  refine ok_seq ?_
  refine ok_region ?_
  refine s_load 1 ⟨b1, (cutV a).cells, 48⟩ (off := 0) (cutV a) (by kernel_rfl) rfl (by kernel_rfl) (by kernel_rfl) (by kernel_rfl) ?_
  refine s_call (k := 145) (args := #[cutV a]) (.bool a.may) (by kernel_rfl) (fun _ => by kernel_rfl) (fun w _ => mayC_any a w ha) ?_
  cases h1 : a.may with
  | true =>
    refine s_val (.bool false) (by kernel_rfl) (fun _ => by kernel_rfl) ?_
    refine s_val (.bool false) (by kernel_rfl) (fun _ => by kernel_rfl) ?_
    refine s_load 0 ⟨b2, (cutV b).cells, 48⟩ (off := 0) (cutV b) (by kernel_rfl) rfl (by kernel_rfl) (by kernel_rfl) (by kernel_rfl) ?_
    refine s_call (k := 145) (args := #[cutV b]) (.bool b.may) (by kernel_rfl) (fun _ => by kernel_rfl) (fun w _ => mayC_any b w hb) ?_
    cases h2 : b.may with
    | true =>
      refine s_val (.bool false) (by kernel_rfl) (fun _ => by kernel_rfl) ?_
      refine s_val (.bool false) (by kernel_rfl) (fun _ => by kernel_rfl) ?_
      refine s_val (.bool false) (by kernel_rfl) (fun _ => by kernel_rfl) ?_
      refine s_nil ?_
      refine fin_seq ?_
      refine ok_false (by kernel_rfl) ?_
      refine ok_seq ?_
      refine ok_region ?_
      refine s_load 1 ⟨b1, (cutV a).cells, 48⟩ (off := 0) (cutV a) (by kernel_rfl) rfl (by kernel_rfl) (by kernel_rfl) (by kernel_rfl) ?_
      refine s_load 0 ⟨b2, (cutV b).cells, 48⟩ (off := 0) (cutV b) (by kernel_rfl) rfl (by kernel_rfl) (by kernel_rfl) (by kernel_rfl) ?_
      refine s_call (k := 146) (args := #[cutV a, cutV b]) (.bool (lessC a b)) (by kernel_rfl) (fun _ => by kernel_rfl) (fun w _ => less_any a b w ha hb) ?_
      refine s_val (.bool (lessC a b)) (by kernel_rfl) (fun _ => by kernel_rfl) ?_
      refine s_nil ?_
      refine fin_seq ?_
      cases h3 : lessC a b with
      | true =>
        refine ok_true (by kernel_rfl) ?_
        refine ok_seq ?_
        refine ok_region ?_
        refine s_val (.int .i64 (-1)) (by kernel_rfl) (fun _ => by kernel_rfl) ?_
        refine s_nil ?_
        refine fin_seq ?_
        refine ok_ret ?_
        refine fin_block_ret ?_
        refine fin_seq_ret ?_
        refine fin_ret (.int .i64 (-1)) Tryz.results127 (by kernel_rfl) ?_
        exact fun w hO => ⟨by rw [show cmpC a b = (-1) from by first | (rw [less_cmpC (by assumption) (by assumption)]; simp [h1, h2, h3]) | (exact cmpC_bad (.inl (by assumption))) | (exact cmpC_bad (.inr (by assumption)))], hO.below⟩
      | false =>
        refine ok_false (by kernel_rfl) ?_
        refine ok_seq ?_
        refine ok_region ?_
        refine s_load 0 ⟨b2, (cutV b).cells, 48⟩ (off := 0) (cutV b) (by kernel_rfl) rfl (by kernel_rfl) (by kernel_rfl) (by kernel_rfl) ?_
        refine s_load 1 ⟨b1, (cutV a).cells, 48⟩ (off := 0) (cutV a) (by kernel_rfl) rfl (by kernel_rfl) (by kernel_rfl) (by kernel_rfl) ?_
        refine s_call (k := 146) (args := #[cutV b, cutV a]) (.bool (lessC b a)) (by kernel_rfl) (fun _ => by kernel_rfl) (fun w _ => less_any b a w hb ha) ?_
        refine s_val (.bool (lessC b a)) (by kernel_rfl) (fun _ => by kernel_rfl) ?_
        refine s_nil ?_
        refine fin_seq ?_
        cases h4 : lessC b a with
        | true =>
          refine ok_true (by kernel_rfl) ?_
          refine ok_seq ?_
          refine ok_region ?_
          refine s_val (.int .i64 1) (by kernel_rfl) (fun _ => by kernel_rfl) ?_
          refine s_nil ?_
          refine fin_seq ?_
          refine ok_ret ?_
          refine fin_block_ret ?_
          refine fin_seq_ret ?_
          refine fin_ret (.int .i64 1) Tryz.results127 (by kernel_rfl) ?_
          exact fun w hO => ⟨by rw [show cmpC a b = 1 from by first | (rw [less_cmpC (by assumption) (by assumption)]; simp [h1, h2, h3, h4]) | (exact cmpC_bad (.inl (by assumption))) | (exact cmpC_bad (.inr (by assumption)))], hO.below⟩
        | false =>
          refine ok_false (by kernel_rfl) ?_
          refine ok_skip ?_
          refine fin_block ?_
          refine fin_seq ?_
          refine ok_seq ?_
          refine ok_region ?_
          refine s_val (.int .i64 0) (by kernel_rfl) (fun _ => by kernel_rfl) ?_
          refine s_nil ?_
          refine fin_seq ?_
          refine ok_ret ?_
          refine fin_ret (.int .i64 0) Tryz.results127 (by kernel_rfl) ?_
          exact fun w hO => ⟨by rw [show cmpC a b = 0 from by first | (rw [less_cmpC (by assumption) (by assumption)]; simp [h1, h2, h3, h4]) | (exact cmpC_bad (.inl (by assumption))) | (exact cmpC_bad (.inr (by assumption)))], hO.below⟩
    | false =>
      refine s_val (.bool true) (by kernel_rfl) (fun _ => by kernel_rfl) ?_
      refine s_val (.bool true) (by kernel_rfl) (fun _ => by kernel_rfl) ?_
      refine s_val (.bool true) (by kernel_rfl) (fun _ => by kernel_rfl) ?_
      refine s_nil ?_
      refine fin_seq ?_
      refine ok_true (by kernel_rfl) ?_
      refine ok_seq ?_
      refine ok_region ?_
      refine s_val (.int .i64 0) (by kernel_rfl) (fun _ => by kernel_rfl) ?_
      refine s_nil ?_
      refine fin_seq ?_
      refine ok_ret ?_
      refine fin_block_ret ?_
      refine fin_seq_ret ?_
      refine fin_ret (.int .i64 0) Tryz.results127 (by kernel_rfl) ?_
      exact fun w hO => ⟨by rw [show cmpC a b = 0 from by first | (rw [less_cmpC (by assumption) (by assumption)]; simp [h1, h2]) | (exact cmpC_bad (.inl (by assumption))) | (exact cmpC_bad (.inr (by assumption)))], hO.below⟩
  | false =>
    refine s_val (.bool true) (by kernel_rfl) (fun _ => by kernel_rfl) ?_
    refine s_val (.bool true) (by kernel_rfl) (fun _ => by kernel_rfl) ?_
    refine s_skip (by kernel_rfl) ?_
    refine s_skip (by kernel_rfl) ?_
    refine s_skip (by kernel_rfl) ?_
    refine s_val (.bool true) (by kernel_rfl) (fun _ => by kernel_rfl) ?_
    refine s_val (.bool true) (by kernel_rfl) (fun _ => by kernel_rfl) ?_
    refine s_nil ?_
    refine fin_seq ?_
    refine ok_true (by kernel_rfl) ?_
    refine ok_seq ?_
    refine ok_region ?_
    refine s_val (.int .i64 0) (by kernel_rfl) (fun _ => by kernel_rfl) ?_
    refine s_nil ?_
    refine fin_seq ?_
    refine ok_ret ?_
    refine fin_block_ret ?_
    refine fin_seq_ret ?_
    refine fin_ret (.int .i64 0) Tryz.results127 (by kernel_rfl) ?_
    exact fun w hO => ⟨by rw [show cmpC a b = 0 from by first | (rw [less_cmpC (by assumption) (by assumption)]; simp [h1]) | (exact cmpC_bad (.inl (by assumption))) | (exact cmpC_bad (.inr (by assumption)))], hO.below⟩
theorem rcmpC_eq {a b : Cu} {r : Int} (ha : a.may = true) (hb : b.may = true) (h : (if a.e ≠ b.e ∨ a.e ≠ 0 then Lib.compareInt a.e b.e else if cmpR a.v b.v ≠ 0 then cmpR a.v b.v else if a.aft = b.aft then 0 else if b.aft then -1 else 1) = r) : cmpC a b = r := by
  rw [← h, cmpC_good ha hb]
  by_cases he : a.e = b.e
  · rw [he, compareInt_self, lex_0]
    by_cases h0 : b.e = 0
    · rw [if_neg (by omega)]
      unfold lex
      by_cases hc : cmpR a.v b.v = 0
      · rw [if_pos hc, if_neg (by simpa using hc)]
        cases a.aft <;> cases b.aft <;> rfl
      · rw [if_neg hc, if_pos hc]
    · rw [if_pos (.inr h0)]
      have e1 : a.v = Ver.zero ∧ a.aft = false := (may_e ha).elim (fun x => absurd (he ▸ x.1) h0) (fun x => x.2)
      have e2 : b.v = Ver.zero ∧ b.aft = false := (may_e hb).elim (fun x => absurd x.1 h0) (fun x => x.2)
      rw [e1.1, e1.2, e2.1, e2.2, order_self]; rfl
  · rw [if_pos (.inl he)]
    rcases Int.lt_or_gt_of_ne he with h | h
    · rw [ci_lt h]; rfl
    · rw [ci_gt h]; rfl
theorem rcmpC_any (a b : Cu) (W : World) (ha : a.short) (hb : b.short) : Calls Tryz.prog 56 #[cutV a, cutV b] W fun e w' => e = .returned (.int .i64 (cmpC a b)) ∧ Below W.heap.size W w' := by
  refine calls_ok (n := 46) Tryz.func56 rfl (by kernel_rfl) (by kernel_rfl) ?_
  refine ok_seq ?_
  refine ok_region ?_
  refine s_box (cutV a) (by kernel_rfl) rfl (by kernel_rfl) (fun b1 => ?_)
  refine s_box (cutV b) (by kernel_rfl) rfl (by kernel_rfl) (fun b2 => ?_)
  refine s_val (.int .i64 0) (by kernel_rfl) (fun _ => by kernel_rfl) ?_
  refine s_nil ?_
  refine fin_seq ?_
  refine ok_seq ?_
  refine ok_seq ?_
  refine ok_region ?_
  refine s_load 1 ⟨b1, (cutV a).cells, 48⟩ (off := 0) (cutV a) (by kernel_rfl) rfl (by kernel_rfl) (by kernel_rfl) (by kernel_rfl) ?_
  refine s_call (k := 98) (args := #[cutV a]) (.bool a.may) (by kernel_rfl) (fun _ => by kernel_rfl) (fun w _ => rmayC_any a w ha) ?_
  cases h1 : a.may with
  | true =>
    refine s_val (.bool false) (by kernel_rfl) (fun _ => by kernel_rfl) ?_
    refine s_val (.bool false) (by kernel_rfl) (fun _ => by kernel_rfl) ?_
    refine s_load 0 ⟨b2, (cutV b).cells, 48⟩ (off := 0) (cutV b) (by kernel_rfl) rfl (by kernel_rfl) (by kernel_rfl) (by kernel_rfl) ?_
    refine s_call (k := 98) (args := #[cutV b]) (.bool b.may) (by kernel_rfl) (fun _ => by kernel_rfl) (fun w _ => rmayC_any b w hb) ?_
    cases h2 : b.may with
    | true =>
      refine s_val (.bool false) (by kernel_rfl) (fun _ => by kernel_rfl) ?_
      refine s_val (.bool false) (by kernel_rfl) (fun _ => by kernel_rfl) ?_
      refine s_nil ?_
      refine fin_seq ?_
      refine ok_false (by kernel_rfl) ?_
      refine ok_skip ?_
      refine fin_seq ?_
      refine ok_seq ?_
      refine ok_seq ?_
      refine ok_region ?_
      refine s_val (.pointer (some ⟨b1, 0, none⟩)) (by kernel_rfl) (fun _ => by kernel_rfl) ?_
      refine s_load 1 ⟨b1, (cutV a).cells, 48⟩ (off := 0) (.int .i64 a.e) (by kernel_rfl) rfl (by kernel_rfl) (by kernel_rfl) (by kernel_rfl) ?_
      refine s_val (.pointer (some ⟨b2, 0, none⟩)) (by kernel_rfl) (fun _ => by kernel_rfl) ?_
      refine s_load 0 ⟨b2, (cutV b).cells, 48⟩ (off := 0) (.int .i64 b.e) (by kernel_rfl) rfl (by kernel_rfl) (by kernel_rfl) (by kernel_rfl) ?_
      by_cases h3 : (a.e : Int) = b.e
      · skip
        refine s_ndec (p := (a.e : Int) = b.e) true (by kernel_rfl) (fun _ => by kernel_rfl) (decide_eq_true (h3)) ?_
        refine s_val (.bool false) (by kernel_rfl) (fun _ => by kernel_rfl) ?_
        refine s_val (.pointer (some ⟨b1, 0, none⟩)) (by kernel_rfl) (fun _ => by kernel_rfl) ?_
        refine s_load 1 ⟨b1, (cutV a).cells, 48⟩ (off := 0) (.int .i64 a.e) (by kernel_rfl) rfl (by kernel_rfl) (by kernel_rfl) (by kernel_rfl) ?_
        by_cases h4 : (a.e : Int) = 0
        · skip
          refine s_ndec (p := (a.e : Int) = 0) true (by kernel_rfl) (fun _ => by kernel_rfl) (decide_eq_true (h4)) ?_
          refine s_val (.bool false) (by kernel_rfl) (fun _ => by kernel_rfl) ?_
          refine s_nil ?_
          refine fin_seq ?_
          refine ok_false (by kernel_rfl) ?_
          refine ok_skip ?_
          refine fin_seq ?_
          refine ok_seq ?_
          refine ok_seq ?_
          refine ok_region ?_
          refine s_val (.pointer (some ⟨b1, 1, none⟩)) (by kernel_rfl) (fun _ => by kernel_rfl) ?_
          refine s_load 1 ⟨b1, (cutV a).cells, 48⟩ (off := 1) (.agg #[.int .i64 a.v.maj, .int .i64 a.v.min, .int .i64 a.v.pat, .string (mkS a.v.pre), .string (mkS a.v.build)]) (by kernel_rfl) rfl (by kernel_rfl) (by kernel_rfl) (by kernel_rfl) ?_
          refine s_val (.pointer (some ⟨b2, 1, none⟩)) (by kernel_rfl) (fun _ => by kernel_rfl) ?_
          refine s_load 0 ⟨b2, (cutV b).cells, 48⟩ (off := 1) (.agg #[.int .i64 b.v.maj, .int .i64 b.v.min, .int .i64 b.v.pat, .string (mkS b.v.pre), .string (mkS b.v.build)]) (by kernel_rfl) rfl (by kernel_rfl) (by kernel_rfl) (by kernel_rfl) ?_
          refine s_call (k := 100) (args := #[.agg #[.int .i64 a.v.maj, .int .i64 a.v.min, .int .i64 a.v.pat, .string (mkS a.v.pre), .string (mkS a.v.build)], .agg #[.int .i64 b.v.maj, .int .i64 b.v.min, .int .i64 b.v.pat, .string (mkS b.v.pre), .string (mkS b.v.build)]]) (.int .i64 (cmpR a.v b.v)) (by kernel_rfl) (fun _ => by kernel_rfl) (fun w _ => rcompare_any a.v b.v w ha.1 ha.2 hb.1 hb.2) ?_
          refine s_val (.int .i64 (cmpR a.v b.v)) (by kernel_rfl) (fun _ => by kernel_rfl) ?_
          refine s_nil ?_
          refine fin_seq ?_
          refine ok_seq ?_
          refine ok_region ?_
          refine s_val (.int .i64 (cmpR a.v b.v)) (by kernel_rfl) (fun _ => by kernel_rfl) ?_
          by_cases h5 : (cmpR a.v b.v : Int) = 0
          · skip
            refine s_ndec (p := (cmpR a.v b.v : Int) = 0) true (by kernel_rfl) (fun _ => by kernel_rfl) (decide_eq_true (h5)) ?_
            refine s_nil ?_
            refine fin_seq ?_
            refine ok_false (by kernel_rfl) ?_
            refine ok_skip ?_
            refine fin_seq ?_
            refine ok_seq ?_
            refine ok_block ?_
            refine ok_seq ?_
            refine ok_region ?_
            refine s_val (.pointer (some ⟨b1, 6, none⟩)) (by kernel_rfl) (fun _ => by kernel_rfl) ?_
            refine s_load 1 ⟨b1, (cutV a).cells, 48⟩ (off := 6) (.bool a.aft) (by kernel_rfl) rfl (by kernel_rfl) (by kernel_rfl) (by kernel_rfl) ?_
            refine s_val (.pointer (some ⟨b2, 6, none⟩)) (by kernel_rfl) (fun _ => by kernel_rfl) ?_
            refine s_load 0 ⟨b2, (cutV b).cells, 48⟩ (off := 6) (.bool b.aft) (by kernel_rfl) rfl (by kernel_rfl) (by kernel_rfl) (by kernel_rfl) ?_
            cases h6 : a.aft with
            | true =>
              cases h7 : b.aft with
              | true =>
                refine s_val (.bool true) (by kernel_rfl) (fun _ => by kernel_rfl) ?_
                refine s_val (.bool true) (by kernel_rfl) (fun _ => by kernel_rfl) ?_
                refine s_nil ?_
                refine fin_seq ?_
                refine ok_true (by kernel_rfl) ?_
                refine ok_seq ?_
                refine ok_region ?_
                refine s_val (.int .i64 0) (by kernel_rfl) (fun _ => by kernel_rfl) ?_
                refine s_nil ?_
                refine fin_seq ?_
                refine ok_ret ?_
                refine fin_block_ret ?_
                refine fin_seq_ret ?_
                refine fin_ret (.int .i64 0) Tryz.results56 (by kernel_rfl) ?_
                exact fun w hO => ⟨by rw [show cmpC a b = 0 from by first | (exact cmpC_bad (.inl (by assumption))) | (exact cmpC_bad (.inr (by assumption))) | exact rcmpC_eq (by assumption) (by assumption) (by simp_all)], hO.below⟩
              | false =>
                refine s_val (.bool false) (by kernel_rfl) (fun _ => by kernel_rfl) ?_
                refine s_val (.bool false) (by kernel_rfl) (fun _ => by kernel_rfl) ?_
                refine s_nil ?_
                refine fin_seq ?_
                refine ok_false (by kernel_rfl) ?_
                refine ok_seq ?_
                refine ok_region ?_
                refine s_val (.pointer (some ⟨b2, 6, none⟩)) (by kernel_rfl) (fun _ => by kernel_rfl) ?_
                refine s_load 0 ⟨b2, (cutV b).cells, 48⟩ (off := 6) (.bool b.aft) (by kernel_rfl) rfl (by kernel_rfl) (by kernel_rfl) (by kernel_rfl) ?_
                rw [h7]
                refine s_val (.bool false) (by kernel_rfl) (fun _ => by kernel_rfl) ?_
                refine s_nil ?_
                refine fin_seq ?_
                refine ok_false (by kernel_rfl) ?_
                refine ok_skip ?_
                refine fin_block ?_
                refine fin_seq ?_
                refine ok_seq ?_
                refine ok_region ?_
                refine s_val (.int .i64 1) (by kernel_rfl) (fun _ => by kernel_rfl) ?_
                refine s_nil ?_
                refine fin_seq ?_
                refine ok_ret ?_
                refine fin_ret (.int .i64 1) Tryz.results56 (by kernel_rfl) ?_
                exact fun w hO => ⟨by rw [show cmpC a b = 1 from by first | (exact cmpC_bad (.inl (by assumption))) | (exact cmpC_bad (.inr (by assumption))) | exact rcmpC_eq (by assumption) (by assumption) (by simp_all)], hO.below⟩
            | false =>
              cases h8 : b.aft with
              | true =>
                refine s_val (.bool false) (by kernel_rfl) (fun _ => by kernel_rfl) ?_
                refine s_val (.bool false) (by kernel_rfl) (fun _ => by kernel_rfl) ?_
                refine s_nil ?_
                refine fin_seq ?_
                refine ok_false (by kernel_rfl) ?_
                refine ok_seq ?_
                refine ok_region ?_
                refine s_val (.pointer (some ⟨b2, 6, none⟩)) (by kernel_rfl) (fun _ => by kernel_rfl) ?_
                refine s_load 0 ⟨b2, (cutV b).cells, 48⟩ (off := 6) (.bool b.aft) (by kernel_rfl) rfl (by kernel_rfl) (by kernel_rfl) (by kernel_rfl) ?_
                rw [h8]
                refine s_val (.bool true) (by kernel_rfl) (fun _ => by kernel_rfl) ?_
                refine s_nil ?_
                refine fin_seq ?_
                refine ok_true (by kernel_rfl) ?_
                refine ok_seq ?_
                refine ok_region ?_
                refine s_val (.int .i64 (-1)) (by kernel_rfl) (fun _ => by kernel_rfl) ?_
                refine s_nil ?_
                refine fin_seq ?_
                refine ok_ret ?_
                refine fin_block_ret ?_
                refine fin_seq_ret ?_
                refine fin_ret (.int .i64 (-1)) Tryz.results56 (by kernel_rfl) ?_
                exact fun w hO => ⟨by rw [show cmpC a b = (-1) from by first | (exact cmpC_bad (.inl (by assumption))) | (exact cmpC_bad (.inr (by assumption))) | exact rcmpC_eq (by assumption) (by assumption) (by simp_all)], hO.below⟩
              | false =>
                refine s_val (.bool true) (by kernel_rfl) (fun _ => by kernel_rfl) ?_
                refine s_val (.bool true) (by kernel_rfl) (fun _ => by kernel_rfl) ?_
                refine s_nil ?_
                refine fin_seq ?_
                refine ok_true (by kernel_rfl) ?_
                refine ok_seq ?_
                refine ok_region ?_
                refine s_val (.int .i64 0) (by kernel_rfl) (fun _ => by kernel_rfl) ?_
                refine s_nil ?_
                refine fin_seq ?_
                refine ok_ret ?_
                refine fin_block_ret ?_
                refine fin_seq_ret ?_
                refine fin_ret (.int .i64 0) Tryz.results56 (by kernel_rfl) ?_
                exact fun w hO => ⟨by rw [show cmpC a b = 0 from by first | (exact cmpC_bad (.inl (by assumption))) | (exact cmpC_bad (.inr (by assumption))) | exact rcmpC_eq (by assumption) (by assumption) (by simp_all)], hO.below⟩
          · skip
            refine s_ndec (p := (cmpR a.v b.v : Int) = 0) false (by kernel_rfl) (fun _ => by kernel_rfl) (decide_eq_false (h5)) ?_
            refine s_nil ?_
            refine fin_seq ?_
            refine ok_true (by kernel_rfl) ?_
            refine ok_seq ?_
            refine ok_region ?_
            refine s_val (.int .i64 (cmpR a.v b.v)) (by kernel_rfl) (fun _ => by kernel_rfl) ?_
            refine s_val (.int .i64 (cmpR a.v b.v)) (by kernel_rfl) (fun _ => by kernel_rfl) ?_
            refine s_nil ?_
            refine fin_seq ?_
            refine ok_ret ?_
            refine fin_seq_ret ?_
            refine fin_ret (.int .i64 (cmpR a.v b.v)) Tryz.results56 (by kernel_rfl) ?_
            exact fun w hO => ⟨by rw [show cmpC a b = (cmpR a.v b.v) from by first | (exact cmpC_bad (.inl (by assumption))) | (exact cmpC_bad (.inr (by assumption))) | exact rcmpC_eq (by assumption) (by assumption) (by simp_all)], hO.below⟩
        · skip
          refine s_ndec (p := (a.e : Int) = 0) false (by kernel_rfl) (fun _ => by kernel_rfl) (decide_eq_false (h4)) ?_
          refine s_val (.bool true) (by kernel_rfl) (fun _ => by kernel_rfl) ?_
          refine s_nil ?_
          refine fin_seq ?_
          refine ok_true (by kernel_rfl) ?_
          refine ok_seq ?_
          refine ok_region ?_
          refine s_val (.pointer (some ⟨b1, 0, none⟩)) (by kernel_rfl) (fun _ => by kernel_rfl) ?_
          refine s_load 1 ⟨b1, (cutV a).cells, 48⟩ (off := 0) (.int .i64 a.e) (by kernel_rfl) rfl (by kernel_rfl) (by kernel_rfl) (by kernel_rfl) ?_
          refine s_val (.pointer (some ⟨b2, 0, none⟩)) (by kernel_rfl) (fun _ => by kernel_rfl) ?_
          refine s_load 0 ⟨b2, (cutV b).cells, 48⟩ (off := 0) (.int .i64 b.e) (by kernel_rfl) rfl (by kernel_rfl) (by kernel_rfl) (by kernel_rfl) ?_
          refine s_call (k := 99) (args := #[.int .i64 a.e, .int .i64 b.e]) (.int .i64 (Lib.compareInt a.e b.e)) (by kernel_rfl) (fun _ => by kernel_rfl) (fun w _ => (rints_any a.e b.e w).mono fun _ _ ⟨h1, h2⟩ => ⟨h1, h2 ▸ Below.refl _ _⟩) ?_
          refine s_val (.int .i64 (Lib.compareInt a.e b.e)) (by kernel_rfl) (fun _ => by kernel_rfl) ?_
          refine s_nil ?_
          refine fin_seq ?_
          refine ok_ret ?_
          refine fin_seq_ret ?_
          refine fin_ret (.int .i64 (Lib.compareInt a.e b.e)) Tryz.results56 (by kernel_rfl) ?_
          exact fun w hO => ⟨by rw [show cmpC a b = (Lib.compareInt a.e b.e) from by first | (exact cmpC_bad (.inl (by assumption))) | (exact cmpC_bad (.inr (by assumption))) | exact rcmpC_eq (by assumption) (by assumption) (by simp_all)], hO.below⟩
      · skip
        refine s_ndec (p := (a.e : Int) = b.e) false (by kernel_rfl) (fun _ => by kernel_rfl) (decide_eq_false (h3)) ?_
        refine s_val (.bool true) (by kernel_rfl) (fun _ => by kernel_rfl) ?_
        refine s_skip (by kernel_rfl) ?_
        refine s_skip (by kernel_rfl) ?_
        refine s_skip (by kernel_rfl) ?_
        refine s_val (.bool true) (by kernel_rfl) (fun _ => by kernel_rfl) ?_
        refine s_nil ?_
        refine fin_seq ?_
        refine ok_true (by kernel_rfl) ?_
        refine ok_seq ?_
        refine ok_region ?_
        refine s_val (.pointer (some ⟨b1, 0, none⟩)) (by kernel_rfl) (fun _ => by kernel_rfl) ?_
        refine s_load 1 ⟨b1, (cutV a).cells, 48⟩ (off := 0) (.int .i64 a.e) (by kernel_rfl) rfl (by kernel_rfl) (by kernel_rfl) (by kernel_rfl) ?_
        refine s_val (.pointer (some ⟨b2, 0, none⟩)) (by kernel_rfl) (fun _ => by kernel_rfl) ?_
        refine s_load 0 ⟨b2, (cutV b).cells, 48⟩ (off := 0) (.int .i64 b.e) (by kernel_rfl) rfl (by kernel_rfl) (by kernel_rfl) (by kernel_rfl) ?_
        refine s_call (k := 99) (args := #[.int .i64 a.e, .int .i64 b.e]) (.int .i64 (Lib.compareInt a.e b.e)) (by kernel_rfl) (fun _ => by kernel_rfl) (fun w _ => (rints_any a.e b.e w).mono fun _ _ ⟨h1, h2⟩ => ⟨h1, h2 ▸ Below.refl _ _⟩) ?_
        refine s_val (.int .i64 (Lib.compareInt a.e b.e)) (by kernel_rfl) (fun _ => by kernel_rfl) ?_
        refine s_nil ?_
        refine fin_seq ?_
        refine ok_ret ?_
        refine fin_seq_ret ?_
        refine fin_ret (.int .i64 (Lib.compareInt a.e b.e)) Tryz.results56 (by kernel_rfl) ?_
        exact fun w hO => ⟨by rw [show cmpC a b = (Lib.compareInt a.e b.e) from by first | (exact cmpC_bad (.inl (by assumption))) | (exact cmpC_bad (.inr (by assumption))) | exact rcmpC_eq (by assumption) (by assumption) (by simp_all)], hO.below⟩
    | false =>
      refine s_val (.bool true) (by kernel_rfl) (fun _ => by kernel_rfl) ?_
      refine s_val (.bool true) (by kernel_rfl) (fun _ => by kernel_rfl) ?_
      refine s_nil ?_
      refine fin_seq ?_
      refine ok_true (by kernel_rfl) ?_
      refine ok_seq ?_
      refine ok_region ?_
      refine s_val (.int .i64 0) (by kernel_rfl) (fun _ => by kernel_rfl) ?_
      refine s_nil ?_
      refine fin_seq ?_
      refine ok_ret ?_
      refine fin_seq_ret ?_
      refine fin_ret (.int .i64 0) Tryz.results56 (by kernel_rfl) ?_
      exact fun w hO => ⟨by rw [show cmpC a b = 0 from by first | (exact cmpC_bad (.inl (by assumption))) | (exact cmpC_bad (.inr (by assumption))) | exact rcmpC_eq (by assumption) (by assumption) (by simp_all)], hO.below⟩
  | false =>
    refine s_val (.bool true) (by kernel_rfl) (fun _ => by kernel_rfl) ?_
    refine s_val (.bool true) (by kernel_rfl) (fun _ => by kernel_rfl) ?_
    refine s_skip (by kernel_rfl) ?_
    refine s_skip (by kernel_rfl) ?_
    refine s_skip (by kernel_rfl) ?_
    refine s_val (.bool true) (by kernel_rfl) (fun _ => by kernel_rfl) ?_
    refine s_nil ?_
    refine fin_seq ?_
    refine ok_true (by kernel_rfl) ?_
    refine ok_seq ?_
    refine ok_region ?_
    refine s_val (.int .i64 0) (by kernel_rfl) (fun _ => by kernel_rfl) ?_
    refine s_nil ?_
    refine fin_seq ?_
    refine ok_ret ?_
    refine fin_seq_ret ?_
    refine fin_ret (.int .i64 0) Tryz.results56 (by kernel_rfl) ?_
    exact fun w hO => ⟨by rw [show cmpC a b = 0 from by first | (exact cmpC_bad (.inl (by assumption))) | (exact cmpC_bad (.inr (by assumption))) | exact rcmpC_eq (by assumption) (by assumption) (by simp_all)], hO.below⟩
theorem raheadC_any (c : Cu) (v : Ver) (W : World) (hc : c.short) (hv : v.short) : Calls Tryz.prog 105 #[cutV c, verV v] W fun e w' => e = .returned (.bool (aheadC c v)) ∧ Below W.heap.size W w' := by
  refine calls_ok (n := 35) Tryz.func105 rfl (by kernel_rfl) (by kernel_rfl) ?_
  refine ok_seq ?_
  refine ok_region ?_
  refine s_box (cutV c) (by kernel_rfl) rfl (by kernel_rfl) (fun b1 => ?_)
  refine s_box (verV v) (by kernel_rfl) rfl (by kernel_rfl) (fun b2 => ?_)
  refine s_val (.bool false) (by kernel_rfl) (fun _ => by kernel_rfl) ?_
  refine s_nil ?_
  refine fin_seq ?_
  refine ok_seq ?_
  refine ok_seq ?_
  refine ok_region ?_
  refine s_load 1 ⟨b1, (cutV c).cells, 48⟩ (off := 0) (cutV c) (by kernel_rfl) rfl (by kernel_rfl) (by kernel_rfl) (by kernel_rfl) ?_
  refine s_call (k := 98) (args := #[cutV c]) (.bool c.may) (by kernel_rfl) (fun _ => by kernel_rfl) (fun w _ => rmayC_any c w hc) ?_
  cases h1 : c.may with
  | true =>
    refine s_val (.bool false) (by kernel_rfl) (fun _ => by kernel_rfl) ?_
    refine s_val (.bool false) (by kernel_rfl) (fun _ => by kernel_rfl) ?_
    refine s_load 0 ⟨b2, (verV v).cells, 24⟩ (off := 0) (verV v) (by kernel_rfl) rfl (by kernel_rfl) (by kernel_rfl) (by kernel_rfl) ?_
    refine s_call (k := 48) (args := #[verV v]) (.bool v.may) (by kernel_rfl) (fun _ => by kernel_rfl) (fun w _ => rmay_any v w hv.1 hv.2) ?_
    cases h2 : v.may with
    | true =>
      refine s_val (.bool false) (by kernel_rfl) (fun _ => by kernel_rfl) ?_
      refine s_val (.bool false) (by kernel_rfl) (fun _ => by kernel_rfl) ?_
      refine s_nil ?_
      refine fin_seq ?_
      refine ok_false (by kernel_rfl) ?_
      refine ok_skip ?_
      refine fin_seq ?_
      refine ok_seq ?_
      refine ok_seq ?_
      refine ok_region ?_
      refine s_val (.pointer (some ⟨b1, 0, none⟩)) (by kernel_rfl) (fun _ => by kernel_rfl) ?_
      refine s_load 1 ⟨b1, (cutV c).cells, 48⟩ (off := 0) (.int .i64 c.e) (by kernel_rfl) rfl (by kernel_rfl) (by kernel_rfl) (by kernel_rfl) ?_
      by_cases h3 : (c.e : Int) = 0
      · skip
        refine s_ndec (p := (c.e : Int) = 0) true (by kernel_rfl) (fun _ => by kernel_rfl) (decide_eq_true (h3)) ?_
        refine s_nil ?_
        refine fin_seq ?_
        refine ok_false (by kernel_rfl) ?_
        refine ok_skip ?_
        refine fin_seq ?_
        refine ok_seq ?_
        refine ok_region ?_
        refine s_val (.pointer (some ⟨b1, 1, none⟩)) (by kernel_rfl) (fun _ => by kernel_rfl) ?_
        refine s_load 1 ⟨b1, (cutV c).cells, 48⟩ (off := 1) (.agg #[.int .i64 c.v.maj, .int .i64 c.v.min, .int .i64 c.v.pat, .string (mkS c.v.pre), .string (mkS c.v.build)]) (by kernel_rfl) rfl (by kernel_rfl) (by kernel_rfl) (by kernel_rfl) ?_
        refine s_load 0 ⟨b2, (verV v).cells, 24⟩ (off := 0) (verV v) (by kernel_rfl) rfl (by kernel_rfl) (by kernel_rfl) (by kernel_rfl) ?_
        refine s_call (k := 100) (args := #[.agg #[.int .i64 c.v.maj, .int .i64 c.v.min, .int .i64 c.v.pat, .string (mkS c.v.pre), .string (mkS c.v.build)], verV v]) (.int .i64 (cmpR c.v v)) (by kernel_rfl) (fun _ => by kernel_rfl) (fun w _ => rcompare_any c.v v w hc.1 hc.2 hv.1 hv.2) ?_
        refine s_val (.int .i64 (cmpR c.v v)) (by kernel_rfl) (fun _ => by kernel_rfl) ?_
        refine s_nil ?_
        refine fin_seq ?_
        refine ok_seq ?_
        refine ok_region ?_
        refine s_val (.int .i64 (cmpR c.v v)) (by kernel_rfl) (fun _ => by kernel_rfl) ?_
        by_cases h4 : (cmpR c.v v : Int) < 0
        · skip
          refine s_dec (p := (cmpR c.v v : Int) < 0) true (by kernel_rfl) (fun _ => by kernel_rfl) (decide_eq_true (h4)) ?_
          refine s_val (.bool true) (by kernel_rfl) (fun _ => by kernel_rfl) ?_
          refine s_skip (by kernel_rfl) ?_
          refine s_skip (by kernel_rfl) ?_
          refine s_skip (by kernel_rfl) ?_
          refine s_skip (by kernel_rfl) ?_
          refine s_skip (by kernel_rfl) ?_
          refine s_skip (by kernel_rfl) ?_
          refine s_skip (by kernel_rfl) ?_
          refine s_val (.bool true) (by kernel_rfl) (fun _ => by kernel_rfl) ?_
          refine s_val (.bool true) (by kernel_rfl) (fun _ => by kernel_rfl) ?_
          refine s_nil ?_
          refine fin_seq ?_
          refine ok_ret ?_
          refine fin_ret (.bool true) Tryz.results105 (by kernel_rfl) ?_
          exact fun w hO => ⟨by rw [show aheadC c v = true from by unfold aheadC; simp [h1, h2, h3, h4]], hO.below⟩
        · skip
          refine s_dec (p := (cmpR c.v v : Int) < 0) false (by kernel_rfl) (fun _ => by kernel_rfl) (decide_eq_false (h4)) ?_
          refine s_val (.bool false) (by kernel_rfl) (fun _ => by kernel_rfl) ?_
          refine s_val (.int .i64 (cmpR c.v v)) (by kernel_rfl) (fun _ => by kernel_rfl) ?_
          by_cases h5 : (cmpR c.v v : Int) = 0
          · skip
            refine s_dec (p := (cmpR c.v v : Int) = 0) true (by kernel_rfl) (fun _ => by kernel_rfl) (decide_eq_true (h5)) ?_
            refine s_val (.bool true) (by kernel_rfl) (fun _ => by kernel_rfl) ?_
            refine s_val (.pointer (some ⟨b1, 6, none⟩)) (by kernel_rfl) (fun _ => by kernel_rfl) ?_
            refine s_load 1 ⟨b1, (cutV c).cells, 48⟩ (off := 6) (.bool c.aft) (by kernel_rfl) rfl (by kernel_rfl) (by kernel_rfl) (by kernel_rfl) ?_
            cases h6 : c.aft with
            | true =>
              refine s_val (.bool false) (by kernel_rfl) (fun _ => by kernel_rfl) ?_
              refine s_val (.bool false) (by kernel_rfl) (fun _ => by kernel_rfl) ?_
              refine s_val (.bool false) (by kernel_rfl) (fun _ => by kernel_rfl) ?_
              refine s_val (.bool false) (by kernel_rfl) (fun _ => by kernel_rfl) ?_
              refine s_nil ?_
              refine fin_seq ?_
              refine ok_ret ?_
              refine fin_ret (.bool false) Tryz.results105 (by kernel_rfl) ?_
              exact fun w hO => ⟨by rw [show aheadC c v = false from by unfold aheadC; simp [h1, h2, h3, h4, h5, h6]], hO.below⟩
            | false =>
              refine s_val (.bool true) (by kernel_rfl) (fun _ => by kernel_rfl) ?_
              refine s_val (.bool true) (by kernel_rfl) (fun _ => by kernel_rfl) ?_
              refine s_val (.bool true) (by kernel_rfl) (fun _ => by kernel_rfl) ?_
              refine s_val (.bool true) (by kernel_rfl) (fun _ => by kernel_rfl) ?_
              refine s_nil ?_
              refine fin_seq ?_
              refine ok_ret ?_
              refine fin_ret (.bool true) Tryz.results105 (by kernel_rfl) ?_
              exact fun w hO => ⟨by rw [show aheadC c v = true from by unfold aheadC; simp [h1, h2, h3, h4, h5, h6]], hO.below⟩
          · skip
            refine s_dec (p := (cmpR c.v v : Int) = 0) false (by kernel_rfl) (fun _ => by kernel_rfl) (decide_eq_false (h5)) ?_
            refine s_val (.bool false) (by kernel_rfl) (fun _ => by kernel_rfl) ?_
            refine s_skip (by kernel_rfl) ?_
            refine s_skip (by kernel_rfl) ?_
            refine s_skip (by kernel_rfl) ?_
            refine s_val (.bool false) (by kernel_rfl) (fun _ => by kernel_rfl) ?_
            refine s_val (.bool false) (by kernel_rfl) (fun _ => by kernel_rfl) ?_
            refine s_val (.bool false) (by kernel_rfl) (fun _ => by kernel_rfl) ?_
            refine s_nil ?_
            refine fin_seq ?_
            refine ok_ret ?_
            refine fin_ret (.bool false) Tryz.results105 (by kernel_rfl) ?_
            exact fun w hO => ⟨by rw [show aheadC c v = false from by unfold aheadC; simp [h1, h2, h3, h4, h5]], hO.below⟩
      · skip
        refine s_ndec (p := (c.e : Int) = 0) false (by kernel_rfl) (fun _ => by kernel_rfl) (decide_eq_false (h3)) ?_
        refine s_nil ?_
        refine fin_seq ?_
        refine ok_true (by kernel_rfl) ?_
        refine ok_seq ?_
        refine ok_region ?_
        refine s_val (.pointer (some ⟨b1, 0, none⟩)) (by kernel_rfl) (fun _ => by kernel_rfl) ?_
        refine s_load 1 ⟨b1, (cutV c).cells, 48⟩ (off := 0) (.int .i64 c.e) (by kernel_rfl) rfl (by kernel_rfl) (by kernel_rfl) (by kernel_rfl) ?_
        by_cases h7 : (c.e : Int) < 0
        · skip
          refine s_dec (p := (c.e : Int) < 0) true (by kernel_rfl) (fun _ => by kernel_rfl) (decide_eq_true (h7)) ?_
          refine s_val (.bool true) (by kernel_rfl) (fun _ => by kernel_rfl) ?_
          refine s_nil ?_
          refine fin_seq ?_
          refine ok_ret ?_
          refine fin_seq_ret ?_
          refine fin_ret (.bool true) Tryz.results105 (by kernel_rfl) ?_
          exact fun w hO => ⟨by rw [show aheadC c v = true from by unfold aheadC; simp [h1, h2, h3, h7]], hO.below⟩
        · skip
          refine s_dec (p := (c.e : Int) < 0) false (by kernel_rfl) (fun _ => by kernel_rfl) (decide_eq_false (h7)) ?_
          refine s_val (.bool false) (by kernel_rfl) (fun _ => by kernel_rfl) ?_
          refine s_nil ?_
          refine fin_seq ?_
          refine ok_ret ?_
          refine fin_seq_ret ?_
          refine fin_ret (.bool false) Tryz.results105 (by kernel_rfl) ?_
          exact fun w hO => ⟨by rw [show aheadC c v = false from by unfold aheadC; simp [h1, h2, h3, h7]], hO.below⟩
    | false =>
      refine s_val (.bool true) (by kernel_rfl) (fun _ => by kernel_rfl) ?_
      refine s_val (.bool true) (by kernel_rfl) (fun _ => by kernel_rfl) ?_
      refine s_nil ?_
      refine fin_seq ?_
      refine ok_true (by kernel_rfl) ?_
      refine ok_seq ?_
      refine ok_region ?_
      refine s_val (.bool false) (by kernel_rfl) (fun _ => by kernel_rfl) ?_
      refine s_nil ?_
      refine fin_seq ?_
      refine ok_ret ?_
      refine fin_seq_ret ?_
      refine fin_ret (.bool false) Tryz.results105 (by kernel_rfl) ?_
      exact fun w hO => ⟨by rw [show aheadC c v = false from by unfold aheadC; simp [h1, h2]], hO.below⟩
  | false =>
    refine s_val (.bool true) (by kernel_rfl) (fun _ => by kernel_rfl) ?_
    refine s_val (.bool true) (by kernel_rfl) (fun _ => by kernel_rfl) ?_
    refine s_skip (by kernel_rfl) ?_
    refine s_skip (by kernel_rfl) ?_
    refine s_skip (by kernel_rfl) ?_
    refine s_val (.bool true) (by kernel_rfl) (fun _ => by kernel_rfl) ?_
    refine s_nil ?_
    refine fin_seq ?_
    refine ok_true (by kernel_rfl) ?_
    refine ok_seq ?_
    refine ok_region ?_
    refine s_val (.bool false) (by kernel_rfl) (fun _ => by kernel_rfl) ?_
    refine s_nil ?_
    refine fin_seq ?_
    refine ok_ret ?_
    refine fin_seq_ret ?_
    refine fin_ret (.bool false) Tryz.results105 (by kernel_rfl) ?_
    exact fun w hO => ⟨by rw [show aheadC c v = false from by unfold aheadC; simp [h1]], hO.below⟩
theorem spanMay_any (s : Sp) (W : World) (hs : s.short) : Calls Tryz.prog 123 #[spanV s] W fun e w' => e = .returned (.bool s.may) ∧ Below W.heap.size W w' := by
  refine calls_ok (n := 9) Tryz.func123 rfl (by kernel_rfl) (by kernel_rfl) ?_
  refine ok_seq ?_
  refine ok_region ?_
  refine s_box (spanV s) (by kernel_rfl) rfl (by kernel_rfl) (fun b1 => ?_)
  refine s_val (.bool false) (by kernel_rfl) (fun _ => by kernel_rfl) ?_
  refine s_nil ?_
  refine fin_seq ?_
  refine ok_seq ?_
  refine ok_region ?_
  refine s_val (.pointer (some ⟨b1, 0, none⟩)) (by kernel_rfl) (fun _ => by kernel_rfl) ?_
  refine s_load 0 ⟨b1, (spanV s).cells, 50⟩ (off := 0) (.agg #[.int .i64 s.lo.e, .int .i64 s.lo.v.maj, .int .i64 s.lo.v.min, .int .i64 s.lo.v.pat, .string (mkS s.lo.v.pre), .string (mkS s.lo.v.build), .bool s.lo.aft]) (by kernel_rfl) rfl (by kernel_rfl) (by kernel_rfl) (by kernel_rfl) ?_
  refine s_val (.pointer (some ⟨b1, 7, none⟩)) (by kernel_rfl) (fun _ => by kernel_rfl) ?_
  refine s_load 0 ⟨b1, (spanV s).cells, 50⟩ (off := 7) (.agg #[.int .i64 s.hi.e, .int .i64 s.hi.v.maj, .int .i64 s.hi.v.min, .int .i64 s.hi.v.pat, .string (mkS s.hi.v.pre), .string (mkS s.hi.v.build), .bool s.hi.aft]) (by kernel_rfl) rfl (by kernel_rfl) (by kernel_rfl) (by kernel_rfl) ?_
  refine s_call (k := 127) (args := #[.agg #[.int .i64 s.lo.e, .int .i64 s.lo.v.maj, .int .i64 s.lo.v.min, .int .i64 s.lo.v.pat, .string (mkS s.lo.v.pre), .string (mkS s.lo.v.build), .bool s.lo.aft], .agg #[.int .i64 s.hi.e, .int .i64 s.hi.v.maj, .int .i64 s.hi.v.min, .int .i64 s.hi.v.pat, .string (mkS s.hi.v.pre), .string (mkS s.hi.v.build), .bool s.hi.aft]]) (.int .i64 (cmpC s.lo s.hi)) (by kernel_rfl) (fun _ => by kernel_rfl) (fun w _ => cmpC_any s.lo s.hi w hs.1 hs.2) ?_
  by_cases h1 : (cmpC s.lo s.hi : Int) = -1
  · skip
    refine s_dec (p := (cmpC s.lo s.hi : Int) = -1) true (by kernel_rfl) (fun _ => by kernel_rfl) (decide_eq_true (h1)) ?_
    refine s_val (.bool true) (by kernel_rfl) (fun _ => by kernel_rfl) ?_
    refine s_nil ?_
    refine fin_seq ?_
    refine ok_ret ?_
    refine fin_ret (.bool true) Tryz.results123 (by kernel_rfl) ?_
    exact fun w hO => ⟨by rw [show s.may = true from by unfold Sp.may; simp [h1]], hO.below⟩
  · skip
    refine s_dec (p := (cmpC s.lo s.hi : Int) = -1) false (by kernel_rfl) (fun _ => by kernel_rfl) (decide_eq_false (h1)) ?_
    refine s_val (.bool false) (by kernel_rfl) (fun _ => by kernel_rfl) ?_
    refine s_nil ?_
    refine fin_seq ?_
    refine ok_ret ?_
    refine fin_ret (.bool false) Tryz.results123 (by kernel_rfl) ?_
    exact fun w hO => ⟨by rw [show s.may = false from by unfold Sp.may; simp [h1]], hO.below⟩
theorem rspanMay_any (s : Sp) (W : World) (hs : s.short) : Calls Tryz.prog 104 #[spanV s] W fun e w' => e = .returned (.bool s.may) ∧ Below W.heap.size W w' := by
  refine calls_ok (n := 19) Tryz.func104 rfl (by kernel_rfl) (by kernel_rfl) ?_
  refine ok_seq ?_
  refine ok_region ?_
  refine s_box (spanV s) (by kernel_rfl) rfl (by kernel_rfl) (fun b1 => ?_)
  refine s_val (.bool false) (by kernel_rfl) (fun _ => by kernel_rfl) ?_
  refine s_nil ?_
  refine fin_seq ?_
  refine ok_seq ?_
  refine ok_region ?_
  refine s_val (.pointer (some ⟨b1, 0, none⟩)) (by kernel_rfl) (fun _ => by kernel_rfl) ?_
  refine s_load 0 ⟨b1, (spanV s).cells, 50⟩ (off := 0) (.agg #[.int .i64 s.lo.e, .int .i64 s.lo.v.maj, .int .i64 s.lo.v.min, .int .i64 s.lo.v.pat, .string (mkS s.lo.v.pre), .string (mkS s.lo.v.build), .bool s.lo.aft]) (by kernel_rfl) rfl (by kernel_rfl) (by kernel_rfl) (by kernel_rfl) ?_
  refine s_call (k := 98) (args := #[.agg #[.int .i64 s.lo.e, .int .i64 s.lo.v.maj, .int .i64 s.lo.v.min, .int .i64 s.lo.v.pat, .string (mkS s.lo.v.pre), .string (mkS s.lo.v.build), .bool s.lo.aft]]) (.bool s.lo.may) (by kernel_rfl) (fun _ => by kernel_rfl) (fun w _ => rmayC_any s.lo w hs.1) ?_
  refine s_val (.bool s.lo.may) (by kernel_rfl) (fun _ => by kernel_rfl) ?_
  cases h1 : s.lo.may with
  | true =>
    refine s_val (.pointer (some ⟨b1, 7, none⟩)) (by kernel_rfl) (fun _ => by kernel_rfl) ?_
    refine s_load 0 ⟨b1, (spanV s).cells, 50⟩ (off := 7) (.agg #[.int .i64 s.hi.e, .int .i64 s.hi.v.maj, .int .i64 s.hi.v.min, .int .i64 s.hi.v.pat, .string (mkS s.hi.v.pre), .string (mkS s.hi.v.build), .bool s.hi.aft]) (by kernel_rfl) rfl (by kernel_rfl) (by kernel_rfl) (by kernel_rfl) ?_
    refine s_call (k := 98) (args := #[.agg #[.int .i64 s.hi.e, .int .i64 s.hi.v.maj, .int .i64 s.hi.v.min, .int .i64 s.hi.v.pat, .string (mkS s.hi.v.pre), .string (mkS s.hi.v.build), .bool s.hi.aft]]) (.bool s.hi.may) (by kernel_rfl) (fun _ => by kernel_rfl) (fun w _ => rmayC_any s.hi w hs.2) ?_
    refine s_val (.bool s.hi.may) (by kernel_rfl) (fun _ => by kernel_rfl) ?_
    refine s_val (.bool s.hi.may) (by kernel_rfl) (fun _ => by kernel_rfl) ?_
    cases h2 : s.hi.may with
    | true =>
      refine s_val (.pointer (some ⟨b1, 0, none⟩)) (by kernel_rfl) (fun _ => by kernel_rfl) ?_
      refine s_load 0 ⟨b1, (spanV s).cells, 50⟩ (off := 0) (.agg #[.int .i64 s.lo.e, .int .i64 s.lo.v.maj, .int .i64 s.lo.v.min, .int .i64 s.lo.v.pat, .string (mkS s.lo.v.pre), .string (mkS s.lo.v.build), .bool s.lo.aft]) (by kernel_rfl) rfl (by kernel_rfl) (by kernel_rfl) (by kernel_rfl) ?_
      refine s_val (.pointer (some ⟨b1, 7, none⟩)) (by kernel_rfl) (fun _ => by kernel_rfl) ?_
      refine s_load 0 ⟨b1, (spanV s).cells, 50⟩ (off := 7) (.agg #[.int .i64 s.hi.e, .int .i64 s.hi.v.maj, .int .i64 s.hi.v.min, .int .i64 s.hi.v.pat, .string (mkS s.hi.v.pre), .string (mkS s.hi.v.build), .bool s.hi.aft]) (by kernel_rfl) rfl (by kernel_rfl) (by kernel_rfl) (by kernel_rfl) ?_
      refine s_call (k := 56) (args := #[.agg #[.int .i64 s.lo.e, .int .i64 s.lo.v.maj, .int .i64 s.lo.v.min, .int .i64 s.lo.v.pat, .string (mkS s.lo.v.pre), .string (mkS s.lo.v.build), .bool s.lo.aft], .agg #[.int .i64 s.hi.e, .int .i64 s.hi.v.maj, .int .i64 s.hi.v.min, .int .i64 s.hi.v.pat, .string (mkS s.hi.v.pre), .string (mkS s.hi.v.build), .bool s.hi.aft]]) (.int .i64 (cmpC s.lo s.hi)) (by kernel_rfl) (fun _ => by kernel_rfl) (fun w _ => rcmpC_any s.lo s.hi w hs.1 hs.2) ?_
      by_cases h3 : (cmpC s.lo s.hi : Int) < 0
      · skip
        refine s_dec (p := (cmpC s.lo s.hi : Int) < 0) true (by kernel_rfl) (fun _ => by kernel_rfl) (decide_eq_true (h3)) ?_
        refine s_val (.bool true) (by kernel_rfl) (fun _ => by kernel_rfl) ?_
        refine s_val (.bool true) (by kernel_rfl) (fun _ => by kernel_rfl) ?_
        refine s_nil ?_
        refine fin_seq ?_
        refine ok_ret ?_
        refine fin_ret (.bool true) Tryz.results104 (by kernel_rfl) ?_
        exact fun w hO => ⟨by rw [show s.may = true from by rw [← span_ref]; simp [h1, h2, h3]], hO.below⟩
      · skip
        refine s_dec (p := (cmpC s.lo s.hi : Int) < 0) false (by kernel_rfl) (fun _ => by kernel_rfl) (decide_eq_false (h3)) ?_
        refine s_val (.bool false) (by kernel_rfl) (fun _ => by kernel_rfl) ?_
        refine s_val (.bool false) (by kernel_rfl) (fun _ => by kernel_rfl) ?_
        refine s_nil ?_
        refine fin_seq ?_
        refine ok_ret ?_
        refine fin_ret (.bool false) Tryz.results104 (by kernel_rfl) ?_
        exact fun w hO => ⟨by rw [show s.may = false from by rw [← span_ref]; simp [h1, h2, h3]], hO.below⟩
    | false =>
      refine s_skip (by kernel_rfl) ?_
      refine s_skip (by kernel_rfl) ?_
      refine s_skip (by kernel_rfl) ?_
      refine s_skip (by kernel_rfl) ?_
      refine s_skip (by kernel_rfl) ?_
      refine s_skip (by kernel_rfl) ?_
      refine s_val (.bool false) (by kernel_rfl) (fun _ => by kernel_rfl) ?_
      refine s_val (.bool false) (by kernel_rfl) (fun _ => by kernel_rfl) ?_
      refine s_nil ?_
      refine fin_seq ?_
      refine ok_ret ?_
      refine fin_ret (.bool false) Tryz.results104 (by kernel_rfl) ?_
      exact fun w hO => ⟨by rw [show s.may = false from by rw [← span_ref]; simp [h1, h2]], hO.below⟩
  | false =>
    refine s_skip (by kernel_rfl) ?_
    refine s_skip (by kernel_rfl) ?_
    refine s_skip (by kernel_rfl) ?_
    refine s_val (.bool false) (by kernel_rfl) (fun _ => by kernel_rfl) ?_
    refine s_val (.bool false) (by kernel_rfl) (fun _ => by kernel_rfl) ?_
    refine s_skip (by kernel_rfl) ?_
    refine s_skip (by kernel_rfl) ?_
    refine s_skip (by kernel_rfl) ?_
    refine s_skip (by kernel_rfl) ?_
    refine s_skip (by kernel_rfl) ?_
    refine s_skip (by kernel_rfl) ?_
    refine s_val (.bool false) (by kernel_rfl) (fun _ => by kernel_rfl) ?_
    refine s_val (.bool false) (by kernel_rfl) (fun _ => by kernel_rfl) ?_
    refine s_nil ?_
    refine fin_seq ?_
    refine ok_ret ?_
    refine fin_ret (.bool false) Tryz.results104 (by kernel_rfl) ?_
    exact fun w hO => ⟨by rw [show s.may = false from by rw [← span_ref]; simp [h1]], hO.below⟩
theorem rholdsC_any (s : Sp) (v : Ver) (W : World) (hs : s.short) (hv : v.short) : Calls Tryz.prog 60 #[spanV s, verV v] W fun e w' => e = .returned (.bool (holdsC s v)) ∧ Below W.heap.size W w' := by
  refine calls_ok (n := 24) Tryz.func60 rfl (by kernel_rfl) (by kernel_rfl) ?_
  refine ok_seq ?_
  refine ok_region ?_
  refine s_box (spanV s) (by kernel_rfl) rfl (by kernel_rfl) (fun b1 => ?_)
  refine s_box (verV v) (by kernel_rfl) rfl (by kernel_rfl) (fun b2 => ?_)
  refine s_val (.bool false) (by kernel_rfl) (fun _ => by kernel_rfl) ?_
  refine s_nil ?_
  refine fin_seq ?_
  refine ok_seq ?_
  refine ok_region ?_
  refine s_load 1 ⟨b1, (spanV s).cells, 50⟩ (off := 0) (spanV s) (by kernel_rfl) rfl (by kernel_rfl) (by kernel_rfl) (by kernel_rfl) ?_
  refine s_call (k := 104) (args := #[spanV s]) (.bool s.may) (by kernel_rfl) (fun _ => by kernel_rfl) (fun w _ => rspanMay_any s w hs) ?_
  refine s_val (.bool s.may) (by kernel_rfl) (fun _ => by kernel_rfl) ?_
  cases h1 : s.may with
  | true =>
    refine s_load 0 ⟨b2, (verV v).cells, 24⟩ (off := 0) (verV v) (by kernel_rfl) rfl (by kernel_rfl) (by kernel_rfl) (by kernel_rfl) ?_
    refine s_call (k := 48) (args := #[verV v]) (.bool v.may) (by kernel_rfl) (fun _ => by kernel_rfl) (fun w _ => rmay_any v w hv.1 hv.2) ?_
    refine s_val (.bool v.may) (by kernel_rfl) (fun _ => by kernel_rfl) ?_
    refine s_val (.bool v.may) (by kernel_rfl) (fun _ => by kernel_rfl) ?_
    cases h2 : v.may with
    | true =>
      refine s_val (.pointer (some ⟨b1, 0, none⟩)) (by kernel_rfl) (fun _ => by kernel_rfl) ?_
      refine s_load 1 ⟨b1, (spanV s).cells, 50⟩ (off := 0) (.agg #[.int .i64 s.lo.e, .int .i64 s.lo.v.maj, .int .i64 s.lo.v.min, .int .i64 s.lo.v.pat, .string (mkS s.lo.v.pre), .string (mkS s.lo.v.build), .bool s.lo.aft]) (by kernel_rfl) rfl (by kernel_rfl) (by kernel_rfl) (by kernel_rfl) ?_
      refine s_load 0 ⟨b2, (verV v).cells, 24⟩ (off := 0) (verV v) (by kernel_rfl) rfl (by kernel_rfl) (by kernel_rfl) (by kernel_rfl) ?_
      refine s_call (k := 105) (args := #[.agg #[.int .i64 s.lo.e, .int .i64 s.lo.v.maj, .int .i64 s.lo.v.min, .int .i64 s.lo.v.pat, .string (mkS s.lo.v.pre), .string (mkS s.lo.v.build), .bool s.lo.aft], verV v]) (.bool (aheadC s.lo v)) (by kernel_rfl) (fun _ => by kernel_rfl) (fun w _ => raheadC_any s.lo v w hs.1 hv) ?_
      refine s_val (.bool (aheadC s.lo v)) (by kernel_rfl) (fun _ => by kernel_rfl) ?_
      refine s_val (.bool (aheadC s.lo v)) (by kernel_rfl) (fun _ => by kernel_rfl) ?_
      cases h3 : aheadC s.lo v with
      | true =>
        refine s_val (.pointer (some ⟨b1, 7, none⟩)) (by kernel_rfl) (fun _ => by kernel_rfl) ?_
        refine s_load 1 ⟨b1, (spanV s).cells, 50⟩ (off := 7) (.agg #[.int .i64 s.hi.e, .int .i64 s.hi.v.maj, .int .i64 s.hi.v.min, .int .i64 s.hi.v.pat, .string (mkS s.hi.v.pre), .string (mkS s.hi.v.build), .bool s.hi.aft]) (by kernel_rfl) rfl (by kernel_rfl) (by kernel_rfl) (by kernel_rfl) ?_
        refine s_load 0 ⟨b2, (verV v).cells, 24⟩ (off := 0) (verV v) (by kernel_rfl) rfl (by kernel_rfl) (by kernel_rfl) (by kernel_rfl) ?_
        refine s_call (k := 105) (args := #[.agg #[.int .i64 s.hi.e, .int .i64 s.hi.v.maj, .int .i64 s.hi.v.min, .int .i64 s.hi.v.pat, .string (mkS s.hi.v.pre), .string (mkS s.hi.v.build), .bool s.hi.aft], verV v]) (.bool (aheadC s.hi v)) (by kernel_rfl) (fun _ => by kernel_rfl) (fun w _ => raheadC_any s.hi v w hs.2 hv) ?_
        cases h4 : aheadC s.hi v with
        | true =>
          refine s_val (.bool false) (by kernel_rfl) (fun _ => by kernel_rfl) ?_
          refine s_val (.bool false) (by kernel_rfl) (fun _ => by kernel_rfl) ?_
          refine s_val (.bool false) (by kernel_rfl) (fun _ => by kernel_rfl) ?_
          refine s_nil ?_
          refine fin_seq ?_
          refine ok_ret ?_
          refine fin_ret (.bool false) Tryz.results60 (by kernel_rfl) ?_
          exact fun w hO => ⟨by rw [show holdsC s v = false from by rw [← holds_ref]; simp [h1, h2, h3, h4]], hO.below⟩
        | false =>
          refine s_val (.bool true) (by kernel_rfl) (fun _ => by kernel_rfl) ?_
          refine s_val (.bool true) (by kernel_rfl) (fun _ => by kernel_rfl) ?_
          refine s_val (.bool true) (by kernel_rfl) (fun _ => by kernel_rfl) ?_
          refine s_nil ?_
          refine fin_seq ?_
          refine ok_ret ?_
          refine fin_ret (.bool true) Tryz.results60 (by kernel_rfl) ?_
          exact fun w hO => ⟨by rw [show holdsC s v = true from by rw [← holds_ref]; simp [h1, h2, h3, h4]], hO.below⟩
      | false =>
        refine s_skip (by kernel_rfl) ?_
        refine s_skip (by kernel_rfl) ?_
        refine s_skip (by kernel_rfl) ?_
        refine s_skip (by kernel_rfl) ?_
        refine s_skip (by kernel_rfl) ?_
        refine s_val (.bool false) (by kernel_rfl) (fun _ => by kernel_rfl) ?_
        refine s_val (.bool false) (by kernel_rfl) (fun _ => by kernel_rfl) ?_
        refine s_nil ?_
        refine fin_seq ?_
        refine ok_ret ?_
        refine fin_ret (.bool false) Tryz.results60 (by kernel_rfl) ?_
        exact fun w hO => ⟨by rw [show holdsC s v = false from by rw [← holds_ref]; simp [h1, h2, h3]], hO.below⟩
    | false =>
      refine s_skip (by kernel_rfl) ?_
      refine s_skip (by kernel_rfl) ?_
      refine s_skip (by kernel_rfl) ?_
      refine s_skip (by kernel_rfl) ?_
      refine s_val (.bool false) (by kernel_rfl) (fun _ => by kernel_rfl) ?_
      refine s_val (.bool false) (by kernel_rfl) (fun _ => by kernel_rfl) ?_
      refine s_skip (by kernel_rfl) ?_
      refine s_skip (by kernel_rfl) ?_
      refine s_skip (by kernel_rfl) ?_
      refine s_skip (by kernel_rfl) ?_
      refine s_skip (by kernel_rfl) ?_
      refine s_val (.bool false) (by kernel_rfl) (fun _ => by kernel_rfl) ?_
      refine s_val (.bool false) (by kernel_rfl) (fun _ => by kernel_rfl) ?_
      refine s_nil ?_
      refine fin_seq ?_
      refine ok_ret ?_
      refine fin_ret (.bool false) Tryz.results60 (by kernel_rfl) ?_
      exact fun w hO => ⟨by rw [show holdsC s v = false from by rw [← holds_ref]; simp [h1, h2]], hO.below⟩
  | false =>
    refine s_skip (by kernel_rfl) ?_
    refine s_skip (by kernel_rfl) ?_
    refine s_val (.bool false) (by kernel_rfl) (fun _ => by kernel_rfl) ?_
    refine s_val (.bool false) (by kernel_rfl) (fun _ => by kernel_rfl) ?_
    refine s_skip (by kernel_rfl) ?_
    refine s_skip (by kernel_rfl) ?_
    refine s_skip (by kernel_rfl) ?_
    refine s_skip (by kernel_rfl) ?_
    refine s_val (.bool false) (by kernel_rfl) (fun _ => by kernel_rfl) ?_
    refine s_val (.bool false) (by kernel_rfl) (fun _ => by kernel_rfl) ?_
    refine s_skip (by kernel_rfl) ?_
    refine s_skip (by kernel_rfl) ?_
    refine s_skip (by kernel_rfl) ?_
    refine s_skip (by kernel_rfl) ?_
    refine s_skip (by kernel_rfl) ?_
    refine s_val (.bool false) (by kernel_rfl) (fun _ => by kernel_rfl) ?_
    refine s_val (.bool false) (by kernel_rfl) (fun _ => by kernel_rfl) ?_
    refine s_nil ?_
    refine fin_seq ?_
    refine ok_ret ?_
    refine fin_ret (.bool false) Tryz.results60 (by kernel_rfl) ?_
    exact fun w hO => ⟨by rw [show holdsC s v = false from by rw [← holds_ref]; simp [h1]], hO.below⟩
end Go.Proofs.YtjabcbagggicaaaGreatDoor
end
