/-
  Package version: Bump and Next: what they return for every version and every part; nothing that was there is changed. Conditions: strings of at most a million bytes.
-/
import Derived.Test.YtndjdmbbndcohaaDoorVParse
import Derived.Lib.SliceRun
import Derived.Outline
namespace Go.Proofs.YtndjdmbbndcohaaDoor
open Go.RowKit

def bumpN (v : Ver) (k : Nat) : Ver := if k = 0 then Ver.rel (v.maj + 1) 0 0 else if k = 1 then Ver.rel v.maj (v.min + 1) 0 else Ver.rel v.maj v.min (v.pat + 1)
def bumpOk (v : Ver) (part : Int) : Bool := v.may && decide (0 ≤ part ∧ part < 3) && !(nth3 v.maj v.min v.pat part.toNat == 9999)
def bumpV (v : Ver) (part : Int) : Ver := if bumpOk v part then bumpN v part.toNat else Ver.zero
def BEnd (v : Ver) (part : Int) (w : World) (e : Ending) (w' : World) : Prop := e = .returned (.tuple #[verV (bumpV v part), .bool (bumpOk v part)]) ∧ Below w.heap.size w w'

theorem empty_mk2 (b : List UInt8) : (mkS b).toList.isEmpty = b.isEmpty := by rw [Lib.toList_data, mk_data]
theorem bump_done {v u : Ver} {part : Int} {b : Bool} {w wr : World} {tmps : Array Value} {old : Array Value} (h2 : tmps.getD 4 undef = .pointer (some ⟨w.heap.size + 1, 0, none⟩)) (h3 : tmps.getD 5 undef = .bool b)
    (hg : wr.heap[w.heap.size + 1]? = some (.cells old 24)) (hbel : Below w.heap.size w wr) (hb : bumpOk v part = b) (hv : bumpV v part = u) :
    bodyPost Tryd.prog Tryd.f29 (BEnd v part w) .ret ⟨tmps, []⟩ (wr.setRow (w.heap.size + 1) #[.int .i64 u.maj, .int .i64 u.min, .int .i64 u.pat, .string (mkS u.pre), .string (mkS u.build)]) := by
  have hrow := setRow_heap wr (w.heap.size + 1) _ #[.int .i64 u.maj, .int .i64 u.min, .int .i64 u.pat, .string (mkS u.pre), .string (mkS u.build)] _ _ hg
  have hr := run_loadVar_row (P := Tryd.prog) _ (w.heap.size + 1) 24 24 _ _ _ hrow Tryd.underlying24 rfl (by kernel_rfl)
  have h2' : tmps[4]?.getD undef = .pointer (some ⟨w.heap.size + 1, 0, none⟩) := by simpa using h2
  have h3' : tmps[5]?.getD undef = .bool b := by simpa using h3
  refine bodyPost_ret (v := .tuple #[verV u, .bool b]) (by simp [results, Tryd.results29, asAddr, h2', h3', hr, verV]) rfl ⟨by rw [hv, hb], below_setRow hbel (by omega) _⟩

theorem zeroInt (w : World) : (zeroValue 3).run Tryd.prog w = .ok (.int .i64 0) w := by kernel_rfl
theorem set_row3 {w : World} {N k : Nat} {a b c : Value} (x : Value) (hg : w.heap[N]? = some (.cells #[a, b, c] 46)) : w.setCell ⟨N, k, none⟩ x = w.setRow N ((#[a, b, c] : Array Value).setIfInBounds k x) := setCell_eq_setRow _ _ _ _ _ _ _ hg

theorem setRow_setRow' (w : World) (g : Nat) (a b : Array Value) : (w.setRow g a).setRow g b = w.setRow g b := setRow_setRow _ _ _ _
set_option maxRecDepth 100000 in
theorem clear_two {w : World} {N : Nat} {a b c : Int} {old : Array Value} (hg : w.heap[N]? = some (.cells old 46)) (_ho : old.size = 3) :
    (Builtin.clear_ #[22] 0 #[.slice (some ⟨N, 1, none⟩) 2 2]).run Tryd.prog (w.setRow N #[.int .i64 a, .int .i64 b, .int .i64 c]) = .ok (.tuple #[]) (w.setRow N #[.int .i64 a, .int .i64 0, .int .i64 0]) := by
  have h1 := setRow_heap w N old #[.int .i64 a, .int .i64 b, .int .i64 c] _ _ hg
  obtain ⟨n1, m1⟩ := cell_row (j := 1) h1 (by simp)
  obtain ⟨n2, m2⟩ := cell_row (j := 2) h1 (by simp)
  have := Lib.run_clear_slice (P := Tryd.prog) (w.setRow N #[.int .i64 a, .int .i64 b, .int .i64 c]) 22 3 0 (.int .i64 0) Tryd.underlying22 zeroInt rfl rfl N 1 2 2 (by omega)
    (fun j hj => by match j, hj with | 0, _ => rw [n1]; rfl | 1, _ => rw [n2]; rfl) (fun j hj => by match j, hj with | 0, _ => exact m1 | 1, _ => exact m2)
  rw [this]
  congr 1
  show ((w.setRow N #[.int .i64 a, .int .i64 b, .int .i64 c]).setCell ⟨N, 1, none⟩ (.int .i64 0)).setCell ⟨N, 2, none⟩ (.int .i64 0) = _
  rw [set_row3 _ h1, setRow_setRow']
  have h2 := setRow_heap w N old ((#[.int .i64 a, .int .i64 b, .int .i64 c] : Array Value).setIfInBounds 1 (.int .i64 0)) _ _ hg
  rw [set_row3 (a := .int .i64 a) (b := .int .i64 0) (c := .int .i64 c) _ h2, setRow_setRow']
  rfl
set_option maxRecDepth 100000 in
theorem clear_one {w : World} {N : Nat} {a b c : Int} {old : Array Value} (hg : w.heap[N]? = some (.cells old 46)) (_ho : old.size = 3) :
    (Builtin.clear_ #[22] 0 #[.slice (some ⟨N, 2, none⟩) 1 1]).run Tryd.prog (w.setRow N #[.int .i64 a, .int .i64 b, .int .i64 c]) = .ok (.tuple #[]) (w.setRow N #[.int .i64 a, .int .i64 b, .int .i64 0]) := by
  have h1 := setRow_heap w N old #[.int .i64 a, .int .i64 b, .int .i64 c] _ _ hg
  obtain ⟨n2, m2⟩ := cell_row (j := 2) h1 (by simp)
  have := Lib.run_clear_slice (P := Tryd.prog) (w.setRow N #[.int .i64 a, .int .i64 b, .int .i64 c]) 22 3 0 (.int .i64 0) Tryd.underlying22 zeroInt rfl rfl N 2 1 1 (by omega)
    (fun j hj => by match j, hj with | 0, _ => rw [n2]; rfl) (fun j hj => by match j, hj with | 0, _ => exact m2)
  rw [this]
  congr 1
  show (w.setRow N #[.int .i64 a, .int .i64 b, .int .i64 c]).setCell ⟨N, 2, none⟩ (.int .i64 0) = _
  rw [set_row3 _ h1, setRow_setRow']
  rfl
theorem clear_none {w : World} (x : Option Addr) (c : Nat) : (Builtin.clear_ #[22] 0 #[.slice x 0 c]).run Tryd.prog w = .ok (.tuple #[]) w := by
  cases x <;> simp [Builtin.clear_, run_underlying Tryd.underlying22]

set_option maxHeartbeats 4000000 in
set_option maxRecDepth 100000 in
theorem bump_go (v : Ver) (part : Int) (w : World) (hp : v.pre.length ≤ 1000000) (hq : v.build.length ≤ 1000000) :
    Calls Tryd.prog 29 #[verV v, .int .i64 part] w (BEnd v part w) := by
  have cM := fun w' => may_any v w' (by omega) (by omega)
  have cN := fun w' => numbers_any v w'
  have hN : v.may = true → (0 ≤ v.maj ∧ v.maj ≤ 9999) ∧ (0 ≤ v.min ∧ v.min ≤ 9999) ∧ (0 ≤ v.pat ∧ v.pat ≤ 9999) := fun h => by
    obtain ⟨h1, h2, h3⟩ := may_nums h
    unfold numOkI at h1 h2 h3; simp at h1 h2 h3
    exact ⟨h1, h2, h3⟩
  obtain ⟨u, hu⟩ : ∃ u, u = v := ⟨_, rfl⟩
  have HU := Lib.hid hu
  rw [← hu] at hN
  have hgo : BEnd v part w = BEnd u part w := by rw [hu]
  rw [hgo]
  obtain ⟨m, hm⟩ : ∃ m, u.may = m := ⟨_, rfl⟩
  rw [← hu, hm] at cM
  rw [← hu] at cN ⊢
  clear hgo hu
  obtain ⟨a, b, c, p, q⟩ := u
  unfold verV at cM cN ⊢
  dsimp only at cM cN hN ⊢
  go_enter Tryd.func29, Tryd.ntmps29
  go_wp2_with fail
  refine (cN _).mono ?_
  rintro e w1 ⟨rfl, hb1⟩
  have hz1 := hb1.size
  simp only [size_box] at hz1
  have hgB := Lib.hid ((hb1.block w.heap.size (by simp only [size_box]; omega)).trans ((heap_old _ _ (by simp only [size_box]; omega)).trans (heap_new w _)))
  have hgR := Lib.hid ((hb1.block (w.heap.size + 1) (by simp only [size_box]; omega)).trans (heap_at _ _ _ (by simp only [size_box])))
  have hbw : Below w.heap.size w w1 := (((Below.refl _ _).alloc (Nat.le_refl _) _).alloc (by simp only [size_box]; omega) _).trans (hb1.mono (by simp only [size_box]; omega))
  have hlB : w.heap.size < w1.heap.size := by omega
  go_wp2_with (first | (refine wpList_load_row rfl 24 _ rfl w.heap.size rfl _ _ _ _ ((heap_old _ _ hlB).trans hgB.out) Tryd.underlying24 rfl (by kernel_rfl) ?_) | fail)
  refine (cM _).mono ?_
  rintro e w2 ⟨rfl, hb2⟩
  have hz2 := hb2.size
  rw [size_box] at hz2
  have hgR2 := Lib.hid ((hb2.block (w.heap.size + 1) (by rw [size_box]; omega)).trans ((heap_old _ _ (by omega)).trans hgR.out))
  have hgN := Lib.hid ((hb2.block w1.heap.size (by rw [size_box]; omega)).trans (heap_new w1 _))
  have hbw2 : Below w.heap.size w w2 := (hbw.alloc (by omega) _).trans (hb2.mono (by rw [size_box]; omega))
  clear hbw hb1 hb2 hgB hgR cM cN
  cases m with
  | false =>
    have HB : Hid (bumpOk ⟨a, b, c, p, q⟩ part = false) := by show _ = _; unfold bumpOk; rw [hm]; rfl
    clear hm hN
    go_wp2_with (refine wpList_store_row rfl 24 _ _ rfl (w.heap.size + 1) #[.int .i64 0, .int .i64 0, .int .i64 0, .string ⟨#[]⟩, .string ⟨#[]⟩] rfl rfl _ _ hgR2.out (by kernel_rfl) rfl (ver_one _ _ _ _ _) ?_)
    exact bump_done (u := Ver.zero) rfl rfl hgR2.out hbw2 HB.out (by unfold bumpV; rw [HB.out]; rfl)
  | true =>
    obtain ⟨⟨a0, a9⟩, ⟨b0, b9⟩, ⟨c0, c9⟩⟩ := hN hm
    have HM := Lib.hid hm
    clear hN hm
    by_cases p0 : part < 0
    · have HB : Hid (bumpOk ⟨a, b, c, p, q⟩ part = false) := by show _ = _; unfold bumpOk; rw [decide_eq_false (by omega)]; simp
      go_wp2_with (refine wpList_store_row rfl 24 _ _ rfl (w.heap.size + 1) #[.int .i64 0, .int .i64 0, .int .i64 0, .string ⟨#[]⟩, .string ⟨#[]⟩] rfl rfl _ _ hgR2.out (by kernel_rfl) rfl (ver_one _ _ _ _ _) ?_)
      exact bump_done (u := Ver.zero) rfl rfl hgR2.out hbw2 HB.out (by unfold bumpV; rw [HB.out]; rfl)
    · by_cases p3 : 3 ≤ part
      · have HB : Hid (bumpOk ⟨a, b, c, p, q⟩ part = false) := by show _ = _; unfold bumpOk; rw [decide_eq_false (by omega)]; simp
        go_wp2_with (refine wpList_store_row rfl 24 _ _ rfl (w.heap.size + 1) #[.int .i64 0, .int .i64 0, .int .i64 0, .string ⟨#[]⟩, .string ⟨#[]⟩] rfl rfl _ _ hgR2.out (by kernel_rfl) rfl (ver_one _ _ _ _ _) ?_)
        exact bump_done (u := Ver.zero) rfl rfl hgR2.out hbw2 HB.out (by unfold bumpV; rw [HB.out]; rfl)
      · obtain ⟨n0, m0⟩ := cell_row (j := 0) hgN.out (by simp)
        obtain ⟨n1, m1⟩ := cell_row (j := 1) hgN.out (by simp)
        obtain ⟨n2, m2⟩ := cell_row (j := 2) hgN.out (by simp)
        simp only [List.getElem_toArray, List.getElem_cons_succ, List.getElem_cons_zero] at n0 n1 n2
        have hpart : part = 0 ∨ part = 1 ∨ part = 2 := by omega
        clear p0 p3
        rcases hpart with rfl | rfl | rfl
        · by_cases h9 : a = 9999
          · have h9b : (a == 9999) = true := by simpa using h9
            have HB : Hid (bumpOk ⟨a, b, c, p, q⟩ 0 = false) := by show _ = _; unfold bumpOk; rw [show nth3 a b c (0 : Int).toNat = a from rfl, h9b]; simp
            clear h9
            go_wp2_with (refine wpList_store_row rfl 24 _ _ rfl (w.heap.size + 1) #[.int .i64 0, .int .i64 0, .int .i64 0, .string ⟨#[]⟩, .string ⟨#[]⟩] rfl rfl _ _ hgR2.out (by kernel_rfl) rfl (ver_one _ _ _ _ _) ?_)
            exact bump_done (u := Ver.zero) rfl rfl hgR2.out hbw2 HB.out (by unfold bumpV; rw [HB.out]; rfl)
          · have h9b : (a == 9999) = false := by simpa using h9
            have HB : Hid (bumpOk ⟨a, b, c, p, q⟩ 0 = true) := by show _ = _; unfold bumpOk; rw [HM.out, show nth3 a b c (0 : Int).toNat = a from rfl, h9b]; rfl
            have hW : (w2.setCell ⟨w1.heap.size, 0, none⟩ (.int .i64 (a + 1))) = w2.setRow w1.heap.size #[.int .i64 (a + 1), .int .i64 (b), .int .i64 (c)] := set_row3 _ hgN.out
            have hcl : (Builtin.clear_ #[22] 0 #[.slice (some ⟨w1.heap.size, 1, none⟩) 2 2]).run Tryd.prog (w2.setRow w1.heap.size #[.int .i64 (a + 1), .int .i64 (b), .int .i64 (c)]) = .ok (.tuple #[]) (w2.setRow w1.heap.size #[.int .i64 (a + 1), .int .i64 (0), .int .i64 (0)]) := clear_two hgN.out rfl
            have hN2 := Lib.hid (setRow_heap w2 w1.heap.size _ #[.int .i64 (a + 1), .int .i64 (0), .int .i64 (0)] _ _ hgN.out)
            have hR2 := Lib.hid ((setRow_other w2 w1.heap.size (w.heap.size + 1) #[.int .i64 (a + 1), .int .i64 (0), .int .i64 (0)] (by omega)).trans hgR2.out)
            have hbR : Below w.heap.size w (w2.setRow w1.heap.size #[.int .i64 (a + 1), .int .i64 (0), .int .i64 (0)]) := below_setRow hbw2 (by omega) _
            have hsR : (w2.setRow w1.heap.size #[.int .i64 (a + 1), .int .i64 (0), .int .i64 (0)]).heap.size = w2.heap.size := by unfold World.setRow; simp
            have HSR := Lib.hid hsR
            clear hsR h9
            go_wp2_with (first
              | (refine wpList_load_row rfl 46 _ rfl w1.heap.size rfl _ _ _ _ hN2.out Tryd.underlying46 rfl (by kernel_rfl) ?_)
              | (go_at_call 27; refine (release_any _ _ _ _).mono ?_; unfold verV Ver.rel; rintro e w3 ⟨rfl, hb3⟩; have hR3 := Lib.hid ((hb3.block (w.heap.size + 1) (by rw [HSR.out]; omega)).trans hR2.out); have hbw3 := hbR.trans (hb3.mono hbR.size))
              | (refine wpList_store_row rfl 24 _ _ rfl (w.heap.size + 1) #[.int .i64 (a + 1), .int .i64 (0), .int .i64 (0), .string (mkS []), .string (mkS [])] rfl rfl _ _ hR3.out (by kernel_rfl) rfl (ver_one _ _ _ _ _) ?_))
            exact bump_done (u := Ver.rel (a + 1) (0) (0)) rfl rfl hR3.out hbw3 HB.out (by unfold bumpV; rw [HB.out]; rfl)
        · by_cases h9 : b = 9999
          · have h9b : (b == 9999) = true := by simpa using h9
            have HB : Hid (bumpOk ⟨a, b, c, p, q⟩ 1 = false) := by show _ = _; unfold bumpOk; rw [show nth3 a b c (1 : Int).toNat = b from rfl, h9b]; simp
            clear h9
            go_wp2_with (refine wpList_store_row rfl 24 _ _ rfl (w.heap.size + 1) #[.int .i64 0, .int .i64 0, .int .i64 0, .string ⟨#[]⟩, .string ⟨#[]⟩] rfl rfl _ _ hgR2.out (by kernel_rfl) rfl (ver_one _ _ _ _ _) ?_)
            exact bump_done (u := Ver.zero) rfl rfl hgR2.out hbw2 HB.out (by unfold bumpV; rw [HB.out]; rfl)
          · have h9b : (b == 9999) = false := by simpa using h9
            have HB : Hid (bumpOk ⟨a, b, c, p, q⟩ 1 = true) := by show _ = _; unfold bumpOk; rw [HM.out, show nth3 a b c (1 : Int).toNat = b from rfl, h9b]; rfl
            have hW : (w2.setCell ⟨w1.heap.size, 1, none⟩ (.int .i64 (b + 1))) = w2.setRow w1.heap.size #[.int .i64 (a), .int .i64 (b + 1), .int .i64 (c)] := set_row3 _ hgN.out
            have hcl : (Builtin.clear_ #[22] 0 #[.slice (some ⟨w1.heap.size, 2, none⟩) 1 1]).run Tryd.prog (w2.setRow w1.heap.size #[.int .i64 (a), .int .i64 (b + 1), .int .i64 (c)]) = .ok (.tuple #[]) (w2.setRow w1.heap.size #[.int .i64 (a), .int .i64 (b + 1), .int .i64 (0)]) := clear_one hgN.out rfl
            have hN2 := Lib.hid (setRow_heap w2 w1.heap.size _ #[.int .i64 (a), .int .i64 (b + 1), .int .i64 (0)] _ _ hgN.out)
            have hR2 := Lib.hid ((setRow_other w2 w1.heap.size (w.heap.size + 1) #[.int .i64 (a), .int .i64 (b + 1), .int .i64 (0)] (by omega)).trans hgR2.out)
            have hbR : Below w.heap.size w (w2.setRow w1.heap.size #[.int .i64 (a), .int .i64 (b + 1), .int .i64 (0)]) := below_setRow hbw2 (by omega) _
            have hsR : (w2.setRow w1.heap.size #[.int .i64 (a), .int .i64 (b + 1), .int .i64 (0)]).heap.size = w2.heap.size := by unfold World.setRow; simp
            have HSR := Lib.hid hsR
            clear hsR h9
            go_wp2_with (first
              | (refine wpList_load_row rfl 46 _ rfl w1.heap.size rfl _ _ _ _ hN2.out Tryd.underlying46 rfl (by kernel_rfl) ?_)
              | (go_at_call 27; refine (release_any _ _ _ _).mono ?_; unfold verV Ver.rel; rintro e w3 ⟨rfl, hb3⟩; have hR3 := Lib.hid ((hb3.block (w.heap.size + 1) (by rw [HSR.out]; omega)).trans hR2.out); have hbw3 := hbR.trans (hb3.mono hbR.size))
              | (refine wpList_store_row rfl 24 _ _ rfl (w.heap.size + 1) #[.int .i64 (a), .int .i64 (b + 1), .int .i64 (0), .string (mkS []), .string (mkS [])] rfl rfl _ _ hR3.out (by kernel_rfl) rfl (ver_one _ _ _ _ _) ?_))
            exact bump_done (u := Ver.rel (a) (b + 1) (0)) rfl rfl hR3.out hbw3 HB.out (by unfold bumpV; rw [HB.out]; rfl)
        · by_cases h9 : c = 9999
          · have h9b : (c == 9999) = true := by simpa using h9
            have HB : Hid (bumpOk ⟨a, b, c, p, q⟩ 2 = false) := by show _ = _; unfold bumpOk; rw [show nth3 a b c (2 : Int).toNat = c from rfl, h9b]; simp
            clear h9
            go_wp2_with (refine wpList_store_row rfl 24 _ _ rfl (w.heap.size + 1) #[.int .i64 0, .int .i64 0, .int .i64 0, .string ⟨#[]⟩, .string ⟨#[]⟩] rfl rfl _ _ hgR2.out (by kernel_rfl) rfl (ver_one _ _ _ _ _) ?_)
            exact bump_done (u := Ver.zero) rfl rfl hgR2.out hbw2 HB.out (by unfold bumpV; rw [HB.out]; rfl)
          · have h9b : (c == 9999) = false := by simpa using h9
            have HB : Hid (bumpOk ⟨a, b, c, p, q⟩ 2 = true) := by show _ = _; unfold bumpOk; rw [HM.out, show nth3 a b c (2 : Int).toNat = c from rfl, h9b]; rfl
            have hW : (w2.setCell ⟨w1.heap.size, 2, none⟩ (.int .i64 (c + 1))) = w2.setRow w1.heap.size #[.int .i64 (a), .int .i64 (b), .int .i64 (c + 1)] := set_row3 _ hgN.out
            have hcl : (Builtin.clear_ #[22] 0 #[.slice (some ⟨w1.heap.size, 0, none⟩) 0 0]).run Tryd.prog (w2.setRow w1.heap.size #[.int .i64 (a), .int .i64 (b), .int .i64 (c + 1)]) = .ok (.tuple #[]) (w2.setRow w1.heap.size #[.int .i64 (a), .int .i64 (b), .int .i64 (c + 1)]) := clear_none _ _
            have hN2 := Lib.hid (setRow_heap w2 w1.heap.size _ #[.int .i64 (a), .int .i64 (b), .int .i64 (c + 1)] _ _ hgN.out)
            have hR2 := Lib.hid ((setRow_other w2 w1.heap.size (w.heap.size + 1) #[.int .i64 (a), .int .i64 (b), .int .i64 (c + 1)] (by omega)).trans hgR2.out)
            have hbR : Below w.heap.size w (w2.setRow w1.heap.size #[.int .i64 (a), .int .i64 (b), .int .i64 (c + 1)]) := below_setRow hbw2 (by omega) _
            have hsR : (w2.setRow w1.heap.size #[.int .i64 (a), .int .i64 (b), .int .i64 (c + 1)]).heap.size = w2.heap.size := by unfold World.setRow; simp
            have HSR := Lib.hid hsR
            clear hsR h9
            go_wp2_with (first
              | (refine wpList_load_row rfl 46 _ rfl w1.heap.size rfl _ _ _ _ hN2.out Tryd.underlying46 rfl (by kernel_rfl) ?_)
              | (go_at_call 27; refine (release_any _ _ _ _).mono ?_; unfold verV Ver.rel; rintro e w3 ⟨rfl, hb3⟩; have hR3 := Lib.hid ((hb3.block (w.heap.size + 1) (by rw [HSR.out]; omega)).trans hR2.out); have hbw3 := hbR.trans (hb3.mono hbR.size))
              | (refine wpList_store_row rfl 24 _ _ rfl (w.heap.size + 1) #[.int .i64 (a), .int .i64 (b), .int .i64 (c + 1), .string (mkS []), .string (mkS [])] rfl rfl _ _ hR3.out (by kernel_rfl) rfl (ver_one _ _ _ _ _) ?_))
            exact bump_done (u := Ver.rel (a) (b) (c + 1)) rfl rfl hR3.out hbw3 HB.out (by unfold bumpV; rw [HB.out]; rfl)

theorem bump_any (v : Ver) (part : Int) (w : World) (hp : v.pre.length ≤ 1000000) (hq : v.build.length ≤ 1000000) :
    Calls Tryd.prog 29 #[verV v, .int .i64 part] w fun e w' => e = .returned (.tuple #[verV (bumpV v part), .bool (bumpOk v part)]) ∧ Below w.heap.size w w' := bump_go v part w hp hq

/-! ### Next -/
def nextOk (v : Ver) : Bool := v.may && (!v.pre.isEmpty || bumpOk v 2 || bumpOk v 1 || bumpOk v 0)
def nextV (v : Ver) : Ver :=
  if v.may then (if v.pre.isEmpty then (if bumpOk v 2 then bumpV v 2 else if bumpOk v 1 then bumpV v 1 else if bumpOk v 0 then bumpV v 0 else Ver.zero) else Ver.rel v.maj v.min v.pat) else Ver.zero
def NEnd (v : Ver) (w : World) (e : Ending) (w' : World) : Prop := e = .returned (.tuple #[verV (nextV v), .bool (nextOk v)]) ∧ Below w.heap.size w w'
theorem next_done {v u : Ver} {b : Bool} {w wr : World} {tmps : Array Value} {old : Array Value} (h2 : tmps.getD 2 undef = .pointer (some ⟨w.heap.size + 1, 0, none⟩)) (h3 : tmps.getD 3 undef = .bool b)
    (hg : wr.heap[w.heap.size + 1]? = some (.cells old 24)) (hbel : Below w.heap.size w wr) (hb : nextOk v = b) (hv : nextV v = u) :
    bodyPost Tryd.prog Tryd.f15 (NEnd v w) .ret ⟨tmps, []⟩ (wr.setRow (w.heap.size + 1) #[.int .i64 u.maj, .int .i64 u.min, .int .i64 u.pat, .string (mkS u.pre), .string (mkS u.build)]) := by
  have hrow := setRow_heap wr (w.heap.size + 1) _ #[.int .i64 u.maj, .int .i64 u.min, .int .i64 u.pat, .string (mkS u.pre), .string (mkS u.build)] _ _ hg
  have hr := run_loadVar_row (P := Tryd.prog) _ (w.heap.size + 1) 24 24 _ _ _ hrow Tryd.underlying24 rfl (by kernel_rfl)
  have h2' : tmps[2]?.getD undef = .pointer (some ⟨w.heap.size + 1, 0, none⟩) := by simpa using h2
  have h3' : tmps[3]?.getD undef = .bool b := by simpa using h3
  refine bodyPost_ret (v := .tuple #[verV u, .bool b]) (by simp [results, Tryd.results15, asAddr, h2', h3', hr, verV]) rfl ⟨by rw [hv, hb], below_setRow hbel (by omega) _⟩
/-- What the loop over the parts 2, 1, 0 finds from a part on. -/
def findB (v : Ver) : Nat → Ver × Bool
  | 0 => (Ver.zero, false)
  | k + 1 => if bumpOk v k then (bumpV v k, true) else findB v k
theorem find_next (v : Ver) (h : (!v.pre.isEmpty && v.may) = false) : nextV v = (findB v 3).1 ∧ nextOk v = (findB v 3).2 := by
  unfold nextV nextOk
  show _ = (if bumpOk v 2 then (bumpV v 2, true) else if bumpOk v 1 then (bumpV v 1, true) else if bumpOk v 0 then (bumpV v 0, true) else (Ver.zero, false)).1 ∧ _ = (if bumpOk v 2 then (bumpV v 2, true) else if bumpOk v 1 then (bumpV v 1, true) else if bumpOk v 0 then (bumpV v 0, true) else (Ver.zero, false)).2
  cases hm : v.may with
  | true =>
    rw [hm, Bool.and_true] at h
    rw [h]
    have hp : v.pre.isEmpty = true := by simpa using h
    rw [hp]
    cases bumpOk v 2 <;> cases bumpOk v 1 <;> cases bumpOk v 0 <;> simp
  | false =>
    have hk : ∀ k, bumpOk v k = false := fun k => by unfold bumpOk; rw [hm]; rfl
    rw [hk, hk, hk]; simp

set_option maxHeartbeats 4000000 in
set_option maxRecDepth 100000 in
theorem next_go (v : Ver) (w : World) (hp : v.pre.length ≤ 1000000) (hq : v.build.length ≤ 1000000) :
    Calls Tryd.prog 15 #[verV v] w (NEnd v w) := by
  have cM := fun w' => may_any v w' (by omega) (by omega)
  have cN := fun w' => numbers_any v w'
  have ep := empty_mk2 v.pre
  obtain ⟨a, b, c, p, q⟩ := v
  unfold verV at cM cN ⊢
  dsimp only at cM cN ep hp hq ⊢
  cases he : p.isEmpty with
  | true =>
    have HG : Hid ((!p.isEmpty && (Ver.mk a b c p q).may) = false) := by show _ = _; rw [he]; rfl
    rw [he] at ep
    clear he cM cN
    go_enter Tryd.func15, Tryd.ntmps15
    go_wp2
    go_loopw [4] (fun x wr => ∃ k : Nat, k ≤ 3 ∧ x = .int .i64 ((k : Int) - 1) ∧ wr.heap[w.heap.size]? = some (.cells #[.int .i64 a, .int .i64 b, .int .i64 c, .string (mkS p), .string (mkS q)] 24) ∧ wr.heap[w.heap.size + 1]? = some (.cells #[.int .i64 0, .int .i64 0, .int .i64 0, .string ⟨#[]⟩, .string ⟨#[]⟩] 24) ∧ Below w.heap.size w wr ∧ Hid (findB ⟨a, b, c, p, q⟩ k = findB ⟨a, b, c, p, q⟩ 3)) (fun x _ => ((intOf x) + 1).toNat)
    case atStart => exact ⟨3, by omega, rfl, (heap_old _ _ (by rw [size_box]; omega)).trans (heap_new w _), heap_at _ _ _ (by rw [size_box]), ((Below.refl _ _).alloc (Nat.le_refl _) _).alloc (by rw [size_box]; omega) _, rfl⟩
    case round =>
      obtain ⟨k, hk, rfl, hB, hR, hbel, HR⟩ := hrel
      have hlR := (Array.getElem?_eq_some_iff.1 hR).1
      have HB := Lib.hid hB
      have HR0 := Lib.hid hR
      clear hB hR
      cases k with
      | zero =>
        have HF : Hid (findB ⟨a, b, c, p, q⟩ 3 = (Ver.zero, false)) := HR.out.symm
        go_wp2_with (refine wpList_store_row rfl 24 _ _ rfl (w.heap.size + 1) #[.int .i64 0, .int .i64 0, .int .i64 0, .string ⟨#[]⟩, .string ⟨#[]⟩] rfl rfl _ _ HR0.out (by kernel_rfl) rfl (ver_one _ _ _ _ _) ?_)
        have hf := find_next ⟨a, b, c, p, q⟩ HG.out
        rw [HF.out] at hf
        exact next_done (u := Ver.zero) rfl rfl HR0.out hbel hf.2 hf.1
      | succ k =>
        have hk0 : (0 : Int) ≤ k := by omega
        have hke : (((k + 1 : Nat) : Int) - 1) = (k : Int) := by omega
        rw [hke]
        have cB := fun w' => bump_any ⟨a, b, c, p, q⟩ (k : Int) w' hp hq
        unfold verV at cB
        dsimp only at cB
        cases hb : bumpOk ⟨a, b, c, p, q⟩ (k : Int) with
        | true =>
          rw [hb] at cB
          obtain ⟨u, hu⟩ : ∃ u, bumpV ⟨a, b, c, p, q⟩ (k : Int) = u := ⟨_, rfl⟩
          rw [hu] at cB
          have hfq : findB ⟨a, b, c, p, q⟩ 3 = (u, true) := by rw [← HR.out, findB, hb, hu]; rfl
          have HF := Lib.hid hfq
          clear hfq hb hu hke
          go_wp2_with (first
            | (refine wpList_load_row rfl 24 _ rfl w.heap.size rfl _ _ _ _ HB.out Tryd.underlying24 rfl (by kernel_rfl) ?_)
            | (go_at_call 29; refine (cB _).mono ?_; rintro e w3 ⟨rfl, hb3⟩; have hR3 := Lib.hid ((hb3.block (w.heap.size + 1) hlR).trans HR0.out); have hbw3 := hbel.trans (hb3.mono hbel.size); have hl3 := Nat.lt_of_lt_of_le hlR hb3.size)
            | (refine wpList_store_row rfl 24 _ _ rfl (w.heap.size + 1) #[.int .i64 u.maj, .int .i64 u.min, .int .i64 u.pat, .string (mkS u.pre), .string (mkS u.build)] rfl rfl _ _ ((heap_old _ _ hl3).trans hR3.out) (by kernel_rfl) rfl (ver_one _ _ _ _ _) ?_))
          have hf := find_next ⟨a, b, c, p, q⟩ HG.out
          rw [HF.out] at hf
          exact next_done (u := u) rfl rfl ((heap_old _ _ hl3).trans hR3.out) (hbw3.alloc (by omega) _) hf.2 hf.1
        | false =>
          rw [hb] at cB
          obtain ⟨u, hu⟩ : ∃ u, bumpV ⟨a, b, c, p, q⟩ (k : Int) = u := ⟨_, rfl⟩
          rw [hu] at cB
          have hfq : findB ⟨a, b, c, p, q⟩ k = findB ⟨a, b, c, p, q⟩ 3 := by rw [← HR.out, findB, hb]; rfl
          have HF := Lib.hid hfq
          clear hfq hb hu hke
          go_wp2_with (first
            | (refine wpList_load_row rfl 24 _ rfl w.heap.size rfl _ _ _ _ HB.out Tryd.underlying24 rfl (by kernel_rfl) ?_)
            | (go_at_call 29; refine (cB _).mono ?_; rintro e w3 ⟨rfl, hb3⟩; have hl3 := Nat.lt_of_lt_of_le hlR hb3.size))
          have hR3 := (hb3.block (w.heap.size + 1) hlR).trans HR0.out
          have hB3 := (hb3.block w.heap.size (by omega)).trans HB.out
          have hbw3 := hbel.trans (hb3.mono hbel.size)
          go_roundw
          case rel => exact ⟨k, by omega, rfl, (heap_old _ _ (by omega)).trans hB3, (heap_old _ _ hl3).trans hR3, hbw3.alloc (by omega) _, HF.out⟩
          case measure => simp [intOf]; try omega
  | false =>
    rw [he] at ep
    obtain ⟨m, hm⟩ : ∃ m, (Ver.mk a b c p q).may = m := ⟨_, rfl⟩
    rw [hm] at cM
    cases m with
    | false =>
      have HG : Hid ((!p.isEmpty && (Ver.mk a b c p q).may) = false) := by show _ = _; rw [hm, Bool.and_false]
      clear he hm cN
      go_enter Tryd.func15, Tryd.ntmps15
      go_wp2_with fail
      refine (cM _).mono ?_
      rintro e w1 ⟨rfl, hb1⟩
      have hgB := (hb1.block w.heap.size (by simp only [size_box]; omega)).trans ((heap_old _ _ (by simp only [size_box]; omega)).trans (heap_new w _))
      have hgR := (hb1.block (w.heap.size + 1) (by simp only [size_box]; omega)).trans (heap_at _ _ _ (by simp only [size_box]))
      have hbw : Below w.heap.size w w1 := (((Below.refl _ _).alloc (Nat.le_refl _) _).alloc (by simp only [size_box]; omega) _).trans (hb1.mono (by simp only [size_box]; omega))
      have HGB := Lib.hid hgB
      have HGR := Lib.hid hgR
      clear hgB hgR
      go_wp2
      go_loopw [4] (fun x wr => ∃ k : Nat, k ≤ 3 ∧ x = .int .i64 ((k : Int) - 1) ∧ wr.heap[w.heap.size]? = some (.cells #[.int .i64 a, .int .i64 b, .int .i64 c, .string (mkS p), .string (mkS q)] 24) ∧ wr.heap[w.heap.size + 1]? = some (.cells #[.int .i64 0, .int .i64 0, .int .i64 0, .string ⟨#[]⟩, .string ⟨#[]⟩] 24) ∧ Below w.heap.size w wr ∧ Hid (findB ⟨a, b, c, p, q⟩ k = findB ⟨a, b, c, p, q⟩ 3)) (fun x _ => ((intOf x) + 1).toNat)
      case atStart => exact ⟨3, by omega, rfl, HGB.out, HGR.out, hbw, rfl⟩
      case round =>
        obtain ⟨k, hk, rfl, hB, hR, hbel, HR⟩ := hrel
        have hlR := (Array.getElem?_eq_some_iff.1 hR).1
        have HB := Lib.hid hB
        have HR0 := Lib.hid hR
        clear hB hR
        cases k with
        | zero =>
          have HF : Hid (findB ⟨a, b, c, p, q⟩ 3 = (Ver.zero, false)) := HR.out.symm
          go_wp2_with (refine wpList_store_row rfl 24 _ _ rfl (w.heap.size + 1) #[.int .i64 0, .int .i64 0, .int .i64 0, .string ⟨#[]⟩, .string ⟨#[]⟩] rfl rfl _ _ HR0.out (by kernel_rfl) rfl (ver_one _ _ _ _ _) ?_)
          have hf := find_next ⟨a, b, c, p, q⟩ HG.out
          rw [HF.out] at hf
          exact next_done (u := Ver.zero) rfl rfl HR0.out hbel hf.2 hf.1
        | succ k =>
          have hk0 : (0 : Int) ≤ k := by omega
          have hke : (((k + 1 : Nat) : Int) - 1) = (k : Int) := by omega
          rw [hke]
          have cB := fun w' => bump_any ⟨a, b, c, p, q⟩ (k : Int) w' hp hq
          unfold verV at cB
          dsimp only at cB
          cases hb : bumpOk ⟨a, b, c, p, q⟩ (k : Int) with
          | true =>
            rw [hb] at cB
            obtain ⟨u, hu⟩ : ∃ u, bumpV ⟨a, b, c, p, q⟩ (k : Int) = u := ⟨_, rfl⟩
            rw [hu] at cB
            have hfq : findB ⟨a, b, c, p, q⟩ 3 = (u, true) := by rw [← HR.out, findB, hb, hu]; rfl
            have HF := Lib.hid hfq
            clear hfq hb hu hke
            go_wp2_with (first
              | (refine wpList_load_row rfl 24 _ rfl w.heap.size rfl _ _ _ _ HB.out Tryd.underlying24 rfl (by kernel_rfl) ?_)
              | (go_at_call 29; refine (cB _).mono ?_; rintro e w3 ⟨rfl, hb3⟩; have hR3 := Lib.hid ((hb3.block (w.heap.size + 1) hlR).trans HR0.out); have hbw3 := hbel.trans (hb3.mono hbel.size); have hl3 := Nat.lt_of_lt_of_le hlR hb3.size)
              | (refine wpList_store_row rfl 24 _ _ rfl (w.heap.size + 1) #[.int .i64 u.maj, .int .i64 u.min, .int .i64 u.pat, .string (mkS u.pre), .string (mkS u.build)] rfl rfl _ _ ((heap_old _ _ hl3).trans hR3.out) (by kernel_rfl) rfl (ver_one _ _ _ _ _) ?_))
            have hf := find_next ⟨a, b, c, p, q⟩ HG.out
            rw [HF.out] at hf
            exact next_done (u := u) rfl rfl ((heap_old _ _ hl3).trans hR3.out) (hbw3.alloc (by omega) _) hf.2 hf.1
          | false =>
            rw [hb] at cB
            obtain ⟨u, hu⟩ : ∃ u, bumpV ⟨a, b, c, p, q⟩ (k : Int) = u := ⟨_, rfl⟩
            rw [hu] at cB
            have hfq : findB ⟨a, b, c, p, q⟩ k = findB ⟨a, b, c, p, q⟩ 3 := by rw [← HR.out, findB, hb]; rfl
            have HF := Lib.hid hfq
            clear hfq hb hu hke
            go_wp2_with (first
              | (refine wpList_load_row rfl 24 _ rfl w.heap.size rfl _ _ _ _ HB.out Tryd.underlying24 rfl (by kernel_rfl) ?_)
              | (go_at_call 29; refine (cB _).mono ?_; rintro e w3 ⟨rfl, hb3⟩; have hl3 := Nat.lt_of_lt_of_le hlR hb3.size))
            have hR3 := (hb3.block (w.heap.size + 1) hlR).trans HR0.out
            have hB3 := (hb3.block w.heap.size (by omega)).trans HB.out
            have hbw3 := hbel.trans (hb3.mono hbel.size)
            go_roundw
            case rel => exact ⟨k, by omega, rfl, (heap_old _ _ (by omega)).trans hB3, (heap_old _ _ hl3).trans hR3, hbw3.alloc (by omega) _, HF.out⟩
            case measure => simp [intOf]; try omega
    | true =>
      have HV : Hid (nextV ⟨a, b, c, p, q⟩ = Ver.rel a b c) := by show _ = _; unfold nextV; rw [if_pos hm, if_neg (by simp [he])]
      have HO : Hid (nextOk ⟨a, b, c, p, q⟩ = true) := by show _ = _; unfold nextOk; rw [hm]; simp [he]
      clear he hm
      go_enter Tryd.func15, Tryd.ntmps15
      go_wp2_with fail
      refine (cM _).mono ?_
      rintro e w1 ⟨rfl, hb1⟩
      have hz1 := hb1.size
      simp only [size_box] at hz1
      have hgB := (hb1.block w.heap.size (by simp only [size_box]; omega)).trans ((heap_old _ _ (by simp only [size_box]; omega)).trans (heap_new w _))
      have hgR := (hb1.block (w.heap.size + 1) (by simp only [size_box]; omega)).trans (heap_at _ _ _ (by simp only [size_box]))
      have hbw : Below w.heap.size w w1 := (((Below.refl _ _).alloc (Nat.le_refl _) _).alloc (by simp only [size_box]; omega) _).trans (hb1.mono (by simp only [size_box]; omega))
      have HGB := Lib.hid hgB
      have HGR := Lib.hid hgR
      clear hgB hgR hb1 cM
      go_wp2_with (first
        | (refine wpList_load_row rfl 24 _ rfl w.heap.size rfl _ _ _ _ HGB.out Tryd.underlying24 rfl (by kernel_rfl) ?_)
        | (go_at_call 20; refine (cN _).mono ?_; rintro e w2 ⟨rfl, hb2⟩; have hR2 := Lib.hid ((hb2.block (w.heap.size + 1) (by omega)).trans HGR.out); have hbw2 := hbw.trans (hb2.mono hbw.size); have hl2 := hb2.size)
        | (go_at_call 27; refine (release_any _ _ _ _).mono ?_; unfold verV Ver.rel; rintro e w3 ⟨rfl, hb3⟩; have hR3 := Lib.hid ((hb3.block (w.heap.size + 1) (by omega)).trans hR2.out); have hbw3 := hbw2.trans (hb3.mono hbw2.size))
        | (refine wpList_store_row rfl 24 _ _ rfl (w.heap.size + 1) #[.int .i64 a, .int .i64 b, .int .i64 c, .string (mkS []), .string (mkS [])] rfl rfl _ _ hR3.out (by kernel_rfl) rfl (ver_one _ _ _ _ _) ?_))
      exact next_done (u := Ver.rel a b c) rfl rfl hR3.out hbw3 HO.out HV.out

theorem vnext_any (v : Ver) (w : World) (hp : v.pre.length ≤ 1000000) (hq : v.build.length ≤ 1000000) :
    Calls Tryd.prog 15 #[verV v] w fun e w' => e = .returned (.tuple #[verV (nextV v), .bool (nextOk v)]) ∧ Below w.heap.size w w' := next_go v w hp hq
end Go.Proofs.YtndjdmbbndcohaaDoor
