/-
  The document's own answer for chapter 2 (linchpinref2): Bump and Next: the same values as package version's. Conditions: strings of at most a million bytes.
-/
import Derived.Test.YtdkdghbmeoeliaaDoorR2May
import Derived.Test.YtdkdghbmeoeliaaDoorVBump
namespace Go.Proofs.YtdkdghbmeoeliaaDoor
open Go.RowKit

theorem rel_may (a b c : Int) : (Ver.rel a b c).may = (numOkI a && numOkI b && numOkI c) := by
  unfold Ver.may Ver.rel
  have h1 : preOk [] = true := by decide
  have h2 : listOk [] = true := by decide
  dsimp only
  rw [h1, h2, Bool.and_true, Bool.and_true]
theorem may_nat3 {v : Ver} (h : v.may = true) : (0 ≤ v.maj ∧ v.maj ≤ 9999) ∧ (0 ≤ v.min ∧ v.min ≤ 9999) ∧ (0 ≤ v.pat ∧ v.pat ≤ 9999) := by
  obtain ⟨h1, h2, h3⟩ := may_nums h
  unfold numOkI at h1 h2 h3; simp at h1 h2 h3
  exact ⟨h1, h2, h3⟩
theorem up_ok {a : Int} (h : 0 ≤ a ∧ a ≤ 9999) : numOkI (a + 1) = !(a == 9999) := by
  unfold numOkI
  by_cases e : a = 9999
  · subst e; decide
  · have : (a == 9999) = false := by simpa using e
    rw [this]; simp; omega
theorem in_ok {a : Int} (h : 0 ≤ a ∧ a ≤ 9999) : numOkI a = true := by unfold numOkI; simp; omega
theorem bump_may {v : Ver} (h : v.may = true) (k : Nat) (hk : k < 3) : (bumpN v k).may = bumpOk v k := by
  obtain ⟨h1, h2, h3⟩ := may_nat3 h
  have hz : numOkI 0 = true := by decide
  match k, hk with
  | 0, _ =>
    show (Ver.rel (v.maj + 1) 0 0).may = _
    rw [rel_may, up_ok h1, hz]
    unfold bumpOk; rw [h, show nth3 v.maj v.min v.pat ((0 : Nat) : Int).toNat = v.maj from rfl]; simp
  | 1, _ =>
    show (Ver.rel v.maj (v.min + 1) 0).may = _
    rw [rel_may, up_ok h2, hz, in_ok h1]
    unfold bumpOk; rw [h, show nth3 v.maj v.min v.pat ((1 : Nat) : Int).toNat = v.min from rfl]; simp
  | 2, _ =>
    show (Ver.rel v.maj v.min (v.pat + 1)).may = _
    rw [rel_may, up_ok h3, in_ok h1, in_ok h2]
    unfold bumpOk; rw [h, show nth3 v.maj v.min v.pat ((2 : Nat) : Int).toNat = v.pat from rfl]; simp
theorem rbump_done {v u : Ver} {part : Int} {b : Bool} {w wr : World} {tmps : Array Value} {old : Array Value} (h2 : tmps.getD 4 undef = .pointer (some ⟨w.heap.size + 1, 0, none⟩)) (h3 : tmps.getD 5 undef = .bool b)
    (hg : wr.heap[w.heap.size + 1]? = some (.cells old 24)) (hbel : Below w.heap.size w wr) (hb : bumpOk v part = b) (hv : bumpV v part = u) :
    bodyPost Tryd.prog Tryd.f26 (BEnd v part w) .ret ⟨tmps, []⟩ (wr.setRow (w.heap.size + 1) #[.int .i64 u.maj, .int .i64 u.min, .int .i64 u.pat, .string (mkS u.pre), .string (mkS u.build)]) := by
  have hrow := setRow_heap wr (w.heap.size + 1) _ #[.int .i64 u.maj, .int .i64 u.min, .int .i64 u.pat, .string (mkS u.pre), .string (mkS u.build)] _ _ hg
  have hr := run_loadVar_row (P := Tryd.prog) _ (w.heap.size + 1) 24 24 _ _ _ hrow Tryd.underlying24 rfl (by kernel_rfl)
  have h2' : tmps[4]?.getD undef = .pointer (some ⟨w.heap.size + 1, 0, none⟩) := by simpa using h2
  have h3' : tmps[5]?.getD undef = .bool b := by simpa using h3
  refine bodyPost_ret (v := .tuple #[verV u, .bool b]) (by simp [results, Tryd.results26, asAddr, h2', h3', hr, verV]) rfl ⟨by rw [hv, hb], below_setRow hbel (by omega) _⟩

set_option maxHeartbeats 8000000 in
set_option maxRecDepth 100000 in
theorem rbump_go (v : Ver) (part : Int) (w : World) (hp : v.pre.length ≤ 1000000) (hq : v.build.length ≤ 1000000) :
    Calls Tryd.prog 26 #[verV v, .int .i64 part] w (BEnd v part w) := by
  have cM := fun w' => rmay_any v w' hp hq
  obtain ⟨m, hm⟩ : ∃ m, v.may = m := ⟨_, rfl⟩
  rw [hm] at cM
  obtain ⟨a, b, c, p, q⟩ := v
  unfold verV at cM ⊢
  dsimp only at cM ⊢
  cases m with
  | false =>
    have HB : Hid (bumpOk ⟨a, b, c, p, q⟩ part = false) := by show _ = _; unfold bumpOk; rw [hm]; rfl
    clear hm
    go_enter Tryd.func26, Tryd.ntmps26
    go_wp2_with fail
    refine (cM _).mono ?_
    rintro e w1 ⟨rfl, hb1⟩
    have hgR := Lib.hid ((hb1.block (w.heap.size + 1) (by simp only [size_box]; omega)).trans (heap_at _ _ _ (by simp only [size_box])))
    have hbw : Below w.heap.size w w1 := (((Below.refl _ _).alloc (Nat.le_refl _) _).alloc (by simp only [size_box]; omega) _).trans (hb1.mono (by simp only [size_box]; omega))
    go_wp2_with (refine wpList_store_row rfl 24 _ _ rfl (w.heap.size + 1) #[.int .i64 0, .int .i64 0, .int .i64 0, .string ⟨#[]⟩, .string ⟨#[]⟩] rfl rfl _ _ hgR.out (by kernel_rfl) rfl (ver_one _ _ _ _ _) ?_)
    exact rbump_done (u := Ver.zero) rfl rfl hgR.out hbw HB.out (by unfold bumpV; rw [HB.out]; rfl)
  | true =>
    have HM := Lib.hid hm
    obtain ⟨⟨a0, a9⟩, ⟨b0, b9⟩, ⟨c0, c9⟩⟩ := may_nat3 hm
    dsimp only at a0 a9 b0 b9 c0 c9
    clear hm
    go_enter Tryd.func26, Tryd.ntmps26
    go_wp2_with fail
    refine (cM _).mono ?_
    rintro e w1 ⟨rfl, hb1⟩
    have hz1 := hb1.size
    simp only [size_box] at hz1
    have hgB := (hb1.block w.heap.size (by simp only [size_box]; omega)).trans ((heap_old _ _ (by simp only [size_box]; omega)).trans (heap_new w _))
    have hgR := Lib.hid ((hb1.block (w.heap.size + 1) (by simp only [size_box]; omega)).trans (heap_at _ _ _ (by simp only [size_box])))
    have hbw : Below w.heap.size w w1 := (((Below.refl _ _).alloc (Nat.le_refl _) _).alloc (by simp only [size_box]; omega) _).trans (hb1.mono (by simp only [size_box]; omega))
    obtain ⟨k0, _⟩ := cell_row (j := 0) hgB (by simp)
    obtain ⟨k1, _⟩ := cell_row (j := 1) hgB (by simp)
    obtain ⟨k2, _⟩ := cell_row (j := 2) hgB (by simp)
    simp only [List.getElem_toArray, List.getElem_cons_succ, List.getElem_cons_zero] at k0 k1 k2
    have hsB : w.heap.size < w1.heap.size := by omega
    clear hgB hb1 cM
    by_cases p0 : part < 0
    · have HB : Hid (bumpOk ⟨a, b, c, p, q⟩ part = false) := by show _ = _; unfold bumpOk; rw [decide_eq_false (by omega)]; simp
      go_wp2_with (refine wpList_store_row rfl 24 _ _ rfl (w.heap.size + 1) #[.int .i64 0, .int .i64 0, .int .i64 0, .string ⟨#[]⟩, .string ⟨#[]⟩] rfl rfl _ _ hgR.out (by kernel_rfl) rfl (ver_one _ _ _ _ _) ?_)
      exact rbump_done (u := Ver.zero) rfl rfl hgR.out hbw HB.out (by unfold bumpV; rw [HB.out]; rfl)
    · by_cases p3 : 2 < part
      · have HB : Hid (bumpOk ⟨a, b, c, p, q⟩ part = false) := by show _ = _; unfold bumpOk; rw [decide_eq_false (by omega)]; simp
        go_wp2_with (refine wpList_store_row rfl 24 _ _ rfl (w.heap.size + 1) #[.int .i64 0, .int .i64 0, .int .i64 0, .string ⟨#[]⟩, .string ⟨#[]⟩] rfl rfl _ _ hgR.out (by kernel_rfl) rfl (ver_one _ _ _ _ _) ?_)
        exact rbump_done (u := Ver.zero) rfl rfl hgR.out hbw HB.out (by unfold bumpV; rw [HB.out]; rfl)
      · have hpart : part = ((0 : Nat) : Int) ∨ part = ((1 : Nat) : Int) ∨ part = ((2 : Nat) : Int) := by omega
        clear p0 p3
        rcases hpart with rfl | rfl | rfl
        · have hmb := bump_may (v := ⟨a, b, c, p, q⟩) HM.out 0 (by omega)
          have cO := fun w' => rmay_any (bumpN ⟨a, b, c, p, q⟩ 0) w' (by show (0 : Nat) ≤ _; omega) (by show (0 : Nat) ≤ _; omega)
          rw [hmb] at cO
          obtain ⟨o, ho⟩ : ∃ o, bumpOk ⟨a, b, c, p, q⟩ ((0 : Nat) : Int) = o := ⟨_, rfl⟩
          have hval : o = true → bumpV ⟨a, b, c, p, q⟩ ((0 : Nat) : Int) = Ver.rel (a + 1) (0) (0) := fun h => by unfold bumpV; rw [ho, h]; rfl
          have hval2 : o = false → bumpV ⟨a, b, c, p, q⟩ ((0 : Nat) : Int) = Ver.zero := fun h => by unfold bumpV; rw [ho, h]; rfl
          rw [ho] at cO
          have HO := Lib.hid ho
          have HV := Lib.hid hval
          have HV2 := Lib.hid hval2
          clear ho hval hval2 hmb
          rw [show bumpN ⟨a, b, c, p, q⟩ 0 = Ver.rel (a + 1) (0) (0) from rfl] at cO
          unfold verV Ver.rel at cO
          dsimp only at cO
          go_wp2_with fail
          refine (cO _).mono ?_
          rintro e w2 ⟨rfl, hb2⟩
          have hg2 := Lib.hid ((hb2.block (w.heap.size + 1) (by rw [size_box]; omega)).trans ((heap_old w1 _ (by omega)).trans hgR.out))
          have hgV := Lib.hid ((hb2.block w1.heap.size (by rw [size_box]; omega)).trans (heap_new w1 _))
          have hbw2 : Below w.heap.size w w2 := (hbw.alloc (by omega) _).trans (hb2.mono (by rw [size_box]; omega))
          cases o with
          | false =>
            go_wp2_with (refine wpList_store_row rfl 24 _ _ rfl (w.heap.size + 1) #[.int .i64 0, .int .i64 0, .int .i64 0, .string ⟨#[]⟩, .string ⟨#[]⟩] rfl rfl _ _ hg2.out (by kernel_rfl) rfl (ver_one _ _ _ _ _) ?_)
            exact rbump_done (u := Ver.zero) rfl rfl hg2.out hbw2 HO.out (HV2.out trivial)
          | true =>
            go_wp2_with (first
              | (refine wpList_load_row rfl 24 _ rfl w1.heap.size rfl _ _ _ _ hgV.out Tryd.underlying24 rfl (by kernel_rfl) ?_)
              | (refine wpList_store_row rfl 24 _ _ rfl (w.heap.size + 1) _ rfl rfl _ _ hg2.out (by kernel_rfl) rfl (ver_one _ _ _ _ _) ?_))
            exact rbump_done (u := Ver.rel (a + 1) (0) (0)) rfl rfl hg2.out hbw2 HO.out (HV.out trivial)
        · have hmb := bump_may (v := ⟨a, b, c, p, q⟩) HM.out 1 (by omega)
          have cO := fun w' => rmay_any (bumpN ⟨a, b, c, p, q⟩ 1) w' (by show (0 : Nat) ≤ _; omega) (by show (0 : Nat) ≤ _; omega)
          rw [hmb] at cO
          obtain ⟨o, ho⟩ : ∃ o, bumpOk ⟨a, b, c, p, q⟩ ((1 : Nat) : Int) = o := ⟨_, rfl⟩
          have hval : o = true → bumpV ⟨a, b, c, p, q⟩ ((1 : Nat) : Int) = Ver.rel (a) (b + 1) (0) := fun h => by unfold bumpV; rw [ho, h]; rfl
          have hval2 : o = false → bumpV ⟨a, b, c, p, q⟩ ((1 : Nat) : Int) = Ver.zero := fun h => by unfold bumpV; rw [ho, h]; rfl
          rw [ho] at cO
          have HO := Lib.hid ho
          have HV := Lib.hid hval
          have HV2 := Lib.hid hval2
          clear ho hval hval2 hmb
          rw [show bumpN ⟨a, b, c, p, q⟩ 1 = Ver.rel (a) (b + 1) (0) from rfl] at cO
          unfold verV Ver.rel at cO
          dsimp only at cO
          go_wp2_with fail
          refine (cO _).mono ?_
          rintro e w2 ⟨rfl, hb2⟩
          have hg2 := Lib.hid ((hb2.block (w.heap.size + 1) (by rw [size_box]; omega)).trans ((heap_old w1 _ (by omega)).trans hgR.out))
          have hgV := Lib.hid ((hb2.block w1.heap.size (by rw [size_box]; omega)).trans (heap_new w1 _))
          have hbw2 : Below w.heap.size w w2 := (hbw.alloc (by omega) _).trans (hb2.mono (by rw [size_box]; omega))
          cases o with
          | false =>
            go_wp2_with (refine wpList_store_row rfl 24 _ _ rfl (w.heap.size + 1) #[.int .i64 0, .int .i64 0, .int .i64 0, .string ⟨#[]⟩, .string ⟨#[]⟩] rfl rfl _ _ hg2.out (by kernel_rfl) rfl (ver_one _ _ _ _ _) ?_)
            exact rbump_done (u := Ver.zero) rfl rfl hg2.out hbw2 HO.out (HV2.out trivial)
          | true =>
            go_wp2_with (first
              | (refine wpList_load_row rfl 24 _ rfl w1.heap.size rfl _ _ _ _ hgV.out Tryd.underlying24 rfl (by kernel_rfl) ?_)
              | (refine wpList_store_row rfl 24 _ _ rfl (w.heap.size + 1) _ rfl rfl _ _ hg2.out (by kernel_rfl) rfl (ver_one _ _ _ _ _) ?_))
            exact rbump_done (u := Ver.rel (a) (b + 1) (0)) rfl rfl hg2.out hbw2 HO.out (HV.out trivial)
        · have hmb := bump_may (v := ⟨a, b, c, p, q⟩) HM.out 2 (by omega)
          have cO := fun w' => rmay_any (bumpN ⟨a, b, c, p, q⟩ 2) w' (by show (0 : Nat) ≤ _; omega) (by show (0 : Nat) ≤ _; omega)
          rw [hmb] at cO
          obtain ⟨o, ho⟩ : ∃ o, bumpOk ⟨a, b, c, p, q⟩ ((2 : Nat) : Int) = o := ⟨_, rfl⟩
          have hval : o = true → bumpV ⟨a, b, c, p, q⟩ ((2 : Nat) : Int) = Ver.rel (a) (b) (c + 1) := fun h => by unfold bumpV; rw [ho, h]; rfl
          have hval2 : o = false → bumpV ⟨a, b, c, p, q⟩ ((2 : Nat) : Int) = Ver.zero := fun h => by unfold bumpV; rw [ho, h]; rfl
          rw [ho] at cO
          have HO := Lib.hid ho
          have HV := Lib.hid hval
          have HV2 := Lib.hid hval2
          clear ho hval hval2 hmb
          rw [show bumpN ⟨a, b, c, p, q⟩ 2 = Ver.rel (a) (b) (c + 1) from rfl] at cO
          unfold verV Ver.rel at cO
          dsimp only at cO
          go_wp2_with fail
          refine (cO _).mono ?_
          rintro e w2 ⟨rfl, hb2⟩
          have hg2 := Lib.hid ((hb2.block (w.heap.size + 1) (by rw [size_box]; omega)).trans ((heap_old w1 _ (by omega)).trans hgR.out))
          have hgV := Lib.hid ((hb2.block w1.heap.size (by rw [size_box]; omega)).trans (heap_new w1 _))
          have hbw2 : Below w.heap.size w w2 := (hbw.alloc (by omega) _).trans (hb2.mono (by rw [size_box]; omega))
          cases o with
          | false =>
            go_wp2_with (refine wpList_store_row rfl 24 _ _ rfl (w.heap.size + 1) #[.int .i64 0, .int .i64 0, .int .i64 0, .string ⟨#[]⟩, .string ⟨#[]⟩] rfl rfl _ _ hg2.out (by kernel_rfl) rfl (ver_one _ _ _ _ _) ?_)
            exact rbump_done (u := Ver.zero) rfl rfl hg2.out hbw2 HO.out (HV2.out trivial)
          | true =>
            go_wp2_with (first
              | (refine wpList_load_row rfl 24 _ rfl w1.heap.size rfl _ _ _ _ hgV.out Tryd.underlying24 rfl (by kernel_rfl) ?_)
              | (refine wpList_store_row rfl 24 _ _ rfl (w.heap.size + 1) _ rfl rfl _ _ hg2.out (by kernel_rfl) rfl (ver_one _ _ _ _ _) ?_))
            exact rbump_done (u := Ver.rel (a) (b) (c + 1)) rfl rfl hg2.out hbw2 HO.out (HV.out trivial)

theorem rbump_any (v : Ver) (part : Int) (w : World) (hp : v.pre.length ≤ 1000000) (hq : v.build.length ≤ 1000000) :
    Calls Tryd.prog 26 #[verV v, .int .i64 part] w fun e w' => e = .returned (.tuple #[verV (bumpV v part), .bool (bumpOk v part)]) ∧ Below w.heap.size w w' := rbump_go v part w hp hq
theorem rnext_done {v u : Ver} {b : Bool} {w wr : World} {tmps : Array Value} {old : Array Value} (h2 : tmps.getD 2 undef = .pointer (some ⟨w.heap.size + 1, 0, none⟩)) (h3 : tmps.getD 3 undef = .bool b)
    (hg : wr.heap[w.heap.size + 1]? = some (.cells old 24)) (hbel : Below w.heap.size w wr) (hb : nextOk v = b) (hv : nextV v = u) :
    bodyPost Tryd.prog Tryd.f28 (NEnd v w) .ret ⟨tmps, []⟩ (wr.setRow (w.heap.size + 1) #[.int .i64 u.maj, .int .i64 u.min, .int .i64 u.pat, .string (mkS u.pre), .string (mkS u.build)]) := by
  have hrow := setRow_heap wr (w.heap.size + 1) _ #[.int .i64 u.maj, .int .i64 u.min, .int .i64 u.pat, .string (mkS u.pre), .string (mkS u.build)] _ _ hg
  have hr := run_loadVar_row (P := Tryd.prog) _ (w.heap.size + 1) 24 24 _ _ _ hrow Tryd.underlying24 rfl (by kernel_rfl)
  have h2' : tmps[2]?.getD undef = .pointer (some ⟨w.heap.size + 1, 0, none⟩) := by simpa using h2
  have h3' : tmps[3]?.getD undef = .bool b := by simpa using h3
  refine bodyPost_ret (v := .tuple #[verV u, .bool b]) (by simp [results, Tryd.results28, asAddr, h2', h3', hr, verV]) rfl ⟨by rw [hv, hb], below_setRow hbel (by omega) _⟩

set_option maxHeartbeats 8000000 in
set_option maxRecDepth 100000 in
theorem rnext_go (v : Ver) (w : World) (hp : v.pre.length ≤ 1000000) (hq : v.build.length ≤ 1000000) :
    Calls Tryd.prog 28 #[verV v] w (NEnd v w) := by
  have cM := fun w' => rmay_any v w' hp hq
  have ep := empty_mk2 v.pre
  obtain ⟨m, hm⟩ : ∃ m, v.may = m := ⟨_, rfl⟩
  rw [hm] at cM
  obtain ⟨a, b, c, p, q⟩ := v
  unfold verV at cM ⊢
  dsimp only at cM ep hp hq ⊢
  go_enter Tryd.func28, Tryd.ntmps28
  go_wp2_with fail
  refine (cM _).mono ?_
  rintro e w1 ⟨rfl, hb1⟩
  have hz1 := hb1.size
  simp only [size_box] at hz1
  have hgB := (hb1.block w.heap.size (by simp only [size_box]; omega)).trans ((heap_old _ _ (by simp only [size_box]; omega)).trans (heap_new w _))
  have hgR := (hb1.block (w.heap.size + 1) (by simp only [size_box]; omega)).trans (heap_at _ _ _ (by simp only [size_box]))
  have hbw : Below w.heap.size w w1 := (((Below.refl _ _).alloc (Nat.le_refl _) _).alloc (by simp only [size_box]; omega) _).trans (hb1.mono (by simp only [size_box]; omega))
  obtain ⟨k0, _⟩ := cell_row (j := 0) hgB (by simp)
  obtain ⟨k1, _⟩ := cell_row (j := 1) hgB (by simp)
  obtain ⟨k2, _⟩ := cell_row (j := 2) hgB (by simp)
  obtain ⟨k3, _⟩ := cell_row (j := 3) hgB (by simp)
  simp only [List.getElem_toArray, List.getElem_cons_succ, List.getElem_cons_zero] at k0 k1 k2 k3
  have HGB := Lib.hid hgB
  have HGR := Lib.hid hgR
  clear hgB hgR hb1 cM
  cases m with
  | false =>
    have HV : Hid (nextV ⟨a, b, c, p, q⟩ = Ver.zero) := by show _ = _; unfold nextV; rw [if_neg (by simp [hm])]
    have HO : Hid (nextOk ⟨a, b, c, p, q⟩ = false) := by show _ = _; unfold nextOk; rw [hm]; rfl
    clear hm
    go_wp2_with (refine wpList_store_row rfl 24 _ _ rfl (w.heap.size + 1) #[.int .i64 0, .int .i64 0, .int .i64 0, .string ⟨#[]⟩, .string ⟨#[]⟩] rfl rfl _ _ HGR.out (by kernel_rfl) rfl (ver_one _ _ _ _ _) ?_)
    exact rnext_done (u := Ver.zero) rfl rfl HGR.out hbw HO.out HV.out
  | true =>
    cases he : p.isEmpty with
    | true =>
      have HG : Hid ((!p.isEmpty && (Ver.mk a b c p q).may) = false) := by show _ = _; rw [he]; rfl
      rw [he] at ep
      clear he hm
      go_wp2
      go_loopw [4] (fun x wr => ∃ k : Nat, k ≤ 3 ∧ x = .int .i64 ((k : Int) - 1) ∧ wr.heap[w.heap.size]? = some (.cells #[.int .i64 a, .int .i64 b, .int .i64 c, .string (mkS p), .string (mkS q)] 24) ∧ wr.heap[w.heap.size + 1]? = some (.cells #[.int .i64 0, .int .i64 0, .int .i64 0, .string ⟨#[]⟩, .string ⟨#[]⟩] 24) ∧ Below w.heap.size w wr ∧ Hid (findB ⟨a, b, c, p, q⟩ k = findB ⟨a, b, c, p, q⟩ 3)) (fun x _ => ((intOf x) + 1).toNat)
      case atStart => exact ⟨3, by omega, rfl, HGB.out, HGR.out, hbw, rfl⟩
      case round =>
        obtain ⟨k, hk, rfl, hB, hR, hbel, HR⟩ := hrel
        have hlR := (Array.getElem?_eq_some_iff.1 hR).1
        have HB := Lib.hid hB
        have HR0 := Lib.hid hR
        clear hB hR
        cases k with
        | zero =>
          have HF : Hid (findB ⟨a, b, c, p, q⟩ 3 = (Ver.zero, false)) := HR.out.symm
          go_wp2_with (refine wpList_store_row rfl 24 _ _ rfl (w.heap.size + 1) #[.int .i64 0, .int .i64 0, .int .i64 0, .string ⟨#[]⟩, .string ⟨#[]⟩] rfl rfl _ _ HR0.out (by kernel_rfl) rfl (ver_one _ _ _ _ _) ?_)
          have hf := find_next ⟨a, b, c, p, q⟩ HG.out
          rw [HF.out] at hf
          exact rnext_done (u := Ver.zero) rfl rfl HR0.out hbel hf.2 hf.1
        | succ k =>
          have hk0 : (0 : Int) ≤ k := by omega
          have hke : (((k + 1 : Nat) : Int) - 1) = (k : Int) := by omega
          rw [hke]
          have cB := fun w' => rbump_any ⟨a, b, c, p, q⟩ (k : Int) w' hp hq
          unfold verV at cB
          dsimp only at cB
          cases hb : bumpOk ⟨a, b, c, p, q⟩ (k : Int) with
          | true =>
            rw [hb] at cB
            obtain ⟨u, hu⟩ : ∃ u, bumpV ⟨a, b, c, p, q⟩ (k : Int) = u := ⟨_, rfl⟩
            rw [hu] at cB
            have hfq : findB ⟨a, b, c, p, q⟩ 3 = (u, true) := by rw [← HR.out, findB, hb, hu]; rfl
            have HF := Lib.hid hfq
            clear hfq hb hu hke
            go_wp2_with (first
              | (refine wpList_load_row rfl 24 _ rfl w.heap.size rfl _ _ _ _ HB.out Tryd.underlying24 rfl (by kernel_rfl) ?_)
              | (go_at_call 26; refine (cB _).mono ?_; rintro e w3 ⟨rfl, hb3⟩; have hR3 := Lib.hid ((hb3.block (w.heap.size + 1) hlR).trans HR0.out); have hbw3 := hbel.trans (hb3.mono hbel.size); have hl3 := Nat.lt_of_lt_of_le hlR hb3.size)
              | (refine wpList_store_row rfl 24 _ _ rfl (w.heap.size + 1) #[.int .i64 u.maj, .int .i64 u.min, .int .i64 u.pat, .string (mkS u.pre), .string (mkS u.build)] rfl rfl _ _ ((heap_old _ _ hl3).trans hR3.out) (by kernel_rfl) rfl (ver_one _ _ _ _ _) ?_))
            have hf := find_next ⟨a, b, c, p, q⟩ HG.out
            rw [HF.out] at hf
            exact rnext_done (u := u) rfl rfl ((heap_old _ _ hl3).trans hR3.out) (hbw3.alloc (by omega) _) hf.2 hf.1
          | false =>
            rw [hb] at cB
            obtain ⟨u, hu⟩ : ∃ u, bumpV ⟨a, b, c, p, q⟩ (k : Int) = u := ⟨_, rfl⟩
            rw [hu] at cB
            have hfq : findB ⟨a, b, c, p, q⟩ k = findB ⟨a, b, c, p, q⟩ 3 := by rw [← HR.out, findB, hb]; rfl
            have HF := Lib.hid hfq
            clear hfq hb hu hke
            go_wp2_with (first
              | (refine wpList_load_row rfl 24 _ rfl w.heap.size rfl _ _ _ _ HB.out Tryd.underlying24 rfl (by kernel_rfl) ?_)
              | (go_at_call 26; refine (cB _).mono ?_; rintro e w3 ⟨rfl, hb3⟩; have hl3 := Nat.lt_of_lt_of_le hlR hb3.size))
            have hR3 := (hb3.block (w.heap.size + 1) hlR).trans HR0.out
            have hB3 := (hb3.block w.heap.size (by omega)).trans HB.out
            have hbw3 := hbel.trans (hb3.mono hbel.size)
            go_roundw
            case rel => exact ⟨k, by omega, rfl, (heap_old _ _ (by omega)).trans hB3, (heap_old _ _ hl3).trans hR3, hbw3.alloc (by omega) _, HF.out⟩
            case measure => simp [intOf]; try omega
    | false =>
      have HV : Hid (nextV ⟨a, b, c, p, q⟩ = Ver.rel a b c) := by show _ = _; unfold nextV; rw [if_pos hm, if_neg (by simp [he])]
      have HO : Hid (nextOk ⟨a, b, c, p, q⟩ = true) := by show _ = _; unfold nextOk; rw [hm]; simp [he]
      rw [he] at ep
      clear he hm
      go_wp2_with (refine wpList_store_row rfl 24 _ _ rfl (w.heap.size + 1) #[.int .i64 a, .int .i64 b, .int .i64 c, .string (mkS []), .string (mkS [])] rfl rfl _ _ HGR.out (by kernel_rfl) rfl (ver_one _ _ _ _ _) ?_)
      exact rnext_done (u := Ver.rel a b c) rfl rfl HGR.out hbw HO.out HV.out

theorem rnext_any (v : Ver) (w : World) (hp : v.pre.length ≤ 1000000) (hq : v.build.length ≤ 1000000) :
    Calls Tryd.prog 28 #[verV v] w fun e w' => e = .returned (.tuple #[verV (nextV v), .bool (nextOk v)]) ∧ Below w.heap.size w w' := rnext_go v w hp hq
end Go.Proofs.YtdkdghbmeoeliaaDoor
