/-
  Package version: Parse: it returns the version that the document's own reading (parseR) finds, and OK; or the zero version and ErrVersion; nothing that was there is changed. Conditions: a string of at most a million bytes; the library's table of powers of ten reads as it is laid.
-/
import Derived.Test.YtndjdmbbndcohaaDoorVPrint
namespace Go.Proofs.YtndjdmbbndcohaaDoor
open Go.RowKit

def parV (s : List UInt8) : Ver := (parseR s).getD Ver.zero
def parE (s : List UInt8) : Int := if (parseR s).isSome then 0 else 5
theorem mkS_ne {a b : List UInt8} (h : a ≠ b) : ((mkS a).toList == (mkS b).toList) = false := by
  rw [Lib.toList_data, Lib.toList_data, mk_data, mk_data]; simpa using h
theorem mkS_eq {a b : List UInt8} (h : a = b) : ((mkS a).toList == (mkS b).toList) = true := by
  subst h; simp
theorem par_hit {s : List UInt8} (h : (guess s).print = s) : parV s = guess s ∧ parE s = 0 := by
  have := parse_eq s
  unfold parseI at this
  rw [if_pos h] at this
  unfold parV parE
  rw [← this]; exact ⟨rfl, rfl⟩
theorem par_miss {s : List UInt8} (h : ¬ (guess s).print = s) : parV s = Ver.zero ∧ parE s = 5 := by
  have := parse_eq s
  unfold parseI at this
  rw [if_neg h] at this
  unfold parV parE
  rw [← this]; exact ⟨rfl, rfl⟩
def PEnd (s : List UInt8) (w : World) (e : Ending) (w' : World) : Prop := e = .returned (.tuple #[verV (parV s), .int .i64 (parE s)]) ∧ Below w.heap.size w w'

theorem ver_one (a b c : Int) (p q : ByteArray) : (#[.int .i64 a, .int .i64 b, .int .i64 c, .string p, .string q] : Array Value).all (·.oneCell') = true := by simp [Value.oneCell']
theorem parse_done {s : List UInt8} {w wr : World} {v : Ver} {n : Int} {tmps : Array Value} {old : Array Value} (h2 : tmps.getD 2 undef = .pointer (some ⟨w.heap.size, 0, none⟩)) (h3 : tmps.getD 3 undef = .int .i64 n)
    (hg : wr.heap[w.heap.size]? = some (.cells old 24)) (hbel : Below w.heap.size w wr) (hv : parV s = v) (hn : parE s = n) :
    bodyPost Tryd.prog Tryd.f14 (PEnd s w) .ret ⟨tmps, []⟩ (wr.setRow w.heap.size #[.int .i64 v.maj, .int .i64 v.min, .int .i64 v.pat, .string (mkS v.pre), .string (mkS v.build)]) := by
  have hrow := setRow_heap wr w.heap.size _ #[.int .i64 v.maj, .int .i64 v.min, .int .i64 v.pat, .string (mkS v.pre), .string (mkS v.build)] _ _ hg
  have hr := run_loadVar_row (P := Tryd.prog) _ w.heap.size 24 24 _ _ _ hrow Tryd.underlying24 rfl (by kernel_rfl)
  have h2' : tmps[2]?.getD undef = .pointer (some ⟨w.heap.size, 0, none⟩) := by simpa using h2
  have h3' : tmps[3]?.getD undef = .int .i64 n := by simpa using h3
  refine bodyPost_ret (v := .tuple #[verV v, .int .i64 n]) (by simp [results, Tryd.results14, asAddr, h2', h3', hr, verV]) rfl ⟨by rw [hv, hn], below_setRow hbel (Nat.le_refl _) _⟩

set_option maxHeartbeats 4000000 in
set_option maxRecDepth 100000 in
theorem parse_any0 (s : List UInt8) (w : World) (hs : s.length ≤ 1000000) (ht : HasTab w) :
    Calls Tryd.prog 14 #[.string (mkS s)] w (PEnd s w) := by
  obtain ⟨s1, bl, f1, h1⟩ : ∃ a b c, cutAt 43 s = (a, b, c) := ⟨_, _, _, rfl⟩
  obtain ⟨s2, pr, f2, h2⟩ : ∃ a b c, cutAt 45 s1 = (a, b, c) := ⟨_, _, _, rfl⟩
  obtain ⟨ma, s3, f3, h3⟩ : ∃ a b c, cutAt 46 s2 = (a, b, c) := ⟨_, _, _, rfl⟩
  obtain ⟨mi, pa, f4, h4⟩ : ∃ a b c, cutAt 46 s3 = (a, b, c) := ⟨_, _, _, rfl⟩
  have l1 := cutAt_le 43 s
  have l2 := cutAt_le 45 s1
  have l3 := cutAt_le 46 s2
  have l4 := cutAt_le 46 s3
  rw [h1] at l1
  rw [h2] at l2
  rw [h3] at l3
  rw [h4] at l4
  dsimp only at l1 l2 l3 l4
  have hG : guess s = ⟨numD ma, numD mi, numD pa, pr, bl⟩ := by
    unfold guess; simp only [h1, h2, h3, h4]
  have c1 := fun w' => cutb_any s 43 w' (by omega)
  have c2 := fun w' => cutb_any s1 45 w' (by omega)
  have c3 := fun w' => cutb_any s2 46 w' (by omega)
  have c4 := fun w' => cutb_any s3 46 w' (by omega)
  rw [h1] at c1
  rw [h2] at c2
  rw [h3] at c3
  rw [h4] at c4
  dsimp only at c1 c2 c3 c4
  have cP := fun w' (h : HasTab w') => vprint_any (guess s) w' (by rw [hG]; show pr.length ≤ _; omega) (by rw [hG]; show bl.length ≤ _; omega) h
  obtain ⟨P, hP⟩ : ∃ P, (guess s).print = P := ⟨_, rfl⟩
  rw [hP, hG] at cP
  unfold verV at cP
  dsimp only at cP
  have HG := Lib.hid hG
  have HP := Lib.hid hP
  clear hG hP h1 h2 h3 h4
  have la : ma.length ≤ maxLen := by unfold maxLen; omega
  have lb : mi.length ≤ maxLen := by unfold maxLen; omega
  have lc : pa.length ≤ maxLen := by unfold maxLen; omega
  obtain ⟨na, hna⟩ : ∃ n, numD ma = n := ⟨_, rfl⟩
  obtain ⟨nb, hnb⟩ : ∃ n, numD mi = n := ⟨_, rfl⟩
  obtain ⟨nc, hnc⟩ : ∃ n, numD pa = n := ⟨_, rfl⟩
  have n1 := fun w' => vnumber_any ma w' la
  have n2 := fun w' => vnumber_any mi w' lb
  have n3 := fun w' => vnumber_any pa w' lc
  rw [hna] at n1
  rw [hnb] at n2
  rw [hnc] at n3
  rw [hna, hnb, hnc] at cP HG
  clear hna hnb hnc
  have cR := fun w' => release_any na nb nc w'
  unfold verV Ver.rel at cR
  dsimp only at cR
  go_enter Tryd.func14, Tryd.ntmps14
  go_wp2_with fail
  refine (c1 _).mono ?_
  rintro e w1 ⟨rfl, hb1⟩
  go_wp2_with fail
  refine (c2 _).mono ?_
  rintro e w2 ⟨rfl, hb2⟩
  go_wp2_with fail
  refine (c3 _).mono ?_
  rintro e w3 ⟨rfl, hb3⟩
  go_wp2_with fail
  refine (c4 _).mono ?_
  rintro e w4 ⟨rfl, hb4⟩
  go_wp2_with fail
  refine (n1 _).mono ?_
  rintro e w5 ⟨rfl, hb5⟩
  go_wp2_with fail
  refine (n2 _).mono ?_
  rintro e w6 ⟨rfl, hb6⟩
  go_wp2_with fail
  refine (n3 _).mono ?_
  rintro e w7 ⟨rfl, hb7⟩
  go_wp2_with fail
  refine (cR _).mono ?_
  rintro e w8 ⟨rfl, hb8⟩
  have hz1 := hb1.size
  have hz2 := hb2.size
  have hz3 := hb3.size
  have hz4 := hb4.size
  have hz5 := hb5.size
  have hz6 := hb6.size
  have hz7 := hb7.size
  have hz8 := hb8.size
  rw [size_box] at hz1
  have hbv : Below (w.heap.size + 1) (w.alloc (.cells #[.int .i64 0, .int .i64 0, .int .i64 0, .string ⟨#[]⟩, .string ⟨#[]⟩] 24)) w8 :=
    (((((((hb1.mono (by rw [size_box]; omega)).trans (hb2.mono (by omega))).trans (hb3.mono (by omega))).trans (hb4.mono (by omega))).trans (hb5.mono (by omega))).trans (hb6.mono (by omega))).trans (hb7.mono (by omega))).trans (hb8.mono (by omega))
  have hbw : Below w.heap.size w w8 := ((Below.refl _ _).alloc (Nat.le_refl _) _).trans (hbv.mono (by omega))
  have hg8 := Lib.hid ((hbv.block w.heap.size (by omega)).trans (heap_new w _))
  have hsw : w.heap.size < w8.heap.size := by omega
  clear hz1 hz2 hz3 hz4 hz5 hz6 hz7 hz8 hbv
  go_wp2_with fail
  refine (cP _ (ht.on (hbw.alloc (by omega) _))).mono ?_
  rintro e w9 ⟨rfl, hb9⟩
  have hz9 := hb9.size
  rw [size_box] at hz9
  have hg9 := Lib.hid (((hb9.block w.heap.size (by rw [size_box]; omega)).trans (heap_old w8 _ hsw)).trans hg8.out)
  have hgv := Lib.hid ((hb9.block w8.heap.size (by rw [size_box]; omega)).trans (heap_new w8 _))
  have hbw9 : Below w.heap.size w w9 := (hbw.alloc (by omega) _).trans (hb9.mono (by rw [size_box]; omega))
  by_cases hPs : P = s
  · have hne := mkS_eq hPs
    have hne2 : ((mkS P).toList != (mkS s).toList) = false := by rw [bne, hne]; rfl
    have HPS := Lib.hid hPs
    clear hPs
    go_wp2_with fail
    refine (clone_any (mkS pr) _ (by rw [mkS_sz]; omega)).mono ?_
    rintro e w10 ⟨rfl, hb10⟩
    go_wp2_with fail
    refine (clone_any (mkS bl) _ (by rw [mkS_sz]; omega)).mono ?_
    rintro e w11 ⟨rfl, hb11⟩
    have hz10 := hb10.size
    have hz11 := hb11.size
    have hg11 := Lib.hid ((hb11.block w.heap.size (by omega)).trans ((hb10.block w.heap.size (by omega)).trans hg9.out))
    have hgv11 := Lib.hid ((hb11.block w8.heap.size (by omega)).trans ((hb10.block w8.heap.size (by omega)).trans hgv.out))
    have hbw11 : Below w.heap.size w w11 := (hbw9.trans (hb10.mono (by omega))).trans (hb11.mono (by omega))
    obtain ⟨c3, f3⟩ := cell_row (j := 3) hgv11.out (by simp)
    obtain ⟨c4, f4⟩ := cell_row (j := 4) hgv11.out (by simp)
    have e3 := setCell_eq_setRow w11 w8.heap.size 3 _ _ _ (.string (mkS pr)) hgv11.out
    have hq3 := setRow_heap w11 w8.heap.size _ #[.int .i64 na, .int .i64 nb, .int .i64 nc, .string (mkS pr), .string (mkS bl)] _ _ hgv11.out
    have e4 := setCell_eq_setRow _ w8.heap.size 4 _ _ _ (.string (mkS bl)) hq3
    have hwv : (w11.setCell ⟨w8.heap.size, 3, none⟩ (.string (mkS pr))).setCell ⟨w8.heap.size, 4, none⟩ (.string (mkS bl)) = (w11.setRow w8.heap.size #[.int .i64 na, .int .i64 nb, .int .i64 nc, .string (mkS pr), .string (mkS bl)]).setRow w8.heap.size #[.int .i64 na, .int .i64 nb, .int .i64 nc, .string (mkS pr), .string (mkS bl)] := by rw [e3]; exact e4
    have hL : ((w11.setCell ⟨w8.heap.size, 3, none⟩ (.string (mkS pr))).setCell ⟨w8.heap.size, 4, none⟩ (.string (mkS bl))).heap[w8.heap.size]? = some (.cells #[.int .i64 na, .int .i64 nb, .int .i64 nc, .string (mkS pr), .string (mkS bl)] 24) := by
      rw [hwv]; exact setRow_heap _ _ _ _ _ _ hq3
    have hL0 : ((w11.setCell ⟨w8.heap.size, 3, none⟩ (.string (mkS pr))).setCell ⟨w8.heap.size, 4, none⟩ (.string (mkS bl))).heap[w.heap.size]? = some (.cells #[.int .i64 0, .int .i64 0, .int .i64 0, .string ⟨#[]⟩, .string ⟨#[]⟩] 24) := by
      rw [hwv, setRow_other _ _ _ _ (by omega), setRow_other _ _ _ _ (by omega)]; exact hg11.out
    have hbL : Below w.heap.size w ((w11.setCell ⟨w8.heap.size, 3, none⟩ (.string (mkS pr))).setCell ⟨w8.heap.size, 4, none⟩ (.string (mkS bl))) := (hbw11.setCell (by simp; omega) _).setCell (by simp; omega) _
    have HL := Lib.hid hL
    have HL0 := Lib.hid hL0
    clear e3 hq3 e4 hwv hL hL0
    go_wp2_with (first
      | (refine wpList_load_row rfl 24 _ rfl w8.heap.size rfl _ _ _ _ HL.out Tryd.underlying24 rfl (by kernel_rfl) ?_)
      | (refine wpList_store_row rfl 24 _ _ rfl w.heap.size #[.int .i64 na, .int .i64 nb, .int .i64 nc, .string (mkS pr), .string (mkS bl)] rfl rfl _ _ HL0.out (by kernel_rfl) rfl (ver_one _ _ _ _ _) ?_))
    have hit := par_hit (HP.out.trans HPS.out)
    exact parse_done (v := ⟨na, nb, nc, pr, bl⟩) rfl rfl HL0.out hbL (hit.1.trans HG.out) hit.2
  · have hne := mkS_ne hPs
    have hne2 : ((mkS P).toList != (mkS s).toList) = true := by rw [bne, hne]; rfl
    go_wp2_with (refine wpList_store_row rfl 24 _ _ rfl w.heap.size #[.int .i64 0, .int .i64 0, .int .i64 0, .string ⟨#[]⟩, .string ⟨#[]⟩] rfl rfl _ _ hg9.out (by kernel_rfl) rfl (ver_one _ _ _ _ _) ?_)
    exact parse_done (v := Ver.zero) rfl rfl hg9.out hbw9 (par_miss (fun e => hPs (HP.out.symm.trans e))).1 (par_miss (fun e => hPs (HP.out.symm.trans e))).2

theorem parse_any (s : List UInt8) (w : World) (hs : s.length ≤ 1000000) (ht : HasTab w) :
    Calls Tryd.prog 14 #[.string (mkS s)] w fun e w' => e = .returned (.tuple #[verV (parV s), .int .i64 (parE s)]) ∧ Below w.heap.size w w' := parse_any0 s w hs ht

theorem set34 {w1 : World} {B : Nat} {a b c x0 y0 : Value} (x y : Value) (hg : w1.heap[B]? = some (.cells #[a, b, c, x0, y0] 24)) :
    ((w1.setCell ⟨B, 3, none⟩ x).setCell ⟨B, 4, none⟩ y).heap[B]? = some (.cells #[a, b, c, x, y] 24) ∧ ∀ k, B ≠ k → ((w1.setCell ⟨B, 3, none⟩ x).setCell ⟨B, 4, none⟩ y).heap[k]? = w1.heap[k]? := by
  have e3 := setCell_eq_setRow w1 B 3 _ _ _ x hg
  have hq3 := setRow_heap w1 B _ #[a, b, c, x, y0] _ _ hg
  have e4 := setCell_eq_setRow _ B 4 _ _ _ y hq3
  have hwv : (w1.setCell ⟨B, 3, none⟩ x).setCell ⟨B, 4, none⟩ y = (w1.setRow B #[a, b, c, x, y0]).setRow B #[a, b, c, x, y] := by rw [e3]; exact e4
  rw [hwv]
  exact ⟨setRow_heap _ _ _ _ _ _ hq3, fun k hk => by rw [setRow_other _ _ _ _ hk, setRow_other _ _ _ _ hk]⟩

theorem core_any (v : Ver) (w : World) (hp : v.pre.length ≤ 1000000) :
    Calls Tryd.prog 8 #[verV v] w fun e w' => e = .returned (verV { v with build := [] }) ∧ Below w.heap.size w w' := by
  obtain ⟨a, b, c, p, q⟩ := v
  unfold verV
  dsimp only at hp ⊢
  go_enter Tryd.func8, Tryd.ntmps8
  go_wp2_with fail
  refine (clone_any (mkS p) _ (by rw [mkS_sz]; omega)).mono ?_
  rintro e w1 ⟨rfl, hb1⟩
  have hz1 := hb1.size
  simp only [size_box] at hz1
  have hgB := Lib.hid ((hb1.block w.heap.size (by simp only [size_box]; omega)).trans ((heap_old _ _ (by simp only [size_box]; omega)).trans (heap_new w _)))
  have hgR := Lib.hid ((hb1.block (w.heap.size + 1) (by simp only [size_box]; omega)).trans (heap_at _ _ _ (by simp only [size_box])))
  have hbw : Below w.heap.size w w1 := (((Below.refl _ _).alloc (Nat.le_refl _) _).alloc (by simp only [size_box]; omega) _).trans (hb1.mono (by simp only [size_box]; omega))
  obtain ⟨c3, f3⟩ := cell_row (j := 3) hgB.out (by simp)
  obtain ⟨c4, f4⟩ := cell_row (j := 4) hgB.out (by simp)
  obtain ⟨hL, hO⟩ := set34 (.string (mkS p)) (.string ⟨#[]⟩) hgB.out
  have HL := Lib.hid hL
  have HL0 := Lib.hid ((hO (w.heap.size + 1) (by omega)).trans hgR.out)
  have hbL : Below w.heap.size w ((w1.setCell ⟨w.heap.size, 3, none⟩ (.string (mkS p))).setCell ⟨w.heap.size, 4, none⟩ (.string ⟨#[]⟩)) := (hbw.setCell (by simp) _).setCell (by simp) _
  clear hL hO
  go_wp2_with (first
    | (refine wpList_load_row rfl 24 _ rfl w.heap.size rfl _ _ _ _ HL.out Tryd.underlying24 rfl (by kernel_rfl) ?_)
    | (refine wpList_store_row rfl 24 _ _ rfl (w.heap.size + 1) #[.int .i64 a, .int .i64 b, .int .i64 c, .string (mkS p), .string ⟨#[]⟩] rfl rfl _ _ HL0.out (by kernel_rfl) rfl (ver_one _ _ _ _ _) ?_))
  have hr := results_cell_row (P := Tryd.prog) (fn := Tryd.f8) Tryd.results8
  refine bodyPost_ret (v := .agg #[.int .i64 a, .int .i64 b, .int .i64 c, .string (mkS p), .string ⟨#[]⟩]) (hr _ _ (w.heap.size + 1) _ _ _ _ rfl (setRow_heap _ _ _ _ _ _ HL0.out) Tryd.underlying24 rfl (by kernel_rfl)) rfl ⟨rfl, below_setRow hbL (by omega) _⟩
end Go.Proofs.YtndjdmbbndcohaaDoor
