/-
  The document's own answer for chapter 2 (linchpinref2): Parse: parseR. Condition: a string of at most a million bytes.
-/
import Derived.Test.YtdkdghbmeoeliaaDoorR2Print
namespace Go.Proofs.YtdkdghbmeoeliaaDoor
open Go.RowKit

def withTags (v : Ver) (p q : List UInt8) : Ver := ⟨v.maj, v.min, v.pat, p, q⟩
theorem three_tri (l : List (List UInt8)) : three l = if triB l then some ((triV l).maj, (triV l).min, (triV l).pat) else none := by
  unfold three triB triV
  match l with
  | [] => rfl
  | [_] => rfl
  | [_, _] => rfl
  | [x, y, z] => simp [tg]
  | _ :: _ :: _ :: _ :: _ => simp
theorem parseR_unf {s s1 bl s2 pr : List UInt8} {f1 f2 : Bool} (h1 : cutAt 43 s = (s1, bl, f1)) (h2 : cutAt 45 s1 = (s2, pr, f2)) :
    parseR s = if triB (pcs s2) && !(f2 && pr.isEmpty) && !(f1 && bl.isEmpty) && (withTags (triV (pcs s2)) pr bl).may then some (withTags (triV (pcs s2)) pr bl) else none := by
  unfold parseR withTags
  simp only [h1, h2, three_tri]
  cases triB (pcs s2)
  · simp
  · cases f2 <;> cases pr.isEmpty <;> cases f1 <;> cases bl.isEmpty <;> simp
def RPEnd (s : List UInt8) (w : World) (e : Ending) (w' : World) : Prop := e = .returned (.tuple #[verV (parV s), .int .i64 (parE s)]) ∧ Below w.heap.size w w'
theorem rparse_done {s : List UInt8} {w wr : World} {v : Ver} {n : Int} {tmps : Array Value} {old : Array Value} (h2 : tmps.getD 2 undef = .pointer (some ⟨w.heap.size, 0, none⟩)) (h3 : tmps.getD 3 undef = .int .i64 n)
    (hg : wr.heap[w.heap.size]? = some (.cells old 24)) (hbel : Below w.heap.size w wr) (hv : parV s = v) (hn : parE s = n) :
    bodyPost Tryd.prog Tryd.f15 (RPEnd s w) .ret ⟨tmps, []⟩ (wr.setRow w.heap.size #[.int .i64 v.maj, .int .i64 v.min, .int .i64 v.pat, .string (mkS v.pre), .string (mkS v.build)]) := by
  have hrow := setRow_heap wr w.heap.size _ #[.int .i64 v.maj, .int .i64 v.min, .int .i64 v.pat, .string (mkS v.pre), .string (mkS v.build)] _ _ hg
  have hr := run_loadVar_row (P := Tryd.prog) _ w.heap.size 24 24 _ _ _ hrow Tryd.underlying24 rfl (by kernel_rfl)
  have h2' : tmps[2]?.getD undef = .pointer (some ⟨w.heap.size, 0, none⟩) := by simpa using h2
  have h3' : tmps[3]?.getD undef = .int .i64 n := by simpa using h3
  refine bodyPost_ret (v := .tuple #[verV v, .int .i64 n]) (by simp [results, Tryd.results15, asAddr, h2', h3', hr, verV]) rfl ⟨by rw [hv, hn], below_setRow hbel (Nat.le_refl _) _⟩
theorem cut_text' (c : UInt8) (s a b : List UInt8) (f : Bool) (h : cutAt c s = (a, b, f)) : s = a ++ (if f then c :: b else []) := by
  have := cutAt_back c s
  rw [h] at this; exact this
theorem ex_drop (a t : List UInt8) : (mkS (a ++ t)).extract a.length (mkS (a ++ t)).size = mkS t := by
  rw [extract_mk, mk_data, mkS_sz]
  congr 1
  rw [List.drop_left, List.take_of_length_le]
  simp
theorem ex_take (a t : List UInt8) : (mkS (a ++ t)).extract 0 a.length = mkS a := by
  rw [extract_mk, mk_data]
  congr 1
  simp
theorem ex_tail (c : UInt8) (t : List UInt8) : (mkS (c :: t)).extract 1 (mkS (c :: t)).size = mkS t := ex_drop [c] t

set_option maxHeartbeats 8000000 in
set_option maxRecDepth 100000 in
theorem rparse_any0 (s : List UInt8) (w : World) (hs : s.length ≤ 1000000) :
    Calls Tryd.prog 15 #[.string (mkS s)] w (RPEnd s w) := by
  obtain ⟨s1, bl, f1, h1⟩ : ∃ a b c, cutAt 43 s = (a, b, c) := ⟨_, _, _, rfl⟩
  obtain ⟨s2, pr, f2, h2⟩ : ∃ a b c, cutAt 45 s1 = (a, b, c) := ⟨_, _, _, rfl⟩
  have hbn := cutAt_none 43 s
  rw [h1] at hbn
  have hpn := cutAt_none 45 s1
  rw [h2] at hpn
  dsimp only at hbn hpn
  have HBN := Lib.hid hbn
  have HPN := Lib.hid hpn
  clear hbn hpn
  have l1 := cutAt_le 43 s
  have l2 := cutAt_le 45 s1
  have hR := parseR_unf h1 h2
  have t1 := cut_text' 43 s s1 bl f1 h1
  have t2 := cut_text' 45 s1 s2 pr f2 h2
  have c1 := fun w' => rplace_any s 43 w' (by omega)
  rw [h1] at l1 c1
  have c2 := fun w' => rplace_any s1 45 w' (by dsimp only at l1; omega)
  rw [h2] at l2 c2
  dsimp only at l1 l2 c1 c2
  obtain ⟨bt, hbt⟩ : ∃ x, (if f1 then (43 : UInt8) :: bl else []) = x := ⟨_, rfl⟩
  obtain ⟨pt, hpt⟩ : ∃ x, (if f2 then (45 : UInt8) :: pr else []) = x := ⟨_, rfl⟩
  rw [hbt] at t1
  rw [hpt] at t2
  have e1 : (mkS s).extract s1.length (mkS s).size = mkS bt := by rw [t1]; exact ex_drop _ _
  have e2 : (mkS s).extract 0 s1.length = mkS s1 := by rw [t1]; exact ex_take _ _
  have e3 : (mkS s1).extract s2.length (mkS s1).size = mkS pt := by rw [t2]; exact ex_drop _ _
  have e4 : (mkS s1).extract 0 s2.length = mkS s2 := by rw [t2]; exact ex_take _ _
  have z1 : (s1.length : Int) ≤ (mkS s).size := by rw [mkS_sz]; omega
  have z2 : (s2.length : Int) ≤ (mkS s1).size := by rw [mkS_sz]; omega
  have cS := fun w' => rsplit_mk s2 w' (by omega)
  have HM := Lib.hid (pcs_mem_len s2)
  have hne : 0 < (pcs s2).length := by
    have := splitL_ne 46 s2 []
    cases h : pcs s2 with
    | nil => exact absurd h this
    | cons _ _ => simp
  obtain ⟨l, hl⟩ : ∃ l, pcs s2 = l := ⟨_, rfl⟩
  rw [hl] at cS HM hne hR
  obtain ⟨n1, hn1⟩ : ∃ n, s1.length = n := ⟨_, rfl⟩
  obtain ⟨n2, hn2⟩ : ∃ n, s2.length = n := ⟨_, rfl⟩
  have l3 : s2.length ≤ 1000000 := by omega
  have l4 : pr.length ≤ 1000000 := by omega
  have l5 : bl.length ≤ 1000000 := by omega
  rw [hn1] at e1 e2 z1 c1
  rw [hn2] at e3 e4 z2 c2
  have HR := Lib.hid hR
  have HB := Lib.hid hbt
  have HP := Lib.hid hpt
  clear h1 h2 t1 t2 hbt hpt hl hn1 hn2 l1 l2 hR
  have E1 := Lib.hid e1
  have E2 := Lib.hid e2
  have E3 := Lib.hid e3
  have E4 := Lib.hid e4
  go_enter Tryd.func15, Tryd.ntmps15
  go_wp2_with fail
  refine (c1 _).mono ?_
  rintro e w1 ⟨rfl, rfl⟩
  go_wp2_with fail
  refine (c2 _).mono ?_
  rintro e w1 ⟨rfl, rfl⟩
  go_wp2_with fail
  refine (cS _).mono ?_
  rintro e w1 ⟨v, rfl, hown, hb1⟩
  have how := hown.2
  rcases hown.2 with ⟨_, h0⟩ | ⟨g, cap, cur, rfl, hg, hh, hn, _⟩
  · omega
  have hcl : ∀ j (h : j < l.length), w1.cell? ⟨g, j, none⟩ = some (.string (mkS l[j])) := fun j hj => by
    have h := hown.cells (g := g) rfl j (.string (mkS l[j])) (by unfold strV; rw [List.getElem?_map, List.getElem?_eq_getElem hj]; rfl)
    have ha : (⟨g, 0, none⟩ : Addr).add j = ⟨g, j, none⟩ := by unfold Addr.add; split <;> simp_all
    rwa [ha] at h
  have cT := rthree_any g cap l w1 (Array.getElem?_eq_some_iff.1 hh).1 hcl (fun x hx => Nat.le_trans (HM.out x hx) l3)
  have hTV : triV l = ⟨(triV l).maj, (triV l).min, (triV l).pat, [], []⟩ := by unfold triV; split <;> rfl
  obtain ⟨ta, hta⟩ : ∃ x, (triV l).maj = x := ⟨_, rfl⟩
  obtain ⟨tb, htb⟩ : ∃ x, (triV l).min = x := ⟨_, rfl⟩
  obtain ⟨tc, htc⟩ : ∃ x, (triV l).pat = x := ⟨_, rfl⟩
  obtain ⟨ok, hok⟩ : ∃ x, triB l = x := ⟨_, rfl⟩
  rw [hta, htb, htc] at hTV
  have HW : Hid (withTags (triV l) pr bl = ⟨ta, tb, tc, pr, bl⟩) := by show _ = _; rw [hTV]; rfl
  have HR2 : Hid (parseR s = if ok && !(f2 && pr.isEmpty) && !(f1 && bl.isEmpty) && (Ver.mk ta tb tc pr bl).may then some ⟨ta, tb, tc, pr, bl⟩ else none) := by
    show _ = _
    rw [HR.out, HW.out, hok]
  rw [hTV, hok] at cT
  unfold verV at cT
  dsimp only at cT
  clear hcl hown hh hn hg how hta htb htc hok hTV HR HW
  go_wp2_with fail
  refine cT.mono ?_
  rintro e w2 ⟨rfl, hb2⟩
  have hz1 := hb1.size
  have hz2 := hb2.size
  rw [size_box] at hz1
  have hgR := Lib.hid ((hb2.block w.heap.size (by omega)).trans ((hb1.block w.heap.size (by rw [size_box]; omega)).trans (heap_new w _)))
  have hbw : Below w.heap.size w w2 := (((Below.refl _ _).alloc (Nat.le_refl _) _).trans (hb1.mono (by rw [size_box]; omega))).trans (hb2.mono (by omega))
  have hsw : w.heap.size < w2.heap.size := by omega
  clear hb1 hb2 hz1 hz2 cT cS c1 c2 e1 e2 e3 e4 E1 E2 E3 E4 z1 z2
  have hgR2 := Lib.hid ((heap_old w2 (.cells #[.int .i64 ta, .int .i64 tb, .int .i64 tc, .string (mkS []), .string (mkS [])] 24) hsw).trans hgR.out)
  cases ok with
  | false =>
    have HN : Hid (parseR s = none) := by show _ = _; rw [HR2.out]; simp
    go_wp2_with (refine wpList_store_row rfl 24 _ _ rfl w.heap.size #[.int .i64 0, .int .i64 0, .int .i64 0, .string ⟨#[]⟩, .string ⟨#[]⟩] rfl rfl _ _ hgR2.out (by kernel_rfl) rfl (ver_one _ _ _ _ _) ?_)
    exact rparse_done (v := Ver.zero) rfl rfl hgR2.out (hbw.alloc (by omega) _) (by unfold parV; rw [HN.out]; rfl) (by unfold parE; rw [HN.out]; rfl)
  | true =>
    by_cases hx : f2 = true ∧ pr = []
    · obtain ⟨rfl, rfl⟩ := hx
      obtain rfl : [45] = pt := HP.out
      have HN : Hid (parseR s = none) := by show _ = _; rw [HR2.out]; simp
      have hz : ((mkS [45]).size : Int) = 1 := by rw [mkS_sz]; rfl
      go_wp2_with (refine wpList_store_row rfl 24 _ _ rfl w.heap.size #[.int .i64 0, .int .i64 0, .int .i64 0, .string ⟨#[]⟩, .string ⟨#[]⟩] rfl rfl _ _ hgR2.out (by kernel_rfl) rfl (ver_one _ _ _ _ _) ?_)
      exact rparse_done (v := Ver.zero) rfl rfl hgR2.out (hbw.alloc (by omega) _) (by unfold parV; rw [HN.out]; rfl) (by unfold parE; rw [HN.out]; rfl)
    · have hp1 : ((((mkS pt).size : Nat) : Int) == 1) = false := by
        rw [mkS_sz, ← HP.out]
        cases f2
        · rfl
        · cases pr with
          | nil => exact absurd ⟨rfl, rfl⟩ hx
          | cons a r => simp; omega
      by_cases hy : f1 = true ∧ bl = []
      · obtain ⟨rfl, rfl⟩ := hy
        obtain rfl : [43] = bt := HB.out
        have HN : Hid (parseR s = none) := by show _ = _; rw [HR2.out]; simp
        have hz : ((mkS [43]).size : Int) = 1 := by rw [mkS_sz]; rfl
        clear hx
        go_wp2_with (refine wpList_store_row rfl 24 _ _ rfl w.heap.size #[.int .i64 0, .int .i64 0, .int .i64 0, .string ⟨#[]⟩, .string ⟨#[]⟩] rfl rfl _ _ hgR2.out (by kernel_rfl) rfl (ver_one _ _ _ _ _) ?_)
        exact rparse_done (v := Ver.zero) rfl rfl hgR2.out (hbw.alloc (by omega) _) (by unfold parV; rw [HN.out]; rfl) (by unfold parE; rw [HN.out]; rfl)
      · have hb1 : ((((mkS bt).size : Nat) : Int) == 1) = false := by
          rw [mkS_sz, ← HB.out]
          cases f1
          · rfl
          · cases bl with
            | nil => exact absurd ⟨rfl, rfl⟩ hy
            | cons a r => simp; omega
        have HR3 : Hid (parseR s = if (Ver.mk ta tb tc pr bl).may then some ⟨ta, tb, tc, pr, bl⟩ else none) := by
          show _ = _
          rw [HR2.out]
          cases f2 <;> cases pr <;> cases f1 <;> cases bl <;> simp at hx hy ⊢
        clear HR2
        have cM := fun w' => rmay_any ⟨ta, tb, tc, pr, bl⟩ w' l4 l5
        obtain ⟨m, hm⟩ : ∃ m, (Ver.mk ta tb tc pr bl).may = m := ⟨_, rfl⟩
        rw [hm] at cM
        have HM2 := Lib.hid hm
        clear hm
        unfold verV at cM
        dsimp only at cM
        have hcase : (f2 = false ∧ pr = [] ∧ pt = [] ∨ f2 = true ∧ pt = 45 :: pr) ∧ (f1 = false ∧ bl = [] ∧ bt = [] ∨ f1 = true ∧ bt = 43 :: bl) := by
          have q1 := HPN.out
          have q2 := HBN.out
          have q3 := HP.out
          have q4 := HB.out
          cases f2 <;> cases f1 <;> simp at q1 q2 q3 q4 ⊢
          · exact ⟨⟨q1, q3⟩, q2, q4⟩
          · exact ⟨⟨q1, q3⟩, q4.symm⟩
          · exact ⟨q3.symm, q2, q4⟩
          · exact ⟨q3.symm, q4.symm⟩
        clear hx hy
        have x1 := ex_tail 45 pr
        have x2 := ex_tail 43 bl
        have y1 : (mkS ([] : List UInt8)).toList.isEmpty = true := by rw [Lib.toList_data, mk_data]; rfl
        have y2 : (mkS (45 :: pr)).toList.isEmpty = false := by rw [Lib.toList_data, mk_data]; rfl
        have y3 : (mkS (43 :: bl)).toList.isEmpty = false := by rw [Lib.toList_data, mk_data]; rfl
        have v1 : (1 : Int) ≤ (mkS (45 :: pr)).size := by rw [mkS_sz]; simp; omega
        have v2 : (1 : Int) ≤ (mkS (43 :: bl)).size := by rw [mkS_sz]; simp; omega
        obtain ⟨hc1, hc2⟩ := hcase
        rcases hc1 with ⟨rfl, rfl, rfl⟩ | ⟨rfl, rfl⟩ <;> rcases hc2 with ⟨rfl, rfl, rfl⟩ | ⟨rfl, rfl⟩
        all_goals
          go_wp2_with fail
          refine (cM _).mono ?_
          rintro e w3 ⟨rfl, hb3⟩
          have hgR3 := Lib.hid ((hb3.block w.heap.size (by rw [size_box]; omega)).trans ((heap_old w2 _ hsw).trans hgR.out))
          have hgV3 := Lib.hid ((hb3.block w2.heap.size (by rw [size_box]; omega)).trans (heap_new w2 _))
          have hbw3 : Below w.heap.size w w3 := (hbw.alloc (by omega) _).trans (hb3.mono (by rw [size_box]; omega))
          cases m with
          | false =>
            have HN := HR3.out
            rw [HM2.out] at HN
            have HN2 := Lib.hid HN
            clear HN
            go_wp2_with (refine wpList_store_row rfl 24 _ _ rfl w.heap.size #[.int .i64 0, .int .i64 0, .int .i64 0, .string ⟨#[]⟩, .string ⟨#[]⟩] rfl rfl _ _ hgR3.out (by kernel_rfl) rfl (ver_one _ _ _ _ _) ?_)
            exact rparse_done (v := Ver.zero) rfl rfl hgR3.out hbw3 (by unfold parV; rw [HN2.out]; rfl) (by unfold parE; rw [HN2.out]; rfl)
          | true =>
            have HN := HR3.out
            rw [HM2.out] at HN
            have HN2 := Lib.hid HN
            clear HN
            go_wp2_with (first
              | (refine wpList_load_row rfl 24 _ rfl w2.heap.size rfl _ _ _ _ hgV3.out Tryd.underlying24 rfl (by kernel_rfl) ?_)
              | (refine wpList_store_row rfl 24 _ _ rfl w.heap.size _ rfl rfl _ _ hgR3.out (by kernel_rfl) rfl (ver_one _ _ _ _ _) ?_))
            exact rparse_done (v := ⟨ta, tb, tc, _, _⟩) rfl rfl hgR3.out hbw3 (by unfold parV; rw [HN2.out]; rfl) (by unfold parE; rw [HN2.out]; rfl)
theorem rparse_any (s : List UInt8) (w : World) (hs : s.length ≤ 1000000) :
    Calls Tryd.prog 15 #[.string (mkS s)] w fun e w' => e = .returned (.tuple #[verV (parV s), .int .i64 (parE s)]) ∧ Below w.heap.size w w' := rparse_any0 s w hs
end Go.Proofs.YtdkdghbmeoeliaaDoor
