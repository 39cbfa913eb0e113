/-
  SetRaw: for every input the call returns true, and each argument reads afterwards as it read before. Conditions: none but the row's own.
-/
import Derived.Test.YtgeccfdofmnphaaGreatRows
import Derived.Test.YtgeccfdofmnphaaGreatMB6

section
/-
  SetRaw: for any set and any version the law returns true, and nothing that was there is changed. No condition.
-/
namespace Go.Proofs.YtgeccfdofmnphaaGreat
open Go.RowKit
set_option maxRecDepth 100000
set_option linter.unusedVariables false
set_option linter.unusedSimpArgs false
set_option maxHeartbeats 2000000

theorem short60 {v : Ver} (h1 : ¬ (60 : Int) < ((mkS v.pre).size : Int)) (h2 : ¬ (60 : Int) < ((mkS v.build).size : Int)) : v.short := by
  rw [mkS_sz] at h1 h2
  exact ⟨by omega, by omega⟩
theorem make_sf {a : St} (h1 : a.rel.length ≤ 8) (h2 : a.pre.length ≤ 8) (hp : (rowMay a.rel && rowMay a.pre) = true) : SF ⟨makeRel a.rel, a.pre⟩ 18 :=
  have h := Bool.and_eq_true_iff.1 hp
  ⟨makeRel_rf h1, ⟨h.2, Nat.le_trans h2 (by decide)⟩, makeRel_right (row_mem h.1)⟩
set_option maxHeartbeats 8000000 in
theorem setRaw.law (W : World) (A B : Option Addr) (c d : Nat) (a : St) (ra : Reads spanC W W.heap.size A a.rel) (pa : Reads spanC W W.heap.size B a.pre) (ca : a.rel.length ≤ c ∧ a.pre.length ≤ d) (v : Ver) :
    Calls Tryz.prog 3 #[.agg #[.slice A a.rel.length c, .slice B a.pre.length d], verV v] W fun e w' => e = .returned (.bool true) ∧ Below W.heap.size W w' := by
  refine calls_ok (n := 75) Tryz.func3 rfl (by kernel_rfl) (by kernel_rfl) ?_
  refine ok_seq ?_
  refine ok_region ?_
  refine s_box (.agg #[.slice A a.rel.length c, .slice B a.pre.length d]) (by kernel_rfl) rfl (by kernel_rfl) (fun b1 => ?_)
  refine s_box (verV v) (by kernel_rfl) rfl (by kernel_rfl) (fun b2 => ?_)
  refine s_val (.bool false) (by kernel_rfl) (fun _ => by kernel_rfl) ?_
  refine s_nil ?_
  refine fin_seq ?_
  refine ok_seq ?_
  refine ok_seq ?_
  refine ok_region ?_
  refine s_load 1 ⟨b1, #[.slice A a.rel.length c, .slice B a.pre.length d], 24⟩ (off := 0) (.agg #[.slice A a.rel.length c, .slice B a.pre.length d]) (by kernel_rfl) rfl (by kernel_rfl) (by kernel_rfl) (by kernel_rfl) ?_
  refine s_call (k := 10) (args := #[.agg #[.slice A a.rel.length c, .slice B a.pre.length d]]) (.bool (fewT a)) (by kernel_rfl) (fun _ => by kernel_rfl) (fun w hO => few5_any A B c d a w (ra.on hO.below hO.size) (pa.on hO.below hO.size)) ?_
  cases h1 : fewT a with
  | true =>
    refine s_val (.bool false) (by kernel_rfl) (fun _ => by kernel_rfl) ?_
    refine s_val (.bool false) (by kernel_rfl) (fun _ => by kernel_rfl) ?_
    refine s_val (.pointer (some ⟨b2, 3, none⟩)) (by kernel_rfl) (fun _ => by kernel_rfl) ?_
    refine s_load 0 ⟨b2, (verV v).cells, 26⟩ (off := 3) (.string (mkS v.pre)) (by kernel_rfl) rfl (by kernel_rfl) (by kernel_rfl) (by kernel_rfl) ?_
    refine s_val (.int .i64 ((mkS v.pre).size)) (by kernel_rfl) (fun _ => by kernel_rfl) ?_
    by_cases h2 : (60 : Int) < (mkS v.pre).size
    · skip
      refine s_dec (p := (60 : Int) < (mkS v.pre).size) true (by kernel_rfl) (fun _ => by kernel_rfl) (decide_eq_true (h2)) ?_
      refine s_val (.bool true) (by kernel_rfl) (fun _ => by kernel_rfl) ?_
      refine s_val (.bool true) (by kernel_rfl) (fun _ => by kernel_rfl) ?_
      refine s_skip (by kernel_rfl) ?_
      refine s_skip (by kernel_rfl) ?_
      refine s_skip (by kernel_rfl) ?_
      refine s_skip (by kernel_rfl) ?_
      refine s_val (.bool true) (by kernel_rfl) (fun _ => by kernel_rfl) ?_
      refine s_nil ?_
      refine fin_seq ?_
      refine ok_true (by kernel_rfl) ?_
      refine ok_seq ?_
      refine ok_region ?_
      refine s_call (k := 11) (args := #[]) (.bool true) (by kernel_rfl) (fun _ => by kernel_rfl) (fun w _ => awake5_any w) ?_
      refine s_val (.bool true) (by kernel_rfl) (fun _ => by kernel_rfl) ?_
      refine s_nil ?_
      refine fin_seq ?_
      refine ok_ret ?_
      refine fin_seq_ret ?_
      refine fin_ret (.bool true) Tryz.results3 (by kernel_rfl) ?_
      exact fun w hO => ⟨rfl, hO.below⟩
    · skip
      refine s_dec (p := (60 : Int) < (mkS v.pre).size) false (by kernel_rfl) (fun _ => by kernel_rfl) (decide_eq_false (h2)) ?_
      refine s_val (.bool false) (by kernel_rfl) (fun _ => by kernel_rfl) ?_
      refine s_val (.bool false) (by kernel_rfl) (fun _ => by kernel_rfl) ?_
      refine s_val (.pointer (some ⟨b2, 4, none⟩)) (by kernel_rfl) (fun _ => by kernel_rfl) ?_
      refine s_load 0 ⟨b2, (verV v).cells, 26⟩ (off := 4) (.string (mkS v.build)) (by kernel_rfl) rfl (by kernel_rfl) (by kernel_rfl) (by kernel_rfl) ?_
      refine s_val (.int .i64 ((mkS v.build).size)) (by kernel_rfl) (fun _ => by kernel_rfl) ?_
      by_cases h3 : (60 : Int) < (mkS v.build).size
      · skip
        refine s_dec (p := (60 : Int) < (mkS v.build).size) true (by kernel_rfl) (fun _ => by kernel_rfl) (decide_eq_true (h3)) ?_
        refine s_val (.bool true) (by kernel_rfl) (fun _ => by kernel_rfl) ?_
        refine s_nil ?_
        refine fin_seq ?_
        refine ok_true (by kernel_rfl) ?_
        refine ok_seq ?_
        refine ok_region ?_
        refine s_call (k := 11) (args := #[]) (.bool true) (by kernel_rfl) (fun _ => by kernel_rfl) (fun w _ => awake5_any w) ?_
        refine s_val (.bool true) (by kernel_rfl) (fun _ => by kernel_rfl) ?_
        refine s_nil ?_
        refine fin_seq ?_
        refine ok_ret ?_
        refine fin_seq_ret ?_
        refine fin_ret (.bool true) Tryz.results3 (by kernel_rfl) ?_
        exact fun w hO => ⟨rfl, hO.below⟩
      · skip
        refine s_dec (p := (60 : Int) < (mkS v.build).size) false (by kernel_rfl) (fun _ => by kernel_rfl) (decide_eq_false (h3)) ?_
        refine s_val (.bool false) (by kernel_rfl) (fun _ => by kernel_rfl) ?_
        refine s_nil ?_
        refine fin_seq ?_
        refine ok_false (by kernel_rfl) ?_
        refine ok_skip ?_
        refine fin_seq ?_
        refine ok_seq ?_
        refine ok_region ?_
        refine s_val (.pointer (some ⟨b1, 0, none⟩)) (by kernel_rfl) (fun _ => by kernel_rfl) ?_
        refine s_load 1 ⟨b1, #[.slice A a.rel.length c, .slice B a.pre.length d], 24⟩ (off := 0) (.slice A a.rel.length c) (by kernel_rfl) rfl (by kernel_rfl) (by kernel_rfl) (by kernel_rfl) ?_
        refine s_val (.pointer (some ⟨b1, 1, none⟩)) (by kernel_rfl) (fun _ => by kernel_rfl) ?_
        refine s_load 1 ⟨b1, #[.slice A a.rel.length c, .slice B a.pre.length d], 24⟩ (off := 1) (.slice B a.pre.length d) (by kernel_rfl) rfl (by kernel_rfl) (by kernel_rfl) (by kernel_rfl) ?_
        obtain ⟨okb, hok⟩ : ∃ q : Bool, (rowMay a.rel && rowMay a.pre) = q := ⟨_, rfl⟩
        obtain ⟨ms, hms⟩ : ∃ m : St, (if okb then ⟨makeRel a.rel, a.pre⟩ else noneT) = m := ⟨_, rfl⟩
        have fms : SF ms 18 := hms ▸ if_sf fun hp => make_sf (fewT_short h1).2.2.1 (fewT_short h1).2.2.2 (hok.trans hp)
        refine s_callo (k := 12) (args := #[.slice A a.rel.length c, .slice B a.pre.length d]) (fun v' L' => ∃ mv ob', v' = .tuple #[mv, .bool okb] ∧ L' = ob' ++ ([⟨b2, (verV v).cells, 26⟩, ⟨b1, #[.slice A a.rel.length c, .slice B a.pre.length d], 24⟩]) ∧ SetO mv ms ob') (by kernel_rfl) (fun _ => by kernel_rfl) (fun w hO => (sMake_any A B c d a.rel a.pre w (ra.on hO.below hO.size) (pa.on hO.below hO.size) (Nat.le_trans (fewT_short h1).2.2.1 (by decide)) (Nat.le_trans (fewT_short h1).2.2.2 (by decide)) (fewT_short h1).1 (fewT_short h1).2.1 ca.1 ca.2).mono fun e w' ⟨v', ob', k1, k2, k3⟩ => ⟨_, _, k1, ⟨v', ob', by rw [hok], rfl, by rw [hok, hms] at k2; exact k2⟩, Own.joinN hO k3⟩) (fun tv1 L1 hv1 => ?_)
        obtain ⟨v1, o1, rfl, rfl, hr1⟩ := hv1
        obtain ⟨V1, U1, c1, d1, rfl⟩ := hr1.form
        refine s_val (.tuple #[.agg #[.slice V1 ((ms).rel.length) c1, .slice U1 ((ms).pre.length) d1], .bool okb]) (by kernel_rfl) (fun _ => by kernel_rfl) ?_
        refine s_val (.agg #[.slice V1 ((ms).rel.length) c1, .slice U1 ((ms).pre.length) d1]) (by kernel_rfl) (fun _ => by kernel_rfl) ?_
        refine s_val (.bool okb) (by kernel_rfl) (fun _ => by kernel_rfl) ?_
        refine s_alloc_at (.agg #[.slice none 0 0, .slice none 0 0]) (by kernel_rfl) rfl (by kernel_rfl) (fun b3 => ?_)
        refine s_store_at 0 ⟨b3, #[.slice none 0 0, .slice none 0 0], 24⟩ (off := 0) (.agg #[.slice V1 ((ms).rel.length) c1, .slice U1 ((ms).pre.length) d1]) (by kernel_rfl) rfl rfl (by kernel_rfl) (by kernel_rfl) (by kernel_rfl) (by kernel_rfl) (by kernel_rfl) ?_
        refine s_val (.bool okb) (by kernel_rfl) (fun _ => by kernel_rfl) ?_
        refine s_nil ?_
        refine fin_seq ?_
        refine ok_seq ?_
        refine ok_region ?_
        refine s_val (.pointer (some ⟨b1, 0, none⟩)) (by kernel_rfl) (fun _ => by kernel_rfl) ?_
        refine s_loadm ⟨b1, #[.slice A a.rel.length c, .slice B a.pre.length d], 24⟩ (off := 0) (.slice A a.rel.length c) (by kernel_rfl) rfl (by simp) (by kernel_rfl) (by kernel_rfl) ?_
        refine s_val (.pointer (some ⟨b1, 1, none⟩)) (by kernel_rfl) (fun _ => by kernel_rfl) ?_
        refine s_loadm ⟨b1, #[.slice A a.rel.length c, .slice B a.pre.length d], 24⟩ (off := 1) (.slice B a.pre.length d) (by kernel_rfl) rfl (by simp) (by kernel_rfl) (by kernel_rfl) ?_
        refine s_callo (k := 13) (args := #[.slice A a.rel.length c, .slice B a.pre.length d]) (fun v' L' => ∃ mv ob', v' = .tuple #[mv, .bool okb] ∧ L' = ob' ++ (⟨b3, #[.slice V1 ((ms).rel.length) c1, .slice U1 ((ms).pre.length) d1], 24⟩ :: (o1 ++ ([⟨b2, (verV v).cells, 26⟩, ⟨b1, #[.slice A a.rel.length c, .slice B a.pre.length d], 24⟩]))) ∧ SetO mv ms ob') (by kernel_rfl) (fun _ => by kernel_rfl) (fun w hO => (rsetMake_any A B c d a.rel a.pre w (ra.on hO.below hO.size) (pa.on hO.below hO.size) (Nat.le_trans (fewT_short h1).2.2.1 (by decide)) (Nat.le_trans (fewT_short h1).2.2.2 (by decide)) (fewT_short h1).1 (fewT_short h1).2.1).mono fun e w' ⟨v', ob', k1, k2, k3⟩ => ⟨_, _, k1, ⟨v', ob', by rw [hok], rfl, by rw [hok, hms] at k2; exact k2⟩, Own.joinN hO k3⟩) (fun tv2 L2 hv2 => ?_)
        obtain ⟨v2, o2, rfl, rfl, hr2⟩ := hv2
        obtain ⟨V2, U2, c2, d2, rfl⟩ := hr2.form
        refine s_val (.tuple #[.agg #[.slice V2 ((ms).rel.length) c2, .slice U2 ((ms).pre.length) d2], .bool okb]) (by kernel_rfl) (fun _ => by kernel_rfl) ?_
        refine s_val (.agg #[.slice V2 ((ms).rel.length) c2, .slice U2 ((ms).pre.length) d2]) (by kernel_rfl) (fun _ => by kernel_rfl) ?_
        refine s_val (.bool okb) (by kernel_rfl) (fun _ => by kernel_rfl) ?_
        refine s_alloc_at (.agg #[.slice none 0 0, .slice none 0 0]) (by kernel_rfl) rfl (by kernel_rfl) (fun b4 => ?_)
        refine s_store_at 0 ⟨b4, #[.slice none 0 0, .slice none 0 0], 24⟩ (off := 0) (.agg #[.slice V2 ((ms).rel.length) c2, .slice U2 ((ms).pre.length) d2]) (by kernel_rfl) rfl rfl (by kernel_rfl) (by kernel_rfl) (by kernel_rfl) (by kernel_rfl) (by kernel_rfl) ?_
        refine s_val (.bool okb) (by kernel_rfl) (fun _ => by kernel_rfl) ?_
        refine s_nil ?_
        refine fin_seq ?_
        refine ok_seq ?_
        refine ok_anyh (by kernel_rfl) ?_
        refine h_one 0 (by kernel_rfl) ?_
        refine hs_call [] _ (k := 11) (args := #[]) (.bool true) rfl (by kernel_rfl) (fun _ => by kernel_rfl) (fun w _ => awake5_any w) ?_
        refine h_take 1 [] _ (.bool true) rfl (by kernel_rfl) (by kernel_rfl) (by kernel_rfl) (pq_seq pq_body) (by kernel_rfl) (fun _ _ => by kernel_rfl) ?_
        refine h_loadm 2 [] _ ⟨b1, #[.slice A a.rel.length c, .slice B a.pre.length d], 24⟩ (off := 0) (.agg #[.slice A a.rel.length c, .slice B a.pre.length d]) rfl (by kernel_rfl) (by kernel_rfl) (by kernel_rfl) (pq_seq pq_body) (by kernel_rfl) rfl (by simp) (by kernel_rfl) (by kernel_rfl) ?_
        refine h_loadm 4 [] _ ⟨b1, #[.slice A a.rel.length c, .slice B a.pre.length d], 24⟩ (off := 0) (.agg #[.slice A a.rel.length c, .slice B a.pre.length d]) rfl (by kernel_rfl) (by kernel_rfl) (by kernel_rfl) (pq_seq pq_body) (by kernel_rfl) rfl (by simp) (by kernel_rfl) (by kernel_rfl) ?_
        refine h_one 3 (by kernel_rfl) ?_
        refine hs_call [] _ (k := 14) (args := #[.agg #[.slice A a.rel.length c, .slice B a.pre.length d]]) (.bool a.may) rfl (by kernel_rfl) (fun _ => by kernel_rfl) (fun w hO => sMay_any A B c d a w (SetIn.few (ra.on hO.below hO.size) (pa.on hO.below hO.size) h1) ca) ?_
        refine h_one 5 (by kernel_rfl) ?_
        refine hs_call [] _ (k := 15) (args := #[.agg #[.slice A a.rel.length c, .slice B a.pre.length d]]) (.bool a.may) rfl (by kernel_rfl) (fun _ => by kernel_rfl) (fun w hO => rsetMay_any A B c d a w (SetIn.few (ra.on hO.below hO.size) (pa.on hO.below hO.size) h1)) ?_
        cases h4 : a.may with
        | true =>
          refine h_take 6 [] _ (.bool true) rfl (by kernel_rfl) (by kernel_rfl) (by kernel_rfl) (pq_seq pq_body) (by kernel_rfl) (fun _ _ => by kernel_rfl) ?_
          refine h_take 7 [] _ (.bool true) rfl (by kernel_rfl) (by kernel_rfl) (by kernel_rfl) (pq_seq pq_body) (by kernel_rfl) (fun _ _ => by kernel_rfl) ?_
          refine h_take 8 [] _ (.bool true) rfl (by kernel_rfl) (by kernel_rfl) (by kernel_rfl) (pq_seq pq_body) (by kernel_rfl) (fun _ _ => by kernel_rfl) ?_
          refine h_loadm 9 [] _ ⟨b1, #[.slice A a.rel.length c, .slice B a.pre.length d], 24⟩ (off := 0) (.agg #[.slice A a.rel.length c, .slice B a.pre.length d]) rfl (by kernel_rfl) (by kernel_rfl) (by kernel_rfl) (pq_seq pq_body) (by kernel_rfl) rfl (by simp) (by kernel_rfl) (by kernel_rfl) ?_
          refine h_loadm 10 [] _ ⟨b2, (verV v).cells, 26⟩ (off := 0) (verV v) rfl (by kernel_rfl) (by kernel_rfl) (by kernel_rfl) (pq_seq pq_body) (by kernel_rfl) rfl (by simp) (by kernel_rfl) (by kernel_rfl) ?_
          refine h_loadm 12 [] _ ⟨b1, #[.slice A a.rel.length c, .slice B a.pre.length d], 24⟩ (off := 0) (.agg #[.slice A a.rel.length c, .slice B a.pre.length d]) rfl (by kernel_rfl) (by kernel_rfl) (by kernel_rfl) (pq_seq pq_body) (by kernel_rfl) rfl (by simp) (by kernel_rfl) (by kernel_rfl) ?_
          refine h_loadm 13 [] _ ⟨b2, (verV v).cells, 26⟩ (off := 0) (verV v) rfl (by kernel_rfl) (by kernel_rfl) (by kernel_rfl) (pq_seq pq_body) (by kernel_rfl) rfl (by simp) (by kernel_rfl) (by kernel_rfl) ?_
          refine h_one 11 (by kernel_rfl) ?_
          refine hs_call [] _ (k := 16) (args := #[.agg #[.slice A a.rel.length c, .slice B a.pre.length d], verV v]) (.bool (setHas a v)) rfl (by kernel_rfl) (fun _ => by kernel_rfl) (fun w hO => sHas_any A B c d a v w (SetIn.few (ra.on hO.below hO.size) (pa.on hO.below hO.size) h1) (short60 h2 h3) ca) ?_
          refine h_one 14 (by kernel_rfl) ?_
          refine hs_call [] _ (k := 17) (args := #[.agg #[.slice A a.rel.length c, .slice B a.pre.length d], verV v]) (.bool (setHas a v)) rfl (by kernel_rfl) (fun _ => by kernel_rfl) (fun w hO => rsetHas_any A B c d a v w (SetIn.few (ra.on hO.below hO.size) (pa.on hO.below hO.size) h1) (short60 h2 h3)) ?_
          cases h5 : setHas a v with
          | true =>
            refine h_take 15 [] _ (.bool true) rfl (by kernel_rfl) (by kernel_rfl) (by kernel_rfl) (pq_seq pq_body) (by kernel_rfl) (fun _ _ => by kernel_rfl) ?_
            refine h_take 16 [] _ (.bool true) rfl (by kernel_rfl) (by kernel_rfl) (by kernel_rfl) (pq_seq pq_body) (by kernel_rfl) (fun _ _ => by kernel_rfl) ?_
            refine h_take 17 [] _ (.bool true) rfl (by kernel_rfl) (by kernel_rfl) (by kernel_rfl) (pq_seq pq_body) (by kernel_rfl) (fun _ _ => by kernel_rfl) ?_
            refine h_loadm 18 [] _ ⟨b2, (verV v).cells, 26⟩ (off := 0) (verV v) rfl (by kernel_rfl) (by kernel_rfl) (by kernel_rfl) (pq_seq pq_body) (by kernel_rfl) rfl (by simp) (by kernel_rfl) (by kernel_rfl) ?_
            refine h_loadm 20 [] _ ⟨b2, (verV v).cells, 26⟩ (off := 0) (verV v) rfl (by kernel_rfl) (by kernel_rfl) (by kernel_rfl) (pq_seq pq_body) (by kernel_rfl) rfl (by simp) (by kernel_rfl) (by kernel_rfl) ?_
            refine h_one 19 (by kernel_rfl) ?_
            refine hl_callx _ (k := 19) (args := #[verV v]) (fun v' L' => ∃ ob', L' = ob' ++ ([] ++ (⟨b4, #[.slice V2 ((ms).rel.length) c2, .slice U2 ((ms).pre.length) d2], 24⟩ :: (o2 ++ (⟨b3, #[.slice V1 ((ms).rel.length) c1, .slice U1 ((ms).pre.length) d1], 24⟩ :: (o1 ++ ([⟨b2, (verV v).cells, 26⟩, ⟨b1, #[.slice A a.rel.length c, .slice B a.pre.length d], 24⟩])))))) ∧ SetO v' (exactT v) ob') rfl (by kernel_rfl) (fun _ => by kernel_rfl) (fun w hO => (sExact_any v w (short60 h2 h3)).mono fun e w' ⟨v', ob', k1, k2, k3⟩ => ⟨v', _, k1, ⟨ob', rfl, k2⟩, Own.joinN hO k3⟩) (fun v' L' ⟨ob', e, _⟩ w hO => by subst e; exact Own.sub [] (Own.sub ob' hO)) (fun v3 L2 hv2 => ?_)
            obtain ⟨o3, rfl, hr3⟩ := hv2
            obtain ⟨V3, U3, c3, d3, rfl⟩ := hr3.form
            refine h_cast (L' := (o3 ++ ([] : List Blk)) ++ (⟨b4, #[.slice V2 ((ms).rel.length) c2, .slice U2 ((ms).pre.length) d2], 24⟩ :: (o2 ++ (⟨b3, #[.slice V1 ((ms).rel.length) c1, .slice U1 ((ms).pre.length) d1], 24⟩ :: (o1 ++ ([⟨b2, (verV v).cells, 26⟩, ⟨b1, #[.slice A a.rel.length c, .slice B a.pre.length d], 24⟩])))))) (List.append_assoc _ _ _).symm ?_
            refine h_one 21 (by kernel_rfl) ?_
            refine hl_callx _ (k := 20) (args := #[verV v]) (fun v' L' => ∃ ob', L' = ob' ++ ((o3 ++ ([] : List Blk)) ++ (⟨b4, #[.slice V2 ((ms).rel.length) c2, .slice U2 ((ms).pre.length) d2], 24⟩ :: (o2 ++ (⟨b3, #[.slice V1 ((ms).rel.length) c1, .slice U1 ((ms).pre.length) d1], 24⟩ :: (o1 ++ ([⟨b2, (verV v).cells, 26⟩, ⟨b1, #[.slice A a.rel.length c, .slice B a.pre.length d], 24⟩])))))) ∧ SetO v' (exactT v) ob') rfl (by kernel_rfl) (fun _ => by kernel_rfl) (fun w hO => (rexact_any v w (short60 h2 h3)).mono fun e w' ⟨v', ob', k1, k2, k3⟩ => ⟨v', _, k1, ⟨ob', rfl, k2⟩, Own.joinN hO k3⟩) (fun v' L' ⟨ob', e, _⟩ w hO => by subst e; exact Own.sub (o3 ++ ([] : List Blk)) (Own.sub ob' hO)) (fun v4 L2 hv2 => ?_)
            obtain ⟨o4, rfl, hr4⟩ := hv2
            obtain ⟨V4, U4, c4, d4, rfl⟩ := hr4.form
            refine h_cast (L' := (o4 ++ (o3 ++ ([] : List Blk))) ++ (⟨b4, #[.slice V2 ((ms).rel.length) c2, .slice U2 ((ms).pre.length) d2], 24⟩ :: (o2 ++ (⟨b3, #[.slice V1 ((ms).rel.length) c1, .slice U1 ((ms).pre.length) d1], 24⟩ :: (o1 ++ ([⟨b2, (verV v).cells, 26⟩, ⟨b1, #[.slice A a.rel.length c, .slice B a.pre.length d], 24⟩])))))) (List.append_assoc _ _ _).symm ?_
            refine h_one 22 (by kernel_rfl) ?_
            refine hs_call (o4 ++ (o3 ++ ([] : List Blk))) _ (k := 18) (args := #[.agg #[.slice V3 ((exactT v).rel.length) c3, .slice U3 ((exactT v).pre.length) d3], .agg #[.slice V4 ((exactT v).rel.length) c4, .slice U4 ((exactT v).pre.length) d4]]) (.bool true) rfl (by kernel_rfl) (fun _ => by kernel_rfl) (fun w hO => ret_b ((same_b _ _).trans (decide_eq_true (rfl))) (rsetSame_any V3 U3 V4 U4 c3 d3 c4 d4 (exactT v) (exactT v) w (SetO.inn hr3 hO (fun x hx => by simp [hx]) (exact_sf v) (by decide)) (SetO.inn hr4 hO (fun x hx => by simp [hx]) (exact_sf v) (by decide)))) ?_
            refine h_take 23 (o4 ++ (o3 ++ ([] : List Blk))) _ (.bool true) rfl (by kernel_rfl) (by kernel_rfl) (by kernel_rfl) (pq_seq pq_body) (by kernel_rfl) (fun _ _ => by kernel_rfl) ?_
            refine h_take 24 (o4 ++ (o3 ++ ([] : List Blk))) _ (.bool true) rfl (by kernel_rfl) (by kernel_rfl) (by kernel_rfl) (pq_seq pq_body) (by kernel_rfl) (fun _ _ => by kernel_rfl) ?_
            refine h_loadm 25 (o4 ++ (o3 ++ ([] : List Blk))) _ ⟨b3, #[.slice V1 ((ms).rel.length) c1, .slice U1 ((ms).pre.length) d1], 24⟩ (off := 0) (.agg #[.slice V1 ((ms).rel.length) c1, .slice U1 ((ms).pre.length) d1]) rfl (by kernel_rfl) (by kernel_rfl) (by kernel_rfl) (pq_seq pq_body) (by kernel_rfl) rfl (by simp) (by kernel_rfl) (by kernel_rfl) ?_
            refine h_load 26 (o4 ++ (o3 ++ ([] : List Blk))) _ 0 ⟨b4, #[.slice V2 ((ms).rel.length) c2, .slice U2 ((ms).pre.length) d2], 24⟩ (off := 0) (.agg #[.slice V2 ((ms).rel.length) c2, .slice U2 ((ms).pre.length) d2]) rfl (by kernel_rfl) (by kernel_rfl) (by kernel_rfl) (pq_seq pq_body) (by kernel_rfl) rfl (by kernel_rfl) (by kernel_rfl) (by kernel_rfl) ?_
            refine h_one 27 (by kernel_rfl) ?_
            refine hs_call (o4 ++ (o3 ++ ([] : List Blk))) _ (k := 18) (args := #[.agg #[.slice V1 ((ms).rel.length) c1, .slice U1 ((ms).pre.length) d1], .agg #[.slice V2 ((ms).rel.length) c2, .slice U2 ((ms).pre.length) d2]]) (.bool true) rfl (by kernel_rfl) (fun _ => by kernel_rfl) (fun w hO => ret_b ((same_b _ _).trans (decide_eq_true (rfl))) (rsetSame_any V1 U1 V2 U2 c1 d1 c2 d2 ms ms w (SetO.inn hr1 hO (fun x hx => by simp [hx]) (fms) (by decide)) (SetO.inn hr2 hO (fun x hx => by simp [hx]) (fms) (by decide)))) ?_
            refine h_take 28 (o4 ++ (o3 ++ ([] : List Blk))) _ (.bool true) rfl (by kernel_rfl) (by kernel_rfl) (by kernel_rfl) (pq_seq pq_body) (by kernel_rfl) (fun _ _ => by kernel_rfl) ?_
            refine h_take 29 (o4 ++ (o3 ++ ([] : List Blk))) _ (.bool true) rfl (by kernel_rfl) (by kernel_rfl) (by kernel_rfl) (pq_seq pq_body) (by kernel_rfl) (fun _ _ => by kernel_rfl) ?_
            refine h_take 30 (o4 ++ (o3 ++ ([] : List Blk))) _ (.bool okb) rfl (by kernel_rfl) (by kernel_rfl) (by kernel_rfl) (pq_seq pq_body) (by kernel_rfl) (fun _ _ => by kernel_rfl) ?_
            refine h_take 31 (o4 ++ (o3 ++ ([] : List Blk))) _ (.bool okb) rfl (by kernel_rfl) (by kernel_rfl) (by kernel_rfl) (pq_seq pq_body) (by kernel_rfl) (fun _ _ => by kernel_rfl) ?_
            cases h6 : okb with
            | true =>
              refine h_take 32 (o4 ++ (o3 ++ ([] : List Blk))) _ (.bool true) rfl (by kernel_rfl) (by kernel_rfl) (by kernel_rfl) (pq_seq pq_body) (by kernel_rfl) (fun _ _ => by kernel_rfl) ?_
              refine h_take 33 (o4 ++ (o3 ++ ([] : List Blk))) _ (.bool true) rfl (by kernel_rfl) (by kernel_rfl) (by kernel_rfl) (pq_seq pq_body) (by kernel_rfl) (fun _ _ => by kernel_rfl) ?_
              refine h_take 34 (o4 ++ (o3 ++ ([] : List Blk))) _ (.bool true) rfl (by kernel_rfl) (by kernel_rfl) (by kernel_rfl) (pq_seq pq_body) (by kernel_rfl) (fun _ _ => by kernel_rfl) ?_
              refine h_drop (o4 ++ (o3 ++ ([] : List Blk))) ?_
              refine h_done (by kernel_rfl) ?_
              refine fin_seq ?_
              refine ok_ret ?_
              refine fin_ret (.bool true) Tryz.results3 (by kernel_rfl) ?_
              exact fun w hO => ⟨rfl, hO.below⟩
            | false =>
              refine h_take 32 (o4 ++ (o3 ++ ([] : List Blk))) _ (.bool true) rfl (by kernel_rfl) (by kernel_rfl) (by kernel_rfl) (pq_seq pq_body) (by kernel_rfl) (fun _ _ => by kernel_rfl) ?_
              refine h_take 33 (o4 ++ (o3 ++ ([] : List Blk))) _ (.bool true) rfl (by kernel_rfl) (by kernel_rfl) (by kernel_rfl) (pq_seq pq_body) (by kernel_rfl) (fun _ _ => by kernel_rfl) ?_
              refine h_take 34 (o4 ++ (o3 ++ ([] : List Blk))) _ (.bool true) rfl (by kernel_rfl) (by kernel_rfl) (by kernel_rfl) (pq_seq pq_body) (by kernel_rfl) (fun _ _ => by kernel_rfl) ?_
              refine h_drop (o4 ++ (o3 ++ ([] : List Blk))) ?_
              refine h_done (by kernel_rfl) ?_
              refine fin_seq ?_
              refine ok_ret ?_
              refine fin_ret (.bool true) Tryz.results3 (by kernel_rfl) ?_
              exact fun w hO => ⟨rfl, hO.below⟩
          | false =>
            refine h_take 15 [] _ (.bool true) rfl (by kernel_rfl) (by kernel_rfl) (by kernel_rfl) (pq_seq pq_body) (by kernel_rfl) (fun _ _ => by kernel_rfl) ?_
            refine h_take 16 [] _ (.bool true) rfl (by kernel_rfl) (by kernel_rfl) (by kernel_rfl) (pq_seq pq_body) (by kernel_rfl) (fun _ _ => by kernel_rfl) ?_
            refine h_take 17 [] _ (.bool true) rfl (by kernel_rfl) (by kernel_rfl) (by kernel_rfl) (pq_seq pq_body) (by kernel_rfl) (fun _ _ => by kernel_rfl) ?_
            refine h_loadm 18 [] _ ⟨b2, (verV v).cells, 26⟩ (off := 0) (verV v) rfl (by kernel_rfl) (by kernel_rfl) (by kernel_rfl) (pq_seq pq_body) (by kernel_rfl) rfl (by simp) (by kernel_rfl) (by kernel_rfl) ?_
            refine h_loadm 20 [] _ ⟨b2, (verV v).cells, 26⟩ (off := 0) (verV v) rfl (by kernel_rfl) (by kernel_rfl) (by kernel_rfl) (pq_seq pq_body) (by kernel_rfl) rfl (by simp) (by kernel_rfl) (by kernel_rfl) ?_
            refine h_one 19 (by kernel_rfl) ?_
            refine hl_callx _ (k := 19) (args := #[verV v]) (fun v' L' => ∃ ob', L' = ob' ++ ([] ++ (⟨b4, #[.slice V2 ((ms).rel.length) c2, .slice U2 ((ms).pre.length) d2], 24⟩ :: (o2 ++ (⟨b3, #[.slice V1 ((ms).rel.length) c1, .slice U1 ((ms).pre.length) d1], 24⟩ :: (o1 ++ ([⟨b2, (verV v).cells, 26⟩, ⟨b1, #[.slice A a.rel.length c, .slice B a.pre.length d], 24⟩])))))) ∧ SetO v' (exactT v) ob') rfl (by kernel_rfl) (fun _ => by kernel_rfl) (fun w hO => (sExact_any v w (short60 h2 h3)).mono fun e w' ⟨v', ob', k1, k2, k3⟩ => ⟨v', _, k1, ⟨ob', rfl, k2⟩, Own.joinN hO k3⟩) (fun v' L' ⟨ob', e, _⟩ w hO => by subst e; exact Own.sub [] (Own.sub ob' hO)) (fun v5 L2 hv2 => ?_)
            obtain ⟨o5, rfl, hr5⟩ := hv2
            obtain ⟨V5, U5, c5, d5, rfl⟩ := hr5.form
            refine h_cast (L' := (o5 ++ ([] : List Blk)) ++ (⟨b4, #[.slice V2 ((ms).rel.length) c2, .slice U2 ((ms).pre.length) d2], 24⟩ :: (o2 ++ (⟨b3, #[.slice V1 ((ms).rel.length) c1, .slice U1 ((ms).pre.length) d1], 24⟩ :: (o1 ++ ([⟨b2, (verV v).cells, 26⟩, ⟨b1, #[.slice A a.rel.length c, .slice B a.pre.length d], 24⟩])))))) (List.append_assoc _ _ _).symm ?_
            refine h_one 21 (by kernel_rfl) ?_
            refine hl_callx _ (k := 20) (args := #[verV v]) (fun v' L' => ∃ ob', L' = ob' ++ ((o5 ++ ([] : List Blk)) ++ (⟨b4, #[.slice V2 ((ms).rel.length) c2, .slice U2 ((ms).pre.length) d2], 24⟩ :: (o2 ++ (⟨b3, #[.slice V1 ((ms).rel.length) c1, .slice U1 ((ms).pre.length) d1], 24⟩ :: (o1 ++ ([⟨b2, (verV v).cells, 26⟩, ⟨b1, #[.slice A a.rel.length c, .slice B a.pre.length d], 24⟩])))))) ∧ SetO v' (exactT v) ob') rfl (by kernel_rfl) (fun _ => by kernel_rfl) (fun w hO => (rexact_any v w (short60 h2 h3)).mono fun e w' ⟨v', ob', k1, k2, k3⟩ => ⟨v', _, k1, ⟨ob', rfl, k2⟩, Own.joinN hO k3⟩) (fun v' L' ⟨ob', e, _⟩ w hO => by subst e; exact Own.sub (o5 ++ ([] : List Blk)) (Own.sub ob' hO)) (fun v6 L2 hv2 => ?_)
            obtain ⟨o6, rfl, hr6⟩ := hv2
            obtain ⟨V6, U6, c6, d6, rfl⟩ := hr6.form
            refine h_cast (L' := (o6 ++ (o5 ++ ([] : List Blk))) ++ (⟨b4, #[.slice V2 ((ms).rel.length) c2, .slice U2 ((ms).pre.length) d2], 24⟩ :: (o2 ++ (⟨b3, #[.slice V1 ((ms).rel.length) c1, .slice U1 ((ms).pre.length) d1], 24⟩ :: (o1 ++ ([⟨b2, (verV v).cells, 26⟩, ⟨b1, #[.slice A a.rel.length c, .slice B a.pre.length d], 24⟩])))))) (List.append_assoc _ _ _).symm ?_
            refine h_one 22 (by kernel_rfl) ?_
            refine hs_call (o6 ++ (o5 ++ ([] : List Blk))) _ (k := 18) (args := #[.agg #[.slice V5 ((exactT v).rel.length) c5, .slice U5 ((exactT v).pre.length) d5], .agg #[.slice V6 ((exactT v).rel.length) c6, .slice U6 ((exactT v).pre.length) d6]]) (.bool true) rfl (by kernel_rfl) (fun _ => by kernel_rfl) (fun w hO => ret_b ((same_b _ _).trans (decide_eq_true (rfl))) (rsetSame_any V5 U5 V6 U6 c5 d5 c6 d6 (exactT v) (exactT v) w (SetO.inn hr5 hO (fun x hx => by simp [hx]) (exact_sf v) (by decide)) (SetO.inn hr6 hO (fun x hx => by simp [hx]) (exact_sf v) (by decide)))) ?_
            refine h_take 23 (o6 ++ (o5 ++ ([] : List Blk))) _ (.bool true) rfl (by kernel_rfl) (by kernel_rfl) (by kernel_rfl) (pq_seq pq_body) (by kernel_rfl) (fun _ _ => by kernel_rfl) ?_
            refine h_take 24 (o6 ++ (o5 ++ ([] : List Blk))) _ (.bool true) rfl (by kernel_rfl) (by kernel_rfl) (by kernel_rfl) (pq_seq pq_body) (by kernel_rfl) (fun _ _ => by kernel_rfl) ?_
            refine h_loadm 25 (o6 ++ (o5 ++ ([] : List Blk))) _ ⟨b3, #[.slice V1 ((ms).rel.length) c1, .slice U1 ((ms).pre.length) d1], 24⟩ (off := 0) (.agg #[.slice V1 ((ms).rel.length) c1, .slice U1 ((ms).pre.length) d1]) rfl (by kernel_rfl) (by kernel_rfl) (by kernel_rfl) (pq_seq pq_body) (by kernel_rfl) rfl (by simp) (by kernel_rfl) (by kernel_rfl) ?_
            refine h_load 26 (o6 ++ (o5 ++ ([] : List Blk))) _ 0 ⟨b4, #[.slice V2 ((ms).rel.length) c2, .slice U2 ((ms).pre.length) d2], 24⟩ (off := 0) (.agg #[.slice V2 ((ms).rel.length) c2, .slice U2 ((ms).pre.length) d2]) rfl (by kernel_rfl) (by kernel_rfl) (by kernel_rfl) (pq_seq pq_body) (by kernel_rfl) rfl (by kernel_rfl) (by kernel_rfl) (by kernel_rfl) ?_
            refine h_one 27 (by kernel_rfl) ?_
            refine hs_call (o6 ++ (o5 ++ ([] : List Blk))) _ (k := 18) (args := #[.agg #[.slice V1 ((ms).rel.length) c1, .slice U1 ((ms).pre.length) d1], .agg #[.slice V2 ((ms).rel.length) c2, .slice U2 ((ms).pre.length) d2]]) (.bool true) rfl (by kernel_rfl) (fun _ => by kernel_rfl) (fun w hO => ret_b ((same_b _ _).trans (decide_eq_true (rfl))) (rsetSame_any V1 U1 V2 U2 c1 d1 c2 d2 ms ms w (SetO.inn hr1 hO (fun x hx => by simp [hx]) (fms) (by decide)) (SetO.inn hr2 hO (fun x hx => by simp [hx]) (fms) (by decide)))) ?_
            refine h_take 28 (o6 ++ (o5 ++ ([] : List Blk))) _ (.bool true) rfl (by kernel_rfl) (by kernel_rfl) (by kernel_rfl) (pq_seq pq_body) (by kernel_rfl) (fun _ _ => by kernel_rfl) ?_
            refine h_take 29 (o6 ++ (o5 ++ ([] : List Blk))) _ (.bool true) rfl (by kernel_rfl) (by kernel_rfl) (by kernel_rfl) (pq_seq pq_body) (by kernel_rfl) (fun _ _ => by kernel_rfl) ?_
            refine h_take 30 (o6 ++ (o5 ++ ([] : List Blk))) _ (.bool okb) rfl (by kernel_rfl) (by kernel_rfl) (by kernel_rfl) (pq_seq pq_body) (by kernel_rfl) (fun _ _ => by kernel_rfl) ?_
            refine h_take 31 (o6 ++ (o5 ++ ([] : List Blk))) _ (.bool okb) rfl (by kernel_rfl) (by kernel_rfl) (by kernel_rfl) (pq_seq pq_body) (by kernel_rfl) (fun _ _ => by kernel_rfl) ?_
            cases h7 : okb with
            | true =>
              refine h_take 32 (o6 ++ (o5 ++ ([] : List Blk))) _ (.bool true) rfl (by kernel_rfl) (by kernel_rfl) (by kernel_rfl) (pq_seq pq_body) (by kernel_rfl) (fun _ _ => by kernel_rfl) ?_
              refine h_take 33 (o6 ++ (o5 ++ ([] : List Blk))) _ (.bool true) rfl (by kernel_rfl) (by kernel_rfl) (by kernel_rfl) (pq_seq pq_body) (by kernel_rfl) (fun _ _ => by kernel_rfl) ?_
              refine h_take 34 (o6 ++ (o5 ++ ([] : List Blk))) _ (.bool true) rfl (by kernel_rfl) (by kernel_rfl) (by kernel_rfl) (pq_seq pq_body) (by kernel_rfl) (fun _ _ => by kernel_rfl) ?_
              refine h_drop (o6 ++ (o5 ++ ([] : List Blk))) ?_
              refine h_done (by kernel_rfl) ?_
              refine fin_seq ?_
              refine ok_ret ?_
              refine fin_ret (.bool true) Tryz.results3 (by kernel_rfl) ?_
              exact fun w hO => ⟨rfl, hO.below⟩
            | false =>
              refine h_take 32 (o6 ++ (o5 ++ ([] : List Blk))) _ (.bool true) rfl (by kernel_rfl) (by kernel_rfl) (by kernel_rfl) (pq_seq pq_body) (by kernel_rfl) (fun _ _ => by kernel_rfl) ?_
              refine h_take 33 (o6 ++ (o5 ++ ([] : List Blk))) _ (.bool true) rfl (by kernel_rfl) (by kernel_rfl) (by kernel_rfl) (pq_seq pq_body) (by kernel_rfl) (fun _ _ => by kernel_rfl) ?_
              refine h_take 34 (o6 ++ (o5 ++ ([] : List Blk))) _ (.bool true) rfl (by kernel_rfl) (by kernel_rfl) (by kernel_rfl) (pq_seq pq_body) (by kernel_rfl) (fun _ _ => by kernel_rfl) ?_
              refine h_drop (o6 ++ (o5 ++ ([] : List Blk))) ?_
              refine h_done (by kernel_rfl) ?_
              refine fin_seq ?_
              refine ok_ret ?_
              refine fin_ret (.bool true) Tryz.results3 (by kernel_rfl) ?_
              exact fun w hO => ⟨rfl, hO.below⟩
        | false =>
          refine h_take 6 [] _ (.bool true) rfl (by kernel_rfl) (by kernel_rfl) (by kernel_rfl) (pq_seq pq_body) (by kernel_rfl) (fun _ _ => by kernel_rfl) ?_
          refine h_take 7 [] _ (.bool true) rfl (by kernel_rfl) (by kernel_rfl) (by kernel_rfl) (pq_seq pq_body) (by kernel_rfl) (fun _ _ => by kernel_rfl) ?_
          refine h_take 8 [] _ (.bool true) rfl (by kernel_rfl) (by kernel_rfl) (by kernel_rfl) (pq_seq pq_body) (by kernel_rfl) (fun _ _ => by kernel_rfl) ?_
          refine h_loadm 9 [] _ ⟨b1, #[.slice A a.rel.length c, .slice B a.pre.length d], 24⟩ (off := 0) (.agg #[.slice A a.rel.length c, .slice B a.pre.length d]) rfl (by kernel_rfl) (by kernel_rfl) (by kernel_rfl) (pq_seq pq_body) (by kernel_rfl) rfl (by simp) (by kernel_rfl) (by kernel_rfl) ?_
          refine h_loadm 10 [] _ ⟨b2, (verV v).cells, 26⟩ (off := 0) (verV v) rfl (by kernel_rfl) (by kernel_rfl) (by kernel_rfl) (pq_seq pq_body) (by kernel_rfl) rfl (by simp) (by kernel_rfl) (by kernel_rfl) ?_
          refine h_loadm 12 [] _ ⟨b1, #[.slice A a.rel.length c, .slice B a.pre.length d], 24⟩ (off := 0) (.agg #[.slice A a.rel.length c, .slice B a.pre.length d]) rfl (by kernel_rfl) (by kernel_rfl) (by kernel_rfl) (pq_seq pq_body) (by kernel_rfl) rfl (by simp) (by kernel_rfl) (by kernel_rfl) ?_
          refine h_loadm 13 [] _ ⟨b2, (verV v).cells, 26⟩ (off := 0) (verV v) rfl (by kernel_rfl) (by kernel_rfl) (by kernel_rfl) (pq_seq pq_body) (by kernel_rfl) rfl (by simp) (by kernel_rfl) (by kernel_rfl) ?_
          refine h_one 11 (by kernel_rfl) ?_
          refine hs_call [] _ (k := 16) (args := #[.agg #[.slice A a.rel.length c, .slice B a.pre.length d], verV v]) (.bool (setHas a v)) rfl (by kernel_rfl) (fun _ => by kernel_rfl) (fun w hO => sHas_any A B c d a v w (SetIn.few (ra.on hO.below hO.size) (pa.on hO.below hO.size) h1) (short60 h2 h3) ca) ?_
          refine h_one 14 (by kernel_rfl) ?_
          refine hs_call [] _ (k := 17) (args := #[.agg #[.slice A a.rel.length c, .slice B a.pre.length d], verV v]) (.bool (setHas a v)) rfl (by kernel_rfl) (fun _ => by kernel_rfl) (fun w hO => rsetHas_any A B c d a v w (SetIn.few (ra.on hO.below hO.size) (pa.on hO.below hO.size) h1) (short60 h2 h3)) ?_
          cases h8 : setHas a v with
          | true =>
            refine h_take 15 [] _ (.bool true) rfl (by kernel_rfl) (by kernel_rfl) (by kernel_rfl) (pq_seq pq_body) (by kernel_rfl) (fun _ _ => by kernel_rfl) ?_
            refine h_take 16 [] _ (.bool true) rfl (by kernel_rfl) (by kernel_rfl) (by kernel_rfl) (pq_seq pq_body) (by kernel_rfl) (fun _ _ => by kernel_rfl) ?_
            refine h_take 17 [] _ (.bool true) rfl (by kernel_rfl) (by kernel_rfl) (by kernel_rfl) (pq_seq pq_body) (by kernel_rfl) (fun _ _ => by kernel_rfl) ?_
            refine h_loadm 18 [] _ ⟨b2, (verV v).cells, 26⟩ (off := 0) (verV v) rfl (by kernel_rfl) (by kernel_rfl) (by kernel_rfl) (pq_seq pq_body) (by kernel_rfl) rfl (by simp) (by kernel_rfl) (by kernel_rfl) ?_
            refine h_loadm 20 [] _ ⟨b2, (verV v).cells, 26⟩ (off := 0) (verV v) rfl (by kernel_rfl) (by kernel_rfl) (by kernel_rfl) (pq_seq pq_body) (by kernel_rfl) rfl (by simp) (by kernel_rfl) (by kernel_rfl) ?_
            refine h_one 19 (by kernel_rfl) ?_
            refine hl_callx _ (k := 19) (args := #[verV v]) (fun v' L' => ∃ ob', L' = ob' ++ ([] ++ (⟨b4, #[.slice V2 ((ms).rel.length) c2, .slice U2 ((ms).pre.length) d2], 24⟩ :: (o2 ++ (⟨b3, #[.slice V1 ((ms).rel.length) c1, .slice U1 ((ms).pre.length) d1], 24⟩ :: (o1 ++ ([⟨b2, (verV v).cells, 26⟩, ⟨b1, #[.slice A a.rel.length c, .slice B a.pre.length d], 24⟩])))))) ∧ SetO v' (exactT v) ob') rfl (by kernel_rfl) (fun _ => by kernel_rfl) (fun w hO => (sExact_any v w (short60 h2 h3)).mono fun e w' ⟨v', ob', k1, k2, k3⟩ => ⟨v', _, k1, ⟨ob', rfl, k2⟩, Own.joinN hO k3⟩) (fun v' L' ⟨ob', e, _⟩ w hO => by subst e; exact Own.sub [] (Own.sub ob' hO)) (fun v7 L2 hv2 => ?_)
            obtain ⟨o7, rfl, hr7⟩ := hv2
            obtain ⟨V7, U7, c7, d7, rfl⟩ := hr7.form
            refine h_cast (L' := (o7 ++ ([] : List Blk)) ++ (⟨b4, #[.slice V2 ((ms).rel.length) c2, .slice U2 ((ms).pre.length) d2], 24⟩ :: (o2 ++ (⟨b3, #[.slice V1 ((ms).rel.length) c1, .slice U1 ((ms).pre.length) d1], 24⟩ :: (o1 ++ ([⟨b2, (verV v).cells, 26⟩, ⟨b1, #[.slice A a.rel.length c, .slice B a.pre.length d], 24⟩])))))) (List.append_assoc _ _ _).symm ?_
            refine h_one 21 (by kernel_rfl) ?_
            refine hl_callx _ (k := 20) (args := #[verV v]) (fun v' L' => ∃ ob', L' = ob' ++ ((o7 ++ ([] : List Blk)) ++ (⟨b4, #[.slice V2 ((ms).rel.length) c2, .slice U2 ((ms).pre.length) d2], 24⟩ :: (o2 ++ (⟨b3, #[.slice V1 ((ms).rel.length) c1, .slice U1 ((ms).pre.length) d1], 24⟩ :: (o1 ++ ([⟨b2, (verV v).cells, 26⟩, ⟨b1, #[.slice A a.rel.length c, .slice B a.pre.length d], 24⟩])))))) ∧ SetO v' (exactT v) ob') rfl (by kernel_rfl) (fun _ => by kernel_rfl) (fun w hO => (rexact_any v w (short60 h2 h3)).mono fun e w' ⟨v', ob', k1, k2, k3⟩ => ⟨v', _, k1, ⟨ob', rfl, k2⟩, Own.joinN hO k3⟩) (fun v' L' ⟨ob', e, _⟩ w hO => by subst e; exact Own.sub (o7 ++ ([] : List Blk)) (Own.sub ob' hO)) (fun v8 L2 hv2 => ?_)
            obtain ⟨o8, rfl, hr8⟩ := hv2
            obtain ⟨V8, U8, c8, d8, rfl⟩ := hr8.form
            refine h_cast (L' := (o8 ++ (o7 ++ ([] : List Blk))) ++ (⟨b4, #[.slice V2 ((ms).rel.length) c2, .slice U2 ((ms).pre.length) d2], 24⟩ :: (o2 ++ (⟨b3, #[.slice V1 ((ms).rel.length) c1, .slice U1 ((ms).pre.length) d1], 24⟩ :: (o1 ++ ([⟨b2, (verV v).cells, 26⟩, ⟨b1, #[.slice A a.rel.length c, .slice B a.pre.length d], 24⟩])))))) (List.append_assoc _ _ _).symm ?_
            refine h_one 22 (by kernel_rfl) ?_
            refine hs_call (o8 ++ (o7 ++ ([] : List Blk))) _ (k := 18) (args := #[.agg #[.slice V7 ((exactT v).rel.length) c7, .slice U7 ((exactT v).pre.length) d7], .agg #[.slice V8 ((exactT v).rel.length) c8, .slice U8 ((exactT v).pre.length) d8]]) (.bool true) rfl (by kernel_rfl) (fun _ => by kernel_rfl) (fun w hO => ret_b ((same_b _ _).trans (decide_eq_true (rfl))) (rsetSame_any V7 U7 V8 U8 c7 d7 c8 d8 (exactT v) (exactT v) w (SetO.inn hr7 hO (fun x hx => by simp [hx]) (exact_sf v) (by decide)) (SetO.inn hr8 hO (fun x hx => by simp [hx]) (exact_sf v) (by decide)))) ?_
            refine h_take 23 (o8 ++ (o7 ++ ([] : List Blk))) _ (.bool true) rfl (by kernel_rfl) (by kernel_rfl) (by kernel_rfl) (pq_seq pq_body) (by kernel_rfl) (fun _ _ => by kernel_rfl) ?_
            refine h_take 24 (o8 ++ (o7 ++ ([] : List Blk))) _ (.bool true) rfl (by kernel_rfl) (by kernel_rfl) (by kernel_rfl) (pq_seq pq_body) (by kernel_rfl) (fun _ _ => by kernel_rfl) ?_
            refine h_loadm 25 (o8 ++ (o7 ++ ([] : List Blk))) _ ⟨b3, #[.slice V1 ((ms).rel.length) c1, .slice U1 ((ms).pre.length) d1], 24⟩ (off := 0) (.agg #[.slice V1 ((ms).rel.length) c1, .slice U1 ((ms).pre.length) d1]) rfl (by kernel_rfl) (by kernel_rfl) (by kernel_rfl) (pq_seq pq_body) (by kernel_rfl) rfl (by simp) (by kernel_rfl) (by kernel_rfl) ?_
            refine h_load 26 (o8 ++ (o7 ++ ([] : List Blk))) _ 0 ⟨b4, #[.slice V2 ((ms).rel.length) c2, .slice U2 ((ms).pre.length) d2], 24⟩ (off := 0) (.agg #[.slice V2 ((ms).rel.length) c2, .slice U2 ((ms).pre.length) d2]) rfl (by kernel_rfl) (by kernel_rfl) (by kernel_rfl) (pq_seq pq_body) (by kernel_rfl) rfl (by kernel_rfl) (by kernel_rfl) (by kernel_rfl) ?_
            refine h_one 27 (by kernel_rfl) ?_
            refine hs_call (o8 ++ (o7 ++ ([] : List Blk))) _ (k := 18) (args := #[.agg #[.slice V1 ((ms).rel.length) c1, .slice U1 ((ms).pre.length) d1], .agg #[.slice V2 ((ms).rel.length) c2, .slice U2 ((ms).pre.length) d2]]) (.bool true) rfl (by kernel_rfl) (fun _ => by kernel_rfl) (fun w hO => ret_b ((same_b _ _).trans (decide_eq_true (rfl))) (rsetSame_any V1 U1 V2 U2 c1 d1 c2 d2 ms ms w (SetO.inn hr1 hO (fun x hx => by simp [hx]) (fms) (by decide)) (SetO.inn hr2 hO (fun x hx => by simp [hx]) (fms) (by decide)))) ?_
            refine h_take 28 (o8 ++ (o7 ++ ([] : List Blk))) _ (.bool true) rfl (by kernel_rfl) (by kernel_rfl) (by kernel_rfl) (pq_seq pq_body) (by kernel_rfl) (fun _ _ => by kernel_rfl) ?_
            refine h_take 29 (o8 ++ (o7 ++ ([] : List Blk))) _ (.bool true) rfl (by kernel_rfl) (by kernel_rfl) (by kernel_rfl) (pq_seq pq_body) (by kernel_rfl) (fun _ _ => by kernel_rfl) ?_
            refine h_take 30 (o8 ++ (o7 ++ ([] : List Blk))) _ (.bool okb) rfl (by kernel_rfl) (by kernel_rfl) (by kernel_rfl) (pq_seq pq_body) (by kernel_rfl) (fun _ _ => by kernel_rfl) ?_
            refine h_take 31 (o8 ++ (o7 ++ ([] : List Blk))) _ (.bool okb) rfl (by kernel_rfl) (by kernel_rfl) (by kernel_rfl) (pq_seq pq_body) (by kernel_rfl) (fun _ _ => by kernel_rfl) ?_
            cases h9 : okb with
            | true =>
              refine h_take 32 (o8 ++ (o7 ++ ([] : List Blk))) _ (.bool true) rfl (by kernel_rfl) (by kernel_rfl) (by kernel_rfl) (pq_seq pq_body) (by kernel_rfl) (fun _ _ => by kernel_rfl) ?_
              refine h_take 33 (o8 ++ (o7 ++ ([] : List Blk))) _ (.bool true) rfl (by kernel_rfl) (by kernel_rfl) (by kernel_rfl) (pq_seq pq_body) (by kernel_rfl) (fun _ _ => by kernel_rfl) ?_
              refine h_take 34 (o8 ++ (o7 ++ ([] : List Blk))) _ (.bool true) rfl (by kernel_rfl) (by kernel_rfl) (by kernel_rfl) (pq_seq pq_body) (by kernel_rfl) (fun _ _ => by kernel_rfl) ?_
              refine h_drop (o8 ++ (o7 ++ ([] : List Blk))) ?_
              refine h_done (by kernel_rfl) ?_
              refine fin_seq ?_
              refine ok_ret ?_
              refine fin_ret (.bool true) Tryz.results3 (by kernel_rfl) ?_
              exact fun w hO => ⟨rfl, hO.below⟩
            | false =>
              refine h_take 32 (o8 ++ (o7 ++ ([] : List Blk))) _ (.bool true) rfl (by kernel_rfl) (by kernel_rfl) (by kernel_rfl) (pq_seq pq_body) (by kernel_rfl) (fun _ _ => by kernel_rfl) ?_
              refine h_take 33 (o8 ++ (o7 ++ ([] : List Blk))) _ (.bool true) rfl (by kernel_rfl) (by kernel_rfl) (by kernel_rfl) (pq_seq pq_body) (by kernel_rfl) (fun _ _ => by kernel_rfl) ?_
              refine h_take 34 (o8 ++ (o7 ++ ([] : List Blk))) _ (.bool true) rfl (by kernel_rfl) (by kernel_rfl) (by kernel_rfl) (pq_seq pq_body) (by kernel_rfl) (fun _ _ => by kernel_rfl) ?_
              refine h_drop (o8 ++ (o7 ++ ([] : List Blk))) ?_
              refine h_done (by kernel_rfl) ?_
              refine fin_seq ?_
              refine ok_ret ?_
              refine fin_ret (.bool true) Tryz.results3 (by kernel_rfl) ?_
              exact fun w hO => ⟨rfl, hO.below⟩
          | false =>
            refine h_take 15 [] _ (.bool true) rfl (by kernel_rfl) (by kernel_rfl) (by kernel_rfl) (pq_seq pq_body) (by kernel_rfl) (fun _ _ => by kernel_rfl) ?_
            refine h_take 16 [] _ (.bool true) rfl (by kernel_rfl) (by kernel_rfl) (by kernel_rfl) (pq_seq pq_body) (by kernel_rfl) (fun _ _ => by kernel_rfl) ?_
            refine h_take 17 [] _ (.bool true) rfl (by kernel_rfl) (by kernel_rfl) (by kernel_rfl) (pq_seq pq_body) (by kernel_rfl) (fun _ _ => by kernel_rfl) ?_
            refine h_loadm 18 [] _ ⟨b2, (verV v).cells, 26⟩ (off := 0) (verV v) rfl (by kernel_rfl) (by kernel_rfl) (by kernel_rfl) (pq_seq pq_body) (by kernel_rfl) rfl (by simp) (by kernel_rfl) (by kernel_rfl) ?_
            refine h_loadm 20 [] _ ⟨b2, (verV v).cells, 26⟩ (off := 0) (verV v) rfl (by kernel_rfl) (by kernel_rfl) (by kernel_rfl) (pq_seq pq_body) (by kernel_rfl) rfl (by simp) (by kernel_rfl) (by kernel_rfl) ?_
            refine h_one 19 (by kernel_rfl) ?_
            refine hl_callx _ (k := 19) (args := #[verV v]) (fun v' L' => ∃ ob', L' = ob' ++ ([] ++ (⟨b4, #[.slice V2 ((ms).rel.length) c2, .slice U2 ((ms).pre.length) d2], 24⟩ :: (o2 ++ (⟨b3, #[.slice V1 ((ms).rel.length) c1, .slice U1 ((ms).pre.length) d1], 24⟩ :: (o1 ++ ([⟨b2, (verV v).cells, 26⟩, ⟨b1, #[.slice A a.rel.length c, .slice B a.pre.length d], 24⟩])))))) ∧ SetO v' (exactT v) ob') rfl (by kernel_rfl) (fun _ => by kernel_rfl) (fun w hO => (sExact_any v w (short60 h2 h3)).mono fun e w' ⟨v', ob', k1, k2, k3⟩ => ⟨v', _, k1, ⟨ob', rfl, k2⟩, Own.joinN hO k3⟩) (fun v' L' ⟨ob', e, _⟩ w hO => by subst e; exact Own.sub [] (Own.sub ob' hO)) (fun v9 L2 hv2 => ?_)
            obtain ⟨o9, rfl, hr9⟩ := hv2
            obtain ⟨V9, U9, c9, d9, rfl⟩ := hr9.form
            refine h_cast (L' := (o9 ++ ([] : List Blk)) ++ (⟨b4, #[.slice V2 ((ms).rel.length) c2, .slice U2 ((ms).pre.length) d2], 24⟩ :: (o2 ++ (⟨b3, #[.slice V1 ((ms).rel.length) c1, .slice U1 ((ms).pre.length) d1], 24⟩ :: (o1 ++ ([⟨b2, (verV v).cells, 26⟩, ⟨b1, #[.slice A a.rel.length c, .slice B a.pre.length d], 24⟩])))))) (List.append_assoc _ _ _).symm ?_
            refine h_one 21 (by kernel_rfl) ?_
            refine hl_callx _ (k := 20) (args := #[verV v]) (fun v' L' => ∃ ob', L' = ob' ++ ((o9 ++ ([] : List Blk)) ++ (⟨b4, #[.slice V2 ((ms).rel.length) c2, .slice U2 ((ms).pre.length) d2], 24⟩ :: (o2 ++ (⟨b3, #[.slice V1 ((ms).rel.length) c1, .slice U1 ((ms).pre.length) d1], 24⟩ :: (o1 ++ ([⟨b2, (verV v).cells, 26⟩, ⟨b1, #[.slice A a.rel.length c, .slice B a.pre.length d], 24⟩])))))) ∧ SetO v' (exactT v) ob') rfl (by kernel_rfl) (fun _ => by kernel_rfl) (fun w hO => (rexact_any v w (short60 h2 h3)).mono fun e w' ⟨v', ob', k1, k2, k3⟩ => ⟨v', _, k1, ⟨ob', rfl, k2⟩, Own.joinN hO k3⟩) (fun v' L' ⟨ob', e, _⟩ w hO => by subst e; exact Own.sub (o9 ++ ([] : List Blk)) (Own.sub ob' hO)) (fun v10 L2 hv2 => ?_)
            obtain ⟨o10, rfl, hr10⟩ := hv2
            obtain ⟨V10, U10, c10, d10, rfl⟩ := hr10.form
            refine h_cast (L' := (o10 ++ (o9 ++ ([] : List Blk))) ++ (⟨b4, #[.slice V2 ((ms).rel.length) c2, .slice U2 ((ms).pre.length) d2], 24⟩ :: (o2 ++ (⟨b3, #[.slice V1 ((ms).rel.length) c1, .slice U1 ((ms).pre.length) d1], 24⟩ :: (o1 ++ ([⟨b2, (verV v).cells, 26⟩, ⟨b1, #[.slice A a.rel.length c, .slice B a.pre.length d], 24⟩])))))) (List.append_assoc _ _ _).symm ?_
            refine h_one 22 (by kernel_rfl) ?_
            refine hs_call (o10 ++ (o9 ++ ([] : List Blk))) _ (k := 18) (args := #[.agg #[.slice V9 ((exactT v).rel.length) c9, .slice U9 ((exactT v).pre.length) d9], .agg #[.slice V10 ((exactT v).rel.length) c10, .slice U10 ((exactT v).pre.length) d10]]) (.bool true) rfl (by kernel_rfl) (fun _ => by kernel_rfl) (fun w hO => ret_b ((same_b _ _).trans (decide_eq_true (rfl))) (rsetSame_any V9 U9 V10 U10 c9 d9 c10 d10 (exactT v) (exactT v) w (SetO.inn hr9 hO (fun x hx => by simp [hx]) (exact_sf v) (by decide)) (SetO.inn hr10 hO (fun x hx => by simp [hx]) (exact_sf v) (by decide)))) ?_
            refine h_take 23 (o10 ++ (o9 ++ ([] : List Blk))) _ (.bool true) rfl (by kernel_rfl) (by kernel_rfl) (by kernel_rfl) (pq_seq pq_body) (by kernel_rfl) (fun _ _ => by kernel_rfl) ?_
            refine h_take 24 (o10 ++ (o9 ++ ([] : List Blk))) _ (.bool true) rfl (by kernel_rfl) (by kernel_rfl) (by kernel_rfl) (pq_seq pq_body) (by kernel_rfl) (fun _ _ => by kernel_rfl) ?_
            refine h_loadm 25 (o10 ++ (o9 ++ ([] : List Blk))) _ ⟨b3, #[.slice V1 ((ms).rel.length) c1, .slice U1 ((ms).pre.length) d1], 24⟩ (off := 0) (.agg #[.slice V1 ((ms).rel.length) c1, .slice U1 ((ms).pre.length) d1]) rfl (by kernel_rfl) (by kernel_rfl) (by kernel_rfl) (pq_seq pq_body) (by kernel_rfl) rfl (by simp) (by kernel_rfl) (by kernel_rfl) ?_
            refine h_load 26 (o10 ++ (o9 ++ ([] : List Blk))) _ 0 ⟨b4, #[.slice V2 ((ms).rel.length) c2, .slice U2 ((ms).pre.length) d2], 24⟩ (off := 0) (.agg #[.slice V2 ((ms).rel.length) c2, .slice U2 ((ms).pre.length) d2]) rfl (by kernel_rfl) (by kernel_rfl) (by kernel_rfl) (pq_seq pq_body) (by kernel_rfl) rfl (by kernel_rfl) (by kernel_rfl) (by kernel_rfl) ?_
            refine h_one 27 (by kernel_rfl) ?_
            refine hs_call (o10 ++ (o9 ++ ([] : List Blk))) _ (k := 18) (args := #[.agg #[.slice V1 ((ms).rel.length) c1, .slice U1 ((ms).pre.length) d1], .agg #[.slice V2 ((ms).rel.length) c2, .slice U2 ((ms).pre.length) d2]]) (.bool true) rfl (by kernel_rfl) (fun _ => by kernel_rfl) (fun w hO => ret_b ((same_b _ _).trans (decide_eq_true (rfl))) (rsetSame_any V1 U1 V2 U2 c1 d1 c2 d2 ms ms w (SetO.inn hr1 hO (fun x hx => by simp [hx]) (fms) (by decide)) (SetO.inn hr2 hO (fun x hx => by simp [hx]) (fms) (by decide)))) ?_
            refine h_take 28 (o10 ++ (o9 ++ ([] : List Blk))) _ (.bool true) rfl (by kernel_rfl) (by kernel_rfl) (by kernel_rfl) (pq_seq pq_body) (by kernel_rfl) (fun _ _ => by kernel_rfl) ?_
            refine h_take 29 (o10 ++ (o9 ++ ([] : List Blk))) _ (.bool true) rfl (by kernel_rfl) (by kernel_rfl) (by kernel_rfl) (pq_seq pq_body) (by kernel_rfl) (fun _ _ => by kernel_rfl) ?_
            refine h_take 30 (o10 ++ (o9 ++ ([] : List Blk))) _ (.bool okb) rfl (by kernel_rfl) (by kernel_rfl) (by kernel_rfl) (pq_seq pq_body) (by kernel_rfl) (fun _ _ => by kernel_rfl) ?_
            refine h_take 31 (o10 ++ (o9 ++ ([] : List Blk))) _ (.bool okb) rfl (by kernel_rfl) (by kernel_rfl) (by kernel_rfl) (pq_seq pq_body) (by kernel_rfl) (fun _ _ => by kernel_rfl) ?_
            cases h10 : okb with
            | true =>
              refine h_take 32 (o10 ++ (o9 ++ ([] : List Blk))) _ (.bool true) rfl (by kernel_rfl) (by kernel_rfl) (by kernel_rfl) (pq_seq pq_body) (by kernel_rfl) (fun _ _ => by kernel_rfl) ?_
              refine h_take 33 (o10 ++ (o9 ++ ([] : List Blk))) _ (.bool true) rfl (by kernel_rfl) (by kernel_rfl) (by kernel_rfl) (pq_seq pq_body) (by kernel_rfl) (fun _ _ => by kernel_rfl) ?_
              refine h_take 34 (o10 ++ (o9 ++ ([] : List Blk))) _ (.bool true) rfl (by kernel_rfl) (by kernel_rfl) (by kernel_rfl) (pq_seq pq_body) (by kernel_rfl) (fun _ _ => by kernel_rfl) ?_
              refine h_drop (o10 ++ (o9 ++ ([] : List Blk))) ?_
              refine h_done (by kernel_rfl) ?_
              refine fin_seq ?_
              refine ok_ret ?_
              refine fin_ret (.bool true) Tryz.results3 (by kernel_rfl) ?_
              exact fun w hO => ⟨rfl, hO.below⟩
            | false =>
              refine h_take 32 (o10 ++ (o9 ++ ([] : List Blk))) _ (.bool true) rfl (by kernel_rfl) (by kernel_rfl) (by kernel_rfl) (pq_seq pq_body) (by kernel_rfl) (fun _ _ => by kernel_rfl) ?_
              refine h_take 33 (o10 ++ (o9 ++ ([] : List Blk))) _ (.bool true) rfl (by kernel_rfl) (by kernel_rfl) (by kernel_rfl) (pq_seq pq_body) (by kernel_rfl) (fun _ _ => by kernel_rfl) ?_
              refine h_take 34 (o10 ++ (o9 ++ ([] : List Blk))) _ (.bool true) rfl (by kernel_rfl) (by kernel_rfl) (by kernel_rfl) (pq_seq pq_body) (by kernel_rfl) (fun _ _ => by kernel_rfl) ?_
              refine h_drop (o10 ++ (o9 ++ ([] : List Blk))) ?_
              refine h_done (by kernel_rfl) ?_
              refine fin_seq ?_
              refine ok_ret ?_
              refine fin_ret (.bool true) Tryz.results3 (by kernel_rfl) ?_
              exact fun w hO => ⟨rfl, hO.below⟩
  | false =>
    refine s_val (.bool true) (by kernel_rfl) (fun _ => by kernel_rfl) ?_
    refine s_val (.bool true) (by kernel_rfl) (fun _ => by kernel_rfl) ?_
    refine s_skip (by kernel_rfl) ?_
    refine s_skip (by kernel_rfl) ?_
    refine s_skip (by kernel_rfl) ?_
    refine s_skip (by kernel_rfl) ?_
    refine s_val (.bool true) (by kernel_rfl) (fun _ => by kernel_rfl) ?_
    refine s_val (.bool true) (by kernel_rfl) (fun _ => by kernel_rfl) ?_
    refine s_skip (by kernel_rfl) ?_
    refine s_skip (by kernel_rfl) ?_
    refine s_skip (by kernel_rfl) ?_
    refine s_skip (by kernel_rfl) ?_
    refine s_val (.bool true) (by kernel_rfl) (fun _ => by kernel_rfl) ?_
    refine s_nil ?_
    refine fin_seq ?_
    refine ok_true (by kernel_rfl) ?_
    refine ok_seq ?_
    refine ok_region ?_
    refine s_call (k := 11) (args := #[]) (.bool true) (by kernel_rfl) (fun _ => by kernel_rfl) (fun w _ => awake5_any w) ?_
    refine s_val (.bool true) (by kernel_rfl) (fun _ => by kernel_rfl) ?_
    refine s_nil ?_
    refine fin_seq ?_
    refine ok_ret ?_
    refine fin_seq_ret ?_
    refine fin_ret (.bool true) Tryz.results3 (by kernel_rfl) ?_
    exact fun w hO => ⟨rfl, hO.below⟩
end Go.Proofs.YtgeccfdofmnphaaGreat
end

section
/-
  SetRaw: for every input the call returns true, and each argument reads afterwards as it read before. Conditions: none but the row's own.
-/
namespace Go.Proofs.YtgeccfdofmnphaaGreat.setRaw
open Go.ChangeShapes Go.WideShapes Go.ChangeAt Go.RowKit
open Go.ChangeMaps (open_string shut_string)
set_option linter.unusedVariables false

set_option maxRecDepth 100000 in
theorem contract (H : Type) (enc : TypeId × Value → H) (W : World) (base : Nat) (args : Array Value) (ds gs : List (DataW H)) (before : List MemPlace)
    (hval : ∀ (j : Nat) t v, Tryz.f3.params[j]? = some t → args[j]? = some v → Value.okWide Tryz.prog W .any base t v)
    (hW : DataW.Whole enc Tryz.prog Tryz.f3.params.toList Rows.setRawSpec.vars false W args.toList ds gs before) (hL : laidMetH Tryz.prog Rows.setRawRow.laid W) :
    Calls Tryz.prog 3 args W fun e W' => ∃ v, e = .returned v ∧ Rows.setRawSpec.post enc Tryz.prog Tryz.f3 false true false false W args v W' := by
  have hW' := hW
  obtain ⟨p, q, hA0, hV, rfl, hfz, hnd⟩ := hW
  have hA : DataW.TrodAll enc Tryz.prog W 0 (fun _ => true) true Tryz.f3.params.toList args.toList ds p := hA0
  rw [Tryz.params3] at hA hval
  obtain ⟨v0, vs0, d0, ds0, p0, q0, hargs, rfl, rfl, h0, r0⟩ := trodAll_cons hA
  obtain ⟨v1, vs1, d1, ds1, p1, q1, rfl, rfl, rfl, h1, r1⟩ := trodAll_cons r0
  obtain ⟨rfl, rfl, rfl⟩ := trodAll_nil r1
  obtain rfl : args = #[v0, v1] := by cases args; simp_all
  obtain ⟨rfl, rfl⟩ := trodVars_none hV
  clear hA0
  obtain ⟨s_A, s_B, s_c, s_d, s, rfl, s_rr, s_rp, s_cap⟩ := open_set (hval 0 24 v0 rfl rfl) h0
  obtain ⟨v, rfl, v_w⟩ := open_verV (hval 1 26 v1 rfl rfl) h1
  refine (setRaw.law W s_A s_B s_c s_d s s_rr s_rp s_cap v ).mono fun e W' ⟨he, hb⟩ => ?_
  subst he
  exact ⟨_, rfl, law_end laidOut (fun t ht => by rw [Tryz.params3] at ht; simp at ht; rcases ht with rfl | rfl <;> exact ⟨by kernel_rfl, of_decide_eq_true (by kernel_rfl)⟩) rfl rfl Tryz.underlying4 hW' (by rfl) hb⟩

noncomputable def laidWorld (os : Os) : World :=
  { World.holding Tryz.prog os ⟨#[], #[], []⟩ with heap := (World.holding Tryz.prog os ⟨#[], #[], []⟩).heap }
theorem laid_met (os : Os) : laidMet Tryz.prog Rows.setRawRow.laid ((laidWorld os).forCall (fun _ _ => 0) ⟨#[], #[.agg #[.slice none 0 0, .slice none 0 0], .agg #[.int .i64 0, .int .i64 0, .int .i64 0, .string ⟨#[]⟩, .string ⟨#[]⟩]], []⟩).memory :=
  laidMet_of_run' 8 (by kernel_rfl) (by kernel_rfl)
theorem reads (os : Os) {H : Type} (enc : TypeId × Value → H) : ∃ places, DataW.whole enc Tryz.prog ((laidWorld os).forCall (fun _ _ => 0) ⟨#[], #[.agg #[.slice none 0 0, .slice none 0 0], .agg #[.int .i64 0, .int .i64 0, .int .i64 0, .string ⟨#[]⟩, .string ⟨#[]⟩]], []⟩).memory Tryz.f3.params.toList Rows.setRawSpec.vars false (#[.agg #[.slice none 0 0, .slice none 0 0], .agg #[.int .i64 0, .int .i64 0, .int .i64 0, .string ⟨#[]⟩, .string ⟨#[]⟩]] : Array Value).toList 8 = some ([.agg [.nil, .nil], .agg [.lit (.int .i64 0), .lit (.int .i64 0), .lit (.int .i64 0), .lit (.string []), .lit (.string [])]], [], places) :=
  ⟨[], by kernel_rfl⟩

set_option maxRecDepth 100000 in
theorem lifted (os : Os) (started : os.Started) (H : Type) (enc : TypeId × Value → H) (F : Stop.Interp) :
    ReturnsInHanded {} Tryz.checked os 3 .any ((OpenSpec.ofChange Rows.setRawSpec).preRow enc Tryz.prog Tryz.f3 Rows.setRawRow.domain false Rows.setRawRow.laid) (((OpenSpec.ofChange Rows.setRawSpec).at F).post enc Tryz.prog Tryz.f3 false true false false) := by
  obtain ⟨places, hx⟩ := reads os enc
  refine returnsInHanded_of_row (C := Tryz.checked) (s := OpenSpec.ofChange Rows.setRawSpec) own started (by kernel_rfl) Tryz.func3
    (witness_row_at (enc := enc) (C := Tryz.checked) false (laidWorld os) #[.agg #[.slice none 0 0, .slice none 0 0], .agg #[.int .i64 0, .int .i64 0, .int .i64 0, .string ⟨#[]⟩, .string ⟨#[]⟩]] rfl (by kernel_rfl) (by kernel_rfl) (by kernel_rfl)
      (OpenSpec.preRow_of_cond 8 hx (by kernel_rfl) (fun k hk => by cases hk) (by kernel_rfl) (laid_met os))) ?_
  intro W base args ds gs before hval hW _ _ _ hL _ _
  exact contract H enc W base args ds gs before hval hW hL

theorem said : Rows.SetRawSaid :=
  OpenClaim.holds_of_cond 3 Tryz.f3 rfl rfl rfl rfl rfl rfl rfl ⟨rfl, rfl, rfl, rfl, rfl⟩ rfl rfl rfl rfl rfl (by kernel_rfl) Tryz.func3 (by kernel_rfl)
    (of_decide_eq_true (by kernel_rfl)) (by unfold Func.isWrapper; first | (rw [if_pos (by decide +kernel)]; kernel_rfl) | (rw [if_neg (by decide +kernel)]; exact ⟨rfl, rfl⟩))
    (fun os started H enc _ F => by rw [OpenClaim.pre_eq_preRow]; exact lifted os started H enc F)

#print axioms said
end Go.Proofs.YtgeccfdofmnphaaGreat.setRaw
end
