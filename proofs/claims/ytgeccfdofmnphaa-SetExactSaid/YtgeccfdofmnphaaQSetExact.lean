/-
  SetExact: for every input the call returns true, and each argument reads afterwards as it read before. Conditions: none but the row's own.
-/
import Derived.Test.YtgeccfdofmnphaaRows
import Derived.Test.YtgeccfdofmnphaaM5

section
/-
  SetExact: for any list of numbers the law returns true, and nothing that was there is changed. No condition.
-/
namespace Go.Proofs.Ytgeccfdofmnphaa
open Go.RowKit
set_option maxRecDepth 100000
set_option linter.unusedVariables false
set_option linter.unusedSimpArgs false
set_option maxHeartbeats 2000000

set_option maxHeartbeats 8000000 in
theorem setExact.law (W : World) (x : Value) (xl : List Int) (hxl : ReadsI W W.heap.size x xl) (lxl : xl.length ≤ maxLen) :
    Calls Try.prog 3 #[x] W fun e w' => e = .returned (.bool true) ∧ Below W.heap.size W w' := by
  obtain ⟨u, eu⟩ : ∃ q, q = genV xl 0 := ⟨_, rfl⟩
  have mu : u.may = true := eu ▸ gen_may xl 0
  have su : u.short := eu ▸ ⟨Nat.le_trans (gen_pre xl 0) (by decide), Nat.le_trans (gen_bld xl 0) (by decide)⟩
  obtain ⟨v, ev⟩ : ∃ q, q = genV xl 5 := ⟨_, rfl⟩
  have mv : v.may = true := ev ▸ gen_may xl 5
  have sv : v.short := ev ▸ ⟨Nat.le_trans (gen_pre xl 5) (by decide), Nat.le_trans (gen_bld xl 5) (by decide)⟩
  have es := exact_sf u
  have hs := exact_same mu mv
  have ha := exact_apart mu mv
  refine calls_ok (n := 57) Try.func3 rfl (by kernel_rfl) (by kernel_rfl) ?_
  refine ok_seq ?_
  refine ok_region ?_
  refine s_val (.bool false) (by kernel_rfl) (fun _ => by kernel_rfl) ?_
  refine s_nil ?_
  refine fin_seq ?_
  refine ok_seq ?_
  refine ok_region ?_
  refine s_val (x) (by kernel_rfl) (fun _ => by kernel_rfl) ?_
  refine s_call (k := 5) (args := #[x, .int .i64 0]) (verV u) (by kernel_rfl) (fun _ => by kernel_rfl) (fun w hO => ret_v (by rw [eu]) (gen_any x xl 0 w ((hxl.below hO.below).more hO.below.size) (by unfold maxLen at lxl; omega) (by omega))) ?_
  refine s_val (x) (by kernel_rfl) (fun _ => by kernel_rfl) ?_
  refine s_call (k := 5) (args := #[x, .int .i64 5]) (verV v) (by kernel_rfl) (fun _ => by kernel_rfl) (fun w hO => ret_v (by rw [ev]) (gen_any x xl 5 w ((hxl.below hO.below).more hO.below.size) (by unfold maxLen at lxl; omega) (by omega))) ?_
  refine s_alloc_at (.agg #[.int .i64 0, .int .i64 0, .int .i64 0, .string ⟨#[]⟩, .string ⟨#[]⟩]) (by kernel_rfl) rfl (by kernel_rfl) (fun b1 => ?_)
  refine s_alloc_at (.agg #[.int .i64 0, .int .i64 0, .int .i64 0, .string ⟨#[]⟩, .string ⟨#[]⟩]) (by kernel_rfl) rfl (by kernel_rfl) (fun b2 => ?_)
  refine s_store_at 1 ⟨b1, #[.int .i64 0, .int .i64 0, .int .i64 0, .string ⟨#[]⟩, .string ⟨#[]⟩], 24⟩ (off := 0) (verV u) (by kernel_rfl) rfl rfl (by kernel_rfl) (by kernel_rfl) (by kernel_rfl) (by kernel_rfl) (by kernel_rfl) ?_
  refine s_store_at 0 ⟨b2, #[.int .i64 0, .int .i64 0, .int .i64 0, .string ⟨#[]⟩, .string ⟨#[]⟩], 24⟩ (off := 0) (verV v) (by kernel_rfl) rfl rfl (by kernel_rfl) (by kernel_rfl) (by kernel_rfl) (by kernel_rfl) (by kernel_rfl) ?_
  refine s_nil ?_
  refine fin_seq ?_
  refine ok_seq ?_
  refine ok_region ?_
  refine s_load 1 ⟨b1, (verV u).cells, 24⟩ (off := 0) (verV u) (by kernel_rfl) rfl (by kernel_rfl) (by kernel_rfl) (by kernel_rfl) ?_
  refine s_callo (k := 6) (args := #[verV u]) (fun v' L' => ∃ ob', L' = ob' ++ ([⟨b2, (verV v).cells, 24⟩, ⟨b1, (verV u).cells, 24⟩]) ∧ SetO v' (exactT u) ob') (by kernel_rfl) (fun _ => by kernel_rfl) (fun w hO => (sExact_any u w su).mono fun e w' ⟨v', ob', k1, k2, k3⟩ => ⟨v', _, k1, ⟨ob', rfl, k2⟩, Own.joinN hO k3⟩) (fun v1 L1 hv1 => ?_)
  obtain ⟨o1, rfl, hr1⟩ := hv1
  obtain ⟨V1, U1, c1, d1, rfl⟩ := hr1.form
  refine s_alloc_at (.agg #[.slice none 0 0, .slice none 0 0]) (by kernel_rfl) rfl (by kernel_rfl) (fun b3 => ?_)
  refine s_store_at 0 ⟨b3, #[.slice none 0 0, .slice none 0 0], 28⟩ (off := 0) (.agg #[.slice V1 ((exactT u).rel.length) c1, .slice U1 ((exactT u).pre.length) d1]) (by kernel_rfl) rfl rfl (by kernel_rfl) (by kernel_rfl) (by kernel_rfl) (by kernel_rfl) (by kernel_rfl) ?_
  refine s_nil ?_
  refine fin_seq ?_
  refine ok_seq ?_
  refine ok_region ?_
  refine s_loadm ⟨b1, (verV u).cells, 24⟩ (off := 0) (verV u) (by kernel_rfl) rfl (by simp) (by kernel_rfl) (by kernel_rfl) ?_
  refine s_loadm ⟨b2, (verV v).cells, 24⟩ (off := 0) (verV v) (by kernel_rfl) rfl (by simp) (by kernel_rfl) (by kernel_rfl) ?_
  refine s_call (k := 7) (args := #[verV u, verV v]) (.int .i64 (cmpR u v)) (by kernel_rfl) (fun _ => by kernel_rfl) (fun w _ => vcompare_any u v w su.1 su.2 sv.1 sv.2) ?_
  by_cases h1 : (cmpR u v : Int) = 0
  · skip
    refine s_dec (p := (cmpR u v : Int) = 0) true (by kernel_rfl) (fun _ => by kernel_rfl) (decide_eq_true (h1)) ?_
    refine s_val (.bool true) (by kernel_rfl) (fun _ => by kernel_rfl) ?_
    refine s_nil ?_
    refine fin_seq ?_
    refine ok_seq ?_
    refine ok_anyh (by kernel_rfl) ?_
    refine h_one 0 (by kernel_rfl) ?_
    refine hs_call [] _ (k := 8) (args := #[]) (.bool true) rfl (by kernel_rfl) (fun _ => by kernel_rfl) (fun w _ => awake5_any w) ?_
    refine h_take 1 [] _ (.bool true) rfl (by kernel_rfl) (by kernel_rfl) (by kernel_rfl) (pq_seq pq_body) (by kernel_rfl) (fun _ _ => by kernel_rfl) ?_
    refine h_load 2 [] _ 0 ⟨b3, #[.slice V1 ((exactT u).rel.length) c1, .slice U1 ((exactT u).pre.length) d1], 28⟩ (off := 0) (.agg #[.slice V1 ((exactT u).rel.length) c1, .slice U1 ((exactT u).pre.length) d1]) rfl (by kernel_rfl) (by kernel_rfl) (by kernel_rfl) (pq_seq pq_body) (by kernel_rfl) rfl (by kernel_rfl) (by kernel_rfl) (by kernel_rfl) ?_
    refine h_one 3 (by kernel_rfl) ?_
    refine hs_call [] _ (k := 9) (args := #[.agg #[.slice V1 ((exactT u).rel.length) c1, .slice U1 ((exactT u).pre.length) d1]]) (.bool true) rfl (by kernel_rfl) (fun _ => by kernel_rfl) (fun w hO => ret_b (exact_sf u).may (sMay_any V1 U1 c1 d1 (exactT u) w (SetO.inn hr1 hO (fun x hx => by simp [hx]) (exact_sf u) (by decide)) hr1.caps)) ?_
    refine h_take 4 [] _ (.bool true) rfl (by kernel_rfl) (by kernel_rfl) (by kernel_rfl) (pq_seq pq_body) (by kernel_rfl) (fun _ _ => by kernel_rfl) ?_
    refine h_take 5 [] _ (.bool true) rfl (by kernel_rfl) (by kernel_rfl) (by kernel_rfl) (pq_seq pq_body) (by kernel_rfl) (fun _ _ => by kernel_rfl) ?_
    refine h_load 6 [] _ 0 ⟨b3, #[.slice V1 ((exactT u).rel.length) c1, .slice U1 ((exactT u).pre.length) d1], 28⟩ (off := 0) (.agg #[.slice V1 ((exactT u).rel.length) c1, .slice U1 ((exactT u).pre.length) d1]) rfl (by kernel_rfl) (by kernel_rfl) (by kernel_rfl) (pq_seq pq_body) (by kernel_rfl) rfl (by kernel_rfl) (by kernel_rfl) (by kernel_rfl) ?_
    refine h_loadm 7 [] _ ⟨b2, (verV v).cells, 24⟩ (off := 0) (verV v) rfl (by kernel_rfl) (by kernel_rfl) (by kernel_rfl) (pq_seq pq_body) (by kernel_rfl) rfl (by simp) (by kernel_rfl) (by kernel_rfl) ?_
    refine h_take 9 [] _ (.bool true) rfl (by kernel_rfl) (by kernel_rfl) (by kernel_rfl) (pq_seq pq_body) (by kernel_rfl) (fun _ _ => by kernel_rfl) ?_
    refine h_one 8 (by kernel_rfl) ?_
    refine hs_call [] _ (k := 10) (args := #[.agg #[.slice V1 ((exactT u).rel.length) c1, .slice U1 ((exactT u).pre.length) d1], verV v]) (.bool true) rfl (by kernel_rfl) (fun _ => by kernel_rfl) (fun w hO => ret_b (by rw [exact_has mu mv]; exact decide_eq_true (h1)) (sHas_any V1 U1 c1 d1 (exactT u) v w (SetO.inn hr1 hO (fun x hx => by simp [hx]) (exact_sf u) (by decide)) sv hr1.caps)) ?_
    refine h_take 10 [] _ (.bool true) rfl (by kernel_rfl) (by kernel_rfl) (by kernel_rfl) (pq_seq pq_body) (by kernel_rfl) (fun _ _ => by kernel_rfl) ?_
    refine h_take 11 [] _ (.bool true) rfl (by kernel_rfl) (by kernel_rfl) (by kernel_rfl) (pq_seq pq_body) (by kernel_rfl) (fun _ _ => by kernel_rfl) ?_
    refine h_take 12 [] _ (.bool true) rfl (by kernel_rfl) (by kernel_rfl) (by kernel_rfl) (pq_seq pq_body) (by kernel_rfl) (fun _ _ => by kernel_rfl) ?_
    refine h_load 13 [] _ 0 ⟨b3, #[.slice V1 ((exactT u).rel.length) c1, .slice U1 ((exactT u).pre.length) d1], 28⟩ (off := 0) (.agg #[.slice V1 ((exactT u).rel.length) c1, .slice U1 ((exactT u).pre.length) d1]) rfl (by kernel_rfl) (by kernel_rfl) (by kernel_rfl) (pq_seq pq_body) (by kernel_rfl) rfl (by kernel_rfl) (by kernel_rfl) (by kernel_rfl) ?_
    refine h_loadm 14 [] _ ⟨b2, (verV v).cells, 24⟩ (off := 0) (verV v) rfl (by kernel_rfl) (by kernel_rfl) (by kernel_rfl) (pq_seq pq_body) (by kernel_rfl) rfl (by simp) (by kernel_rfl) (by kernel_rfl) ?_
    refine h_take 17 [] _ (.bool true) rfl (by kernel_rfl) (by kernel_rfl) (by kernel_rfl) (pq_seq pq_body) (by kernel_rfl) (fun _ _ => by kernel_rfl) ?_
    refine h_one 15 (by kernel_rfl) ?_
    refine hl_callx _ (k := 6) (args := #[verV v]) (fun v' L' => ∃ ob', L' = ob' ++ ([] ++ (⟨b3, #[.slice V1 ((exactT u).rel.length) c1, .slice U1 ((exactT u).pre.length) d1], 28⟩ :: (o1 ++ ([⟨b2, (verV v).cells, 24⟩, ⟨b1, (verV u).cells, 24⟩])))) ∧ SetO v' (exactT v) ob') rfl (by kernel_rfl) (fun _ => by kernel_rfl) (fun w hO => (sExact_any v w sv).mono fun e w' ⟨v', ob', k1, k2, k3⟩ => ⟨v', _, k1, ⟨ob', rfl, k2⟩, Own.joinN hO k3⟩) (fun v' L' ⟨ob', e, _⟩ w hO => by subst e; exact Own.sub [] (Own.sub ob' hO)) (fun v2 L2 hv2 => ?_)
    obtain ⟨o2, rfl, hr2⟩ := hv2
    obtain ⟨V2, U2, c2, d2, rfl⟩ := hr2.form
    refine h_cast (L' := (o2 ++ ([] : List Blk)) ++ (⟨b3, #[.slice V1 ((exactT u).rel.length) c1, .slice U1 ((exactT u).pre.length) d1], 28⟩ :: (o1 ++ ([⟨b2, (verV v).cells, 24⟩, ⟨b1, (verV u).cells, 24⟩])))) (List.append_assoc _ _ _).symm ?_
    refine h_one 16 (by kernel_rfl) ?_
    refine hs_call (o2 ++ ([] : List Blk)) _ (k := 11) (args := #[.agg #[.slice V1 ((exactT u).rel.length) c1, .slice U1 ((exactT u).pre.length) d1], .agg #[.slice V2 ((exactT v).rel.length) c2, .slice U2 ((exactT v).pre.length) d2]]) (.bool true) rfl (by kernel_rfl) (fun _ => by kernel_rfl) (fun w hO => ret_b ((same_b _ _).trans (decide_eq_true (hs.2 h1))) (sSame_any V1 U1 V2 U2 c1 d1 c2 d2 (exactT u) (exactT v) w (SetO.inn hr1 hO (fun x hx => by simp [hx]) (exact_sf u) (by decide)) (SetO.inn hr2 hO (fun x hx => by simp [hx]) (exact_sf v) (by decide)) hr1.caps hr2.caps)) ?_
    refine h_take 18 (o2 ++ ([] : List Blk)) _ (.bool true) rfl (by kernel_rfl) (by kernel_rfl) (by kernel_rfl) (pq_seq pq_body) (by kernel_rfl) (fun _ _ => by kernel_rfl) ?_
    refine h_take 19 (o2 ++ ([] : List Blk)) _ (.bool true) rfl (by kernel_rfl) (by kernel_rfl) (by kernel_rfl) (pq_seq pq_body) (by kernel_rfl) (fun _ _ => by kernel_rfl) ?_
    refine h_take 20 (o2 ++ ([] : List Blk)) _ (.bool true) rfl (by kernel_rfl) (by kernel_rfl) (by kernel_rfl) (pq_seq pq_body) (by kernel_rfl) (fun _ _ => by kernel_rfl) ?_
    refine h_load 21 (o2 ++ ([] : List Blk)) _ 0 ⟨b3, #[.slice V1 ((exactT u).rel.length) c1, .slice U1 ((exactT u).pre.length) d1], 28⟩ (off := 0) (.agg #[.slice V1 ((exactT u).rel.length) c1, .slice U1 ((exactT u).pre.length) d1]) rfl (by kernel_rfl) (by kernel_rfl) (by kernel_rfl) (pq_seq pq_body) (by kernel_rfl) rfl (by kernel_rfl) (by kernel_rfl) (by kernel_rfl) ?_
    refine h_loadm 22 (o2 ++ ([] : List Blk)) _ ⟨b2, (verV v).cells, 24⟩ (off := 0) (verV v) rfl (by kernel_rfl) (by kernel_rfl) (by kernel_rfl) (pq_seq pq_body) (by kernel_rfl) rfl (by simp) (by kernel_rfl) (by kernel_rfl) ?_
    refine h_take 25 (o2 ++ ([] : List Blk)) _ (.bool true) rfl (by kernel_rfl) (by kernel_rfl) (by kernel_rfl) (pq_seq pq_body) (by kernel_rfl) (fun _ _ => by kernel_rfl) ?_
    refine h_take 26 (o2 ++ ([] : List Blk)) _ (.bool false) rfl (by kernel_rfl) (by kernel_rfl) (by kernel_rfl) (pq_seq pq_body) (by kernel_rfl) (fun _ _ => by kernel_rfl) ?_
    refine h_one 23 (by kernel_rfl) ?_
    refine hl_callx _ (k := 6) (args := #[verV v]) (fun v' L' => ∃ ob', L' = ob' ++ ((o2 ++ ([] : List Blk)) ++ (⟨b3, #[.slice V1 ((exactT u).rel.length) c1, .slice U1 ((exactT u).pre.length) d1], 28⟩ :: (o1 ++ ([⟨b2, (verV v).cells, 24⟩, ⟨b1, (verV u).cells, 24⟩])))) ∧ SetO v' (exactT v) ob') rfl (by kernel_rfl) (fun _ => by kernel_rfl) (fun w hO => (sExact_any v w sv).mono fun e w' ⟨v', ob', k1, k2, k3⟩ => ⟨v', _, k1, ⟨ob', rfl, k2⟩, Own.joinN hO k3⟩) (fun v' L' ⟨ob', e, _⟩ w hO => by subst e; exact Own.sub (o2 ++ ([] : List Blk)) (Own.sub ob' hO)) (fun v3 L2 hv2 => ?_)
    obtain ⟨o3, rfl, hr3⟩ := hv2
    obtain ⟨V3, U3, c3, d3, rfl⟩ := hr3.form
    refine h_cast (L' := (o3 ++ (o2 ++ ([] : List Blk))) ++ (⟨b3, #[.slice V1 ((exactT u).rel.length) c1, .slice U1 ((exactT u).pre.length) d1], 28⟩ :: (o1 ++ ([⟨b2, (verV v).cells, 24⟩, ⟨b1, (verV u).cells, 24⟩])))) (List.append_assoc _ _ _).symm ?_
    refine h_one 24 (by kernel_rfl) ?_
    refine hs_call (o3 ++ (o2 ++ ([] : List Blk))) _ (k := 12) (args := #[.agg #[.slice V1 ((exactT u).rel.length) c1, .slice U1 ((exactT u).pre.length) d1], .agg #[.slice V3 ((exactT v).rel.length) c3, .slice U3 ((exactT v).pre.length) d3]]) (.bool false) rfl (by kernel_rfl) (fun _ => by kernel_rfl) (fun w hO => ret_b ((apart_b (exact_sf u) (exact_sf v)).trans (decide_eq_false (fun q0 => ha.1 q0 h1))) (sApart_any V1 U1 V3 U3 c1 d1 c3 d3 (exactT u) (exactT v) w (SetO.inn hr1 hO (fun x hx => by simp [hx]) (exact_sf u) (by decide)) (SetO.inn hr3 hO (fun x hx => by simp [hx]) (exact_sf v) (by decide)) hr1.caps hr3.caps (Nat.le_trans (exact_sf u).rel.len (by decide)) (Nat.le_trans (exact_sf u).pre.len (by decide)) (Nat.le_trans (exact_sf v).rel.len (by decide)) (Nat.le_trans (exact_sf v).pre.len (by decide)))) ?_
    refine h_take 27 (o3 ++ (o2 ++ ([] : List Blk))) _ (.bool true) rfl (by kernel_rfl) (by kernel_rfl) (by kernel_rfl) (pq_seq pq_body) (by kernel_rfl) (fun _ _ => by kernel_rfl) ?_
    refine h_take 28 (o3 ++ (o2 ++ ([] : List Blk))) _ (.bool true) rfl (by kernel_rfl) (by kernel_rfl) (by kernel_rfl) (pq_seq pq_body) (by kernel_rfl) (fun _ _ => by kernel_rfl) ?_
    refine h_take 29 (o3 ++ (o2 ++ ([] : List Blk))) _ (.bool true) rfl (by kernel_rfl) (by kernel_rfl) (by kernel_rfl) (pq_seq pq_body) (by kernel_rfl) (fun _ _ => by kernel_rfl) ?_
    refine h_load 30 (o3 ++ (o2 ++ ([] : List Blk))) _ 0 ⟨b3, #[.slice V1 ((exactT u).rel.length) c1, .slice U1 ((exactT u).pre.length) d1], 28⟩ (off := 0) (.agg #[.slice V1 ((exactT u).rel.length) c1, .slice U1 ((exactT u).pre.length) d1]) rfl (by kernel_rfl) (by kernel_rfl) (by kernel_rfl) (pq_seq pq_body) (by kernel_rfl) rfl (by kernel_rfl) (by kernel_rfl) (by kernel_rfl) ?_
    refine h_load 31 (o3 ++ (o2 ++ ([] : List Blk))) _ 0 ⟨b3, #[.slice V1 ((exactT u).rel.length) c1, .slice U1 ((exactT u).pre.length) d1], 28⟩ (off := 0) (.agg #[.slice V1 ((exactT u).rel.length) c1, .slice U1 ((exactT u).pre.length) d1]) rfl (by kernel_rfl) (by kernel_rfl) (by kernel_rfl) (pq_seq pq_body) (by kernel_rfl) rfl (by kernel_rfl) (by kernel_rfl) (by kernel_rfl) ?_
    refine h_one 32 (by kernel_rfl) ?_
    refine hl_callx _ (k := 13) (args := #[.agg #[.slice V1 ((exactT u).rel.length) c1, .slice U1 ((exactT u).pre.length) d1]]) (fun v' L' => ∃ ob', L' = ob' ++ ((o3 ++ (o2 ++ ([] : List Blk))) ++ (⟨b3, #[.slice V1 ((exactT u).rel.length) c1, .slice U1 ((exactT u).pre.length) d1], 28⟩ :: (o1 ++ ([⟨b2, (verV v).cells, 24⟩, ⟨b1, (verV u).cells, 24⟩])))) ∧ SetO v' (notT (exactT u)) ob') rfl (by kernel_rfl) (fun _ => by kernel_rfl) (fun w hO => (sNot_any V1 U1 c1 d1 (exactT u) w (SetO.inn hr1 hO (fun x hx => by simp [hx]) (exact_sf u) (by decide)) hr1.caps).mono fun e w' ⟨v', ob', k1, k2, k3⟩ => ⟨v', _, k1, ⟨ob', rfl, by rw [if_pos (exact_sf u).may] at k2; exact k2⟩, Own.joinN hO k3⟩) (fun v' L' ⟨ob', e, _⟩ w hO => by subst e; exact Own.sub (o3 ++ (o2 ++ ([] : List Blk))) (Own.sub ob' hO)) (fun v4 L2 hv2 => ?_)
    obtain ⟨o4, rfl, hr4⟩ := hv2
    obtain ⟨V4, U4, c4, d4, rfl⟩ := hr4.form
    refine h_cast (L' := (o4 ++ (o3 ++ (o2 ++ ([] : List Blk)))) ++ (⟨b3, #[.slice V1 ((exactT u).rel.length) c1, .slice U1 ((exactT u).pre.length) d1], 28⟩ :: (o1 ++ ([⟨b2, (verV v).cells, 24⟩, ⟨b1, (verV u).cells, 24⟩])))) (List.append_assoc _ _ _).symm ?_
    refine h_one 33 (by kernel_rfl) ?_
    refine hs_call (o4 ++ (o3 ++ (o2 ++ ([] : List Blk)))) _ (k := 12) (args := #[.agg #[.slice V1 ((exactT u).rel.length) c1, .slice U1 ((exactT u).pre.length) d1], .agg #[.slice V4 ((notT (exactT u)).rel.length) c4, .slice U4 ((notT (exactT u)).pre.length) d4]]) (.bool true) rfl (by kernel_rfl) (fun _ => by kernel_rfl) (fun w hO => ret_b ((apart_b (exact_sf u) ((exact_sf u).not)).trans (decide_eq_true (St.eq (apart_not es.rel.may) (apart_not es.pre.may)))) (sApart_any V1 U1 V4 U4 c1 d1 c4 d4 (exactT u) (notT (exactT u)) w (SetO.inn hr1 hO (fun x hx => by simp [hx]) (exact_sf u) (by decide)) (SetO.inn hr4 hO (fun x hx => by simp [hx]) ((exact_sf u).not) (by decide)) hr1.caps hr4.caps (Nat.le_trans (exact_sf u).rel.len (by decide)) (Nat.le_trans (exact_sf u).pre.len (by decide)) (Nat.le_trans ((exact_sf u).not).rel.len (by decide)) (Nat.le_trans ((exact_sf u).not).pre.len (by decide)))) ?_
    refine h_take 34 (o4 ++ (o3 ++ (o2 ++ ([] : List Blk)))) _ (.bool true) rfl (by kernel_rfl) (by kernel_rfl) (by kernel_rfl) (pq_seq pq_body) (by kernel_rfl) (fun _ _ => by kernel_rfl) ?_
    refine h_take 35 (o4 ++ (o3 ++ (o2 ++ ([] : List Blk)))) _ (.bool true) rfl (by kernel_rfl) (by kernel_rfl) (by kernel_rfl) (pq_seq pq_body) (by kernel_rfl) (fun _ _ => by kernel_rfl) ?_
    refine h_load 36 (o4 ++ (o3 ++ (o2 ++ ([] : List Blk)))) _ 0 ⟨b3, #[.slice V1 ((exactT u).rel.length) c1, .slice U1 ((exactT u).pre.length) d1], 28⟩ (off := 0) (.agg #[.slice V1 ((exactT u).rel.length) c1, .slice U1 ((exactT u).pre.length) d1]) rfl (by kernel_rfl) (by kernel_rfl) (by kernel_rfl) (pq_seq pq_body) (by kernel_rfl) rfl (by kernel_rfl) (by kernel_rfl) (by kernel_rfl) ?_
    refine h_one 37 (by kernel_rfl) ?_
    refine hl_callx _ (k := 15) (args := #[]) (fun v' L' => ∃ ob', L' = ob' ++ ((o4 ++ (o3 ++ (o2 ++ ([] : List Blk)))) ++ (⟨b3, #[.slice V1 ((exactT u).rel.length) c1, .slice U1 ((exactT u).pre.length) d1], 28⟩ :: (o1 ++ ([⟨b2, (verV v).cells, 24⟩, ⟨b1, (verV u).cells, 24⟩])))) ∧ SetO v' (allT) ob') rfl (by kernel_rfl) (fun _ => by kernel_rfl) (fun w hO => (sAll_any w).mono fun e w' ⟨v', ob', k1, k2, k3⟩ => ⟨v', _, k1, ⟨ob', rfl, k2⟩, Own.joinN hO k3⟩) (fun v' L' ⟨ob', e, _⟩ w hO => by subst e; exact Own.sub (o4 ++ (o3 ++ (o2 ++ ([] : List Blk)))) (Own.sub ob' hO)) (fun v5 L2 hv2 => ?_)
    obtain ⟨o5, rfl, hr5⟩ := hv2
    obtain ⟨V5, U5, c5, d5, rfl⟩ := hr5.form
    refine h_cast (L' := (o5 ++ (o4 ++ (o3 ++ (o2 ++ ([] : List Blk))))) ++ (⟨b3, #[.slice V1 ((exactT u).rel.length) c1, .slice U1 ((exactT u).pre.length) d1], 28⟩ :: (o1 ++ ([⟨b2, (verV v).cells, 24⟩, ⟨b1, (verV u).cells, 24⟩])))) (List.append_assoc _ _ _).symm ?_
    refine h_one 38 (by kernel_rfl) ?_
    refine hs_call (o5 ++ (o4 ++ (o3 ++ (o2 ++ ([] : List Blk))))) _ (k := 14) (args := #[.agg #[.slice V1 ((exactT u).rel.length) c1, .slice U1 ((exactT u).pre.length) d1], .agg #[.slice V5 ((allT).rel.length) c5, .slice U5 ((allT).pre.length) d5]]) (.bool true) rfl (by kernel_rfl) (fun _ => by kernel_rfl) (fun w hO => ret_b ((within_b (exact_sf u) all_sf).trans (decide_eq_true (St.eq (and_whole es.rel.may) (and_whole es.pre.may)))) (sWithin_any V1 U1 V5 U5 c1 d1 c5 d5 (exactT u) allT w (SetO.inn hr1 hO (fun x hx => by simp [hx]) (exact_sf u) (by decide)) (SetO.inn hr5 hO (fun x hx => by simp [hx]) (all_sf) (by decide)) hr1.caps hr5.caps)) ?_
    refine h_take 39 (o5 ++ (o4 ++ (o3 ++ (o2 ++ ([] : List Blk))))) _ (.bool true) rfl (by kernel_rfl) (by kernel_rfl) (by kernel_rfl) (pq_seq pq_body) (by kernel_rfl) (fun _ _ => by kernel_rfl) ?_
    refine h_take 40 (o5 ++ (o4 ++ (o3 ++ (o2 ++ ([] : List Blk))))) _ (.bool true) rfl (by kernel_rfl) (by kernel_rfl) (by kernel_rfl) (pq_seq pq_body) (by kernel_rfl) (fun _ _ => by kernel_rfl) ?_
    refine h_drop (o5 ++ (o4 ++ (o3 ++ (o2 ++ ([] : List Blk))))) ?_
    refine h_done (by kernel_rfl) ?_
    refine fin_seq ?_
    refine ok_ret ?_
    refine fin_ret (.bool true) Try.results3 (by kernel_rfl) ?_
    exact fun w hO => ⟨rfl, hO.below⟩
  · skip
    refine s_dec (p := (cmpR u v : Int) = 0) false (by kernel_rfl) (fun _ => by kernel_rfl) (decide_eq_false (h1)) ?_
    refine s_val (.bool false) (by kernel_rfl) (fun _ => by kernel_rfl) ?_
    refine s_nil ?_
    refine fin_seq ?_
    refine ok_seq ?_
    refine ok_anyh (by kernel_rfl) ?_
    refine h_one 0 (by kernel_rfl) ?_
    refine hs_call [] _ (k := 8) (args := #[]) (.bool true) rfl (by kernel_rfl) (fun _ => by kernel_rfl) (fun w _ => awake5_any w) ?_
    refine h_take 1 [] _ (.bool true) rfl (by kernel_rfl) (by kernel_rfl) (by kernel_rfl) (pq_seq pq_body) (by kernel_rfl) (fun _ _ => by kernel_rfl) ?_
    refine h_load 2 [] _ 0 ⟨b3, #[.slice V1 ((exactT u).rel.length) c1, .slice U1 ((exactT u).pre.length) d1], 28⟩ (off := 0) (.agg #[.slice V1 ((exactT u).rel.length) c1, .slice U1 ((exactT u).pre.length) d1]) rfl (by kernel_rfl) (by kernel_rfl) (by kernel_rfl) (pq_seq pq_body) (by kernel_rfl) rfl (by kernel_rfl) (by kernel_rfl) (by kernel_rfl) ?_
    refine h_one 3 (by kernel_rfl) ?_
    refine hs_call [] _ (k := 9) (args := #[.agg #[.slice V1 ((exactT u).rel.length) c1, .slice U1 ((exactT u).pre.length) d1]]) (.bool true) rfl (by kernel_rfl) (fun _ => by kernel_rfl) (fun w hO => ret_b (exact_sf u).may (sMay_any V1 U1 c1 d1 (exactT u) w (SetO.inn hr1 hO (fun x hx => by simp [hx]) (exact_sf u) (by decide)) hr1.caps)) ?_
    refine h_take 4 [] _ (.bool true) rfl (by kernel_rfl) (by kernel_rfl) (by kernel_rfl) (pq_seq pq_body) (by kernel_rfl) (fun _ _ => by kernel_rfl) ?_
    refine h_take 5 [] _ (.bool true) rfl (by kernel_rfl) (by kernel_rfl) (by kernel_rfl) (pq_seq pq_body) (by kernel_rfl) (fun _ _ => by kernel_rfl) ?_
    refine h_load 6 [] _ 0 ⟨b3, #[.slice V1 ((exactT u).rel.length) c1, .slice U1 ((exactT u).pre.length) d1], 28⟩ (off := 0) (.agg #[.slice V1 ((exactT u).rel.length) c1, .slice U1 ((exactT u).pre.length) d1]) rfl (by kernel_rfl) (by kernel_rfl) (by kernel_rfl) (pq_seq pq_body) (by kernel_rfl) rfl (by kernel_rfl) (by kernel_rfl) (by kernel_rfl) ?_
    refine h_loadm 7 [] _ ⟨b2, (verV v).cells, 24⟩ (off := 0) (verV v) rfl (by kernel_rfl) (by kernel_rfl) (by kernel_rfl) (pq_seq pq_body) (by kernel_rfl) rfl (by simp) (by kernel_rfl) (by kernel_rfl) ?_
    refine h_take 9 [] _ (.bool false) rfl (by kernel_rfl) (by kernel_rfl) (by kernel_rfl) (pq_seq pq_body) (by kernel_rfl) (fun _ _ => by kernel_rfl) ?_
    refine h_one 8 (by kernel_rfl) ?_
    refine hs_call [] _ (k := 10) (args := #[.agg #[.slice V1 ((exactT u).rel.length) c1, .slice U1 ((exactT u).pre.length) d1], verV v]) (.bool false) rfl (by kernel_rfl) (fun _ => by kernel_rfl) (fun w hO => ret_b (by rw [exact_has mu mv]; exact decide_eq_false (h1)) (sHas_any V1 U1 c1 d1 (exactT u) v w (SetO.inn hr1 hO (fun x hx => by simp [hx]) (exact_sf u) (by decide)) sv hr1.caps)) ?_
    refine h_take 10 [] _ (.bool true) rfl (by kernel_rfl) (by kernel_rfl) (by kernel_rfl) (pq_seq pq_body) (by kernel_rfl) (fun _ _ => by kernel_rfl) ?_
    refine h_take 11 [] _ (.bool true) rfl (by kernel_rfl) (by kernel_rfl) (by kernel_rfl) (pq_seq pq_body) (by kernel_rfl) (fun _ _ => by kernel_rfl) ?_
    refine h_take 12 [] _ (.bool true) rfl (by kernel_rfl) (by kernel_rfl) (by kernel_rfl) (pq_seq pq_body) (by kernel_rfl) (fun _ _ => by kernel_rfl) ?_
    refine h_load 13 [] _ 0 ⟨b3, #[.slice V1 ((exactT u).rel.length) c1, .slice U1 ((exactT u).pre.length) d1], 28⟩ (off := 0) (.agg #[.slice V1 ((exactT u).rel.length) c1, .slice U1 ((exactT u).pre.length) d1]) rfl (by kernel_rfl) (by kernel_rfl) (by kernel_rfl) (pq_seq pq_body) (by kernel_rfl) rfl (by kernel_rfl) (by kernel_rfl) (by kernel_rfl) ?_
    refine h_loadm 14 [] _ ⟨b2, (verV v).cells, 24⟩ (off := 0) (verV v) rfl (by kernel_rfl) (by kernel_rfl) (by kernel_rfl) (pq_seq pq_body) (by kernel_rfl) rfl (by simp) (by kernel_rfl) (by kernel_rfl) ?_
    refine h_take 17 [] _ (.bool false) rfl (by kernel_rfl) (by kernel_rfl) (by kernel_rfl) (pq_seq pq_body) (by kernel_rfl) (fun _ _ => by kernel_rfl) ?_
    refine h_one 15 (by kernel_rfl) ?_
    refine hl_callx _ (k := 6) (args := #[verV v]) (fun v' L' => ∃ ob', L' = ob' ++ ([] ++ (⟨b3, #[.slice V1 ((exactT u).rel.length) c1, .slice U1 ((exactT u).pre.length) d1], 28⟩ :: (o1 ++ ([⟨b2, (verV v).cells, 24⟩, ⟨b1, (verV u).cells, 24⟩])))) ∧ SetO v' (exactT v) ob') rfl (by kernel_rfl) (fun _ => by kernel_rfl) (fun w hO => (sExact_any v w sv).mono fun e w' ⟨v', ob', k1, k2, k3⟩ => ⟨v', _, k1, ⟨ob', rfl, k2⟩, Own.joinN hO k3⟩) (fun v' L' ⟨ob', e, _⟩ w hO => by subst e; exact Own.sub [] (Own.sub ob' hO)) (fun v6 L2 hv2 => ?_)
    obtain ⟨o6, rfl, hr6⟩ := hv2
    obtain ⟨V6, U6, c6, d6, rfl⟩ := hr6.form
    refine h_cast (L' := (o6 ++ ([] : List Blk)) ++ (⟨b3, #[.slice V1 ((exactT u).rel.length) c1, .slice U1 ((exactT u).pre.length) d1], 28⟩ :: (o1 ++ ([⟨b2, (verV v).cells, 24⟩, ⟨b1, (verV u).cells, 24⟩])))) (List.append_assoc _ _ _).symm ?_
    refine h_one 16 (by kernel_rfl) ?_
    refine hs_call (o6 ++ ([] : List Blk)) _ (k := 11) (args := #[.agg #[.slice V1 ((exactT u).rel.length) c1, .slice U1 ((exactT u).pre.length) d1], .agg #[.slice V6 ((exactT v).rel.length) c6, .slice U6 ((exactT v).pre.length) d6]]) (.bool false) rfl (by kernel_rfl) (fun _ => by kernel_rfl) (fun w hO => ret_b ((same_b _ _).trans (decide_eq_false (fun q0 => h1 (hs.1 q0)))) (sSame_any V1 U1 V6 U6 c1 d1 c6 d6 (exactT u) (exactT v) w (SetO.inn hr1 hO (fun x hx => by simp [hx]) (exact_sf u) (by decide)) (SetO.inn hr6 hO (fun x hx => by simp [hx]) (exact_sf v) (by decide)) hr1.caps hr6.caps)) ?_
    refine h_take 18 (o6 ++ ([] : List Blk)) _ (.bool true) rfl (by kernel_rfl) (by kernel_rfl) (by kernel_rfl) (pq_seq pq_body) (by kernel_rfl) (fun _ _ => by kernel_rfl) ?_
    refine h_take 19 (o6 ++ ([] : List Blk)) _ (.bool true) rfl (by kernel_rfl) (by kernel_rfl) (by kernel_rfl) (pq_seq pq_body) (by kernel_rfl) (fun _ _ => by kernel_rfl) ?_
    refine h_take 20 (o6 ++ ([] : List Blk)) _ (.bool true) rfl (by kernel_rfl) (by kernel_rfl) (by kernel_rfl) (pq_seq pq_body) (by kernel_rfl) (fun _ _ => by kernel_rfl) ?_
    refine h_load 21 (o6 ++ ([] : List Blk)) _ 0 ⟨b3, #[.slice V1 ((exactT u).rel.length) c1, .slice U1 ((exactT u).pre.length) d1], 28⟩ (off := 0) (.agg #[.slice V1 ((exactT u).rel.length) c1, .slice U1 ((exactT u).pre.length) d1]) rfl (by kernel_rfl) (by kernel_rfl) (by kernel_rfl) (pq_seq pq_body) (by kernel_rfl) rfl (by kernel_rfl) (by kernel_rfl) (by kernel_rfl) ?_
    refine h_loadm 22 (o6 ++ ([] : List Blk)) _ ⟨b2, (verV v).cells, 24⟩ (off := 0) (verV v) rfl (by kernel_rfl) (by kernel_rfl) (by kernel_rfl) (pq_seq pq_body) (by kernel_rfl) rfl (by simp) (by kernel_rfl) (by kernel_rfl) ?_
    refine h_take 25 (o6 ++ ([] : List Blk)) _ (.bool false) rfl (by kernel_rfl) (by kernel_rfl) (by kernel_rfl) (pq_seq pq_body) (by kernel_rfl) (fun _ _ => by kernel_rfl) ?_
    refine h_take 26 (o6 ++ ([] : List Blk)) _ (.bool true) rfl (by kernel_rfl) (by kernel_rfl) (by kernel_rfl) (pq_seq pq_body) (by kernel_rfl) (fun _ _ => by kernel_rfl) ?_
    refine h_one 23 (by kernel_rfl) ?_
    refine hl_callx _ (k := 6) (args := #[verV v]) (fun v' L' => ∃ ob', L' = ob' ++ ((o6 ++ ([] : List Blk)) ++ (⟨b3, #[.slice V1 ((exactT u).rel.length) c1, .slice U1 ((exactT u).pre.length) d1], 28⟩ :: (o1 ++ ([⟨b2, (verV v).cells, 24⟩, ⟨b1, (verV u).cells, 24⟩])))) ∧ SetO v' (exactT v) ob') rfl (by kernel_rfl) (fun _ => by kernel_rfl) (fun w hO => (sExact_any v w sv).mono fun e w' ⟨v', ob', k1, k2, k3⟩ => ⟨v', _, k1, ⟨ob', rfl, k2⟩, Own.joinN hO k3⟩) (fun v' L' ⟨ob', e, _⟩ w hO => by subst e; exact Own.sub (o6 ++ ([] : List Blk)) (Own.sub ob' hO)) (fun v7 L2 hv2 => ?_)
    obtain ⟨o7, rfl, hr7⟩ := hv2
    obtain ⟨V7, U7, c7, d7, rfl⟩ := hr7.form
    refine h_cast (L' := (o7 ++ (o6 ++ ([] : List Blk))) ++ (⟨b3, #[.slice V1 ((exactT u).rel.length) c1, .slice U1 ((exactT u).pre.length) d1], 28⟩ :: (o1 ++ ([⟨b2, (verV v).cells, 24⟩, ⟨b1, (verV u).cells, 24⟩])))) (List.append_assoc _ _ _).symm ?_
    refine h_one 24 (by kernel_rfl) ?_
    refine hs_call (o7 ++ (o6 ++ ([] : List Blk))) _ (k := 12) (args := #[.agg #[.slice V1 ((exactT u).rel.length) c1, .slice U1 ((exactT u).pre.length) d1], .agg #[.slice V7 ((exactT v).rel.length) c7, .slice U7 ((exactT v).pre.length) d7]]) (.bool true) rfl (by kernel_rfl) (fun _ => by kernel_rfl) (fun w hO => ret_b ((apart_b (exact_sf u) (exact_sf v)).trans (decide_eq_true (ha.2 h1))) (sApart_any V1 U1 V7 U7 c1 d1 c7 d7 (exactT u) (exactT v) w (SetO.inn hr1 hO (fun x hx => by simp [hx]) (exact_sf u) (by decide)) (SetO.inn hr7 hO (fun x hx => by simp [hx]) (exact_sf v) (by decide)) hr1.caps hr7.caps (Nat.le_trans (exact_sf u).rel.len (by decide)) (Nat.le_trans (exact_sf u).pre.len (by decide)) (Nat.le_trans (exact_sf v).rel.len (by decide)) (Nat.le_trans (exact_sf v).pre.len (by decide)))) ?_
    refine h_take 27 (o7 ++ (o6 ++ ([] : List Blk))) _ (.bool true) rfl (by kernel_rfl) (by kernel_rfl) (by kernel_rfl) (pq_seq pq_body) (by kernel_rfl) (fun _ _ => by kernel_rfl) ?_
    refine h_take 28 (o7 ++ (o6 ++ ([] : List Blk))) _ (.bool true) rfl (by kernel_rfl) (by kernel_rfl) (by kernel_rfl) (pq_seq pq_body) (by kernel_rfl) (fun _ _ => by kernel_rfl) ?_
    refine h_take 29 (o7 ++ (o6 ++ ([] : List Blk))) _ (.bool true) rfl (by kernel_rfl) (by kernel_rfl) (by kernel_rfl) (pq_seq pq_body) (by kernel_rfl) (fun _ _ => by kernel_rfl) ?_
    refine h_load 30 (o7 ++ (o6 ++ ([] : List Blk))) _ 0 ⟨b3, #[.slice V1 ((exactT u).rel.length) c1, .slice U1 ((exactT u).pre.length) d1], 28⟩ (off := 0) (.agg #[.slice V1 ((exactT u).rel.length) c1, .slice U1 ((exactT u).pre.length) d1]) rfl (by kernel_rfl) (by kernel_rfl) (by kernel_rfl) (pq_seq pq_body) (by kernel_rfl) rfl (by kernel_rfl) (by kernel_rfl) (by kernel_rfl) ?_
    refine h_load 31 (o7 ++ (o6 ++ ([] : List Blk))) _ 0 ⟨b3, #[.slice V1 ((exactT u).rel.length) c1, .slice U1 ((exactT u).pre.length) d1], 28⟩ (off := 0) (.agg #[.slice V1 ((exactT u).rel.length) c1, .slice U1 ((exactT u).pre.length) d1]) rfl (by kernel_rfl) (by kernel_rfl) (by kernel_rfl) (pq_seq pq_body) (by kernel_rfl) rfl (by kernel_rfl) (by kernel_rfl) (by kernel_rfl) ?_
    refine h_one 32 (by kernel_rfl) ?_
    refine hl_callx _ (k := 13) (args := #[.agg #[.slice V1 ((exactT u).rel.length) c1, .slice U1 ((exactT u).pre.length) d1]]) (fun v' L' => ∃ ob', L' = ob' ++ ((o7 ++ (o6 ++ ([] : List Blk))) ++ (⟨b3, #[.slice V1 ((exactT u).rel.length) c1, .slice U1 ((exactT u).pre.length) d1], 28⟩ :: (o1 ++ ([⟨b2, (verV v).cells, 24⟩, ⟨b1, (verV u).cells, 24⟩])))) ∧ SetO v' (notT (exactT u)) ob') rfl (by kernel_rfl) (fun _ => by kernel_rfl) (fun w hO => (sNot_any V1 U1 c1 d1 (exactT u) w (SetO.inn hr1 hO (fun x hx => by simp [hx]) (exact_sf u) (by decide)) hr1.caps).mono fun e w' ⟨v', ob', k1, k2, k3⟩ => ⟨v', _, k1, ⟨ob', rfl, by rw [if_pos (exact_sf u).may] at k2; exact k2⟩, Own.joinN hO k3⟩) (fun v' L' ⟨ob', e, _⟩ w hO => by subst e; exact Own.sub (o7 ++ (o6 ++ ([] : List Blk))) (Own.sub ob' hO)) (fun v8 L2 hv2 => ?_)
    obtain ⟨o8, rfl, hr8⟩ := hv2
    obtain ⟨V8, U8, c8, d8, rfl⟩ := hr8.form
    refine h_cast (L' := (o8 ++ (o7 ++ (o6 ++ ([] : List Blk)))) ++ (⟨b3, #[.slice V1 ((exactT u).rel.length) c1, .slice U1 ((exactT u).pre.length) d1], 28⟩ :: (o1 ++ ([⟨b2, (verV v).cells, 24⟩, ⟨b1, (verV u).cells, 24⟩])))) (List.append_assoc _ _ _).symm ?_
    refine h_one 33 (by kernel_rfl) ?_
    refine hs_call (o8 ++ (o7 ++ (o6 ++ ([] : List Blk)))) _ (k := 12) (args := #[.agg #[.slice V1 ((exactT u).rel.length) c1, .slice U1 ((exactT u).pre.length) d1], .agg #[.slice V8 ((notT (exactT u)).rel.length) c8, .slice U8 ((notT (exactT u)).pre.length) d8]]) (.bool true) rfl (by kernel_rfl) (fun _ => by kernel_rfl) (fun w hO => ret_b ((apart_b (exact_sf u) ((exact_sf u).not)).trans (decide_eq_true (St.eq (apart_not es.rel.may) (apart_not es.pre.may)))) (sApart_any V1 U1 V8 U8 c1 d1 c8 d8 (exactT u) (notT (exactT u)) w (SetO.inn hr1 hO (fun x hx => by simp [hx]) (exact_sf u) (by decide)) (SetO.inn hr8 hO (fun x hx => by simp [hx]) ((exact_sf u).not) (by decide)) hr1.caps hr8.caps (Nat.le_trans (exact_sf u).rel.len (by decide)) (Nat.le_trans (exact_sf u).pre.len (by decide)) (Nat.le_trans ((exact_sf u).not).rel.len (by decide)) (Nat.le_trans ((exact_sf u).not).pre.len (by decide)))) ?_
    refine h_take 34 (o8 ++ (o7 ++ (o6 ++ ([] : List Blk)))) _ (.bool true) rfl (by kernel_rfl) (by kernel_rfl) (by kernel_rfl) (pq_seq pq_body) (by kernel_rfl) (fun _ _ => by kernel_rfl) ?_
    refine h_take 35 (o8 ++ (o7 ++ (o6 ++ ([] : List Blk)))) _ (.bool true) rfl (by kernel_rfl) (by kernel_rfl) (by kernel_rfl) (pq_seq pq_body) (by kernel_rfl) (fun _ _ => by kernel_rfl) ?_
    refine h_load 36 (o8 ++ (o7 ++ (o6 ++ ([] : List Blk)))) _ 0 ⟨b3, #[.slice V1 ((exactT u).rel.length) c1, .slice U1 ((exactT u).pre.length) d1], 28⟩ (off := 0) (.agg #[.slice V1 ((exactT u).rel.length) c1, .slice U1 ((exactT u).pre.length) d1]) rfl (by kernel_rfl) (by kernel_rfl) (by kernel_rfl) (pq_seq pq_body) (by kernel_rfl) rfl (by kernel_rfl) (by kernel_rfl) (by kernel_rfl) ?_
    refine h_one 37 (by kernel_rfl) ?_
    refine hl_callx _ (k := 15) (args := #[]) (fun v' L' => ∃ ob', L' = ob' ++ ((o8 ++ (o7 ++ (o6 ++ ([] : List Blk)))) ++ (⟨b3, #[.slice V1 ((exactT u).rel.length) c1, .slice U1 ((exactT u).pre.length) d1], 28⟩ :: (o1 ++ ([⟨b2, (verV v).cells, 24⟩, ⟨b1, (verV u).cells, 24⟩])))) ∧ SetO v' (allT) ob') rfl (by kernel_rfl) (fun _ => by kernel_rfl) (fun w hO => (sAll_any w).mono fun e w' ⟨v', ob', k1, k2, k3⟩ => ⟨v', _, k1, ⟨ob', rfl, k2⟩, Own.joinN hO k3⟩) (fun v' L' ⟨ob', e, _⟩ w hO => by subst e; exact Own.sub (o8 ++ (o7 ++ (o6 ++ ([] : List Blk)))) (Own.sub ob' hO)) (fun v9 L2 hv2 => ?_)
    obtain ⟨o9, rfl, hr9⟩ := hv2
    obtain ⟨V9, U9, c9, d9, rfl⟩ := hr9.form
    refine h_cast (L' := (o9 ++ (o8 ++ (o7 ++ (o6 ++ ([] : List Blk))))) ++ (⟨b3, #[.slice V1 ((exactT u).rel.length) c1, .slice U1 ((exactT u).pre.length) d1], 28⟩ :: (o1 ++ ([⟨b2, (verV v).cells, 24⟩, ⟨b1, (verV u).cells, 24⟩])))) (List.append_assoc _ _ _).symm ?_
    refine h_one 38 (by kernel_rfl) ?_
    refine hs_call (o9 ++ (o8 ++ (o7 ++ (o6 ++ ([] : List Blk))))) _ (k := 14) (args := #[.agg #[.slice V1 ((exactT u).rel.length) c1, .slice U1 ((exactT u).pre.length) d1], .agg #[.slice V9 ((allT).rel.length) c9, .slice U9 ((allT).pre.length) d9]]) (.bool true) rfl (by kernel_rfl) (fun _ => by kernel_rfl) (fun w hO => ret_b ((within_b (exact_sf u) all_sf).trans (decide_eq_true (St.eq (and_whole es.rel.may) (and_whole es.pre.may)))) (sWithin_any V1 U1 V9 U9 c1 d1 c9 d9 (exactT u) allT w (SetO.inn hr1 hO (fun x hx => by simp [hx]) (exact_sf u) (by decide)) (SetO.inn hr9 hO (fun x hx => by simp [hx]) (all_sf) (by decide)) hr1.caps hr9.caps)) ?_
    refine h_take 39 (o9 ++ (o8 ++ (o7 ++ (o6 ++ ([] : List Blk))))) _ (.bool true) rfl (by kernel_rfl) (by kernel_rfl) (by kernel_rfl) (pq_seq pq_body) (by kernel_rfl) (fun _ _ => by kernel_rfl) ?_
    refine h_take 40 (o9 ++ (o8 ++ (o7 ++ (o6 ++ ([] : List Blk))))) _ (.bool true) rfl (by kernel_rfl) (by kernel_rfl) (by kernel_rfl) (pq_seq pq_body) (by kernel_rfl) (fun _ _ => by kernel_rfl) ?_
    refine h_drop (o9 ++ (o8 ++ (o7 ++ (o6 ++ ([] : List Blk))))) ?_
    refine h_done (by kernel_rfl) ?_
    refine fin_seq ?_
    refine ok_ret ?_
    refine fin_ret (.bool true) Try.results3 (by kernel_rfl) ?_
    exact fun w hO => ⟨rfl, hO.below⟩
end Go.Proofs.Ytgeccfdofmnphaa
end

section
/-
  SetExact: for every input the call returns true, and each argument reads afterwards as it read before. Conditions: none but the row's own.
-/
namespace Go.Proofs.Ytgeccfdofmnphaa.setExact
open Go.ChangeShapes Go.WideShapes Go.ChangeAt Go.RowKit
open Go.ChangeMaps (open_string shut_string)
set_option linter.unusedVariables false

set_option maxRecDepth 100000 in
theorem contract (H : Type) (enc : TypeId × Value → H) (W : World) (base : Nat) (args : Array Value) (ds gs : List (DataW H)) (before : List MemPlace)
    (hval : ∀ (j : Nat) t v, Try.f3.params[j]? = some t → args[j]? = some v → Value.okWide Try.prog W .any base t v)
    (hW : DataW.Whole enc Try.prog Try.f3.params.toList Rows.setExactSpec.vars false W args.toList ds gs before) (hL : laidMetH Try.prog Rows.setExactRow.laid W) :
    Calls Try.prog 3 args W fun e W' => ∃ v, e = .returned v ∧ Rows.setExactSpec.post enc Try.prog Try.f3 false true false false W args v W' := by
  have hW' := hW
  obtain ⟨p, q, hA0, hV, rfl, hfz, hnd⟩ := hW
  have hA : DataW.TrodAll enc Try.prog W 0 (fun _ => true) true Try.f3.params.toList args.toList ds p := hA0
  rw [Try.params3] at hA hval
  obtain ⟨v0, vs0, d0, ds0, p0, q0, hargs, rfl, rfl, h0, r0⟩ := trodAll_cons hA
  obtain ⟨rfl, rfl, rfl⟩ := trodAll_nil r0
  obtain rfl : args = #[v0] := by cases args; simp_all
  obtain ⟨rfl, rfl⟩ := trodVars_none hV
  clear hA0
  obtain ⟨l, l_reads, l_len⟩ := open_nums (hval 0 22 v0 rfl rfl) h0
  refine (setExact.law W v0 l l_reads l_len ).mono fun e W' ⟨he, hb⟩ => ?_
  subst he
  exact ⟨_, rfl, law_end laidOut (fun t ht => by rw [Try.params3] at ht; simp at ht; subst ht; exact ⟨by kernel_rfl, of_decide_eq_true (by kernel_rfl)⟩) rfl rfl Try.underlying4 hW' (by rfl) hb⟩

noncomputable def laidWorld (os : Os) : World :=
  { World.holding Try.prog os ⟨#[], #[], []⟩ with heap := (World.holding Try.prog os ⟨#[], #[], []⟩).heap }
theorem laid_met (os : Os) : laidMet Try.prog Rows.setExactRow.laid ((laidWorld os).forCall (fun _ _ => 0) ⟨#[], #[.slice none 0 0], []⟩).memory :=
  laidMet_of_run' 8 (by kernel_rfl) (by kernel_rfl)
theorem reads (os : Os) {H : Type} (enc : TypeId × Value → H) : ∃ places, DataW.whole enc Try.prog ((laidWorld os).forCall (fun _ _ => 0) ⟨#[], #[.slice none 0 0], []⟩).memory Try.f3.params.toList Rows.setExactSpec.vars false (#[.slice none 0 0] : Array Value).toList 8 = some ([.nil], [], places) :=
  ⟨[], by kernel_rfl⟩

set_option maxRecDepth 100000 in
theorem lifted (os : Os) (started : os.Started) (H : Type) (enc : TypeId × Value → H) (F : Stop.Interp) :
    ReturnsInHanded {} Try.checked os 3 .any ((OpenSpec.ofChange Rows.setExactSpec).preRow enc Try.prog Try.f3 Rows.setExactRow.domain false Rows.setExactRow.laid) (((OpenSpec.ofChange Rows.setExactSpec).at F).post enc Try.prog Try.f3 false true false false) := by
  obtain ⟨places, hx⟩ := reads os enc
  refine returnsInHanded_of_row (C := Try.checked) (s := OpenSpec.ofChange Rows.setExactSpec) own started (by kernel_rfl) Try.func3
    (witness_row_at (enc := enc) (C := Try.checked) false (laidWorld os) #[.slice none 0 0] rfl (by kernel_rfl) (by kernel_rfl) (by kernel_rfl)
      (OpenSpec.preRow_of_cond 8 hx (by kernel_rfl) (fun k hk => by cases hk) (by kernel_rfl) (laid_met os))) ?_
  intro W base args ds gs before hval hW _ _ _ hL _ _
  exact contract H enc W base args ds gs before hval hW hL

theorem said : Rows.SetExactSaid :=
  OpenClaim.holds_of_cond 3 Try.f3 rfl rfl rfl rfl rfl rfl rfl ⟨rfl, rfl, rfl, rfl, rfl⟩ rfl rfl rfl rfl rfl (by kernel_rfl) Try.func3 (by kernel_rfl)
    (of_decide_eq_true (by kernel_rfl)) (by unfold Func.isWrapper; first | (rw [if_pos (by decide +kernel)]; kernel_rfl) | (rw [if_neg (by decide +kernel)]; exact ⟨rfl, rfl⟩))
    (fun os started H enc _ F => by rw [OpenClaim.pre_eq_preRow]; exact lifted os started H enc F)

#print axioms said
end Go.Proofs.Ytgeccfdofmnphaa.setExact
end
