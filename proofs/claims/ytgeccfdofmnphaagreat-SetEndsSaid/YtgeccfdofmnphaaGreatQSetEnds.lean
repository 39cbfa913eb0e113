/-
  SetEnds: for every input the call returns true, and each argument reads afterwards as it read before. Conditions: none but the row's own.
-/
import Derived.Test.YtgeccfdofmnphaaGreatRows
import Derived.Test.YtgeccfdofmnphaaGreatMA6

section
/-
  SetEnds: for any list of numbers the law returns true, and nothing that was there is changed. No condition.
-/
namespace Go.Proofs.YtgeccfdofmnphaaGreat
open Go.RowKit
set_option maxRecDepth 100000
set_option linter.unusedVariables false
set_option linter.unusedSimpArgs false
set_option maxHeartbeats 2000000

set_option maxHeartbeats 8000000 in
theorem setEnds.law (W : World) (x : Value) (xl : List Int) (hxl : ReadsI W W.heap.size x xl) (lxl : xl.length ≤ maxLen) :
    Calls Tryz.prog 9 #[x] W fun e w' => e = .returned (.bool true) ∧ Below W.heap.size W w' := by
  obtain ⟨a, ea⟩ : ∃ q, q = setG xl 0 := ⟨_, rfl⟩
  have fa : SF a 22 := ea ▸ setG_sf xl 0
  obtain ⟨u, eu⟩ : ∃ q, q = genV xl 98 := ⟨_, rfl⟩
  have mu : u.may = true := eu ▸ gen_may xl 98
  have su : u.short := eu ▸ ⟨Nat.le_trans (gen_pre xl 98) (by decide), Nat.le_trans (gen_bld xl 98) (by decide)⟩
  refine calls_ok (n := 58) Tryz.func9 rfl (by kernel_rfl) (by kernel_rfl) ?_
  refine ok_seq ?_
  refine ok_region ?_
  refine s_val (.bool false) (by kernel_rfl) (fun _ => by kernel_rfl) ?_
  refine s_nil ?_
  refine fin_seq ?_
  refine ok_seq ?_
  refine ok_region ?_
  refine s_val (x) (by kernel_rfl) (fun _ => by kernel_rfl) ?_
  refine s_callo (k := 34) (args := #[x, .int .i64 0]) (fun v' L' => ∃ ob', L' = ob' ++ ([]) ∧ SetO v' (a) ob') (by kernel_rfl) (fun _ => by kernel_rfl) (fun w hO => (setGen_any x xl 0 w ((hxl.below hO.below).more hO.below.size) (by unfold maxLen at lxl; omega) (by omega)).mono fun e w' ⟨v', ob', k1, k2, k3⟩ => ⟨v', _, k1, ⟨ob', rfl, by rw [← ea] at k2; exact k2⟩, Own.joinN hO k3⟩) (fun v1 L1 hv1 => ?_)
  obtain ⟨o1, rfl, hr1⟩ := hv1
  obtain ⟨V1, U1, c1, d1, rfl⟩ := hr1.form
  refine s_cast (L' := o1) (List.append_nil _) ?_
  refine s_val (x) (by kernel_rfl) (fun _ => by kernel_rfl) ?_
  refine s_call (k := 35) (args := #[x, .int .i64 98]) (verV u) (by kernel_rfl) (fun _ => by kernel_rfl) (fun w hO => ret_v (by rw [eu]) (gen_any x xl 98 w ((hxl.below hO.below).more hO.below.size) (by unfold maxLen at lxl; omega) (by omega))) ?_
  refine s_alloc_at (.agg #[.slice none 0 0, .slice none 0 0]) (by kernel_rfl) rfl (by kernel_rfl) (fun b1 => ?_)
  refine s_alloc_at (.agg #[.int .i64 0, .int .i64 0, .int .i64 0, .string ⟨#[]⟩, .string ⟨#[]⟩]) (by kernel_rfl) rfl (by kernel_rfl) (fun b2 => ?_)
  refine s_store_at 1 ⟨b1, #[.slice none 0 0, .slice none 0 0], 24⟩ (off := 0) (.agg #[.slice V1 ((a).rel.length) c1, .slice U1 ((a).pre.length) d1]) (by kernel_rfl) rfl rfl (by kernel_rfl) (by kernel_rfl) (by kernel_rfl) (by kernel_rfl) (by kernel_rfl) ?_
  refine s_store_at 0 ⟨b2, #[.int .i64 0, .int .i64 0, .int .i64 0, .string ⟨#[]⟩, .string ⟨#[]⟩], 26⟩ (off := 0) (verV u) (by kernel_rfl) rfl rfl (by kernel_rfl) (by kernel_rfl) (by kernel_rfl) (by kernel_rfl) (by kernel_rfl) ?_
  refine s_nil ?_
  refine fin_seq ?_
  refine ok_seq ?_
  refine ok_anyh (by kernel_rfl) ?_
  refine h_load 0 [] _ 1 ⟨b1, #[.slice V1 ((a).rel.length) c1, .slice U1 ((a).pre.length) d1], 24⟩ (off := 0) (.agg #[.slice V1 ((a).rel.length) c1, .slice U1 ((a).pre.length) d1]) rfl (by kernel_rfl) (by kernel_rfl) (by kernel_rfl) (pq_seq pq_body) (by kernel_rfl) rfl (by kernel_rfl) (by kernel_rfl) (by kernel_rfl) ?_
  refine h_load 3 [] _ 1 ⟨b1, #[.slice V1 ((a).rel.length) c1, .slice U1 ((a).pre.length) d1], 24⟩ (off := 0) (.agg #[.slice V1 ((a).rel.length) c1, .slice U1 ((a).pre.length) d1]) rfl (by kernel_rfl) (by kernel_rfl) (by kernel_rfl) (pq_seq pq_body) (by kernel_rfl) rfl (by kernel_rfl) (by kernel_rfl) (by kernel_rfl) ?_
  refine h_one 1 (by kernel_rfl) ?_
  refine hl_callx _ (k := 36) (args := #[]) (fun v' L' => ∃ ob', L' = ob' ++ ([] ++ (⟨b2, (verV u).cells, 26⟩ :: (⟨b1, #[.slice V1 ((a).rel.length) c1, .slice U1 ((a).pre.length) d1], 24⟩ :: (o1)))) ∧ SetO v' (allT) ob') rfl (by kernel_rfl) (fun _ => by kernel_rfl) (fun w hO => (sAll_any w).mono fun e w' ⟨v', ob', k1, k2, k3⟩ => ⟨v', _, k1, ⟨ob', rfl, k2⟩, Own.joinN hO k3⟩) (fun v' L' ⟨ob', e, _⟩ w hO => by subst e; exact Own.sub [] (Own.sub ob' hO)) (fun v2 L2 hv2 => ?_)
  obtain ⟨o2, rfl, hr2⟩ := hv2
  obtain ⟨V2, U2, c2, d2, rfl⟩ := hr2.form
  refine h_cast (L' := (o2 ++ ([] : List Blk)) ++ (⟨b2, (verV u).cells, 26⟩ :: (⟨b1, #[.slice V1 ((a).rel.length) c1, .slice U1 ((a).pre.length) d1], 24⟩ :: (o1)))) (List.append_assoc _ _ _).symm ?_
  refine h_one 2 (by kernel_rfl) ?_
  refine hl_callx _ (k := 23) (args := #[.agg #[.slice V1 ((a).rel.length) c1, .slice U1 ((a).pre.length) d1], .agg #[.slice V2 ((allT).rel.length) c2, .slice U2 ((allT).pre.length) d2]]) (fun v' L' => ∃ ob', L' = ob' ++ ((o2 ++ ([] : List Blk)) ++ (⟨b2, (verV u).cells, 26⟩ :: (⟨b1, #[.slice V1 ((a).rel.length) c1, .slice U1 ((a).pre.length) d1], 24⟩ :: (o1)))) ∧ SetO v' (andT a allT) ob') rfl (by kernel_rfl) (fun _ => by kernel_rfl) (fun w hO => (sAnd_any V1 U1 V2 U2 c1 d1 c2 d2 a allT w (SetO.inn hr1 hO (fun x hx => by simp [hx]) (fa) (by decide)) (SetO.inn hr2 hO (fun x hx => by simp [hx]) (all_sf) (by decide)) hr1.caps hr2.caps).mono fun e w' ⟨v', ob', k1, k2, k3⟩ => ⟨v', _, k1, ⟨ob', rfl, by rw [if_pos (by rw [(fa).may, (all_sf).may]; rfl)] at k2; exact k2⟩, Own.joinN hO k3⟩) (fun v' L' ⟨ob', e, _⟩ w hO => by subst e; exact Own.sub (o2 ++ ([] : List Blk)) (Own.sub ob' hO)) (fun v3 L2 hv2 => ?_)
  obtain ⟨o3, rfl, hr3⟩ := hv2
  obtain ⟨V3, U3, c3, d3, rfl⟩ := hr3.form
  refine h_cast (L' := (o3 ++ (o2 ++ ([] : List Blk))) ++ (⟨b2, (verV u).cells, 26⟩ :: (⟨b1, #[.slice V1 ((a).rel.length) c1, .slice U1 ((a).pre.length) d1], 24⟩ :: (o1)))) (List.append_assoc _ _ _).symm ?_
  refine h_one 4 (by kernel_rfl) ?_
  refine hs_call (o3 ++ (o2 ++ ([] : List Blk))) _ (k := 33) (args := #[.agg #[.slice V3 ((andT a allT).rel.length) c3, .slice U3 ((andT a allT).pre.length) d3], .agg #[.slice V1 ((a).rel.length) c1, .slice U1 ((a).pre.length) d1]]) (.bool true) rfl (by kernel_rfl) (fun _ => by kernel_rfl) (fun w hO => ret_b ((same_b _ _).trans (decide_eq_true (St.eq (and_whole fa.rel.may) (and_whole fa.pre.may)))) (sSame_any V3 U3 V1 U1 c3 d3 c1 d1 (andT a allT) a w (SetO.inn hr3 hO (fun x hx => by simp [hx]) ((fa).and (all_sf)) (by decide)) (SetO.inn hr1 hO (fun x hx => by simp [hx]) (fa) (by decide)) hr3.caps hr1.caps)) ?_
  refine h_take 5 (o3 ++ (o2 ++ ([] : List Blk))) _ (.bool true) rfl (by kernel_rfl) (by kernel_rfl) (by kernel_rfl) (pq_seq pq_body) (by kernel_rfl) (fun _ _ => by kernel_rfl) ?_
  refine h_load 6 (o3 ++ (o2 ++ ([] : List Blk))) _ 1 ⟨b1, #[.slice V1 ((a).rel.length) c1, .slice U1 ((a).pre.length) d1], 24⟩ (off := 0) (.agg #[.slice V1 ((a).rel.length) c1, .slice U1 ((a).pre.length) d1]) rfl (by kernel_rfl) (by kernel_rfl) (by kernel_rfl) (pq_seq pq_body) (by kernel_rfl) rfl (by kernel_rfl) (by kernel_rfl) (by kernel_rfl) ?_
  refine h_load 9 (o3 ++ (o2 ++ ([] : List Blk))) _ 1 ⟨b1, #[.slice V1 ((a).rel.length) c1, .slice U1 ((a).pre.length) d1], 24⟩ (off := 0) (.agg #[.slice V1 ((a).rel.length) c1, .slice U1 ((a).pre.length) d1]) rfl (by kernel_rfl) (by kernel_rfl) (by kernel_rfl) (pq_seq pq_body) (by kernel_rfl) rfl (by kernel_rfl) (by kernel_rfl) (by kernel_rfl) ?_
  refine h_one 7 (by kernel_rfl) ?_
  refine hs_call (o3 ++ (o2 ++ ([] : List Blk))) _ (k := 37) (args := #[]) (.agg #[.slice none 0 0, .slice none 0 0]) rfl (by kernel_rfl) (fun _ => by kernel_rfl) (fun w _ => sNone_any w) ?_
  refine h_one 8 (by kernel_rfl) ?_
  refine hl_callx _ (k := 21) (args := #[.agg #[.slice V1 ((a).rel.length) c1, .slice U1 ((a).pre.length) d1], .agg #[.slice none 0 0, .slice none 0 0]]) (fun v' L' => ∃ ob', L' = ob' ++ ((o3 ++ (o2 ++ ([] : List Blk))) ++ (⟨b2, (verV u).cells, 26⟩ :: (⟨b1, #[.slice V1 ((a).rel.length) c1, .slice U1 ((a).pre.length) d1], 24⟩ :: (o1)))) ∧ SetO v' (orT a noneT) ob') rfl (by kernel_rfl) (fun _ => by kernel_rfl) (fun w hO => (sOr_any V1 U1 none none c1 d1 0 0 a noneT w (SetO.inn hr1 hO (fun x hx => by simp [hx]) (fa) (by decide)) (none_in _ _) hr1.caps ⟨Nat.le_refl 0, Nat.le_refl 0⟩).mono fun e w' ⟨v', ob', k1, k2, k3⟩ => ⟨v', _, k1, ⟨ob', rfl, by rw [if_pos (by rw [(fa).may, (none_sf).may]; rfl)] at k2; exact k2⟩, Own.joinN hO k3⟩) (fun v' L' ⟨ob', e, _⟩ w hO => by subst e; exact Own.sub (o3 ++ (o2 ++ ([] : List Blk))) (Own.sub ob' hO)) (fun v4 L2 hv2 => ?_)
  obtain ⟨o4, rfl, hr4⟩ := hv2
  obtain ⟨V4, U4, c4, d4, rfl⟩ := hr4.form
  refine h_cast (L' := (o4 ++ (o3 ++ (o2 ++ ([] : List Blk)))) ++ (⟨b2, (verV u).cells, 26⟩ :: (⟨b1, #[.slice V1 ((a).rel.length) c1, .slice U1 ((a).pre.length) d1], 24⟩ :: (o1)))) (List.append_assoc _ _ _).symm ?_
  refine h_one 10 (by kernel_rfl) ?_
  refine hs_call (o4 ++ (o3 ++ (o2 ++ ([] : List Blk)))) _ (k := 33) (args := #[.agg #[.slice V4 ((orT a noneT).rel.length) c4, .slice U4 ((orT a noneT).pre.length) d4], .agg #[.slice V1 ((a).rel.length) c1, .slice U1 ((a).pre.length) d1]]) (.bool true) rfl (by kernel_rfl) (fun _ => by kernel_rfl) (fun w hO => ret_b ((same_b _ _).trans (decide_eq_true (St.eq (or_nil fa.rel.may) (or_nil fa.pre.may)))) (sSame_any V4 U4 V1 U1 c4 d4 c1 d1 (orT a noneT) a w (SetO.inn hr4 hO (fun x hx => by simp [hx]) ((fa).or (none_sf)) (by decide)) (SetO.inn hr1 hO (fun x hx => by simp [hx]) (fa) (by decide)) hr4.caps hr1.caps)) ?_
  refine h_take 11 (o4 ++ (o3 ++ (o2 ++ ([] : List Blk)))) _ (.bool true) rfl (by kernel_rfl) (by kernel_rfl) (by kernel_rfl) (pq_seq pq_body) (by kernel_rfl) (fun _ _ => by kernel_rfl) ?_
  refine h_take 12 (o4 ++ (o3 ++ (o2 ++ ([] : List Blk)))) _ (.bool true) rfl (by kernel_rfl) (by kernel_rfl) (by kernel_rfl) (pq_seq pq_body) (by kernel_rfl) (fun _ _ => by kernel_rfl) ?_
  refine h_one 13 (by kernel_rfl) ?_
  refine hl_callx _ (k := 36) (args := #[]) (fun v' L' => ∃ ob', L' = ob' ++ ((o4 ++ (o3 ++ (o2 ++ ([] : List Blk)))) ++ (⟨b2, (verV u).cells, 26⟩ :: (⟨b1, #[.slice V1 ((a).rel.length) c1, .slice U1 ((a).pre.length) d1], 24⟩ :: (o1)))) ∧ SetO v' (allT) ob') rfl (by kernel_rfl) (fun _ => by kernel_rfl) (fun w hO => (sAll_any w).mono fun e w' ⟨v', ob', k1, k2, k3⟩ => ⟨v', _, k1, ⟨ob', rfl, k2⟩, Own.joinN hO k3⟩) (fun v' L' ⟨ob', e, _⟩ w hO => by subst e; exact Own.sub (o4 ++ (o3 ++ (o2 ++ ([] : List Blk)))) (Own.sub ob' hO)) (fun v5 L2 hv2 => ?_)
  obtain ⟨o5, rfl, hr5⟩ := hv2
  obtain ⟨V5, U5, c5, d5, rfl⟩ := hr5.form
  refine h_cast (L' := (o5 ++ (o4 ++ (o3 ++ (o2 ++ ([] : List Blk))))) ++ (⟨b2, (verV u).cells, 26⟩ :: (⟨b1, #[.slice V1 ((a).rel.length) c1, .slice U1 ((a).pre.length) d1], 24⟩ :: (o1)))) (List.append_assoc _ _ _).symm ?_
  refine h_one 14 (by kernel_rfl) ?_
  refine hl_callx _ (k := 25) (args := #[.agg #[.slice V5 ((allT).rel.length) c5, .slice U5 ((allT).pre.length) d5]]) (fun v' L' => ∃ ob', L' = ob' ++ ((o5 ++ (o4 ++ (o3 ++ (o2 ++ ([] : List Blk))))) ++ (⟨b2, (verV u).cells, 26⟩ :: (⟨b1, #[.slice V1 ((a).rel.length) c1, .slice U1 ((a).pre.length) d1], 24⟩ :: (o1)))) ∧ SetO v' (notT allT) ob') rfl (by kernel_rfl) (fun _ => by kernel_rfl) (fun w hO => (sNot_any V5 U5 c5 d5 allT w (SetO.inn hr5 hO (fun x hx => by simp [hx]) (all_sf) (by decide)) hr5.caps).mono fun e w' ⟨v', ob', k1, k2, k3⟩ => ⟨v', _, k1, ⟨ob', rfl, by rw [if_pos (all_sf).may] at k2; exact k2⟩, Own.joinN hO k3⟩) (fun v' L' ⟨ob', e, _⟩ w hO => by subst e; exact Own.sub (o5 ++ (o4 ++ (o3 ++ (o2 ++ ([] : List Blk))))) (Own.sub ob' hO)) (fun v6 L2 hv2 => ?_)
  obtain ⟨o6, rfl, hr6⟩ := hv2
  obtain ⟨V6, U6, c6, d6, rfl⟩ := hr6.form
  refine h_cast (L' := (o6 ++ (o5 ++ (o4 ++ (o3 ++ (o2 ++ ([] : List Blk)))))) ++ (⟨b2, (verV u).cells, 26⟩ :: (⟨b1, #[.slice V1 ((a).rel.length) c1, .slice U1 ((a).pre.length) d1], 24⟩ :: (o1)))) (List.append_assoc _ _ _).symm ?_
  refine h_one 15 (by kernel_rfl) ?_
  refine hs_call (o6 ++ (o5 ++ (o4 ++ (o3 ++ (o2 ++ ([] : List Blk)))))) _ (k := 37) (args := #[]) (.agg #[.slice none 0 0, .slice none 0 0]) rfl (by kernel_rfl) (fun _ => by kernel_rfl) (fun w _ => sNone_any w) ?_
  refine h_one 16 (by kernel_rfl) ?_
  refine hs_call (o6 ++ (o5 ++ (o4 ++ (o3 ++ (o2 ++ ([] : List Blk)))))) _ (k := 33) (args := #[.agg #[.slice V6 ((notT allT).rel.length) c6, .slice U6 ((notT allT).pre.length) d6], .agg #[.slice none 0 0, .slice none 0 0]]) (.bool true) rfl (by kernel_rfl) (fun _ => by kernel_rfl) (fun w hO => ret_b ((same_b _ _).trans (decide_eq_true (St.eq not_whole not_whole))) (sSame_any V6 U6 none none c6 d6 0 0 (notT allT) noneT w (SetO.inn hr6 hO (fun x hx => by simp [hx]) ((all_sf).not) (by decide)) (none_in _ _) hr6.caps ⟨Nat.le_refl 0, Nat.le_refl 0⟩)) ?_
  refine h_take 17 (o6 ++ (o5 ++ (o4 ++ (o3 ++ (o2 ++ ([] : List Blk)))))) _ (.bool true) rfl (by kernel_rfl) (by kernel_rfl) (by kernel_rfl) (pq_seq pq_body) (by kernel_rfl) (fun _ _ => by kernel_rfl) ?_
  refine h_take 18 (o6 ++ (o5 ++ (o4 ++ (o3 ++ (o2 ++ ([] : List Blk)))))) _ (.bool true) rfl (by kernel_rfl) (by kernel_rfl) (by kernel_rfl) (pq_seq pq_body) (by kernel_rfl) (fun _ _ => by kernel_rfl) ?_
  refine h_drop (o6 ++ (o5 ++ (o4 ++ (o3 ++ (o2 ++ ([] : List Blk)))))) ?_
  refine h_done (by kernel_rfl) ?_
  refine fin_seq ?_
  refine ok_seq ?_
  refine ok_anyh (by kernel_rfl) ?_
  refine h_one 0 (by kernel_rfl) ?_
  refine hs_call [] _ (k := 11) (args := #[]) (.bool true) rfl (by kernel_rfl) (fun _ => by kernel_rfl) (fun w _ => awake5_any w) ?_
  refine h_take 1 [] _ (.bool true) rfl (by kernel_rfl) (by kernel_rfl) (by kernel_rfl) (pq_seq pq_body) (by kernel_rfl) (fun _ _ => by kernel_rfl) ?_
  refine h_load 3 [] _ 0 ⟨b2, (verV u).cells, 26⟩ (off := 0) (verV u) rfl (by kernel_rfl) (by kernel_rfl) (by kernel_rfl) (pq_seq pq_body) (by kernel_rfl) rfl (by kernel_rfl) (by kernel_rfl) (by kernel_rfl) ?_
  refine h_one 2 (by kernel_rfl) ?_
  refine hs_call [] _ (k := 37) (args := #[]) (.agg #[.slice none 0 0, .slice none 0 0]) rfl (by kernel_rfl) (fun _ => by kernel_rfl) (fun w _ => sNone_any w) ?_
  refine h_one 4 (by kernel_rfl) ?_
  refine hs_call [] _ (k := 16) (args := #[.agg #[.slice none 0 0, .slice none 0 0], verV u]) (.bool false) rfl (by kernel_rfl) (fun _ => by kernel_rfl) (fun w hO => ret_b (setHas_none) (sHas_any none none 0 0 noneT u w (none_in _ _) su ⟨Nat.le_refl 0, Nat.le_refl 0⟩)) ?_
  refine h_take 5 [] _ (.bool true) rfl (by kernel_rfl) (by kernel_rfl) (by kernel_rfl) (pq_seq pq_body) (by kernel_rfl) (fun _ _ => by kernel_rfl) ?_
  refine h_take 6 [] _ (.bool true) rfl (by kernel_rfl) (by kernel_rfl) (by kernel_rfl) (pq_seq pq_body) (by kernel_rfl) (fun _ _ => by kernel_rfl) ?_
  refine h_take 7 [] _ (.bool true) rfl (by kernel_rfl) (by kernel_rfl) (by kernel_rfl) (pq_seq pq_body) (by kernel_rfl) (fun _ _ => by kernel_rfl) ?_
  refine h_take 8 [] _ (.bool true) rfl (by kernel_rfl) (by kernel_rfl) (by kernel_rfl) (pq_seq pq_body) (by kernel_rfl) (fun _ _ => by kernel_rfl) ?_
  refine h_take 9 [] _ (.bool true) rfl (by kernel_rfl) (by kernel_rfl) (by kernel_rfl) (pq_seq pq_body) (by kernel_rfl) (fun _ _ => by kernel_rfl) ?_
  refine h_take 10 [] _ (.bool true) rfl (by kernel_rfl) (by kernel_rfl) (by kernel_rfl) (pq_seq pq_body) (by kernel_rfl) (fun _ _ => by kernel_rfl) ?_
  refine h_load 12 [] _ 0 ⟨b2, (verV u).cells, 26⟩ (off := 0) (verV u) rfl (by kernel_rfl) (by kernel_rfl) (by kernel_rfl) (pq_seq pq_body) (by kernel_rfl) rfl (by kernel_rfl) (by kernel_rfl) (by kernel_rfl) ?_
  refine h_one 11 (by kernel_rfl) ?_
  refine hl_callx _ (k := 36) (args := #[]) (fun v' L' => ∃ ob', L' = ob' ++ ([] ++ (⟨b2, (verV u).cells, 26⟩ :: (⟨b1, #[.slice V1 ((a).rel.length) c1, .slice U1 ((a).pre.length) d1], 24⟩ :: (o1)))) ∧ SetO v' (allT) ob') rfl (by kernel_rfl) (fun _ => by kernel_rfl) (fun w hO => (sAll_any w).mono fun e w' ⟨v', ob', k1, k2, k3⟩ => ⟨v', _, k1, ⟨ob', rfl, k2⟩, Own.joinN hO k3⟩) (fun v' L' ⟨ob', e, _⟩ w hO => by subst e; exact Own.sub [] (Own.sub ob' hO)) (fun v7 L2 hv2 => ?_)
  obtain ⟨o7, rfl, hr7⟩ := hv2
  obtain ⟨V7, U7, c7, d7, rfl⟩ := hr7.form
  refine h_cast (L' := (o7 ++ ([] : List Blk)) ++ (⟨b2, (verV u).cells, 26⟩ :: (⟨b1, #[.slice V1 ((a).rel.length) c1, .slice U1 ((a).pre.length) d1], 24⟩ :: (o1)))) (List.append_assoc _ _ _).symm ?_
  refine h_one 13 (by kernel_rfl) ?_
  refine hs_call (o7 ++ ([] : List Blk)) _ (k := 16) (args := #[.agg #[.slice V7 ((allT).rel.length) c7, .slice U7 ((allT).pre.length) d7], verV u]) (.bool true) rfl (by kernel_rfl) (fun _ => by kernel_rfl) (fun w hO => ret_b (setHas_all mu) (sHas_any V7 U7 c7 d7 allT u w (SetO.inn hr7 hO (fun x hx => by simp [hx]) (all_sf) (by decide)) su hr7.caps)) ?_
  refine h_take 14 (o7 ++ ([] : List Blk)) _ (.bool true) rfl (by kernel_rfl) (by kernel_rfl) (by kernel_rfl) (pq_seq pq_body) (by kernel_rfl) (fun _ _ => by kernel_rfl) ?_
  refine h_take 15 (o7 ++ ([] : List Blk)) _ (.bool true) rfl (by kernel_rfl) (by kernel_rfl) (by kernel_rfl) (pq_seq pq_body) (by kernel_rfl) (fun _ _ => by kernel_rfl) ?_
  refine h_load 17 (o7 ++ ([] : List Blk)) _ 1 ⟨b1, #[.slice V1 ((a).rel.length) c1, .slice U1 ((a).pre.length) d1], 24⟩ (off := 0) (.agg #[.slice V1 ((a).rel.length) c1, .slice U1 ((a).pre.length) d1]) rfl (by kernel_rfl) (by kernel_rfl) (by kernel_rfl) (pq_seq pq_body) (by kernel_rfl) rfl (by kernel_rfl) (by kernel_rfl) (by kernel_rfl) ?_
  refine h_one 16 (by kernel_rfl) ?_
  refine hs_call (o7 ++ ([] : List Blk)) _ (k := 37) (args := #[]) (.agg #[.slice none 0 0, .slice none 0 0]) rfl (by kernel_rfl) (fun _ => by kernel_rfl) (fun w _ => sNone_any w) ?_
  refine h_one 18 (by kernel_rfl) ?_
  refine hs_call (o7 ++ ([] : List Blk)) _ (k := 29) (args := #[.agg #[.slice none 0 0, .slice none 0 0], .agg #[.slice V1 ((a).rel.length) c1, .slice U1 ((a).pre.length) d1]]) (.bool true) rfl (by kernel_rfl) (fun _ => by kernel_rfl) (fun w hO => ret_b ((within_b none_sf fa).trans (decide_eq_true (St.eq (nil_and fa.rel.may) (nil_and fa.pre.may)))) (sWithin_any none none V1 U1 0 0 c1 d1 noneT a w (none_in _ _) (SetO.inn hr1 hO (fun x hx => by simp [hx]) (fa) (by decide)) ⟨Nat.le_refl 0, Nat.le_refl 0⟩ hr1.caps)) ?_
  refine h_take 19 (o7 ++ ([] : List Blk)) _ (.bool true) rfl (by kernel_rfl) (by kernel_rfl) (by kernel_rfl) (pq_seq pq_body) (by kernel_rfl) (fun _ _ => by kernel_rfl) ?_
  refine h_take 20 (o7 ++ ([] : List Blk)) _ (.bool true) rfl (by kernel_rfl) (by kernel_rfl) (by kernel_rfl) (pq_seq pq_body) (by kernel_rfl) (fun _ _ => by kernel_rfl) ?_
  refine h_load 21 (o7 ++ ([] : List Blk)) _ 1 ⟨b1, #[.slice V1 ((a).rel.length) c1, .slice U1 ((a).pre.length) d1], 24⟩ (off := 0) (.agg #[.slice V1 ((a).rel.length) c1, .slice U1 ((a).pre.length) d1]) rfl (by kernel_rfl) (by kernel_rfl) (by kernel_rfl) (pq_seq pq_body) (by kernel_rfl) rfl (by kernel_rfl) (by kernel_rfl) (by kernel_rfl) ?_
  refine h_one 22 (by kernel_rfl) ?_
  refine hl_callx _ (k := 36) (args := #[]) (fun v' L' => ∃ ob', L' = ob' ++ ((o7 ++ ([] : List Blk)) ++ (⟨b2, (verV u).cells, 26⟩ :: (⟨b1, #[.slice V1 ((a).rel.length) c1, .slice U1 ((a).pre.length) d1], 24⟩ :: (o1)))) ∧ SetO v' (allT) ob') rfl (by kernel_rfl) (fun _ => by kernel_rfl) (fun w hO => (sAll_any w).mono fun e w' ⟨v', ob', k1, k2, k3⟩ => ⟨v', _, k1, ⟨ob', rfl, k2⟩, Own.joinN hO k3⟩) (fun v' L' ⟨ob', e, _⟩ w hO => by subst e; exact Own.sub (o7 ++ ([] : List Blk)) (Own.sub ob' hO)) (fun v8 L2 hv2 => ?_)
  obtain ⟨o8, rfl, hr8⟩ := hv2
  obtain ⟨V8, U8, c8, d8, rfl⟩ := hr8.form
  refine h_cast (L' := (o8 ++ (o7 ++ ([] : List Blk))) ++ (⟨b2, (verV u).cells, 26⟩ :: (⟨b1, #[.slice V1 ((a).rel.length) c1, .slice U1 ((a).pre.length) d1], 24⟩ :: (o1)))) (List.append_assoc _ _ _).symm ?_
  refine h_one 23 (by kernel_rfl) ?_
  refine hs_call (o8 ++ (o7 ++ ([] : List Blk))) _ (k := 29) (args := #[.agg #[.slice V1 ((a).rel.length) c1, .slice U1 ((a).pre.length) d1], .agg #[.slice V8 ((allT).rel.length) c8, .slice U8 ((allT).pre.length) d8]]) (.bool true) rfl (by kernel_rfl) (fun _ => by kernel_rfl) (fun w hO => ret_b ((within_b fa all_sf).trans (decide_eq_true (St.eq (and_whole fa.rel.may) (and_whole fa.pre.may)))) (sWithin_any V1 U1 V8 U8 c1 d1 c8 d8 a allT w (SetO.inn hr1 hO (fun x hx => by simp [hx]) (fa) (by decide)) (SetO.inn hr8 hO (fun x hx => by simp [hx]) (all_sf) (by decide)) hr1.caps hr8.caps)) ?_
  refine h_take 24 (o8 ++ (o7 ++ ([] : List Blk))) _ (.bool true) rfl (by kernel_rfl) (by kernel_rfl) (by kernel_rfl) (pq_seq pq_body) (by kernel_rfl) (fun _ _ => by kernel_rfl) ?_
  refine h_take 25 (o8 ++ (o7 ++ ([] : List Blk))) _ (.bool true) rfl (by kernel_rfl) (by kernel_rfl) (by kernel_rfl) (pq_seq pq_body) (by kernel_rfl) (fun _ _ => by kernel_rfl) ?_
  refine h_load 26 (o8 ++ (o7 ++ ([] : List Blk))) _ 1 ⟨b1, #[.slice V1 ((a).rel.length) c1, .slice U1 ((a).pre.length) d1], 24⟩ (off := 0) (.agg #[.slice V1 ((a).rel.length) c1, .slice U1 ((a).pre.length) d1]) rfl (by kernel_rfl) (by kernel_rfl) (by kernel_rfl) (pq_seq pq_body) (by kernel_rfl) rfl (by kernel_rfl) (by kernel_rfl) (by kernel_rfl) ?_
  refine h_one 27 (by kernel_rfl) ?_
  refine hs_call (o8 ++ (o7 ++ ([] : List Blk))) _ (k := 37) (args := #[]) (.agg #[.slice none 0 0, .slice none 0 0]) rfl (by kernel_rfl) (fun _ => by kernel_rfl) (fun w _ => sNone_any w) ?_
  refine h_one 28 (by kernel_rfl) ?_
  refine hs_call (o8 ++ (o7 ++ ([] : List Blk))) _ (k := 31) (args := #[.agg #[.slice V1 ((a).rel.length) c1, .slice U1 ((a).pre.length) d1], .agg #[.slice none 0 0, .slice none 0 0]]) (.bool true) rfl (by kernel_rfl) (fun _ => by kernel_rfl) (fun w hO => ret_b ((apart_b fa none_sf).trans (decide_eq_true (St.eq (and_nil fa.rel.may) (and_nil fa.pre.may)))) (sApart_any V1 U1 none none c1 d1 0 0 a noneT w (SetO.inn hr1 hO (fun x hx => by simp [hx]) (fa) (by decide)) (none_in _ _) hr1.caps ⟨Nat.le_refl 0, Nat.le_refl 0⟩ (Nat.le_trans (fa).rel.len (by decide)) (Nat.le_trans (fa).pre.len (by decide)) (Nat.le_trans (none_sf).rel.len (by decide)) (Nat.le_trans (none_sf).pre.len (by decide)))) ?_
  refine h_take 29 (o8 ++ (o7 ++ ([] : List Blk))) _ (.bool true) rfl (by kernel_rfl) (by kernel_rfl) (by kernel_rfl) (pq_seq pq_body) (by kernel_rfl) (fun _ _ => by kernel_rfl) ?_
  refine h_take 30 (o8 ++ (o7 ++ ([] : List Blk))) _ (.bool true) rfl (by kernel_rfl) (by kernel_rfl) (by kernel_rfl) (pq_seq pq_body) (by kernel_rfl) (fun _ _ => by kernel_rfl) ?_
  refine h_drop (o8 ++ (o7 ++ ([] : List Blk))) ?_
  refine h_done (by kernel_rfl) ?_
  refine fin_seq ?_
  refine ok_ret ?_
  refine fin_ret (.bool true) Tryz.results9 (by kernel_rfl) ?_
  exact fun w hO => ⟨rfl, hO.below⟩
end Go.Proofs.YtgeccfdofmnphaaGreat
end

section
/-
  SetEnds: for every input the call returns true, and each argument reads afterwards as it read before. Conditions: none but the row's own.
-/
namespace Go.Proofs.YtgeccfdofmnphaaGreat.setEnds
open Go.ChangeShapes Go.WideShapes Go.ChangeAt Go.RowKit
open Go.ChangeMaps (open_string shut_string)
set_option linter.unusedVariables false

set_option maxRecDepth 100000 in
theorem contract (H : Type) (enc : TypeId × Value → H) (W : World) (base : Nat) (args : Array Value) (ds gs : List (DataW H)) (before : List MemPlace)
    (hval : ∀ (j : Nat) t v, Tryz.f9.params[j]? = some t → args[j]? = some v → Value.okWide Tryz.prog W .any base t v)
    (hW : DataW.Whole enc Tryz.prog Tryz.f9.params.toList Rows.setEndsSpec.vars false W args.toList ds gs before) (hL : laidMetH Tryz.prog Rows.setEndsRow.laid W) :
    Calls Tryz.prog 9 args W fun e W' => ∃ v, e = .returned v ∧ Rows.setEndsSpec.post enc Tryz.prog Tryz.f9 false true false false W args v W' := by
  have hW' := hW
  obtain ⟨p, q, hA0, hV, rfl, hfz, hnd⟩ := hW
  have hA : DataW.TrodAll enc Tryz.prog W 0 (fun _ => true) true Tryz.f9.params.toList args.toList ds p := hA0
  rw [Tryz.params9] at hA hval
  obtain ⟨v0, vs0, d0, ds0, p0, q0, hargs, rfl, rfl, h0, r0⟩ := trodAll_cons hA
  obtain ⟨rfl, rfl, rfl⟩ := trodAll_nil r0
  obtain rfl : args = #[v0] := by cases args; simp_all
  obtain ⟨rfl, rfl⟩ := trodVars_none hV
  clear hA0
  obtain ⟨l, l_reads, l_len⟩ := open_nums (hval 0 36 v0 rfl rfl) h0
  refine (setEnds.law W v0 l l_reads l_len ).mono fun e W' ⟨he, hb⟩ => ?_
  subst he
  exact ⟨_, rfl, law_end laidOut (fun t ht => by rw [Tryz.params9] at ht; simp at ht; subst ht; exact ⟨by kernel_rfl, of_decide_eq_true (by kernel_rfl)⟩) rfl rfl Tryz.underlying4 hW' (by rfl) hb⟩

noncomputable def laidWorld (os : Os) : World :=
  { World.holding Tryz.prog os ⟨#[], #[], []⟩ with heap := (World.holding Tryz.prog os ⟨#[], #[], []⟩).heap }
theorem laid_met (os : Os) : laidMet Tryz.prog Rows.setEndsRow.laid ((laidWorld os).forCall (fun _ _ => 0) ⟨#[], #[.slice none 0 0], []⟩).memory :=
  laidMet_of_run' 8 (by kernel_rfl) (by kernel_rfl)
theorem reads (os : Os) {H : Type} (enc : TypeId × Value → H) : ∃ places, DataW.whole enc Tryz.prog ((laidWorld os).forCall (fun _ _ => 0) ⟨#[], #[.slice none 0 0], []⟩).memory Tryz.f9.params.toList Rows.setEndsSpec.vars false (#[.slice none 0 0] : Array Value).toList 8 = some ([.nil], [], places) :=
  ⟨[], by kernel_rfl⟩

set_option maxRecDepth 100000 in
theorem lifted (os : Os) (started : os.Started) (H : Type) (enc : TypeId × Value → H) (F : Stop.Interp) :
    ReturnsInHanded {} Tryz.checked os 9 .any ((OpenSpec.ofChange Rows.setEndsSpec).preRow enc Tryz.prog Tryz.f9 Rows.setEndsRow.domain false Rows.setEndsRow.laid) (((OpenSpec.ofChange Rows.setEndsSpec).at F).post enc Tryz.prog Tryz.f9 false true false false) := by
  obtain ⟨places, hx⟩ := reads os enc
  refine returnsInHanded_of_row (C := Tryz.checked) (s := OpenSpec.ofChange Rows.setEndsSpec) own started (by kernel_rfl) Tryz.func9
    (witness_row_at (enc := enc) (C := Tryz.checked) false (laidWorld os) #[.slice none 0 0] rfl (by kernel_rfl) (by kernel_rfl) (by kernel_rfl)
      (OpenSpec.preRow_of_cond 8 hx (by kernel_rfl) (fun k hk => by cases hk) (by kernel_rfl) (laid_met os))) ?_
  intro W base args ds gs before hval hW _ _ _ hL _ _
  exact contract H enc W base args ds gs before hval hW hL

theorem said : Rows.SetEndsSaid :=
  OpenClaim.holds_of_cond 9 Tryz.f9 rfl rfl rfl rfl rfl rfl rfl ⟨rfl, rfl, rfl, rfl, rfl⟩ rfl rfl rfl rfl rfl (by kernel_rfl) Tryz.func9 (by kernel_rfl)
    (of_decide_eq_true (by kernel_rfl)) (by unfold Func.isWrapper; first | (rw [if_pos (by decide +kernel)]; kernel_rfl) | (rw [if_neg (by decide +kernel)]; exact ⟨rfl, rfl⟩))
    (fun os started H enc _ F => by rw [OpenClaim.pre_eq_preRow]; exact lifted os started H enc F)

#print axioms said
end Go.Proofs.YtgeccfdofmnphaaGreat.setEnds
end
