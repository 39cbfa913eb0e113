/-
  SetMeans: for every input the call returns true, and each argument reads afterwards as it read before. Conditions: none but the row's own.
-/
import Derived.Test.YtgeccfdofmnphaaGreatRows
import Derived.Test.YtgeccfdofmnphaaGreatMC6

section
/-
  SetMeans: for any lists of numbers the law returns true, and nothing that was there is changed. No condition.
-/
namespace Go.Proofs.YtgeccfdofmnphaaGreat
open Go.RowKit
set_option maxRecDepth 100000
set_option linter.unusedVariables false
set_option linter.unusedSimpArgs false
set_option maxHeartbeats 2000000

set_option maxHeartbeats 8000000 in
theorem setMeans.law (W : World) (x : Value) (xl : List Int) (hxl : ReadsI W W.heap.size x xl) (lxl : xl.length ≤ maxLen) (y : Value) (yl : List Int) (hyl : ReadsI W W.heap.size y yl) (lyl : yl.length ≤ maxLen) :
    Calls Tryz.prog 5 #[x, y] W fun e w' => e = .returned (.bool true) ∧ Below W.heap.size W w' := by
  obtain ⟨a, ea⟩ : ∃ q, q = setG xl 0 := ⟨_, rfl⟩
  have fa : SF a 22 := ea ▸ setG_sf xl 0
  obtain ⟨b, eb⟩ : ∃ q, q = setG yl 0 := ⟨_, rfl⟩
  have fb : SF b 22 := eb ▸ setG_sf yl 0
  obtain ⟨u, eu⟩ : ∃ q, q = genV xl 98 := ⟨_, rfl⟩
  have mu : u.may = true := eu ▸ gen_may xl 98
  have su : u.short := eu ▸ ⟨Nat.le_trans (gen_pre xl 98) (by decide), Nat.le_trans (gen_bld xl 98) (by decide)⟩
  refine calls_ok (n := 111) Tryz.func5 rfl (by kernel_rfl) (by kernel_rfl) ?_
  refine ok_seq ?_
  refine ok_region ?_
  refine s_val (.bool false) (by kernel_rfl) (fun _ => by kernel_rfl) ?_
  refine s_nil ?_
  refine fin_seq ?_
  refine ok_seq ?_
  refine ok_region ?_
  refine s_val (x) (by kernel_rfl) (fun _ => by kernel_rfl) ?_
  refine s_callo (k := 34) (args := #[x, .int .i64 0]) (fun v' L' => ∃ ob', L' = ob' ++ ([]) ∧ SetO v' (a) ob') (by kernel_rfl) (fun _ => by kernel_rfl) (fun w hO => (setGen_any x xl 0 w ((hxl.below hO.below).more hO.below.size) (by unfold maxLen at lxl; omega) (by omega)).mono fun e w' ⟨v', ob', k1, k2, k3⟩ => ⟨v', _, k1, ⟨ob', rfl, by rw [← ea] at k2; exact k2⟩, Own.joinN hO k3⟩) (fun v1 L1 hv1 => ?_)
  obtain ⟨o1, rfl, hr1⟩ := hv1
  obtain ⟨V1, U1, c1, d1, rfl⟩ := hr1.form
  refine s_cast (L' := o1) (List.append_nil _) ?_
  refine s_val (y) (by kernel_rfl) (fun _ => by kernel_rfl) ?_
  refine s_callo (k := 34) (args := #[y, .int .i64 0]) (fun v' L' => ∃ ob', L' = ob' ++ (o1) ∧ SetO v' (b) ob') (by kernel_rfl) (fun _ => by kernel_rfl) (fun w hO => (setGen_any y yl 0 w ((hyl.below hO.below).more hO.below.size) (by unfold maxLen at lyl; omega) (by omega)).mono fun e w' ⟨v', ob', k1, k2, k3⟩ => ⟨v', _, k1, ⟨ob', rfl, by rw [← eb] at k2; exact k2⟩, Own.joinN hO k3⟩) (fun v2 L2 hv2 => ?_)
  obtain ⟨o2, rfl, hr2⟩ := hv2
  obtain ⟨V2, U2, c2, d2, rfl⟩ := hr2.form
  refine s_val (x) (by kernel_rfl) (fun _ => by kernel_rfl) ?_
  refine s_call (k := 35) (args := #[x, .int .i64 98]) (verV u) (by kernel_rfl) (fun _ => by kernel_rfl) (fun w hO => ret_v (by rw [eu]) (gen_any x xl 98 w ((hxl.below hO.below).more hO.below.size) (by unfold maxLen at lxl; omega) (by omega))) ?_
  refine s_alloc_at (.agg #[.slice none 0 0, .slice none 0 0]) (by kernel_rfl) rfl (by kernel_rfl) (fun b1 => ?_)
  refine s_alloc_at (.agg #[.slice none 0 0, .slice none 0 0]) (by kernel_rfl) rfl (by kernel_rfl) (fun b2 => ?_)
  refine s_alloc_at (.agg #[.int .i64 0, .int .i64 0, .int .i64 0, .string ⟨#[]⟩, .string ⟨#[]⟩]) (by kernel_rfl) rfl (by kernel_rfl) (fun b3 => ?_)
  refine s_store_at 2 ⟨b1, #[.slice none 0 0, .slice none 0 0], 24⟩ (off := 0) (.agg #[.slice V1 ((a).rel.length) c1, .slice U1 ((a).pre.length) d1]) (by kernel_rfl) rfl rfl (by kernel_rfl) (by kernel_rfl) (by kernel_rfl) (by kernel_rfl) (by kernel_rfl) ?_
  refine s_store_at 1 ⟨b2, #[.slice none 0 0, .slice none 0 0], 24⟩ (off := 0) (.agg #[.slice V2 ((b).rel.length) c2, .slice U2 ((b).pre.length) d2]) (by kernel_rfl) rfl rfl (by kernel_rfl) (by kernel_rfl) (by kernel_rfl) (by kernel_rfl) (by kernel_rfl) ?_
  refine s_store_at 0 ⟨b3, #[.int .i64 0, .int .i64 0, .int .i64 0, .string ⟨#[]⟩, .string ⟨#[]⟩], 26⟩ (off := 0) (verV u) (by kernel_rfl) rfl rfl (by kernel_rfl) (by kernel_rfl) (by kernel_rfl) (by kernel_rfl) (by kernel_rfl) ?_
  refine s_nil ?_
  refine fin_seq ?_
  refine ok_seq ?_
  refine ok_draw (by kernel_rfl) (by kernel_rfl) ?_
  refine q_load 2 ⟨b1, #[.slice V1 ((a).rel.length) c1, .slice U1 ((a).pre.length) d1], 24⟩ (off := 0) (.agg #[.slice V1 ((a).rel.length) c1, .slice U1 ((a).pre.length) d1]) (by kernel_rfl) rfl (by kernel_rfl) (by kernel_rfl) (by kernel_rfl) ?_
  refine q_load 0 ⟨b3, (verV u).cells, 26⟩ (off := 0) (verV u) (by kernel_rfl) rfl (by kernel_rfl) (by kernel_rfl) (by kernel_rfl) ?_
  cases h1 : setHas a u with
  | true =>
    cases h2 : setHas b u with
    | true =>
      refine q_call (k := 16) (args := #[.agg #[.slice V1 ((a).rel.length) c1, .slice U1 ((a).pre.length) d1], verV u]) (.bool true) (by kernel_rfl) (fun _ => by kernel_rfl) (fun w hO => ret_b (h1) (sHas_any V1 U1 c1 d1 a u w (SetO.inn hr1 hO (fun x hx => by simp [hx]) (fa) (by decide)) su hr1.caps)) ?_
      refine q_load 1 ⟨b2, #[.slice V2 ((b).rel.length) c2, .slice U2 ((b).pre.length) d2], 24⟩ (off := 0) (.agg #[.slice V2 ((b).rel.length) c2, .slice U2 ((b).pre.length) d2]) (by kernel_rfl) rfl (by kernel_rfl) (by kernel_rfl) (by kernel_rfl) ?_
      refine q_load 0 ⟨b3, (verV u).cells, 26⟩ (off := 0) (verV u) (by kernel_rfl) rfl (by kernel_rfl) (by kernel_rfl) (by kernel_rfl) ?_
      refine q_call (k := 16) (args := #[.agg #[.slice V2 ((b).rel.length) c2, .slice U2 ((b).pre.length) d2], verV u]) (.bool true) (by kernel_rfl) (fun _ => by kernel_rfl) (fun w hO => ret_b (h2) (sHas_any V2 U2 c2 d2 b u w (SetO.inn hr2 hO (fun x hx => by simp [hx]) (fb) (by decide)) su hr2.caps)) ?_
      refine q_val (.bool true) (by kernel_rfl) (fun _ => by kernel_rfl) ?_
      refine q_val (.bool true) (by kernel_rfl) (fun _ => by kernel_rfl) ?_
      refine q_nil ?_
      refine fin_seq ?_
      refine ok_seq ?_
      refine ok_anyh (by kernel_rfl) ?_
      refine h_load 0 [] _ 2 ⟨b1, #[.slice V1 ((a).rel.length) c1, .slice U1 ((a).pre.length) d1], 24⟩ (off := 0) (.agg #[.slice V1 ((a).rel.length) c1, .slice U1 ((a).pre.length) d1]) rfl (by kernel_rfl) (by kernel_rfl) (by kernel_rfl) (pq_seq pq_body) (by kernel_rfl) rfl (by kernel_rfl) (by kernel_rfl) (by kernel_rfl) ?_
      refine h_load 1 [] _ 1 ⟨b2, #[.slice V2 ((b).rel.length) c2, .slice U2 ((b).pre.length) d2], 24⟩ (off := 0) (.agg #[.slice V2 ((b).rel.length) c2, .slice U2 ((b).pre.length) d2]) rfl (by kernel_rfl) (by kernel_rfl) (by kernel_rfl) (pq_seq pq_body) (by kernel_rfl) rfl (by kernel_rfl) (by kernel_rfl) (by kernel_rfl) ?_
      refine h_load 3 [] _ 0 ⟨b3, (verV u).cells, 26⟩ (off := 0) (verV u) rfl (by kernel_rfl) (by kernel_rfl) (by kernel_rfl) (pq_seq pq_body) (by kernel_rfl) rfl (by kernel_rfl) (by kernel_rfl) (by kernel_rfl) ?_
      refine h_take 5 [] _ (.bool true) rfl (by kernel_rfl) (by kernel_rfl) (by kernel_rfl) (pq_seq pq_body) (by kernel_rfl) (fun _ _ => by kernel_rfl) ?_
      refine h_one 2 (by kernel_rfl) ?_
      refine hl_callx _ (k := 21) (args := #[.agg #[.slice V1 ((a).rel.length) c1, .slice U1 ((a).pre.length) d1], .agg #[.slice V2 ((b).rel.length) c2, .slice U2 ((b).pre.length) d2]]) (fun v' L' => ∃ ob', L' = ob' ++ ([] ++ (⟨b3, (verV u).cells, 26⟩ :: (⟨b2, #[.slice V2 ((b).rel.length) c2, .slice U2 ((b).pre.length) d2], 24⟩ :: (⟨b1, #[.slice V1 ((a).rel.length) c1, .slice U1 ((a).pre.length) d1], 24⟩ :: (o2 ++ (o1)))))) ∧ SetO v' (orT a b) ob') rfl (by kernel_rfl) (fun _ => by kernel_rfl) (fun w hO => (sOr_any V1 U1 V2 U2 c1 d1 c2 d2 a b w (SetO.inn hr1 hO (fun x hx => by simp [hx]) (fa) (by decide)) (SetO.inn hr2 hO (fun x hx => by simp [hx]) (fb) (by decide)) hr1.caps hr2.caps).mono fun e w' ⟨v', ob', k1, k2, k3⟩ => ⟨v', _, k1, ⟨ob', rfl, by rw [if_pos (by rw [(fa).may, (fb).may]; rfl)] at k2; exact k2⟩, Own.joinN hO k3⟩) (fun v' L' ⟨ob', e, _⟩ w hO => by subst e; exact Own.sub [] (Own.sub ob' hO)) (fun v3 L2 hv2 => ?_)
      obtain ⟨o3, rfl, hr3⟩ := hv2
      obtain ⟨V3, U3, c3, d3, rfl⟩ := hr3.form
      refine h_cast (L' := (o3 ++ ([] : List Blk)) ++ (⟨b3, (verV u).cells, 26⟩ :: (⟨b2, #[.slice V2 ((b).rel.length) c2, .slice U2 ((b).pre.length) d2], 24⟩ :: (⟨b1, #[.slice V1 ((a).rel.length) c1, .slice U1 ((a).pre.length) d1], 24⟩ :: (o2 ++ (o1)))))) (List.append_assoc _ _ _).symm ?_
      refine h_one 4 (by kernel_rfl) ?_
      refine hs_call (o3 ++ ([] : List Blk)) _ (k := 16) (args := #[.agg #[.slice V3 ((orT a b).rel.length) c3, .slice U3 ((orT a b).pre.length) d3], verV u]) (.bool true) rfl (by kernel_rfl) (fun _ => by kernel_rfl) (fun w hO => ret_b (by rw [setHas_or fa fb mu, h1, h2]; rfl) (sHas_any V3 U3 c3 d3 (orT a b) u w (SetO.inn hr3 hO (fun x hx => by simp [hx]) ((fa).or (fb)) (by decide)) su hr3.caps)) ?_
      refine h_take 6 (o3 ++ ([] : List Blk)) _ (.bool true) rfl (by kernel_rfl) (by kernel_rfl) (by kernel_rfl) (pq_seq pq_body) (by kernel_rfl) (fun _ _ => by kernel_rfl) ?_
      refine h_skip 7 (o3 ++ ([] : List Blk)) _ rfl (by kernel_rfl) (by kernel_rfl) (by kernel_rfl) (pq_seq pq_body) (by kernel_rfl) ?_
      refine h_take 8 (o3 ++ ([] : List Blk)) _ (.bool true) rfl (by kernel_rfl) (by kernel_rfl) (by kernel_rfl) (pq_seq pq_body) (by kernel_rfl) (fun _ _ => by kernel_rfl) ?_
      refine h_take 9 (o3 ++ ([] : List Blk)) _ (.bool true) rfl (by kernel_rfl) (by kernel_rfl) (by kernel_rfl) (pq_seq pq_body) (by kernel_rfl) (fun _ _ => by kernel_rfl) ?_
      refine h_take 10 (o3 ++ ([] : List Blk)) _ (.bool true) rfl (by kernel_rfl) (by kernel_rfl) (by kernel_rfl) (pq_seq pq_body) (by kernel_rfl) (fun _ _ => by kernel_rfl) ?_
      refine h_load 11 (o3 ++ ([] : List Blk)) _ 2 ⟨b1, #[.slice V1 ((a).rel.length) c1, .slice U1 ((a).pre.length) d1], 24⟩ (off := 0) (.agg #[.slice V1 ((a).rel.length) c1, .slice U1 ((a).pre.length) d1]) rfl (by kernel_rfl) (by kernel_rfl) (by kernel_rfl) (pq_seq pq_body) (by kernel_rfl) rfl (by kernel_rfl) (by kernel_rfl) (by kernel_rfl) ?_
      refine h_load 12 (o3 ++ ([] : List Blk)) _ 1 ⟨b2, #[.slice V2 ((b).rel.length) c2, .slice U2 ((b).pre.length) d2], 24⟩ (off := 0) (.agg #[.slice V2 ((b).rel.length) c2, .slice U2 ((b).pre.length) d2]) rfl (by kernel_rfl) (by kernel_rfl) (by kernel_rfl) (pq_seq pq_body) (by kernel_rfl) rfl (by kernel_rfl) (by kernel_rfl) (by kernel_rfl) ?_
      refine h_load 14 (o3 ++ ([] : List Blk)) _ 0 ⟨b3, (verV u).cells, 26⟩ (off := 0) (verV u) rfl (by kernel_rfl) (by kernel_rfl) (by kernel_rfl) (pq_seq pq_body) (by kernel_rfl) rfl (by kernel_rfl) (by kernel_rfl) (by kernel_rfl) ?_
      refine h_take 16 (o3 ++ ([] : List Blk)) _ (.bool true) rfl (by kernel_rfl) (by kernel_rfl) (by kernel_rfl) (pq_seq pq_body) (by kernel_rfl) (fun _ _ => by kernel_rfl) ?_
      refine h_one 13 (by kernel_rfl) ?_
      refine hl_callx _ (k := 23) (args := #[.agg #[.slice V1 ((a).rel.length) c1, .slice U1 ((a).pre.length) d1], .agg #[.slice V2 ((b).rel.length) c2, .slice U2 ((b).pre.length) d2]]) (fun v' L' => ∃ ob', L' = ob' ++ ((o3 ++ ([] : List Blk)) ++ (⟨b3, (verV u).cells, 26⟩ :: (⟨b2, #[.slice V2 ((b).rel.length) c2, .slice U2 ((b).pre.length) d2], 24⟩ :: (⟨b1, #[.slice V1 ((a).rel.length) c1, .slice U1 ((a).pre.length) d1], 24⟩ :: (o2 ++ (o1)))))) ∧ SetO v' (andT a b) ob') rfl (by kernel_rfl) (fun _ => by kernel_rfl) (fun w hO => (sAnd_any V1 U1 V2 U2 c1 d1 c2 d2 a b w (SetO.inn hr1 hO (fun x hx => by simp [hx]) (fa) (by decide)) (SetO.inn hr2 hO (fun x hx => by simp [hx]) (fb) (by decide)) hr1.caps hr2.caps).mono fun e w' ⟨v', ob', k1, k2, k3⟩ => ⟨v', _, k1, ⟨ob', rfl, by rw [if_pos (by rw [(fa).may, (fb).may]; rfl)] at k2; exact k2⟩, Own.joinN hO k3⟩) (fun v' L' ⟨ob', e, _⟩ w hO => by subst e; exact Own.sub (o3 ++ ([] : List Blk)) (Own.sub ob' hO)) (fun v4 L2 hv2 => ?_)
      obtain ⟨o4, rfl, hr4⟩ := hv2
      obtain ⟨V4, U4, c4, d4, rfl⟩ := hr4.form
      refine h_cast (L' := (o4 ++ (o3 ++ ([] : List Blk))) ++ (⟨b3, (verV u).cells, 26⟩ :: (⟨b2, #[.slice V2 ((b).rel.length) c2, .slice U2 ((b).pre.length) d2], 24⟩ :: (⟨b1, #[.slice V1 ((a).rel.length) c1, .slice U1 ((a).pre.length) d1], 24⟩ :: (o2 ++ (o1)))))) (List.append_assoc _ _ _).symm ?_
      refine h_one 15 (by kernel_rfl) ?_
      refine hs_call (o4 ++ (o3 ++ ([] : List Blk))) _ (k := 16) (args := #[.agg #[.slice V4 ((andT a b).rel.length) c4, .slice U4 ((andT a b).pre.length) d4], verV u]) (.bool true) rfl (by kernel_rfl) (fun _ => by kernel_rfl) (fun w hO => ret_b (by rw [setHas_and fa fb mu, h1, h2]; rfl) (sHas_any V4 U4 c4 d4 (andT a b) u w (SetO.inn hr4 hO (fun x hx => by simp [hx]) ((fa).and (fb)) (by decide)) su hr4.caps)) ?_
      refine h_take 17 (o4 ++ (o3 ++ ([] : List Blk))) _ (.bool true) rfl (by kernel_rfl) (by kernel_rfl) (by kernel_rfl) (pq_seq pq_body) (by kernel_rfl) (fun _ _ => by kernel_rfl) ?_
      refine h_take 18 (o4 ++ (o3 ++ ([] : List Blk))) _ (.bool true) rfl (by kernel_rfl) (by kernel_rfl) (by kernel_rfl) (pq_seq pq_body) (by kernel_rfl) (fun _ _ => by kernel_rfl) ?_
      refine h_take 19 (o4 ++ (o3 ++ ([] : List Blk))) _ (.bool true) rfl (by kernel_rfl) (by kernel_rfl) (by kernel_rfl) (pq_seq pq_body) (by kernel_rfl) (fun _ _ => by kernel_rfl) ?_
      refine h_take 20 (o4 ++ (o3 ++ ([] : List Blk))) _ (.bool true) rfl (by kernel_rfl) (by kernel_rfl) (by kernel_rfl) (pq_seq pq_body) (by kernel_rfl) (fun _ _ => by kernel_rfl) ?_
      refine h_take 21 (o4 ++ (o3 ++ ([] : List Blk))) _ (.bool true) rfl (by kernel_rfl) (by kernel_rfl) (by kernel_rfl) (pq_seq pq_body) (by kernel_rfl) (fun _ _ => by kernel_rfl) ?_
      refine h_take 22 (o4 ++ (o3 ++ ([] : List Blk))) _ (.bool true) rfl (by kernel_rfl) (by kernel_rfl) (by kernel_rfl) (pq_seq pq_body) (by kernel_rfl) (fun _ _ => by kernel_rfl) ?_
      refine h_load 23 (o4 ++ (o3 ++ ([] : List Blk))) _ 2 ⟨b1, #[.slice V1 ((a).rel.length) c1, .slice U1 ((a).pre.length) d1], 24⟩ (off := 0) (.agg #[.slice V1 ((a).rel.length) c1, .slice U1 ((a).pre.length) d1]) rfl (by kernel_rfl) (by kernel_rfl) (by kernel_rfl) (pq_seq pq_body) (by kernel_rfl) rfl (by kernel_rfl) (by kernel_rfl) (by kernel_rfl) ?_
      refine h_load 25 (o4 ++ (o3 ++ ([] : List Blk))) _ 0 ⟨b3, (verV u).cells, 26⟩ (off := 0) (verV u) rfl (by kernel_rfl) (by kernel_rfl) (by kernel_rfl) (pq_seq pq_body) (by kernel_rfl) rfl (by kernel_rfl) (by kernel_rfl) (by kernel_rfl) ?_
      refine h_take 27 (o4 ++ (o3 ++ ([] : List Blk))) _ (.bool true) rfl (by kernel_rfl) (by kernel_rfl) (by kernel_rfl) (pq_seq pq_body) (by kernel_rfl) (fun _ _ => by kernel_rfl) ?_
      refine h_take 28 (o4 ++ (o3 ++ ([] : List Blk))) _ (.bool false) rfl (by kernel_rfl) (by kernel_rfl) (by kernel_rfl) (pq_seq pq_body) (by kernel_rfl) (fun _ _ => by kernel_rfl) ?_
      refine h_one 24 (by kernel_rfl) ?_
      refine hl_callx _ (k := 25) (args := #[.agg #[.slice V1 ((a).rel.length) c1, .slice U1 ((a).pre.length) d1]]) (fun v' L' => ∃ ob', L' = ob' ++ ((o4 ++ (o3 ++ ([] : List Blk))) ++ (⟨b3, (verV u).cells, 26⟩ :: (⟨b2, #[.slice V2 ((b).rel.length) c2, .slice U2 ((b).pre.length) d2], 24⟩ :: (⟨b1, #[.slice V1 ((a).rel.length) c1, .slice U1 ((a).pre.length) d1], 24⟩ :: (o2 ++ (o1)))))) ∧ SetO v' (notT a) ob') rfl (by kernel_rfl) (fun _ => by kernel_rfl) (fun w hO => (sNot_any V1 U1 c1 d1 a w (SetO.inn hr1 hO (fun x hx => by simp [hx]) (fa) (by decide)) hr1.caps).mono fun e w' ⟨v', ob', k1, k2, k3⟩ => ⟨v', _, k1, ⟨ob', rfl, by rw [if_pos (fa).may] at k2; exact k2⟩, Own.joinN hO k3⟩) (fun v' L' ⟨ob', e, _⟩ w hO => by subst e; exact Own.sub (o4 ++ (o3 ++ ([] : List Blk))) (Own.sub ob' hO)) (fun v5 L2 hv2 => ?_)
      obtain ⟨o5, rfl, hr5⟩ := hv2
      obtain ⟨V5, U5, c5, d5, rfl⟩ := hr5.form
      refine h_cast (L' := (o5 ++ (o4 ++ (o3 ++ ([] : List Blk)))) ++ (⟨b3, (verV u).cells, 26⟩ :: (⟨b2, #[.slice V2 ((b).rel.length) c2, .slice U2 ((b).pre.length) d2], 24⟩ :: (⟨b1, #[.slice V1 ((a).rel.length) c1, .slice U1 ((a).pre.length) d1], 24⟩ :: (o2 ++ (o1)))))) (List.append_assoc _ _ _).symm ?_
      refine h_one 26 (by kernel_rfl) ?_
      refine hs_call (o5 ++ (o4 ++ (o3 ++ ([] : List Blk)))) _ (k := 16) (args := #[.agg #[.slice V5 ((notT a).rel.length) c5, .slice U5 ((notT a).pre.length) d5], verV u]) (.bool false) rfl (by kernel_rfl) (fun _ => by kernel_rfl) (fun w hO => ret_b (by rw [setHas_not fa mu, h1]; rfl) (sHas_any V5 U5 c5 d5 (notT a) u w (SetO.inn hr5 hO (fun x hx => by simp [hx]) ((fa).not) (by decide)) su hr5.caps)) ?_
      refine h_take 29 (o5 ++ (o4 ++ (o3 ++ ([] : List Blk)))) _ (.bool true) rfl (by kernel_rfl) (by kernel_rfl) (by kernel_rfl) (pq_seq pq_body) (by kernel_rfl) (fun _ _ => by kernel_rfl) ?_
      refine h_take 30 (o5 ++ (o4 ++ (o3 ++ ([] : List Blk)))) _ (.bool true) rfl (by kernel_rfl) (by kernel_rfl) (by kernel_rfl) (pq_seq pq_body) (by kernel_rfl) (fun _ _ => by kernel_rfl) ?_
      refine h_take 31 (o5 ++ (o4 ++ (o3 ++ ([] : List Blk)))) _ (.bool true) rfl (by kernel_rfl) (by kernel_rfl) (by kernel_rfl) (pq_seq pq_body) (by kernel_rfl) (fun _ _ => by kernel_rfl) ?_
      refine h_load 32 (o5 ++ (o4 ++ (o3 ++ ([] : List Blk)))) _ 2 ⟨b1, #[.slice V1 ((a).rel.length) c1, .slice U1 ((a).pre.length) d1], 24⟩ (off := 0) (.agg #[.slice V1 ((a).rel.length) c1, .slice U1 ((a).pre.length) d1]) rfl (by kernel_rfl) (by kernel_rfl) (by kernel_rfl) (pq_seq pq_body) (by kernel_rfl) rfl (by kernel_rfl) (by kernel_rfl) (by kernel_rfl) ?_
      refine h_load 33 (o5 ++ (o4 ++ (o3 ++ ([] : List Blk)))) _ 1 ⟨b2, #[.slice V2 ((b).rel.length) c2, .slice U2 ((b).pre.length) d2], 24⟩ (off := 0) (.agg #[.slice V2 ((b).rel.length) c2, .slice U2 ((b).pre.length) d2]) rfl (by kernel_rfl) (by kernel_rfl) (by kernel_rfl) (pq_seq pq_body) (by kernel_rfl) rfl (by kernel_rfl) (by kernel_rfl) (by kernel_rfl) ?_
      refine h_load 35 (o5 ++ (o4 ++ (o3 ++ ([] : List Blk)))) _ 0 ⟨b3, (verV u).cells, 26⟩ (off := 0) (verV u) rfl (by kernel_rfl) (by kernel_rfl) (by kernel_rfl) (pq_seq pq_body) (by kernel_rfl) rfl (by kernel_rfl) (by kernel_rfl) (by kernel_rfl) ?_
      refine h_take 37 (o5 ++ (o4 ++ (o3 ++ ([] : List Blk)))) _ (.bool true) rfl (by kernel_rfl) (by kernel_rfl) (by kernel_rfl) (pq_seq pq_body) (by kernel_rfl) (fun _ _ => by kernel_rfl) ?_
      refine h_one 34 (by kernel_rfl) ?_
      refine hl_callx _ (k := 27) (args := #[.agg #[.slice V1 ((a).rel.length) c1, .slice U1 ((a).pre.length) d1], .agg #[.slice V2 ((b).rel.length) c2, .slice U2 ((b).pre.length) d2]]) (fun v' L' => ∃ ob', L' = ob' ++ ((o5 ++ (o4 ++ (o3 ++ ([] : List Blk)))) ++ (⟨b3, (verV u).cells, 26⟩ :: (⟨b2, #[.slice V2 ((b).rel.length) c2, .slice U2 ((b).pre.length) d2], 24⟩ :: (⟨b1, #[.slice V1 ((a).rel.length) c1, .slice U1 ((a).pre.length) d1], 24⟩ :: (o2 ++ (o1)))))) ∧ SetO v' (minusT a b) ob') rfl (by kernel_rfl) (fun _ => by kernel_rfl) (fun w hO => (sMinus_any V1 U1 V2 U2 c1 d1 c2 d2 a b w (SetO.inn hr1 hO (fun x hx => by simp [hx]) (fa) (by decide)) (SetO.inn hr2 hO (fun x hx => by simp [hx]) (fb) (by decide)) hr1.caps hr2.caps (Nat.le_trans (fb).rel.len (by decide)) (Nat.le_trans (fb).pre.len (by decide))).mono fun e w' ⟨v', ob', k1, k2, k3⟩ => ⟨v', _, k1, ⟨ob', rfl, by rw [if_pos (by rw [(fa).may, (fb).may]; rfl)] at k2; exact k2⟩, Own.joinN hO k3⟩) (fun v' L' ⟨ob', e, _⟩ w hO => by subst e; exact Own.sub (o5 ++ (o4 ++ (o3 ++ ([] : List Blk)))) (Own.sub ob' hO)) (fun v6 L2 hv2 => ?_)
      obtain ⟨o6, rfl, hr6⟩ := hv2
      obtain ⟨V6, U6, c6, d6, rfl⟩ := hr6.form
      refine h_cast (L' := (o6 ++ (o5 ++ (o4 ++ (o3 ++ ([] : List Blk))))) ++ (⟨b3, (verV u).cells, 26⟩ :: (⟨b2, #[.slice V2 ((b).rel.length) c2, .slice U2 ((b).pre.length) d2], 24⟩ :: (⟨b1, #[.slice V1 ((a).rel.length) c1, .slice U1 ((a).pre.length) d1], 24⟩ :: (o2 ++ (o1)))))) (List.append_assoc _ _ _).symm ?_
      refine h_one 36 (by kernel_rfl) ?_
      refine hs_call (o6 ++ (o5 ++ (o4 ++ (o3 ++ ([] : List Blk))))) _ (k := 16) (args := #[.agg #[.slice V6 ((minusT a b).rel.length) c6, .slice U6 ((minusT a b).pre.length) d6], verV u]) (.bool false) rfl (by kernel_rfl) (fun _ => by kernel_rfl) (fun w hO => ret_b (by rw [setHas_minus fa fb mu, h1, h2]; rfl) (sHas_any V6 U6 c6 d6 (minusT a b) u w (SetO.inn hr6 hO (fun x hx => by simp [hx]) ((fa).minus (fb)) (by decide)) su hr6.caps)) ?_
      refine h_take 38 (o6 ++ (o5 ++ (o4 ++ (o3 ++ ([] : List Blk))))) _ (.bool true) rfl (by kernel_rfl) (by kernel_rfl) (by kernel_rfl) (pq_seq pq_body) (by kernel_rfl) (fun _ _ => by kernel_rfl) ?_
      refine h_take 39 (o6 ++ (o5 ++ (o4 ++ (o3 ++ ([] : List Blk))))) _ (.bool true) rfl (by kernel_rfl) (by kernel_rfl) (by kernel_rfl) (pq_seq pq_body) (by kernel_rfl) (fun _ _ => by kernel_rfl) ?_
      refine h_take 40 (o6 ++ (o5 ++ (o4 ++ (o3 ++ ([] : List Blk))))) _ (.bool false) rfl (by kernel_rfl) (by kernel_rfl) (by kernel_rfl) (pq_seq pq_body) (by kernel_rfl) (fun _ _ => by kernel_rfl) ?_
      refine h_take 41 (o6 ++ (o5 ++ (o4 ++ (o3 ++ ([] : List Blk))))) _ (.bool false) rfl (by kernel_rfl) (by kernel_rfl) (by kernel_rfl) (pq_seq pq_body) (by kernel_rfl) (fun _ _ => by kernel_rfl) ?_
      refine h_take 42 (o6 ++ (o5 ++ (o4 ++ (o3 ++ ([] : List Blk))))) _ (.bool true) rfl (by kernel_rfl) (by kernel_rfl) (by kernel_rfl) (pq_seq pq_body) (by kernel_rfl) (fun _ _ => by kernel_rfl) ?_
      refine h_take 43 (o6 ++ (o5 ++ (o4 ++ (o3 ++ ([] : List Blk))))) _ (.bool true) rfl (by kernel_rfl) (by kernel_rfl) (by kernel_rfl) (pq_seq pq_body) (by kernel_rfl) (fun _ _ => by kernel_rfl) ?_
      refine h_take 44 (o6 ++ (o5 ++ (o4 ++ (o3 ++ ([] : List Blk))))) _ (.bool true) rfl (by kernel_rfl) (by kernel_rfl) (by kernel_rfl) (pq_seq pq_body) (by kernel_rfl) (fun _ _ => by kernel_rfl) ?_
      refine h_drop (o6 ++ (o5 ++ (o4 ++ (o3 ++ ([] : List Blk))))) ?_
      refine h_done (by kernel_rfl) ?_
      refine fin_seq ?_
      refine ok_seq ?_
      refine ok_region ?_
      refine s_load 2 ⟨b1, #[.slice V1 ((a).rel.length) c1, .slice U1 ((a).pre.length) d1], 24⟩ (off := 0) (.agg #[.slice V1 ((a).rel.length) c1, .slice U1 ((a).pre.length) d1]) (by kernel_rfl) rfl (by kernel_rfl) (by kernel_rfl) (by kernel_rfl) ?_
      refine s_load 1 ⟨b2, #[.slice V2 ((b).rel.length) c2, .slice U2 ((b).pre.length) d2], 24⟩ (off := 0) (.agg #[.slice V2 ((b).rel.length) c2, .slice U2 ((b).pre.length) d2]) (by kernel_rfl) rfl (by kernel_rfl) (by kernel_rfl) (by kernel_rfl) ?_
      by_cases h3 : andT a b = a
      · skip
        refine s_call (k := 29) (args := #[.agg #[.slice V1 ((a).rel.length) c1, .slice U1 ((a).pre.length) d1], .agg #[.slice V2 ((b).rel.length) c2, .slice U2 ((b).pre.length) d2]]) (.bool true) (by kernel_rfl) (fun _ => by kernel_rfl) (fun w hO => ret_b ((within_b fa fb).trans (decide_eq_true (h3))) (sWithin_any V1 U1 V2 U2 c1 d1 c2 d2 a b w (SetO.inn hr1 hO (fun x hx => by simp [hx]) (fa) (by decide)) (SetO.inn hr2 hO (fun x hx => by simp [hx]) (fb) (by decide)) hr1.caps hr2.caps)) ?_
        refine s_val (.bool false) (by kernel_rfl) (fun _ => by kernel_rfl) ?_
        refine s_val (.bool false) (by kernel_rfl) (fun _ => by kernel_rfl) ?_
        refine s_val (.bool true) (by kernel_rfl) (fun _ => by kernel_rfl) ?_
        refine s_val (.bool false) (by kernel_rfl) (fun _ => by kernel_rfl) ?_
        refine s_val (.bool false) (by kernel_rfl) (fun _ => by kernel_rfl) ?_
        refine s_val (.bool false) (by kernel_rfl) (fun _ => by kernel_rfl) ?_
        refine s_val (.bool true) (by kernel_rfl) (fun _ => by kernel_rfl) ?_
        refine s_val (.bool true) (by kernel_rfl) (fun _ => by kernel_rfl) ?_
        refine s_val (.bool true) (by kernel_rfl) (fun _ => by kernel_rfl) ?_
        refine s_nil ?_
        refine fin_seq ?_
        refine ok_seq ?_
        refine ok_anyh (by kernel_rfl) ?_
        refine h_one 0 (by kernel_rfl) ?_
        refine hs_call [] _ (k := 11) (args := #[]) (.bool true) rfl (by kernel_rfl) (fun _ => by kernel_rfl) (fun w _ => awake5_any w) ?_
        refine h_take 1 [] _ (.bool true) rfl (by kernel_rfl) (by kernel_rfl) (by kernel_rfl) (pq_seq pq_body) (by kernel_rfl) (fun _ _ => by kernel_rfl) ?_
        refine h_take 2 [] _ (.bool true) rfl (by kernel_rfl) (by kernel_rfl) (by kernel_rfl) (pq_seq pq_body) (by kernel_rfl) (fun _ _ => by kernel_rfl) ?_
        refine h_take 3 [] _ (.bool true) rfl (by kernel_rfl) (by kernel_rfl) (by kernel_rfl) (pq_seq pq_body) (by kernel_rfl) (fun _ _ => by kernel_rfl) ?_
        refine h_take 4 [] _ (.bool true) rfl (by kernel_rfl) (by kernel_rfl) (by kernel_rfl) (pq_seq pq_body) (by kernel_rfl) (fun _ _ => by kernel_rfl) ?_
        refine h_take 5 [] _ (.bool true) rfl (by kernel_rfl) (by kernel_rfl) (by kernel_rfl) (pq_seq pq_body) (by kernel_rfl) (fun _ _ => by kernel_rfl) ?_
        refine h_take 6 [] _ (.bool true) rfl (by kernel_rfl) (by kernel_rfl) (by kernel_rfl) (pq_seq pq_body) (by kernel_rfl) (fun _ _ => by kernel_rfl) ?_
        refine h_take 7 [] _ (.bool true) rfl (by kernel_rfl) (by kernel_rfl) (by kernel_rfl) (pq_seq pq_body) (by kernel_rfl) (fun _ _ => by kernel_rfl) ?_
        refine h_load 8 [] _ 2 ⟨b1, #[.slice V1 ((a).rel.length) c1, .slice U1 ((a).pre.length) d1], 24⟩ (off := 0) (.agg #[.slice V1 ((a).rel.length) c1, .slice U1 ((a).pre.length) d1]) rfl (by kernel_rfl) (by kernel_rfl) (by kernel_rfl) (pq_seq pq_body) (by kernel_rfl) rfl (by kernel_rfl) (by kernel_rfl) (by kernel_rfl) ?_
        refine h_load 9 [] _ 1 ⟨b2, #[.slice V2 ((b).rel.length) c2, .slice U2 ((b).pre.length) d2], 24⟩ (off := 0) (.agg #[.slice V2 ((b).rel.length) c2, .slice U2 ((b).pre.length) d2]) rfl (by kernel_rfl) (by kernel_rfl) (by kernel_rfl) (pq_seq pq_body) (by kernel_rfl) rfl (by kernel_rfl) (by kernel_rfl) (by kernel_rfl) ?_
        refine h_one 10 (by kernel_rfl) ?_
        refine hs_call [] _ (k := 31) (args := #[.agg #[.slice V1 ((a).rel.length) c1, .slice U1 ((a).pre.length) d1], .agg #[.slice V2 ((b).rel.length) c2, .slice U2 ((b).pre.length) d2]]) (.bool false) rfl (by kernel_rfl) (fun _ => by kernel_rfl) (fun w hO => ret_b ((apart_b fa fb).trans (decide_eq_false (fun q0 => by have q9 := setHas_and fa fb mu; rw [q0, setHas_none, h1, h2] at q9; cases q9))) (sApart_any V1 U1 V2 U2 c1 d1 c2 d2 a b w (SetO.inn hr1 hO (fun x hx => by simp [hx]) (fa) (by decide)) (SetO.inn hr2 hO (fun x hx => by simp [hx]) (fb) (by decide)) hr1.caps hr2.caps (Nat.le_trans (fa).rel.len (by decide)) (Nat.le_trans (fa).pre.len (by decide)) (Nat.le_trans (fb).rel.len (by decide)) (Nat.le_trans (fb).pre.len (by decide)))) ?_
        refine h_take 11 [] _ (.bool true) rfl (by kernel_rfl) (by kernel_rfl) (by kernel_rfl) (pq_seq pq_body) (by kernel_rfl) (fun _ _ => by kernel_rfl) ?_
        refine h_take 12 [] _ (.bool true) rfl (by kernel_rfl) (by kernel_rfl) (by kernel_rfl) (pq_seq pq_body) (by kernel_rfl) (fun _ _ => by kernel_rfl) ?_
        refine h_skip 13 [] _ rfl (by kernel_rfl) (by kernel_rfl) (by kernel_rfl) (pq_seq pq_body) (by kernel_rfl) ?_
        refine h_skip 14 [] _ rfl (by kernel_rfl) (by kernel_rfl) (by kernel_rfl) (pq_seq pq_body) (by kernel_rfl) ?_
        refine h_take 15 [] _ (.bool true) rfl (by kernel_rfl) (by kernel_rfl) (by kernel_rfl) (pq_seq pq_body) (by kernel_rfl) (fun _ _ => by kernel_rfl) ?_
        refine h_take 16 [] _ (.bool true) rfl (by kernel_rfl) (by kernel_rfl) (by kernel_rfl) (pq_seq pq_body) (by kernel_rfl) (fun _ _ => by kernel_rfl) ?_
        refine h_skip 17 [] _ rfl (by kernel_rfl) (by kernel_rfl) (by kernel_rfl) (pq_seq pq_body) (by kernel_rfl) ?_
        refine h_skip 18 [] _ rfl (by kernel_rfl) (by kernel_rfl) (by kernel_rfl) (pq_seq pq_body) (by kernel_rfl) ?_
        refine h_take 19 [] _ (.bool true) rfl (by kernel_rfl) (by kernel_rfl) (by kernel_rfl) (pq_seq pq_body) (by kernel_rfl) (fun _ _ => by kernel_rfl) ?_
        refine h_take 20 [] _ (.bool true) rfl (by kernel_rfl) (by kernel_rfl) (by kernel_rfl) (pq_seq pq_body) (by kernel_rfl) (fun _ _ => by kernel_rfl) ?_
        refine h_take 21 [] _ (.bool true) rfl (by kernel_rfl) (by kernel_rfl) (by kernel_rfl) (pq_seq pq_body) (by kernel_rfl) (fun _ _ => by kernel_rfl) ?_
        refine h_load 23 [] _ 0 ⟨b3, (verV u).cells, 26⟩ (off := 0) (verV u) rfl (by kernel_rfl) (by kernel_rfl) (by kernel_rfl) (pq_seq pq_body) (by kernel_rfl) rfl (by kernel_rfl) (by kernel_rfl) (by kernel_rfl) ?_
        refine h_one 22 (by kernel_rfl) ?_
        refine hl_callx _ (k := 36) (args := #[]) (fun v' L' => ∃ ob', L' = ob' ++ ([] ++ (⟨b3, (verV u).cells, 26⟩ :: (⟨b2, #[.slice V2 ((b).rel.length) c2, .slice U2 ((b).pre.length) d2], 24⟩ :: (⟨b1, #[.slice V1 ((a).rel.length) c1, .slice U1 ((a).pre.length) d1], 24⟩ :: (o2 ++ (o1)))))) ∧ SetO v' (allT) ob') rfl (by kernel_rfl) (fun _ => by kernel_rfl) (fun w hO => (sAll_any w).mono fun e w' ⟨v', ob', k1, k2, k3⟩ => ⟨v', _, k1, ⟨ob', rfl, k2⟩, Own.joinN hO k3⟩) (fun v' L' ⟨ob', e, _⟩ w hO => by subst e; exact Own.sub [] (Own.sub ob' hO)) (fun v7 L2 hv2 => ?_)
        obtain ⟨o7, rfl, hr7⟩ := hv2
        obtain ⟨V7, U7, c7, d7, rfl⟩ := hr7.form
        refine h_cast (L' := (o7 ++ ([] : List Blk)) ++ (⟨b3, (verV u).cells, 26⟩ :: (⟨b2, #[.slice V2 ((b).rel.length) c2, .slice U2 ((b).pre.length) d2], 24⟩ :: (⟨b1, #[.slice V1 ((a).rel.length) c1, .slice U1 ((a).pre.length) d1], 24⟩ :: (o2 ++ (o1)))))) (List.append_assoc _ _ _).symm ?_
        refine h_one 24 (by kernel_rfl) ?_
        refine hs_call (o7 ++ ([] : List Blk)) _ (k := 16) (args := #[.agg #[.slice V7 ((allT).rel.length) c7, .slice U7 ((allT).pre.length) d7], verV u]) (.bool true) rfl (by kernel_rfl) (fun _ => by kernel_rfl) (fun w hO => ret_b (setHas_all mu) (sHas_any V7 U7 c7 d7 allT u w (SetO.inn hr7 hO (fun x hx => by simp [hx]) (all_sf) (by decide)) su hr7.caps)) ?_
        refine h_take 25 (o7 ++ ([] : List Blk)) _ (.bool true) rfl (by kernel_rfl) (by kernel_rfl) (by kernel_rfl) (pq_seq pq_body) (by kernel_rfl) (fun _ _ => by kernel_rfl) ?_
        refine h_take 26 (o7 ++ ([] : List Blk)) _ (.bool true) rfl (by kernel_rfl) (by kernel_rfl) (by kernel_rfl) (pq_seq pq_body) (by kernel_rfl) (fun _ _ => by kernel_rfl) ?_
        refine h_load 28 (o7 ++ ([] : List Blk)) _ 0 ⟨b3, (verV u).cells, 26⟩ (off := 0) (verV u) rfl (by kernel_rfl) (by kernel_rfl) (by kernel_rfl) (pq_seq pq_body) (by kernel_rfl) rfl (by kernel_rfl) (by kernel_rfl) (by kernel_rfl) ?_
        refine h_one 27 (by kernel_rfl) ?_
        refine hs_call (o7 ++ ([] : List Blk)) _ (k := 37) (args := #[]) (.agg #[.slice none 0 0, .slice none 0 0]) rfl (by kernel_rfl) (fun _ => by kernel_rfl) (fun w _ => sNone_any w) ?_
        refine h_one 29 (by kernel_rfl) ?_
        refine hs_call (o7 ++ ([] : List Blk)) _ (k := 16) (args := #[.agg #[.slice none 0 0, .slice none 0 0], verV u]) (.bool false) rfl (by kernel_rfl) (fun _ => by kernel_rfl) (fun w hO => ret_b (setHas_none) (sHas_any none none 0 0 noneT u w (none_in _ _) su ⟨Nat.le_refl 0, Nat.le_refl 0⟩)) ?_
        refine h_take 30 (o7 ++ ([] : List Blk)) _ (.bool true) rfl (by kernel_rfl) (by kernel_rfl) (by kernel_rfl) (pq_seq pq_body) (by kernel_rfl) (fun _ _ => by kernel_rfl) ?_
        refine h_take 31 (o7 ++ ([] : List Blk)) _ (.bool true) rfl (by kernel_rfl) (by kernel_rfl) (by kernel_rfl) (pq_seq pq_body) (by kernel_rfl) (fun _ _ => by kernel_rfl) ?_
        refine h_take 32 (o7 ++ ([] : List Blk)) _ (.bool true) rfl (by kernel_rfl) (by kernel_rfl) (by kernel_rfl) (pq_seq pq_body) (by kernel_rfl) (fun _ _ => by kernel_rfl) ?_
        refine h_drop (o7 ++ ([] : List Blk)) ?_
        refine h_done (by kernel_rfl) ?_
        refine fin_seq ?_
        refine ok_ret ?_
        refine fin_ret (.bool true) Tryz.results5 (by kernel_rfl) ?_
        exact fun w hO => ⟨rfl, hO.below⟩
      · skip
        refine s_call (k := 29) (args := #[.agg #[.slice V1 ((a).rel.length) c1, .slice U1 ((a).pre.length) d1], .agg #[.slice V2 ((b).rel.length) c2, .slice U2 ((b).pre.length) d2]]) (.bool false) (by kernel_rfl) (fun _ => by kernel_rfl) (fun w hO => ret_b ((within_b fa fb).trans (decide_eq_false (h3))) (sWithin_any V1 U1 V2 U2 c1 d1 c2 d2 a b w (SetO.inn hr1 hO (fun x hx => by simp [hx]) (fa) (by decide)) (SetO.inn hr2 hO (fun x hx => by simp [hx]) (fb) (by decide)) hr1.caps hr2.caps)) ?_
        refine s_val (.bool true) (by kernel_rfl) (fun _ => by kernel_rfl) ?_
        refine s_val (.bool true) (by kernel_rfl) (fun _ => by kernel_rfl) ?_
        refine s_skip (by kernel_rfl) ?_
        refine s_skip (by kernel_rfl) ?_
        refine s_val (.bool true) (by kernel_rfl) (fun _ => by kernel_rfl) ?_
        refine s_val (.bool true) (by kernel_rfl) (fun _ => by kernel_rfl) ?_
        refine s_skip (by kernel_rfl) ?_
        refine s_val (.bool true) (by kernel_rfl) (fun _ => by kernel_rfl) ?_
        refine s_val (.bool true) (by kernel_rfl) (fun _ => by kernel_rfl) ?_
        refine s_nil ?_
        refine fin_seq ?_
        refine ok_seq ?_
        refine ok_anyh (by kernel_rfl) ?_
        refine h_one 0 (by kernel_rfl) ?_
        refine hs_call [] _ (k := 11) (args := #[]) (.bool true) rfl (by kernel_rfl) (fun _ => by kernel_rfl) (fun w _ => awake5_any w) ?_
        refine h_take 1 [] _ (.bool true) rfl (by kernel_rfl) (by kernel_rfl) (by kernel_rfl) (pq_seq pq_body) (by kernel_rfl) (fun _ _ => by kernel_rfl) ?_
        refine h_take 2 [] _ (.bool true) rfl (by kernel_rfl) (by kernel_rfl) (by kernel_rfl) (pq_seq pq_body) (by kernel_rfl) (fun _ _ => by kernel_rfl) ?_
        refine h_take 3 [] _ (.bool true) rfl (by kernel_rfl) (by kernel_rfl) (by kernel_rfl) (pq_seq pq_body) (by kernel_rfl) (fun _ _ => by kernel_rfl) ?_
        refine h_take 4 [] _ (.bool true) rfl (by kernel_rfl) (by kernel_rfl) (by kernel_rfl) (pq_seq pq_body) (by kernel_rfl) (fun _ _ => by kernel_rfl) ?_
        refine h_take 5 [] _ (.bool true) rfl (by kernel_rfl) (by kernel_rfl) (by kernel_rfl) (pq_seq pq_body) (by kernel_rfl) (fun _ _ => by kernel_rfl) ?_
        refine h_take 6 [] _ (.bool true) rfl (by kernel_rfl) (by kernel_rfl) (by kernel_rfl) (pq_seq pq_body) (by kernel_rfl) (fun _ _ => by kernel_rfl) ?_
        refine h_take 7 [] _ (.bool true) rfl (by kernel_rfl) (by kernel_rfl) (by kernel_rfl) (pq_seq pq_body) (by kernel_rfl) (fun _ _ => by kernel_rfl) ?_
        refine h_load 8 [] _ 2 ⟨b1, #[.slice V1 ((a).rel.length) c1, .slice U1 ((a).pre.length) d1], 24⟩ (off := 0) (.agg #[.slice V1 ((a).rel.length) c1, .slice U1 ((a).pre.length) d1]) rfl (by kernel_rfl) (by kernel_rfl) (by kernel_rfl) (pq_seq pq_body) (by kernel_rfl) rfl (by kernel_rfl) (by kernel_rfl) (by kernel_rfl) ?_
        refine h_load 9 [] _ 1 ⟨b2, #[.slice V2 ((b).rel.length) c2, .slice U2 ((b).pre.length) d2], 24⟩ (off := 0) (.agg #[.slice V2 ((b).rel.length) c2, .slice U2 ((b).pre.length) d2]) rfl (by kernel_rfl) (by kernel_rfl) (by kernel_rfl) (pq_seq pq_body) (by kernel_rfl) rfl (by kernel_rfl) (by kernel_rfl) (by kernel_rfl) ?_
        refine h_one 10 (by kernel_rfl) ?_
        refine hs_call [] _ (k := 31) (args := #[.agg #[.slice V1 ((a).rel.length) c1, .slice U1 ((a).pre.length) d1], .agg #[.slice V2 ((b).rel.length) c2, .slice U2 ((b).pre.length) d2]]) (.bool false) rfl (by kernel_rfl) (fun _ => by kernel_rfl) (fun w hO => ret_b ((apart_b fa fb).trans (decide_eq_false (fun q0 => by have q9 := setHas_and fa fb mu; rw [q0, setHas_none, h1, h2] at q9; cases q9))) (sApart_any V1 U1 V2 U2 c1 d1 c2 d2 a b w (SetO.inn hr1 hO (fun x hx => by simp [hx]) (fa) (by decide)) (SetO.inn hr2 hO (fun x hx => by simp [hx]) (fb) (by decide)) hr1.caps hr2.caps (Nat.le_trans (fa).rel.len (by decide)) (Nat.le_trans (fa).pre.len (by decide)) (Nat.le_trans (fb).rel.len (by decide)) (Nat.le_trans (fb).pre.len (by decide)))) ?_
        refine h_take 11 [] _ (.bool true) rfl (by kernel_rfl) (by kernel_rfl) (by kernel_rfl) (pq_seq pq_body) (by kernel_rfl) (fun _ _ => by kernel_rfl) ?_
        refine h_take 12 [] _ (.bool true) rfl (by kernel_rfl) (by kernel_rfl) (by kernel_rfl) (pq_seq pq_body) (by kernel_rfl) (fun _ _ => by kernel_rfl) ?_
        refine h_skip 13 [] _ rfl (by kernel_rfl) (by kernel_rfl) (by kernel_rfl) (pq_seq pq_body) (by kernel_rfl) ?_
        refine h_skip 14 [] _ rfl (by kernel_rfl) (by kernel_rfl) (by kernel_rfl) (pq_seq pq_body) (by kernel_rfl) ?_
        refine h_take 15 [] _ (.bool true) rfl (by kernel_rfl) (by kernel_rfl) (by kernel_rfl) (pq_seq pq_body) (by kernel_rfl) (fun _ _ => by kernel_rfl) ?_
        refine h_take 16 [] _ (.bool true) rfl (by kernel_rfl) (by kernel_rfl) (by kernel_rfl) (pq_seq pq_body) (by kernel_rfl) (fun _ _ => by kernel_rfl) ?_
        refine h_skip 17 [] _ rfl (by kernel_rfl) (by kernel_rfl) (by kernel_rfl) (pq_seq pq_body) (by kernel_rfl) ?_
        refine h_skip 18 [] _ rfl (by kernel_rfl) (by kernel_rfl) (by kernel_rfl) (pq_seq pq_body) (by kernel_rfl) ?_
        refine h_take 19 [] _ (.bool true) rfl (by kernel_rfl) (by kernel_rfl) (by kernel_rfl) (pq_seq pq_body) (by kernel_rfl) (fun _ _ => by kernel_rfl) ?_
        refine h_take 20 [] _ (.bool true) rfl (by kernel_rfl) (by kernel_rfl) (by kernel_rfl) (pq_seq pq_body) (by kernel_rfl) (fun _ _ => by kernel_rfl) ?_
        refine h_take 21 [] _ (.bool true) rfl (by kernel_rfl) (by kernel_rfl) (by kernel_rfl) (pq_seq pq_body) (by kernel_rfl) (fun _ _ => by kernel_rfl) ?_
        refine h_load 23 [] _ 0 ⟨b3, (verV u).cells, 26⟩ (off := 0) (verV u) rfl (by kernel_rfl) (by kernel_rfl) (by kernel_rfl) (pq_seq pq_body) (by kernel_rfl) rfl (by kernel_rfl) (by kernel_rfl) (by kernel_rfl) ?_
        refine h_one 22 (by kernel_rfl) ?_
        refine hl_callx _ (k := 36) (args := #[]) (fun v' L' => ∃ ob', L' = ob' ++ ([] ++ (⟨b3, (verV u).cells, 26⟩ :: (⟨b2, #[.slice V2 ((b).rel.length) c2, .slice U2 ((b).pre.length) d2], 24⟩ :: (⟨b1, #[.slice V1 ((a).rel.length) c1, .slice U1 ((a).pre.length) d1], 24⟩ :: (o2 ++ (o1)))))) ∧ SetO v' (allT) ob') rfl (by kernel_rfl) (fun _ => by kernel_rfl) (fun w hO => (sAll_any w).mono fun e w' ⟨v', ob', k1, k2, k3⟩ => ⟨v', _, k1, ⟨ob', rfl, k2⟩, Own.joinN hO k3⟩) (fun v' L' ⟨ob', e, _⟩ w hO => by subst e; exact Own.sub [] (Own.sub ob' hO)) (fun v8 L2 hv2 => ?_)
        obtain ⟨o8, rfl, hr8⟩ := hv2
        obtain ⟨V8, U8, c8, d8, rfl⟩ := hr8.form
        refine h_cast (L' := (o8 ++ ([] : List Blk)) ++ (⟨b3, (verV u).cells, 26⟩ :: (⟨b2, #[.slice V2 ((b).rel.length) c2, .slice U2 ((b).pre.length) d2], 24⟩ :: (⟨b1, #[.slice V1 ((a).rel.length) c1, .slice U1 ((a).pre.length) d1], 24⟩ :: (o2 ++ (o1)))))) (List.append_assoc _ _ _).symm ?_
        refine h_one 24 (by kernel_rfl) ?_
        refine hs_call (o8 ++ ([] : List Blk)) _ (k := 16) (args := #[.agg #[.slice V8 ((allT).rel.length) c8, .slice U8 ((allT).pre.length) d8], verV u]) (.bool true) rfl (by kernel_rfl) (fun _ => by kernel_rfl) (fun w hO => ret_b (setHas_all mu) (sHas_any V8 U8 c8 d8 allT u w (SetO.inn hr8 hO (fun x hx => by simp [hx]) (all_sf) (by decide)) su hr8.caps)) ?_
        refine h_take 25 (o8 ++ ([] : List Blk)) _ (.bool true) rfl (by kernel_rfl) (by kernel_rfl) (by kernel_rfl) (pq_seq pq_body) (by kernel_rfl) (fun _ _ => by kernel_rfl) ?_
        refine h_take 26 (o8 ++ ([] : List Blk)) _ (.bool true) rfl (by kernel_rfl) (by kernel_rfl) (by kernel_rfl) (pq_seq pq_body) (by kernel_rfl) (fun _ _ => by kernel_rfl) ?_
        refine h_load 28 (o8 ++ ([] : List Blk)) _ 0 ⟨b3, (verV u).cells, 26⟩ (off := 0) (verV u) rfl (by kernel_rfl) (by kernel_rfl) (by kernel_rfl) (pq_seq pq_body) (by kernel_rfl) rfl (by kernel_rfl) (by kernel_rfl) (by kernel_rfl) ?_
        refine h_one 27 (by kernel_rfl) ?_
        refine hs_call (o8 ++ ([] : List Blk)) _ (k := 37) (args := #[]) (.agg #[.slice none 0 0, .slice none 0 0]) rfl (by kernel_rfl) (fun _ => by kernel_rfl) (fun w _ => sNone_any w) ?_
        refine h_one 29 (by kernel_rfl) ?_
        refine hs_call (o8 ++ ([] : List Blk)) _ (k := 16) (args := #[.agg #[.slice none 0 0, .slice none 0 0], verV u]) (.bool false) rfl (by kernel_rfl) (fun _ => by kernel_rfl) (fun w hO => ret_b (setHas_none) (sHas_any none none 0 0 noneT u w (none_in _ _) su ⟨Nat.le_refl 0, Nat.le_refl 0⟩)) ?_
        refine h_take 30 (o8 ++ ([] : List Blk)) _ (.bool true) rfl (by kernel_rfl) (by kernel_rfl) (by kernel_rfl) (pq_seq pq_body) (by kernel_rfl) (fun _ _ => by kernel_rfl) ?_
        refine h_take 31 (o8 ++ ([] : List Blk)) _ (.bool true) rfl (by kernel_rfl) (by kernel_rfl) (by kernel_rfl) (pq_seq pq_body) (by kernel_rfl) (fun _ _ => by kernel_rfl) ?_
        refine h_take 32 (o8 ++ ([] : List Blk)) _ (.bool true) rfl (by kernel_rfl) (by kernel_rfl) (by kernel_rfl) (pq_seq pq_body) (by kernel_rfl) (fun _ _ => by kernel_rfl) ?_
        refine h_drop (o8 ++ ([] : List Blk)) ?_
        refine h_done (by kernel_rfl) ?_
        refine fin_seq ?_
        refine ok_ret ?_
        refine fin_ret (.bool true) Tryz.results5 (by kernel_rfl) ?_
        exact fun w hO => ⟨rfl, hO.below⟩
    | false =>
      refine q_call (k := 16) (args := #[.agg #[.slice V1 ((a).rel.length) c1, .slice U1 ((a).pre.length) d1], verV u]) (.bool true) (by kernel_rfl) (fun _ => by kernel_rfl) (fun w hO => ret_b (h1) (sHas_any V1 U1 c1 d1 a u w (SetO.inn hr1 hO (fun x hx => by simp [hx]) (fa) (by decide)) su hr1.caps)) ?_
      refine q_load 1 ⟨b2, #[.slice V2 ((b).rel.length) c2, .slice U2 ((b).pre.length) d2], 24⟩ (off := 0) (.agg #[.slice V2 ((b).rel.length) c2, .slice U2 ((b).pre.length) d2]) (by kernel_rfl) rfl (by kernel_rfl) (by kernel_rfl) (by kernel_rfl) ?_
      refine q_load 0 ⟨b3, (verV u).cells, 26⟩ (off := 0) (verV u) (by kernel_rfl) rfl (by kernel_rfl) (by kernel_rfl) (by kernel_rfl) ?_
      refine q_call (k := 16) (args := #[.agg #[.slice V2 ((b).rel.length) c2, .slice U2 ((b).pre.length) d2], verV u]) (.bool false) (by kernel_rfl) (fun _ => by kernel_rfl) (fun w hO => ret_b (h2) (sHas_any V2 U2 c2 d2 b u w (SetO.inn hr2 hO (fun x hx => by simp [hx]) (fb) (by decide)) su hr2.caps)) ?_
      refine q_val (.bool true) (by kernel_rfl) (fun _ => by kernel_rfl) ?_
      refine q_val (.bool false) (by kernel_rfl) (fun _ => by kernel_rfl) ?_
      refine q_nil ?_
      refine fin_seq ?_
      refine ok_seq ?_
      refine ok_anyh (by kernel_rfl) ?_
      refine h_load 0 [] _ 2 ⟨b1, #[.slice V1 ((a).rel.length) c1, .slice U1 ((a).pre.length) d1], 24⟩ (off := 0) (.agg #[.slice V1 ((a).rel.length) c1, .slice U1 ((a).pre.length) d1]) rfl (by kernel_rfl) (by kernel_rfl) (by kernel_rfl) (pq_seq pq_body) (by kernel_rfl) rfl (by kernel_rfl) (by kernel_rfl) (by kernel_rfl) ?_
      refine h_load 1 [] _ 1 ⟨b2, #[.slice V2 ((b).rel.length) c2, .slice U2 ((b).pre.length) d2], 24⟩ (off := 0) (.agg #[.slice V2 ((b).rel.length) c2, .slice U2 ((b).pre.length) d2]) rfl (by kernel_rfl) (by kernel_rfl) (by kernel_rfl) (pq_seq pq_body) (by kernel_rfl) rfl (by kernel_rfl) (by kernel_rfl) (by kernel_rfl) ?_
      refine h_load 3 [] _ 0 ⟨b3, (verV u).cells, 26⟩ (off := 0) (verV u) rfl (by kernel_rfl) (by kernel_rfl) (by kernel_rfl) (pq_seq pq_body) (by kernel_rfl) rfl (by kernel_rfl) (by kernel_rfl) (by kernel_rfl) ?_
      refine h_take 5 [] _ (.bool true) rfl (by kernel_rfl) (by kernel_rfl) (by kernel_rfl) (pq_seq pq_body) (by kernel_rfl) (fun _ _ => by kernel_rfl) ?_
      refine h_one 2 (by kernel_rfl) ?_
      refine hl_callx _ (k := 21) (args := #[.agg #[.slice V1 ((a).rel.length) c1, .slice U1 ((a).pre.length) d1], .agg #[.slice V2 ((b).rel.length) c2, .slice U2 ((b).pre.length) d2]]) (fun v' L' => ∃ ob', L' = ob' ++ ([] ++ (⟨b3, (verV u).cells, 26⟩ :: (⟨b2, #[.slice V2 ((b).rel.length) c2, .slice U2 ((b).pre.length) d2], 24⟩ :: (⟨b1, #[.slice V1 ((a).rel.length) c1, .slice U1 ((a).pre.length) d1], 24⟩ :: (o2 ++ (o1)))))) ∧ SetO v' (orT a b) ob') rfl (by kernel_rfl) (fun _ => by kernel_rfl) (fun w hO => (sOr_any V1 U1 V2 U2 c1 d1 c2 d2 a b w (SetO.inn hr1 hO (fun x hx => by simp [hx]) (fa) (by decide)) (SetO.inn hr2 hO (fun x hx => by simp [hx]) (fb) (by decide)) hr1.caps hr2.caps).mono fun e w' ⟨v', ob', k1, k2, k3⟩ => ⟨v', _, k1, ⟨ob', rfl, by rw [if_pos (by rw [(fa).may, (fb).may]; rfl)] at k2; exact k2⟩, Own.joinN hO k3⟩) (fun v' L' ⟨ob', e, _⟩ w hO => by subst e; exact Own.sub [] (Own.sub ob' hO)) (fun v9 L2 hv2 => ?_)
      obtain ⟨o9, rfl, hr9⟩ := hv2
      obtain ⟨V9, U9, c9, d9, rfl⟩ := hr9.form
      refine h_cast (L' := (o9 ++ ([] : List Blk)) ++ (⟨b3, (verV u).cells, 26⟩ :: (⟨b2, #[.slice V2 ((b).rel.length) c2, .slice U2 ((b).pre.length) d2], 24⟩ :: (⟨b1, #[.slice V1 ((a).rel.length) c1, .slice U1 ((a).pre.length) d1], 24⟩ :: (o2 ++ (o1)))))) (List.append_assoc _ _ _).symm ?_
      refine h_one 4 (by kernel_rfl) ?_
      refine hs_call (o9 ++ ([] : List Blk)) _ (k := 16) (args := #[.agg #[.slice V9 ((orT a b).rel.length) c9, .slice U9 ((orT a b).pre.length) d9], verV u]) (.bool true) rfl (by kernel_rfl) (fun _ => by kernel_rfl) (fun w hO => ret_b (by rw [setHas_or fa fb mu, h1, h2]; rfl) (sHas_any V9 U9 c9 d9 (orT a b) u w (SetO.inn hr9 hO (fun x hx => by simp [hx]) ((fa).or (fb)) (by decide)) su hr9.caps)) ?_
      refine h_take 6 (o9 ++ ([] : List Blk)) _ (.bool true) rfl (by kernel_rfl) (by kernel_rfl) (by kernel_rfl) (pq_seq pq_body) (by kernel_rfl) (fun _ _ => by kernel_rfl) ?_
      refine h_skip 7 (o9 ++ ([] : List Blk)) _ rfl (by kernel_rfl) (by kernel_rfl) (by kernel_rfl) (pq_seq pq_body) (by kernel_rfl) ?_
      refine h_take 8 (o9 ++ ([] : List Blk)) _ (.bool true) rfl (by kernel_rfl) (by kernel_rfl) (by kernel_rfl) (pq_seq pq_body) (by kernel_rfl) (fun _ _ => by kernel_rfl) ?_
      refine h_take 9 (o9 ++ ([] : List Blk)) _ (.bool true) rfl (by kernel_rfl) (by kernel_rfl) (by kernel_rfl) (pq_seq pq_body) (by kernel_rfl) (fun _ _ => by kernel_rfl) ?_
      refine h_take 10 (o9 ++ ([] : List Blk)) _ (.bool true) rfl (by kernel_rfl) (by kernel_rfl) (by kernel_rfl) (pq_seq pq_body) (by kernel_rfl) (fun _ _ => by kernel_rfl) ?_
      refine h_load 11 (o9 ++ ([] : List Blk)) _ 2 ⟨b1, #[.slice V1 ((a).rel.length) c1, .slice U1 ((a).pre.length) d1], 24⟩ (off := 0) (.agg #[.slice V1 ((a).rel.length) c1, .slice U1 ((a).pre.length) d1]) rfl (by kernel_rfl) (by kernel_rfl) (by kernel_rfl) (pq_seq pq_body) (by kernel_rfl) rfl (by kernel_rfl) (by kernel_rfl) (by kernel_rfl) ?_
      refine h_load 12 (o9 ++ ([] : List Blk)) _ 1 ⟨b2, #[.slice V2 ((b).rel.length) c2, .slice U2 ((b).pre.length) d2], 24⟩ (off := 0) (.agg #[.slice V2 ((b).rel.length) c2, .slice U2 ((b).pre.length) d2]) rfl (by kernel_rfl) (by kernel_rfl) (by kernel_rfl) (pq_seq pq_body) (by kernel_rfl) rfl (by kernel_rfl) (by kernel_rfl) (by kernel_rfl) ?_
      refine h_load 14 (o9 ++ ([] : List Blk)) _ 0 ⟨b3, (verV u).cells, 26⟩ (off := 0) (verV u) rfl (by kernel_rfl) (by kernel_rfl) (by kernel_rfl) (pq_seq pq_body) (by kernel_rfl) rfl (by kernel_rfl) (by kernel_rfl) (by kernel_rfl) ?_
      refine h_take 16 (o9 ++ ([] : List Blk)) _ (.bool true) rfl (by kernel_rfl) (by kernel_rfl) (by kernel_rfl) (pq_seq pq_body) (by kernel_rfl) (fun _ _ => by kernel_rfl) ?_
      refine h_one 13 (by kernel_rfl) ?_
      refine hl_callx _ (k := 23) (args := #[.agg #[.slice V1 ((a).rel.length) c1, .slice U1 ((a).pre.length) d1], .agg #[.slice V2 ((b).rel.length) c2, .slice U2 ((b).pre.length) d2]]) (fun v' L' => ∃ ob', L' = ob' ++ ((o9 ++ ([] : List Blk)) ++ (⟨b3, (verV u).cells, 26⟩ :: (⟨b2, #[.slice V2 ((b).rel.length) c2, .slice U2 ((b).pre.length) d2], 24⟩ :: (⟨b1, #[.slice V1 ((a).rel.length) c1, .slice U1 ((a).pre.length) d1], 24⟩ :: (o2 ++ (o1)))))) ∧ SetO v' (andT a b) ob') rfl (by kernel_rfl) (fun _ => by kernel_rfl) (fun w hO => (sAnd_any V1 U1 V2 U2 c1 d1 c2 d2 a b w (SetO.inn hr1 hO (fun x hx => by simp [hx]) (fa) (by decide)) (SetO.inn hr2 hO (fun x hx => by simp [hx]) (fb) (by decide)) hr1.caps hr2.caps).mono fun e w' ⟨v', ob', k1, k2, k3⟩ => ⟨v', _, k1, ⟨ob', rfl, by rw [if_pos (by rw [(fa).may, (fb).may]; rfl)] at k2; exact k2⟩, Own.joinN hO k3⟩) (fun v' L' ⟨ob', e, _⟩ w hO => by subst e; exact Own.sub (o9 ++ ([] : List Blk)) (Own.sub ob' hO)) (fun v10 L2 hv2 => ?_)
      obtain ⟨o10, rfl, hr10⟩ := hv2
      obtain ⟨V10, U10, c10, d10, rfl⟩ := hr10.form
      refine h_cast (L' := (o10 ++ (o9 ++ ([] : List Blk))) ++ (⟨b3, (verV u).cells, 26⟩ :: (⟨b2, #[.slice V2 ((b).rel.length) c2, .slice U2 ((b).pre.length) d2], 24⟩ :: (⟨b1, #[.slice V1 ((a).rel.length) c1, .slice U1 ((a).pre.length) d1], 24⟩ :: (o2 ++ (o1)))))) (List.append_assoc _ _ _).symm ?_
      refine h_one 15 (by kernel_rfl) ?_
      refine hs_call (o10 ++ (o9 ++ ([] : List Blk))) _ (k := 16) (args := #[.agg #[.slice V10 ((andT a b).rel.length) c10, .slice U10 ((andT a b).pre.length) d10], verV u]) (.bool false) rfl (by kernel_rfl) (fun _ => by kernel_rfl) (fun w hO => ret_b (by rw [setHas_and fa fb mu, h1, h2]; rfl) (sHas_any V10 U10 c10 d10 (andT a b) u w (SetO.inn hr10 hO (fun x hx => by simp [hx]) ((fa).and (fb)) (by decide)) su hr10.caps)) ?_
      refine h_take 17 (o10 ++ (o9 ++ ([] : List Blk))) _ (.bool true) rfl (by kernel_rfl) (by kernel_rfl) (by kernel_rfl) (pq_seq pq_body) (by kernel_rfl) (fun _ _ => by kernel_rfl) ?_
      refine h_take 18 (o10 ++ (o9 ++ ([] : List Blk))) _ (.bool false) rfl (by kernel_rfl) (by kernel_rfl) (by kernel_rfl) (pq_seq pq_body) (by kernel_rfl) (fun _ _ => by kernel_rfl) ?_
      refine h_take 19 (o10 ++ (o9 ++ ([] : List Blk))) _ (.bool false) rfl (by kernel_rfl) (by kernel_rfl) (by kernel_rfl) (pq_seq pq_body) (by kernel_rfl) (fun _ _ => by kernel_rfl) ?_
      refine h_take 20 (o10 ++ (o9 ++ ([] : List Blk))) _ (.bool true) rfl (by kernel_rfl) (by kernel_rfl) (by kernel_rfl) (pq_seq pq_body) (by kernel_rfl) (fun _ _ => by kernel_rfl) ?_
      refine h_take 21 (o10 ++ (o9 ++ ([] : List Blk))) _ (.bool true) rfl (by kernel_rfl) (by kernel_rfl) (by kernel_rfl) (pq_seq pq_body) (by kernel_rfl) (fun _ _ => by kernel_rfl) ?_
      refine h_take 22 (o10 ++ (o9 ++ ([] : List Blk))) _ (.bool true) rfl (by kernel_rfl) (by kernel_rfl) (by kernel_rfl) (pq_seq pq_body) (by kernel_rfl) (fun _ _ => by kernel_rfl) ?_
      refine h_load 23 (o10 ++ (o9 ++ ([] : List Blk))) _ 2 ⟨b1, #[.slice V1 ((a).rel.length) c1, .slice U1 ((a).pre.length) d1], 24⟩ (off := 0) (.agg #[.slice V1 ((a).rel.length) c1, .slice U1 ((a).pre.length) d1]) rfl (by kernel_rfl) (by kernel_rfl) (by kernel_rfl) (pq_seq pq_body) (by kernel_rfl) rfl (by kernel_rfl) (by kernel_rfl) (by kernel_rfl) ?_
      refine h_load 25 (o10 ++ (o9 ++ ([] : List Blk))) _ 0 ⟨b3, (verV u).cells, 26⟩ (off := 0) (verV u) rfl (by kernel_rfl) (by kernel_rfl) (by kernel_rfl) (pq_seq pq_body) (by kernel_rfl) rfl (by kernel_rfl) (by kernel_rfl) (by kernel_rfl) ?_
      refine h_take 27 (o10 ++ (o9 ++ ([] : List Blk))) _ (.bool true) rfl (by kernel_rfl) (by kernel_rfl) (by kernel_rfl) (pq_seq pq_body) (by kernel_rfl) (fun _ _ => by kernel_rfl) ?_
      refine h_take 28 (o10 ++ (o9 ++ ([] : List Blk))) _ (.bool false) rfl (by kernel_rfl) (by kernel_rfl) (by kernel_rfl) (pq_seq pq_body) (by kernel_rfl) (fun _ _ => by kernel_rfl) ?_
      refine h_one 24 (by kernel_rfl) ?_
      refine hl_callx _ (k := 25) (args := #[.agg #[.slice V1 ((a).rel.length) c1, .slice U1 ((a).pre.length) d1]]) (fun v' L' => ∃ ob', L' = ob' ++ ((o10 ++ (o9 ++ ([] : List Blk))) ++ (⟨b3, (verV u).cells, 26⟩ :: (⟨b2, #[.slice V2 ((b).rel.length) c2, .slice U2 ((b).pre.length) d2], 24⟩ :: (⟨b1, #[.slice V1 ((a).rel.length) c1, .slice U1 ((a).pre.length) d1], 24⟩ :: (o2 ++ (o1)))))) ∧ SetO v' (notT a) ob') rfl (by kernel_rfl) (fun _ => by kernel_rfl) (fun w hO => (sNot_any V1 U1 c1 d1 a w (SetO.inn hr1 hO (fun x hx => by simp [hx]) (fa) (by decide)) hr1.caps).mono fun e w' ⟨v', ob', k1, k2, k3⟩ => ⟨v', _, k1, ⟨ob', rfl, by rw [if_pos (fa).may] at k2; exact k2⟩, Own.joinN hO k3⟩) (fun v' L' ⟨ob', e, _⟩ w hO => by subst e; exact Own.sub (o10 ++ (o9 ++ ([] : List Blk))) (Own.sub ob' hO)) (fun v11 L2 hv2 => ?_)
      obtain ⟨o11, rfl, hr11⟩ := hv2
      obtain ⟨V11, U11, c11, d11, rfl⟩ := hr11.form
      refine h_cast (L' := (o11 ++ (o10 ++ (o9 ++ ([] : List Blk)))) ++ (⟨b3, (verV u).cells, 26⟩ :: (⟨b2, #[.slice V2 ((b).rel.length) c2, .slice U2 ((b).pre.length) d2], 24⟩ :: (⟨b1, #[.slice V1 ((a).rel.length) c1, .slice U1 ((a).pre.length) d1], 24⟩ :: (o2 ++ (o1)))))) (List.append_assoc _ _ _).symm ?_
      refine h_one 26 (by kernel_rfl) ?_
      refine hs_call (o11 ++ (o10 ++ (o9 ++ ([] : List Blk)))) _ (k := 16) (args := #[.agg #[.slice V11 ((notT a).rel.length) c11, .slice U11 ((notT a).pre.length) d11], verV u]) (.bool false) rfl (by kernel_rfl) (fun _ => by kernel_rfl) (fun w hO => ret_b (by rw [setHas_not fa mu, h1]; rfl) (sHas_any V11 U11 c11 d11 (notT a) u w (SetO.inn hr11 hO (fun x hx => by simp [hx]) ((fa).not) (by decide)) su hr11.caps)) ?_
      refine h_take 29 (o11 ++ (o10 ++ (o9 ++ ([] : List Blk)))) _ (.bool true) rfl (by kernel_rfl) (by kernel_rfl) (by kernel_rfl) (pq_seq pq_body) (by kernel_rfl) (fun _ _ => by kernel_rfl) ?_
      refine h_take 30 (o11 ++ (o10 ++ (o9 ++ ([] : List Blk)))) _ (.bool true) rfl (by kernel_rfl) (by kernel_rfl) (by kernel_rfl) (pq_seq pq_body) (by kernel_rfl) (fun _ _ => by kernel_rfl) ?_
      refine h_take 31 (o11 ++ (o10 ++ (o9 ++ ([] : List Blk)))) _ (.bool true) rfl (by kernel_rfl) (by kernel_rfl) (by kernel_rfl) (pq_seq pq_body) (by kernel_rfl) (fun _ _ => by kernel_rfl) ?_
      refine h_load 32 (o11 ++ (o10 ++ (o9 ++ ([] : List Blk)))) _ 2 ⟨b1, #[.slice V1 ((a).rel.length) c1, .slice U1 ((a).pre.length) d1], 24⟩ (off := 0) (.agg #[.slice V1 ((a).rel.length) c1, .slice U1 ((a).pre.length) d1]) rfl (by kernel_rfl) (by kernel_rfl) (by kernel_rfl) (pq_seq pq_body) (by kernel_rfl) rfl (by kernel_rfl) (by kernel_rfl) (by kernel_rfl) ?_
      refine h_load 33 (o11 ++ (o10 ++ (o9 ++ ([] : List Blk)))) _ 1 ⟨b2, #[.slice V2 ((b).rel.length) c2, .slice U2 ((b).pre.length) d2], 24⟩ (off := 0) (.agg #[.slice V2 ((b).rel.length) c2, .slice U2 ((b).pre.length) d2]) rfl (by kernel_rfl) (by kernel_rfl) (by kernel_rfl) (pq_seq pq_body) (by kernel_rfl) rfl (by kernel_rfl) (by kernel_rfl) (by kernel_rfl) ?_
      refine h_load 35 (o11 ++ (o10 ++ (o9 ++ ([] : List Blk)))) _ 0 ⟨b3, (verV u).cells, 26⟩ (off := 0) (verV u) rfl (by kernel_rfl) (by kernel_rfl) (by kernel_rfl) (pq_seq pq_body) (by kernel_rfl) rfl (by kernel_rfl) (by kernel_rfl) (by kernel_rfl) ?_
      refine h_take 37 (o11 ++ (o10 ++ (o9 ++ ([] : List Blk)))) _ (.bool true) rfl (by kernel_rfl) (by kernel_rfl) (by kernel_rfl) (pq_seq pq_body) (by kernel_rfl) (fun _ _ => by kernel_rfl) ?_
      refine h_one 34 (by kernel_rfl) ?_
      refine hl_callx _ (k := 27) (args := #[.agg #[.slice V1 ((a).rel.length) c1, .slice U1 ((a).pre.length) d1], .agg #[.slice V2 ((b).rel.length) c2, .slice U2 ((b).pre.length) d2]]) (fun v' L' => ∃ ob', L' = ob' ++ ((o11 ++ (o10 ++ (o9 ++ ([] : List Blk)))) ++ (⟨b3, (verV u).cells, 26⟩ :: (⟨b2, #[.slice V2 ((b).rel.length) c2, .slice U2 ((b).pre.length) d2], 24⟩ :: (⟨b1, #[.slice V1 ((a).rel.length) c1, .slice U1 ((a).pre.length) d1], 24⟩ :: (o2 ++ (o1)))))) ∧ SetO v' (minusT a b) ob') rfl (by kernel_rfl) (fun _ => by kernel_rfl) (fun w hO => (sMinus_any V1 U1 V2 U2 c1 d1 c2 d2 a b w (SetO.inn hr1 hO (fun x hx => by simp [hx]) (fa) (by decide)) (SetO.inn hr2 hO (fun x hx => by simp [hx]) (fb) (by decide)) hr1.caps hr2.caps (Nat.le_trans (fb).rel.len (by decide)) (Nat.le_trans (fb).pre.len (by decide))).mono fun e w' ⟨v', ob', k1, k2, k3⟩ => ⟨v', _, k1, ⟨ob', rfl, by rw [if_pos (by rw [(fa).may, (fb).may]; rfl)] at k2; exact k2⟩, Own.joinN hO k3⟩) (fun v' L' ⟨ob', e, _⟩ w hO => by subst e; exact Own.sub (o11 ++ (o10 ++ (o9 ++ ([] : List Blk)))) (Own.sub ob' hO)) (fun v12 L2 hv2 => ?_)
      obtain ⟨o12, rfl, hr12⟩ := hv2
      obtain ⟨V12, U12, c12, d12, rfl⟩ := hr12.form
      refine h_cast (L' := (o12 ++ (o11 ++ (o10 ++ (o9 ++ ([] : List Blk))))) ++ (⟨b3, (verV u).cells, 26⟩ :: (⟨b2, #[.slice V2 ((b).rel.length) c2, .slice U2 ((b).pre.length) d2], 24⟩ :: (⟨b1, #[.slice V1 ((a).rel.length) c1, .slice U1 ((a).pre.length) d1], 24⟩ :: (o2 ++ (o1)))))) (List.append_assoc _ _ _).symm ?_
      refine h_one 36 (by kernel_rfl) ?_
      refine hs_call (o12 ++ (o11 ++ (o10 ++ (o9 ++ ([] : List Blk))))) _ (k := 16) (args := #[.agg #[.slice V12 ((minusT a b).rel.length) c12, .slice U12 ((minusT a b).pre.length) d12], verV u]) (.bool true) rfl (by kernel_rfl) (fun _ => by kernel_rfl) (fun w hO => ret_b (by rw [setHas_minus fa fb mu, h1, h2]; rfl) (sHas_any V12 U12 c12 d12 (minusT a b) u w (SetO.inn hr12 hO (fun x hx => by simp [hx]) ((fa).minus (fb)) (by decide)) su hr12.caps)) ?_
      refine h_take 38 (o12 ++ (o11 ++ (o10 ++ (o9 ++ ([] : List Blk))))) _ (.bool true) rfl (by kernel_rfl) (by kernel_rfl) (by kernel_rfl) (pq_seq pq_body) (by kernel_rfl) (fun _ _ => by kernel_rfl) ?_
      refine h_take 39 (o12 ++ (o11 ++ (o10 ++ (o9 ++ ([] : List Blk))))) _ (.bool false) rfl (by kernel_rfl) (by kernel_rfl) (by kernel_rfl) (pq_seq pq_body) (by kernel_rfl) (fun _ _ => by kernel_rfl) ?_
      refine h_take 40 (o12 ++ (o11 ++ (o10 ++ (o9 ++ ([] : List Blk))))) _ (.bool true) rfl (by kernel_rfl) (by kernel_rfl) (by kernel_rfl) (pq_seq pq_body) (by kernel_rfl) (fun _ _ => by kernel_rfl) ?_
      refine h_take 41 (o12 ++ (o11 ++ (o10 ++ (o9 ++ ([] : List Blk))))) _ (.bool true) rfl (by kernel_rfl) (by kernel_rfl) (by kernel_rfl) (pq_seq pq_body) (by kernel_rfl) (fun _ _ => by kernel_rfl) ?_
      refine h_take 42 (o12 ++ (o11 ++ (o10 ++ (o9 ++ ([] : List Blk))))) _ (.bool true) rfl (by kernel_rfl) (by kernel_rfl) (by kernel_rfl) (pq_seq pq_body) (by kernel_rfl) (fun _ _ => by kernel_rfl) ?_
      refine h_take 43 (o12 ++ (o11 ++ (o10 ++ (o9 ++ ([] : List Blk))))) _ (.bool true) rfl (by kernel_rfl) (by kernel_rfl) (by kernel_rfl) (pq_seq pq_body) (by kernel_rfl) (fun _ _ => by kernel_rfl) ?_
      refine h_take 44 (o12 ++ (o11 ++ (o10 ++ (o9 ++ ([] : List Blk))))) _ (.bool true) rfl (by kernel_rfl) (by kernel_rfl) (by kernel_rfl) (pq_seq pq_body) (by kernel_rfl) (fun _ _ => by kernel_rfl) ?_
      refine h_drop (o12 ++ (o11 ++ (o10 ++ (o9 ++ ([] : List Blk))))) ?_
      refine h_done (by kernel_rfl) ?_
      refine fin_seq ?_
      refine ok_seq ?_
      refine ok_region ?_
      refine s_load 2 ⟨b1, #[.slice V1 ((a).rel.length) c1, .slice U1 ((a).pre.length) d1], 24⟩ (off := 0) (.agg #[.slice V1 ((a).rel.length) c1, .slice U1 ((a).pre.length) d1]) (by kernel_rfl) rfl (by kernel_rfl) (by kernel_rfl) (by kernel_rfl) ?_
      refine s_load 1 ⟨b2, #[.slice V2 ((b).rel.length) c2, .slice U2 ((b).pre.length) d2], 24⟩ (off := 0) (.agg #[.slice V2 ((b).rel.length) c2, .slice U2 ((b).pre.length) d2]) (by kernel_rfl) rfl (by kernel_rfl) (by kernel_rfl) (by kernel_rfl) ?_
      refine s_call (k := 29) (args := #[.agg #[.slice V1 ((a).rel.length) c1, .slice U1 ((a).pre.length) d1], .agg #[.slice V2 ((b).rel.length) c2, .slice U2 ((b).pre.length) d2]]) (.bool false) (by kernel_rfl) (fun _ => by kernel_rfl) (fun w hO => ret_b ((within_b fa fb).trans (decide_eq_false (fun q0 => by have q9 := setHas_and fa fb mu; rw [q0, h1, h2] at q9; cases q9))) (sWithin_any V1 U1 V2 U2 c1 d1 c2 d2 a b w (SetO.inn hr1 hO (fun x hx => by simp [hx]) (fa) (by decide)) (SetO.inn hr2 hO (fun x hx => by simp [hx]) (fb) (by decide)) hr1.caps hr2.caps)) ?_
      refine s_val (.bool true) (by kernel_rfl) (fun _ => by kernel_rfl) ?_
      refine s_val (.bool true) (by kernel_rfl) (fun _ => by kernel_rfl) ?_
      refine s_skip (by kernel_rfl) ?_
      refine s_skip (by kernel_rfl) ?_
      refine s_val (.bool true) (by kernel_rfl) (fun _ => by kernel_rfl) ?_
      refine s_val (.bool true) (by kernel_rfl) (fun _ => by kernel_rfl) ?_
      refine s_skip (by kernel_rfl) ?_
      refine s_val (.bool true) (by kernel_rfl) (fun _ => by kernel_rfl) ?_
      refine s_val (.bool true) (by kernel_rfl) (fun _ => by kernel_rfl) ?_
      refine s_nil ?_
      refine fin_seq ?_
      refine ok_seq ?_
      refine ok_anyh (by kernel_rfl) ?_
      refine h_one 0 (by kernel_rfl) ?_
      refine hs_call [] _ (k := 11) (args := #[]) (.bool true) rfl (by kernel_rfl) (fun _ => by kernel_rfl) (fun w _ => awake5_any w) ?_
      refine h_take 1 [] _ (.bool true) rfl (by kernel_rfl) (by kernel_rfl) (by kernel_rfl) (pq_seq pq_body) (by kernel_rfl) (fun _ _ => by kernel_rfl) ?_
      refine h_take 2 [] _ (.bool true) rfl (by kernel_rfl) (by kernel_rfl) (by kernel_rfl) (pq_seq pq_body) (by kernel_rfl) (fun _ _ => by kernel_rfl) ?_
      refine h_take 3 [] _ (.bool true) rfl (by kernel_rfl) (by kernel_rfl) (by kernel_rfl) (pq_seq pq_body) (by kernel_rfl) (fun _ _ => by kernel_rfl) ?_
      refine h_take 4 [] _ (.bool true) rfl (by kernel_rfl) (by kernel_rfl) (by kernel_rfl) (pq_seq pq_body) (by kernel_rfl) (fun _ _ => by kernel_rfl) ?_
      refine h_take 5 [] _ (.bool true) rfl (by kernel_rfl) (by kernel_rfl) (by kernel_rfl) (pq_seq pq_body) (by kernel_rfl) (fun _ _ => by kernel_rfl) ?_
      refine h_take 6 [] _ (.bool true) rfl (by kernel_rfl) (by kernel_rfl) (by kernel_rfl) (pq_seq pq_body) (by kernel_rfl) (fun _ _ => by kernel_rfl) ?_
      refine h_take 7 [] _ (.bool true) rfl (by kernel_rfl) (by kernel_rfl) (by kernel_rfl) (pq_seq pq_body) (by kernel_rfl) (fun _ _ => by kernel_rfl) ?_
      refine h_load 8 [] _ 2 ⟨b1, #[.slice V1 ((a).rel.length) c1, .slice U1 ((a).pre.length) d1], 24⟩ (off := 0) (.agg #[.slice V1 ((a).rel.length) c1, .slice U1 ((a).pre.length) d1]) rfl (by kernel_rfl) (by kernel_rfl) (by kernel_rfl) (pq_seq pq_body) (by kernel_rfl) rfl (by kernel_rfl) (by kernel_rfl) (by kernel_rfl) ?_
      refine h_load 9 [] _ 1 ⟨b2, #[.slice V2 ((b).rel.length) c2, .slice U2 ((b).pre.length) d2], 24⟩ (off := 0) (.agg #[.slice V2 ((b).rel.length) c2, .slice U2 ((b).pre.length) d2]) rfl (by kernel_rfl) (by kernel_rfl) (by kernel_rfl) (pq_seq pq_body) (by kernel_rfl) rfl (by kernel_rfl) (by kernel_rfl) (by kernel_rfl) ?_
      by_cases h4 : andT a b = noneT
      · skip
        refine h_one 10 (by kernel_rfl) ?_
        refine hs_call [] _ (k := 31) (args := #[.agg #[.slice V1 ((a).rel.length) c1, .slice U1 ((a).pre.length) d1], .agg #[.slice V2 ((b).rel.length) c2, .slice U2 ((b).pre.length) d2]]) (.bool true) rfl (by kernel_rfl) (fun _ => by kernel_rfl) (fun w hO => ret_b ((apart_b fa fb).trans (decide_eq_true (h4))) (sApart_any V1 U1 V2 U2 c1 d1 c2 d2 a b w (SetO.inn hr1 hO (fun x hx => by simp [hx]) (fa) (by decide)) (SetO.inn hr2 hO (fun x hx => by simp [hx]) (fb) (by decide)) hr1.caps hr2.caps (Nat.le_trans (fa).rel.len (by decide)) (Nat.le_trans (fa).pre.len (by decide)) (Nat.le_trans (fb).rel.len (by decide)) (Nat.le_trans (fb).pre.len (by decide)))) ?_
        refine h_take 11 [] _ (.bool false) rfl (by kernel_rfl) (by kernel_rfl) (by kernel_rfl) (pq_seq pq_body) (by kernel_rfl) (fun _ _ => by kernel_rfl) ?_
        refine h_take 12 [] _ (.bool false) rfl (by kernel_rfl) (by kernel_rfl) (by kernel_rfl) (pq_seq pq_body) (by kernel_rfl) (fun _ _ => by kernel_rfl) ?_
        refine h_take 13 [] _ (.bool true) rfl (by kernel_rfl) (by kernel_rfl) (by kernel_rfl) (pq_seq pq_body) (by kernel_rfl) (fun _ _ => by kernel_rfl) ?_
        refine h_take 14 [] _ (.bool false) rfl (by kernel_rfl) (by kernel_rfl) (by kernel_rfl) (pq_seq pq_body) (by kernel_rfl) (fun _ _ => by kernel_rfl) ?_
        refine h_take 15 [] _ (.bool false) rfl (by kernel_rfl) (by kernel_rfl) (by kernel_rfl) (pq_seq pq_body) (by kernel_rfl) (fun _ _ => by kernel_rfl) ?_
        refine h_take 16 [] _ (.bool false) rfl (by kernel_rfl) (by kernel_rfl) (by kernel_rfl) (pq_seq pq_body) (by kernel_rfl) (fun _ _ => by kernel_rfl) ?_
        refine h_take 17 [] _ (.bool false) rfl (by kernel_rfl) (by kernel_rfl) (by kernel_rfl) (pq_seq pq_body) (by kernel_rfl) (fun _ _ => by kernel_rfl) ?_
        refine h_take 18 [] _ (.bool true) rfl (by kernel_rfl) (by kernel_rfl) (by kernel_rfl) (pq_seq pq_body) (by kernel_rfl) (fun _ _ => by kernel_rfl) ?_
        refine h_take 19 [] _ (.bool true) rfl (by kernel_rfl) (by kernel_rfl) (by kernel_rfl) (pq_seq pq_body) (by kernel_rfl) (fun _ _ => by kernel_rfl) ?_
        refine h_take 20 [] _ (.bool true) rfl (by kernel_rfl) (by kernel_rfl) (by kernel_rfl) (pq_seq pq_body) (by kernel_rfl) (fun _ _ => by kernel_rfl) ?_
        refine h_take 21 [] _ (.bool true) rfl (by kernel_rfl) (by kernel_rfl) (by kernel_rfl) (pq_seq pq_body) (by kernel_rfl) (fun _ _ => by kernel_rfl) ?_
        refine h_load 23 [] _ 0 ⟨b3, (verV u).cells, 26⟩ (off := 0) (verV u) rfl (by kernel_rfl) (by kernel_rfl) (by kernel_rfl) (pq_seq pq_body) (by kernel_rfl) rfl (by kernel_rfl) (by kernel_rfl) (by kernel_rfl) ?_
        refine h_one 22 (by kernel_rfl) ?_
        refine hl_callx _ (k := 36) (args := #[]) (fun v' L' => ∃ ob', L' = ob' ++ ([] ++ (⟨b3, (verV u).cells, 26⟩ :: (⟨b2, #[.slice V2 ((b).rel.length) c2, .slice U2 ((b).pre.length) d2], 24⟩ :: (⟨b1, #[.slice V1 ((a).rel.length) c1, .slice U1 ((a).pre.length) d1], 24⟩ :: (o2 ++ (o1)))))) ∧ SetO v' (allT) ob') rfl (by kernel_rfl) (fun _ => by kernel_rfl) (fun w hO => (sAll_any w).mono fun e w' ⟨v', ob', k1, k2, k3⟩ => ⟨v', _, k1, ⟨ob', rfl, k2⟩, Own.joinN hO k3⟩) (fun v' L' ⟨ob', e, _⟩ w hO => by subst e; exact Own.sub [] (Own.sub ob' hO)) (fun v13 L2 hv2 => ?_)
        obtain ⟨o13, rfl, hr13⟩ := hv2
        obtain ⟨V13, U13, c13, d13, rfl⟩ := hr13.form
        refine h_cast (L' := (o13 ++ ([] : List Blk)) ++ (⟨b3, (verV u).cells, 26⟩ :: (⟨b2, #[.slice V2 ((b).rel.length) c2, .slice U2 ((b).pre.length) d2], 24⟩ :: (⟨b1, #[.slice V1 ((a).rel.length) c1, .slice U1 ((a).pre.length) d1], 24⟩ :: (o2 ++ (o1)))))) (List.append_assoc _ _ _).symm ?_
        refine h_one 24 (by kernel_rfl) ?_
        refine hs_call (o13 ++ ([] : List Blk)) _ (k := 16) (args := #[.agg #[.slice V13 ((allT).rel.length) c13, .slice U13 ((allT).pre.length) d13], verV u]) (.bool true) rfl (by kernel_rfl) (fun _ => by kernel_rfl) (fun w hO => ret_b (setHas_all mu) (sHas_any V13 U13 c13 d13 allT u w (SetO.inn hr13 hO (fun x hx => by simp [hx]) (all_sf) (by decide)) su hr13.caps)) ?_
        refine h_take 25 (o13 ++ ([] : List Blk)) _ (.bool true) rfl (by kernel_rfl) (by kernel_rfl) (by kernel_rfl) (pq_seq pq_body) (by kernel_rfl) (fun _ _ => by kernel_rfl) ?_
        refine h_take 26 (o13 ++ ([] : List Blk)) _ (.bool true) rfl (by kernel_rfl) (by kernel_rfl) (by kernel_rfl) (pq_seq pq_body) (by kernel_rfl) (fun _ _ => by kernel_rfl) ?_
        refine h_load 28 (o13 ++ ([] : List Blk)) _ 0 ⟨b3, (verV u).cells, 26⟩ (off := 0) (verV u) rfl (by kernel_rfl) (by kernel_rfl) (by kernel_rfl) (pq_seq pq_body) (by kernel_rfl) rfl (by kernel_rfl) (by kernel_rfl) (by kernel_rfl) ?_
        refine h_one 27 (by kernel_rfl) ?_
        refine hs_call (o13 ++ ([] : List Blk)) _ (k := 37) (args := #[]) (.agg #[.slice none 0 0, .slice none 0 0]) rfl (by kernel_rfl) (fun _ => by kernel_rfl) (fun w _ => sNone_any w) ?_
        refine h_one 29 (by kernel_rfl) ?_
        refine hs_call (o13 ++ ([] : List Blk)) _ (k := 16) (args := #[.agg #[.slice none 0 0, .slice none 0 0], verV u]) (.bool false) rfl (by kernel_rfl) (fun _ => by kernel_rfl) (fun w hO => ret_b (setHas_none) (sHas_any none none 0 0 noneT u w (none_in _ _) su ⟨Nat.le_refl 0, Nat.le_refl 0⟩)) ?_
        refine h_take 30 (o13 ++ ([] : List Blk)) _ (.bool true) rfl (by kernel_rfl) (by kernel_rfl) (by kernel_rfl) (pq_seq pq_body) (by kernel_rfl) (fun _ _ => by kernel_rfl) ?_
        refine h_take 31 (o13 ++ ([] : List Blk)) _ (.bool true) rfl (by kernel_rfl) (by kernel_rfl) (by kernel_rfl) (pq_seq pq_body) (by kernel_rfl) (fun _ _ => by kernel_rfl) ?_
        refine h_take 32 (o13 ++ ([] : List Blk)) _ (.bool true) rfl (by kernel_rfl) (by kernel_rfl) (by kernel_rfl) (pq_seq pq_body) (by kernel_rfl) (fun _ _ => by kernel_rfl) ?_
        refine h_drop (o13 ++ ([] : List Blk)) ?_
        refine h_done (by kernel_rfl) ?_
        refine fin_seq ?_
        refine ok_ret ?_
        refine fin_ret (.bool true) Tryz.results5 (by kernel_rfl) ?_
        exact fun w hO => ⟨rfl, hO.below⟩
      · skip
        refine h_one 10 (by kernel_rfl) ?_
        refine hs_call [] _ (k := 31) (args := #[.agg #[.slice V1 ((a).rel.length) c1, .slice U1 ((a).pre.length) d1], .agg #[.slice V2 ((b).rel.length) c2, .slice U2 ((b).pre.length) d2]]) (.bool false) rfl (by kernel_rfl) (fun _ => by kernel_rfl) (fun w hO => ret_b ((apart_b fa fb).trans (decide_eq_false (h4))) (sApart_any V1 U1 V2 U2 c1 d1 c2 d2 a b w (SetO.inn hr1 hO (fun x hx => by simp [hx]) (fa) (by decide)) (SetO.inn hr2 hO (fun x hx => by simp [hx]) (fb) (by decide)) hr1.caps hr2.caps (Nat.le_trans (fa).rel.len (by decide)) (Nat.le_trans (fa).pre.len (by decide)) (Nat.le_trans (fb).rel.len (by decide)) (Nat.le_trans (fb).pre.len (by decide)))) ?_
        refine h_take 11 [] _ (.bool true) rfl (by kernel_rfl) (by kernel_rfl) (by kernel_rfl) (pq_seq pq_body) (by kernel_rfl) (fun _ _ => by kernel_rfl) ?_
        refine h_take 12 [] _ (.bool true) rfl (by kernel_rfl) (by kernel_rfl) (by kernel_rfl) (pq_seq pq_body) (by kernel_rfl) (fun _ _ => by kernel_rfl) ?_
        refine h_skip 13 [] _ rfl (by kernel_rfl) (by kernel_rfl) (by kernel_rfl) (pq_seq pq_body) (by kernel_rfl) ?_
        refine h_skip 14 [] _ rfl (by kernel_rfl) (by kernel_rfl) (by kernel_rfl) (pq_seq pq_body) (by kernel_rfl) ?_
        refine h_take 15 [] _ (.bool true) rfl (by kernel_rfl) (by kernel_rfl) (by kernel_rfl) (pq_seq pq_body) (by kernel_rfl) (fun _ _ => by kernel_rfl) ?_
        refine h_take 16 [] _ (.bool true) rfl (by kernel_rfl) (by kernel_rfl) (by kernel_rfl) (pq_seq pq_body) (by kernel_rfl) (fun _ _ => by kernel_rfl) ?_
        refine h_skip 17 [] _ rfl (by kernel_rfl) (by kernel_rfl) (by kernel_rfl) (pq_seq pq_body) (by kernel_rfl) ?_
        refine h_skip 18 [] _ rfl (by kernel_rfl) (by kernel_rfl) (by kernel_rfl) (pq_seq pq_body) (by kernel_rfl) ?_
        refine h_take 19 [] _ (.bool true) rfl (by kernel_rfl) (by kernel_rfl) (by kernel_rfl) (pq_seq pq_body) (by kernel_rfl) (fun _ _ => by kernel_rfl) ?_
        refine h_take 20 [] _ (.bool true) rfl (by kernel_rfl) (by kernel_rfl) (by kernel_rfl) (pq_seq pq_body) (by kernel_rfl) (fun _ _ => by kernel_rfl) ?_
        refine h_take 21 [] _ (.bool true) rfl (by kernel_rfl) (by kernel_rfl) (by kernel_rfl) (pq_seq pq_body) (by kernel_rfl) (fun _ _ => by kernel_rfl) ?_
        refine h_load 23 [] _ 0 ⟨b3, (verV u).cells, 26⟩ (off := 0) (verV u) rfl (by kernel_rfl) (by kernel_rfl) (by kernel_rfl) (pq_seq pq_body) (by kernel_rfl) rfl (by kernel_rfl) (by kernel_rfl) (by kernel_rfl) ?_
        refine h_one 22 (by kernel_rfl) ?_
        refine hl_callx _ (k := 36) (args := #[]) (fun v' L' => ∃ ob', L' = ob' ++ ([] ++ (⟨b3, (verV u).cells, 26⟩ :: (⟨b2, #[.slice V2 ((b).rel.length) c2, .slice U2 ((b).pre.length) d2], 24⟩ :: (⟨b1, #[.slice V1 ((a).rel.length) c1, .slice U1 ((a).pre.length) d1], 24⟩ :: (o2 ++ (o1)))))) ∧ SetO v' (allT) ob') rfl (by kernel_rfl) (fun _ => by kernel_rfl) (fun w hO => (sAll_any w).mono fun e w' ⟨v', ob', k1, k2, k3⟩ => ⟨v', _, k1, ⟨ob', rfl, k2⟩, Own.joinN hO k3⟩) (fun v' L' ⟨ob', e, _⟩ w hO => by subst e; exact Own.sub [] (Own.sub ob' hO)) (fun v14 L2 hv2 => ?_)
        obtain ⟨o14, rfl, hr14⟩ := hv2
        obtain ⟨V14, U14, c14, d14, rfl⟩ := hr14.form
        refine h_cast (L' := (o14 ++ ([] : List Blk)) ++ (⟨b3, (verV u).cells, 26⟩ :: (⟨b2, #[.slice V2 ((b).rel.length) c2, .slice U2 ((b).pre.length) d2], 24⟩ :: (⟨b1, #[.slice V1 ((a).rel.length) c1, .slice U1 ((a).pre.length) d1], 24⟩ :: (o2 ++ (o1)))))) (List.append_assoc _ _ _).symm ?_
        refine h_one 24 (by kernel_rfl) ?_
        refine hs_call (o14 ++ ([] : List Blk)) _ (k := 16) (args := #[.agg #[.slice V14 ((allT).rel.length) c14, .slice U14 ((allT).pre.length) d14], verV u]) (.bool true) rfl (by kernel_rfl) (fun _ => by kernel_rfl) (fun w hO => ret_b (setHas_all mu) (sHas_any V14 U14 c14 d14 allT u w (SetO.inn hr14 hO (fun x hx => by simp [hx]) (all_sf) (by decide)) su hr14.caps)) ?_
        refine h_take 25 (o14 ++ ([] : List Blk)) _ (.bool true) rfl (by kernel_rfl) (by kernel_rfl) (by kernel_rfl) (pq_seq pq_body) (by kernel_rfl) (fun _ _ => by kernel_rfl) ?_
        refine h_take 26 (o14 ++ ([] : List Blk)) _ (.bool true) rfl (by kernel_rfl) (by kernel_rfl) (by kernel_rfl) (pq_seq pq_body) (by kernel_rfl) (fun _ _ => by kernel_rfl) ?_
        refine h_load 28 (o14 ++ ([] : List Blk)) _ 0 ⟨b3, (verV u).cells, 26⟩ (off := 0) (verV u) rfl (by kernel_rfl) (by kernel_rfl) (by kernel_rfl) (pq_seq pq_body) (by kernel_rfl) rfl (by kernel_rfl) (by kernel_rfl) (by kernel_rfl) ?_
        refine h_one 27 (by kernel_rfl) ?_
        refine hs_call (o14 ++ ([] : List Blk)) _ (k := 37) (args := #[]) (.agg #[.slice none 0 0, .slice none 0 0]) rfl (by kernel_rfl) (fun _ => by kernel_rfl) (fun w _ => sNone_any w) ?_
        refine h_one 29 (by kernel_rfl) ?_
        refine hs_call (o14 ++ ([] : List Blk)) _ (k := 16) (args := #[.agg #[.slice none 0 0, .slice none 0 0], verV u]) (.bool false) rfl (by kernel_rfl) (fun _ => by kernel_rfl) (fun w hO => ret_b (setHas_none) (sHas_any none none 0 0 noneT u w (none_in _ _) su ⟨Nat.le_refl 0, Nat.le_refl 0⟩)) ?_
        refine h_take 30 (o14 ++ ([] : List Blk)) _ (.bool true) rfl (by kernel_rfl) (by kernel_rfl) (by kernel_rfl) (pq_seq pq_body) (by kernel_rfl) (fun _ _ => by kernel_rfl) ?_
        refine h_take 31 (o14 ++ ([] : List Blk)) _ (.bool true) rfl (by kernel_rfl) (by kernel_rfl) (by kernel_rfl) (pq_seq pq_body) (by kernel_rfl) (fun _ _ => by kernel_rfl) ?_
        refine h_take 32 (o14 ++ ([] : List Blk)) _ (.bool true) rfl (by kernel_rfl) (by kernel_rfl) (by kernel_rfl) (pq_seq pq_body) (by kernel_rfl) (fun _ _ => by kernel_rfl) ?_
        refine h_drop (o14 ++ ([] : List Blk)) ?_
        refine h_done (by kernel_rfl) ?_
        refine fin_seq ?_
        refine ok_ret ?_
        refine fin_ret (.bool true) Tryz.results5 (by kernel_rfl) ?_
        exact fun w hO => ⟨rfl, hO.below⟩
  | false =>
    cases h5 : setHas b u with
    | true =>
      refine q_call (k := 16) (args := #[.agg #[.slice V1 ((a).rel.length) c1, .slice U1 ((a).pre.length) d1], verV u]) (.bool false) (by kernel_rfl) (fun _ => by kernel_rfl) (fun w hO => ret_b (h1) (sHas_any V1 U1 c1 d1 a u w (SetO.inn hr1 hO (fun x hx => by simp [hx]) (fa) (by decide)) su hr1.caps)) ?_
      refine q_load 1 ⟨b2, #[.slice V2 ((b).rel.length) c2, .slice U2 ((b).pre.length) d2], 24⟩ (off := 0) (.agg #[.slice V2 ((b).rel.length) c2, .slice U2 ((b).pre.length) d2]) (by kernel_rfl) rfl (by kernel_rfl) (by kernel_rfl) (by kernel_rfl) ?_
      refine q_load 0 ⟨b3, (verV u).cells, 26⟩ (off := 0) (verV u) (by kernel_rfl) rfl (by kernel_rfl) (by kernel_rfl) (by kernel_rfl) ?_
      refine q_call (k := 16) (args := #[.agg #[.slice V2 ((b).rel.length) c2, .slice U2 ((b).pre.length) d2], verV u]) (.bool true) (by kernel_rfl) (fun _ => by kernel_rfl) (fun w hO => ret_b (h5) (sHas_any V2 U2 c2 d2 b u w (SetO.inn hr2 hO (fun x hx => by simp [hx]) (fb) (by decide)) su hr2.caps)) ?_
      refine q_val (.bool false) (by kernel_rfl) (fun _ => by kernel_rfl) ?_
      refine q_val (.bool true) (by kernel_rfl) (fun _ => by kernel_rfl) ?_
      refine q_nil ?_
      refine fin_seq ?_
      refine ok_seq ?_
      refine ok_anyh (by kernel_rfl) ?_
      refine h_load 0 [] _ 2 ⟨b1, #[.slice V1 ((a).rel.length) c1, .slice U1 ((a).pre.length) d1], 24⟩ (off := 0) (.agg #[.slice V1 ((a).rel.length) c1, .slice U1 ((a).pre.length) d1]) rfl (by kernel_rfl) (by kernel_rfl) (by kernel_rfl) (pq_seq pq_body) (by kernel_rfl) rfl (by kernel_rfl) (by kernel_rfl) (by kernel_rfl) ?_
      refine h_load 1 [] _ 1 ⟨b2, #[.slice V2 ((b).rel.length) c2, .slice U2 ((b).pre.length) d2], 24⟩ (off := 0) (.agg #[.slice V2 ((b).rel.length) c2, .slice U2 ((b).pre.length) d2]) rfl (by kernel_rfl) (by kernel_rfl) (by kernel_rfl) (pq_seq pq_body) (by kernel_rfl) rfl (by kernel_rfl) (by kernel_rfl) (by kernel_rfl) ?_
      refine h_load 3 [] _ 0 ⟨b3, (verV u).cells, 26⟩ (off := 0) (verV u) rfl (by kernel_rfl) (by kernel_rfl) (by kernel_rfl) (pq_seq pq_body) (by kernel_rfl) rfl (by kernel_rfl) (by kernel_rfl) (by kernel_rfl) ?_
      refine h_take 5 [] _ (.bool false) rfl (by kernel_rfl) (by kernel_rfl) (by kernel_rfl) (pq_seq pq_body) (by kernel_rfl) (fun _ _ => by kernel_rfl) ?_
      refine h_one 2 (by kernel_rfl) ?_
      refine hl_callx _ (k := 21) (args := #[.agg #[.slice V1 ((a).rel.length) c1, .slice U1 ((a).pre.length) d1], .agg #[.slice V2 ((b).rel.length) c2, .slice U2 ((b).pre.length) d2]]) (fun v' L' => ∃ ob', L' = ob' ++ ([] ++ (⟨b3, (verV u).cells, 26⟩ :: (⟨b2, #[.slice V2 ((b).rel.length) c2, .slice U2 ((b).pre.length) d2], 24⟩ :: (⟨b1, #[.slice V1 ((a).rel.length) c1, .slice U1 ((a).pre.length) d1], 24⟩ :: (o2 ++ (o1)))))) ∧ SetO v' (orT a b) ob') rfl (by kernel_rfl) (fun _ => by kernel_rfl) (fun w hO => (sOr_any V1 U1 V2 U2 c1 d1 c2 d2 a b w (SetO.inn hr1 hO (fun x hx => by simp [hx]) (fa) (by decide)) (SetO.inn hr2 hO (fun x hx => by simp [hx]) (fb) (by decide)) hr1.caps hr2.caps).mono fun e w' ⟨v', ob', k1, k2, k3⟩ => ⟨v', _, k1, ⟨ob', rfl, by rw [if_pos (by rw [(fa).may, (fb).may]; rfl)] at k2; exact k2⟩, Own.joinN hO k3⟩) (fun v' L' ⟨ob', e, _⟩ w hO => by subst e; exact Own.sub [] (Own.sub ob' hO)) (fun v15 L2 hv2 => ?_)
      obtain ⟨o15, rfl, hr15⟩ := hv2
      obtain ⟨V15, U15, c15, d15, rfl⟩ := hr15.form
      refine h_cast (L' := (o15 ++ ([] : List Blk)) ++ (⟨b3, (verV u).cells, 26⟩ :: (⟨b2, #[.slice V2 ((b).rel.length) c2, .slice U2 ((b).pre.length) d2], 24⟩ :: (⟨b1, #[.slice V1 ((a).rel.length) c1, .slice U1 ((a).pre.length) d1], 24⟩ :: (o2 ++ (o1)))))) (List.append_assoc _ _ _).symm ?_
      refine h_one 4 (by kernel_rfl) ?_
      refine hs_call (o15 ++ ([] : List Blk)) _ (k := 16) (args := #[.agg #[.slice V15 ((orT a b).rel.length) c15, .slice U15 ((orT a b).pre.length) d15], verV u]) (.bool true) rfl (by kernel_rfl) (fun _ => by kernel_rfl) (fun w hO => ret_b (by rw [setHas_or fa fb mu, h1, h5]; rfl) (sHas_any V15 U15 c15 d15 (orT a b) u w (SetO.inn hr15 hO (fun x hx => by simp [hx]) ((fa).or (fb)) (by decide)) su hr15.caps)) ?_
      refine h_take 6 (o15 ++ ([] : List Blk)) _ (.bool false) rfl (by kernel_rfl) (by kernel_rfl) (by kernel_rfl) (pq_seq pq_body) (by kernel_rfl) (fun _ _ => by kernel_rfl) ?_
      refine h_take 7 (o15 ++ ([] : List Blk)) _ (.bool true) rfl (by kernel_rfl) (by kernel_rfl) (by kernel_rfl) (pq_seq pq_body) (by kernel_rfl) (fun _ _ => by kernel_rfl) ?_
      refine h_take 8 (o15 ++ ([] : List Blk)) _ (.bool true) rfl (by kernel_rfl) (by kernel_rfl) (by kernel_rfl) (pq_seq pq_body) (by kernel_rfl) (fun _ _ => by kernel_rfl) ?_
      refine h_take 9 (o15 ++ ([] : List Blk)) _ (.bool true) rfl (by kernel_rfl) (by kernel_rfl) (by kernel_rfl) (pq_seq pq_body) (by kernel_rfl) (fun _ _ => by kernel_rfl) ?_
      refine h_take 10 (o15 ++ ([] : List Blk)) _ (.bool true) rfl (by kernel_rfl) (by kernel_rfl) (by kernel_rfl) (pq_seq pq_body) (by kernel_rfl) (fun _ _ => by kernel_rfl) ?_
      refine h_load 11 (o15 ++ ([] : List Blk)) _ 2 ⟨b1, #[.slice V1 ((a).rel.length) c1, .slice U1 ((a).pre.length) d1], 24⟩ (off := 0) (.agg #[.slice V1 ((a).rel.length) c1, .slice U1 ((a).pre.length) d1]) rfl (by kernel_rfl) (by kernel_rfl) (by kernel_rfl) (pq_seq pq_body) (by kernel_rfl) rfl (by kernel_rfl) (by kernel_rfl) (by kernel_rfl) ?_
      refine h_load 12 (o15 ++ ([] : List Blk)) _ 1 ⟨b2, #[.slice V2 ((b).rel.length) c2, .slice U2 ((b).pre.length) d2], 24⟩ (off := 0) (.agg #[.slice V2 ((b).rel.length) c2, .slice U2 ((b).pre.length) d2]) rfl (by kernel_rfl) (by kernel_rfl) (by kernel_rfl) (pq_seq pq_body) (by kernel_rfl) rfl (by kernel_rfl) (by kernel_rfl) (by kernel_rfl) ?_
      refine h_load 14 (o15 ++ ([] : List Blk)) _ 0 ⟨b3, (verV u).cells, 26⟩ (off := 0) (verV u) rfl (by kernel_rfl) (by kernel_rfl) (by kernel_rfl) (pq_seq pq_body) (by kernel_rfl) rfl (by kernel_rfl) (by kernel_rfl) (by kernel_rfl) ?_
      refine h_take 16 (o15 ++ ([] : List Blk)) _ (.bool false) rfl (by kernel_rfl) (by kernel_rfl) (by kernel_rfl) (pq_seq pq_body) (by kernel_rfl) (fun _ _ => by kernel_rfl) ?_
      refine h_one 13 (by kernel_rfl) ?_
      refine hl_callx _ (k := 23) (args := #[.agg #[.slice V1 ((a).rel.length) c1, .slice U1 ((a).pre.length) d1], .agg #[.slice V2 ((b).rel.length) c2, .slice U2 ((b).pre.length) d2]]) (fun v' L' => ∃ ob', L' = ob' ++ ((o15 ++ ([] : List Blk)) ++ (⟨b3, (verV u).cells, 26⟩ :: (⟨b2, #[.slice V2 ((b).rel.length) c2, .slice U2 ((b).pre.length) d2], 24⟩ :: (⟨b1, #[.slice V1 ((a).rel.length) c1, .slice U1 ((a).pre.length) d1], 24⟩ :: (o2 ++ (o1)))))) ∧ SetO v' (andT a b) ob') rfl (by kernel_rfl) (fun _ => by kernel_rfl) (fun w hO => (sAnd_any V1 U1 V2 U2 c1 d1 c2 d2 a b w (SetO.inn hr1 hO (fun x hx => by simp [hx]) (fa) (by decide)) (SetO.inn hr2 hO (fun x hx => by simp [hx]) (fb) (by decide)) hr1.caps hr2.caps).mono fun e w' ⟨v', ob', k1, k2, k3⟩ => ⟨v', _, k1, ⟨ob', rfl, by rw [if_pos (by rw [(fa).may, (fb).may]; rfl)] at k2; exact k2⟩, Own.joinN hO k3⟩) (fun v' L' ⟨ob', e, _⟩ w hO => by subst e; exact Own.sub (o15 ++ ([] : List Blk)) (Own.sub ob' hO)) (fun v16 L2 hv2 => ?_)
      obtain ⟨o16, rfl, hr16⟩ := hv2
      obtain ⟨V16, U16, c16, d16, rfl⟩ := hr16.form
      refine h_cast (L' := (o16 ++ (o15 ++ ([] : List Blk))) ++ (⟨b3, (verV u).cells, 26⟩ :: (⟨b2, #[.slice V2 ((b).rel.length) c2, .slice U2 ((b).pre.length) d2], 24⟩ :: (⟨b1, #[.slice V1 ((a).rel.length) c1, .slice U1 ((a).pre.length) d1], 24⟩ :: (o2 ++ (o1)))))) (List.append_assoc _ _ _).symm ?_
      refine h_one 15 (by kernel_rfl) ?_
      refine hs_call (o16 ++ (o15 ++ ([] : List Blk))) _ (k := 16) (args := #[.agg #[.slice V16 ((andT a b).rel.length) c16, .slice U16 ((andT a b).pre.length) d16], verV u]) (.bool false) rfl (by kernel_rfl) (fun _ => by kernel_rfl) (fun w hO => ret_b (by rw [setHas_and fa fb mu, h1, h5]; rfl) (sHas_any V16 U16 c16 d16 (andT a b) u w (SetO.inn hr16 hO (fun x hx => by simp [hx]) ((fa).and (fb)) (by decide)) su hr16.caps)) ?_
      refine h_take 17 (o16 ++ (o15 ++ ([] : List Blk))) _ (.bool false) rfl (by kernel_rfl) (by kernel_rfl) (by kernel_rfl) (pq_seq pq_body) (by kernel_rfl) (fun _ _ => by kernel_rfl) ?_
      refine h_skip 18 (o16 ++ (o15 ++ ([] : List Blk))) _ rfl (by kernel_rfl) (by kernel_rfl) (by kernel_rfl) (pq_seq pq_body) (by kernel_rfl) ?_
      refine h_take 19 (o16 ++ (o15 ++ ([] : List Blk))) _ (.bool false) rfl (by kernel_rfl) (by kernel_rfl) (by kernel_rfl) (pq_seq pq_body) (by kernel_rfl) (fun _ _ => by kernel_rfl) ?_
      refine h_take 20 (o16 ++ (o15 ++ ([] : List Blk))) _ (.bool true) rfl (by kernel_rfl) (by kernel_rfl) (by kernel_rfl) (pq_seq pq_body) (by kernel_rfl) (fun _ _ => by kernel_rfl) ?_
      refine h_take 21 (o16 ++ (o15 ++ ([] : List Blk))) _ (.bool true) rfl (by kernel_rfl) (by kernel_rfl) (by kernel_rfl) (pq_seq pq_body) (by kernel_rfl) (fun _ _ => by kernel_rfl) ?_
      refine h_take 22 (o16 ++ (o15 ++ ([] : List Blk))) _ (.bool true) rfl (by kernel_rfl) (by kernel_rfl) (by kernel_rfl) (pq_seq pq_body) (by kernel_rfl) (fun _ _ => by kernel_rfl) ?_
      refine h_load 23 (o16 ++ (o15 ++ ([] : List Blk))) _ 2 ⟨b1, #[.slice V1 ((a).rel.length) c1, .slice U1 ((a).pre.length) d1], 24⟩ (off := 0) (.agg #[.slice V1 ((a).rel.length) c1, .slice U1 ((a).pre.length) d1]) rfl (by kernel_rfl) (by kernel_rfl) (by kernel_rfl) (pq_seq pq_body) (by kernel_rfl) rfl (by kernel_rfl) (by kernel_rfl) (by kernel_rfl) ?_
      refine h_load 25 (o16 ++ (o15 ++ ([] : List Blk))) _ 0 ⟨b3, (verV u).cells, 26⟩ (off := 0) (verV u) rfl (by kernel_rfl) (by kernel_rfl) (by kernel_rfl) (pq_seq pq_body) (by kernel_rfl) rfl (by kernel_rfl) (by kernel_rfl) (by kernel_rfl) ?_
      refine h_take 27 (o16 ++ (o15 ++ ([] : List Blk))) _ (.bool false) rfl (by kernel_rfl) (by kernel_rfl) (by kernel_rfl) (pq_seq pq_body) (by kernel_rfl) (fun _ _ => by kernel_rfl) ?_
      refine h_take 28 (o16 ++ (o15 ++ ([] : List Blk))) _ (.bool true) rfl (by kernel_rfl) (by kernel_rfl) (by kernel_rfl) (pq_seq pq_body) (by kernel_rfl) (fun _ _ => by kernel_rfl) ?_
      refine h_one 24 (by kernel_rfl) ?_
      refine hl_callx _ (k := 25) (args := #[.agg #[.slice V1 ((a).rel.length) c1, .slice U1 ((a).pre.length) d1]]) (fun v' L' => ∃ ob', L' = ob' ++ ((o16 ++ (o15 ++ ([] : List Blk))) ++ (⟨b3, (verV u).cells, 26⟩ :: (⟨b2, #[.slice V2 ((b).rel.length) c2, .slice U2 ((b).pre.length) d2], 24⟩ :: (⟨b1, #[.slice V1 ((a).rel.length) c1, .slice U1 ((a).pre.length) d1], 24⟩ :: (o2 ++ (o1)))))) ∧ SetO v' (notT a) ob') rfl (by kernel_rfl) (fun _ => by kernel_rfl) (fun w hO => (sNot_any V1 U1 c1 d1 a w (SetO.inn hr1 hO (fun x hx => by simp [hx]) (fa) (by decide)) hr1.caps).mono fun e w' ⟨v', ob', k1, k2, k3⟩ => ⟨v', _, k1, ⟨ob', rfl, by rw [if_pos (fa).may] at k2; exact k2⟩, Own.joinN hO k3⟩) (fun v' L' ⟨ob', e, _⟩ w hO => by subst e; exact Own.sub (o16 ++ (o15 ++ ([] : List Blk))) (Own.sub ob' hO)) (fun v17 L2 hv2 => ?_)
      obtain ⟨o17, rfl, hr17⟩ := hv2
      obtain ⟨V17, U17, c17, d17, rfl⟩ := hr17.form
      refine h_cast (L' := (o17 ++ (o16 ++ (o15 ++ ([] : List Blk)))) ++ (⟨b3, (verV u).cells, 26⟩ :: (⟨b2, #[.slice V2 ((b).rel.length) c2, .slice U2 ((b).pre.length) d2], 24⟩ :: (⟨b1, #[.slice V1 ((a).rel.length) c1, .slice U1 ((a).pre.length) d1], 24⟩ :: (o2 ++ (o1)))))) (List.append_assoc _ _ _).symm ?_
      refine h_one 26 (by kernel_rfl) ?_
      refine hs_call (o17 ++ (o16 ++ (o15 ++ ([] : List Blk)))) _ (k := 16) (args := #[.agg #[.slice V17 ((notT a).rel.length) c17, .slice U17 ((notT a).pre.length) d17], verV u]) (.bool true) rfl (by kernel_rfl) (fun _ => by kernel_rfl) (fun w hO => ret_b (by rw [setHas_not fa mu, h1]; rfl) (sHas_any V17 U17 c17 d17 (notT a) u w (SetO.inn hr17 hO (fun x hx => by simp [hx]) ((fa).not) (by decide)) su hr17.caps)) ?_
      refine h_take 29 (o17 ++ (o16 ++ (o15 ++ ([] : List Blk)))) _ (.bool true) rfl (by kernel_rfl) (by kernel_rfl) (by kernel_rfl) (pq_seq pq_body) (by kernel_rfl) (fun _ _ => by kernel_rfl) ?_
      refine h_take 30 (o17 ++ (o16 ++ (o15 ++ ([] : List Blk)))) _ (.bool true) rfl (by kernel_rfl) (by kernel_rfl) (by kernel_rfl) (pq_seq pq_body) (by kernel_rfl) (fun _ _ => by kernel_rfl) ?_
      refine h_take 31 (o17 ++ (o16 ++ (o15 ++ ([] : List Blk)))) _ (.bool true) rfl (by kernel_rfl) (by kernel_rfl) (by kernel_rfl) (pq_seq pq_body) (by kernel_rfl) (fun _ _ => by kernel_rfl) ?_
      refine h_load 32 (o17 ++ (o16 ++ (o15 ++ ([] : List Blk)))) _ 2 ⟨b1, #[.slice V1 ((a).rel.length) c1, .slice U1 ((a).pre.length) d1], 24⟩ (off := 0) (.agg #[.slice V1 ((a).rel.length) c1, .slice U1 ((a).pre.length) d1]) rfl (by kernel_rfl) (by kernel_rfl) (by kernel_rfl) (pq_seq pq_body) (by kernel_rfl) rfl (by kernel_rfl) (by kernel_rfl) (by kernel_rfl) ?_
      refine h_load 33 (o17 ++ (o16 ++ (o15 ++ ([] : List Blk)))) _ 1 ⟨b2, #[.slice V2 ((b).rel.length) c2, .slice U2 ((b).pre.length) d2], 24⟩ (off := 0) (.agg #[.slice V2 ((b).rel.length) c2, .slice U2 ((b).pre.length) d2]) rfl (by kernel_rfl) (by kernel_rfl) (by kernel_rfl) (pq_seq pq_body) (by kernel_rfl) rfl (by kernel_rfl) (by kernel_rfl) (by kernel_rfl) ?_
      refine h_load 35 (o17 ++ (o16 ++ (o15 ++ ([] : List Blk)))) _ 0 ⟨b3, (verV u).cells, 26⟩ (off := 0) (verV u) rfl (by kernel_rfl) (by kernel_rfl) (by kernel_rfl) (pq_seq pq_body) (by kernel_rfl) rfl (by kernel_rfl) (by kernel_rfl) (by kernel_rfl) ?_
      refine h_take 37 (o17 ++ (o16 ++ (o15 ++ ([] : List Blk)))) _ (.bool false) rfl (by kernel_rfl) (by kernel_rfl) (by kernel_rfl) (pq_seq pq_body) (by kernel_rfl) (fun _ _ => by kernel_rfl) ?_
      refine h_one 34 (by kernel_rfl) ?_
      refine hl_callx _ (k := 27) (args := #[.agg #[.slice V1 ((a).rel.length) c1, .slice U1 ((a).pre.length) d1], .agg #[.slice V2 ((b).rel.length) c2, .slice U2 ((b).pre.length) d2]]) (fun v' L' => ∃ ob', L' = ob' ++ ((o17 ++ (o16 ++ (o15 ++ ([] : List Blk)))) ++ (⟨b3, (verV u).cells, 26⟩ :: (⟨b2, #[.slice V2 ((b).rel.length) c2, .slice U2 ((b).pre.length) d2], 24⟩ :: (⟨b1, #[.slice V1 ((a).rel.length) c1, .slice U1 ((a).pre.length) d1], 24⟩ :: (o2 ++ (o1)))))) ∧ SetO v' (minusT a b) ob') rfl (by kernel_rfl) (fun _ => by kernel_rfl) (fun w hO => (sMinus_any V1 U1 V2 U2 c1 d1 c2 d2 a b w (SetO.inn hr1 hO (fun x hx => by simp [hx]) (fa) (by decide)) (SetO.inn hr2 hO (fun x hx => by simp [hx]) (fb) (by decide)) hr1.caps hr2.caps (Nat.le_trans (fb).rel.len (by decide)) (Nat.le_trans (fb).pre.len (by decide))).mono fun e w' ⟨v', ob', k1, k2, k3⟩ => ⟨v', _, k1, ⟨ob', rfl, by rw [if_pos (by rw [(fa).may, (fb).may]; rfl)] at k2; exact k2⟩, Own.joinN hO k3⟩) (fun v' L' ⟨ob', e, _⟩ w hO => by subst e; exact Own.sub (o17 ++ (o16 ++ (o15 ++ ([] : List Blk)))) (Own.sub ob' hO)) (fun v18 L2 hv2 => ?_)
      obtain ⟨o18, rfl, hr18⟩ := hv2
      obtain ⟨V18, U18, c18, d18, rfl⟩ := hr18.form
      refine h_cast (L' := (o18 ++ (o17 ++ (o16 ++ (o15 ++ ([] : List Blk))))) ++ (⟨b3, (verV u).cells, 26⟩ :: (⟨b2, #[.slice V2 ((b).rel.length) c2, .slice U2 ((b).pre.length) d2], 24⟩ :: (⟨b1, #[.slice V1 ((a).rel.length) c1, .slice U1 ((a).pre.length) d1], 24⟩ :: (o2 ++ (o1)))))) (List.append_assoc _ _ _).symm ?_
      refine h_one 36 (by kernel_rfl) ?_
      refine hs_call (o18 ++ (o17 ++ (o16 ++ (o15 ++ ([] : List Blk))))) _ (k := 16) (args := #[.agg #[.slice V18 ((minusT a b).rel.length) c18, .slice U18 ((minusT a b).pre.length) d18], verV u]) (.bool false) rfl (by kernel_rfl) (fun _ => by kernel_rfl) (fun w hO => ret_b (by rw [setHas_minus fa fb mu, h1, h5]; rfl) (sHas_any V18 U18 c18 d18 (minusT a b) u w (SetO.inn hr18 hO (fun x hx => by simp [hx]) ((fa).minus (fb)) (by decide)) su hr18.caps)) ?_
      refine h_take 38 (o18 ++ (o17 ++ (o16 ++ (o15 ++ ([] : List Blk))))) _ (.bool false) rfl (by kernel_rfl) (by kernel_rfl) (by kernel_rfl) (pq_seq pq_body) (by kernel_rfl) (fun _ _ => by kernel_rfl) ?_
      refine h_skip 39 (o18 ++ (o17 ++ (o16 ++ (o15 ++ ([] : List Blk))))) _ rfl (by kernel_rfl) (by kernel_rfl) (by kernel_rfl) (pq_seq pq_body) (by kernel_rfl) ?_
      refine h_skip 40 (o18 ++ (o17 ++ (o16 ++ (o15 ++ ([] : List Blk))))) _ rfl (by kernel_rfl) (by kernel_rfl) (by kernel_rfl) (pq_seq pq_body) (by kernel_rfl) ?_
      refine h_take 41 (o18 ++ (o17 ++ (o16 ++ (o15 ++ ([] : List Blk))))) _ (.bool false) rfl (by kernel_rfl) (by kernel_rfl) (by kernel_rfl) (pq_seq pq_body) (by kernel_rfl) (fun _ _ => by kernel_rfl) ?_
      refine h_take 42 (o18 ++ (o17 ++ (o16 ++ (o15 ++ ([] : List Blk))))) _ (.bool true) rfl (by kernel_rfl) (by kernel_rfl) (by kernel_rfl) (pq_seq pq_body) (by kernel_rfl) (fun _ _ => by kernel_rfl) ?_
      refine h_take 43 (o18 ++ (o17 ++ (o16 ++ (o15 ++ ([] : List Blk))))) _ (.bool true) rfl (by kernel_rfl) (by kernel_rfl) (by kernel_rfl) (pq_seq pq_body) (by kernel_rfl) (fun _ _ => by kernel_rfl) ?_
      refine h_take 44 (o18 ++ (o17 ++ (o16 ++ (o15 ++ ([] : List Blk))))) _ (.bool true) rfl (by kernel_rfl) (by kernel_rfl) (by kernel_rfl) (pq_seq pq_body) (by kernel_rfl) (fun _ _ => by kernel_rfl) ?_
      refine h_drop (o18 ++ (o17 ++ (o16 ++ (o15 ++ ([] : List Blk))))) ?_
      refine h_done (by kernel_rfl) ?_
      refine fin_seq ?_
      refine ok_seq ?_
      refine ok_region ?_
      refine s_load 2 ⟨b1, #[.slice V1 ((a).rel.length) c1, .slice U1 ((a).pre.length) d1], 24⟩ (off := 0) (.agg #[.slice V1 ((a).rel.length) c1, .slice U1 ((a).pre.length) d1]) (by kernel_rfl) rfl (by kernel_rfl) (by kernel_rfl) (by kernel_rfl) ?_
      refine s_load 1 ⟨b2, #[.slice V2 ((b).rel.length) c2, .slice U2 ((b).pre.length) d2], 24⟩ (off := 0) (.agg #[.slice V2 ((b).rel.length) c2, .slice U2 ((b).pre.length) d2]) (by kernel_rfl) rfl (by kernel_rfl) (by kernel_rfl) (by kernel_rfl) ?_
      by_cases h6 : andT a b = a
      · skip
        refine s_call (k := 29) (args := #[.agg #[.slice V1 ((a).rel.length) c1, .slice U1 ((a).pre.length) d1], .agg #[.slice V2 ((b).rel.length) c2, .slice U2 ((b).pre.length) d2]]) (.bool true) (by kernel_rfl) (fun _ => by kernel_rfl) (fun w hO => ret_b ((within_b fa fb).trans (decide_eq_true (h6))) (sWithin_any V1 U1 V2 U2 c1 d1 c2 d2 a b w (SetO.inn hr1 hO (fun x hx => by simp [hx]) (fa) (by decide)) (SetO.inn hr2 hO (fun x hx => by simp [hx]) (fb) (by decide)) hr1.caps hr2.caps)) ?_
        refine s_val (.bool false) (by kernel_rfl) (fun _ => by kernel_rfl) ?_
        refine s_val (.bool false) (by kernel_rfl) (fun _ => by kernel_rfl) ?_
        refine s_val (.bool false) (by kernel_rfl) (fun _ => by kernel_rfl) ?_
        refine s_val (.bool true) (by kernel_rfl) (fun _ => by kernel_rfl) ?_
        refine s_val (.bool true) (by kernel_rfl) (fun _ => by kernel_rfl) ?_
        refine s_val (.bool true) (by kernel_rfl) (fun _ => by kernel_rfl) ?_
        refine s_skip (by kernel_rfl) ?_
        refine s_val (.bool true) (by kernel_rfl) (fun _ => by kernel_rfl) ?_
        refine s_val (.bool true) (by kernel_rfl) (fun _ => by kernel_rfl) ?_
        refine s_nil ?_
        refine fin_seq ?_
        refine ok_seq ?_
        refine ok_anyh (by kernel_rfl) ?_
        refine h_one 0 (by kernel_rfl) ?_
        refine hs_call [] _ (k := 11) (args := #[]) (.bool true) rfl (by kernel_rfl) (fun _ => by kernel_rfl) (fun w _ => awake5_any w) ?_
        refine h_take 1 [] _ (.bool true) rfl (by kernel_rfl) (by kernel_rfl) (by kernel_rfl) (pq_seq pq_body) (by kernel_rfl) (fun _ _ => by kernel_rfl) ?_
        refine h_take 2 [] _ (.bool true) rfl (by kernel_rfl) (by kernel_rfl) (by kernel_rfl) (pq_seq pq_body) (by kernel_rfl) (fun _ _ => by kernel_rfl) ?_
        refine h_take 3 [] _ (.bool true) rfl (by kernel_rfl) (by kernel_rfl) (by kernel_rfl) (pq_seq pq_body) (by kernel_rfl) (fun _ _ => by kernel_rfl) ?_
        refine h_take 4 [] _ (.bool true) rfl (by kernel_rfl) (by kernel_rfl) (by kernel_rfl) (pq_seq pq_body) (by kernel_rfl) (fun _ _ => by kernel_rfl) ?_
        refine h_take 5 [] _ (.bool true) rfl (by kernel_rfl) (by kernel_rfl) (by kernel_rfl) (pq_seq pq_body) (by kernel_rfl) (fun _ _ => by kernel_rfl) ?_
        refine h_take 6 [] _ (.bool true) rfl (by kernel_rfl) (by kernel_rfl) (by kernel_rfl) (pq_seq pq_body) (by kernel_rfl) (fun _ _ => by kernel_rfl) ?_
        refine h_take 7 [] _ (.bool true) rfl (by kernel_rfl) (by kernel_rfl) (by kernel_rfl) (pq_seq pq_body) (by kernel_rfl) (fun _ _ => by kernel_rfl) ?_
        refine h_load 8 [] _ 2 ⟨b1, #[.slice V1 ((a).rel.length) c1, .slice U1 ((a).pre.length) d1], 24⟩ (off := 0) (.agg #[.slice V1 ((a).rel.length) c1, .slice U1 ((a).pre.length) d1]) rfl (by kernel_rfl) (by kernel_rfl) (by kernel_rfl) (pq_seq pq_body) (by kernel_rfl) rfl (by kernel_rfl) (by kernel_rfl) (by kernel_rfl) ?_
        refine h_load 9 [] _ 1 ⟨b2, #[.slice V2 ((b).rel.length) c2, .slice U2 ((b).pre.length) d2], 24⟩ (off := 0) (.agg #[.slice V2 ((b).rel.length) c2, .slice U2 ((b).pre.length) d2]) rfl (by kernel_rfl) (by kernel_rfl) (by kernel_rfl) (pq_seq pq_body) (by kernel_rfl) rfl (by kernel_rfl) (by kernel_rfl) (by kernel_rfl) ?_
        by_cases h7 : andT a b = noneT
        · skip
          refine h_one 10 (by kernel_rfl) ?_
          refine hs_call [] _ (k := 31) (args := #[.agg #[.slice V1 ((a).rel.length) c1, .slice U1 ((a).pre.length) d1], .agg #[.slice V2 ((b).rel.length) c2, .slice U2 ((b).pre.length) d2]]) (.bool true) rfl (by kernel_rfl) (fun _ => by kernel_rfl) (fun w hO => ret_b ((apart_b fa fb).trans (decide_eq_true (h7))) (sApart_any V1 U1 V2 U2 c1 d1 c2 d2 a b w (SetO.inn hr1 hO (fun x hx => by simp [hx]) (fa) (by decide)) (SetO.inn hr2 hO (fun x hx => by simp [hx]) (fb) (by decide)) hr1.caps hr2.caps (Nat.le_trans (fa).rel.len (by decide)) (Nat.le_trans (fa).pre.len (by decide)) (Nat.le_trans (fb).rel.len (by decide)) (Nat.le_trans (fb).pre.len (by decide)))) ?_
          refine h_take 11 [] _ (.bool false) rfl (by kernel_rfl) (by kernel_rfl) (by kernel_rfl) (pq_seq pq_body) (by kernel_rfl) (fun _ _ => by kernel_rfl) ?_
          refine h_take 12 [] _ (.bool false) rfl (by kernel_rfl) (by kernel_rfl) (by kernel_rfl) (pq_seq pq_body) (by kernel_rfl) (fun _ _ => by kernel_rfl) ?_
          refine h_take 13 [] _ (.bool false) rfl (by kernel_rfl) (by kernel_rfl) (by kernel_rfl) (pq_seq pq_body) (by kernel_rfl) (fun _ _ => by kernel_rfl) ?_
          refine h_take 14 [] _ (.bool true) rfl (by kernel_rfl) (by kernel_rfl) (by kernel_rfl) (pq_seq pq_body) (by kernel_rfl) (fun _ _ => by kernel_rfl) ?_
          refine h_take 15 [] _ (.bool true) rfl (by kernel_rfl) (by kernel_rfl) (by kernel_rfl) (pq_seq pq_body) (by kernel_rfl) (fun _ _ => by kernel_rfl) ?_
          refine h_take 16 [] _ (.bool true) rfl (by kernel_rfl) (by kernel_rfl) (by kernel_rfl) (pq_seq pq_body) (by kernel_rfl) (fun _ _ => by kernel_rfl) ?_
          refine h_skip 17 [] _ rfl (by kernel_rfl) (by kernel_rfl) (by kernel_rfl) (pq_seq pq_body) (by kernel_rfl) ?_
          refine h_skip 18 [] _ rfl (by kernel_rfl) (by kernel_rfl) (by kernel_rfl) (pq_seq pq_body) (by kernel_rfl) ?_
          refine h_take 19 [] _ (.bool true) rfl (by kernel_rfl) (by kernel_rfl) (by kernel_rfl) (pq_seq pq_body) (by kernel_rfl) (fun _ _ => by kernel_rfl) ?_
          refine h_take 20 [] _ (.bool true) rfl (by kernel_rfl) (by kernel_rfl) (by kernel_rfl) (pq_seq pq_body) (by kernel_rfl) (fun _ _ => by kernel_rfl) ?_
          refine h_take 21 [] _ (.bool true) rfl (by kernel_rfl) (by kernel_rfl) (by kernel_rfl) (pq_seq pq_body) (by kernel_rfl) (fun _ _ => by kernel_rfl) ?_
          refine h_load 23 [] _ 0 ⟨b3, (verV u).cells, 26⟩ (off := 0) (verV u) rfl (by kernel_rfl) (by kernel_rfl) (by kernel_rfl) (pq_seq pq_body) (by kernel_rfl) rfl (by kernel_rfl) (by kernel_rfl) (by kernel_rfl) ?_
          refine h_one 22 (by kernel_rfl) ?_
          refine hl_callx _ (k := 36) (args := #[]) (fun v' L' => ∃ ob', L' = ob' ++ ([] ++ (⟨b3, (verV u).cells, 26⟩ :: (⟨b2, #[.slice V2 ((b).rel.length) c2, .slice U2 ((b).pre.length) d2], 24⟩ :: (⟨b1, #[.slice V1 ((a).rel.length) c1, .slice U1 ((a).pre.length) d1], 24⟩ :: (o2 ++ (o1)))))) ∧ SetO v' (allT) ob') rfl (by kernel_rfl) (fun _ => by kernel_rfl) (fun w hO => (sAll_any w).mono fun e w' ⟨v', ob', k1, k2, k3⟩ => ⟨v', _, k1, ⟨ob', rfl, k2⟩, Own.joinN hO k3⟩) (fun v' L' ⟨ob', e, _⟩ w hO => by subst e; exact Own.sub [] (Own.sub ob' hO)) (fun v19 L2 hv2 => ?_)
          obtain ⟨o19, rfl, hr19⟩ := hv2
          obtain ⟨V19, U19, c19, d19, rfl⟩ := hr19.form
          refine h_cast (L' := (o19 ++ ([] : List Blk)) ++ (⟨b3, (verV u).cells, 26⟩ :: (⟨b2, #[.slice V2 ((b).rel.length) c2, .slice U2 ((b).pre.length) d2], 24⟩ :: (⟨b1, #[.slice V1 ((a).rel.length) c1, .slice U1 ((a).pre.length) d1], 24⟩ :: (o2 ++ (o1)))))) (List.append_assoc _ _ _).symm ?_
          refine h_one 24 (by kernel_rfl) ?_
          refine hs_call (o19 ++ ([] : List Blk)) _ (k := 16) (args := #[.agg #[.slice V19 ((allT).rel.length) c19, .slice U19 ((allT).pre.length) d19], verV u]) (.bool true) rfl (by kernel_rfl) (fun _ => by kernel_rfl) (fun w hO => ret_b (setHas_all mu) (sHas_any V19 U19 c19 d19 allT u w (SetO.inn hr19 hO (fun x hx => by simp [hx]) (all_sf) (by decide)) su hr19.caps)) ?_
          refine h_take 25 (o19 ++ ([] : List Blk)) _ (.bool true) rfl (by kernel_rfl) (by kernel_rfl) (by kernel_rfl) (pq_seq pq_body) (by kernel_rfl) (fun _ _ => by kernel_rfl) ?_
          refine h_take 26 (o19 ++ ([] : List Blk)) _ (.bool true) rfl (by kernel_rfl) (by kernel_rfl) (by kernel_rfl) (pq_seq pq_body) (by kernel_rfl) (fun _ _ => by kernel_rfl) ?_
          refine h_load 28 (o19 ++ ([] : List Blk)) _ 0 ⟨b3, (verV u).cells, 26⟩ (off := 0) (verV u) rfl (by kernel_rfl) (by kernel_rfl) (by kernel_rfl) (pq_seq pq_body) (by kernel_rfl) rfl (by kernel_rfl) (by kernel_rfl) (by kernel_rfl) ?_
          refine h_one 27 (by kernel_rfl) ?_
          refine hs_call (o19 ++ ([] : List Blk)) _ (k := 37) (args := #[]) (.agg #[.slice none 0 0, .slice none 0 0]) rfl (by kernel_rfl) (fun _ => by kernel_rfl) (fun w _ => sNone_any w) ?_
          refine h_one 29 (by kernel_rfl) ?_
          refine hs_call (o19 ++ ([] : List Blk)) _ (k := 16) (args := #[.agg #[.slice none 0 0, .slice none 0 0], verV u]) (.bool false) rfl (by kernel_rfl) (fun _ => by kernel_rfl) (fun w hO => ret_b (setHas_none) (sHas_any none none 0 0 noneT u w (none_in _ _) su ⟨Nat.le_refl 0, Nat.le_refl 0⟩)) ?_
          refine h_take 30 (o19 ++ ([] : List Blk)) _ (.bool true) rfl (by kernel_rfl) (by kernel_rfl) (by kernel_rfl) (pq_seq pq_body) (by kernel_rfl) (fun _ _ => by kernel_rfl) ?_
          refine h_take 31 (o19 ++ ([] : List Blk)) _ (.bool true) rfl (by kernel_rfl) (by kernel_rfl) (by kernel_rfl) (pq_seq pq_body) (by kernel_rfl) (fun _ _ => by kernel_rfl) ?_
          refine h_take 32 (o19 ++ ([] : List Blk)) _ (.bool true) rfl (by kernel_rfl) (by kernel_rfl) (by kernel_rfl) (pq_seq pq_body) (by kernel_rfl) (fun _ _ => by kernel_rfl) ?_
          refine h_drop (o19 ++ ([] : List Blk)) ?_
          refine h_done (by kernel_rfl) ?_
          refine fin_seq ?_
          refine ok_ret ?_
          refine fin_ret (.bool true) Tryz.results5 (by kernel_rfl) ?_
          exact fun w hO => ⟨rfl, hO.below⟩
        · skip
          refine h_one 10 (by kernel_rfl) ?_
          refine hs_call [] _ (k := 31) (args := #[.agg #[.slice V1 ((a).rel.length) c1, .slice U1 ((a).pre.length) d1], .agg #[.slice V2 ((b).rel.length) c2, .slice U2 ((b).pre.length) d2]]) (.bool false) rfl (by kernel_rfl) (fun _ => by kernel_rfl) (fun w hO => ret_b ((apart_b fa fb).trans (decide_eq_false (h7))) (sApart_any V1 U1 V2 U2 c1 d1 c2 d2 a b w (SetO.inn hr1 hO (fun x hx => by simp [hx]) (fa) (by decide)) (SetO.inn hr2 hO (fun x hx => by simp [hx]) (fb) (by decide)) hr1.caps hr2.caps (Nat.le_trans (fa).rel.len (by decide)) (Nat.le_trans (fa).pre.len (by decide)) (Nat.le_trans (fb).rel.len (by decide)) (Nat.le_trans (fb).pre.len (by decide)))) ?_
          refine h_take 11 [] _ (.bool true) rfl (by kernel_rfl) (by kernel_rfl) (by kernel_rfl) (pq_seq pq_body) (by kernel_rfl) (fun _ _ => by kernel_rfl) ?_
          refine h_take 12 [] _ (.bool true) rfl (by kernel_rfl) (by kernel_rfl) (by kernel_rfl) (pq_seq pq_body) (by kernel_rfl) (fun _ _ => by kernel_rfl) ?_
          refine h_skip 13 [] _ rfl (by kernel_rfl) (by kernel_rfl) (by kernel_rfl) (pq_seq pq_body) (by kernel_rfl) ?_
          refine h_skip 14 [] _ rfl (by kernel_rfl) (by kernel_rfl) (by kernel_rfl) (pq_seq pq_body) (by kernel_rfl) ?_
          refine h_take 15 [] _ (.bool true) rfl (by kernel_rfl) (by kernel_rfl) (by kernel_rfl) (pq_seq pq_body) (by kernel_rfl) (fun _ _ => by kernel_rfl) ?_
          refine h_take 16 [] _ (.bool true) rfl (by kernel_rfl) (by kernel_rfl) (by kernel_rfl) (pq_seq pq_body) (by kernel_rfl) (fun _ _ => by kernel_rfl) ?_
          refine h_skip 17 [] _ rfl (by kernel_rfl) (by kernel_rfl) (by kernel_rfl) (pq_seq pq_body) (by kernel_rfl) ?_
          refine h_skip 18 [] _ rfl (by kernel_rfl) (by kernel_rfl) (by kernel_rfl) (pq_seq pq_body) (by kernel_rfl) ?_
          refine h_take 19 [] _ (.bool true) rfl (by kernel_rfl) (by kernel_rfl) (by kernel_rfl) (pq_seq pq_body) (by kernel_rfl) (fun _ _ => by kernel_rfl) ?_
          refine h_take 20 [] _ (.bool true) rfl (by kernel_rfl) (by kernel_rfl) (by kernel_rfl) (pq_seq pq_body) (by kernel_rfl) (fun _ _ => by kernel_rfl) ?_
          refine h_take 21 [] _ (.bool true) rfl (by kernel_rfl) (by kernel_rfl) (by kernel_rfl) (pq_seq pq_body) (by kernel_rfl) (fun _ _ => by kernel_rfl) ?_
          refine h_load 23 [] _ 0 ⟨b3, (verV u).cells, 26⟩ (off := 0) (verV u) rfl (by kernel_rfl) (by kernel_rfl) (by kernel_rfl) (pq_seq pq_body) (by kernel_rfl) rfl (by kernel_rfl) (by kernel_rfl) (by kernel_rfl) ?_
          refine h_one 22 (by kernel_rfl) ?_
          refine hl_callx _ (k := 36) (args := #[]) (fun v' L' => ∃ ob', L' = ob' ++ ([] ++ (⟨b3, (verV u).cells, 26⟩ :: (⟨b2, #[.slice V2 ((b).rel.length) c2, .slice U2 ((b).pre.length) d2], 24⟩ :: (⟨b1, #[.slice V1 ((a).rel.length) c1, .slice U1 ((a).pre.length) d1], 24⟩ :: (o2 ++ (o1)))))) ∧ SetO v' (allT) ob') rfl (by kernel_rfl) (fun _ => by kernel_rfl) (fun w hO => (sAll_any w).mono fun e w' ⟨v', ob', k1, k2, k3⟩ => ⟨v', _, k1, ⟨ob', rfl, k2⟩, Own.joinN hO k3⟩) (fun v' L' ⟨ob', e, _⟩ w hO => by subst e; exact Own.sub [] (Own.sub ob' hO)) (fun v20 L2 hv2 => ?_)
          obtain ⟨o20, rfl, hr20⟩ := hv2
          obtain ⟨V20, U20, c20, d20, rfl⟩ := hr20.form
          refine h_cast (L' := (o20 ++ ([] : List Blk)) ++ (⟨b3, (verV u).cells, 26⟩ :: (⟨b2, #[.slice V2 ((b).rel.length) c2, .slice U2 ((b).pre.length) d2], 24⟩ :: (⟨b1, #[.slice V1 ((a).rel.length) c1, .slice U1 ((a).pre.length) d1], 24⟩ :: (o2 ++ (o1)))))) (List.append_assoc _ _ _).symm ?_
          refine h_one 24 (by kernel_rfl) ?_
          refine hs_call (o20 ++ ([] : List Blk)) _ (k := 16) (args := #[.agg #[.slice V20 ((allT).rel.length) c20, .slice U20 ((allT).pre.length) d20], verV u]) (.bool true) rfl (by kernel_rfl) (fun _ => by kernel_rfl) (fun w hO => ret_b (setHas_all mu) (sHas_any V20 U20 c20 d20 allT u w (SetO.inn hr20 hO (fun x hx => by simp [hx]) (all_sf) (by decide)) su hr20.caps)) ?_
          refine h_take 25 (o20 ++ ([] : List Blk)) _ (.bool true) rfl (by kernel_rfl) (by kernel_rfl) (by kernel_rfl) (pq_seq pq_body) (by kernel_rfl) (fun _ _ => by kernel_rfl) ?_
          refine h_take 26 (o20 ++ ([] : List Blk)) _ (.bool true) rfl (by kernel_rfl) (by kernel_rfl) (by kernel_rfl) (pq_seq pq_body) (by kernel_rfl) (fun _ _ => by kernel_rfl) ?_
          refine h_load 28 (o20 ++ ([] : List Blk)) _ 0 ⟨b3, (verV u).cells, 26⟩ (off := 0) (verV u) rfl (by kernel_rfl) (by kernel_rfl) (by kernel_rfl) (pq_seq pq_body) (by kernel_rfl) rfl (by kernel_rfl) (by kernel_rfl) (by kernel_rfl) ?_
          refine h_one 27 (by kernel_rfl) ?_
          refine hs_call (o20 ++ ([] : List Blk)) _ (k := 37) (args := #[]) (.agg #[.slice none 0 0, .slice none 0 0]) rfl (by kernel_rfl) (fun _ => by kernel_rfl) (fun w _ => sNone_any w) ?_
          refine h_one 29 (by kernel_rfl) ?_
          refine hs_call (o20 ++ ([] : List Blk)) _ (k := 16) (args := #[.agg #[.slice none 0 0, .slice none 0 0], verV u]) (.bool false) rfl (by kernel_rfl) (fun _ => by kernel_rfl) (fun w hO => ret_b (setHas_none) (sHas_any none none 0 0 noneT u w (none_in _ _) su ⟨Nat.le_refl 0, Nat.le_refl 0⟩)) ?_
          refine h_take 30 (o20 ++ ([] : List Blk)) _ (.bool true) rfl (by kernel_rfl) (by kernel_rfl) (by kernel_rfl) (pq_seq pq_body) (by kernel_rfl) (fun _ _ => by kernel_rfl) ?_
          refine h_take 31 (o20 ++ ([] : List Blk)) _ (.bool true) rfl (by kernel_rfl) (by kernel_rfl) (by kernel_rfl) (pq_seq pq_body) (by kernel_rfl) (fun _ _ => by kernel_rfl) ?_
          refine h_take 32 (o20 ++ ([] : List Blk)) _ (.bool true) rfl (by kernel_rfl) (by kernel_rfl) (by kernel_rfl) (pq_seq pq_body) (by kernel_rfl) (fun _ _ => by kernel_rfl) ?_
          refine h_drop (o20 ++ ([] : List Blk)) ?_
          refine h_done (by kernel_rfl) ?_
          refine fin_seq ?_
          refine ok_ret ?_
          refine fin_ret (.bool true) Tryz.results5 (by kernel_rfl) ?_
          exact fun w hO => ⟨rfl, hO.below⟩
      · skip
        refine s_call (k := 29) (args := #[.agg #[.slice V1 ((a).rel.length) c1, .slice U1 ((a).pre.length) d1], .agg #[.slice V2 ((b).rel.length) c2, .slice U2 ((b).pre.length) d2]]) (.bool false) (by kernel_rfl) (fun _ => by kernel_rfl) (fun w hO => ret_b ((within_b fa fb).trans (decide_eq_false (h6))) (sWithin_any V1 U1 V2 U2 c1 d1 c2 d2 a b w (SetO.inn hr1 hO (fun x hx => by simp [hx]) (fa) (by decide)) (SetO.inn hr2 hO (fun x hx => by simp [hx]) (fb) (by decide)) hr1.caps hr2.caps)) ?_
        refine s_val (.bool true) (by kernel_rfl) (fun _ => by kernel_rfl) ?_
        refine s_val (.bool true) (by kernel_rfl) (fun _ => by kernel_rfl) ?_
        refine s_skip (by kernel_rfl) ?_
        refine s_skip (by kernel_rfl) ?_
        refine s_val (.bool true) (by kernel_rfl) (fun _ => by kernel_rfl) ?_
        refine s_val (.bool true) (by kernel_rfl) (fun _ => by kernel_rfl) ?_
        refine s_skip (by kernel_rfl) ?_
        refine s_val (.bool true) (by kernel_rfl) (fun _ => by kernel_rfl) ?_
        refine s_val (.bool true) (by kernel_rfl) (fun _ => by kernel_rfl) ?_
        refine s_nil ?_
        refine fin_seq ?_
        refine ok_seq ?_
        refine ok_anyh (by kernel_rfl) ?_
        refine h_one 0 (by kernel_rfl) ?_
        refine hs_call [] _ (k := 11) (args := #[]) (.bool true) rfl (by kernel_rfl) (fun _ => by kernel_rfl) (fun w _ => awake5_any w) ?_
        refine h_take 1 [] _ (.bool true) rfl (by kernel_rfl) (by kernel_rfl) (by kernel_rfl) (pq_seq pq_body) (by kernel_rfl) (fun _ _ => by kernel_rfl) ?_
        refine h_take 2 [] _ (.bool true) rfl (by kernel_rfl) (by kernel_rfl) (by kernel_rfl) (pq_seq pq_body) (by kernel_rfl) (fun _ _ => by kernel_rfl) ?_
        refine h_take 3 [] _ (.bool true) rfl (by kernel_rfl) (by kernel_rfl) (by kernel_rfl) (pq_seq pq_body) (by kernel_rfl) (fun _ _ => by kernel_rfl) ?_
        refine h_take 4 [] _ (.bool true) rfl (by kernel_rfl) (by kernel_rfl) (by kernel_rfl) (pq_seq pq_body) (by kernel_rfl) (fun _ _ => by kernel_rfl) ?_
        refine h_take 5 [] _ (.bool true) rfl (by kernel_rfl) (by kernel_rfl) (by kernel_rfl) (pq_seq pq_body) (by kernel_rfl) (fun _ _ => by kernel_rfl) ?_
        refine h_take 6 [] _ (.bool true) rfl (by kernel_rfl) (by kernel_rfl) (by kernel_rfl) (pq_seq pq_body) (by kernel_rfl) (fun _ _ => by kernel_rfl) ?_
        refine h_take 7 [] _ (.bool true) rfl (by kernel_rfl) (by kernel_rfl) (by kernel_rfl) (pq_seq pq_body) (by kernel_rfl) (fun _ _ => by kernel_rfl) ?_
        refine h_load 8 [] _ 2 ⟨b1, #[.slice V1 ((a).rel.length) c1, .slice U1 ((a).pre.length) d1], 24⟩ (off := 0) (.agg #[.slice V1 ((a).rel.length) c1, .slice U1 ((a).pre.length) d1]) rfl (by kernel_rfl) (by kernel_rfl) (by kernel_rfl) (pq_seq pq_body) (by kernel_rfl) rfl (by kernel_rfl) (by kernel_rfl) (by kernel_rfl) ?_
        refine h_load 9 [] _ 1 ⟨b2, #[.slice V2 ((b).rel.length) c2, .slice U2 ((b).pre.length) d2], 24⟩ (off := 0) (.agg #[.slice V2 ((b).rel.length) c2, .slice U2 ((b).pre.length) d2]) rfl (by kernel_rfl) (by kernel_rfl) (by kernel_rfl) (pq_seq pq_body) (by kernel_rfl) rfl (by kernel_rfl) (by kernel_rfl) (by kernel_rfl) ?_
        by_cases h8 : andT a b = noneT
        · skip
          refine h_one 10 (by kernel_rfl) ?_
          refine hs_call [] _ (k := 31) (args := #[.agg #[.slice V1 ((a).rel.length) c1, .slice U1 ((a).pre.length) d1], .agg #[.slice V2 ((b).rel.length) c2, .slice U2 ((b).pre.length) d2]]) (.bool true) rfl (by kernel_rfl) (fun _ => by kernel_rfl) (fun w hO => ret_b ((apart_b fa fb).trans (decide_eq_true (h8))) (sApart_any V1 U1 V2 U2 c1 d1 c2 d2 a b w (SetO.inn hr1 hO (fun x hx => by simp [hx]) (fa) (by decide)) (SetO.inn hr2 hO (fun x hx => by simp [hx]) (fb) (by decide)) hr1.caps hr2.caps (Nat.le_trans (fa).rel.len (by decide)) (Nat.le_trans (fa).pre.len (by decide)) (Nat.le_trans (fb).rel.len (by decide)) (Nat.le_trans (fb).pre.len (by decide)))) ?_
          refine h_take 11 [] _ (.bool false) rfl (by kernel_rfl) (by kernel_rfl) (by kernel_rfl) (pq_seq pq_body) (by kernel_rfl) (fun _ _ => by kernel_rfl) ?_
          refine h_take 12 [] _ (.bool false) rfl (by kernel_rfl) (by kernel_rfl) (by kernel_rfl) (pq_seq pq_body) (by kernel_rfl) (fun _ _ => by kernel_rfl) ?_
          refine h_take 13 [] _ (.bool false) rfl (by kernel_rfl) (by kernel_rfl) (by kernel_rfl) (pq_seq pq_body) (by kernel_rfl) (fun _ _ => by kernel_rfl) ?_
          refine h_take 14 [] _ (.bool true) rfl (by kernel_rfl) (by kernel_rfl) (by kernel_rfl) (pq_seq pq_body) (by kernel_rfl) (fun _ _ => by kernel_rfl) ?_
          refine h_take 15 [] _ (.bool true) rfl (by kernel_rfl) (by kernel_rfl) (by kernel_rfl) (pq_seq pq_body) (by kernel_rfl) (fun _ _ => by kernel_rfl) ?_
          refine h_take 16 [] _ (.bool true) rfl (by kernel_rfl) (by kernel_rfl) (by kernel_rfl) (pq_seq pq_body) (by kernel_rfl) (fun _ _ => by kernel_rfl) ?_
          refine h_skip 17 [] _ rfl (by kernel_rfl) (by kernel_rfl) (by kernel_rfl) (pq_seq pq_body) (by kernel_rfl) ?_
          refine h_skip 18 [] _ rfl (by kernel_rfl) (by kernel_rfl) (by kernel_rfl) (pq_seq pq_body) (by kernel_rfl) ?_
          refine h_take 19 [] _ (.bool true) rfl (by kernel_rfl) (by kernel_rfl) (by kernel_rfl) (pq_seq pq_body) (by kernel_rfl) (fun _ _ => by kernel_rfl) ?_
          refine h_take 20 [] _ (.bool true) rfl (by kernel_rfl) (by kernel_rfl) (by kernel_rfl) (pq_seq pq_body) (by kernel_rfl) (fun _ _ => by kernel_rfl) ?_
          refine h_take 21 [] _ (.bool true) rfl (by kernel_rfl) (by kernel_rfl) (by kernel_rfl) (pq_seq pq_body) (by kernel_rfl) (fun _ _ => by kernel_rfl) ?_
          refine h_load 23 [] _ 0 ⟨b3, (verV u).cells, 26⟩ (off := 0) (verV u) rfl (by kernel_rfl) (by kernel_rfl) (by kernel_rfl) (pq_seq pq_body) (by kernel_rfl) rfl (by kernel_rfl) (by kernel_rfl) (by kernel_rfl) ?_
          refine h_one 22 (by kernel_rfl) ?_
          refine hl_callx _ (k := 36) (args := #[]) (fun v' L' => ∃ ob', L' = ob' ++ ([] ++ (⟨b3, (verV u).cells, 26⟩ :: (⟨b2, #[.slice V2 ((b).rel.length) c2, .slice U2 ((b).pre.length) d2], 24⟩ :: (⟨b1, #[.slice V1 ((a).rel.length) c1, .slice U1 ((a).pre.length) d1], 24⟩ :: (o2 ++ (o1)))))) ∧ SetO v' (allT) ob') rfl (by kernel_rfl) (fun _ => by kernel_rfl) (fun w hO => (sAll_any w).mono fun e w' ⟨v', ob', k1, k2, k3⟩ => ⟨v', _, k1, ⟨ob', rfl, k2⟩, Own.joinN hO k3⟩) (fun v' L' ⟨ob', e, _⟩ w hO => by subst e; exact Own.sub [] (Own.sub ob' hO)) (fun v21 L2 hv2 => ?_)
          obtain ⟨o21, rfl, hr21⟩ := hv2
          obtain ⟨V21, U21, c21, d21, rfl⟩ := hr21.form
          refine h_cast (L' := (o21 ++ ([] : List Blk)) ++ (⟨b3, (verV u).cells, 26⟩ :: (⟨b2, #[.slice V2 ((b).rel.length) c2, .slice U2 ((b).pre.length) d2], 24⟩ :: (⟨b1, #[.slice V1 ((a).rel.length) c1, .slice U1 ((a).pre.length) d1], 24⟩ :: (o2 ++ (o1)))))) (List.append_assoc _ _ _).symm ?_
          refine h_one 24 (by kernel_rfl) ?_
          refine hs_call (o21 ++ ([] : List Blk)) _ (k := 16) (args := #[.agg #[.slice V21 ((allT).rel.length) c21, .slice U21 ((allT).pre.length) d21], verV u]) (.bool true) rfl (by kernel_rfl) (fun _ => by kernel_rfl) (fun w hO => ret_b (setHas_all mu) (sHas_any V21 U21 c21 d21 allT u w (SetO.inn hr21 hO (fun x hx => by simp [hx]) (all_sf) (by decide)) su hr21.caps)) ?_
          refine h_take 25 (o21 ++ ([] : List Blk)) _ (.bool true) rfl (by kernel_rfl) (by kernel_rfl) (by kernel_rfl) (pq_seq pq_body) (by kernel_rfl) (fun _ _ => by kernel_rfl) ?_
          refine h_take 26 (o21 ++ ([] : List Blk)) _ (.bool true) rfl (by kernel_rfl) (by kernel_rfl) (by kernel_rfl) (pq_seq pq_body) (by kernel_rfl) (fun _ _ => by kernel_rfl) ?_
          refine h_load 28 (o21 ++ ([] : List Blk)) _ 0 ⟨b3, (verV u).cells, 26⟩ (off := 0) (verV u) rfl (by kernel_rfl) (by kernel_rfl) (by kernel_rfl) (pq_seq pq_body) (by kernel_rfl) rfl (by kernel_rfl) (by kernel_rfl) (by kernel_rfl) ?_
          refine h_one 27 (by kernel_rfl) ?_
          refine hs_call (o21 ++ ([] : List Blk)) _ (k := 37) (args := #[]) (.agg #[.slice none 0 0, .slice none 0 0]) rfl (by kernel_rfl) (fun _ => by kernel_rfl) (fun w _ => sNone_any w) ?_
          refine h_one 29 (by kernel_rfl) ?_
          refine hs_call (o21 ++ ([] : List Blk)) _ (k := 16) (args := #[.agg #[.slice none 0 0, .slice none 0 0], verV u]) (.bool false) rfl (by kernel_rfl) (fun _ => by kernel_rfl) (fun w hO => ret_b (setHas_none) (sHas_any none none 0 0 noneT u w (none_in _ _) su ⟨Nat.le_refl 0, Nat.le_refl 0⟩)) ?_
          refine h_take 30 (o21 ++ ([] : List Blk)) _ (.bool true) rfl (by kernel_rfl) (by kernel_rfl) (by kernel_rfl) (pq_seq pq_body) (by kernel_rfl) (fun _ _ => by kernel_rfl) ?_
          refine h_take 31 (o21 ++ ([] : List Blk)) _ (.bool true) rfl (by kernel_rfl) (by kernel_rfl) (by kernel_rfl) (pq_seq pq_body) (by kernel_rfl) (fun _ _ => by kernel_rfl) ?_
          refine h_take 32 (o21 ++ ([] : List Blk)) _ (.bool true) rfl (by kernel_rfl) (by kernel_rfl) (by kernel_rfl) (pq_seq pq_body) (by kernel_rfl) (fun _ _ => by kernel_rfl) ?_
          refine h_drop (o21 ++ ([] : List Blk)) ?_
          refine h_done (by kernel_rfl) ?_
          refine fin_seq ?_
          refine ok_ret ?_
          refine fin_ret (.bool true) Tryz.results5 (by kernel_rfl) ?_
          exact fun w hO => ⟨rfl, hO.below⟩
        · skip
          refine h_one 10 (by kernel_rfl) ?_
          refine hs_call [] _ (k := 31) (args := #[.agg #[.slice V1 ((a).rel.length) c1, .slice U1 ((a).pre.length) d1], .agg #[.slice V2 ((b).rel.length) c2, .slice U2 ((b).pre.length) d2]]) (.bool false) rfl (by kernel_rfl) (fun _ => by kernel_rfl) (fun w hO => ret_b ((apart_b fa fb).trans (decide_eq_false (h8))) (sApart_any V1 U1 V2 U2 c1 d1 c2 d2 a b w (SetO.inn hr1 hO (fun x hx => by simp [hx]) (fa) (by decide)) (SetO.inn hr2 hO (fun x hx => by simp [hx]) (fb) (by decide)) hr1.caps hr2.caps (Nat.le_trans (fa).rel.len (by decide)) (Nat.le_trans (fa).pre.len (by decide)) (Nat.le_trans (fb).rel.len (by decide)) (Nat.le_trans (fb).pre.len (by decide)))) ?_
          refine h_take 11 [] _ (.bool true) rfl (by kernel_rfl) (by kernel_rfl) (by kernel_rfl) (pq_seq pq_body) (by kernel_rfl) (fun _ _ => by kernel_rfl) ?_
          refine h_take 12 [] _ (.bool true) rfl (by kernel_rfl) (by kernel_rfl) (by kernel_rfl) (pq_seq pq_body) (by kernel_rfl) (fun _ _ => by kernel_rfl) ?_
          refine h_skip 13 [] _ rfl (by kernel_rfl) (by kernel_rfl) (by kernel_rfl) (pq_seq pq_body) (by kernel_rfl) ?_
          refine h_skip 14 [] _ rfl (by kernel_rfl) (by kernel_rfl) (by kernel_rfl) (pq_seq pq_body) (by kernel_rfl) ?_
          refine h_take 15 [] _ (.bool true) rfl (by kernel_rfl) (by kernel_rfl) (by kernel_rfl) (pq_seq pq_body) (by kernel_rfl) (fun _ _ => by kernel_rfl) ?_
          refine h_take 16 [] _ (.bool true) rfl (by kernel_rfl) (by kernel_rfl) (by kernel_rfl) (pq_seq pq_body) (by kernel_rfl) (fun _ _ => by kernel_rfl) ?_
          refine h_skip 17 [] _ rfl (by kernel_rfl) (by kernel_rfl) (by kernel_rfl) (pq_seq pq_body) (by kernel_rfl) ?_
          refine h_skip 18 [] _ rfl (by kernel_rfl) (by kernel_rfl) (by kernel_rfl) (pq_seq pq_body) (by kernel_rfl) ?_
          refine h_take 19 [] _ (.bool true) rfl (by kernel_rfl) (by kernel_rfl) (by kernel_rfl) (pq_seq pq_body) (by kernel_rfl) (fun _ _ => by kernel_rfl) ?_
          refine h_take 20 [] _ (.bool true) rfl (by kernel_rfl) (by kernel_rfl) (by kernel_rfl) (pq_seq pq_body) (by kernel_rfl) (fun _ _ => by kernel_rfl) ?_
          refine h_take 21 [] _ (.bool true) rfl (by kernel_rfl) (by kernel_rfl) (by kernel_rfl) (pq_seq pq_body) (by kernel_rfl) (fun _ _ => by kernel_rfl) ?_
          refine h_load 23 [] _ 0 ⟨b3, (verV u).cells, 26⟩ (off := 0) (verV u) rfl (by kernel_rfl) (by kernel_rfl) (by kernel_rfl) (pq_seq pq_body) (by kernel_rfl) rfl (by kernel_rfl) (by kernel_rfl) (by kernel_rfl) ?_
          refine h_one 22 (by kernel_rfl) ?_
          refine hl_callx _ (k := 36) (args := #[]) (fun v' L' => ∃ ob', L' = ob' ++ ([] ++ (⟨b3, (verV u).cells, 26⟩ :: (⟨b2, #[.slice V2 ((b).rel.length) c2, .slice U2 ((b).pre.length) d2], 24⟩ :: (⟨b1, #[.slice V1 ((a).rel.length) c1, .slice U1 ((a).pre.length) d1], 24⟩ :: (o2 ++ (o1)))))) ∧ SetO v' (allT) ob') rfl (by kernel_rfl) (fun _ => by kernel_rfl) (fun w hO => (sAll_any w).mono fun e w' ⟨v', ob', k1, k2, k3⟩ => ⟨v', _, k1, ⟨ob', rfl, k2⟩, Own.joinN hO k3⟩) (fun v' L' ⟨ob', e, _⟩ w hO => by subst e; exact Own.sub [] (Own.sub ob' hO)) (fun v22 L2 hv2 => ?_)
          obtain ⟨o22, rfl, hr22⟩ := hv2
          obtain ⟨V22, U22, c22, d22, rfl⟩ := hr22.form
          refine h_cast (L' := (o22 ++ ([] : List Blk)) ++ (⟨b3, (verV u).cells, 26⟩ :: (⟨b2, #[.slice V2 ((b).rel.length) c2, .slice U2 ((b).pre.length) d2], 24⟩ :: (⟨b1, #[.slice V1 ((a).rel.length) c1, .slice U1 ((a).pre.length) d1], 24⟩ :: (o2 ++ (o1)))))) (List.append_assoc _ _ _).symm ?_
          refine h_one 24 (by kernel_rfl) ?_
          refine hs_call (o22 ++ ([] : List Blk)) _ (k := 16) (args := #[.agg #[.slice V22 ((allT).rel.length) c22, .slice U22 ((allT).pre.length) d22], verV u]) (.bool true) rfl (by kernel_rfl) (fun _ => by kernel_rfl) (fun w hO => ret_b (setHas_all mu) (sHas_any V22 U22 c22 d22 allT u w (SetO.inn hr22 hO (fun x hx => by simp [hx]) (all_sf) (by decide)) su hr22.caps)) ?_
          refine h_take 25 (o22 ++ ([] : List Blk)) _ (.bool true) rfl (by kernel_rfl) (by kernel_rfl) (by kernel_rfl) (pq_seq pq_body) (by kernel_rfl) (fun _ _ => by kernel_rfl) ?_
          refine h_take 26 (o22 ++ ([] : List Blk)) _ (.bool true) rfl (by kernel_rfl) (by kernel_rfl) (by kernel_rfl) (pq_seq pq_body) (by kernel_rfl) (fun _ _ => by kernel_rfl) ?_
          refine h_load 28 (o22 ++ ([] : List Blk)) _ 0 ⟨b3, (verV u).cells, 26⟩ (off := 0) (verV u) rfl (by kernel_rfl) (by kernel_rfl) (by kernel_rfl) (pq_seq pq_body) (by kernel_rfl) rfl (by kernel_rfl) (by kernel_rfl) (by kernel_rfl) ?_
          refine h_one 27 (by kernel_rfl) ?_
          refine hs_call (o22 ++ ([] : List Blk)) _ (k := 37) (args := #[]) (.agg #[.slice none 0 0, .slice none 0 0]) rfl (by kernel_rfl) (fun _ => by kernel_rfl) (fun w _ => sNone_any w) ?_
          refine h_one 29 (by kernel_rfl) ?_
          refine hs_call (o22 ++ ([] : List Blk)) _ (k := 16) (args := #[.agg #[.slice none 0 0, .slice none 0 0], verV u]) (.bool false) rfl (by kernel_rfl) (fun _ => by kernel_rfl) (fun w hO => ret_b (setHas_none) (sHas_any none none 0 0 noneT u w (none_in _ _) su ⟨Nat.le_refl 0, Nat.le_refl 0⟩)) ?_
          refine h_take 30 (o22 ++ ([] : List Blk)) _ (.bool true) rfl (by kernel_rfl) (by kernel_rfl) (by kernel_rfl) (pq_seq pq_body) (by kernel_rfl) (fun _ _ => by kernel_rfl) ?_
          refine h_take 31 (o22 ++ ([] : List Blk)) _ (.bool true) rfl (by kernel_rfl) (by kernel_rfl) (by kernel_rfl) (pq_seq pq_body) (by kernel_rfl) (fun _ _ => by kernel_rfl) ?_
          refine h_take 32 (o22 ++ ([] : List Blk)) _ (.bool true) rfl (by kernel_rfl) (by kernel_rfl) (by kernel_rfl) (pq_seq pq_body) (by kernel_rfl) (fun _ _ => by kernel_rfl) ?_
          refine h_drop (o22 ++ ([] : List Blk)) ?_
          refine h_done (by kernel_rfl) ?_
          refine fin_seq ?_
          refine ok_ret ?_
          refine fin_ret (.bool true) Tryz.results5 (by kernel_rfl) ?_
          exact fun w hO => ⟨rfl, hO.below⟩
    | false =>
      refine q_call (k := 16) (args := #[.agg #[.slice V1 ((a).rel.length) c1, .slice U1 ((a).pre.length) d1], verV u]) (.bool false) (by kernel_rfl) (fun _ => by kernel_rfl) (fun w hO => ret_b (h1) (sHas_any V1 U1 c1 d1 a u w (SetO.inn hr1 hO (fun x hx => by simp [hx]) (fa) (by decide)) su hr1.caps)) ?_
      refine q_load 1 ⟨b2, #[.slice V2 ((b).rel.length) c2, .slice U2 ((b).pre.length) d2], 24⟩ (off := 0) (.agg #[.slice V2 ((b).rel.length) c2, .slice U2 ((b).pre.length) d2]) (by kernel_rfl) rfl (by kernel_rfl) (by kernel_rfl) (by kernel_rfl) ?_
      refine q_load 0 ⟨b3, (verV u).cells, 26⟩ (off := 0) (verV u) (by kernel_rfl) rfl (by kernel_rfl) (by kernel_rfl) (by kernel_rfl) ?_
      refine q_call (k := 16) (args := #[.agg #[.slice V2 ((b).rel.length) c2, .slice U2 ((b).pre.length) d2], verV u]) (.bool false) (by kernel_rfl) (fun _ => by kernel_rfl) (fun w hO => ret_b (h5) (sHas_any V2 U2 c2 d2 b u w (SetO.inn hr2 hO (fun x hx => by simp [hx]) (fb) (by decide)) su hr2.caps)) ?_
      refine q_val (.bool false) (by kernel_rfl) (fun _ => by kernel_rfl) ?_
      refine q_val (.bool false) (by kernel_rfl) (fun _ => by kernel_rfl) ?_
      refine q_nil ?_
      refine fin_seq ?_
      refine ok_seq ?_
      refine ok_anyh (by kernel_rfl) ?_
      refine h_load 0 [] _ 2 ⟨b1, #[.slice V1 ((a).rel.length) c1, .slice U1 ((a).pre.length) d1], 24⟩ (off := 0) (.agg #[.slice V1 ((a).rel.length) c1, .slice U1 ((a).pre.length) d1]) rfl (by kernel_rfl) (by kernel_rfl) (by kernel_rfl) (pq_seq pq_body) (by kernel_rfl) rfl (by kernel_rfl) (by kernel_rfl) (by kernel_rfl) ?_
      refine h_load 1 [] _ 1 ⟨b2, #[.slice V2 ((b).rel.length) c2, .slice U2 ((b).pre.length) d2], 24⟩ (off := 0) (.agg #[.slice V2 ((b).rel.length) c2, .slice U2 ((b).pre.length) d2]) rfl (by kernel_rfl) (by kernel_rfl) (by kernel_rfl) (pq_seq pq_body) (by kernel_rfl) rfl (by kernel_rfl) (by kernel_rfl) (by kernel_rfl) ?_
      refine h_load 3 [] _ 0 ⟨b3, (verV u).cells, 26⟩ (off := 0) (verV u) rfl (by kernel_rfl) (by kernel_rfl) (by kernel_rfl) (pq_seq pq_body) (by kernel_rfl) rfl (by kernel_rfl) (by kernel_rfl) (by kernel_rfl) ?_
      refine h_take 5 [] _ (.bool false) rfl (by kernel_rfl) (by kernel_rfl) (by kernel_rfl) (pq_seq pq_body) (by kernel_rfl) (fun _ _ => by kernel_rfl) ?_
      refine h_one 2 (by kernel_rfl) ?_
      refine hl_callx _ (k := 21) (args := #[.agg #[.slice V1 ((a).rel.length) c1, .slice U1 ((a).pre.length) d1], .agg #[.slice V2 ((b).rel.length) c2, .slice U2 ((b).pre.length) d2]]) (fun v' L' => ∃ ob', L' = ob' ++ ([] ++ (⟨b3, (verV u).cells, 26⟩ :: (⟨b2, #[.slice V2 ((b).rel.length) c2, .slice U2 ((b).pre.length) d2], 24⟩ :: (⟨b1, #[.slice V1 ((a).rel.length) c1, .slice U1 ((a).pre.length) d1], 24⟩ :: (o2 ++ (o1)))))) ∧ SetO v' (orT a b) ob') rfl (by kernel_rfl) (fun _ => by kernel_rfl) (fun w hO => (sOr_any V1 U1 V2 U2 c1 d1 c2 d2 a b w (SetO.inn hr1 hO (fun x hx => by simp [hx]) (fa) (by decide)) (SetO.inn hr2 hO (fun x hx => by simp [hx]) (fb) (by decide)) hr1.caps hr2.caps).mono fun e w' ⟨v', ob', k1, k2, k3⟩ => ⟨v', _, k1, ⟨ob', rfl, by rw [if_pos (by rw [(fa).may, (fb).may]; rfl)] at k2; exact k2⟩, Own.joinN hO k3⟩) (fun v' L' ⟨ob', e, _⟩ w hO => by subst e; exact Own.sub [] (Own.sub ob' hO)) (fun v23 L2 hv2 => ?_)
      obtain ⟨o23, rfl, hr23⟩ := hv2
      obtain ⟨V23, U23, c23, d23, rfl⟩ := hr23.form
      refine h_cast (L' := (o23 ++ ([] : List Blk)) ++ (⟨b3, (verV u).cells, 26⟩ :: (⟨b2, #[.slice V2 ((b).rel.length) c2, .slice U2 ((b).pre.length) d2], 24⟩ :: (⟨b1, #[.slice V1 ((a).rel.length) c1, .slice U1 ((a).pre.length) d1], 24⟩ :: (o2 ++ (o1)))))) (List.append_assoc _ _ _).symm ?_
      refine h_one 4 (by kernel_rfl) ?_
      refine hs_call (o23 ++ ([] : List Blk)) _ (k := 16) (args := #[.agg #[.slice V23 ((orT a b).rel.length) c23, .slice U23 ((orT a b).pre.length) d23], verV u]) (.bool false) rfl (by kernel_rfl) (fun _ => by kernel_rfl) (fun w hO => ret_b (by rw [setHas_or fa fb mu, h1, h5]; rfl) (sHas_any V23 U23 c23 d23 (orT a b) u w (SetO.inn hr23 hO (fun x hx => by simp [hx]) ((fa).or (fb)) (by decide)) su hr23.caps)) ?_
      refine h_take 6 (o23 ++ ([] : List Blk)) _ (.bool false) rfl (by kernel_rfl) (by kernel_rfl) (by kernel_rfl) (pq_seq pq_body) (by kernel_rfl) (fun _ _ => by kernel_rfl) ?_
      refine h_take 7 (o23 ++ ([] : List Blk)) _ (.bool false) rfl (by kernel_rfl) (by kernel_rfl) (by kernel_rfl) (pq_seq pq_body) (by kernel_rfl) (fun _ _ => by kernel_rfl) ?_
      refine h_take 8 (o23 ++ ([] : List Blk)) _ (.bool false) rfl (by kernel_rfl) (by kernel_rfl) (by kernel_rfl) (pq_seq pq_body) (by kernel_rfl) (fun _ _ => by kernel_rfl) ?_
      refine h_take 9 (o23 ++ ([] : List Blk)) _ (.bool true) rfl (by kernel_rfl) (by kernel_rfl) (by kernel_rfl) (pq_seq pq_body) (by kernel_rfl) (fun _ _ => by kernel_rfl) ?_
      refine h_take 10 (o23 ++ ([] : List Blk)) _ (.bool true) rfl (by kernel_rfl) (by kernel_rfl) (by kernel_rfl) (pq_seq pq_body) (by kernel_rfl) (fun _ _ => by kernel_rfl) ?_
      refine h_load 11 (o23 ++ ([] : List Blk)) _ 2 ⟨b1, #[.slice V1 ((a).rel.length) c1, .slice U1 ((a).pre.length) d1], 24⟩ (off := 0) (.agg #[.slice V1 ((a).rel.length) c1, .slice U1 ((a).pre.length) d1]) rfl (by kernel_rfl) (by kernel_rfl) (by kernel_rfl) (pq_seq pq_body) (by kernel_rfl) rfl (by kernel_rfl) (by kernel_rfl) (by kernel_rfl) ?_
      refine h_load 12 (o23 ++ ([] : List Blk)) _ 1 ⟨b2, #[.slice V2 ((b).rel.length) c2, .slice U2 ((b).pre.length) d2], 24⟩ (off := 0) (.agg #[.slice V2 ((b).rel.length) c2, .slice U2 ((b).pre.length) d2]) rfl (by kernel_rfl) (by kernel_rfl) (by kernel_rfl) (pq_seq pq_body) (by kernel_rfl) rfl (by kernel_rfl) (by kernel_rfl) (by kernel_rfl) ?_
      refine h_load 14 (o23 ++ ([] : List Blk)) _ 0 ⟨b3, (verV u).cells, 26⟩ (off := 0) (verV u) rfl (by kernel_rfl) (by kernel_rfl) (by kernel_rfl) (pq_seq pq_body) (by kernel_rfl) rfl (by kernel_rfl) (by kernel_rfl) (by kernel_rfl) ?_
      refine h_take 16 (o23 ++ ([] : List Blk)) _ (.bool false) rfl (by kernel_rfl) (by kernel_rfl) (by kernel_rfl) (pq_seq pq_body) (by kernel_rfl) (fun _ _ => by kernel_rfl) ?_
      refine h_one 13 (by kernel_rfl) ?_
      refine hl_callx _ (k := 23) (args := #[.agg #[.slice V1 ((a).rel.length) c1, .slice U1 ((a).pre.length) d1], .agg #[.slice V2 ((b).rel.length) c2, .slice U2 ((b).pre.length) d2]]) (fun v' L' => ∃ ob', L' = ob' ++ ((o23 ++ ([] : List Blk)) ++ (⟨b3, (verV u).cells, 26⟩ :: (⟨b2, #[.slice V2 ((b).rel.length) c2, .slice U2 ((b).pre.length) d2], 24⟩ :: (⟨b1, #[.slice V1 ((a).rel.length) c1, .slice U1 ((a).pre.length) d1], 24⟩ :: (o2 ++ (o1)))))) ∧ SetO v' (andT a b) ob') rfl (by kernel_rfl) (fun _ => by kernel_rfl) (fun w hO => (sAnd_any V1 U1 V2 U2 c1 d1 c2 d2 a b w (SetO.inn hr1 hO (fun x hx => by simp [hx]) (fa) (by decide)) (SetO.inn hr2 hO (fun x hx => by simp [hx]) (fb) (by decide)) hr1.caps hr2.caps).mono fun e w' ⟨v', ob', k1, k2, k3⟩ => ⟨v', _, k1, ⟨ob', rfl, by rw [if_pos (by rw [(fa).may, (fb).may]; rfl)] at k2; exact k2⟩, Own.joinN hO k3⟩) (fun v' L' ⟨ob', e, _⟩ w hO => by subst e; exact Own.sub (o23 ++ ([] : List Blk)) (Own.sub ob' hO)) (fun v24 L2 hv2 => ?_)
      obtain ⟨o24, rfl, hr24⟩ := hv2
      obtain ⟨V24, U24, c24, d24, rfl⟩ := hr24.form
      refine h_cast (L' := (o24 ++ (o23 ++ ([] : List Blk))) ++ (⟨b3, (verV u).cells, 26⟩ :: (⟨b2, #[.slice V2 ((b).rel.length) c2, .slice U2 ((b).pre.length) d2], 24⟩ :: (⟨b1, #[.slice V1 ((a).rel.length) c1, .slice U1 ((a).pre.length) d1], 24⟩ :: (o2 ++ (o1)))))) (List.append_assoc _ _ _).symm ?_
      refine h_one 15 (by kernel_rfl) ?_
      refine hs_call (o24 ++ (o23 ++ ([] : List Blk))) _ (k := 16) (args := #[.agg #[.slice V24 ((andT a b).rel.length) c24, .slice U24 ((andT a b).pre.length) d24], verV u]) (.bool false) rfl (by kernel_rfl) (fun _ => by kernel_rfl) (fun w hO => ret_b (by rw [setHas_and fa fb mu, h1, h5]; rfl) (sHas_any V24 U24 c24 d24 (andT a b) u w (SetO.inn hr24 hO (fun x hx => by simp [hx]) ((fa).and (fb)) (by decide)) su hr24.caps)) ?_
      refine h_take 17 (o24 ++ (o23 ++ ([] : List Blk))) _ (.bool false) rfl (by kernel_rfl) (by kernel_rfl) (by kernel_rfl) (pq_seq pq_body) (by kernel_rfl) (fun _ _ => by kernel_rfl) ?_
      refine h_skip 18 (o24 ++ (o23 ++ ([] : List Blk))) _ rfl (by kernel_rfl) (by kernel_rfl) (by kernel_rfl) (pq_seq pq_body) (by kernel_rfl) ?_
      refine h_take 19 (o24 ++ (o23 ++ ([] : List Blk))) _ (.bool false) rfl (by kernel_rfl) (by kernel_rfl) (by kernel_rfl) (pq_seq pq_body) (by kernel_rfl) (fun _ _ => by kernel_rfl) ?_
      refine h_take 20 (o24 ++ (o23 ++ ([] : List Blk))) _ (.bool true) rfl (by kernel_rfl) (by kernel_rfl) (by kernel_rfl) (pq_seq pq_body) (by kernel_rfl) (fun _ _ => by kernel_rfl) ?_
      refine h_take 21 (o24 ++ (o23 ++ ([] : List Blk))) _ (.bool true) rfl (by kernel_rfl) (by kernel_rfl) (by kernel_rfl) (pq_seq pq_body) (by kernel_rfl) (fun _ _ => by kernel_rfl) ?_
      refine h_take 22 (o24 ++ (o23 ++ ([] : List Blk))) _ (.bool true) rfl (by kernel_rfl) (by kernel_rfl) (by kernel_rfl) (pq_seq pq_body) (by kernel_rfl) (fun _ _ => by kernel_rfl) ?_
      refine h_load 23 (o24 ++ (o23 ++ ([] : List Blk))) _ 2 ⟨b1, #[.slice V1 ((a).rel.length) c1, .slice U1 ((a).pre.length) d1], 24⟩ (off := 0) (.agg #[.slice V1 ((a).rel.length) c1, .slice U1 ((a).pre.length) d1]) rfl (by kernel_rfl) (by kernel_rfl) (by kernel_rfl) (pq_seq pq_body) (by kernel_rfl) rfl (by kernel_rfl) (by kernel_rfl) (by kernel_rfl) ?_
      refine h_load 25 (o24 ++ (o23 ++ ([] : List Blk))) _ 0 ⟨b3, (verV u).cells, 26⟩ (off := 0) (verV u) rfl (by kernel_rfl) (by kernel_rfl) (by kernel_rfl) (pq_seq pq_body) (by kernel_rfl) rfl (by kernel_rfl) (by kernel_rfl) (by kernel_rfl) ?_
      refine h_take 27 (o24 ++ (o23 ++ ([] : List Blk))) _ (.bool false) rfl (by kernel_rfl) (by kernel_rfl) (by kernel_rfl) (pq_seq pq_body) (by kernel_rfl) (fun _ _ => by kernel_rfl) ?_
      refine h_take 28 (o24 ++ (o23 ++ ([] : List Blk))) _ (.bool true) rfl (by kernel_rfl) (by kernel_rfl) (by kernel_rfl) (pq_seq pq_body) (by kernel_rfl) (fun _ _ => by kernel_rfl) ?_
      refine h_one 24 (by kernel_rfl) ?_
      refine hl_callx _ (k := 25) (args := #[.agg #[.slice V1 ((a).rel.length) c1, .slice U1 ((a).pre.length) d1]]) (fun v' L' => ∃ ob', L' = ob' ++ ((o24 ++ (o23 ++ ([] : List Blk))) ++ (⟨b3, (verV u).cells, 26⟩ :: (⟨b2, #[.slice V2 ((b).rel.length) c2, .slice U2 ((b).pre.length) d2], 24⟩ :: (⟨b1, #[.slice V1 ((a).rel.length) c1, .slice U1 ((a).pre.length) d1], 24⟩ :: (o2 ++ (o1)))))) ∧ SetO v' (notT a) ob') rfl (by kernel_rfl) (fun _ => by kernel_rfl) (fun w hO => (sNot_any V1 U1 c1 d1 a w (SetO.inn hr1 hO (fun x hx => by simp [hx]) (fa) (by decide)) hr1.caps).mono fun e w' ⟨v', ob', k1, k2, k3⟩ => ⟨v', _, k1, ⟨ob', rfl, by rw [if_pos (fa).may] at k2; exact k2⟩, Own.joinN hO k3⟩) (fun v' L' ⟨ob', e, _⟩ w hO => by subst e; exact Own.sub (o24 ++ (o23 ++ ([] : List Blk))) (Own.sub ob' hO)) (fun v25 L2 hv2 => ?_)
      obtain ⟨o25, rfl, hr25⟩ := hv2
      obtain ⟨V25, U25, c25, d25, rfl⟩ := hr25.form
      refine h_cast (L' := (o25 ++ (o24 ++ (o23 ++ ([] : List Blk)))) ++ (⟨b3, (verV u).cells, 26⟩ :: (⟨b2, #[.slice V2 ((b).rel.length) c2, .slice U2 ((b).pre.length) d2], 24⟩ :: (⟨b1, #[.slice V1 ((a).rel.length) c1, .slice U1 ((a).pre.length) d1], 24⟩ :: (o2 ++ (o1)))))) (List.append_assoc _ _ _).symm ?_
      refine h_one 26 (by kernel_rfl) ?_
      refine hs_call (o25 ++ (o24 ++ (o23 ++ ([] : List Blk)))) _ (k := 16) (args := #[.agg #[.slice V25 ((notT a).rel.length) c25, .slice U25 ((notT a).pre.length) d25], verV u]) (.bool true) rfl (by kernel_rfl) (fun _ => by kernel_rfl) (fun w hO => ret_b (by rw [setHas_not fa mu, h1]; rfl) (sHas_any V25 U25 c25 d25 (notT a) u w (SetO.inn hr25 hO (fun x hx => by simp [hx]) ((fa).not) (by decide)) su hr25.caps)) ?_
      refine h_take 29 (o25 ++ (o24 ++ (o23 ++ ([] : List Blk)))) _ (.bool true) rfl (by kernel_rfl) (by kernel_rfl) (by kernel_rfl) (pq_seq pq_body) (by kernel_rfl) (fun _ _ => by kernel_rfl) ?_
      refine h_take 30 (o25 ++ (o24 ++ (o23 ++ ([] : List Blk)))) _ (.bool true) rfl (by kernel_rfl) (by kernel_rfl) (by kernel_rfl) (pq_seq pq_body) (by kernel_rfl) (fun _ _ => by kernel_rfl) ?_
      refine h_take 31 (o25 ++ (o24 ++ (o23 ++ ([] : List Blk)))) _ (.bool true) rfl (by kernel_rfl) (by kernel_rfl) (by kernel_rfl) (pq_seq pq_body) (by kernel_rfl) (fun _ _ => by kernel_rfl) ?_
      refine h_load 32 (o25 ++ (o24 ++ (o23 ++ ([] : List Blk)))) _ 2 ⟨b1, #[.slice V1 ((a).rel.length) c1, .slice U1 ((a).pre.length) d1], 24⟩ (off := 0) (.agg #[.slice V1 ((a).rel.length) c1, .slice U1 ((a).pre.length) d1]) rfl (by kernel_rfl) (by kernel_rfl) (by kernel_rfl) (pq_seq pq_body) (by kernel_rfl) rfl (by kernel_rfl) (by kernel_rfl) (by kernel_rfl) ?_
      refine h_load 33 (o25 ++ (o24 ++ (o23 ++ ([] : List Blk)))) _ 1 ⟨b2, #[.slice V2 ((b).rel.length) c2, .slice U2 ((b).pre.length) d2], 24⟩ (off := 0) (.agg #[.slice V2 ((b).rel.length) c2, .slice U2 ((b).pre.length) d2]) rfl (by kernel_rfl) (by kernel_rfl) (by kernel_rfl) (pq_seq pq_body) (by kernel_rfl) rfl (by kernel_rfl) (by kernel_rfl) (by kernel_rfl) ?_
      refine h_load 35 (o25 ++ (o24 ++ (o23 ++ ([] : List Blk)))) _ 0 ⟨b3, (verV u).cells, 26⟩ (off := 0) (verV u) rfl (by kernel_rfl) (by kernel_rfl) (by kernel_rfl) (pq_seq pq_body) (by kernel_rfl) rfl (by kernel_rfl) (by kernel_rfl) (by kernel_rfl) ?_
      refine h_take 37 (o25 ++ (o24 ++ (o23 ++ ([] : List Blk)))) _ (.bool false) rfl (by kernel_rfl) (by kernel_rfl) (by kernel_rfl) (pq_seq pq_body) (by kernel_rfl) (fun _ _ => by kernel_rfl) ?_
      refine h_one 34 (by kernel_rfl) ?_
      refine hl_callx _ (k := 27) (args := #[.agg #[.slice V1 ((a).rel.length) c1, .slice U1 ((a).pre.length) d1], .agg #[.slice V2 ((b).rel.length) c2, .slice U2 ((b).pre.length) d2]]) (fun v' L' => ∃ ob', L' = ob' ++ ((o25 ++ (o24 ++ (o23 ++ ([] : List Blk)))) ++ (⟨b3, (verV u).cells, 26⟩ :: (⟨b2, #[.slice V2 ((b).rel.length) c2, .slice U2 ((b).pre.length) d2], 24⟩ :: (⟨b1, #[.slice V1 ((a).rel.length) c1, .slice U1 ((a).pre.length) d1], 24⟩ :: (o2 ++ (o1)))))) ∧ SetO v' (minusT a b) ob') rfl (by kernel_rfl) (fun _ => by kernel_rfl) (fun w hO => (sMinus_any V1 U1 V2 U2 c1 d1 c2 d2 a b w (SetO.inn hr1 hO (fun x hx => by simp [hx]) (fa) (by decide)) (SetO.inn hr2 hO (fun x hx => by simp [hx]) (fb) (by decide)) hr1.caps hr2.caps (Nat.le_trans (fb).rel.len (by decide)) (Nat.le_trans (fb).pre.len (by decide))).mono fun e w' ⟨v', ob', k1, k2, k3⟩ => ⟨v', _, k1, ⟨ob', rfl, by rw [if_pos (by rw [(fa).may, (fb).may]; rfl)] at k2; exact k2⟩, Own.joinN hO k3⟩) (fun v' L' ⟨ob', e, _⟩ w hO => by subst e; exact Own.sub (o25 ++ (o24 ++ (o23 ++ ([] : List Blk)))) (Own.sub ob' hO)) (fun v26 L2 hv2 => ?_)
      obtain ⟨o26, rfl, hr26⟩ := hv2
      obtain ⟨V26, U26, c26, d26, rfl⟩ := hr26.form
      refine h_cast (L' := (o26 ++ (o25 ++ (o24 ++ (o23 ++ ([] : List Blk))))) ++ (⟨b3, (verV u).cells, 26⟩ :: (⟨b2, #[.slice V2 ((b).rel.length) c2, .slice U2 ((b).pre.length) d2], 24⟩ :: (⟨b1, #[.slice V1 ((a).rel.length) c1, .slice U1 ((a).pre.length) d1], 24⟩ :: (o2 ++ (o1)))))) (List.append_assoc _ _ _).symm ?_
      refine h_one 36 (by kernel_rfl) ?_
      refine hs_call (o26 ++ (o25 ++ (o24 ++ (o23 ++ ([] : List Blk))))) _ (k := 16) (args := #[.agg #[.slice V26 ((minusT a b).rel.length) c26, .slice U26 ((minusT a b).pre.length) d26], verV u]) (.bool false) rfl (by kernel_rfl) (fun _ => by kernel_rfl) (fun w hO => ret_b (by rw [setHas_minus fa fb mu, h1, h5]; rfl) (sHas_any V26 U26 c26 d26 (minusT a b) u w (SetO.inn hr26 hO (fun x hx => by simp [hx]) ((fa).minus (fb)) (by decide)) su hr26.caps)) ?_
      refine h_take 38 (o26 ++ (o25 ++ (o24 ++ (o23 ++ ([] : List Blk))))) _ (.bool false) rfl (by kernel_rfl) (by kernel_rfl) (by kernel_rfl) (pq_seq pq_body) (by kernel_rfl) (fun _ _ => by kernel_rfl) ?_
      refine h_skip 39 (o26 ++ (o25 ++ (o24 ++ (o23 ++ ([] : List Blk))))) _ rfl (by kernel_rfl) (by kernel_rfl) (by kernel_rfl) (pq_seq pq_body) (by kernel_rfl) ?_
      refine h_skip 40 (o26 ++ (o25 ++ (o24 ++ (o23 ++ ([] : List Blk))))) _ rfl (by kernel_rfl) (by kernel_rfl) (by kernel_rfl) (pq_seq pq_body) (by kernel_rfl) ?_
      refine h_take 41 (o26 ++ (o25 ++ (o24 ++ (o23 ++ ([] : List Blk))))) _ (.bool false) rfl (by kernel_rfl) (by kernel_rfl) (by kernel_rfl) (pq_seq pq_body) (by kernel_rfl) (fun _ _ => by kernel_rfl) ?_
      refine h_take 42 (o26 ++ (o25 ++ (o24 ++ (o23 ++ ([] : List Blk))))) _ (.bool true) rfl (by kernel_rfl) (by kernel_rfl) (by kernel_rfl) (pq_seq pq_body) (by kernel_rfl) (fun _ _ => by kernel_rfl) ?_
      refine h_take 43 (o26 ++ (o25 ++ (o24 ++ (o23 ++ ([] : List Blk))))) _ (.bool true) rfl (by kernel_rfl) (by kernel_rfl) (by kernel_rfl) (pq_seq pq_body) (by kernel_rfl) (fun _ _ => by kernel_rfl) ?_
      refine h_take 44 (o26 ++ (o25 ++ (o24 ++ (o23 ++ ([] : List Blk))))) _ (.bool true) rfl (by kernel_rfl) (by kernel_rfl) (by kernel_rfl) (pq_seq pq_body) (by kernel_rfl) (fun _ _ => by kernel_rfl) ?_
      refine h_drop (o26 ++ (o25 ++ (o24 ++ (o23 ++ ([] : List Blk))))) ?_
      refine h_done (by kernel_rfl) ?_
      refine fin_seq ?_
      refine ok_seq ?_
      refine ok_region ?_
      refine s_load 2 ⟨b1, #[.slice V1 ((a).rel.length) c1, .slice U1 ((a).pre.length) d1], 24⟩ (off := 0) (.agg #[.slice V1 ((a).rel.length) c1, .slice U1 ((a).pre.length) d1]) (by kernel_rfl) rfl (by kernel_rfl) (by kernel_rfl) (by kernel_rfl) ?_
      refine s_load 1 ⟨b2, #[.slice V2 ((b).rel.length) c2, .slice U2 ((b).pre.length) d2], 24⟩ (off := 0) (.agg #[.slice V2 ((b).rel.length) c2, .slice U2 ((b).pre.length) d2]) (by kernel_rfl) rfl (by kernel_rfl) (by kernel_rfl) (by kernel_rfl) ?_
      by_cases h9 : andT a b = a
      · skip
        refine s_call (k := 29) (args := #[.agg #[.slice V1 ((a).rel.length) c1, .slice U1 ((a).pre.length) d1], .agg #[.slice V2 ((b).rel.length) c2, .slice U2 ((b).pre.length) d2]]) (.bool true) (by kernel_rfl) (fun _ => by kernel_rfl) (fun w hO => ret_b ((within_b fa fb).trans (decide_eq_true (h9))) (sWithin_any V1 U1 V2 U2 c1 d1 c2 d2 a b w (SetO.inn hr1 hO (fun x hx => by simp [hx]) (fa) (by decide)) (SetO.inn hr2 hO (fun x hx => by simp [hx]) (fb) (by decide)) hr1.caps hr2.caps)) ?_
        refine s_val (.bool false) (by kernel_rfl) (fun _ => by kernel_rfl) ?_
        refine s_val (.bool false) (by kernel_rfl) (fun _ => by kernel_rfl) ?_
        refine s_val (.bool false) (by kernel_rfl) (fun _ => by kernel_rfl) ?_
        refine s_val (.bool true) (by kernel_rfl) (fun _ => by kernel_rfl) ?_
        refine s_val (.bool true) (by kernel_rfl) (fun _ => by kernel_rfl) ?_
        refine s_val (.bool true) (by kernel_rfl) (fun _ => by kernel_rfl) ?_
        refine s_skip (by kernel_rfl) ?_
        refine s_val (.bool true) (by kernel_rfl) (fun _ => by kernel_rfl) ?_
        refine s_val (.bool true) (by kernel_rfl) (fun _ => by kernel_rfl) ?_
        refine s_nil ?_
        refine fin_seq ?_
        refine ok_seq ?_
        refine ok_anyh (by kernel_rfl) ?_
        refine h_one 0 (by kernel_rfl) ?_
        refine hs_call [] _ (k := 11) (args := #[]) (.bool true) rfl (by kernel_rfl) (fun _ => by kernel_rfl) (fun w _ => awake5_any w) ?_
        refine h_take 1 [] _ (.bool true) rfl (by kernel_rfl) (by kernel_rfl) (by kernel_rfl) (pq_seq pq_body) (by kernel_rfl) (fun _ _ => by kernel_rfl) ?_
        refine h_take 2 [] _ (.bool true) rfl (by kernel_rfl) (by kernel_rfl) (by kernel_rfl) (pq_seq pq_body) (by kernel_rfl) (fun _ _ => by kernel_rfl) ?_
        refine h_take 3 [] _ (.bool true) rfl (by kernel_rfl) (by kernel_rfl) (by kernel_rfl) (pq_seq pq_body) (by kernel_rfl) (fun _ _ => by kernel_rfl) ?_
        refine h_take 4 [] _ (.bool true) rfl (by kernel_rfl) (by kernel_rfl) (by kernel_rfl) (pq_seq pq_body) (by kernel_rfl) (fun _ _ => by kernel_rfl) ?_
        refine h_take 5 [] _ (.bool true) rfl (by kernel_rfl) (by kernel_rfl) (by kernel_rfl) (pq_seq pq_body) (by kernel_rfl) (fun _ _ => by kernel_rfl) ?_
        refine h_take 6 [] _ (.bool true) rfl (by kernel_rfl) (by kernel_rfl) (by kernel_rfl) (pq_seq pq_body) (by kernel_rfl) (fun _ _ => by kernel_rfl) ?_
        refine h_take 7 [] _ (.bool true) rfl (by kernel_rfl) (by kernel_rfl) (by kernel_rfl) (pq_seq pq_body) (by kernel_rfl) (fun _ _ => by kernel_rfl) ?_
        refine h_load 8 [] _ 2 ⟨b1, #[.slice V1 ((a).rel.length) c1, .slice U1 ((a).pre.length) d1], 24⟩ (off := 0) (.agg #[.slice V1 ((a).rel.length) c1, .slice U1 ((a).pre.length) d1]) rfl (by kernel_rfl) (by kernel_rfl) (by kernel_rfl) (pq_seq pq_body) (by kernel_rfl) rfl (by kernel_rfl) (by kernel_rfl) (by kernel_rfl) ?_
        refine h_load 9 [] _ 1 ⟨b2, #[.slice V2 ((b).rel.length) c2, .slice U2 ((b).pre.length) d2], 24⟩ (off := 0) (.agg #[.slice V2 ((b).rel.length) c2, .slice U2 ((b).pre.length) d2]) rfl (by kernel_rfl) (by kernel_rfl) (by kernel_rfl) (pq_seq pq_body) (by kernel_rfl) rfl (by kernel_rfl) (by kernel_rfl) (by kernel_rfl) ?_
        by_cases h10 : andT a b = noneT
        · skip
          refine h_one 10 (by kernel_rfl) ?_
          refine hs_call [] _ (k := 31) (args := #[.agg #[.slice V1 ((a).rel.length) c1, .slice U1 ((a).pre.length) d1], .agg #[.slice V2 ((b).rel.length) c2, .slice U2 ((b).pre.length) d2]]) (.bool true) rfl (by kernel_rfl) (fun _ => by kernel_rfl) (fun w hO => ret_b ((apart_b fa fb).trans (decide_eq_true (h10))) (sApart_any V1 U1 V2 U2 c1 d1 c2 d2 a b w (SetO.inn hr1 hO (fun x hx => by simp [hx]) (fa) (by decide)) (SetO.inn hr2 hO (fun x hx => by simp [hx]) (fb) (by decide)) hr1.caps hr2.caps (Nat.le_trans (fa).rel.len (by decide)) (Nat.le_trans (fa).pre.len (by decide)) (Nat.le_trans (fb).rel.len (by decide)) (Nat.le_trans (fb).pre.len (by decide)))) ?_
          refine h_take 11 [] _ (.bool false) rfl (by kernel_rfl) (by kernel_rfl) (by kernel_rfl) (pq_seq pq_body) (by kernel_rfl) (fun _ _ => by kernel_rfl) ?_
          refine h_take 12 [] _ (.bool false) rfl (by kernel_rfl) (by kernel_rfl) (by kernel_rfl) (pq_seq pq_body) (by kernel_rfl) (fun _ _ => by kernel_rfl) ?_
          refine h_take 13 [] _ (.bool false) rfl (by kernel_rfl) (by kernel_rfl) (by kernel_rfl) (pq_seq pq_body) (by kernel_rfl) (fun _ _ => by kernel_rfl) ?_
          refine h_take 14 [] _ (.bool true) rfl (by kernel_rfl) (by kernel_rfl) (by kernel_rfl) (pq_seq pq_body) (by kernel_rfl) (fun _ _ => by kernel_rfl) ?_
          refine h_take 15 [] _ (.bool true) rfl (by kernel_rfl) (by kernel_rfl) (by kernel_rfl) (pq_seq pq_body) (by kernel_rfl) (fun _ _ => by kernel_rfl) ?_
          refine h_take 16 [] _ (.bool true) rfl (by kernel_rfl) (by kernel_rfl) (by kernel_rfl) (pq_seq pq_body) (by kernel_rfl) (fun _ _ => by kernel_rfl) ?_
          refine h_skip 17 [] _ rfl (by kernel_rfl) (by kernel_rfl) (by kernel_rfl) (pq_seq pq_body) (by kernel_rfl) ?_
          refine h_skip 18 [] _ rfl (by kernel_rfl) (by kernel_rfl) (by kernel_rfl) (pq_seq pq_body) (by kernel_rfl) ?_
          refine h_take 19 [] _ (.bool true) rfl (by kernel_rfl) (by kernel_rfl) (by kernel_rfl) (pq_seq pq_body) (by kernel_rfl) (fun _ _ => by kernel_rfl) ?_
          refine h_take 20 [] _ (.bool true) rfl (by kernel_rfl) (by kernel_rfl) (by kernel_rfl) (pq_seq pq_body) (by kernel_rfl) (fun _ _ => by kernel_rfl) ?_
          refine h_take 21 [] _ (.bool true) rfl (by kernel_rfl) (by kernel_rfl) (by kernel_rfl) (pq_seq pq_body) (by kernel_rfl) (fun _ _ => by kernel_rfl) ?_
          refine h_load 23 [] _ 0 ⟨b3, (verV u).cells, 26⟩ (off := 0) (verV u) rfl (by kernel_rfl) (by kernel_rfl) (by kernel_rfl) (pq_seq pq_body) (by kernel_rfl) rfl (by kernel_rfl) (by kernel_rfl) (by kernel_rfl) ?_
          refine h_one 22 (by kernel_rfl) ?_
          refine hl_callx _ (k := 36) (args := #[]) (fun v' L' => ∃ ob', L' = ob' ++ ([] ++ (⟨b3, (verV u).cells, 26⟩ :: (⟨b2, #[.slice V2 ((b).rel.length) c2, .slice U2 ((b).pre.length) d2], 24⟩ :: (⟨b1, #[.slice V1 ((a).rel.length) c1, .slice U1 ((a).pre.length) d1], 24⟩ :: (o2 ++ (o1)))))) ∧ SetO v' (allT) ob') rfl (by kernel_rfl) (fun _ => by kernel_rfl) (fun w hO => (sAll_any w).mono fun e w' ⟨v', ob', k1, k2, k3⟩ => ⟨v', _, k1, ⟨ob', rfl, k2⟩, Own.joinN hO k3⟩) (fun v' L' ⟨ob', e, _⟩ w hO => by subst e; exact Own.sub [] (Own.sub ob' hO)) (fun v27 L2 hv2 => ?_)
          obtain ⟨o27, rfl, hr27⟩ := hv2
          obtain ⟨V27, U27, c27, d27, rfl⟩ := hr27.form
          refine h_cast (L' := (o27 ++ ([] : List Blk)) ++ (⟨b3, (verV u).cells, 26⟩ :: (⟨b2, #[.slice V2 ((b).rel.length) c2, .slice U2 ((b).pre.length) d2], 24⟩ :: (⟨b1, #[.slice V1 ((a).rel.length) c1, .slice U1 ((a).pre.length) d1], 24⟩ :: (o2 ++ (o1)))))) (List.append_assoc _ _ _).symm ?_
          refine h_one 24 (by kernel_rfl) ?_
          refine hs_call (o27 ++ ([] : List Blk)) _ (k := 16) (args := #[.agg #[.slice V27 ((allT).rel.length) c27, .slice U27 ((allT).pre.length) d27], verV u]) (.bool true) rfl (by kernel_rfl) (fun _ => by kernel_rfl) (fun w hO => ret_b (setHas_all mu) (sHas_any V27 U27 c27 d27 allT u w (SetO.inn hr27 hO (fun x hx => by simp [hx]) (all_sf) (by decide)) su hr27.caps)) ?_
          refine h_take 25 (o27 ++ ([] : List Blk)) _ (.bool true) rfl (by kernel_rfl) (by kernel_rfl) (by kernel_rfl) (pq_seq pq_body) (by kernel_rfl) (fun _ _ => by kernel_rfl) ?_
          refine h_take 26 (o27 ++ ([] : List Blk)) _ (.bool true) rfl (by kernel_rfl) (by kernel_rfl) (by kernel_rfl) (pq_seq pq_body) (by kernel_rfl) (fun _ _ => by kernel_rfl) ?_
          refine h_load 28 (o27 ++ ([] : List Blk)) _ 0 ⟨b3, (verV u).cells, 26⟩ (off := 0) (verV u) rfl (by kernel_rfl) (by kernel_rfl) (by kernel_rfl) (pq_seq pq_body) (by kernel_rfl) rfl (by kernel_rfl) (by kernel_rfl) (by kernel_rfl) ?_
          refine h_one 27 (by kernel_rfl) ?_
          refine hs_call (o27 ++ ([] : List Blk)) _ (k := 37) (args := #[]) (.agg #[.slice none 0 0, .slice none 0 0]) rfl (by kernel_rfl) (fun _ => by kernel_rfl) (fun w _ => sNone_any w) ?_
          refine h_one 29 (by kernel_rfl) ?_
          refine hs_call (o27 ++ ([] : List Blk)) _ (k := 16) (args := #[.agg #[.slice none 0 0, .slice none 0 0], verV u]) (.bool false) rfl (by kernel_rfl) (fun _ => by kernel_rfl) (fun w hO => ret_b (setHas_none) (sHas_any none none 0 0 noneT u w (none_in _ _) su ⟨Nat.le_refl 0, Nat.le_refl 0⟩)) ?_
          refine h_take 30 (o27 ++ ([] : List Blk)) _ (.bool true) rfl (by kernel_rfl) (by kernel_rfl) (by kernel_rfl) (pq_seq pq_body) (by kernel_rfl) (fun _ _ => by kernel_rfl) ?_
          refine h_take 31 (o27 ++ ([] : List Blk)) _ (.bool true) rfl (by kernel_rfl) (by kernel_rfl) (by kernel_rfl) (pq_seq pq_body) (by kernel_rfl) (fun _ _ => by kernel_rfl) ?_
          refine h_take 32 (o27 ++ ([] : List Blk)) _ (.bool true) rfl (by kernel_rfl) (by kernel_rfl) (by kernel_rfl) (pq_seq pq_body) (by kernel_rfl) (fun _ _ => by kernel_rfl) ?_
          refine h_drop (o27 ++ ([] : List Blk)) ?_
          refine h_done (by kernel_rfl) ?_
          refine fin_seq ?_
          refine ok_ret ?_
          refine fin_ret (.bool true) Tryz.results5 (by kernel_rfl) ?_
          exact fun w hO => ⟨rfl, hO.below⟩
        · skip
          refine h_one 10 (by kernel_rfl) ?_
          refine hs_call [] _ (k := 31) (args := #[.agg #[.slice V1 ((a).rel.length) c1, .slice U1 ((a).pre.length) d1], .agg #[.slice V2 ((b).rel.length) c2, .slice U2 ((b).pre.length) d2]]) (.bool false) rfl (by kernel_rfl) (fun _ => by kernel_rfl) (fun w hO => ret_b ((apart_b fa fb).trans (decide_eq_false (h10))) (sApart_any V1 U1 V2 U2 c1 d1 c2 d2 a b w (SetO.inn hr1 hO (fun x hx => by simp [hx]) (fa) (by decide)) (SetO.inn hr2 hO (fun x hx => by simp [hx]) (fb) (by decide)) hr1.caps hr2.caps (Nat.le_trans (fa).rel.len (by decide)) (Nat.le_trans (fa).pre.len (by decide)) (Nat.le_trans (fb).rel.len (by decide)) (Nat.le_trans (fb).pre.len (by decide)))) ?_
          refine h_take 11 [] _ (.bool true) rfl (by kernel_rfl) (by kernel_rfl) (by kernel_rfl) (pq_seq pq_body) (by kernel_rfl) (fun _ _ => by kernel_rfl) ?_
          refine h_take 12 [] _ (.bool true) rfl (by kernel_rfl) (by kernel_rfl) (by kernel_rfl) (pq_seq pq_body) (by kernel_rfl) (fun _ _ => by kernel_rfl) ?_
          refine h_skip 13 [] _ rfl (by kernel_rfl) (by kernel_rfl) (by kernel_rfl) (pq_seq pq_body) (by kernel_rfl) ?_
          refine h_skip 14 [] _ rfl (by kernel_rfl) (by kernel_rfl) (by kernel_rfl) (pq_seq pq_body) (by kernel_rfl) ?_
          refine h_take 15 [] _ (.bool true) rfl (by kernel_rfl) (by kernel_rfl) (by kernel_rfl) (pq_seq pq_body) (by kernel_rfl) (fun _ _ => by kernel_rfl) ?_
          refine h_take 16 [] _ (.bool true) rfl (by kernel_rfl) (by kernel_rfl) (by kernel_rfl) (pq_seq pq_body) (by kernel_rfl) (fun _ _ => by kernel_rfl) ?_
          refine h_skip 17 [] _ rfl (by kernel_rfl) (by kernel_rfl) (by kernel_rfl) (pq_seq pq_body) (by kernel_rfl) ?_
          refine h_skip 18 [] _ rfl (by kernel_rfl) (by kernel_rfl) (by kernel_rfl) (pq_seq pq_body) (by kernel_rfl) ?_
          refine h_take 19 [] _ (.bool true) rfl (by kernel_rfl) (by kernel_rfl) (by kernel_rfl) (pq_seq pq_body) (by kernel_rfl) (fun _ _ => by kernel_rfl) ?_
          refine h_take 20 [] _ (.bool true) rfl (by kernel_rfl) (by kernel_rfl) (by kernel_rfl) (pq_seq pq_body) (by kernel_rfl) (fun _ _ => by kernel_rfl) ?_
          refine h_take 21 [] _ (.bool true) rfl (by kernel_rfl) (by kernel_rfl) (by kernel_rfl) (pq_seq pq_body) (by kernel_rfl) (fun _ _ => by kernel_rfl) ?_
          refine h_load 23 [] _ 0 ⟨b3, (verV u).cells, 26⟩ (off := 0) (verV u) rfl (by kernel_rfl) (by kernel_rfl) (by kernel_rfl) (pq_seq pq_body) (by kernel_rfl) rfl (by kernel_rfl) (by kernel_rfl) (by kernel_rfl) ?_
          refine h_one 22 (by kernel_rfl) ?_
          refine hl_callx _ (k := 36) (args := #[]) (fun v' L' => ∃ ob', L' = ob' ++ ([] ++ (⟨b3, (verV u).cells, 26⟩ :: (⟨b2, #[.slice V2 ((b).rel.length) c2, .slice U2 ((b).pre.length) d2], 24⟩ :: (⟨b1, #[.slice V1 ((a).rel.length) c1, .slice U1 ((a).pre.length) d1], 24⟩ :: (o2 ++ (o1)))))) ∧ SetO v' (allT) ob') rfl (by kernel_rfl) (fun _ => by kernel_rfl) (fun w hO => (sAll_any w).mono fun e w' ⟨v', ob', k1, k2, k3⟩ => ⟨v', _, k1, ⟨ob', rfl, k2⟩, Own.joinN hO k3⟩) (fun v' L' ⟨ob', e, _⟩ w hO => by subst e; exact Own.sub [] (Own.sub ob' hO)) (fun v28 L2 hv2 => ?_)
          obtain ⟨o28, rfl, hr28⟩ := hv2
          obtain ⟨V28, U28, c28, d28, rfl⟩ := hr28.form
          refine h_cast (L' := (o28 ++ ([] : List Blk)) ++ (⟨b3, (verV u).cells, 26⟩ :: (⟨b2, #[.slice V2 ((b).rel.length) c2, .slice U2 ((b).pre.length) d2], 24⟩ :: (⟨b1, #[.slice V1 ((a).rel.length) c1, .slice U1 ((a).pre.length) d1], 24⟩ :: (o2 ++ (o1)))))) (List.append_assoc _ _ _).symm ?_
          refine h_one 24 (by kernel_rfl) ?_
          refine hs_call (o28 ++ ([] : List Blk)) _ (k := 16) (args := #[.agg #[.slice V28 ((allT).rel.length) c28, .slice U28 ((allT).pre.length) d28], verV u]) (.bool true) rfl (by kernel_rfl) (fun _ => by kernel_rfl) (fun w hO => ret_b (setHas_all mu) (sHas_any V28 U28 c28 d28 allT u w (SetO.inn hr28 hO (fun x hx => by simp [hx]) (all_sf) (by decide)) su hr28.caps)) ?_
          refine h_take 25 (o28 ++ ([] : List Blk)) _ (.bool true) rfl (by kernel_rfl) (by kernel_rfl) (by kernel_rfl) (pq_seq pq_body) (by kernel_rfl) (fun _ _ => by kernel_rfl) ?_
          refine h_take 26 (o28 ++ ([] : List Blk)) _ (.bool true) rfl (by kernel_rfl) (by kernel_rfl) (by kernel_rfl) (pq_seq pq_body) (by kernel_rfl) (fun _ _ => by kernel_rfl) ?_
          refine h_load 28 (o28 ++ ([] : List Blk)) _ 0 ⟨b3, (verV u).cells, 26⟩ (off := 0) (verV u) rfl (by kernel_rfl) (by kernel_rfl) (by kernel_rfl) (pq_seq pq_body) (by kernel_rfl) rfl (by kernel_rfl) (by kernel_rfl) (by kernel_rfl) ?_
          refine h_one 27 (by kernel_rfl) ?_
          refine hs_call (o28 ++ ([] : List Blk)) _ (k := 37) (args := #[]) (.agg #[.slice none 0 0, .slice none 0 0]) rfl (by kernel_rfl) (fun _ => by kernel_rfl) (fun w _ => sNone_any w) ?_
          refine h_one 29 (by kernel_rfl) ?_
          refine hs_call (o28 ++ ([] : List Blk)) _ (k := 16) (args := #[.agg #[.slice none 0 0, .slice none 0 0], verV u]) (.bool false) rfl (by kernel_rfl) (fun _ => by kernel_rfl) (fun w hO => ret_b (setHas_none) (sHas_any none none 0 0 noneT u w (none_in _ _) su ⟨Nat.le_refl 0, Nat.le_refl 0⟩)) ?_
          refine h_take 30 (o28 ++ ([] : List Blk)) _ (.bool true) rfl (by kernel_rfl) (by kernel_rfl) (by kernel_rfl) (pq_seq pq_body) (by kernel_rfl) (fun _ _ => by kernel_rfl) ?_
          refine h_take 31 (o28 ++ ([] : List Blk)) _ (.bool true) rfl (by kernel_rfl) (by kernel_rfl) (by kernel_rfl) (pq_seq pq_body) (by kernel_rfl) (fun _ _ => by kernel_rfl) ?_
          refine h_take 32 (o28 ++ ([] : List Blk)) _ (.bool true) rfl (by kernel_rfl) (by kernel_rfl) (by kernel_rfl) (pq_seq pq_body) (by kernel_rfl) (fun _ _ => by kernel_rfl) ?_
          refine h_drop (o28 ++ ([] : List Blk)) ?_
          refine h_done (by kernel_rfl) ?_
          refine fin_seq ?_
          refine ok_ret ?_
          refine fin_ret (.bool true) Tryz.results5 (by kernel_rfl) ?_
          exact fun w hO => ⟨rfl, hO.below⟩
      · skip
        refine s_call (k := 29) (args := #[.agg #[.slice V1 ((a).rel.length) c1, .slice U1 ((a).pre.length) d1], .agg #[.slice V2 ((b).rel.length) c2, .slice U2 ((b).pre.length) d2]]) (.bool false) (by kernel_rfl) (fun _ => by kernel_rfl) (fun w hO => ret_b ((within_b fa fb).trans (decide_eq_false (h9))) (sWithin_any V1 U1 V2 U2 c1 d1 c2 d2 a b w (SetO.inn hr1 hO (fun x hx => by simp [hx]) (fa) (by decide)) (SetO.inn hr2 hO (fun x hx => by simp [hx]) (fb) (by decide)) hr1.caps hr2.caps)) ?_
        refine s_val (.bool true) (by kernel_rfl) (fun _ => by kernel_rfl) ?_
        refine s_val (.bool true) (by kernel_rfl) (fun _ => by kernel_rfl) ?_
        refine s_skip (by kernel_rfl) ?_
        refine s_skip (by kernel_rfl) ?_
        refine s_val (.bool true) (by kernel_rfl) (fun _ => by kernel_rfl) ?_
        refine s_val (.bool true) (by kernel_rfl) (fun _ => by kernel_rfl) ?_
        refine s_skip (by kernel_rfl) ?_
        refine s_val (.bool true) (by kernel_rfl) (fun _ => by kernel_rfl) ?_
        refine s_val (.bool true) (by kernel_rfl) (fun _ => by kernel_rfl) ?_
        refine s_nil ?_
        refine fin_seq ?_
        refine ok_seq ?_
        refine ok_anyh (by kernel_rfl) ?_
        refine h_one 0 (by kernel_rfl) ?_
        refine hs_call [] _ (k := 11) (args := #[]) (.bool true) rfl (by kernel_rfl) (fun _ => by kernel_rfl) (fun w _ => awake5_any w) ?_
        refine h_take 1 [] _ (.bool true) rfl (by kernel_rfl) (by kernel_rfl) (by kernel_rfl) (pq_seq pq_body) (by kernel_rfl) (fun _ _ => by kernel_rfl) ?_
        refine h_take 2 [] _ (.bool true) rfl (by kernel_rfl) (by kernel_rfl) (by kernel_rfl) (pq_seq pq_body) (by kernel_rfl) (fun _ _ => by kernel_rfl) ?_
        refine h_take 3 [] _ (.bool true) rfl (by kernel_rfl) (by kernel_rfl) (by kernel_rfl) (pq_seq pq_body) (by kernel_rfl) (fun _ _ => by kernel_rfl) ?_
        refine h_take 4 [] _ (.bool true) rfl (by kernel_rfl) (by kernel_rfl) (by kernel_rfl) (pq_seq pq_body) (by kernel_rfl) (fun _ _ => by kernel_rfl) ?_
        refine h_take 5 [] _ (.bool true) rfl (by kernel_rfl) (by kernel_rfl) (by kernel_rfl) (pq_seq pq_body) (by kernel_rfl) (fun _ _ => by kernel_rfl) ?_
        refine h_take 6 [] _ (.bool true) rfl (by kernel_rfl) (by kernel_rfl) (by kernel_rfl) (pq_seq pq_body) (by kernel_rfl) (fun _ _ => by kernel_rfl) ?_
        refine h_take 7 [] _ (.bool true) rfl (by kernel_rfl) (by kernel_rfl) (by kernel_rfl) (pq_seq pq_body) (by kernel_rfl) (fun _ _ => by kernel_rfl) ?_
        refine h_load 8 [] _ 2 ⟨b1, #[.slice V1 ((a).rel.length) c1, .slice U1 ((a).pre.length) d1], 24⟩ (off := 0) (.agg #[.slice V1 ((a).rel.length) c1, .slice U1 ((a).pre.length) d1]) rfl (by kernel_rfl) (by kernel_rfl) (by kernel_rfl) (pq_seq pq_body) (by kernel_rfl) rfl (by kernel_rfl) (by kernel_rfl) (by kernel_rfl) ?_
        refine h_load 9 [] _ 1 ⟨b2, #[.slice V2 ((b).rel.length) c2, .slice U2 ((b).pre.length) d2], 24⟩ (off := 0) (.agg #[.slice V2 ((b).rel.length) c2, .slice U2 ((b).pre.length) d2]) rfl (by kernel_rfl) (by kernel_rfl) (by kernel_rfl) (pq_seq pq_body) (by kernel_rfl) rfl (by kernel_rfl) (by kernel_rfl) (by kernel_rfl) ?_
        by_cases h11 : andT a b = noneT
        · skip
          refine h_one 10 (by kernel_rfl) ?_
          refine hs_call [] _ (k := 31) (args := #[.agg #[.slice V1 ((a).rel.length) c1, .slice U1 ((a).pre.length) d1], .agg #[.slice V2 ((b).rel.length) c2, .slice U2 ((b).pre.length) d2]]) (.bool true) rfl (by kernel_rfl) (fun _ => by kernel_rfl) (fun w hO => ret_b ((apart_b fa fb).trans (decide_eq_true (h11))) (sApart_any V1 U1 V2 U2 c1 d1 c2 d2 a b w (SetO.inn hr1 hO (fun x hx => by simp [hx]) (fa) (by decide)) (SetO.inn hr2 hO (fun x hx => by simp [hx]) (fb) (by decide)) hr1.caps hr2.caps (Nat.le_trans (fa).rel.len (by decide)) (Nat.le_trans (fa).pre.len (by decide)) (Nat.le_trans (fb).rel.len (by decide)) (Nat.le_trans (fb).pre.len (by decide)))) ?_
          refine h_take 11 [] _ (.bool false) rfl (by kernel_rfl) (by kernel_rfl) (by kernel_rfl) (pq_seq pq_body) (by kernel_rfl) (fun _ _ => by kernel_rfl) ?_
          refine h_take 12 [] _ (.bool false) rfl (by kernel_rfl) (by kernel_rfl) (by kernel_rfl) (pq_seq pq_body) (by kernel_rfl) (fun _ _ => by kernel_rfl) ?_
          refine h_take 13 [] _ (.bool false) rfl (by kernel_rfl) (by kernel_rfl) (by kernel_rfl) (pq_seq pq_body) (by kernel_rfl) (fun _ _ => by kernel_rfl) ?_
          refine h_take 14 [] _ (.bool true) rfl (by kernel_rfl) (by kernel_rfl) (by kernel_rfl) (pq_seq pq_body) (by kernel_rfl) (fun _ _ => by kernel_rfl) ?_
          refine h_take 15 [] _ (.bool true) rfl (by kernel_rfl) (by kernel_rfl) (by kernel_rfl) (pq_seq pq_body) (by kernel_rfl) (fun _ _ => by kernel_rfl) ?_
          refine h_take 16 [] _ (.bool true) rfl (by kernel_rfl) (by kernel_rfl) (by kernel_rfl) (pq_seq pq_body) (by kernel_rfl) (fun _ _ => by kernel_rfl) ?_
          refine h_skip 17 [] _ rfl (by kernel_rfl) (by kernel_rfl) (by kernel_rfl) (pq_seq pq_body) (by kernel_rfl) ?_
          refine h_skip 18 [] _ rfl (by kernel_rfl) (by kernel_rfl) (by kernel_rfl) (pq_seq pq_body) (by kernel_rfl) ?_
          refine h_take 19 [] _ (.bool true) rfl (by kernel_rfl) (by kernel_rfl) (by kernel_rfl) (pq_seq pq_body) (by kernel_rfl) (fun _ _ => by kernel_rfl) ?_
          refine h_take 20 [] _ (.bool true) rfl (by kernel_rfl) (by kernel_rfl) (by kernel_rfl) (pq_seq pq_body) (by kernel_rfl) (fun _ _ => by kernel_rfl) ?_
          refine h_take 21 [] _ (.bool true) rfl (by kernel_rfl) (by kernel_rfl) (by kernel_rfl) (pq_seq pq_body) (by kernel_rfl) (fun _ _ => by kernel_rfl) ?_
          refine h_load 23 [] _ 0 ⟨b3, (verV u).cells, 26⟩ (off := 0) (verV u) rfl (by kernel_rfl) (by kernel_rfl) (by kernel_rfl) (pq_seq pq_body) (by kernel_rfl) rfl (by kernel_rfl) (by kernel_rfl) (by kernel_rfl) ?_
          refine h_one 22 (by kernel_rfl) ?_
          refine hl_callx _ (k := 36) (args := #[]) (fun v' L' => ∃ ob', L' = ob' ++ ([] ++ (⟨b3, (verV u).cells, 26⟩ :: (⟨b2, #[.slice V2 ((b).rel.length) c2, .slice U2 ((b).pre.length) d2], 24⟩ :: (⟨b1, #[.slice V1 ((a).rel.length) c1, .slice U1 ((a).pre.length) d1], 24⟩ :: (o2 ++ (o1)))))) ∧ SetO v' (allT) ob') rfl (by kernel_rfl) (fun _ => by kernel_rfl) (fun w hO => (sAll_any w).mono fun e w' ⟨v', ob', k1, k2, k3⟩ => ⟨v', _, k1, ⟨ob', rfl, k2⟩, Own.joinN hO k3⟩) (fun v' L' ⟨ob', e, _⟩ w hO => by subst e; exact Own.sub [] (Own.sub ob' hO)) (fun v29 L2 hv2 => ?_)
          obtain ⟨o29, rfl, hr29⟩ := hv2
          obtain ⟨V29, U29, c29, d29, rfl⟩ := hr29.form
          refine h_cast (L' := (o29 ++ ([] : List Blk)) ++ (⟨b3, (verV u).cells, 26⟩ :: (⟨b2, #[.slice V2 ((b).rel.length) c2, .slice U2 ((b).pre.length) d2], 24⟩ :: (⟨b1, #[.slice V1 ((a).rel.length) c1, .slice U1 ((a).pre.length) d1], 24⟩ :: (o2 ++ (o1)))))) (List.append_assoc _ _ _).symm ?_
          refine h_one 24 (by kernel_rfl) ?_
          refine hs_call (o29 ++ ([] : List Blk)) _ (k := 16) (args := #[.agg #[.slice V29 ((allT).rel.length) c29, .slice U29 ((allT).pre.length) d29], verV u]) (.bool true) rfl (by kernel_rfl) (fun _ => by kernel_rfl) (fun w hO => ret_b (setHas_all mu) (sHas_any V29 U29 c29 d29 allT u w (SetO.inn hr29 hO (fun x hx => by simp [hx]) (all_sf) (by decide)) su hr29.caps)) ?_
          refine h_take 25 (o29 ++ ([] : List Blk)) _ (.bool true) rfl (by kernel_rfl) (by kernel_rfl) (by kernel_rfl) (pq_seq pq_body) (by kernel_rfl) (fun _ _ => by kernel_rfl) ?_
          refine h_take 26 (o29 ++ ([] : List Blk)) _ (.bool true) rfl (by kernel_rfl) (by kernel_rfl) (by kernel_rfl) (pq_seq pq_body) (by kernel_rfl) (fun _ _ => by kernel_rfl) ?_
          refine h_load 28 (o29 ++ ([] : List Blk)) _ 0 ⟨b3, (verV u).cells, 26⟩ (off := 0) (verV u) rfl (by kernel_rfl) (by kernel_rfl) (by kernel_rfl) (pq_seq pq_body) (by kernel_rfl) rfl (by kernel_rfl) (by kernel_rfl) (by kernel_rfl) ?_
          refine h_one 27 (by kernel_rfl) ?_
          refine hs_call (o29 ++ ([] : List Blk)) _ (k := 37) (args := #[]) (.agg #[.slice none 0 0, .slice none 0 0]) rfl (by kernel_rfl) (fun _ => by kernel_rfl) (fun w _ => sNone_any w) ?_
          refine h_one 29 (by kernel_rfl) ?_
          refine hs_call (o29 ++ ([] : List Blk)) _ (k := 16) (args := #[.agg #[.slice none 0 0, .slice none 0 0], verV u]) (.bool false) rfl (by kernel_rfl) (fun _ => by kernel_rfl) (fun w hO => ret_b (setHas_none) (sHas_any none none 0 0 noneT u w (none_in _ _) su ⟨Nat.le_refl 0, Nat.le_refl 0⟩)) ?_
          refine h_take 30 (o29 ++ ([] : List Blk)) _ (.bool true) rfl (by kernel_rfl) (by kernel_rfl) (by kernel_rfl) (pq_seq pq_body) (by kernel_rfl) (fun _ _ => by kernel_rfl) ?_
          refine h_take 31 (o29 ++ ([] : List Blk)) _ (.bool true) rfl (by kernel_rfl) (by kernel_rfl) (by kernel_rfl) (pq_seq pq_body) (by kernel_rfl) (fun _ _ => by kernel_rfl) ?_
          refine h_take 32 (o29 ++ ([] : List Blk)) _ (.bool true) rfl (by kernel_rfl) (by kernel_rfl) (by kernel_rfl) (pq_seq pq_body) (by kernel_rfl) (fun _ _ => by kernel_rfl) ?_
          refine h_drop (o29 ++ ([] : List Blk)) ?_
          refine h_done (by kernel_rfl) ?_
          refine fin_seq ?_
          refine ok_ret ?_
          refine fin_ret (.bool true) Tryz.results5 (by kernel_rfl) ?_
          exact fun w hO => ⟨rfl, hO.below⟩
        · skip
          refine h_one 10 (by kernel_rfl) ?_
          refine hs_call [] _ (k := 31) (args := #[.agg #[.slice V1 ((a).rel.length) c1, .slice U1 ((a).pre.length) d1], .agg #[.slice V2 ((b).rel.length) c2, .slice U2 ((b).pre.length) d2]]) (.bool false) rfl (by kernel_rfl) (fun _ => by kernel_rfl) (fun w hO => ret_b ((apart_b fa fb).trans (decide_eq_false (h11))) (sApart_any V1 U1 V2 U2 c1 d1 c2 d2 a b w (SetO.inn hr1 hO (fun x hx => by simp [hx]) (fa) (by decide)) (SetO.inn hr2 hO (fun x hx => by simp [hx]) (fb) (by decide)) hr1.caps hr2.caps (Nat.le_trans (fa).rel.len (by decide)) (Nat.le_trans (fa).pre.len (by decide)) (Nat.le_trans (fb).rel.len (by decide)) (Nat.le_trans (fb).pre.len (by decide)))) ?_
          refine h_take 11 [] _ (.bool true) rfl (by kernel_rfl) (by kernel_rfl) (by kernel_rfl) (pq_seq pq_body) (by kernel_rfl) (fun _ _ => by kernel_rfl) ?_
          refine h_take 12 [] _ (.bool true) rfl (by kernel_rfl) (by kernel_rfl) (by kernel_rfl) (pq_seq pq_body) (by kernel_rfl) (fun _ _ => by kernel_rfl) ?_
          refine h_skip 13 [] _ rfl (by kernel_rfl) (by kernel_rfl) (by kernel_rfl) (pq_seq pq_body) (by kernel_rfl) ?_
          refine h_skip 14 [] _ rfl (by kernel_rfl) (by kernel_rfl) (by kernel_rfl) (pq_seq pq_body) (by kernel_rfl) ?_
          refine h_take 15 [] _ (.bool true) rfl (by kernel_rfl) (by kernel_rfl) (by kernel_rfl) (pq_seq pq_body) (by kernel_rfl) (fun _ _ => by kernel_rfl) ?_
          refine h_take 16 [] _ (.bool true) rfl (by kernel_rfl) (by kernel_rfl) (by kernel_rfl) (pq_seq pq_body) (by kernel_rfl) (fun _ _ => by kernel_rfl) ?_
          refine h_skip 17 [] _ rfl (by kernel_rfl) (by kernel_rfl) (by kernel_rfl) (pq_seq pq_body) (by kernel_rfl) ?_
          refine h_skip 18 [] _ rfl (by kernel_rfl) (by kernel_rfl) (by kernel_rfl) (pq_seq pq_body) (by kernel_rfl) ?_
          refine h_take 19 [] _ (.bool true) rfl (by kernel_rfl) (by kernel_rfl) (by kernel_rfl) (pq_seq pq_body) (by kernel_rfl) (fun _ _ => by kernel_rfl) ?_
          refine h_take 20 [] _ (.bool true) rfl (by kernel_rfl) (by kernel_rfl) (by kernel_rfl) (pq_seq pq_body) (by kernel_rfl) (fun _ _ => by kernel_rfl) ?_
          refine h_take 21 [] _ (.bool true) rfl (by kernel_rfl) (by kernel_rfl) (by kernel_rfl) (pq_seq pq_body) (by kernel_rfl) (fun _ _ => by kernel_rfl) ?_
          refine h_load 23 [] _ 0 ⟨b3, (verV u).cells, 26⟩ (off := 0) (verV u) rfl (by kernel_rfl) (by kernel_rfl) (by kernel_rfl) (pq_seq pq_body) (by kernel_rfl) rfl (by kernel_rfl) (by kernel_rfl) (by kernel_rfl) ?_
          refine h_one 22 (by kernel_rfl) ?_
          refine hl_callx _ (k := 36) (args := #[]) (fun v' L' => ∃ ob', L' = ob' ++ ([] ++ (⟨b3, (verV u).cells, 26⟩ :: (⟨b2, #[.slice V2 ((b).rel.length) c2, .slice U2 ((b).pre.length) d2], 24⟩ :: (⟨b1, #[.slice V1 ((a).rel.length) c1, .slice U1 ((a).pre.length) d1], 24⟩ :: (o2 ++ (o1)))))) ∧ SetO v' (allT) ob') rfl (by kernel_rfl) (fun _ => by kernel_rfl) (fun w hO => (sAll_any w).mono fun e w' ⟨v', ob', k1, k2, k3⟩ => ⟨v', _, k1, ⟨ob', rfl, k2⟩, Own.joinN hO k3⟩) (fun v' L' ⟨ob', e, _⟩ w hO => by subst e; exact Own.sub [] (Own.sub ob' hO)) (fun v30 L2 hv2 => ?_)
          obtain ⟨o30, rfl, hr30⟩ := hv2
          obtain ⟨V30, U30, c30, d30, rfl⟩ := hr30.form
          refine h_cast (L' := (o30 ++ ([] : List Blk)) ++ (⟨b3, (verV u).cells, 26⟩ :: (⟨b2, #[.slice V2 ((b).rel.length) c2, .slice U2 ((b).pre.length) d2], 24⟩ :: (⟨b1, #[.slice V1 ((a).rel.length) c1, .slice U1 ((a).pre.length) d1], 24⟩ :: (o2 ++ (o1)))))) (List.append_assoc _ _ _).symm ?_
          refine h_one 24 (by kernel_rfl) ?_
          refine hs_call (o30 ++ ([] : List Blk)) _ (k := 16) (args := #[.agg #[.slice V30 ((allT).rel.length) c30, .slice U30 ((allT).pre.length) d30], verV u]) (.bool true) rfl (by kernel_rfl) (fun _ => by kernel_rfl) (fun w hO => ret_b (setHas_all mu) (sHas_any V30 U30 c30 d30 allT u w (SetO.inn hr30 hO (fun x hx => by simp [hx]) (all_sf) (by decide)) su hr30.caps)) ?_
          refine h_take 25 (o30 ++ ([] : List Blk)) _ (.bool true) rfl (by kernel_rfl) (by kernel_rfl) (by kernel_rfl) (pq_seq pq_body) (by kernel_rfl) (fun _ _ => by kernel_rfl) ?_
          refine h_take 26 (o30 ++ ([] : List Blk)) _ (.bool true) rfl (by kernel_rfl) (by kernel_rfl) (by kernel_rfl) (pq_seq pq_body) (by kernel_rfl) (fun _ _ => by kernel_rfl) ?_
          refine h_load 28 (o30 ++ ([] : List Blk)) _ 0 ⟨b3, (verV u).cells, 26⟩ (off := 0) (verV u) rfl (by kernel_rfl) (by kernel_rfl) (by kernel_rfl) (pq_seq pq_body) (by kernel_rfl) rfl (by kernel_rfl) (by kernel_rfl) (by kernel_rfl) ?_
          refine h_one 27 (by kernel_rfl) ?_
          refine hs_call (o30 ++ ([] : List Blk)) _ (k := 37) (args := #[]) (.agg #[.slice none 0 0, .slice none 0 0]) rfl (by kernel_rfl) (fun _ => by kernel_rfl) (fun w _ => sNone_any w) ?_
          refine h_one 29 (by kernel_rfl) ?_
          refine hs_call (o30 ++ ([] : List Blk)) _ (k := 16) (args := #[.agg #[.slice none 0 0, .slice none 0 0], verV u]) (.bool false) rfl (by kernel_rfl) (fun _ => by kernel_rfl) (fun w hO => ret_b (setHas_none) (sHas_any none none 0 0 noneT u w (none_in _ _) su ⟨Nat.le_refl 0, Nat.le_refl 0⟩)) ?_
          refine h_take 30 (o30 ++ ([] : List Blk)) _ (.bool true) rfl (by kernel_rfl) (by kernel_rfl) (by kernel_rfl) (pq_seq pq_body) (by kernel_rfl) (fun _ _ => by kernel_rfl) ?_
          refine h_take 31 (o30 ++ ([] : List Blk)) _ (.bool true) rfl (by kernel_rfl) (by kernel_rfl) (by kernel_rfl) (pq_seq pq_body) (by kernel_rfl) (fun _ _ => by kernel_rfl) ?_
          refine h_take 32 (o30 ++ ([] : List Blk)) _ (.bool true) rfl (by kernel_rfl) (by kernel_rfl) (by kernel_rfl) (pq_seq pq_body) (by kernel_rfl) (fun _ _ => by kernel_rfl) ?_
          refine h_drop (o30 ++ ([] : List Blk)) ?_
          refine h_done (by kernel_rfl) ?_
          refine fin_seq ?_
          refine ok_ret ?_
          refine fin_ret (.bool true) Tryz.results5 (by kernel_rfl) ?_
          exact fun w hO => ⟨rfl, hO.below⟩
end Go.Proofs.YtgeccfdofmnphaaGreat
end

section
/-
  SetMeans: for every input the call returns true, and each argument reads afterwards as it read before. Conditions: none but the row's own.
-/
namespace Go.Proofs.YtgeccfdofmnphaaGreat.setMeans
open Go.ChangeShapes Go.WideShapes Go.ChangeAt Go.RowKit
open Go.ChangeMaps (open_string shut_string)
set_option linter.unusedVariables false

set_option maxRecDepth 100000 in
theorem contract (H : Type) (enc : TypeId × Value → H) (W : World) (base : Nat) (args : Array Value) (ds gs : List (DataW H)) (before : List MemPlace)
    (hval : ∀ (j : Nat) t v, Tryz.f5.params[j]? = some t → args[j]? = some v → Value.okWide Tryz.prog W .any base t v)
    (hW : DataW.Whole enc Tryz.prog Tryz.f5.params.toList Rows.setMeansSpec.vars false W args.toList ds gs before) (hL : laidMetH Tryz.prog Rows.setMeansRow.laid W) :
    Calls Tryz.prog 5 args W fun e W' => ∃ v, e = .returned v ∧ Rows.setMeansSpec.post enc Tryz.prog Tryz.f5 false true false false W args v W' := by
  have hW' := hW
  obtain ⟨p, q, hA0, hV, rfl, hfz, hnd⟩ := hW
  have hA : DataW.TrodAll enc Tryz.prog W 0 (fun _ => true) true Tryz.f5.params.toList args.toList ds p := hA0
  rw [Tryz.params5] at hA hval
  obtain ⟨v0, vs0, d0, ds0, p0, q0, hargs, rfl, rfl, h0, r0⟩ := trodAll_cons hA
  obtain ⟨v1, vs1, d1, ds1, p1, q1, rfl, rfl, rfl, h1, r1⟩ := trodAll_cons r0
  obtain ⟨rfl, rfl, rfl⟩ := trodAll_nil r1
  obtain rfl : args = #[v0, v1] := by cases args; simp_all
  obtain ⟨rfl, rfl⟩ := trodVars_none hV
  clear hA0
  obtain ⟨l, l_reads, l_len⟩ := open_nums (hval 0 36 v0 rfl rfl) h0
  obtain ⟨m, m_reads, m_len⟩ := open_nums (hval 1 36 v1 rfl rfl) h1
  refine (setMeans.law W v0 l l_reads l_len v1 m m_reads m_len ).mono fun e W' ⟨he, hb⟩ => ?_
  subst he
  exact ⟨_, rfl, law_end laidOut (fun t ht => by rw [Tryz.params5] at ht; simp at ht; subst ht; exact ⟨by kernel_rfl, of_decide_eq_true (by kernel_rfl)⟩) rfl rfl Tryz.underlying4 hW' (by rfl) hb⟩

noncomputable def laidWorld (os : Os) : World :=
  { World.holding Tryz.prog os ⟨#[], #[], []⟩ with heap := (World.holding Tryz.prog os ⟨#[], #[], []⟩).heap }
theorem laid_met (os : Os) : laidMet Tryz.prog Rows.setMeansRow.laid ((laidWorld os).forCall (fun _ _ => 0) ⟨#[], #[.slice none 0 0, .slice none 0 0], []⟩).memory :=
  laidMet_of_run' 8 (by kernel_rfl) (by kernel_rfl)
theorem reads (os : Os) {H : Type} (enc : TypeId × Value → H) : ∃ places, DataW.whole enc Tryz.prog ((laidWorld os).forCall (fun _ _ => 0) ⟨#[], #[.slice none 0 0, .slice none 0 0], []⟩).memory Tryz.f5.params.toList Rows.setMeansSpec.vars false (#[.slice none 0 0, .slice none 0 0] : Array Value).toList 8 = some ([.nil, .nil], [], places) :=
  ⟨[], by kernel_rfl⟩

set_option maxRecDepth 100000 in
theorem lifted (os : Os) (started : os.Started) (H : Type) (enc : TypeId × Value → H) (F : Stop.Interp) :
    ReturnsInHanded {} Tryz.checked os 5 .any ((OpenSpec.ofChange Rows.setMeansSpec).preRow enc Tryz.prog Tryz.f5 Rows.setMeansRow.domain false Rows.setMeansRow.laid) (((OpenSpec.ofChange Rows.setMeansSpec).at F).post enc Tryz.prog Tryz.f5 false true false false) := by
  obtain ⟨places, hx⟩ := reads os enc
  refine returnsInHanded_of_row (C := Tryz.checked) (s := OpenSpec.ofChange Rows.setMeansSpec) own started (by kernel_rfl) Tryz.func5
    (witness_row_at (enc := enc) (C := Tryz.checked) false (laidWorld os) #[.slice none 0 0, .slice none 0 0] rfl (by kernel_rfl) (by kernel_rfl) (by kernel_rfl)
      (OpenSpec.preRow_of_cond 8 hx (by kernel_rfl) (fun k hk => by cases hk) (by kernel_rfl) (laid_met os))) ?_
  intro W base args ds gs before hval hW _ _ _ hL _ _
  exact contract H enc W base args ds gs before hval hW hL

theorem said : Rows.SetMeansSaid :=
  OpenClaim.holds_of_cond 5 Tryz.f5 rfl rfl rfl rfl rfl rfl rfl ⟨rfl, rfl, rfl, rfl, rfl⟩ rfl rfl rfl rfl rfl (by kernel_rfl) Tryz.func5 (by kernel_rfl)
    (of_decide_eq_true (by kernel_rfl)) (by unfold Func.isWrapper; first | (rw [if_pos (by decide +kernel)]; kernel_rfl) | (rw [if_neg (by decide +kernel)]; exact ⟨rfl, rfl⟩))
    (fun os started H enc _ F => by rw [OpenClaim.pre_eq_preRow]; exact lifted os started H enc F)

#print axioms said
end Go.Proofs.YtgeccfdofmnphaaGreat.setMeans
end
