/-
  SetLaws: for every input the call returns true, and each argument reads afterwards as it read before. Conditions: none but the row's own.
-/
import Derived.Test.YtgeccfdofmnphaaGreatRows
import Derived.Test.YtgeccfdofmnphaaGreatMA6

section
/-
  SetLaws: for any lists of numbers the law returns true, and nothing that was there is changed. No condition.
-/
namespace Go.Proofs.YtgeccfdofmnphaaGreat
open Go.RowKit
set_option maxRecDepth 100000
set_option linter.unusedVariables false
set_option linter.unusedSimpArgs false
set_option maxHeartbeats 2000000

set_option maxHeartbeats 8000000 in
theorem setLaws.law (W : World) (x : Value) (xl : List Int) (hxl : ReadsI W W.heap.size x xl) (lxl : xl.length ≤ maxLen) (y : Value) (yl : List Int) (hyl : ReadsI W W.heap.size y yl) (lyl : yl.length ≤ maxLen) :
    Calls Tryz.prog 8 #[x, y] W fun e w' => e = .returned (.bool true) ∧ Below W.heap.size W w' := by
  obtain ⟨a, ea⟩ : ∃ q, q = setG xl 0 := ⟨_, rfl⟩
  have fa : SF a 22 := ea ▸ setG_sf xl 0
  obtain ⟨b, eb⟩ : ∃ q, q = setG yl 0 := ⟨_, rfl⟩
  have fb : SF b 22 := eb ▸ setG_sf yl 0
  have hw : andT a b = a ↔ minusT a b = noneT := andT_eq.trans (Iff.trans (and_congr (within_iff4 fa.rel.may fb.rel.may) (within_iff4 fa.pre.may fb.pre.may)) (andT_eq (b := notT b) (c := noneT)).symm)
  have hp : andT a b = noneT ↔ andT a (notT b) = a := andT_eq.trans (Iff.trans (and_congr (apart_within fa.rel.may fb.rel.may) (apart_within fa.pre.may fb.pre.may)) (andT_eq (b := notT b)).symm)
  refine calls_ok (n := 74) Tryz.func8 rfl (by kernel_rfl) (by kernel_rfl) ?_
  refine ok_seq ?_
  refine ok_region ?_
  refine s_val (.bool false) (by kernel_rfl) (fun _ => by kernel_rfl) ?_
  refine s_nil ?_
  refine fin_seq ?_
  refine ok_seq ?_
  refine ok_region ?_
  refine s_val (x) (by kernel_rfl) (fun _ => by kernel_rfl) ?_
  refine s_callo (k := 34) (args := #[x, .int .i64 0]) (fun v' L' => ∃ ob', L' = ob' ++ ([]) ∧ SetO v' (a) ob') (by kernel_rfl) (fun _ => by kernel_rfl) (fun w hO => (setGen_any x xl 0 w ((hxl.below hO.below).more hO.below.size) (by unfold maxLen at lxl; omega) (by omega)).mono fun e w' ⟨v', ob', k1, k2, k3⟩ => ⟨v', _, k1, ⟨ob', rfl, by rw [← ea] at k2; exact k2⟩, Own.joinN hO k3⟩) (fun v1 L1 hv1 => ?_)
  obtain ⟨o1, rfl, hr1⟩ := hv1
  obtain ⟨V1, U1, c1, d1, rfl⟩ := hr1.form
  refine s_cast (L' := o1) (List.append_nil _) ?_
  refine s_val (y) (by kernel_rfl) (fun _ => by kernel_rfl) ?_
  refine s_callo (k := 34) (args := #[y, .int .i64 0]) (fun v' L' => ∃ ob', L' = ob' ++ (o1) ∧ SetO v' (b) ob') (by kernel_rfl) (fun _ => by kernel_rfl) (fun w hO => (setGen_any y yl 0 w ((hyl.below hO.below).more hO.below.size) (by unfold maxLen at lyl; omega) (by omega)).mono fun e w' ⟨v', ob', k1, k2, k3⟩ => ⟨v', _, k1, ⟨ob', rfl, by rw [← eb] at k2; exact k2⟩, Own.joinN hO k3⟩) (fun v2 L2 hv2 => ?_)
  obtain ⟨o2, rfl, hr2⟩ := hv2
  obtain ⟨V2, U2, c2, d2, rfl⟩ := hr2.form
  refine s_alloc_at (.agg #[.slice none 0 0, .slice none 0 0]) (by kernel_rfl) rfl (by kernel_rfl) (fun b1 => ?_)
  refine s_alloc_at (.agg #[.slice none 0 0, .slice none 0 0]) (by kernel_rfl) rfl (by kernel_rfl) (fun b2 => ?_)
  refine s_store_at 1 ⟨b1, #[.slice none 0 0, .slice none 0 0], 24⟩ (off := 0) (.agg #[.slice V1 ((a).rel.length) c1, .slice U1 ((a).pre.length) d1]) (by kernel_rfl) rfl rfl (by kernel_rfl) (by kernel_rfl) (by kernel_rfl) (by kernel_rfl) (by kernel_rfl) ?_
  refine s_store_at 0 ⟨b2, #[.slice none 0 0, .slice none 0 0], 24⟩ (off := 0) (.agg #[.slice V2 ((b).rel.length) c2, .slice U2 ((b).pre.length) d2]) (by kernel_rfl) rfl rfl (by kernel_rfl) (by kernel_rfl) (by kernel_rfl) (by kernel_rfl) (by kernel_rfl) ?_
  refine s_nil ?_
  refine fin_seq ?_
  refine ok_seq ?_
  refine ok_region ?_
  refine s_load 1 ⟨b1, #[.slice V1 ((a).rel.length) c1, .slice U1 ((a).pre.length) d1], 24⟩ (off := 0) (.agg #[.slice V1 ((a).rel.length) c1, .slice U1 ((a).pre.length) d1]) (by kernel_rfl) rfl (by kernel_rfl) (by kernel_rfl) (by kernel_rfl) ?_
  refine s_load 0 ⟨b2, #[.slice V2 ((b).rel.length) c2, .slice U2 ((b).pre.length) d2], 24⟩ (off := 0) (.agg #[.slice V2 ((b).rel.length) c2, .slice U2 ((b).pre.length) d2]) (by kernel_rfl) rfl (by kernel_rfl) (by kernel_rfl) (by kernel_rfl) ?_
  refine s_callo (k := 27) (args := #[.agg #[.slice V1 ((a).rel.length) c1, .slice U1 ((a).pre.length) d1], .agg #[.slice V2 ((b).rel.length) c2, .slice U2 ((b).pre.length) d2]]) (fun v' L' => ∃ ob', L' = ob' ++ (⟨b2, #[.slice V2 ((b).rel.length) c2, .slice U2 ((b).pre.length) d2], 24⟩ :: (⟨b1, #[.slice V1 ((a).rel.length) c1, .slice U1 ((a).pre.length) d1], 24⟩ :: (o2 ++ (o1)))) ∧ SetO v' (minusT a b) ob') (by kernel_rfl) (fun _ => by kernel_rfl) (fun w hO => (sMinus_any V1 U1 V2 U2 c1 d1 c2 d2 a b w (SetO.inn hr1 hO (fun x hx => by simp [hx]) (fa) (by decide)) (SetO.inn hr2 hO (fun x hx => by simp [hx]) (fb) (by decide)) hr1.caps hr2.caps (Nat.le_trans (fb).rel.len (by decide)) (Nat.le_trans (fb).pre.len (by decide))).mono fun e w' ⟨v', ob', k1, k2, k3⟩ => ⟨v', _, k1, ⟨ob', rfl, by rw [if_pos (by rw [(fa).may, (fb).may]; rfl)] at k2; exact k2⟩, Own.joinN hO k3⟩) (fun v3 L3 hv3 => ?_)
  obtain ⟨o3, rfl, hr3⟩ := hv3
  obtain ⟨V3, U3, c3, d3, rfl⟩ := hr3.form
  refine s_alloc_at (.agg #[.slice none 0 0, .slice none 0 0]) (by kernel_rfl) rfl (by kernel_rfl) (fun b3 => ?_)
  refine s_store_at 0 ⟨b3, #[.slice none 0 0, .slice none 0 0], 24⟩ (off := 0) (.agg #[.slice V3 ((minusT a b).rel.length) c3, .slice U3 ((minusT a b).pre.length) d3]) (by kernel_rfl) rfl rfl (by kernel_rfl) (by kernel_rfl) (by kernel_rfl) (by kernel_rfl) (by kernel_rfl) ?_
  refine s_nil ?_
  refine fin_seq ?_
  refine ok_seq ?_
  refine ok_anyh (by kernel_rfl) ?_
  refine h_load 0 [] _ 0 ⟨b3, #[.slice V3 ((minusT a b).rel.length) c3, .slice U3 ((minusT a b).pre.length) d3], 24⟩ (off := 0) (.agg #[.slice V3 ((minusT a b).rel.length) c3, .slice U3 ((minusT a b).pre.length) d3]) rfl (by kernel_rfl) (by kernel_rfl) (by kernel_rfl) (pq_seq pq_body) (by kernel_rfl) rfl (by kernel_rfl) (by kernel_rfl) (by kernel_rfl) ?_
  refine h_loadm 1 [] _ ⟨b1, #[.slice V1 ((a).rel.length) c1, .slice U1 ((a).pre.length) d1], 24⟩ (off := 0) (.agg #[.slice V1 ((a).rel.length) c1, .slice U1 ((a).pre.length) d1]) rfl (by kernel_rfl) (by kernel_rfl) (by kernel_rfl) (pq_seq pq_body) (by kernel_rfl) rfl (by simp) (by kernel_rfl) (by kernel_rfl) ?_
  refine h_loadm 2 [] _ ⟨b2, #[.slice V2 ((b).rel.length) c2, .slice U2 ((b).pre.length) d2], 24⟩ (off := 0) (.agg #[.slice V2 ((b).rel.length) c2, .slice U2 ((b).pre.length) d2]) rfl (by kernel_rfl) (by kernel_rfl) (by kernel_rfl) (pq_seq pq_body) (by kernel_rfl) rfl (by simp) (by kernel_rfl) (by kernel_rfl) ?_
  refine h_loadm 5 [] _ ⟨b1, #[.slice V1 ((a).rel.length) c1, .slice U1 ((a).pre.length) d1], 24⟩ (off := 0) (.agg #[.slice V1 ((a).rel.length) c1, .slice U1 ((a).pre.length) d1]) rfl (by kernel_rfl) (by kernel_rfl) (by kernel_rfl) (pq_seq pq_body) (by kernel_rfl) rfl (by simp) (by kernel_rfl) (by kernel_rfl) ?_
  refine h_one 3 (by kernel_rfl) ?_
  refine hl_callx _ (k := 23) (args := #[.agg #[.slice V1 ((a).rel.length) c1, .slice U1 ((a).pre.length) d1], .agg #[.slice V2 ((b).rel.length) c2, .slice U2 ((b).pre.length) d2]]) (fun v' L' => ∃ ob', L' = ob' ++ ([] ++ (⟨b3, #[.slice V3 ((minusT a b).rel.length) c3, .slice U3 ((minusT a b).pre.length) d3], 24⟩ :: (o3 ++ (⟨b2, #[.slice V2 ((b).rel.length) c2, .slice U2 ((b).pre.length) d2], 24⟩ :: (⟨b1, #[.slice V1 ((a).rel.length) c1, .slice U1 ((a).pre.length) d1], 24⟩ :: (o2 ++ (o1))))))) ∧ SetO v' (andT a b) ob') rfl (by kernel_rfl) (fun _ => by kernel_rfl) (fun w hO => (sAnd_any V1 U1 V2 U2 c1 d1 c2 d2 a b w (SetO.inn hr1 hO (fun x hx => by simp [hx]) (fa) (by decide)) (SetO.inn hr2 hO (fun x hx => by simp [hx]) (fb) (by decide)) hr1.caps hr2.caps).mono fun e w' ⟨v', ob', k1, k2, k3⟩ => ⟨v', _, k1, ⟨ob', rfl, by rw [if_pos (by rw [(fa).may, (fb).may]; rfl)] at k2; exact k2⟩, Own.joinN hO k3⟩) (fun v' L' ⟨ob', e, _⟩ w hO => by subst e; exact Own.sub [] (Own.sub ob' hO)) (fun v4 L2 hv2 => ?_)
  obtain ⟨o4, rfl, hr4⟩ := hv2
  obtain ⟨V4, U4, c4, d4, rfl⟩ := hr4.form
  refine h_cast (L' := (o4 ++ ([] : List Blk)) ++ (⟨b3, #[.slice V3 ((minusT a b).rel.length) c3, .slice U3 ((minusT a b).pre.length) d3], 24⟩ :: (o3 ++ (⟨b2, #[.slice V2 ((b).rel.length) c2, .slice U2 ((b).pre.length) d2], 24⟩ :: (⟨b1, #[.slice V1 ((a).rel.length) c1, .slice U1 ((a).pre.length) d1], 24⟩ :: (o2 ++ (o1))))))) (List.append_assoc _ _ _).symm ?_
  refine h_one 4 (by kernel_rfl) ?_
  refine hl_callx _ (k := 21) (args := #[.agg #[.slice V3 ((minusT a b).rel.length) c3, .slice U3 ((minusT a b).pre.length) d3], .agg #[.slice V4 ((andT a b).rel.length) c4, .slice U4 ((andT a b).pre.length) d4]]) (fun v' L' => ∃ ob', L' = ob' ++ ((o4 ++ ([] : List Blk)) ++ (⟨b3, #[.slice V3 ((minusT a b).rel.length) c3, .slice U3 ((minusT a b).pre.length) d3], 24⟩ :: (o3 ++ (⟨b2, #[.slice V2 ((b).rel.length) c2, .slice U2 ((b).pre.length) d2], 24⟩ :: (⟨b1, #[.slice V1 ((a).rel.length) c1, .slice U1 ((a).pre.length) d1], 24⟩ :: (o2 ++ (o1))))))) ∧ SetO v' (orT (minusT a b) (andT a b)) ob') rfl (by kernel_rfl) (fun _ => by kernel_rfl) (fun w hO => (sOr_any V3 U3 V4 U4 c3 d3 c4 d4 (minusT a b) (andT a b) w (SetO.inn hr3 hO (fun x hx => by simp [hx]) ((fa).minus (fb)) (by decide)) (SetO.inn hr4 hO (fun x hx => by simp [hx]) ((fa).and (fb)) (by decide)) hr3.caps hr4.caps).mono fun e w' ⟨v', ob', k1, k2, k3⟩ => ⟨v', _, k1, ⟨ob', rfl, by rw [if_pos (by rw [((fa).minus (fb)).may, ((fa).and (fb)).may]; rfl)] at k2; exact k2⟩, Own.joinN hO k3⟩) (fun v' L' ⟨ob', e, _⟩ w hO => by subst e; exact Own.sub (o4 ++ ([] : List Blk)) (Own.sub ob' hO)) (fun v5 L2 hv2 => ?_)
  obtain ⟨o5, rfl, hr5⟩ := hv2
  obtain ⟨V5, U5, c5, d5, rfl⟩ := hr5.form
  refine h_cast (L' := (o5 ++ (o4 ++ ([] : List Blk))) ++ (⟨b3, #[.slice V3 ((minusT a b).rel.length) c3, .slice U3 ((minusT a b).pre.length) d3], 24⟩ :: (o3 ++ (⟨b2, #[.slice V2 ((b).rel.length) c2, .slice U2 ((b).pre.length) d2], 24⟩ :: (⟨b1, #[.slice V1 ((a).rel.length) c1, .slice U1 ((a).pre.length) d1], 24⟩ :: (o2 ++ (o1))))))) (List.append_assoc _ _ _).symm ?_
  refine h_one 6 (by kernel_rfl) ?_
  refine hs_call (o5 ++ (o4 ++ ([] : List Blk))) _ (k := 33) (args := #[.agg #[.slice V5 ((orT (minusT a b) (andT a b)).rel.length) c5, .slice U5 ((orT (minusT a b) (andT a b)).pre.length) d5], .agg #[.slice V1 ((a).rel.length) c1, .slice U1 ((a).pre.length) d1]]) (.bool true) rfl (by kernel_rfl) (fun _ => by kernel_rfl) (fun w hO => ret_b ((same_b _ _).trans (decide_eq_true (St.eq (less_or fa.rel.may fb.rel.may) (less_or fa.pre.may fb.pre.may)))) (sSame_any V5 U5 V1 U1 c5 d5 c1 d1 (orT (minusT a b) (andT a b)) a w (SetO.inn hr5 hO (fun x hx => by simp [hx]) (((fa).minus (fb)).or ((fa).and (fb))) (by decide)) (SetO.inn hr1 hO (fun x hx => by simp [hx]) (fa) (by decide)) hr5.caps hr1.caps)) ?_
  refine h_take 7 (o5 ++ (o4 ++ ([] : List Blk))) _ (.bool true) rfl (by kernel_rfl) (by kernel_rfl) (by kernel_rfl) (pq_seq pq_body) (by kernel_rfl) (fun _ _ => by kernel_rfl) ?_
  refine h_load 8 (o5 ++ (o4 ++ ([] : List Blk))) _ 0 ⟨b3, #[.slice V3 ((minusT a b).rel.length) c3, .slice U3 ((minusT a b).pre.length) d3], 24⟩ (off := 0) (.agg #[.slice V3 ((minusT a b).rel.length) c3, .slice U3 ((minusT a b).pre.length) d3]) rfl (by kernel_rfl) (by kernel_rfl) (by kernel_rfl) (pq_seq pq_body) (by kernel_rfl) rfl (by kernel_rfl) (by kernel_rfl) (by kernel_rfl) ?_
  refine h_loadm 9 (o5 ++ (o4 ++ ([] : List Blk))) _ ⟨b2, #[.slice V2 ((b).rel.length) c2, .slice U2 ((b).pre.length) d2], 24⟩ (off := 0) (.agg #[.slice V2 ((b).rel.length) c2, .slice U2 ((b).pre.length) d2]) rfl (by kernel_rfl) (by kernel_rfl) (by kernel_rfl) (pq_seq pq_body) (by kernel_rfl) rfl (by simp) (by kernel_rfl) (by kernel_rfl) ?_
  refine h_one 10 (by kernel_rfl) ?_
  refine hs_call (o5 ++ (o4 ++ ([] : List Blk))) _ (k := 31) (args := #[.agg #[.slice V3 ((minusT a b).rel.length) c3, .slice U3 ((minusT a b).pre.length) d3], .agg #[.slice V2 ((b).rel.length) c2, .slice U2 ((b).pre.length) d2]]) (.bool true) rfl (by kernel_rfl) (fun _ => by kernel_rfl) (fun w hO => ret_b ((apart_b ((fa).minus (fb)) fb).trans (decide_eq_true (St.eq (less_apart fa.rel.may fb.rel.may) (less_apart fa.pre.may fb.pre.may)))) (sApart_any V3 U3 V2 U2 c3 d3 c2 d2 (minusT a b) b w (SetO.inn hr3 hO (fun x hx => by simp [hx]) ((fa).minus (fb)) (by decide)) (SetO.inn hr2 hO (fun x hx => by simp [hx]) (fb) (by decide)) hr3.caps hr2.caps (Nat.le_trans ((fa).minus (fb)).rel.len (by decide)) (Nat.le_trans ((fa).minus (fb)).pre.len (by decide)) (Nat.le_trans (fb).rel.len (by decide)) (Nat.le_trans (fb).pre.len (by decide)))) ?_
  refine h_take 11 (o5 ++ (o4 ++ ([] : List Blk))) _ (.bool true) rfl (by kernel_rfl) (by kernel_rfl) (by kernel_rfl) (pq_seq pq_body) (by kernel_rfl) (fun _ _ => by kernel_rfl) ?_
  refine h_take 12 (o5 ++ (o4 ++ ([] : List Blk))) _ (.bool true) rfl (by kernel_rfl) (by kernel_rfl) (by kernel_rfl) (pq_seq pq_body) (by kernel_rfl) (fun _ _ => by kernel_rfl) ?_
  refine h_load 13 (o5 ++ (o4 ++ ([] : List Blk))) _ 0 ⟨b3, #[.slice V3 ((minusT a b).rel.length) c3, .slice U3 ((minusT a b).pre.length) d3], 24⟩ (off := 0) (.agg #[.slice V3 ((minusT a b).rel.length) c3, .slice U3 ((minusT a b).pre.length) d3]) rfl (by kernel_rfl) (by kernel_rfl) (by kernel_rfl) (pq_seq pq_body) (by kernel_rfl) rfl (by kernel_rfl) (by kernel_rfl) (by kernel_rfl) ?_
  refine h_loadm 14 (o5 ++ (o4 ++ ([] : List Blk))) _ ⟨b1, #[.slice V1 ((a).rel.length) c1, .slice U1 ((a).pre.length) d1], 24⟩ (off := 0) (.agg #[.slice V1 ((a).rel.length) c1, .slice U1 ((a).pre.length) d1]) rfl (by kernel_rfl) (by kernel_rfl) (by kernel_rfl) (pq_seq pq_body) (by kernel_rfl) rfl (by simp) (by kernel_rfl) (by kernel_rfl) ?_
  refine h_one 15 (by kernel_rfl) ?_
  refine hs_call (o5 ++ (o4 ++ ([] : List Blk))) _ (k := 29) (args := #[.agg #[.slice V3 ((minusT a b).rel.length) c3, .slice U3 ((minusT a b).pre.length) d3], .agg #[.slice V1 ((a).rel.length) c1, .slice U1 ((a).pre.length) d1]]) (.bool true) rfl (by kernel_rfl) (fun _ => by kernel_rfl) (fun w hO => ret_b ((within_b ((fa).minus (fb)) fa).trans (decide_eq_true (St.eq (and_in4 fa.rel.may (not_ok fb.rel.may).1) (and_in4 fa.pre.may (not_ok fb.pre.may).1)))) (sWithin_any V3 U3 V1 U1 c3 d3 c1 d1 (minusT a b) a w (SetO.inn hr3 hO (fun x hx => by simp [hx]) ((fa).minus (fb)) (by decide)) (SetO.inn hr1 hO (fun x hx => by simp [hx]) (fa) (by decide)) hr3.caps hr1.caps)) ?_
  refine h_take 16 (o5 ++ (o4 ++ ([] : List Blk))) _ (.bool true) rfl (by kernel_rfl) (by kernel_rfl) (by kernel_rfl) (pq_seq pq_body) (by kernel_rfl) (fun _ _ => by kernel_rfl) ?_
  refine h_take 17 (o5 ++ (o4 ++ ([] : List Blk))) _ (.bool true) rfl (by kernel_rfl) (by kernel_rfl) (by kernel_rfl) (pq_seq pq_body) (by kernel_rfl) (fun _ _ => by kernel_rfl) ?_
  refine h_drop (o5 ++ (o4 ++ ([] : List Blk))) ?_
  refine h_done (by kernel_rfl) ?_
  refine fin_seq ?_
  refine ok_seq ?_
  refine ok_anyh (by kernel_rfl) ?_
  refine h_loadm 0 [] _ ⟨b1, #[.slice V1 ((a).rel.length) c1, .slice U1 ((a).pre.length) d1], 24⟩ (off := 0) (.agg #[.slice V1 ((a).rel.length) c1, .slice U1 ((a).pre.length) d1]) rfl (by kernel_rfl) (by kernel_rfl) (by kernel_rfl) (pq_seq pq_body) (by kernel_rfl) rfl (by simp) (by kernel_rfl) (by kernel_rfl) ?_
  refine h_loadm 1 [] _ ⟨b2, #[.slice V2 ((b).rel.length) c2, .slice U2 ((b).pre.length) d2], 24⟩ (off := 0) (.agg #[.slice V2 ((b).rel.length) c2, .slice U2 ((b).pre.length) d2]) rfl (by kernel_rfl) (by kernel_rfl) (by kernel_rfl) (pq_seq pq_body) (by kernel_rfl) rfl (by simp) (by kernel_rfl) (by kernel_rfl) ?_
  refine h_load 3 [] _ 0 ⟨b3, #[.slice V3 ((minusT a b).rel.length) c3, .slice U3 ((minusT a b).pre.length) d3], 24⟩ (off := 0) (.agg #[.slice V3 ((minusT a b).rel.length) c3, .slice U3 ((minusT a b).pre.length) d3]) rfl (by kernel_rfl) (by kernel_rfl) (by kernel_rfl) (pq_seq pq_body) (by kernel_rfl) rfl (by kernel_rfl) (by kernel_rfl) (by kernel_rfl) ?_
  by_cases h1 : andT a b = a
  · skip
    refine h_one 2 (by kernel_rfl) ?_
    refine hs_call [] _ (k := 29) (args := #[.agg #[.slice V1 ((a).rel.length) c1, .slice U1 ((a).pre.length) d1], .agg #[.slice V2 ((b).rel.length) c2, .slice U2 ((b).pre.length) d2]]) (.bool true) rfl (by kernel_rfl) (fun _ => by kernel_rfl) (fun w hO => ret_b ((within_b fa fb).trans (decide_eq_true (h1))) (sWithin_any V1 U1 V2 U2 c1 d1 c2 d2 a b w (SetO.inn hr1 hO (fun x hx => by simp [hx]) (fa) (by decide)) (SetO.inn hr2 hO (fun x hx => by simp [hx]) (fb) (by decide)) hr1.caps hr2.caps)) ?_
    refine h_one 4 (by kernel_rfl) ?_
    refine hs_call [] _ (k := 37) (args := #[]) (.agg #[.slice none 0 0, .slice none 0 0]) rfl (by kernel_rfl) (fun _ => by kernel_rfl) (fun w _ => sNone_any w) ?_
    refine h_one 5 (by kernel_rfl) ?_
    refine hs_call [] _ (k := 33) (args := #[.agg #[.slice V3 ((minusT a b).rel.length) c3, .slice U3 ((minusT a b).pre.length) d3], .agg #[.slice none 0 0, .slice none 0 0]]) (.bool true) rfl (by kernel_rfl) (fun _ => by kernel_rfl) (fun w hO => ret_b ((same_b _ _).trans (decide_eq_true (hw.1 h1))) (sSame_any V3 U3 none none c3 d3 0 0 (minusT a b) noneT w (SetO.inn hr3 hO (fun x hx => by simp [hx]) ((fa).minus (fb)) (by decide)) (none_in _ _) hr3.caps ⟨Nat.le_refl 0, Nat.le_refl 0⟩)) ?_
    refine h_take 6 [] _ (.bool true) rfl (by kernel_rfl) (by kernel_rfl) (by kernel_rfl) (pq_seq pq_body) (by kernel_rfl) (fun _ _ => by kernel_rfl) ?_
    refine h_take 7 [] _ (.bool true) rfl (by kernel_rfl) (by kernel_rfl) (by kernel_rfl) (pq_seq pq_body) (by kernel_rfl) (fun _ _ => by kernel_rfl) ?_
    refine h_loadm 8 [] _ ⟨b1, #[.slice V1 ((a).rel.length) c1, .slice U1 ((a).pre.length) d1], 24⟩ (off := 0) (.agg #[.slice V1 ((a).rel.length) c1, .slice U1 ((a).pre.length) d1]) rfl (by kernel_rfl) (by kernel_rfl) (by kernel_rfl) (pq_seq pq_body) (by kernel_rfl) rfl (by simp) (by kernel_rfl) (by kernel_rfl) ?_
    refine h_loadm 9 [] _ ⟨b2, #[.slice V2 ((b).rel.length) c2, .slice U2 ((b).pre.length) d2], 24⟩ (off := 0) (.agg #[.slice V2 ((b).rel.length) c2, .slice U2 ((b).pre.length) d2]) rfl (by kernel_rfl) (by kernel_rfl) (by kernel_rfl) (pq_seq pq_body) (by kernel_rfl) rfl (by simp) (by kernel_rfl) (by kernel_rfl) ?_
    refine h_loadm 11 [] _ ⟨b1, #[.slice V1 ((a).rel.length) c1, .slice U1 ((a).pre.length) d1], 24⟩ (off := 0) (.agg #[.slice V1 ((a).rel.length) c1, .slice U1 ((a).pre.length) d1]) rfl (by kernel_rfl) (by kernel_rfl) (by kernel_rfl) (pq_seq pq_body) (by kernel_rfl) rfl (by simp) (by kernel_rfl) (by kernel_rfl) ?_
    refine h_loadm 12 [] _ ⟨b2, #[.slice V2 ((b).rel.length) c2, .slice U2 ((b).pre.length) d2], 24⟩ (off := 0) (.agg #[.slice V2 ((b).rel.length) c2, .slice U2 ((b).pre.length) d2]) rfl (by kernel_rfl) (by kernel_rfl) (by kernel_rfl) (pq_seq pq_body) (by kernel_rfl) rfl (by simp) (by kernel_rfl) (by kernel_rfl) ?_
    by_cases h2 : andT a b = noneT
    · skip
      refine h_one 10 (by kernel_rfl) ?_
      refine hs_call [] _ (k := 31) (args := #[.agg #[.slice V1 ((a).rel.length) c1, .slice U1 ((a).pre.length) d1], .agg #[.slice V2 ((b).rel.length) c2, .slice U2 ((b).pre.length) d2]]) (.bool true) rfl (by kernel_rfl) (fun _ => by kernel_rfl) (fun w hO => ret_b ((apart_b fa fb).trans (decide_eq_true (h2))) (sApart_any V1 U1 V2 U2 c1 d1 c2 d2 a b w (SetO.inn hr1 hO (fun x hx => by simp [hx]) (fa) (by decide)) (SetO.inn hr2 hO (fun x hx => by simp [hx]) (fb) (by decide)) hr1.caps hr2.caps (Nat.le_trans (fa).rel.len (by decide)) (Nat.le_trans (fa).pre.len (by decide)) (Nat.le_trans (fb).rel.len (by decide)) (Nat.le_trans (fb).pre.len (by decide)))) ?_
      refine h_one 13 (by kernel_rfl) ?_
      refine hl_callx _ (k := 25) (args := #[.agg #[.slice V2 ((b).rel.length) c2, .slice U2 ((b).pre.length) d2]]) (fun v' L' => ∃ ob', L' = ob' ++ ([] ++ (⟨b3, #[.slice V3 ((minusT a b).rel.length) c3, .slice U3 ((minusT a b).pre.length) d3], 24⟩ :: (o3 ++ (⟨b2, #[.slice V2 ((b).rel.length) c2, .slice U2 ((b).pre.length) d2], 24⟩ :: (⟨b1, #[.slice V1 ((a).rel.length) c1, .slice U1 ((a).pre.length) d1], 24⟩ :: (o2 ++ (o1))))))) ∧ SetO v' (notT b) ob') rfl (by kernel_rfl) (fun _ => by kernel_rfl) (fun w hO => (sNot_any V2 U2 c2 d2 b w (SetO.inn hr2 hO (fun x hx => by simp [hx]) (fb) (by decide)) hr2.caps).mono fun e w' ⟨v', ob', k1, k2, k3⟩ => ⟨v', _, k1, ⟨ob', rfl, by rw [if_pos (fb).may] at k2; exact k2⟩, Own.joinN hO k3⟩) (fun v' L' ⟨ob', e, _⟩ w hO => by subst e; exact Own.sub [] (Own.sub ob' hO)) (fun v6 L2 hv2 => ?_)
      obtain ⟨o6, rfl, hr6⟩ := hv2
      obtain ⟨V6, U6, c6, d6, rfl⟩ := hr6.form
      refine h_cast (L' := (o6 ++ ([] : List Blk)) ++ (⟨b3, #[.slice V3 ((minusT a b).rel.length) c3, .slice U3 ((minusT a b).pre.length) d3], 24⟩ :: (o3 ++ (⟨b2, #[.slice V2 ((b).rel.length) c2, .slice U2 ((b).pre.length) d2], 24⟩ :: (⟨b1, #[.slice V1 ((a).rel.length) c1, .slice U1 ((a).pre.length) d1], 24⟩ :: (o2 ++ (o1))))))) (List.append_assoc _ _ _).symm ?_
      refine h_one 14 (by kernel_rfl) ?_
      refine hs_call (o6 ++ ([] : List Blk)) _ (k := 29) (args := #[.agg #[.slice V1 ((a).rel.length) c1, .slice U1 ((a).pre.length) d1], .agg #[.slice V6 ((notT b).rel.length) c6, .slice U6 ((notT b).pre.length) d6]]) (.bool true) rfl (by kernel_rfl) (fun _ => by kernel_rfl) (fun w hO => ret_b ((within_b fa ((fb).not)).trans (decide_eq_true (hp.1 h2))) (sWithin_any V1 U1 V6 U6 c1 d1 c6 d6 a (notT b) w (SetO.inn hr1 hO (fun x hx => by simp [hx]) (fa) (by decide)) (SetO.inn hr6 hO (fun x hx => by simp [hx]) ((fb).not) (by decide)) hr1.caps hr6.caps)) ?_
      refine h_take 15 (o6 ++ ([] : List Blk)) _ (.bool true) rfl (by kernel_rfl) (by kernel_rfl) (by kernel_rfl) (pq_seq pq_body) (by kernel_rfl) (fun _ _ => by kernel_rfl) ?_
      refine h_take 16 (o6 ++ ([] : List Blk)) _ (.bool true) rfl (by kernel_rfl) (by kernel_rfl) (by kernel_rfl) (pq_seq pq_body) (by kernel_rfl) (fun _ _ => by kernel_rfl) ?_
      refine h_take 17 (o6 ++ ([] : List Blk)) _ (.bool true) rfl (by kernel_rfl) (by kernel_rfl) (by kernel_rfl) (pq_seq pq_body) (by kernel_rfl) (fun _ _ => by kernel_rfl) ?_
      refine h_drop (o6 ++ ([] : List Blk)) ?_
      refine h_done (by kernel_rfl) ?_
      refine fin_seq ?_
      refine ok_seq ?_
      refine ok_anyh (by kernel_rfl) ?_
      refine h_one 0 (by kernel_rfl) ?_
      refine hs_call [] _ (k := 11) (args := #[]) (.bool true) rfl (by kernel_rfl) (fun _ => by kernel_rfl) (fun w _ => awake5_any w) ?_
      refine h_take 1 [] _ (.bool true) rfl (by kernel_rfl) (by kernel_rfl) (by kernel_rfl) (pq_seq pq_body) (by kernel_rfl) (fun _ _ => by kernel_rfl) ?_
      refine h_take 2 [] _ (.bool true) rfl (by kernel_rfl) (by kernel_rfl) (by kernel_rfl) (pq_seq pq_body) (by kernel_rfl) (fun _ _ => by kernel_rfl) ?_
      refine h_take 3 [] _ (.bool true) rfl (by kernel_rfl) (by kernel_rfl) (by kernel_rfl) (pq_seq pq_body) (by kernel_rfl) (fun _ _ => by kernel_rfl) ?_
      refine h_take 4 [] _ (.bool true) rfl (by kernel_rfl) (by kernel_rfl) (by kernel_rfl) (pq_seq pq_body) (by kernel_rfl) (fun _ _ => by kernel_rfl) ?_
      refine h_take 5 [] _ (.bool true) rfl (by kernel_rfl) (by kernel_rfl) (by kernel_rfl) (pq_seq pq_body) (by kernel_rfl) (fun _ _ => by kernel_rfl) ?_
      refine h_take 6 [] _ (.bool true) rfl (by kernel_rfl) (by kernel_rfl) (by kernel_rfl) (pq_seq pq_body) (by kernel_rfl) (fun _ _ => by kernel_rfl) ?_
      refine h_take 7 [] _ (.bool true) rfl (by kernel_rfl) (by kernel_rfl) (by kernel_rfl) (pq_seq pq_body) (by kernel_rfl) (fun _ _ => by kernel_rfl) ?_
      refine h_loadm 8 [] _ ⟨b1, #[.slice V1 ((a).rel.length) c1, .slice U1 ((a).pre.length) d1], 24⟩ (off := 0) (.agg #[.slice V1 ((a).rel.length) c1, .slice U1 ((a).pre.length) d1]) rfl (by kernel_rfl) (by kernel_rfl) (by kernel_rfl) (pq_seq pq_body) (by kernel_rfl) rfl (by simp) (by kernel_rfl) (by kernel_rfl) ?_
      refine h_loadm 9 [] _ ⟨b2, #[.slice V2 ((b).rel.length) c2, .slice U2 ((b).pre.length) d2], 24⟩ (off := 0) (.agg #[.slice V2 ((b).rel.length) c2, .slice U2 ((b).pre.length) d2]) rfl (by kernel_rfl) (by kernel_rfl) (by kernel_rfl) (pq_seq pq_body) (by kernel_rfl) rfl (by simp) (by kernel_rfl) (by kernel_rfl) ?_
      refine h_loadm 12 [] _ ⟨b1, #[.slice V1 ((a).rel.length) c1, .slice U1 ((a).pre.length) d1], 24⟩ (off := 0) (.agg #[.slice V1 ((a).rel.length) c1, .slice U1 ((a).pre.length) d1]) rfl (by kernel_rfl) (by kernel_rfl) (by kernel_rfl) (pq_seq pq_body) (by kernel_rfl) rfl (by simp) (by kernel_rfl) (by kernel_rfl) ?_
      refine h_loadm 14 [] _ ⟨b2, #[.slice V2 ((b).rel.length) c2, .slice U2 ((b).pre.length) d2], 24⟩ (off := 0) (.agg #[.slice V2 ((b).rel.length) c2, .slice U2 ((b).pre.length) d2]) rfl (by kernel_rfl) (by kernel_rfl) (by kernel_rfl) (pq_seq pq_body) (by kernel_rfl) rfl (by simp) (by kernel_rfl) (by kernel_rfl) ?_
      refine h_one 10 (by kernel_rfl) ?_
      refine hl_callx _ (k := 23) (args := #[.agg #[.slice V1 ((a).rel.length) c1, .slice U1 ((a).pre.length) d1], .agg #[.slice V2 ((b).rel.length) c2, .slice U2 ((b).pre.length) d2]]) (fun v' L' => ∃ ob', L' = ob' ++ ([] ++ (⟨b3, #[.slice V3 ((minusT a b).rel.length) c3, .slice U3 ((minusT a b).pre.length) d3], 24⟩ :: (o3 ++ (⟨b2, #[.slice V2 ((b).rel.length) c2, .slice U2 ((b).pre.length) d2], 24⟩ :: (⟨b1, #[.slice V1 ((a).rel.length) c1, .slice U1 ((a).pre.length) d1], 24⟩ :: (o2 ++ (o1))))))) ∧ SetO v' (andT a b) ob') rfl (by kernel_rfl) (fun _ => by kernel_rfl) (fun w hO => (sAnd_any V1 U1 V2 U2 c1 d1 c2 d2 a b w (SetO.inn hr1 hO (fun x hx => by simp [hx]) (fa) (by decide)) (SetO.inn hr2 hO (fun x hx => by simp [hx]) (fb) (by decide)) hr1.caps hr2.caps).mono fun e w' ⟨v', ob', k1, k2, k3⟩ => ⟨v', _, k1, ⟨ob', rfl, by rw [if_pos (by rw [(fa).may, (fb).may]; rfl)] at k2; exact k2⟩, Own.joinN hO k3⟩) (fun v' L' ⟨ob', e, _⟩ w hO => by subst e; exact Own.sub [] (Own.sub ob' hO)) (fun v7 L2 hv2 => ?_)
      obtain ⟨o7, rfl, hr7⟩ := hv2
      obtain ⟨V7, U7, c7, d7, rfl⟩ := hr7.form
      refine h_cast (L' := (o7 ++ ([] : List Blk)) ++ (⟨b3, #[.slice V3 ((minusT a b).rel.length) c3, .slice U3 ((minusT a b).pre.length) d3], 24⟩ :: (o3 ++ (⟨b2, #[.slice V2 ((b).rel.length) c2, .slice U2 ((b).pre.length) d2], 24⟩ :: (⟨b1, #[.slice V1 ((a).rel.length) c1, .slice U1 ((a).pre.length) d1], 24⟩ :: (o2 ++ (o1))))))) (List.append_assoc _ _ _).symm ?_
      refine h_one 11 (by kernel_rfl) ?_
      refine hl_callx _ (k := 25) (args := #[.agg #[.slice V7 ((andT a b).rel.length) c7, .slice U7 ((andT a b).pre.length) d7]]) (fun v' L' => ∃ ob', L' = ob' ++ ((o7 ++ ([] : List Blk)) ++ (⟨b3, #[.slice V3 ((minusT a b).rel.length) c3, .slice U3 ((minusT a b).pre.length) d3], 24⟩ :: (o3 ++ (⟨b2, #[.slice V2 ((b).rel.length) c2, .slice U2 ((b).pre.length) d2], 24⟩ :: (⟨b1, #[.slice V1 ((a).rel.length) c1, .slice U1 ((a).pre.length) d1], 24⟩ :: (o2 ++ (o1))))))) ∧ SetO v' (notT (andT a b)) ob') rfl (by kernel_rfl) (fun _ => by kernel_rfl) (fun w hO => (sNot_any V7 U7 c7 d7 (andT a b) w (SetO.inn hr7 hO (fun x hx => by simp [hx]) ((fa).and (fb)) (by decide)) hr7.caps).mono fun e w' ⟨v', ob', k1, k2, k3⟩ => ⟨v', _, k1, ⟨ob', rfl, by rw [if_pos ((fa).and (fb)).may] at k2; exact k2⟩, Own.joinN hO k3⟩) (fun v' L' ⟨ob', e, _⟩ w hO => by subst e; exact Own.sub (o7 ++ ([] : List Blk)) (Own.sub ob' hO)) (fun v8 L2 hv2 => ?_)
      obtain ⟨o8, rfl, hr8⟩ := hv2
      obtain ⟨V8, U8, c8, d8, rfl⟩ := hr8.form
      refine h_cast (L' := (o8 ++ (o7 ++ ([] : List Blk))) ++ (⟨b3, #[.slice V3 ((minusT a b).rel.length) c3, .slice U3 ((minusT a b).pre.length) d3], 24⟩ :: (o3 ++ (⟨b2, #[.slice V2 ((b).rel.length) c2, .slice U2 ((b).pre.length) d2], 24⟩ :: (⟨b1, #[.slice V1 ((a).rel.length) c1, .slice U1 ((a).pre.length) d1], 24⟩ :: (o2 ++ (o1))))))) (List.append_assoc _ _ _).symm ?_
      refine h_one 13 (by kernel_rfl) ?_
      refine hl_callx _ (k := 25) (args := #[.agg #[.slice V1 ((a).rel.length) c1, .slice U1 ((a).pre.length) d1]]) (fun v' L' => ∃ ob', L' = ob' ++ ((o8 ++ (o7 ++ ([] : List Blk))) ++ (⟨b3, #[.slice V3 ((minusT a b).rel.length) c3, .slice U3 ((minusT a b).pre.length) d3], 24⟩ :: (o3 ++ (⟨b2, #[.slice V2 ((b).rel.length) c2, .slice U2 ((b).pre.length) d2], 24⟩ :: (⟨b1, #[.slice V1 ((a).rel.length) c1, .slice U1 ((a).pre.length) d1], 24⟩ :: (o2 ++ (o1))))))) ∧ SetO v' (notT a) ob') rfl (by kernel_rfl) (fun _ => by kernel_rfl) (fun w hO => (sNot_any V1 U1 c1 d1 a w (SetO.inn hr1 hO (fun x hx => by simp [hx]) (fa) (by decide)) hr1.caps).mono fun e w' ⟨v', ob', k1, k2, k3⟩ => ⟨v', _, k1, ⟨ob', rfl, by rw [if_pos (fa).may] at k2; exact k2⟩, Own.joinN hO k3⟩) (fun v' L' ⟨ob', e, _⟩ w hO => by subst e; exact Own.sub (o8 ++ (o7 ++ ([] : List Blk))) (Own.sub ob' hO)) (fun v9 L2 hv2 => ?_)
      obtain ⟨o9, rfl, hr9⟩ := hv2
      obtain ⟨V9, U9, c9, d9, rfl⟩ := hr9.form
      refine h_cast (L' := (o9 ++ (o8 ++ (o7 ++ ([] : List Blk)))) ++ (⟨b3, #[.slice V3 ((minusT a b).rel.length) c3, .slice U3 ((minusT a b).pre.length) d3], 24⟩ :: (o3 ++ (⟨b2, #[.slice V2 ((b).rel.length) c2, .slice U2 ((b).pre.length) d2], 24⟩ :: (⟨b1, #[.slice V1 ((a).rel.length) c1, .slice U1 ((a).pre.length) d1], 24⟩ :: (o2 ++ (o1))))))) (List.append_assoc _ _ _).symm ?_
      refine h_one 15 (by kernel_rfl) ?_
      refine hl_callx _ (k := 25) (args := #[.agg #[.slice V2 ((b).rel.length) c2, .slice U2 ((b).pre.length) d2]]) (fun v' L' => ∃ ob', L' = ob' ++ ((o9 ++ (o8 ++ (o7 ++ ([] : List Blk)))) ++ (⟨b3, #[.slice V3 ((minusT a b).rel.length) c3, .slice U3 ((minusT a b).pre.length) d3], 24⟩ :: (o3 ++ (⟨b2, #[.slice V2 ((b).rel.length) c2, .slice U2 ((b).pre.length) d2], 24⟩ :: (⟨b1, #[.slice V1 ((a).rel.length) c1, .slice U1 ((a).pre.length) d1], 24⟩ :: (o2 ++ (o1))))))) ∧ SetO v' (notT b) ob') rfl (by kernel_rfl) (fun _ => by kernel_rfl) (fun w hO => (sNot_any V2 U2 c2 d2 b w (SetO.inn hr2 hO (fun x hx => by simp [hx]) (fb) (by decide)) hr2.caps).mono fun e w' ⟨v', ob', k1, k2, k3⟩ => ⟨v', _, k1, ⟨ob', rfl, by rw [if_pos (fb).may] at k2; exact k2⟩, Own.joinN hO k3⟩) (fun v' L' ⟨ob', e, _⟩ w hO => by subst e; exact Own.sub (o9 ++ (o8 ++ (o7 ++ ([] : List Blk)))) (Own.sub ob' hO)) (fun v10 L2 hv2 => ?_)
      obtain ⟨o10, rfl, hr10⟩ := hv2
      obtain ⟨V10, U10, c10, d10, rfl⟩ := hr10.form
      refine h_cast (L' := (o10 ++ (o9 ++ (o8 ++ (o7 ++ ([] : List Blk))))) ++ (⟨b3, #[.slice V3 ((minusT a b).rel.length) c3, .slice U3 ((minusT a b).pre.length) d3], 24⟩ :: (o3 ++ (⟨b2, #[.slice V2 ((b).rel.length) c2, .slice U2 ((b).pre.length) d2], 24⟩ :: (⟨b1, #[.slice V1 ((a).rel.length) c1, .slice U1 ((a).pre.length) d1], 24⟩ :: (o2 ++ (o1))))))) (List.append_assoc _ _ _).symm ?_
      refine h_one 16 (by kernel_rfl) ?_
      refine hl_callx _ (k := 21) (args := #[.agg #[.slice V9 ((notT a).rel.length) c9, .slice U9 ((notT a).pre.length) d9], .agg #[.slice V10 ((notT b).rel.length) c10, .slice U10 ((notT b).pre.length) d10]]) (fun v' L' => ∃ ob', L' = ob' ++ ((o10 ++ (o9 ++ (o8 ++ (o7 ++ ([] : List Blk))))) ++ (⟨b3, #[.slice V3 ((minusT a b).rel.length) c3, .slice U3 ((minusT a b).pre.length) d3], 24⟩ :: (o3 ++ (⟨b2, #[.slice V2 ((b).rel.length) c2, .slice U2 ((b).pre.length) d2], 24⟩ :: (⟨b1, #[.slice V1 ((a).rel.length) c1, .slice U1 ((a).pre.length) d1], 24⟩ :: (o2 ++ (o1))))))) ∧ SetO v' (orT (notT a) (notT b)) ob') rfl (by kernel_rfl) (fun _ => by kernel_rfl) (fun w hO => (sOr_any V9 U9 V10 U10 c9 d9 c10 d10 (notT a) (notT b) w (SetO.inn hr9 hO (fun x hx => by simp [hx]) ((fa).not) (by decide)) (SetO.inn hr10 hO (fun x hx => by simp [hx]) ((fb).not) (by decide)) hr9.caps hr10.caps).mono fun e w' ⟨v', ob', k1, k2, k3⟩ => ⟨v', _, k1, ⟨ob', rfl, by rw [if_pos (by rw [((fa).not).may, ((fb).not).may]; rfl)] at k2; exact k2⟩, Own.joinN hO k3⟩) (fun v' L' ⟨ob', e, _⟩ w hO => by subst e; exact Own.sub (o10 ++ (o9 ++ (o8 ++ (o7 ++ ([] : List Blk))))) (Own.sub ob' hO)) (fun v11 L2 hv2 => ?_)
      obtain ⟨o11, rfl, hr11⟩ := hv2
      obtain ⟨V11, U11, c11, d11, rfl⟩ := hr11.form
      refine h_cast (L' := (o11 ++ (o10 ++ (o9 ++ (o8 ++ (o7 ++ ([] : List Blk)))))) ++ (⟨b3, #[.slice V3 ((minusT a b).rel.length) c3, .slice U3 ((minusT a b).pre.length) d3], 24⟩ :: (o3 ++ (⟨b2, #[.slice V2 ((b).rel.length) c2, .slice U2 ((b).pre.length) d2], 24⟩ :: (⟨b1, #[.slice V1 ((a).rel.length) c1, .slice U1 ((a).pre.length) d1], 24⟩ :: (o2 ++ (o1))))))) (List.append_assoc _ _ _).symm ?_
      refine h_one 17 (by kernel_rfl) ?_
      refine hs_call (o11 ++ (o10 ++ (o9 ++ (o8 ++ (o7 ++ ([] : List Blk)))))) _ (k := 33) (args := #[.agg #[.slice V8 ((notT (andT a b)).rel.length) c8, .slice U8 ((notT (andT a b)).pre.length) d8], .agg #[.slice V11 ((orT (notT a) (notT b)).rel.length) c11, .slice U11 ((orT (notT a) (notT b)).pre.length) d11]]) (.bool true) rfl (by kernel_rfl) (fun _ => by kernel_rfl) (fun w hO => ret_b ((same_b _ _).trans (decide_eq_true (St.eq (morgan_and fa.rel.may fb.rel.may) (morgan_and fa.pre.may fb.pre.may)))) (sSame_any V8 U8 V11 U11 c8 d8 c11 d11 (notT (andT a b)) (orT (notT a) (notT b)) w (SetO.inn hr8 hO (fun x hx => by simp [hx]) (((fa).and (fb)).not) (by decide)) (SetO.inn hr11 hO (fun x hx => by simp [hx]) (((fa).not).or ((fb).not)) (by decide)) hr8.caps hr11.caps)) ?_
      refine h_take 18 (o11 ++ (o10 ++ (o9 ++ (o8 ++ (o7 ++ ([] : List Blk)))))) _ (.bool true) rfl (by kernel_rfl) (by kernel_rfl) (by kernel_rfl) (pq_seq pq_body) (by kernel_rfl) (fun _ _ => by kernel_rfl) ?_
      refine h_take 19 (o11 ++ (o10 ++ (o9 ++ (o8 ++ (o7 ++ ([] : List Blk)))))) _ (.bool true) rfl (by kernel_rfl) (by kernel_rfl) (by kernel_rfl) (pq_seq pq_body) (by kernel_rfl) (fun _ _ => by kernel_rfl) ?_
      refine h_load 20 (o11 ++ (o10 ++ (o9 ++ (o8 ++ (o7 ++ ([] : List Blk)))))) _ 0 ⟨b3, #[.slice V3 ((minusT a b).rel.length) c3, .slice U3 ((minusT a b).pre.length) d3], 24⟩ (off := 0) (.agg #[.slice V3 ((minusT a b).rel.length) c3, .slice U3 ((minusT a b).pre.length) d3]) rfl (by kernel_rfl) (by kernel_rfl) (by kernel_rfl) (pq_seq pq_body) (by kernel_rfl) rfl (by kernel_rfl) (by kernel_rfl) (by kernel_rfl) ?_
      refine h_one 21 (by kernel_rfl) ?_
      refine hs_call (o11 ++ (o10 ++ (o9 ++ (o8 ++ (o7 ++ ([] : List Blk)))))) _ (k := 14) (args := #[.agg #[.slice V3 ((minusT a b).rel.length) c3, .slice U3 ((minusT a b).pre.length) d3]]) (.bool true) rfl (by kernel_rfl) (fun _ => by kernel_rfl) (fun w hO => ret_b ((fa).minus (fb)).may (sMay_any V3 U3 c3 d3 (minusT a b) w (SetO.inn hr3 hO (fun x hx => by simp [hx]) ((fa).minus (fb)) (by decide)) hr3.caps)) ?_
      refine h_take 22 (o11 ++ (o10 ++ (o9 ++ (o8 ++ (o7 ++ ([] : List Blk)))))) _ (.bool true) rfl (by kernel_rfl) (by kernel_rfl) (by kernel_rfl) (pq_seq pq_body) (by kernel_rfl) (fun _ _ => by kernel_rfl) ?_
      refine h_take 23 (o11 ++ (o10 ++ (o9 ++ (o8 ++ (o7 ++ ([] : List Blk)))))) _ (.bool true) rfl (by kernel_rfl) (by kernel_rfl) (by kernel_rfl) (pq_seq pq_body) (by kernel_rfl) (fun _ _ => by kernel_rfl) ?_
      refine h_drop (o11 ++ (o10 ++ (o9 ++ (o8 ++ (o7 ++ ([] : List Blk)))))) ?_
      refine h_done (by kernel_rfl) ?_
      refine fin_seq ?_
      refine ok_ret ?_
      refine fin_ret (.bool true) Tryz.results8 (by kernel_rfl) ?_
      exact fun w hO => ⟨rfl, hO.below⟩
    · skip
      refine h_one 10 (by kernel_rfl) ?_
      refine hs_call [] _ (k := 31) (args := #[.agg #[.slice V1 ((a).rel.length) c1, .slice U1 ((a).pre.length) d1], .agg #[.slice V2 ((b).rel.length) c2, .slice U2 ((b).pre.length) d2]]) (.bool false) rfl (by kernel_rfl) (fun _ => by kernel_rfl) (fun w hO => ret_b ((apart_b fa fb).trans (decide_eq_false (h2))) (sApart_any V1 U1 V2 U2 c1 d1 c2 d2 a b w (SetO.inn hr1 hO (fun x hx => by simp [hx]) (fa) (by decide)) (SetO.inn hr2 hO (fun x hx => by simp [hx]) (fb) (by decide)) hr1.caps hr2.caps (Nat.le_trans (fa).rel.len (by decide)) (Nat.le_trans (fa).pre.len (by decide)) (Nat.le_trans (fb).rel.len (by decide)) (Nat.le_trans (fb).pre.len (by decide)))) ?_
      refine h_one 13 (by kernel_rfl) ?_
      refine hl_callx _ (k := 25) (args := #[.agg #[.slice V2 ((b).rel.length) c2, .slice U2 ((b).pre.length) d2]]) (fun v' L' => ∃ ob', L' = ob' ++ ([] ++ (⟨b3, #[.slice V3 ((minusT a b).rel.length) c3, .slice U3 ((minusT a b).pre.length) d3], 24⟩ :: (o3 ++ (⟨b2, #[.slice V2 ((b).rel.length) c2, .slice U2 ((b).pre.length) d2], 24⟩ :: (⟨b1, #[.slice V1 ((a).rel.length) c1, .slice U1 ((a).pre.length) d1], 24⟩ :: (o2 ++ (o1))))))) ∧ SetO v' (notT b) ob') rfl (by kernel_rfl) (fun _ => by kernel_rfl) (fun w hO => (sNot_any V2 U2 c2 d2 b w (SetO.inn hr2 hO (fun x hx => by simp [hx]) (fb) (by decide)) hr2.caps).mono fun e w' ⟨v', ob', k1, k2, k3⟩ => ⟨v', _, k1, ⟨ob', rfl, by rw [if_pos (fb).may] at k2; exact k2⟩, Own.joinN hO k3⟩) (fun v' L' ⟨ob', e, _⟩ w hO => by subst e; exact Own.sub [] (Own.sub ob' hO)) (fun v12 L2 hv2 => ?_)
      obtain ⟨o12, rfl, hr12⟩ := hv2
      obtain ⟨V12, U12, c12, d12, rfl⟩ := hr12.form
      refine h_cast (L' := (o12 ++ ([] : List Blk)) ++ (⟨b3, #[.slice V3 ((minusT a b).rel.length) c3, .slice U3 ((minusT a b).pre.length) d3], 24⟩ :: (o3 ++ (⟨b2, #[.slice V2 ((b).rel.length) c2, .slice U2 ((b).pre.length) d2], 24⟩ :: (⟨b1, #[.slice V1 ((a).rel.length) c1, .slice U1 ((a).pre.length) d1], 24⟩ :: (o2 ++ (o1))))))) (List.append_assoc _ _ _).symm ?_
      refine h_one 14 (by kernel_rfl) ?_
      refine hs_call (o12 ++ ([] : List Blk)) _ (k := 29) (args := #[.agg #[.slice V1 ((a).rel.length) c1, .slice U1 ((a).pre.length) d1], .agg #[.slice V12 ((notT b).rel.length) c12, .slice U12 ((notT b).pre.length) d12]]) (.bool false) rfl (by kernel_rfl) (fun _ => by kernel_rfl) (fun w hO => ret_b ((within_b fa ((fb).not)).trans (decide_eq_false (fun q0 => h2 (hp.2 q0)))) (sWithin_any V1 U1 V12 U12 c1 d1 c12 d12 a (notT b) w (SetO.inn hr1 hO (fun x hx => by simp [hx]) (fa) (by decide)) (SetO.inn hr12 hO (fun x hx => by simp [hx]) ((fb).not) (by decide)) hr1.caps hr12.caps)) ?_
      refine h_take 15 (o12 ++ ([] : List Blk)) _ (.bool true) rfl (by kernel_rfl) (by kernel_rfl) (by kernel_rfl) (pq_seq pq_body) (by kernel_rfl) (fun _ _ => by kernel_rfl) ?_
      refine h_take 16 (o12 ++ ([] : List Blk)) _ (.bool true) rfl (by kernel_rfl) (by kernel_rfl) (by kernel_rfl) (pq_seq pq_body) (by kernel_rfl) (fun _ _ => by kernel_rfl) ?_
      refine h_take 17 (o12 ++ ([] : List Blk)) _ (.bool true) rfl (by kernel_rfl) (by kernel_rfl) (by kernel_rfl) (pq_seq pq_body) (by kernel_rfl) (fun _ _ => by kernel_rfl) ?_
      refine h_drop (o12 ++ ([] : List Blk)) ?_
      refine h_done (by kernel_rfl) ?_
      refine fin_seq ?_
      refine ok_seq ?_
      refine ok_anyh (by kernel_rfl) ?_
      refine h_one 0 (by kernel_rfl) ?_
      refine hs_call [] _ (k := 11) (args := #[]) (.bool true) rfl (by kernel_rfl) (fun _ => by kernel_rfl) (fun w _ => awake5_any w) ?_
      refine h_take 1 [] _ (.bool true) rfl (by kernel_rfl) (by kernel_rfl) (by kernel_rfl) (pq_seq pq_body) (by kernel_rfl) (fun _ _ => by kernel_rfl) ?_
      refine h_take 2 [] _ (.bool true) rfl (by kernel_rfl) (by kernel_rfl) (by kernel_rfl) (pq_seq pq_body) (by kernel_rfl) (fun _ _ => by kernel_rfl) ?_
      refine h_take 3 [] _ (.bool true) rfl (by kernel_rfl) (by kernel_rfl) (by kernel_rfl) (pq_seq pq_body) (by kernel_rfl) (fun _ _ => by kernel_rfl) ?_
      refine h_take 4 [] _ (.bool true) rfl (by kernel_rfl) (by kernel_rfl) (by kernel_rfl) (pq_seq pq_body) (by kernel_rfl) (fun _ _ => by kernel_rfl) ?_
      refine h_take 5 [] _ (.bool true) rfl (by kernel_rfl) (by kernel_rfl) (by kernel_rfl) (pq_seq pq_body) (by kernel_rfl) (fun _ _ => by kernel_rfl) ?_
      refine h_take 6 [] _ (.bool true) rfl (by kernel_rfl) (by kernel_rfl) (by kernel_rfl) (pq_seq pq_body) (by kernel_rfl) (fun _ _ => by kernel_rfl) ?_
      refine h_take 7 [] _ (.bool true) rfl (by kernel_rfl) (by kernel_rfl) (by kernel_rfl) (pq_seq pq_body) (by kernel_rfl) (fun _ _ => by kernel_rfl) ?_
      refine h_loadm 8 [] _ ⟨b1, #[.slice V1 ((a).rel.length) c1, .slice U1 ((a).pre.length) d1], 24⟩ (off := 0) (.agg #[.slice V1 ((a).rel.length) c1, .slice U1 ((a).pre.length) d1]) rfl (by kernel_rfl) (by kernel_rfl) (by kernel_rfl) (pq_seq pq_body) (by kernel_rfl) rfl (by simp) (by kernel_rfl) (by kernel_rfl) ?_
      refine h_loadm 9 [] _ ⟨b2, #[.slice V2 ((b).rel.length) c2, .slice U2 ((b).pre.length) d2], 24⟩ (off := 0) (.agg #[.slice V2 ((b).rel.length) c2, .slice U2 ((b).pre.length) d2]) rfl (by kernel_rfl) (by kernel_rfl) (by kernel_rfl) (pq_seq pq_body) (by kernel_rfl) rfl (by simp) (by kernel_rfl) (by kernel_rfl) ?_
      refine h_loadm 12 [] _ ⟨b1, #[.slice V1 ((a).rel.length) c1, .slice U1 ((a).pre.length) d1], 24⟩ (off := 0) (.agg #[.slice V1 ((a).rel.length) c1, .slice U1 ((a).pre.length) d1]) rfl (by kernel_rfl) (by kernel_rfl) (by kernel_rfl) (pq_seq pq_body) (by kernel_rfl) rfl (by simp) (by kernel_rfl) (by kernel_rfl) ?_
      refine h_loadm 14 [] _ ⟨b2, #[.slice V2 ((b).rel.length) c2, .slice U2 ((b).pre.length) d2], 24⟩ (off := 0) (.agg #[.slice V2 ((b).rel.length) c2, .slice U2 ((b).pre.length) d2]) rfl (by kernel_rfl) (by kernel_rfl) (by kernel_rfl) (pq_seq pq_body) (by kernel_rfl) rfl (by simp) (by kernel_rfl) (by kernel_rfl) ?_
      refine h_one 10 (by kernel_rfl) ?_
      refine hl_callx _ (k := 23) (args := #[.agg #[.slice V1 ((a).rel.length) c1, .slice U1 ((a).pre.length) d1], .agg #[.slice V2 ((b).rel.length) c2, .slice U2 ((b).pre.length) d2]]) (fun v' L' => ∃ ob', L' = ob' ++ ([] ++ (⟨b3, #[.slice V3 ((minusT a b).rel.length) c3, .slice U3 ((minusT a b).pre.length) d3], 24⟩ :: (o3 ++ (⟨b2, #[.slice V2 ((b).rel.length) c2, .slice U2 ((b).pre.length) d2], 24⟩ :: (⟨b1, #[.slice V1 ((a).rel.length) c1, .slice U1 ((a).pre.length) d1], 24⟩ :: (o2 ++ (o1))))))) ∧ SetO v' (andT a b) ob') rfl (by kernel_rfl) (fun _ => by kernel_rfl) (fun w hO => (sAnd_any V1 U1 V2 U2 c1 d1 c2 d2 a b w (SetO.inn hr1 hO (fun x hx => by simp [hx]) (fa) (by decide)) (SetO.inn hr2 hO (fun x hx => by simp [hx]) (fb) (by decide)) hr1.caps hr2.caps).mono fun e w' ⟨v', ob', k1, k2, k3⟩ => ⟨v', _, k1, ⟨ob', rfl, by rw [if_pos (by rw [(fa).may, (fb).may]; rfl)] at k2; exact k2⟩, Own.joinN hO k3⟩) (fun v' L' ⟨ob', e, _⟩ w hO => by subst e; exact Own.sub [] (Own.sub ob' hO)) (fun v13 L2 hv2 => ?_)
      obtain ⟨o13, rfl, hr13⟩ := hv2
      obtain ⟨V13, U13, c13, d13, rfl⟩ := hr13.form
      refine h_cast (L' := (o13 ++ ([] : List Blk)) ++ (⟨b3, #[.slice V3 ((minusT a b).rel.length) c3, .slice U3 ((minusT a b).pre.length) d3], 24⟩ :: (o3 ++ (⟨b2, #[.slice V2 ((b).rel.length) c2, .slice U2 ((b).pre.length) d2], 24⟩ :: (⟨b1, #[.slice V1 ((a).rel.length) c1, .slice U1 ((a).pre.length) d1], 24⟩ :: (o2 ++ (o1))))))) (List.append_assoc _ _ _).symm ?_
      refine h_one 11 (by kernel_rfl) ?_
      refine hl_callx _ (k := 25) (args := #[.agg #[.slice V13 ((andT a b).rel.length) c13, .slice U13 ((andT a b).pre.length) d13]]) (fun v' L' => ∃ ob', L' = ob' ++ ((o13 ++ ([] : List Blk)) ++ (⟨b3, #[.slice V3 ((minusT a b).rel.length) c3, .slice U3 ((minusT a b).pre.length) d3], 24⟩ :: (o3 ++ (⟨b2, #[.slice V2 ((b).rel.length) c2, .slice U2 ((b).pre.length) d2], 24⟩ :: (⟨b1, #[.slice V1 ((a).rel.length) c1, .slice U1 ((a).pre.length) d1], 24⟩ :: (o2 ++ (o1))))))) ∧ SetO v' (notT (andT a b)) ob') rfl (by kernel_rfl) (fun _ => by kernel_rfl) (fun w hO => (sNot_any V13 U13 c13 d13 (andT a b) w (SetO.inn hr13 hO (fun x hx => by simp [hx]) ((fa).and (fb)) (by decide)) hr13.caps).mono fun e w' ⟨v', ob', k1, k2, k3⟩ => ⟨v', _, k1, ⟨ob', rfl, by rw [if_pos ((fa).and (fb)).may] at k2; exact k2⟩, Own.joinN hO k3⟩) (fun v' L' ⟨ob', e, _⟩ w hO => by subst e; exact Own.sub (o13 ++ ([] : List Blk)) (Own.sub ob' hO)) (fun v14 L2 hv2 => ?_)
      obtain ⟨o14, rfl, hr14⟩ := hv2
      obtain ⟨V14, U14, c14, d14, rfl⟩ := hr14.form
      refine h_cast (L' := (o14 ++ (o13 ++ ([] : List Blk))) ++ (⟨b3, #[.slice V3 ((minusT a b).rel.length) c3, .slice U3 ((minusT a b).pre.length) d3], 24⟩ :: (o3 ++ (⟨b2, #[.slice V2 ((b).rel.length) c2, .slice U2 ((b).pre.length) d2], 24⟩ :: (⟨b1, #[.slice V1 ((a).rel.length) c1, .slice U1 ((a).pre.length) d1], 24⟩ :: (o2 ++ (o1))))))) (List.append_assoc _ _ _).symm ?_
      refine h_one 13 (by kernel_rfl) ?_
      refine hl_callx _ (k := 25) (args := #[.agg #[.slice V1 ((a).rel.length) c1, .slice U1 ((a).pre.length) d1]]) (fun v' L' => ∃ ob', L' = ob' ++ ((o14 ++ (o13 ++ ([] : List Blk))) ++ (⟨b3, #[.slice V3 ((minusT a b).rel.length) c3, .slice U3 ((minusT a b).pre.length) d3], 24⟩ :: (o3 ++ (⟨b2, #[.slice V2 ((b).rel.length) c2, .slice U2 ((b).pre.length) d2], 24⟩ :: (⟨b1, #[.slice V1 ((a).rel.length) c1, .slice U1 ((a).pre.length) d1], 24⟩ :: (o2 ++ (o1))))))) ∧ SetO v' (notT a) ob') rfl (by kernel_rfl) (fun _ => by kernel_rfl) (fun w hO => (sNot_any V1 U1 c1 d1 a w (SetO.inn hr1 hO (fun x hx => by simp [hx]) (fa) (by decide)) hr1.caps).mono fun e w' ⟨v', ob', k1, k2, k3⟩ => ⟨v', _, k1, ⟨ob', rfl, by rw [if_pos (fa).may] at k2; exact k2⟩, Own.joinN hO k3⟩) (fun v' L' ⟨ob', e, _⟩ w hO => by subst e; exact Own.sub (o14 ++ (o13 ++ ([] : List Blk))) (Own.sub ob' hO)) (fun v15 L2 hv2 => ?_)
      obtain ⟨o15, rfl, hr15⟩ := hv2
      obtain ⟨V15, U15, c15, d15, rfl⟩ := hr15.form
      refine h_cast (L' := (o15 ++ (o14 ++ (o13 ++ ([] : List Blk)))) ++ (⟨b3, #[.slice V3 ((minusT a b).rel.length) c3, .slice U3 ((minusT a b).pre.length) d3], 24⟩ :: (o3 ++ (⟨b2, #[.slice V2 ((b).rel.length) c2, .slice U2 ((b).pre.length) d2], 24⟩ :: (⟨b1, #[.slice V1 ((a).rel.length) c1, .slice U1 ((a).pre.length) d1], 24⟩ :: (o2 ++ (o1))))))) (List.append_assoc _ _ _).symm ?_
      refine h_one 15 (by kernel_rfl) ?_
      refine hl_callx _ (k := 25) (args := #[.agg #[.slice V2 ((b).rel.length) c2, .slice U2 ((b).pre.length) d2]]) (fun v' L' => ∃ ob', L' = ob' ++ ((o15 ++ (o14 ++ (o13 ++ ([] : List Blk)))) ++ (⟨b3, #[.slice V3 ((minusT a b).rel.length) c3, .slice U3 ((minusT a b).pre.length) d3], 24⟩ :: (o3 ++ (⟨b2, #[.slice V2 ((b).rel.length) c2, .slice U2 ((b).pre.length) d2], 24⟩ :: (⟨b1, #[.slice V1 ((a).rel.length) c1, .slice U1 ((a).pre.length) d1], 24⟩ :: (o2 ++ (o1))))))) ∧ SetO v' (notT b) ob') rfl (by kernel_rfl) (fun _ => by kernel_rfl) (fun w hO => (sNot_any V2 U2 c2 d2 b w (SetO.inn hr2 hO (fun x hx => by simp [hx]) (fb) (by decide)) hr2.caps).mono fun e w' ⟨v', ob', k1, k2, k3⟩ => ⟨v', _, k1, ⟨ob', rfl, by rw [if_pos (fb).may] at k2; exact k2⟩, Own.joinN hO k3⟩) (fun v' L' ⟨ob', e, _⟩ w hO => by subst e; exact Own.sub (o15 ++ (o14 ++ (o13 ++ ([] : List Blk)))) (Own.sub ob' hO)) (fun v16 L2 hv2 => ?_)
      obtain ⟨o16, rfl, hr16⟩ := hv2
      obtain ⟨V16, U16, c16, d16, rfl⟩ := hr16.form
      refine h_cast (L' := (o16 ++ (o15 ++ (o14 ++ (o13 ++ ([] : List Blk))))) ++ (⟨b3, #[.slice V3 ((minusT a b).rel.length) c3, .slice U3 ((minusT a b).pre.length) d3], 24⟩ :: (o3 ++ (⟨b2, #[.slice V2 ((b).rel.length) c2, .slice U2 ((b).pre.length) d2], 24⟩ :: (⟨b1, #[.slice V1 ((a).rel.length) c1, .slice U1 ((a).pre.length) d1], 24⟩ :: (o2 ++ (o1))))))) (List.append_assoc _ _ _).symm ?_
      refine h_one 16 (by kernel_rfl) ?_
      refine hl_callx _ (k := 21) (args := #[.agg #[.slice V15 ((notT a).rel.length) c15, .slice U15 ((notT a).pre.length) d15], .agg #[.slice V16 ((notT b).rel.length) c16, .slice U16 ((notT b).pre.length) d16]]) (fun v' L' => ∃ ob', L' = ob' ++ ((o16 ++ (o15 ++ (o14 ++ (o13 ++ ([] : List Blk))))) ++ (⟨b3, #[.slice V3 ((minusT a b).rel.length) c3, .slice U3 ((minusT a b).pre.length) d3], 24⟩ :: (o3 ++ (⟨b2, #[.slice V2 ((b).rel.length) c2, .slice U2 ((b).pre.length) d2], 24⟩ :: (⟨b1, #[.slice V1 ((a).rel.length) c1, .slice U1 ((a).pre.length) d1], 24⟩ :: (o2 ++ (o1))))))) ∧ SetO v' (orT (notT a) (notT b)) ob') rfl (by kernel_rfl) (fun _ => by kernel_rfl) (fun w hO => (sOr_any V15 U15 V16 U16 c15 d15 c16 d16 (notT a) (notT b) w (SetO.inn hr15 hO (fun x hx => by simp [hx]) ((fa).not) (by decide)) (SetO.inn hr16 hO (fun x hx => by simp [hx]) ((fb).not) (by decide)) hr15.caps hr16.caps).mono fun e w' ⟨v', ob', k1, k2, k3⟩ => ⟨v', _, k1, ⟨ob', rfl, by rw [if_pos (by rw [((fa).not).may, ((fb).not).may]; rfl)] at k2; exact k2⟩, Own.joinN hO k3⟩) (fun v' L' ⟨ob', e, _⟩ w hO => by subst e; exact Own.sub (o16 ++ (o15 ++ (o14 ++ (o13 ++ ([] : List Blk))))) (Own.sub ob' hO)) (fun v17 L2 hv2 => ?_)
      obtain ⟨o17, rfl, hr17⟩ := hv2
      obtain ⟨V17, U17, c17, d17, rfl⟩ := hr17.form
      refine h_cast (L' := (o17 ++ (o16 ++ (o15 ++ (o14 ++ (o13 ++ ([] : List Blk)))))) ++ (⟨b3, #[.slice V3 ((minusT a b).rel.length) c3, .slice U3 ((minusT a b).pre.length) d3], 24⟩ :: (o3 ++ (⟨b2, #[.slice V2 ((b).rel.length) c2, .slice U2 ((b).pre.length) d2], 24⟩ :: (⟨b1, #[.slice V1 ((a).rel.length) c1, .slice U1 ((a).pre.length) d1], 24⟩ :: (o2 ++ (o1))))))) (List.append_assoc _ _ _).symm ?_
      refine h_one 17 (by kernel_rfl) ?_
      refine hs_call (o17 ++ (o16 ++ (o15 ++ (o14 ++ (o13 ++ ([] : List Blk)))))) _ (k := 33) (args := #[.agg #[.slice V14 ((notT (andT a b)).rel.length) c14, .slice U14 ((notT (andT a b)).pre.length) d14], .agg #[.slice V17 ((orT (notT a) (notT b)).rel.length) c17, .slice U17 ((orT (notT a) (notT b)).pre.length) d17]]) (.bool true) rfl (by kernel_rfl) (fun _ => by kernel_rfl) (fun w hO => ret_b ((same_b _ _).trans (decide_eq_true (St.eq (morgan_and fa.rel.may fb.rel.may) (morgan_and fa.pre.may fb.pre.may)))) (sSame_any V14 U14 V17 U17 c14 d14 c17 d17 (notT (andT a b)) (orT (notT a) (notT b)) w (SetO.inn hr14 hO (fun x hx => by simp [hx]) (((fa).and (fb)).not) (by decide)) (SetO.inn hr17 hO (fun x hx => by simp [hx]) (((fa).not).or ((fb).not)) (by decide)) hr14.caps hr17.caps)) ?_
      refine h_take 18 (o17 ++ (o16 ++ (o15 ++ (o14 ++ (o13 ++ ([] : List Blk)))))) _ (.bool true) rfl (by kernel_rfl) (by kernel_rfl) (by kernel_rfl) (pq_seq pq_body) (by kernel_rfl) (fun _ _ => by kernel_rfl) ?_
      refine h_take 19 (o17 ++ (o16 ++ (o15 ++ (o14 ++ (o13 ++ ([] : List Blk)))))) _ (.bool true) rfl (by kernel_rfl) (by kernel_rfl) (by kernel_rfl) (pq_seq pq_body) (by kernel_rfl) (fun _ _ => by kernel_rfl) ?_
      refine h_load 20 (o17 ++ (o16 ++ (o15 ++ (o14 ++ (o13 ++ ([] : List Blk)))))) _ 0 ⟨b3, #[.slice V3 ((minusT a b).rel.length) c3, .slice U3 ((minusT a b).pre.length) d3], 24⟩ (off := 0) (.agg #[.slice V3 ((minusT a b).rel.length) c3, .slice U3 ((minusT a b).pre.length) d3]) rfl (by kernel_rfl) (by kernel_rfl) (by kernel_rfl) (pq_seq pq_body) (by kernel_rfl) rfl (by kernel_rfl) (by kernel_rfl) (by kernel_rfl) ?_
      refine h_one 21 (by kernel_rfl) ?_
      refine hs_call (o17 ++ (o16 ++ (o15 ++ (o14 ++ (o13 ++ ([] : List Blk)))))) _ (k := 14) (args := #[.agg #[.slice V3 ((minusT a b).rel.length) c3, .slice U3 ((minusT a b).pre.length) d3]]) (.bool true) rfl (by kernel_rfl) (fun _ => by kernel_rfl) (fun w hO => ret_b ((fa).minus (fb)).may (sMay_any V3 U3 c3 d3 (minusT a b) w (SetO.inn hr3 hO (fun x hx => by simp [hx]) ((fa).minus (fb)) (by decide)) hr3.caps)) ?_
      refine h_take 22 (o17 ++ (o16 ++ (o15 ++ (o14 ++ (o13 ++ ([] : List Blk)))))) _ (.bool true) rfl (by kernel_rfl) (by kernel_rfl) (by kernel_rfl) (pq_seq pq_body) (by kernel_rfl) (fun _ _ => by kernel_rfl) ?_
      refine h_take 23 (o17 ++ (o16 ++ (o15 ++ (o14 ++ (o13 ++ ([] : List Blk)))))) _ (.bool true) rfl (by kernel_rfl) (by kernel_rfl) (by kernel_rfl) (pq_seq pq_body) (by kernel_rfl) (fun _ _ => by kernel_rfl) ?_
      refine h_drop (o17 ++ (o16 ++ (o15 ++ (o14 ++ (o13 ++ ([] : List Blk)))))) ?_
      refine h_done (by kernel_rfl) ?_
      refine fin_seq ?_
      refine ok_ret ?_
      refine fin_ret (.bool true) Tryz.results8 (by kernel_rfl) ?_
      exact fun w hO => ⟨rfl, hO.below⟩
  · skip
    refine h_one 2 (by kernel_rfl) ?_
    refine hs_call [] _ (k := 29) (args := #[.agg #[.slice V1 ((a).rel.length) c1, .slice U1 ((a).pre.length) d1], .agg #[.slice V2 ((b).rel.length) c2, .slice U2 ((b).pre.length) d2]]) (.bool false) rfl (by kernel_rfl) (fun _ => by kernel_rfl) (fun w hO => ret_b ((within_b fa fb).trans (decide_eq_false (h1))) (sWithin_any V1 U1 V2 U2 c1 d1 c2 d2 a b w (SetO.inn hr1 hO (fun x hx => by simp [hx]) (fa) (by decide)) (SetO.inn hr2 hO (fun x hx => by simp [hx]) (fb) (by decide)) hr1.caps hr2.caps)) ?_
    refine h_one 4 (by kernel_rfl) ?_
    refine hs_call [] _ (k := 37) (args := #[]) (.agg #[.slice none 0 0, .slice none 0 0]) rfl (by kernel_rfl) (fun _ => by kernel_rfl) (fun w _ => sNone_any w) ?_
    refine h_one 5 (by kernel_rfl) ?_
    refine hs_call [] _ (k := 33) (args := #[.agg #[.slice V3 ((minusT a b).rel.length) c3, .slice U3 ((minusT a b).pre.length) d3], .agg #[.slice none 0 0, .slice none 0 0]]) (.bool false) rfl (by kernel_rfl) (fun _ => by kernel_rfl) (fun w hO => ret_b ((same_b _ _).trans (decide_eq_false (fun q0 => h1 (hw.2 q0)))) (sSame_any V3 U3 none none c3 d3 0 0 (minusT a b) noneT w (SetO.inn hr3 hO (fun x hx => by simp [hx]) ((fa).minus (fb)) (by decide)) (none_in _ _) hr3.caps ⟨Nat.le_refl 0, Nat.le_refl 0⟩)) ?_
    refine h_take 6 [] _ (.bool true) rfl (by kernel_rfl) (by kernel_rfl) (by kernel_rfl) (pq_seq pq_body) (by kernel_rfl) (fun _ _ => by kernel_rfl) ?_
    refine h_take 7 [] _ (.bool true) rfl (by kernel_rfl) (by kernel_rfl) (by kernel_rfl) (pq_seq pq_body) (by kernel_rfl) (fun _ _ => by kernel_rfl) ?_
    refine h_loadm 8 [] _ ⟨b1, #[.slice V1 ((a).rel.length) c1, .slice U1 ((a).pre.length) d1], 24⟩ (off := 0) (.agg #[.slice V1 ((a).rel.length) c1, .slice U1 ((a).pre.length) d1]) rfl (by kernel_rfl) (by kernel_rfl) (by kernel_rfl) (pq_seq pq_body) (by kernel_rfl) rfl (by simp) (by kernel_rfl) (by kernel_rfl) ?_
    refine h_loadm 9 [] _ ⟨b2, #[.slice V2 ((b).rel.length) c2, .slice U2 ((b).pre.length) d2], 24⟩ (off := 0) (.agg #[.slice V2 ((b).rel.length) c2, .slice U2 ((b).pre.length) d2]) rfl (by kernel_rfl) (by kernel_rfl) (by kernel_rfl) (pq_seq pq_body) (by kernel_rfl) rfl (by simp) (by kernel_rfl) (by kernel_rfl) ?_
    refine h_loadm 11 [] _ ⟨b1, #[.slice V1 ((a).rel.length) c1, .slice U1 ((a).pre.length) d1], 24⟩ (off := 0) (.agg #[.slice V1 ((a).rel.length) c1, .slice U1 ((a).pre.length) d1]) rfl (by kernel_rfl) (by kernel_rfl) (by kernel_rfl) (pq_seq pq_body) (by kernel_rfl) rfl (by simp) (by kernel_rfl) (by kernel_rfl) ?_
    refine h_loadm 12 [] _ ⟨b2, #[.slice V2 ((b).rel.length) c2, .slice U2 ((b).pre.length) d2], 24⟩ (off := 0) (.agg #[.slice V2 ((b).rel.length) c2, .slice U2 ((b).pre.length) d2]) rfl (by kernel_rfl) (by kernel_rfl) (by kernel_rfl) (pq_seq pq_body) (by kernel_rfl) rfl (by simp) (by kernel_rfl) (by kernel_rfl) ?_
    by_cases h3 : andT a b = noneT
    · skip
      refine h_one 10 (by kernel_rfl) ?_
      refine hs_call [] _ (k := 31) (args := #[.agg #[.slice V1 ((a).rel.length) c1, .slice U1 ((a).pre.length) d1], .agg #[.slice V2 ((b).rel.length) c2, .slice U2 ((b).pre.length) d2]]) (.bool true) rfl (by kernel_rfl) (fun _ => by kernel_rfl) (fun w hO => ret_b ((apart_b fa fb).trans (decide_eq_true (h3))) (sApart_any V1 U1 V2 U2 c1 d1 c2 d2 a b w (SetO.inn hr1 hO (fun x hx => by simp [hx]) (fa) (by decide)) (SetO.inn hr2 hO (fun x hx => by simp [hx]) (fb) (by decide)) hr1.caps hr2.caps (Nat.le_trans (fa).rel.len (by decide)) (Nat.le_trans (fa).pre.len (by decide)) (Nat.le_trans (fb).rel.len (by decide)) (Nat.le_trans (fb).pre.len (by decide)))) ?_
      refine h_one 13 (by kernel_rfl) ?_
      refine hl_callx _ (k := 25) (args := #[.agg #[.slice V2 ((b).rel.length) c2, .slice U2 ((b).pre.length) d2]]) (fun v' L' => ∃ ob', L' = ob' ++ ([] ++ (⟨b3, #[.slice V3 ((minusT a b).rel.length) c3, .slice U3 ((minusT a b).pre.length) d3], 24⟩ :: (o3 ++ (⟨b2, #[.slice V2 ((b).rel.length) c2, .slice U2 ((b).pre.length) d2], 24⟩ :: (⟨b1, #[.slice V1 ((a).rel.length) c1, .slice U1 ((a).pre.length) d1], 24⟩ :: (o2 ++ (o1))))))) ∧ SetO v' (notT b) ob') rfl (by kernel_rfl) (fun _ => by kernel_rfl) (fun w hO => (sNot_any V2 U2 c2 d2 b w (SetO.inn hr2 hO (fun x hx => by simp [hx]) (fb) (by decide)) hr2.caps).mono fun e w' ⟨v', ob', k1, k2, k3⟩ => ⟨v', _, k1, ⟨ob', rfl, by rw [if_pos (fb).may] at k2; exact k2⟩, Own.joinN hO k3⟩) (fun v' L' ⟨ob', e, _⟩ w hO => by subst e; exact Own.sub [] (Own.sub ob' hO)) (fun v18 L2 hv2 => ?_)
      obtain ⟨o18, rfl, hr18⟩ := hv2
      obtain ⟨V18, U18, c18, d18, rfl⟩ := hr18.form
      refine h_cast (L' := (o18 ++ ([] : List Blk)) ++ (⟨b3, #[.slice V3 ((minusT a b).rel.length) c3, .slice U3 ((minusT a b).pre.length) d3], 24⟩ :: (o3 ++ (⟨b2, #[.slice V2 ((b).rel.length) c2, .slice U2 ((b).pre.length) d2], 24⟩ :: (⟨b1, #[.slice V1 ((a).rel.length) c1, .slice U1 ((a).pre.length) d1], 24⟩ :: (o2 ++ (o1))))))) (List.append_assoc _ _ _).symm ?_
      refine h_one 14 (by kernel_rfl) ?_
      refine hs_call (o18 ++ ([] : List Blk)) _ (k := 29) (args := #[.agg #[.slice V1 ((a).rel.length) c1, .slice U1 ((a).pre.length) d1], .agg #[.slice V18 ((notT b).rel.length) c18, .slice U18 ((notT b).pre.length) d18]]) (.bool true) rfl (by kernel_rfl) (fun _ => by kernel_rfl) (fun w hO => ret_b ((within_b fa ((fb).not)).trans (decide_eq_true (hp.1 h3))) (sWithin_any V1 U1 V18 U18 c1 d1 c18 d18 a (notT b) w (SetO.inn hr1 hO (fun x hx => by simp [hx]) (fa) (by decide)) (SetO.inn hr18 hO (fun x hx => by simp [hx]) ((fb).not) (by decide)) hr1.caps hr18.caps)) ?_
      refine h_take 15 (o18 ++ ([] : List Blk)) _ (.bool true) rfl (by kernel_rfl) (by kernel_rfl) (by kernel_rfl) (pq_seq pq_body) (by kernel_rfl) (fun _ _ => by kernel_rfl) ?_
      refine h_take 16 (o18 ++ ([] : List Blk)) _ (.bool true) rfl (by kernel_rfl) (by kernel_rfl) (by kernel_rfl) (pq_seq pq_body) (by kernel_rfl) (fun _ _ => by kernel_rfl) ?_
      refine h_take 17 (o18 ++ ([] : List Blk)) _ (.bool true) rfl (by kernel_rfl) (by kernel_rfl) (by kernel_rfl) (pq_seq pq_body) (by kernel_rfl) (fun _ _ => by kernel_rfl) ?_
      refine h_drop (o18 ++ ([] : List Blk)) ?_
      refine h_done (by kernel_rfl) ?_
      refine fin_seq ?_
      refine ok_seq ?_
      refine ok_anyh (by kernel_rfl) ?_
      refine h_one 0 (by kernel_rfl) ?_
      refine hs_call [] _ (k := 11) (args := #[]) (.bool true) rfl (by kernel_rfl) (fun _ => by kernel_rfl) (fun w _ => awake5_any w) ?_
      refine h_take 1 [] _ (.bool true) rfl (by kernel_rfl) (by kernel_rfl) (by kernel_rfl) (pq_seq pq_body) (by kernel_rfl) (fun _ _ => by kernel_rfl) ?_
      refine h_take 2 [] _ (.bool true) rfl (by kernel_rfl) (by kernel_rfl) (by kernel_rfl) (pq_seq pq_body) (by kernel_rfl) (fun _ _ => by kernel_rfl) ?_
      refine h_take 3 [] _ (.bool true) rfl (by kernel_rfl) (by kernel_rfl) (by kernel_rfl) (pq_seq pq_body) (by kernel_rfl) (fun _ _ => by kernel_rfl) ?_
      refine h_take 4 [] _ (.bool true) rfl (by kernel_rfl) (by kernel_rfl) (by kernel_rfl) (pq_seq pq_body) (by kernel_rfl) (fun _ _ => by kernel_rfl) ?_
      refine h_take 5 [] _ (.bool true) rfl (by kernel_rfl) (by kernel_rfl) (by kernel_rfl) (pq_seq pq_body) (by kernel_rfl) (fun _ _ => by kernel_rfl) ?_
      refine h_take 6 [] _ (.bool true) rfl (by kernel_rfl) (by kernel_rfl) (by kernel_rfl) (pq_seq pq_body) (by kernel_rfl) (fun _ _ => by kernel_rfl) ?_
      refine h_take 7 [] _ (.bool true) rfl (by kernel_rfl) (by kernel_rfl) (by kernel_rfl) (pq_seq pq_body) (by kernel_rfl) (fun _ _ => by kernel_rfl) ?_
      refine h_loadm 8 [] _ ⟨b1, #[.slice V1 ((a).rel.length) c1, .slice U1 ((a).pre.length) d1], 24⟩ (off := 0) (.agg #[.slice V1 ((a).rel.length) c1, .slice U1 ((a).pre.length) d1]) rfl (by kernel_rfl) (by kernel_rfl) (by kernel_rfl) (pq_seq pq_body) (by kernel_rfl) rfl (by simp) (by kernel_rfl) (by kernel_rfl) ?_
      refine h_loadm 9 [] _ ⟨b2, #[.slice V2 ((b).rel.length) c2, .slice U2 ((b).pre.length) d2], 24⟩ (off := 0) (.agg #[.slice V2 ((b).rel.length) c2, .slice U2 ((b).pre.length) d2]) rfl (by kernel_rfl) (by kernel_rfl) (by kernel_rfl) (pq_seq pq_body) (by kernel_rfl) rfl (by simp) (by kernel_rfl) (by kernel_rfl) ?_
      refine h_loadm 12 [] _ ⟨b1, #[.slice V1 ((a).rel.length) c1, .slice U1 ((a).pre.length) d1], 24⟩ (off := 0) (.agg #[.slice V1 ((a).rel.length) c1, .slice U1 ((a).pre.length) d1]) rfl (by kernel_rfl) (by kernel_rfl) (by kernel_rfl) (pq_seq pq_body) (by kernel_rfl) rfl (by simp) (by kernel_rfl) (by kernel_rfl) ?_
      refine h_loadm 14 [] _ ⟨b2, #[.slice V2 ((b).rel.length) c2, .slice U2 ((b).pre.length) d2], 24⟩ (off := 0) (.agg #[.slice V2 ((b).rel.length) c2, .slice U2 ((b).pre.length) d2]) rfl (by kernel_rfl) (by kernel_rfl) (by kernel_rfl) (pq_seq pq_body) (by kernel_rfl) rfl (by simp) (by kernel_rfl) (by kernel_rfl) ?_
      refine h_one 10 (by kernel_rfl) ?_
      refine hl_callx _ (k := 23) (args := #[.agg #[.slice V1 ((a).rel.length) c1, .slice U1 ((a).pre.length) d1], .agg #[.slice V2 ((b).rel.length) c2, .slice U2 ((b).pre.length) d2]]) (fun v' L' => ∃ ob', L' = ob' ++ ([] ++ (⟨b3, #[.slice V3 ((minusT a b).rel.length) c3, .slice U3 ((minusT a b).pre.length) d3], 24⟩ :: (o3 ++ (⟨b2, #[.slice V2 ((b).rel.length) c2, .slice U2 ((b).pre.length) d2], 24⟩ :: (⟨b1, #[.slice V1 ((a).rel.length) c1, .slice U1 ((a).pre.length) d1], 24⟩ :: (o2 ++ (o1))))))) ∧ SetO v' (andT a b) ob') rfl (by kernel_rfl) (fun _ => by kernel_rfl) (fun w hO => (sAnd_any V1 U1 V2 U2 c1 d1 c2 d2 a b w (SetO.inn hr1 hO (fun x hx => by simp [hx]) (fa) (by decide)) (SetO.inn hr2 hO (fun x hx => by simp [hx]) (fb) (by decide)) hr1.caps hr2.caps).mono fun e w' ⟨v', ob', k1, k2, k3⟩ => ⟨v', _, k1, ⟨ob', rfl, by rw [if_pos (by rw [(fa).may, (fb).may]; rfl)] at k2; exact k2⟩, Own.joinN hO k3⟩) (fun v' L' ⟨ob', e, _⟩ w hO => by subst e; exact Own.sub [] (Own.sub ob' hO)) (fun v19 L2 hv2 => ?_)
      obtain ⟨o19, rfl, hr19⟩ := hv2
      obtain ⟨V19, U19, c19, d19, rfl⟩ := hr19.form
      refine h_cast (L' := (o19 ++ ([] : List Blk)) ++ (⟨b3, #[.slice V3 ((minusT a b).rel.length) c3, .slice U3 ((minusT a b).pre.length) d3], 24⟩ :: (o3 ++ (⟨b2, #[.slice V2 ((b).rel.length) c2, .slice U2 ((b).pre.length) d2], 24⟩ :: (⟨b1, #[.slice V1 ((a).rel.length) c1, .slice U1 ((a).pre.length) d1], 24⟩ :: (o2 ++ (o1))))))) (List.append_assoc _ _ _).symm ?_
      refine h_one 11 (by kernel_rfl) ?_
      refine hl_callx _ (k := 25) (args := #[.agg #[.slice V19 ((andT a b).rel.length) c19, .slice U19 ((andT a b).pre.length) d19]]) (fun v' L' => ∃ ob', L' = ob' ++ ((o19 ++ ([] : List Blk)) ++ (⟨b3, #[.slice V3 ((minusT a b).rel.length) c3, .slice U3 ((minusT a b).pre.length) d3], 24⟩ :: (o3 ++ (⟨b2, #[.slice V2 ((b).rel.length) c2, .slice U2 ((b).pre.length) d2], 24⟩ :: (⟨b1, #[.slice V1 ((a).rel.length) c1, .slice U1 ((a).pre.length) d1], 24⟩ :: (o2 ++ (o1))))))) ∧ SetO v' (notT (andT a b)) ob') rfl (by kernel_rfl) (fun _ => by kernel_rfl) (fun w hO => (sNot_any V19 U19 c19 d19 (andT a b) w (SetO.inn hr19 hO (fun x hx => by simp [hx]) ((fa).and (fb)) (by decide)) hr19.caps).mono fun e w' ⟨v', ob', k1, k2, k3⟩ => ⟨v', _, k1, ⟨ob', rfl, by rw [if_pos ((fa).and (fb)).may] at k2; exact k2⟩, Own.joinN hO k3⟩) (fun v' L' ⟨ob', e, _⟩ w hO => by subst e; exact Own.sub (o19 ++ ([] : List Blk)) (Own.sub ob' hO)) (fun v20 L2 hv2 => ?_)
      obtain ⟨o20, rfl, hr20⟩ := hv2
      obtain ⟨V20, U20, c20, d20, rfl⟩ := hr20.form
      refine h_cast (L' := (o20 ++ (o19 ++ ([] : List Blk))) ++ (⟨b3, #[.slice V3 ((minusT a b).rel.length) c3, .slice U3 ((minusT a b).pre.length) d3], 24⟩ :: (o3 ++ (⟨b2, #[.slice V2 ((b).rel.length) c2, .slice U2 ((b).pre.length) d2], 24⟩ :: (⟨b1, #[.slice V1 ((a).rel.length) c1, .slice U1 ((a).pre.length) d1], 24⟩ :: (o2 ++ (o1))))))) (List.append_assoc _ _ _).symm ?_
      refine h_one 13 (by kernel_rfl) ?_
      refine hl_callx _ (k := 25) (args := #[.agg #[.slice V1 ((a).rel.length) c1, .slice U1 ((a).pre.length) d1]]) (fun v' L' => ∃ ob', L' = ob' ++ ((o20 ++ (o19 ++ ([] : List Blk))) ++ (⟨b3, #[.slice V3 ((minusT a b).rel.length) c3, .slice U3 ((minusT a b).pre.length) d3], 24⟩ :: (o3 ++ (⟨b2, #[.slice V2 ((b).rel.length) c2, .slice U2 ((b).pre.length) d2], 24⟩ :: (⟨b1, #[.slice V1 ((a).rel.length) c1, .slice U1 ((a).pre.length) d1], 24⟩ :: (o2 ++ (o1))))))) ∧ SetO v' (notT a) ob') rfl (by kernel_rfl) (fun _ => by kernel_rfl) (fun w hO => (sNot_any V1 U1 c1 d1 a w (SetO.inn hr1 hO (fun x hx => by simp [hx]) (fa) (by decide)) hr1.caps).mono fun e w' ⟨v', ob', k1, k2, k3⟩ => ⟨v', _, k1, ⟨ob', rfl, by rw [if_pos (fa).may] at k2; exact k2⟩, Own.joinN hO k3⟩) (fun v' L' ⟨ob', e, _⟩ w hO => by subst e; exact Own.sub (o20 ++ (o19 ++ ([] : List Blk))) (Own.sub ob' hO)) (fun v21 L2 hv2 => ?_)
      obtain ⟨o21, rfl, hr21⟩ := hv2
      obtain ⟨V21, U21, c21, d21, rfl⟩ := hr21.form
      refine h_cast (L' := (o21 ++ (o20 ++ (o19 ++ ([] : List Blk)))) ++ (⟨b3, #[.slice V3 ((minusT a b).rel.length) c3, .slice U3 ((minusT a b).pre.length) d3], 24⟩ :: (o3 ++ (⟨b2, #[.slice V2 ((b).rel.length) c2, .slice U2 ((b).pre.length) d2], 24⟩ :: (⟨b1, #[.slice V1 ((a).rel.length) c1, .slice U1 ((a).pre.length) d1], 24⟩ :: (o2 ++ (o1))))))) (List.append_assoc _ _ _).symm ?_
      refine h_one 15 (by kernel_rfl) ?_
      refine hl_callx _ (k := 25) (args := #[.agg #[.slice V2 ((b).rel.length) c2, .slice U2 ((b).pre.length) d2]]) (fun v' L' => ∃ ob', L' = ob' ++ ((o21 ++ (o20 ++ (o19 ++ ([] : List Blk)))) ++ (⟨b3, #[.slice V3 ((minusT a b).rel.length) c3, .slice U3 ((minusT a b).pre.length) d3], 24⟩ :: (o3 ++ (⟨b2, #[.slice V2 ((b).rel.length) c2, .slice U2 ((b).pre.length) d2], 24⟩ :: (⟨b1, #[.slice V1 ((a).rel.length) c1, .slice U1 ((a).pre.length) d1], 24⟩ :: (o2 ++ (o1))))))) ∧ SetO v' (notT b) ob') rfl (by kernel_rfl) (fun _ => by kernel_rfl) (fun w hO => (sNot_any V2 U2 c2 d2 b w (SetO.inn hr2 hO (fun x hx => by simp [hx]) (fb) (by decide)) hr2.caps).mono fun e w' ⟨v', ob', k1, k2, k3⟩ => ⟨v', _, k1, ⟨ob', rfl, by rw [if_pos (fb).may] at k2; exact k2⟩, Own.joinN hO k3⟩) (fun v' L' ⟨ob', e, _⟩ w hO => by subst e; exact Own.sub (o21 ++ (o20 ++ (o19 ++ ([] : List Blk)))) (Own.sub ob' hO)) (fun v22 L2 hv2 => ?_)
      obtain ⟨o22, rfl, hr22⟩ := hv2
      obtain ⟨V22, U22, c22, d22, rfl⟩ := hr22.form
      refine h_cast (L' := (o22 ++ (o21 ++ (o20 ++ (o19 ++ ([] : List Blk))))) ++ (⟨b3, #[.slice V3 ((minusT a b).rel.length) c3, .slice U3 ((minusT a b).pre.length) d3], 24⟩ :: (o3 ++ (⟨b2, #[.slice V2 ((b).rel.length) c2, .slice U2 ((b).pre.length) d2], 24⟩ :: (⟨b1, #[.slice V1 ((a).rel.length) c1, .slice U1 ((a).pre.length) d1], 24⟩ :: (o2 ++ (o1))))))) (List.append_assoc _ _ _).symm ?_
      refine h_one 16 (by kernel_rfl) ?_
      refine hl_callx _ (k := 21) (args := #[.agg #[.slice V21 ((notT a).rel.length) c21, .slice U21 ((notT a).pre.length) d21], .agg #[.slice V22 ((notT b).rel.length) c22, .slice U22 ((notT b).pre.length) d22]]) (fun v' L' => ∃ ob', L' = ob' ++ ((o22 ++ (o21 ++ (o20 ++ (o19 ++ ([] : List Blk))))) ++ (⟨b3, #[.slice V3 ((minusT a b).rel.length) c3, .slice U3 ((minusT a b).pre.length) d3], 24⟩ :: (o3 ++ (⟨b2, #[.slice V2 ((b).rel.length) c2, .slice U2 ((b).pre.length) d2], 24⟩ :: (⟨b1, #[.slice V1 ((a).rel.length) c1, .slice U1 ((a).pre.length) d1], 24⟩ :: (o2 ++ (o1))))))) ∧ SetO v' (orT (notT a) (notT b)) ob') rfl (by kernel_rfl) (fun _ => by kernel_rfl) (fun w hO => (sOr_any V21 U21 V22 U22 c21 d21 c22 d22 (notT a) (notT b) w (SetO.inn hr21 hO (fun x hx => by simp [hx]) ((fa).not) (by decide)) (SetO.inn hr22 hO (fun x hx => by simp [hx]) ((fb).not) (by decide)) hr21.caps hr22.caps).mono fun e w' ⟨v', ob', k1, k2, k3⟩ => ⟨v', _, k1, ⟨ob', rfl, by rw [if_pos (by rw [((fa).not).may, ((fb).not).may]; rfl)] at k2; exact k2⟩, Own.joinN hO k3⟩) (fun v' L' ⟨ob', e, _⟩ w hO => by subst e; exact Own.sub (o22 ++ (o21 ++ (o20 ++ (o19 ++ ([] : List Blk))))) (Own.sub ob' hO)) (fun v23 L2 hv2 => ?_)
      obtain ⟨o23, rfl, hr23⟩ := hv2
      obtain ⟨V23, U23, c23, d23, rfl⟩ := hr23.form
      refine h_cast (L' := (o23 ++ (o22 ++ (o21 ++ (o20 ++ (o19 ++ ([] : List Blk)))))) ++ (⟨b3, #[.slice V3 ((minusT a b).rel.length) c3, .slice U3 ((minusT a b).pre.length) d3], 24⟩ :: (o3 ++ (⟨b2, #[.slice V2 ((b).rel.length) c2, .slice U2 ((b).pre.length) d2], 24⟩ :: (⟨b1, #[.slice V1 ((a).rel.length) c1, .slice U1 ((a).pre.length) d1], 24⟩ :: (o2 ++ (o1))))))) (List.append_assoc _ _ _).symm ?_
      refine h_one 17 (by kernel_rfl) ?_
      refine hs_call (o23 ++ (o22 ++ (o21 ++ (o20 ++ (o19 ++ ([] : List Blk)))))) _ (k := 33) (args := #[.agg #[.slice V20 ((notT (andT a b)).rel.length) c20, .slice U20 ((notT (andT a b)).pre.length) d20], .agg #[.slice V23 ((orT (notT a) (notT b)).rel.length) c23, .slice U23 ((orT (notT a) (notT b)).pre.length) d23]]) (.bool true) rfl (by kernel_rfl) (fun _ => by kernel_rfl) (fun w hO => ret_b ((same_b _ _).trans (decide_eq_true (St.eq (morgan_and fa.rel.may fb.rel.may) (morgan_and fa.pre.may fb.pre.may)))) (sSame_any V20 U20 V23 U23 c20 d20 c23 d23 (notT (andT a b)) (orT (notT a) (notT b)) w (SetO.inn hr20 hO (fun x hx => by simp [hx]) (((fa).and (fb)).not) (by decide)) (SetO.inn hr23 hO (fun x hx => by simp [hx]) (((fa).not).or ((fb).not)) (by decide)) hr20.caps hr23.caps)) ?_
      refine h_take 18 (o23 ++ (o22 ++ (o21 ++ (o20 ++ (o19 ++ ([] : List Blk)))))) _ (.bool true) rfl (by kernel_rfl) (by kernel_rfl) (by kernel_rfl) (pq_seq pq_body) (by kernel_rfl) (fun _ _ => by kernel_rfl) ?_
      refine h_take 19 (o23 ++ (o22 ++ (o21 ++ (o20 ++ (o19 ++ ([] : List Blk)))))) _ (.bool true) rfl (by kernel_rfl) (by kernel_rfl) (by kernel_rfl) (pq_seq pq_body) (by kernel_rfl) (fun _ _ => by kernel_rfl) ?_
      refine h_load 20 (o23 ++ (o22 ++ (o21 ++ (o20 ++ (o19 ++ ([] : List Blk)))))) _ 0 ⟨b3, #[.slice V3 ((minusT a b).rel.length) c3, .slice U3 ((minusT a b).pre.length) d3], 24⟩ (off := 0) (.agg #[.slice V3 ((minusT a b).rel.length) c3, .slice U3 ((minusT a b).pre.length) d3]) rfl (by kernel_rfl) (by kernel_rfl) (by kernel_rfl) (pq_seq pq_body) (by kernel_rfl) rfl (by kernel_rfl) (by kernel_rfl) (by kernel_rfl) ?_
      refine h_one 21 (by kernel_rfl) ?_
      refine hs_call (o23 ++ (o22 ++ (o21 ++ (o20 ++ (o19 ++ ([] : List Blk)))))) _ (k := 14) (args := #[.agg #[.slice V3 ((minusT a b).rel.length) c3, .slice U3 ((minusT a b).pre.length) d3]]) (.bool true) rfl (by kernel_rfl) (fun _ => by kernel_rfl) (fun w hO => ret_b ((fa).minus (fb)).may (sMay_any V3 U3 c3 d3 (minusT a b) w (SetO.inn hr3 hO (fun x hx => by simp [hx]) ((fa).minus (fb)) (by decide)) hr3.caps)) ?_
      refine h_take 22 (o23 ++ (o22 ++ (o21 ++ (o20 ++ (o19 ++ ([] : List Blk)))))) _ (.bool true) rfl (by kernel_rfl) (by kernel_rfl) (by kernel_rfl) (pq_seq pq_body) (by kernel_rfl) (fun _ _ => by kernel_rfl) ?_
      refine h_take 23 (o23 ++ (o22 ++ (o21 ++ (o20 ++ (o19 ++ ([] : List Blk)))))) _ (.bool true) rfl (by kernel_rfl) (by kernel_rfl) (by kernel_rfl) (pq_seq pq_body) (by kernel_rfl) (fun _ _ => by kernel_rfl) ?_
      refine h_drop (o23 ++ (o22 ++ (o21 ++ (o20 ++ (o19 ++ ([] : List Blk)))))) ?_
      refine h_done (by kernel_rfl) ?_
      refine fin_seq ?_
      refine ok_ret ?_
      refine fin_ret (.bool true) Tryz.results8 (by kernel_rfl) ?_
      exact fun w hO => ⟨rfl, hO.below⟩
    · skip
      refine h_one 10 (by kernel_rfl) ?_
      refine hs_call [] _ (k := 31) (args := #[.agg #[.slice V1 ((a).rel.length) c1, .slice U1 ((a).pre.length) d1], .agg #[.slice V2 ((b).rel.length) c2, .slice U2 ((b).pre.length) d2]]) (.bool false) rfl (by kernel_rfl) (fun _ => by kernel_rfl) (fun w hO => ret_b ((apart_b fa fb).trans (decide_eq_false (h3))) (sApart_any V1 U1 V2 U2 c1 d1 c2 d2 a b w (SetO.inn hr1 hO (fun x hx => by simp [hx]) (fa) (by decide)) (SetO.inn hr2 hO (fun x hx => by simp [hx]) (fb) (by decide)) hr1.caps hr2.caps (Nat.le_trans (fa).rel.len (by decide)) (Nat.le_trans (fa).pre.len (by decide)) (Nat.le_trans (fb).rel.len (by decide)) (Nat.le_trans (fb).pre.len (by decide)))) ?_
      refine h_one 13 (by kernel_rfl) ?_
      refine hl_callx _ (k := 25) (args := #[.agg #[.slice V2 ((b).rel.length) c2, .slice U2 ((b).pre.length) d2]]) (fun v' L' => ∃ ob', L' = ob' ++ ([] ++ (⟨b3, #[.slice V3 ((minusT a b).rel.length) c3, .slice U3 ((minusT a b).pre.length) d3], 24⟩ :: (o3 ++ (⟨b2, #[.slice V2 ((b).rel.length) c2, .slice U2 ((b).pre.length) d2], 24⟩ :: (⟨b1, #[.slice V1 ((a).rel.length) c1, .slice U1 ((a).pre.length) d1], 24⟩ :: (o2 ++ (o1))))))) ∧ SetO v' (notT b) ob') rfl (by kernel_rfl) (fun _ => by kernel_rfl) (fun w hO => (sNot_any V2 U2 c2 d2 b w (SetO.inn hr2 hO (fun x hx => by simp [hx]) (fb) (by decide)) hr2.caps).mono fun e w' ⟨v', ob', k1, k2, k3⟩ => ⟨v', _, k1, ⟨ob', rfl, by rw [if_pos (fb).may] at k2; exact k2⟩, Own.joinN hO k3⟩) (fun v' L' ⟨ob', e, _⟩ w hO => by subst e; exact Own.sub [] (Own.sub ob' hO)) (fun v24 L2 hv2 => ?_)
      obtain ⟨o24, rfl, hr24⟩ := hv2
      obtain ⟨V24, U24, c24, d24, rfl⟩ := hr24.form
      refine h_cast (L' := (o24 ++ ([] : List Blk)) ++ (⟨b3, #[.slice V3 ((minusT a b).rel.length) c3, .slice U3 ((minusT a b).pre.length) d3], 24⟩ :: (o3 ++ (⟨b2, #[.slice V2 ((b).rel.length) c2, .slice U2 ((b).pre.length) d2], 24⟩ :: (⟨b1, #[.slice V1 ((a).rel.length) c1, .slice U1 ((a).pre.length) d1], 24⟩ :: (o2 ++ (o1))))))) (List.append_assoc _ _ _).symm ?_
      refine h_one 14 (by kernel_rfl) ?_
      refine hs_call (o24 ++ ([] : List Blk)) _ (k := 29) (args := #[.agg #[.slice V1 ((a).rel.length) c1, .slice U1 ((a).pre.length) d1], .agg #[.slice V24 ((notT b).rel.length) c24, .slice U24 ((notT b).pre.length) d24]]) (.bool false) rfl (by kernel_rfl) (fun _ => by kernel_rfl) (fun w hO => ret_b ((within_b fa ((fb).not)).trans (decide_eq_false (fun q0 => h3 (hp.2 q0)))) (sWithin_any V1 U1 V24 U24 c1 d1 c24 d24 a (notT b) w (SetO.inn hr1 hO (fun x hx => by simp [hx]) (fa) (by decide)) (SetO.inn hr24 hO (fun x hx => by simp [hx]) ((fb).not) (by decide)) hr1.caps hr24.caps)) ?_
      refine h_take 15 (o24 ++ ([] : List Blk)) _ (.bool true) rfl (by kernel_rfl) (by kernel_rfl) (by kernel_rfl) (pq_seq pq_body) (by kernel_rfl) (fun _ _ => by kernel_rfl) ?_
      refine h_take 16 (o24 ++ ([] : List Blk)) _ (.bool true) rfl (by kernel_rfl) (by kernel_rfl) (by kernel_rfl) (pq_seq pq_body) (by kernel_rfl) (fun _ _ => by kernel_rfl) ?_
      refine h_take 17 (o24 ++ ([] : List Blk)) _ (.bool true) rfl (by kernel_rfl) (by kernel_rfl) (by kernel_rfl) (pq_seq pq_body) (by kernel_rfl) (fun _ _ => by kernel_rfl) ?_
      refine h_drop (o24 ++ ([] : List Blk)) ?_
      refine h_done (by kernel_rfl) ?_
      refine fin_seq ?_
      refine ok_seq ?_
      refine ok_anyh (by kernel_rfl) ?_
      refine h_one 0 (by kernel_rfl) ?_
      refine hs_call [] _ (k := 11) (args := #[]) (.bool true) rfl (by kernel_rfl) (fun _ => by kernel_rfl) (fun w _ => awake5_any w) ?_
      refine h_take 1 [] _ (.bool true) rfl (by kernel_rfl) (by kernel_rfl) (by kernel_rfl) (pq_seq pq_body) (by kernel_rfl) (fun _ _ => by kernel_rfl) ?_
      refine h_take 2 [] _ (.bool true) rfl (by kernel_rfl) (by kernel_rfl) (by kernel_rfl) (pq_seq pq_body) (by kernel_rfl) (fun _ _ => by kernel_rfl) ?_
      refine h_take 3 [] _ (.bool true) rfl (by kernel_rfl) (by kernel_rfl) (by kernel_rfl) (pq_seq pq_body) (by kernel_rfl) (fun _ _ => by kernel_rfl) ?_
      refine h_take 4 [] _ (.bool true) rfl (by kernel_rfl) (by kernel_rfl) (by kernel_rfl) (pq_seq pq_body) (by kernel_rfl) (fun _ _ => by kernel_rfl) ?_
      refine h_take 5 [] _ (.bool true) rfl (by kernel_rfl) (by kernel_rfl) (by kernel_rfl) (pq_seq pq_body) (by kernel_rfl) (fun _ _ => by kernel_rfl) ?_
      refine h_take 6 [] _ (.bool true) rfl (by kernel_rfl) (by kernel_rfl) (by kernel_rfl) (pq_seq pq_body) (by kernel_rfl) (fun _ _ => by kernel_rfl) ?_
      refine h_take 7 [] _ (.bool true) rfl (by kernel_rfl) (by kernel_rfl) (by kernel_rfl) (pq_seq pq_body) (by kernel_rfl) (fun _ _ => by kernel_rfl) ?_
      refine h_loadm 8 [] _ ⟨b1, #[.slice V1 ((a).rel.length) c1, .slice U1 ((a).pre.length) d1], 24⟩ (off := 0) (.agg #[.slice V1 ((a).rel.length) c1, .slice U1 ((a).pre.length) d1]) rfl (by kernel_rfl) (by kernel_rfl) (by kernel_rfl) (pq_seq pq_body) (by kernel_rfl) rfl (by simp) (by kernel_rfl) (by kernel_rfl) ?_
      refine h_loadm 9 [] _ ⟨b2, #[.slice V2 ((b).rel.length) c2, .slice U2 ((b).pre.length) d2], 24⟩ (off := 0) (.agg #[.slice V2 ((b).rel.length) c2, .slice U2 ((b).pre.length) d2]) rfl (by kernel_rfl) (by kernel_rfl) (by kernel_rfl) (pq_seq pq_body) (by kernel_rfl) rfl (by simp) (by kernel_rfl) (by kernel_rfl) ?_
      refine h_loadm 12 [] _ ⟨b1, #[.slice V1 ((a).rel.length) c1, .slice U1 ((a).pre.length) d1], 24⟩ (off := 0) (.agg #[.slice V1 ((a).rel.length) c1, .slice U1 ((a).pre.length) d1]) rfl (by kernel_rfl) (by kernel_rfl) (by kernel_rfl) (pq_seq pq_body) (by kernel_rfl) rfl (by simp) (by kernel_rfl) (by kernel_rfl) ?_
      refine h_loadm 14 [] _ ⟨b2, #[.slice V2 ((b).rel.length) c2, .slice U2 ((b).pre.length) d2], 24⟩ (off := 0) (.agg #[.slice V2 ((b).rel.length) c2, .slice U2 ((b).pre.length) d2]) rfl (by kernel_rfl) (by kernel_rfl) (by kernel_rfl) (pq_seq pq_body) (by kernel_rfl) rfl (by simp) (by kernel_rfl) (by kernel_rfl) ?_
      refine h_one 10 (by kernel_rfl) ?_
      refine hl_callx _ (k := 23) (args := #[.agg #[.slice V1 ((a).rel.length) c1, .slice U1 ((a).pre.length) d1], .agg #[.slice V2 ((b).rel.length) c2, .slice U2 ((b).pre.length) d2]]) (fun v' L' => ∃ ob', L' = ob' ++ ([] ++ (⟨b3, #[.slice V3 ((minusT a b).rel.length) c3, .slice U3 ((minusT a b).pre.length) d3], 24⟩ :: (o3 ++ (⟨b2, #[.slice V2 ((b).rel.length) c2, .slice U2 ((b).pre.length) d2], 24⟩ :: (⟨b1, #[.slice V1 ((a).rel.length) c1, .slice U1 ((a).pre.length) d1], 24⟩ :: (o2 ++ (o1))))))) ∧ SetO v' (andT a b) ob') rfl (by kernel_rfl) (fun _ => by kernel_rfl) (fun w hO => (sAnd_any V1 U1 V2 U2 c1 d1 c2 d2 a b w (SetO.inn hr1 hO (fun x hx => by simp [hx]) (fa) (by decide)) (SetO.inn hr2 hO (fun x hx => by simp [hx]) (fb) (by decide)) hr1.caps hr2.caps).mono fun e w' ⟨v', ob', k1, k2, k3⟩ => ⟨v', _, k1, ⟨ob', rfl, by rw [if_pos (by rw [(fa).may, (fb).may]; rfl)] at k2; exact k2⟩, Own.joinN hO k3⟩) (fun v' L' ⟨ob', e, _⟩ w hO => by subst e; exact Own.sub [] (Own.sub ob' hO)) (fun v25 L2 hv2 => ?_)
      obtain ⟨o25, rfl, hr25⟩ := hv2
      obtain ⟨V25, U25, c25, d25, rfl⟩ := hr25.form
      refine h_cast (L' := (o25 ++ ([] : List Blk)) ++ (⟨b3, #[.slice V3 ((minusT a b).rel.length) c3, .slice U3 ((minusT a b).pre.length) d3], 24⟩ :: (o3 ++ (⟨b2, #[.slice V2 ((b).rel.length) c2, .slice U2 ((b).pre.length) d2], 24⟩ :: (⟨b1, #[.slice V1 ((a).rel.length) c1, .slice U1 ((a).pre.length) d1], 24⟩ :: (o2 ++ (o1))))))) (List.append_assoc _ _ _).symm ?_
      refine h_one 11 (by kernel_rfl) ?_
      refine hl_callx _ (k := 25) (args := #[.agg #[.slice V25 ((andT a b).rel.length) c25, .slice U25 ((andT a b).pre.length) d25]]) (fun v' L' => ∃ ob', L' = ob' ++ ((o25 ++ ([] : List Blk)) ++ (⟨b3, #[.slice V3 ((minusT a b).rel.length) c3, .slice U3 ((minusT a b).pre.length) d3], 24⟩ :: (o3 ++ (⟨b2, #[.slice V2 ((b).rel.length) c2, .slice U2 ((b).pre.length) d2], 24⟩ :: (⟨b1, #[.slice V1 ((a).rel.length) c1, .slice U1 ((a).pre.length) d1], 24⟩ :: (o2 ++ (o1))))))) ∧ SetO v' (notT (andT a b)) ob') rfl (by kernel_rfl) (fun _ => by kernel_rfl) (fun w hO => (sNot_any V25 U25 c25 d25 (andT a b) w (SetO.inn hr25 hO (fun x hx => by simp [hx]) ((fa).and (fb)) (by decide)) hr25.caps).mono fun e w' ⟨v', ob', k1, k2, k3⟩ => ⟨v', _, k1, ⟨ob', rfl, by rw [if_pos ((fa).and (fb)).may] at k2; exact k2⟩, Own.joinN hO k3⟩) (fun v' L' ⟨ob', e, _⟩ w hO => by subst e; exact Own.sub (o25 ++ ([] : List Blk)) (Own.sub ob' hO)) (fun v26 L2 hv2 => ?_)
      obtain ⟨o26, rfl, hr26⟩ := hv2
      obtain ⟨V26, U26, c26, d26, rfl⟩ := hr26.form
      refine h_cast (L' := (o26 ++ (o25 ++ ([] : List Blk))) ++ (⟨b3, #[.slice V3 ((minusT a b).rel.length) c3, .slice U3 ((minusT a b).pre.length) d3], 24⟩ :: (o3 ++ (⟨b2, #[.slice V2 ((b).rel.length) c2, .slice U2 ((b).pre.length) d2], 24⟩ :: (⟨b1, #[.slice V1 ((a).rel.length) c1, .slice U1 ((a).pre.length) d1], 24⟩ :: (o2 ++ (o1))))))) (List.append_assoc _ _ _).symm ?_
      refine h_one 13 (by kernel_rfl) ?_
      refine hl_callx _ (k := 25) (args := #[.agg #[.slice V1 ((a).rel.length) c1, .slice U1 ((a).pre.length) d1]]) (fun v' L' => ∃ ob', L' = ob' ++ ((o26 ++ (o25 ++ ([] : List Blk))) ++ (⟨b3, #[.slice V3 ((minusT a b).rel.length) c3, .slice U3 ((minusT a b).pre.length) d3], 24⟩ :: (o3 ++ (⟨b2, #[.slice V2 ((b).rel.length) c2, .slice U2 ((b).pre.length) d2], 24⟩ :: (⟨b1, #[.slice V1 ((a).rel.length) c1, .slice U1 ((a).pre.length) d1], 24⟩ :: (o2 ++ (o1))))))) ∧ SetO v' (notT a) ob') rfl (by kernel_rfl) (fun _ => by kernel_rfl) (fun w hO => (sNot_any V1 U1 c1 d1 a w (SetO.inn hr1 hO (fun x hx => by simp [hx]) (fa) (by decide)) hr1.caps).mono fun e w' ⟨v', ob', k1, k2, k3⟩ => ⟨v', _, k1, ⟨ob', rfl, by rw [if_pos (fa).may] at k2; exact k2⟩, Own.joinN hO k3⟩) (fun v' L' ⟨ob', e, _⟩ w hO => by subst e; exact Own.sub (o26 ++ (o25 ++ ([] : List Blk))) (Own.sub ob' hO)) (fun v27 L2 hv2 => ?_)
      obtain ⟨o27, rfl, hr27⟩ := hv2
      obtain ⟨V27, U27, c27, d27, rfl⟩ := hr27.form
      refine h_cast (L' := (o27 ++ (o26 ++ (o25 ++ ([] : List Blk)))) ++ (⟨b3, #[.slice V3 ((minusT a b).rel.length) c3, .slice U3 ((minusT a b).pre.length) d3], 24⟩ :: (o3 ++ (⟨b2, #[.slice V2 ((b).rel.length) c2, .slice U2 ((b).pre.length) d2], 24⟩ :: (⟨b1, #[.slice V1 ((a).rel.length) c1, .slice U1 ((a).pre.length) d1], 24⟩ :: (o2 ++ (o1))))))) (List.append_assoc _ _ _).symm ?_
      refine h_one 15 (by kernel_rfl) ?_
      refine hl_callx _ (k := 25) (args := #[.agg #[.slice V2 ((b).rel.length) c2, .slice U2 ((b).pre.length) d2]]) (fun v' L' => ∃ ob', L' = ob' ++ ((o27 ++ (o26 ++ (o25 ++ ([] : List Blk)))) ++ (⟨b3, #[.slice V3 ((minusT a b).rel.length) c3, .slice U3 ((minusT a b).pre.length) d3], 24⟩ :: (o3 ++ (⟨b2, #[.slice V2 ((b).rel.length) c2, .slice U2 ((b).pre.length) d2], 24⟩ :: (⟨b1, #[.slice V1 ((a).rel.length) c1, .slice U1 ((a).pre.length) d1], 24⟩ :: (o2 ++ (o1))))))) ∧ SetO v' (notT b) ob') rfl (by kernel_rfl) (fun _ => by kernel_rfl) (fun w hO => (sNot_any V2 U2 c2 d2 b w (SetO.inn hr2 hO (fun x hx => by simp [hx]) (fb) (by decide)) hr2.caps).mono fun e w' ⟨v', ob', k1, k2, k3⟩ => ⟨v', _, k1, ⟨ob', rfl, by rw [if_pos (fb).may] at k2; exact k2⟩, Own.joinN hO k3⟩) (fun v' L' ⟨ob', e, _⟩ w hO => by subst e; exact Own.sub (o27 ++ (o26 ++ (o25 ++ ([] : List Blk)))) (Own.sub ob' hO)) (fun v28 L2 hv2 => ?_)
      obtain ⟨o28, rfl, hr28⟩ := hv2
      obtain ⟨V28, U28, c28, d28, rfl⟩ := hr28.form
      refine h_cast (L' := (o28 ++ (o27 ++ (o26 ++ (o25 ++ ([] : List Blk))))) ++ (⟨b3, #[.slice V3 ((minusT a b).rel.length) c3, .slice U3 ((minusT a b).pre.length) d3], 24⟩ :: (o3 ++ (⟨b2, #[.slice V2 ((b).rel.length) c2, .slice U2 ((b).pre.length) d2], 24⟩ :: (⟨b1, #[.slice V1 ((a).rel.length) c1, .slice U1 ((a).pre.length) d1], 24⟩ :: (o2 ++ (o1))))))) (List.append_assoc _ _ _).symm ?_
      refine h_one 16 (by kernel_rfl) ?_
      refine hl_callx _ (k := 21) (args := #[.agg #[.slice V27 ((notT a).rel.length) c27, .slice U27 ((notT a).pre.length) d27], .agg #[.slice V28 ((notT b).rel.length) c28, .slice U28 ((notT b).pre.length) d28]]) (fun v' L' => ∃ ob', L' = ob' ++ ((o28 ++ (o27 ++ (o26 ++ (o25 ++ ([] : List Blk))))) ++ (⟨b3, #[.slice V3 ((minusT a b).rel.length) c3, .slice U3 ((minusT a b).pre.length) d3], 24⟩ :: (o3 ++ (⟨b2, #[.slice V2 ((b).rel.length) c2, .slice U2 ((b).pre.length) d2], 24⟩ :: (⟨b1, #[.slice V1 ((a).rel.length) c1, .slice U1 ((a).pre.length) d1], 24⟩ :: (o2 ++ (o1))))))) ∧ SetO v' (orT (notT a) (notT b)) ob') rfl (by kernel_rfl) (fun _ => by kernel_rfl) (fun w hO => (sOr_any V27 U27 V28 U28 c27 d27 c28 d28 (notT a) (notT b) w (SetO.inn hr27 hO (fun x hx => by simp [hx]) ((fa).not) (by decide)) (SetO.inn hr28 hO (fun x hx => by simp [hx]) ((fb).not) (by decide)) hr27.caps hr28.caps).mono fun e w' ⟨v', ob', k1, k2, k3⟩ => ⟨v', _, k1, ⟨ob', rfl, by rw [if_pos (by rw [((fa).not).may, ((fb).not).may]; rfl)] at k2; exact k2⟩, Own.joinN hO k3⟩) (fun v' L' ⟨ob', e, _⟩ w hO => by subst e; exact Own.sub (o28 ++ (o27 ++ (o26 ++ (o25 ++ ([] : List Blk))))) (Own.sub ob' hO)) (fun v29 L2 hv2 => ?_)
      obtain ⟨o29, rfl, hr29⟩ := hv2
      obtain ⟨V29, U29, c29, d29, rfl⟩ := hr29.form
      refine h_cast (L' := (o29 ++ (o28 ++ (o27 ++ (o26 ++ (o25 ++ ([] : List Blk)))))) ++ (⟨b3, #[.slice V3 ((minusT a b).rel.length) c3, .slice U3 ((minusT a b).pre.length) d3], 24⟩ :: (o3 ++ (⟨b2, #[.slice V2 ((b).rel.length) c2, .slice U2 ((b).pre.length) d2], 24⟩ :: (⟨b1, #[.slice V1 ((a).rel.length) c1, .slice U1 ((a).pre.length) d1], 24⟩ :: (o2 ++ (o1))))))) (List.append_assoc _ _ _).symm ?_
      refine h_one 17 (by kernel_rfl) ?_
      refine hs_call (o29 ++ (o28 ++ (o27 ++ (o26 ++ (o25 ++ ([] : List Blk)))))) _ (k := 33) (args := #[.agg #[.slice V26 ((notT (andT a b)).rel.length) c26, .slice U26 ((notT (andT a b)).pre.length) d26], .agg #[.slice V29 ((orT (notT a) (notT b)).rel.length) c29, .slice U29 ((orT (notT a) (notT b)).pre.length) d29]]) (.bool true) rfl (by kernel_rfl) (fun _ => by kernel_rfl) (fun w hO => ret_b ((same_b _ _).trans (decide_eq_true (St.eq (morgan_and fa.rel.may fb.rel.may) (morgan_and fa.pre.may fb.pre.may)))) (sSame_any V26 U26 V29 U29 c26 d26 c29 d29 (notT (andT a b)) (orT (notT a) (notT b)) w (SetO.inn hr26 hO (fun x hx => by simp [hx]) (((fa).and (fb)).not) (by decide)) (SetO.inn hr29 hO (fun x hx => by simp [hx]) (((fa).not).or ((fb).not)) (by decide)) hr26.caps hr29.caps)) ?_
      refine h_take 18 (o29 ++ (o28 ++ (o27 ++ (o26 ++ (o25 ++ ([] : List Blk)))))) _ (.bool true) rfl (by kernel_rfl) (by kernel_rfl) (by kernel_rfl) (pq_seq pq_body) (by kernel_rfl) (fun _ _ => by kernel_rfl) ?_
      refine h_take 19 (o29 ++ (o28 ++ (o27 ++ (o26 ++ (o25 ++ ([] : List Blk)))))) _ (.bool true) rfl (by kernel_rfl) (by kernel_rfl) (by kernel_rfl) (pq_seq pq_body) (by kernel_rfl) (fun _ _ => by kernel_rfl) ?_
      refine h_load 20 (o29 ++ (o28 ++ (o27 ++ (o26 ++ (o25 ++ ([] : List Blk)))))) _ 0 ⟨b3, #[.slice V3 ((minusT a b).rel.length) c3, .slice U3 ((minusT a b).pre.length) d3], 24⟩ (off := 0) (.agg #[.slice V3 ((minusT a b).rel.length) c3, .slice U3 ((minusT a b).pre.length) d3]) rfl (by kernel_rfl) (by kernel_rfl) (by kernel_rfl) (pq_seq pq_body) (by kernel_rfl) rfl (by kernel_rfl) (by kernel_rfl) (by kernel_rfl) ?_
      refine h_one 21 (by kernel_rfl) ?_
      refine hs_call (o29 ++ (o28 ++ (o27 ++ (o26 ++ (o25 ++ ([] : List Blk)))))) _ (k := 14) (args := #[.agg #[.slice V3 ((minusT a b).rel.length) c3, .slice U3 ((minusT a b).pre.length) d3]]) (.bool true) rfl (by kernel_rfl) (fun _ => by kernel_rfl) (fun w hO => ret_b ((fa).minus (fb)).may (sMay_any V3 U3 c3 d3 (minusT a b) w (SetO.inn hr3 hO (fun x hx => by simp [hx]) ((fa).minus (fb)) (by decide)) hr3.caps)) ?_
      refine h_take 22 (o29 ++ (o28 ++ (o27 ++ (o26 ++ (o25 ++ ([] : List Blk)))))) _ (.bool true) rfl (by kernel_rfl) (by kernel_rfl) (by kernel_rfl) (pq_seq pq_body) (by kernel_rfl) (fun _ _ => by kernel_rfl) ?_
      refine h_take 23 (o29 ++ (o28 ++ (o27 ++ (o26 ++ (o25 ++ ([] : List Blk)))))) _ (.bool true) rfl (by kernel_rfl) (by kernel_rfl) (by kernel_rfl) (pq_seq pq_body) (by kernel_rfl) (fun _ _ => by kernel_rfl) ?_
      refine h_drop (o29 ++ (o28 ++ (o27 ++ (o26 ++ (o25 ++ ([] : List Blk)))))) ?_
      refine h_done (by kernel_rfl) ?_
      refine fin_seq ?_
      refine ok_ret ?_
      refine fin_ret (.bool true) Tryz.results8 (by kernel_rfl) ?_
      exact fun w hO => ⟨rfl, hO.below⟩
end Go.Proofs.YtgeccfdofmnphaaGreat
end

section
/-
  SetLaws: for every input the call returns true, and each argument reads afterwards as it read before. Conditions: none but the row's own.
-/
namespace Go.Proofs.YtgeccfdofmnphaaGreat.setLaws
open Go.ChangeShapes Go.WideShapes Go.ChangeAt Go.RowKit
open Go.ChangeMaps (open_string shut_string)
set_option linter.unusedVariables false

set_option maxRecDepth 100000 in
theorem contract (H : Type) (enc : TypeId × Value → H) (W : World) (base : Nat) (args : Array Value) (ds gs : List (DataW H)) (before : List MemPlace)
    (hval : ∀ (j : Nat) t v, Tryz.f8.params[j]? = some t → args[j]? = some v → Value.okWide Tryz.prog W .any base t v)
    (hW : DataW.Whole enc Tryz.prog Tryz.f8.params.toList Rows.setLawsSpec.vars false W args.toList ds gs before) (hL : laidMetH Tryz.prog Rows.setLawsRow.laid W) :
    Calls Tryz.prog 8 args W fun e W' => ∃ v, e = .returned v ∧ Rows.setLawsSpec.post enc Tryz.prog Tryz.f8 false true false false W args v W' := by
  have hW' := hW
  obtain ⟨p, q, hA0, hV, rfl, hfz, hnd⟩ := hW
  have hA : DataW.TrodAll enc Tryz.prog W 0 (fun _ => true) true Tryz.f8.params.toList args.toList ds p := hA0
  rw [Tryz.params8] at hA hval
  obtain ⟨v0, vs0, d0, ds0, p0, q0, hargs, rfl, rfl, h0, r0⟩ := trodAll_cons hA
  obtain ⟨v1, vs1, d1, ds1, p1, q1, rfl, rfl, rfl, h1, r1⟩ := trodAll_cons r0
  obtain ⟨rfl, rfl, rfl⟩ := trodAll_nil r1
  obtain rfl : args = #[v0, v1] := by cases args; simp_all
  obtain ⟨rfl, rfl⟩ := trodVars_none hV
  clear hA0
  obtain ⟨l, l_reads, l_len⟩ := open_nums (hval 0 36 v0 rfl rfl) h0
  obtain ⟨m, m_reads, m_len⟩ := open_nums (hval 1 36 v1 rfl rfl) h1
  refine (setLaws.law W v0 l l_reads l_len v1 m m_reads m_len ).mono fun e W' ⟨he, hb⟩ => ?_
  subst he
  exact ⟨_, rfl, law_end laidOut (fun t ht => by rw [Tryz.params8] at ht; simp at ht; subst ht; exact ⟨by kernel_rfl, of_decide_eq_true (by kernel_rfl)⟩) rfl rfl Tryz.underlying4 hW' (by rfl) hb⟩

noncomputable def laidWorld (os : Os) : World :=
  { World.holding Tryz.prog os ⟨#[], #[], []⟩ with heap := (World.holding Tryz.prog os ⟨#[], #[], []⟩).heap }
theorem laid_met (os : Os) : laidMet Tryz.prog Rows.setLawsRow.laid ((laidWorld os).forCall (fun _ _ => 0) ⟨#[], #[.slice none 0 0, .slice none 0 0], []⟩).memory :=
  laidMet_of_run' 8 (by kernel_rfl) (by kernel_rfl)
theorem reads (os : Os) {H : Type} (enc : TypeId × Value → H) : ∃ places, DataW.whole enc Tryz.prog ((laidWorld os).forCall (fun _ _ => 0) ⟨#[], #[.slice none 0 0, .slice none 0 0], []⟩).memory Tryz.f8.params.toList Rows.setLawsSpec.vars false (#[.slice none 0 0, .slice none 0 0] : Array Value).toList 8 = some ([.nil, .nil], [], places) :=
  ⟨[], by kernel_rfl⟩

set_option maxRecDepth 100000 in
theorem lifted (os : Os) (started : os.Started) (H : Type) (enc : TypeId × Value → H) (F : Stop.Interp) :
    ReturnsInHanded {} Tryz.checked os 8 .any ((OpenSpec.ofChange Rows.setLawsSpec).preRow enc Tryz.prog Tryz.f8 Rows.setLawsRow.domain false Rows.setLawsRow.laid) (((OpenSpec.ofChange Rows.setLawsSpec).at F).post enc Tryz.prog Tryz.f8 false true false false) := by
  obtain ⟨places, hx⟩ := reads os enc
  refine returnsInHanded_of_row (C := Tryz.checked) (s := OpenSpec.ofChange Rows.setLawsSpec) own started (by kernel_rfl) Tryz.func8
    (witness_row_at (enc := enc) (C := Tryz.checked) false (laidWorld os) #[.slice none 0 0, .slice none 0 0] rfl (by kernel_rfl) (by kernel_rfl) (by kernel_rfl)
      (OpenSpec.preRow_of_cond 8 hx (by kernel_rfl) (fun k hk => by cases hk) (by kernel_rfl) (laid_met os))) ?_
  intro W base args ds gs before hval hW _ _ _ hL _ _
  exact contract H enc W base args ds gs before hval hW hL

theorem said : Rows.SetLawsSaid :=
  OpenClaim.holds_of_cond 8 Tryz.f8 rfl rfl rfl rfl rfl rfl rfl ⟨rfl, rfl, rfl, rfl, rfl⟩ rfl rfl rfl rfl rfl (by kernel_rfl) Tryz.func8 (by kernel_rfl)
    (of_decide_eq_true (by kernel_rfl)) (by unfold Func.isWrapper; first | (rw [if_pos (by decide +kernel)]; kernel_rfl) | (rw [if_neg (by decide +kernel)]; exact ⟨rfl, rfl⟩))
    (fun os started H enc _ F => by rw [OpenClaim.pre_eq_preRow]; exact lifted os started H enc F)

#print axioms said
end Go.Proofs.YtgeccfdofmnphaaGreat.setLaws
end
