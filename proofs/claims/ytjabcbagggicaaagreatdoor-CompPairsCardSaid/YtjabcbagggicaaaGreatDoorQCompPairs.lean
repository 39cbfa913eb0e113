/-
  CompPairs: for every input the call returns true, and each argument reads afterwards as it read before. Conditions: none but the row's own, that the listed package-level variables read as the program's text lays them.
-/
import Derived.Test.YtjabcbagggicaaaGreatDoorCards
import Derived.Test.YtjabcbagggicaaaGreatDoorTie
import Derived.Test.YtjabcbagggicaaaGreatDoorMD5

section
/-
  CompPairs: for any list of numbers the law returns true, and nothing that was there is changed. No condition.
-/
namespace Go.Proofs.YtjabcbagggicaaaGreatDoor
open Go.RowKit
set_option maxRecDepth 100000
set_option linter.unusedVariables false
set_option linter.unusedSimpArgs false
set_option maxHeartbeats 2000000

set_option maxHeartbeats 8000000 in
theorem compPairs.law (W : World) (x : Value) (xl : List Int) (hxl : ReadsI W W.heap.size x xl) (lxl : xl.length ≤ maxLen) (ht : HasTab W) :
    Calls Tryz.prog 9 #[x] W fun e w' => e = .returned (.bool true) ∧ Below W.heap.size W w' := by
  obtain ⟨c, ec⟩ : ∃ q, q = genCo xl 0 := ⟨_, rfl⟩
  have mc : c.may = true := ec ▸ genCo_may xl 0
  have sc : c.short := ec ▸ genCo_short xl 0
  refine calls_ok (n := 60) Tryz.func9 rfl (by kernel_rfl) (by kernel_rfl) ?_
  refine ok_seq ?_
  refine ok_region ?_
  refine s_val (.bool false) (by kernel_rfl) (fun _ => by kernel_rfl) ?_
  refine s_nil ?_
  refine fin_seq ?_
  refine ok_seq ?_
  refine ok_region ?_
  refine s_val (x) (by kernel_rfl) (fun _ => by kernel_rfl) ?_
  refine s_call (k := 23) (args := #[x, .int .i64 0]) (coV c) (by kernel_rfl) (fun _ => by kernel_rfl) (fun w hO => ret_v (by rw [ec]) (genCo_any x xl 0 w ((hxl.below hO.below).more hO.below.size) (by unfold maxLen at lxl; omega) (by omega))) ?_
  refine s_alloc_at (.agg #[.int .i64 0, .int .i64 0, .int .i64 0, .int .i64 0, .int .i64 0, .string ⟨#[]⟩, .string ⟨#[]⟩]) (by kernel_rfl) rfl (by kernel_rfl) (fun b1 => ?_)
  refine s_store_at 0 ⟨b1, #[.int .i64 0, .int .i64 0, .int .i64 0, .int .i64 0, .int .i64 0, .string ⟨#[]⟩, .string ⟨#[]⟩], 26⟩ (off := 0) (coV c) (by kernel_rfl) rfl rfl (by kernel_rfl) (by kernel_rfl) (by kernel_rfl) (by kernel_rfl) (by kernel_rfl) ?_
  refine s_nil ?_
  refine fin_seq ?_
  refine ok_seq ?_
  refine ok_seq ?_
  refine ok_region ?_
  refine s_val (.pointer (some ⟨b1, 0, none⟩)) (by kernel_rfl) (fun _ => by kernel_rfl) ?_
  refine s_load 0 ⟨b1, (coV c).cells, 26⟩ (off := 0) (.int .i64 c.op) (by kernel_rfl) rfl (by kernel_rfl) (by kernel_rfl) (by kernel_rfl) ?_
  by_cases h1 : (c.op : Int) = 9
  · skip
    refine s_dec (p := (c.op : Int) = 9) true (by kernel_rfl) (fun _ => by kernel_rfl) (decide_eq_true (h1)) ?_
    refine s_nil ?_
    refine fin_seq ?_
    refine ok_true (by kernel_rfl) ?_
    refine ok_seq ?_
    refine ok_region ?_
    refine s_call (k := 11) (args := #[]) (.bool true) (by kernel_rfl) (fun _ => by kernel_rfl) (fun w hO => awake6_any w (ht.on hO.below)) ?_
    refine s_val (.bool true) (by kernel_rfl) (fun _ => by kernel_rfl) ?_
    refine s_nil ?_
    refine fin_seq ?_
    refine ok_ret ?_
    refine fin_seq_ret ?_
    refine fin_ret (.bool true) Tryz.results9 (by kernel_rfl) ?_
    exact fun w hO => ⟨rfl, hO.below⟩
  · skip
    refine s_dec (p := (c.op : Int) = 9) false (by kernel_rfl) (fun _ => by kernel_rfl) (decide_eq_false (h1)) ?_
    refine s_nil ?_
    refine fin_seq ?_
    refine ok_false (by kernel_rfl) ?_
    refine ok_skip ?_
    refine fin_seq ?_
    refine ok_seq ?_
    refine ok_anyh (by kernel_rfl) ?_
    refine h_load 0 [] _ 0 ⟨b1, (coV c).cells, 26⟩ (off := 0) (coV c) rfl (by kernel_rfl) (by kernel_rfl) (by kernel_rfl) (pq_seq pq_body) (by kernel_rfl) rfl (by kernel_rfl) (by kernel_rfl) (by kernel_rfl) ?_
    refine h_load 3 [] _ 0 ⟨b1, (coV c).cells, 26⟩ (off := 0) (coV c) rfl (by kernel_rfl) (by kernel_rfl) (by kernel_rfl) (pq_seq pq_body) (by kernel_rfl) rfl (by kernel_rfl) (by kernel_rfl) (by kernel_rfl) ?_
    refine h_one 1 (by kernel_rfl) ?_
    refine hs_call [] _ (k := 30) (args := #[coV c, .int .i64 3]) (coV (withO c 3)) rfl (by kernel_rfl) (fun _ => by kernel_rfl) (fun w _ => with6_any c 3 w) ?_
    refine h_one 2 (by kernel_rfl) ?_
    refine hl_callx _ (k := 19) (args := #[coV (withO c 3)]) (fun v' L' => ∃ ob', L' = ob' ++ ([] ++ ([⟨b1, (coV c).cells, 26⟩])) ∧ SlS v' ((withO c 3).region) ob') rfl (by kernel_rfl) (fun _ => by kernel_rfl) (fun w hO => (cRegion_any (withO c 3) w sc).mono fun e w' ⟨v', ob', k1, k2, k3⟩ => ⟨v', _, k1, ⟨ob', rfl, k2⟩, Own.joinN hO k3⟩) (fun v' L' ⟨ob', e, _⟩ w hO => by subst e; exact Own.sub [] (Own.sub ob' hO)) (fun v1 L2 hv2 => ?_)
    obtain ⟨o1, rfl, hr1⟩ := hv2
    obtain ⟨V1, c1, rfl⟩ := hr1.form
    refine h_cast (L' := (o1 ++ ([] : List Blk)) ++ ([⟨b1, (coV c).cells, 26⟩])) (List.append_assoc _ _ _).symm ?_
    refine h_one 4 (by kernel_rfl) ?_
    refine hs_call (o1 ++ ([] : List Blk)) _ (k := 30) (args := #[coV c, .int .i64 6]) (coV (withO c 6)) rfl (by kernel_rfl) (fun _ => by kernel_rfl) (fun w _ => with6_any c 6 w) ?_
    refine h_one 5 (by kernel_rfl) ?_
    refine hl_callx _ (k := 19) (args := #[coV (withO c 6)]) (fun v' L' => ∃ ob', L' = ob' ++ ((o1 ++ ([] : List Blk)) ++ ([⟨b1, (coV c).cells, 26⟩])) ∧ SlS v' ((withO c 6).region) ob') rfl (by kernel_rfl) (fun _ => by kernel_rfl) (fun w hO => (cRegion_any (withO c 6) w sc).mono fun e w' ⟨v', ob', k1, k2, k3⟩ => ⟨v', _, k1, ⟨ob', rfl, k2⟩, Own.joinN hO k3⟩) (fun v' L' ⟨ob', e, _⟩ w hO => by subst e; exact Own.sub (o1 ++ ([] : List Blk)) (Own.sub ob' hO)) (fun v2 L2 hv2 => ?_)
    obtain ⟨o2, rfl, hr2⟩ := hv2
    obtain ⟨V2, c2, rfl⟩ := hr2.form
    refine h_cast (L' := (o2 ++ (o1 ++ ([] : List Blk))) ++ ([⟨b1, (coV c).cells, 26⟩])) (List.append_assoc _ _ _).symm ?_
    refine h_one 6 (by kernel_rfl) ?_
    refine hl_callx _ (k := 31) (args := #[.slice V2 (((withO c 6).region).length) c2]) (fun v' L' => ∃ ob', L' = ob' ++ ((o2 ++ (o1 ++ ([] : List Blk))) ++ ([⟨b1, (coV c).cells, 26⟩])) ∧ SlS v' (notL ((withO c 6).region)) ob') rfl (by kernel_rfl) (fun _ => by kernel_rfl) (fun w hO => (rnot_any V2 c2 ((withO c 6).region) w (Sl.reads hr2 rfl hO (fun x hx => by simp [hx])) (Nat.le_trans ((region_rf (withO c 6))).len (by decide)) ((region_rf (withO c 6))).short).mono fun e w' ⟨v', ob', k1, k2, k3⟩ => ⟨v', _, k1, ⟨ob', rfl, by rw [if_pos ((region_rf (withO c 6))).may] at k2; exact k2⟩, Own.joinN hO k3⟩) (fun v' L' ⟨ob', e, _⟩ w hO => by subst e; exact Own.sub (o2 ++ (o1 ++ ([] : List Blk))) (Own.sub ob' hO)) (fun v3 L2 hv2 => ?_)
    obtain ⟨o3, rfl, hr3⟩ := hv2
    obtain ⟨V3, c3, rfl⟩ := hr3.form
    refine h_cast (L' := (o3 ++ (o2 ++ (o1 ++ ([] : List Blk)))) ++ ([⟨b1, (coV c).cells, 26⟩])) (List.append_assoc _ _ _).symm ?_
    refine h_one 7 (by kernel_rfl) ?_
    refine hs_call (o3 ++ (o2 ++ (o1 ++ ([] : List Blk)))) _ (k := 18) (args := #[.slice V1 (((withO c 3).region).length) c1, .slice V3 ((notL ((withO c 6).region)).length) c3]) (.bool true) rfl (by kernel_rfl) (fun _ => by kernel_rfl) (fun w hO => ret_b (decide_eq_true (pair_lt mc h1)) (rsame_any V1 V3 c1 c3 ((withO c 3).region) (notL ((withO c 6).region)) w (Sl.reads hr1 rfl hO (fun x hx => by simp [hx])) (Sl.reads hr3 rfl hO (fun x hx => by simp [hx])) (Nat.le_trans ((region_rf (withO c 3))).len (by decide)) (Nat.le_trans (((region_rf (withO c 6))).not).len (by decide)))) ?_
    refine h_take 8 (o3 ++ (o2 ++ (o1 ++ ([] : List Blk)))) _ (.bool true) rfl (by kernel_rfl) (by kernel_rfl) (by kernel_rfl) (pq_seq pq_body) (by kernel_rfl) (fun _ _ => by kernel_rfl) ?_
    refine h_drop (o3 ++ (o2 ++ (o1 ++ ([] : List Blk)))) ?_
    refine h_done (by kernel_rfl) ?_
    refine fin_seq ?_
    refine ok_seq ?_
    refine ok_anyh (by kernel_rfl) ?_
    refine h_load 0 [] _ 0 ⟨b1, (coV c).cells, 26⟩ (off := 0) (coV c) rfl (by kernel_rfl) (by kernel_rfl) (by kernel_rfl) (pq_seq pq_body) (by kernel_rfl) rfl (by kernel_rfl) (by kernel_rfl) (by kernel_rfl) ?_
    refine h_load 3 [] _ 0 ⟨b1, (coV c).cells, 26⟩ (off := 0) (coV c) rfl (by kernel_rfl) (by kernel_rfl) (by kernel_rfl) (pq_seq pq_body) (by kernel_rfl) rfl (by kernel_rfl) (by kernel_rfl) (by kernel_rfl) ?_
    refine h_one 1 (by kernel_rfl) ?_
    refine hs_call [] _ (k := 30) (args := #[coV c, .int .i64 5]) (coV (withO c 5)) rfl (by kernel_rfl) (fun _ => by kernel_rfl) (fun w _ => with6_any c 5 w) ?_
    refine h_one 2 (by kernel_rfl) ?_
    refine hl_callx _ (k := 19) (args := #[coV (withO c 5)]) (fun v' L' => ∃ ob', L' = ob' ++ ([] ++ ([⟨b1, (coV c).cells, 26⟩])) ∧ SlS v' ((withO c 5).region) ob') rfl (by kernel_rfl) (fun _ => by kernel_rfl) (fun w hO => (cRegion_any (withO c 5) w sc).mono fun e w' ⟨v', ob', k1, k2, k3⟩ => ⟨v', _, k1, ⟨ob', rfl, k2⟩, Own.joinN hO k3⟩) (fun v' L' ⟨ob', e, _⟩ w hO => by subst e; exact Own.sub [] (Own.sub ob' hO)) (fun v4 L2 hv2 => ?_)
    obtain ⟨o4, rfl, hr4⟩ := hv2
    obtain ⟨V4, c4, rfl⟩ := hr4.form
    refine h_cast (L' := (o4 ++ ([] : List Blk)) ++ ([⟨b1, (coV c).cells, 26⟩])) (List.append_assoc _ _ _).symm ?_
    refine h_one 4 (by kernel_rfl) ?_
    refine hs_call (o4 ++ ([] : List Blk)) _ (k := 30) (args := #[coV c, .int .i64 4]) (coV (withO c 4)) rfl (by kernel_rfl) (fun _ => by kernel_rfl) (fun w _ => with6_any c 4 w) ?_
    refine h_one 5 (by kernel_rfl) ?_
    refine hl_callx _ (k := 19) (args := #[coV (withO c 4)]) (fun v' L' => ∃ ob', L' = ob' ++ ((o4 ++ ([] : List Blk)) ++ ([⟨b1, (coV c).cells, 26⟩])) ∧ SlS v' ((withO c 4).region) ob') rfl (by kernel_rfl) (fun _ => by kernel_rfl) (fun w hO => (cRegion_any (withO c 4) w sc).mono fun e w' ⟨v', ob', k1, k2, k3⟩ => ⟨v', _, k1, ⟨ob', rfl, k2⟩, Own.joinN hO k3⟩) (fun v' L' ⟨ob', e, _⟩ w hO => by subst e; exact Own.sub (o4 ++ ([] : List Blk)) (Own.sub ob' hO)) (fun v5 L2 hv2 => ?_)
    obtain ⟨o5, rfl, hr5⟩ := hv2
    obtain ⟨V5, c5, rfl⟩ := hr5.form
    refine h_cast (L' := (o5 ++ (o4 ++ ([] : List Blk))) ++ ([⟨b1, (coV c).cells, 26⟩])) (List.append_assoc _ _ _).symm ?_
    refine h_one 6 (by kernel_rfl) ?_
    refine hl_callx _ (k := 31) (args := #[.slice V5 (((withO c 4).region).length) c5]) (fun v' L' => ∃ ob', L' = ob' ++ ((o5 ++ (o4 ++ ([] : List Blk))) ++ ([⟨b1, (coV c).cells, 26⟩])) ∧ SlS v' (notL ((withO c 4).region)) ob') rfl (by kernel_rfl) (fun _ => by kernel_rfl) (fun w hO => (rnot_any V5 c5 ((withO c 4).region) w (Sl.reads hr5 rfl hO (fun x hx => by simp [hx])) (Nat.le_trans ((region_rf (withO c 4))).len (by decide)) ((region_rf (withO c 4))).short).mono fun e w' ⟨v', ob', k1, k2, k3⟩ => ⟨v', _, k1, ⟨ob', rfl, by rw [if_pos ((region_rf (withO c 4))).may] at k2; exact k2⟩, Own.joinN hO k3⟩) (fun v' L' ⟨ob', e, _⟩ w hO => by subst e; exact Own.sub (o5 ++ (o4 ++ ([] : List Blk))) (Own.sub ob' hO)) (fun v6 L2 hv2 => ?_)
    obtain ⟨o6, rfl, hr6⟩ := hv2
    obtain ⟨V6, c6, rfl⟩ := hr6.form
    refine h_cast (L' := (o6 ++ (o5 ++ (o4 ++ ([] : List Blk)))) ++ ([⟨b1, (coV c).cells, 26⟩])) (List.append_assoc _ _ _).symm ?_
    refine h_one 7 (by kernel_rfl) ?_
    refine hs_call (o6 ++ (o5 ++ (o4 ++ ([] : List Blk)))) _ (k := 18) (args := #[.slice V4 (((withO c 5).region).length) c4, .slice V6 ((notL ((withO c 4).region)).length) c6]) (.bool true) rfl (by kernel_rfl) (fun _ => by kernel_rfl) (fun w hO => ret_b (decide_eq_true (pair_gt mc h1)) (rsame_any V4 V6 c4 c6 ((withO c 5).region) (notL ((withO c 4).region)) w (Sl.reads hr4 rfl hO (fun x hx => by simp [hx])) (Sl.reads hr6 rfl hO (fun x hx => by simp [hx])) (Nat.le_trans ((region_rf (withO c 5))).len (by decide)) (Nat.le_trans (((region_rf (withO c 4))).not).len (by decide)))) ?_
    refine h_take 8 (o6 ++ (o5 ++ (o4 ++ ([] : List Blk)))) _ (.bool true) rfl (by kernel_rfl) (by kernel_rfl) (by kernel_rfl) (pq_seq pq_body) (by kernel_rfl) (fun _ _ => by kernel_rfl) ?_
    refine h_drop (o6 ++ (o5 ++ (o4 ++ ([] : List Blk)))) ?_
    refine h_done (by kernel_rfl) ?_
    refine fin_seq ?_
    refine ok_seq ?_
    refine ok_anyh (by kernel_rfl) ?_
    refine h_load 0 [] _ 0 ⟨b1, (coV c).cells, 26⟩ (off := 0) (coV c) rfl (by kernel_rfl) (by kernel_rfl) (by kernel_rfl) (pq_seq pq_body) (by kernel_rfl) rfl (by kernel_rfl) (by kernel_rfl) (by kernel_rfl) ?_
    refine h_load 3 [] _ 0 ⟨b1, (coV c).cells, 26⟩ (off := 0) (coV c) rfl (by kernel_rfl) (by kernel_rfl) (by kernel_rfl) (pq_seq pq_body) (by kernel_rfl) rfl (by kernel_rfl) (by kernel_rfl) (by kernel_rfl) ?_
    refine h_one 1 (by kernel_rfl) ?_
    refine hs_call [] _ (k := 30) (args := #[coV c, .int .i64 2]) (coV (withO c 2)) rfl (by kernel_rfl) (fun _ => by kernel_rfl) (fun w _ => with6_any c 2 w) ?_
    refine h_one 2 (by kernel_rfl) ?_
    refine hl_callx _ (k := 19) (args := #[coV (withO c 2)]) (fun v' L' => ∃ ob', L' = ob' ++ ([] ++ ([⟨b1, (coV c).cells, 26⟩])) ∧ SlS v' ((withO c 2).region) ob') rfl (by kernel_rfl) (fun _ => by kernel_rfl) (fun w hO => (cRegion_any (withO c 2) w sc).mono fun e w' ⟨v', ob', k1, k2, k3⟩ => ⟨v', _, k1, ⟨ob', rfl, k2⟩, Own.joinN hO k3⟩) (fun v' L' ⟨ob', e, _⟩ w hO => by subst e; exact Own.sub [] (Own.sub ob' hO)) (fun v7 L2 hv2 => ?_)
    obtain ⟨o7, rfl, hr7⟩ := hv2
    obtain ⟨V7, c7, rfl⟩ := hr7.form
    refine h_cast (L' := (o7 ++ ([] : List Blk)) ++ ([⟨b1, (coV c).cells, 26⟩])) (List.append_assoc _ _ _).symm ?_
    refine h_one 4 (by kernel_rfl) ?_
    refine hs_call (o7 ++ ([] : List Blk)) _ (k := 30) (args := #[coV c, .int .i64 1]) (coV (withO c 1)) rfl (by kernel_rfl) (fun _ => by kernel_rfl) (fun w _ => with6_any c 1 w) ?_
    refine h_one 5 (by kernel_rfl) ?_
    refine hl_callx _ (k := 19) (args := #[coV (withO c 1)]) (fun v' L' => ∃ ob', L' = ob' ++ ((o7 ++ ([] : List Blk)) ++ ([⟨b1, (coV c).cells, 26⟩])) ∧ SlS v' ((withO c 1).region) ob') rfl (by kernel_rfl) (fun _ => by kernel_rfl) (fun w hO => (cRegion_any (withO c 1) w sc).mono fun e w' ⟨v', ob', k1, k2, k3⟩ => ⟨v', _, k1, ⟨ob', rfl, k2⟩, Own.joinN hO k3⟩) (fun v' L' ⟨ob', e, _⟩ w hO => by subst e; exact Own.sub (o7 ++ ([] : List Blk)) (Own.sub ob' hO)) (fun v8 L2 hv2 => ?_)
    obtain ⟨o8, rfl, hr8⟩ := hv2
    obtain ⟨V8, c8, rfl⟩ := hr8.form
    refine h_cast (L' := (o8 ++ (o7 ++ ([] : List Blk))) ++ ([⟨b1, (coV c).cells, 26⟩])) (List.append_assoc _ _ _).symm ?_
    refine h_one 6 (by kernel_rfl) ?_
    refine hl_callx _ (k := 31) (args := #[.slice V8 (((withO c 1).region).length) c8]) (fun v' L' => ∃ ob', L' = ob' ++ ((o8 ++ (o7 ++ ([] : List Blk))) ++ ([⟨b1, (coV c).cells, 26⟩])) ∧ SlS v' (notL ((withO c 1).region)) ob') rfl (by kernel_rfl) (fun _ => by kernel_rfl) (fun w hO => (rnot_any V8 c8 ((withO c 1).region) w (Sl.reads hr8 rfl hO (fun x hx => by simp [hx])) (Nat.le_trans ((region_rf (withO c 1))).len (by decide)) ((region_rf (withO c 1))).short).mono fun e w' ⟨v', ob', k1, k2, k3⟩ => ⟨v', _, k1, ⟨ob', rfl, by rw [if_pos ((region_rf (withO c 1))).may] at k2; exact k2⟩, Own.joinN hO k3⟩) (fun v' L' ⟨ob', e, _⟩ w hO => by subst e; exact Own.sub (o8 ++ (o7 ++ ([] : List Blk))) (Own.sub ob' hO)) (fun v9 L2 hv2 => ?_)
    obtain ⟨o9, rfl, hr9⟩ := hv2
    obtain ⟨V9, c9, rfl⟩ := hr9.form
    refine h_cast (L' := (o9 ++ (o8 ++ (o7 ++ ([] : List Blk)))) ++ ([⟨b1, (coV c).cells, 26⟩])) (List.append_assoc _ _ _).symm ?_
    refine h_one 7 (by kernel_rfl) ?_
    refine hs_call (o9 ++ (o8 ++ (o7 ++ ([] : List Blk)))) _ (k := 18) (args := #[.slice V7 (((withO c 2).region).length) c7, .slice V9 ((notL ((withO c 1).region)).length) c9]) (.bool true) rfl (by kernel_rfl) (fun _ => by kernel_rfl) (fun w hO => ret_b (decide_eq_true (pair_ne mc h1)) (rsame_any V7 V9 c7 c9 ((withO c 2).region) (notL ((withO c 1).region)) w (Sl.reads hr7 rfl hO (fun x hx => by simp [hx])) (Sl.reads hr9 rfl hO (fun x hx => by simp [hx])) (Nat.le_trans ((region_rf (withO c 2))).len (by decide)) (Nat.le_trans (((region_rf (withO c 1))).not).len (by decide)))) ?_
    refine h_take 8 (o9 ++ (o8 ++ (o7 ++ ([] : List Blk)))) _ (.bool true) rfl (by kernel_rfl) (by kernel_rfl) (by kernel_rfl) (pq_seq pq_body) (by kernel_rfl) (fun _ _ => by kernel_rfl) ?_
    refine h_drop (o9 ++ (o8 ++ (o7 ++ ([] : List Blk)))) ?_
    refine h_done (by kernel_rfl) ?_
    refine fin_seq ?_
    refine ok_seq ?_
    refine ok_anyh (by kernel_rfl) ?_
    refine h_one 0 (by kernel_rfl) ?_
    refine hs_call [] _ (k := 11) (args := #[]) (.bool true) rfl (by kernel_rfl) (fun _ => by kernel_rfl) (fun w hO => awake6_any w (ht.on hO.below)) ?_
    refine h_take 1 [] _ (.bool true) rfl (by kernel_rfl) (by kernel_rfl) (by kernel_rfl) (pq_seq pq_body) (by kernel_rfl) (fun _ _ => by kernel_rfl) ?_
    refine h_take 2 [] _ (.bool true) rfl (by kernel_rfl) (by kernel_rfl) (by kernel_rfl) (pq_seq pq_body) (by kernel_rfl) (fun _ _ => by kernel_rfl) ?_
    refine h_take 3 [] _ (.bool true) rfl (by kernel_rfl) (by kernel_rfl) (by kernel_rfl) (pq_seq pq_body) (by kernel_rfl) (fun _ _ => by kernel_rfl) ?_
    refine h_take 4 [] _ (.bool true) rfl (by kernel_rfl) (by kernel_rfl) (by kernel_rfl) (pq_seq pq_body) (by kernel_rfl) (fun _ _ => by kernel_rfl) ?_
    refine h_take 5 [] _ (.bool true) rfl (by kernel_rfl) (by kernel_rfl) (by kernel_rfl) (pq_seq pq_body) (by kernel_rfl) (fun _ _ => by kernel_rfl) ?_
    refine h_take 6 [] _ (.bool true) rfl (by kernel_rfl) (by kernel_rfl) (by kernel_rfl) (pq_seq pq_body) (by kernel_rfl) (fun _ _ => by kernel_rfl) ?_
    refine h_take 7 [] _ (.bool true) rfl (by kernel_rfl) (by kernel_rfl) (by kernel_rfl) (pq_seq pq_body) (by kernel_rfl) (fun _ _ => by kernel_rfl) ?_
    refine h_take 8 [] _ (.bool true) rfl (by kernel_rfl) (by kernel_rfl) (by kernel_rfl) (pq_seq pq_body) (by kernel_rfl) (fun _ _ => by kernel_rfl) ?_
    refine h_take 9 [] _ (.bool true) rfl (by kernel_rfl) (by kernel_rfl) (by kernel_rfl) (pq_seq pq_body) (by kernel_rfl) (fun _ _ => by kernel_rfl) ?_
    refine h_take 10 [] _ (.bool true) rfl (by kernel_rfl) (by kernel_rfl) (by kernel_rfl) (pq_seq pq_body) (by kernel_rfl) (fun _ _ => by kernel_rfl) ?_
    refine h_load 11 [] _ 0 ⟨b1, (coV c).cells, 26⟩ (off := 0) (coV c) rfl (by kernel_rfl) (by kernel_rfl) (by kernel_rfl) (pq_seq pq_body) (by kernel_rfl) rfl (by kernel_rfl) (by kernel_rfl) (by kernel_rfl) ?_
    refine h_load 14 [] _ 0 ⟨b1, (coV c).cells, 26⟩ (off := 0) (coV c) rfl (by kernel_rfl) (by kernel_rfl) (by kernel_rfl) (pq_seq pq_body) (by kernel_rfl) rfl (by kernel_rfl) (by kernel_rfl) (by kernel_rfl) ?_
    refine h_load 17 [] _ 0 ⟨b1, (coV c).cells, 26⟩ (off := 0) (coV c) rfl (by kernel_rfl) (by kernel_rfl) (by kernel_rfl) (pq_seq pq_body) (by kernel_rfl) rfl (by kernel_rfl) (by kernel_rfl) (by kernel_rfl) ?_
    refine h_one 12 (by kernel_rfl) ?_
    refine hs_call [] _ (k := 30) (args := #[coV c, .int .i64 1]) (coV (withO c 1)) rfl (by kernel_rfl) (fun _ => by kernel_rfl) (fun w _ => with6_any c 1 w) ?_
    refine h_one 13 (by kernel_rfl) ?_
    refine hl_callx _ (k := 19) (args := #[coV (withO c 1)]) (fun v' L' => ∃ ob', L' = ob' ++ ([] ++ ([⟨b1, (coV c).cells, 26⟩])) ∧ SlS v' ((withO c 1).region) ob') rfl (by kernel_rfl) (fun _ => by kernel_rfl) (fun w hO => (cRegion_any (withO c 1) w sc).mono fun e w' ⟨v', ob', k1, k2, k3⟩ => ⟨v', _, k1, ⟨ob', rfl, k2⟩, Own.joinN hO k3⟩) (fun v' L' ⟨ob', e, _⟩ w hO => by subst e; exact Own.sub [] (Own.sub ob' hO)) (fun v10 L2 hv2 => ?_)
    obtain ⟨o10, rfl, hr10⟩ := hv2
    obtain ⟨V10, c10, rfl⟩ := hr10.form
    refine h_cast (L' := (o10 ++ ([] : List Blk)) ++ ([⟨b1, (coV c).cells, 26⟩])) (List.append_assoc _ _ _).symm ?_
    refine h_one 15 (by kernel_rfl) ?_
    refine hs_call (o10 ++ ([] : List Blk)) _ (k := 30) (args := #[coV c, .int .i64 6]) (coV (withO c 6)) rfl (by kernel_rfl) (fun _ => by kernel_rfl) (fun w _ => with6_any c 6 w) ?_
    refine h_one 16 (by kernel_rfl) ?_
    refine hl_callx _ (k := 19) (args := #[coV (withO c 6)]) (fun v' L' => ∃ ob', L' = ob' ++ ((o10 ++ ([] : List Blk)) ++ ([⟨b1, (coV c).cells, 26⟩])) ∧ SlS v' ((withO c 6).region) ob') rfl (by kernel_rfl) (fun _ => by kernel_rfl) (fun w hO => (cRegion_any (withO c 6) w sc).mono fun e w' ⟨v', ob', k1, k2, k3⟩ => ⟨v', _, k1, ⟨ob', rfl, k2⟩, Own.joinN hO k3⟩) (fun v' L' ⟨ob', e, _⟩ w hO => by subst e; exact Own.sub (o10 ++ ([] : List Blk)) (Own.sub ob' hO)) (fun v11 L2 hv2 => ?_)
    obtain ⟨o11, rfl, hr11⟩ := hv2
    obtain ⟨V11, c11, rfl⟩ := hr11.form
    refine h_cast (L' := (o11 ++ (o10 ++ ([] : List Blk))) ++ ([⟨b1, (coV c).cells, 26⟩])) (List.append_assoc _ _ _).symm ?_
    refine h_one 18 (by kernel_rfl) ?_
    refine hs_call (o11 ++ (o10 ++ ([] : List Blk))) _ (k := 30) (args := #[coV c, .int .i64 4]) (coV (withO c 4)) rfl (by kernel_rfl) (fun _ => by kernel_rfl) (fun w _ => with6_any c 4 w) ?_
    refine h_one 19 (by kernel_rfl) ?_
    refine hl_callx _ (k := 19) (args := #[coV (withO c 4)]) (fun v' L' => ∃ ob', L' = ob' ++ ((o11 ++ (o10 ++ ([] : List Blk))) ++ ([⟨b1, (coV c).cells, 26⟩])) ∧ SlS v' ((withO c 4).region) ob') rfl (by kernel_rfl) (fun _ => by kernel_rfl) (fun w hO => (cRegion_any (withO c 4) w sc).mono fun e w' ⟨v', ob', k1, k2, k3⟩ => ⟨v', _, k1, ⟨ob', rfl, k2⟩, Own.joinN hO k3⟩) (fun v' L' ⟨ob', e, _⟩ w hO => by subst e; exact Own.sub (o11 ++ (o10 ++ ([] : List Blk))) (Own.sub ob' hO)) (fun v12 L2 hv2 => ?_)
    obtain ⟨o12, rfl, hr12⟩ := hv2
    obtain ⟨V12, c12, rfl⟩ := hr12.form
    refine h_cast (L' := (o12 ++ (o11 ++ (o10 ++ ([] : List Blk)))) ++ ([⟨b1, (coV c).cells, 26⟩])) (List.append_assoc _ _ _).symm ?_
    refine h_one 20 (by kernel_rfl) ?_
    refine hl_callx _ (k := 32) (args := #[.slice V11 (((withO c 6).region).length) c11, .slice V12 (((withO c 4).region).length) c12]) (fun v' L' => ∃ ob', L' = ob' ++ ((o12 ++ (o11 ++ (o10 ++ ([] : List Blk)))) ++ ([⟨b1, (coV c).cells, 26⟩])) ∧ SlS v' (andL ((withO c 6).region) ((withO c 4).region)) ob') rfl (by kernel_rfl) (fun _ => by kernel_rfl) (fun w hO => (rand_any V11 V12 c11 c12 ((withO c 6).region) ((withO c 4).region) w (Sl.reads hr11 rfl hO (fun x hx => by simp [hx])) (Sl.reads hr12 rfl hO (fun x hx => by simp [hx])) (Nat.le_trans ((region_rf (withO c 6))).len (by decide)) (Nat.le_trans ((region_rf (withO c 4))).len (by decide)) ((region_rf (withO c 6))).short ((region_rf (withO c 4))).short).mono fun e w' ⟨v', ob', k1, k2, k3⟩ => ⟨v', _, k1, ⟨ob', rfl, by rw [if_pos (by rw [((region_rf (withO c 6))).may, ((region_rf (withO c 4))).may]; rfl)] at k2; exact k2⟩, Own.joinN hO k3⟩) (fun v' L' ⟨ob', e, _⟩ w hO => by subst e; exact Own.sub (o12 ++ (o11 ++ (o10 ++ ([] : List Blk)))) (Own.sub ob' hO)) (fun v13 L2 hv2 => ?_)
    obtain ⟨o13, rfl, hr13⟩ := hv2
    obtain ⟨V13, c13, rfl⟩ := hr13.form
    refine h_cast (L' := (o13 ++ (o12 ++ (o11 ++ (o10 ++ ([] : List Blk))))) ++ ([⟨b1, (coV c).cells, 26⟩])) (List.append_assoc _ _ _).symm ?_
    refine h_one 21 (by kernel_rfl) ?_
    refine hs_call (o13 ++ (o12 ++ (o11 ++ (o10 ++ ([] : List Blk))))) _ (k := 18) (args := #[.slice V10 (((withO c 1).region).length) c10, .slice V13 ((andL ((withO c 6).region) ((withO c 4).region)).length) c13]) (.bool true) rfl (by kernel_rfl) (fun _ => by kernel_rfl) (fun w hO => ret_b (decide_eq_true (pair_eq mc h1)) (rsame_any V10 V13 c10 c13 ((withO c 1).region) (andL ((withO c 6).region) ((withO c 4).region)) w (Sl.reads hr10 rfl hO (fun x hx => by simp [hx])) (Sl.reads hr13 rfl hO (fun x hx => by simp [hx])) (Nat.le_trans ((region_rf (withO c 1))).len (by decide)) (Nat.le_trans (((region_rf (withO c 6))).and ((region_rf (withO c 4)))).len (by decide)))) ?_
    refine h_take 22 (o13 ++ (o12 ++ (o11 ++ (o10 ++ ([] : List Blk))))) _ (.bool true) rfl (by kernel_rfl) (by kernel_rfl) (by kernel_rfl) (pq_seq pq_body) (by kernel_rfl) (fun _ _ => by kernel_rfl) ?_
    refine h_take 23 (o13 ++ (o12 ++ (o11 ++ (o10 ++ ([] : List Blk))))) _ (.bool true) rfl (by kernel_rfl) (by kernel_rfl) (by kernel_rfl) (pq_seq pq_body) (by kernel_rfl) (fun _ _ => by kernel_rfl) ?_
    refine h_drop (o13 ++ (o12 ++ (o11 ++ (o10 ++ ([] : List Blk))))) ?_
    refine h_done (by kernel_rfl) ?_
    refine fin_seq ?_
    refine ok_ret ?_
    refine fin_ret (.bool true) Tryz.results9 (by kernel_rfl) ?_
    exact fun w hO => ⟨rfl, hO.below⟩
end Go.Proofs.YtjabcbagggicaaaGreatDoor
end

section
/-
  CompPairs: for every input the call returns true, and each argument reads afterwards as it read before. Conditions: none but the row's own, that the listed package-level variables read as the program's text lays them.
-/
namespace Go.Proofs.YtjabcbagggicaaaGreatDoor.compPairs
open Go.ChangeShapes Go.WideShapes Go.ChangeAt Go.RowKit
open Go.ChangeMaps (open_string shut_string)
set_option linter.unusedVariables false

set_option maxRecDepth 100000 in
theorem contract (H : Type) (enc : TypeId × Value → H) (W : World) (base : Nat) (args : Array Value) (ds gs : List (DataW H)) (before : List MemPlace)
    (hval : ∀ (j : Nat) t v, Tryz.f9.params[j]? = some t → args[j]? = some v → Value.okWide Tryz.prog W .any base t v)
    (hW : DataW.Whole enc Tryz.prog Tryz.f9.params.toList Rows.compPairsSpec.vars false W args.toList ds gs before) (hL : laidMetH Tryz.prog Rows.compPairsRow.laid W) :
    Calls Tryz.prog 9 args W fun e W' => ∃ v, e = .returned v ∧ Rows.compPairsSpec.post enc Tryz.prog Tryz.f9 false true false false W args v W' := by
  have ht : HasTab W := hasTab_of hL (by rfl)
  have hW' := hW
  obtain ⟨p, q, hA0, hV, rfl, hfz, hnd⟩ := hW
  have hA : DataW.TrodAll enc Tryz.prog W 0 (fun _ => true) true Tryz.f9.params.toList args.toList ds p := hA0
  rw [Tryz.params9] at hA hval
  obtain ⟨v0, vs0, d0, ds0, p0, q0, hargs, rfl, rfl, h0, r0⟩ := trodAll_cons hA
  obtain ⟨rfl, rfl, rfl⟩ := trodAll_nil r0
  obtain rfl : args = #[v0] := by cases args; simp_all
  obtain ⟨rfl, rfl⟩ := trodVars_none hV
  clear hA0
  obtain ⟨l, l_reads, l_len⟩ := open_nums (hval 0 36 v0 rfl rfl) h0
  refine (compPairs.law W v0 l l_reads l_len ht).mono fun e W' ⟨he, hb⟩ => ?_
  subst he
  exact ⟨_, rfl, law_end laidOut (fun t ht => by rw [Tryz.params9] at ht; simp at ht; subst ht; exact ⟨by kernel_rfl, of_decide_eq_true (by kernel_rfl)⟩) rfl rfl Tryz.underlying4 hW' (by rfl) hb⟩

noncomputable def laidWorld (os : Os) : World :=
  { World.holding Tryz.prog os ⟨#[], #[], []⟩ with heap := layAt (layAt (layAt (layAt (layAt ((World.holding Tryz.prog os ⟨#[], #[], []⟩).heap) 4 Rows.laid_math_bits_deBruijn32tab) 5 Rows.laid_math_bits_deBruijn64tab) 3 Rows.laid_internal_strconv_uint64pow10) 2 Rows.laid_unicode_utf8_acceptRanges) 1 Rows.laid_unicode_utf8_first }
theorem laid_met (os : Os) : laidMet Tryz.prog Rows.compPairsRow.laid ((laidWorld os).forCall (fun _ _ => 0) ⟨#[], #[.slice none 0 0], []⟩).memory :=
  laidMet_of_run' 8 (by kernel_rfl) (by kernel_rfl)
theorem reads (os : Os) {H : Type} (enc : TypeId × Value → H) : ∃ places, DataW.whole enc Tryz.prog ((laidWorld os).forCall (fun _ _ => 0) ⟨#[], #[.slice none 0 0], []⟩).memory Tryz.f9.params.toList Rows.compPairsSpec.vars false (#[.slice none 0 0] : Array Value).toList 8 = some ([.nil], [], places) :=
  ⟨[], by kernel_rfl⟩

set_option maxRecDepth 100000 in
theorem lifted (os : Os) (started : os.Started) (H : Type) (enc : TypeId × Value → H) (F : Stop.Interp) :
    ReturnsInHanded {} Tryz.checked os 9 .any ((OpenSpec.ofChange Rows.compPairsSpec).preRow enc Tryz.prog Tryz.f9 Rows.compPairsRow.domain false Rows.compPairsRow.laid) (((OpenSpec.ofChange Rows.compPairsSpec).at F).post enc Tryz.prog Tryz.f9 false true false false) := by
  obtain ⟨places, hx⟩ := reads os enc
  refine returnsInHanded_of_row (C := Tryz.checked) (s := OpenSpec.ofChange Rows.compPairsSpec) own started (by kernel_rfl) Tryz.func9
    (witness_row_at (enc := enc) (C := Tryz.checked) false (laidWorld os) #[.slice none 0 0] rfl (by kernel_rfl) (by kernel_rfl) (by kernel_rfl)
      (OpenSpec.preRow_of_cond 8 hx (by kernel_rfl) (fun k hk => by cases hk) (by kernel_rfl) (laid_met os))) ?_
  intro W base args ds gs before hval hW _ _ _ hL _ _
  exact contract H enc W base args ds gs before hval hW hL

theorem said : Rows.CompPairsSaid :=
  OpenClaim.holds_of_cond 9 Tryz.f9 rfl rfl rfl rfl rfl rfl rfl ⟨rfl, rfl, rfl, rfl, rfl⟩ rfl rfl rfl rfl rfl (by kernel_rfl) Tryz.func9 (by kernel_rfl)
    (of_decide_eq_true (by kernel_rfl)) (by unfold Func.isWrapper; first | (rw [if_pos (by decide +kernel)]; kernel_rfl) | (rw [if_neg (by decide +kernel)]; exact ⟨rfl, rfl⟩))
    (fun os started H enc _ F => by rw [OpenClaim.pre_eq_preRow]; exact lifted os started H enc F)

theorem plain (f : FuncId) (fn : Func) (hf : Tryz.pinned.checked.prog.funcNamed "linchpin/linchpinlaw6.CompPairs" = some f) (hfn : Tryz.pinned.checked.prog.funcs[f]? = some fn) :
    false = Tryz.pinned.checked.prog.looks [] ∧ ∀ (j : Nat) t, fn.params[j]? = some t → Tryz.pinned.checked.prog.wantsStandIn t = false := by
  obtain rfl : f = 9 := Option.some.inj ((show Tryz.prog.funcNamed "linchpin/linchpinlaw6.CompPairs" = some 9 by kernel_rfl).symm.trans hf) |>.symm
  obtain rfl : fn = Tryz.f9 := (Option.some.inj (Tryz.func9.symm.trans hfn)).symm
  refine ⟨by kernel_rfl, fun j t ht => ?_⟩
  rw [Tryz.params9] at ht
  have hm := Array.mem_of_getElem? ht
  simp at hm
  subst hm
  exact (show Tryz.prog.wantsStandIn 36 = false by kernel_rfl)

theorem card : Rows.CompPairsCardSaid :=
  Claim7.holds_tied_plain_at .later [] _ _ _ _ said (fun _ h => by cases h) (by kernel_rfl) (fun _ h => by cases h) compPairs_row_tie rfl ⟨rfl, rfl⟩ (by kernel_rfl) rfl plain (by kernel_rfl)

#print axioms card
end Go.Proofs.YtjabcbagggicaaaGreatDoor.compPairs
end
