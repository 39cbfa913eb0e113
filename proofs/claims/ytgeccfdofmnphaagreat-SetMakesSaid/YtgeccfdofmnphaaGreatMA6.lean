/-
  What the statements' proofs lean on, part 6: each part begins with a remark that says what it proves and on what conditions.
-/
import Derived.Below
import Derived.ChangeSame
import Derived.ProofKit
import Derived.OpenShut
import Derived.LaidSub
import Derived.Carry
import Derived.SliceStrings
import Derived.Lib.LaidTab
import Derived.Deep.DeepHandedRow
import Derived.ChangeSlices
import Derived.Test.YtgeccfdofmnphaaGreatMA5

section
/-
  linchpinlaw5's awake: it returns true; nothing that was there is changed.
-/
namespace Go.Proofs.YtgeccfdofmnphaaGreat
open Go.RowKit
set_option maxRecDepth 100000
set_option linter.unusedVariables false
set_option linter.unusedSimpArgs false
set_option maxHeartbeats 2000000

def aV5 : Ver := ⟨1, 0, 0, [], []⟩
def aP5 : Ver := ⟨1, 0, 0, [97], []⟩
theorem aV5_may : aV5.may = true := by decide +kernel
theorem aP5_may : aP5.may = true := by decide +kernel
theorem aV5_short : aV5.short := ⟨by decide, by decide⟩
theorem aP5_short : aP5.short := ⟨by decide, by decide⟩
theorem aC00 : cmpR aV5 aV5 = 0 := by decide +kernel
theorem aC11 : cmpR aP5 aP5 = 0 := by decide +kernel
theorem aC01 : ¬ cmpR aV5 aP5 = 0 := by decide +kernel
theorem aH00 : setHas (exactT aV5) aV5 = true := (exact_has aV5_may aV5_may).trans (decide_eq_true aC00)
theorem aH01 : setHas (exactT aV5) aP5 = false := (exact_has aV5_may aP5_may).trans (decide_eq_false aC01)
theorem aH11 : setHas (exactT aP5) aP5 = true := (exact_has aP5_may aP5_may).trans (decide_eq_true aC11)
theorem aA01 : andT (exactT aV5) (exactT aP5) = noneT := (exact_apart aV5_may aP5_may).2 aC01
theorem awake5_any (W : World) : Calls Tryz.prog 11 #[] W fun e w' => e = .returned (.bool true) ∧ Below W.heap.size W w' := by
  refine calls_ok (n := 39) Tryz.func11 rfl (by kernel_rfl) (by kernel_rfl) ?_
  refine ok_seq ?_
  refine ok_region ?_
  refine s_val (.bool false) (by kernel_rfl) (fun _ => by kernel_rfl) ?_
  refine s_nil ?_
  refine fin_seq ?_
  refine ok_seq ?_
  refine ok_region ?_
  refine s_val (.agg #[.int .i64 1, .int .i64 0, .int .i64 0, .string ⟨#[]⟩, .string ⟨#[]⟩]) (by kernel_rfl) (fun _ => by kernel_rfl) ?_
  refine s_val (.agg #[.int .i64 1, .int .i64 0, .int .i64 0, .string ⟨#[97]⟩, .string ⟨#[]⟩]) (by kernel_rfl) (fun _ => by kernel_rfl) ?_
  refine s_alloc_at (.agg #[.int .i64 0, .int .i64 0, .int .i64 0, .string ⟨#[]⟩, .string ⟨#[]⟩]) (by kernel_rfl) rfl (by kernel_rfl) (fun b1 => ?_)
  refine s_alloc_at (.agg #[.int .i64 0, .int .i64 0, .int .i64 0, .string ⟨#[]⟩, .string ⟨#[]⟩]) (by kernel_rfl) rfl (by kernel_rfl) (fun b2 => ?_)
  refine s_store_at 1 ⟨b1, #[.int .i64 0, .int .i64 0, .int .i64 0, .string ⟨#[]⟩, .string ⟨#[]⟩], 26⟩ (off := 0) (.agg #[.int .i64 1, .int .i64 0, .int .i64 0, .string ⟨#[]⟩, .string ⟨#[]⟩]) (by kernel_rfl) rfl rfl (by kernel_rfl) (by kernel_rfl) (by kernel_rfl) (by kernel_rfl) (by kernel_rfl) ?_
  refine s_store_at 0 ⟨b2, #[.int .i64 0, .int .i64 0, .int .i64 0, .string ⟨#[]⟩, .string ⟨#[]⟩], 26⟩ (off := 0) (.agg #[.int .i64 1, .int .i64 0, .int .i64 0, .string ⟨#[97]⟩, .string ⟨#[]⟩]) (by kernel_rfl) rfl rfl (by kernel_rfl) (by kernel_rfl) (by kernel_rfl) (by kernel_rfl) (by kernel_rfl) ?_
  refine s_nil ?_
  refine fin_seq ?_
  refine ok_seq ?_
  refine ok_region ?_
  refine s_load 1 ⟨b1, #[.int .i64 1, .int .i64 0, .int .i64 0, .string ⟨#[]⟩, .string ⟨#[]⟩], 26⟩ (off := 0) (.agg #[.int .i64 1, .int .i64 0, .int .i64 0, .string ⟨#[]⟩, .string ⟨#[]⟩]) (by kernel_rfl) rfl (by kernel_rfl) (by kernel_rfl) (by kernel_rfl) ?_
  refine s_callo (k := 19) (args := #[.agg #[.int .i64 1, .int .i64 0, .int .i64 0, .string ⟨#[]⟩, .string ⟨#[]⟩]]) (fun v' L' => ∃ ob', L' = ob' ++ ([⟨b2, #[.int .i64 1, .int .i64 0, .int .i64 0, .string ⟨#[97]⟩, .string ⟨#[]⟩], 26⟩, ⟨b1, #[.int .i64 1, .int .i64 0, .int .i64 0, .string ⟨#[]⟩, .string ⟨#[]⟩], 26⟩]) ∧ SetO v' (exactT aV5) ob') (by kernel_rfl) (fun _ => by kernel_rfl) (fun w hO => (sExact_any aV5 w aV5_short).mono fun e w' ⟨v', ob', k1, k2, k3⟩ => ⟨v', _, k1, ⟨ob', rfl, k2⟩, Own.joinN hO k3⟩) (fun v1 L1 hv1 => ?_)
  obtain ⟨o1, rfl, hr1⟩ := hv1
  obtain ⟨V1, U1, c1, d1, rfl⟩ := hr1.form
  refine s_alloc_at (.agg #[.slice none 0 0, .slice none 0 0]) (by kernel_rfl) rfl (by kernel_rfl) (fun b3 => ?_)
  refine s_store_at 0 ⟨b3, #[.slice none 0 0, .slice none 0 0], 24⟩ (off := 0) (.agg #[.slice V1 ((exactT aV5).rel.length) c1, .slice U1 ((exactT aV5).pre.length) d1]) (by kernel_rfl) rfl rfl (by kernel_rfl) (by kernel_rfl) (by kernel_rfl) (by kernel_rfl) (by kernel_rfl) ?_
  refine s_nil ?_
  refine fin_seq ?_
  refine ok_seq ?_
  refine ok_anyh (by kernel_rfl) ?_
  refine h_load 0 [] _ 0 ⟨b3, #[.slice V1 ((exactT aV5).rel.length) c1, .slice U1 ((exactT aV5).pre.length) d1], 24⟩ (off := 0) (.agg #[.slice V1 ((exactT aV5).rel.length) c1, .slice U1 ((exactT aV5).pre.length) d1]) rfl (by kernel_rfl) (by kernel_rfl) (by kernel_rfl) (pq_seq pq_body) (by kernel_rfl) rfl (by kernel_rfl) (by kernel_rfl) (by kernel_rfl) ?_
  refine h_loadm 1 [] _ ⟨b1, #[.int .i64 1, .int .i64 0, .int .i64 0, .string ⟨#[]⟩, .string ⟨#[]⟩], 26⟩ (off := 0) (.agg #[.int .i64 1, .int .i64 0, .int .i64 0, .string ⟨#[]⟩, .string ⟨#[]⟩]) rfl (by kernel_rfl) (by kernel_rfl) (by kernel_rfl) (pq_seq pq_body) (by kernel_rfl) rfl (by simp) (by kernel_rfl) (by kernel_rfl) ?_
  refine h_one 2 (by kernel_rfl) ?_
  refine hs_call [] _ (k := 16) (args := #[.agg #[.slice V1 ((exactT aV5).rel.length) c1, .slice U1 ((exactT aV5).pre.length) d1], .agg #[.int .i64 1, .int .i64 0, .int .i64 0, .string ⟨#[]⟩, .string ⟨#[]⟩]]) (.bool true) rfl (by kernel_rfl) (fun _ => by kernel_rfl) (fun w hO => ret_b (aH00) (sHas_any V1 U1 c1 d1 (exactT aV5) aV5 w (SetO.inn hr1 hO (fun x hx => by simp [hx]) (exact_sf aV5) (by decide)) aV5_short hr1.caps)) ?_
  refine h_take 3 [] _ (.bool true) rfl (by kernel_rfl) (by kernel_rfl) (by kernel_rfl) (pq_seq pq_body) (by kernel_rfl) (fun _ _ => by kernel_rfl) ?_
  refine h_load 4 [] _ 0 ⟨b3, #[.slice V1 ((exactT aV5).rel.length) c1, .slice U1 ((exactT aV5).pre.length) d1], 24⟩ (off := 0) (.agg #[.slice V1 ((exactT aV5).rel.length) c1, .slice U1 ((exactT aV5).pre.length) d1]) rfl (by kernel_rfl) (by kernel_rfl) (by kernel_rfl) (pq_seq pq_body) (by kernel_rfl) rfl (by kernel_rfl) (by kernel_rfl) (by kernel_rfl) ?_
  refine h_loadm 5 [] _ ⟨b2, #[.int .i64 1, .int .i64 0, .int .i64 0, .string ⟨#[97]⟩, .string ⟨#[]⟩], 26⟩ (off := 0) (.agg #[.int .i64 1, .int .i64 0, .int .i64 0, .string ⟨#[97]⟩, .string ⟨#[]⟩]) rfl (by kernel_rfl) (by kernel_rfl) (by kernel_rfl) (pq_seq pq_body) (by kernel_rfl) rfl (by simp) (by kernel_rfl) (by kernel_rfl) ?_
  refine h_one 6 (by kernel_rfl) ?_
  refine hs_call [] _ (k := 16) (args := #[.agg #[.slice V1 ((exactT aV5).rel.length) c1, .slice U1 ((exactT aV5).pre.length) d1], .agg #[.int .i64 1, .int .i64 0, .int .i64 0, .string ⟨#[97]⟩, .string ⟨#[]⟩]]) (.bool false) rfl (by kernel_rfl) (fun _ => by kernel_rfl) (fun w hO => ret_b (aH01) (sHas_any V1 U1 c1 d1 (exactT aV5) aP5 w (SetO.inn hr1 hO (fun x hx => by simp [hx]) (exact_sf aV5) (by decide)) aP5_short hr1.caps)) ?_
  refine h_take 7 [] _ (.bool true) rfl (by kernel_rfl) (by kernel_rfl) (by kernel_rfl) (pq_seq pq_body) (by kernel_rfl) (fun _ _ => by kernel_rfl) ?_
  refine h_take 8 [] _ (.bool true) rfl (by kernel_rfl) (by kernel_rfl) (by kernel_rfl) (pq_seq pq_body) (by kernel_rfl) (fun _ _ => by kernel_rfl) ?_
  refine h_take 9 [] _ (.bool true) rfl (by kernel_rfl) (by kernel_rfl) (by kernel_rfl) (pq_seq pq_body) (by kernel_rfl) (fun _ _ => by kernel_rfl) ?_
  refine h_loadm 10 [] _ ⟨b2, #[.int .i64 1, .int .i64 0, .int .i64 0, .string ⟨#[97]⟩, .string ⟨#[]⟩], 26⟩ (off := 0) (.agg #[.int .i64 1, .int .i64 0, .int .i64 0, .string ⟨#[97]⟩, .string ⟨#[]⟩]) rfl (by kernel_rfl) (by kernel_rfl) (by kernel_rfl) (pq_seq pq_body) (by kernel_rfl) rfl (by simp) (by kernel_rfl) (by kernel_rfl) ?_
  refine h_loadm 12 [] _ ⟨b2, #[.int .i64 1, .int .i64 0, .int .i64 0, .string ⟨#[97]⟩, .string ⟨#[]⟩], 26⟩ (off := 0) (.agg #[.int .i64 1, .int .i64 0, .int .i64 0, .string ⟨#[97]⟩, .string ⟨#[]⟩]) rfl (by kernel_rfl) (by kernel_rfl) (by kernel_rfl) (pq_seq pq_body) (by kernel_rfl) rfl (by simp) (by kernel_rfl) (by kernel_rfl) ?_
  refine h_one 11 (by kernel_rfl) ?_
  refine hl_callx _ (k := 19) (args := #[.agg #[.int .i64 1, .int .i64 0, .int .i64 0, .string ⟨#[97]⟩, .string ⟨#[]⟩]]) (fun v' L' => ∃ ob', L' = ob' ++ ([] ++ (⟨b3, #[.slice V1 ((exactT aV5).rel.length) c1, .slice U1 ((exactT aV5).pre.length) d1], 24⟩ :: (o1 ++ ([⟨b2, #[.int .i64 1, .int .i64 0, .int .i64 0, .string ⟨#[97]⟩, .string ⟨#[]⟩], 26⟩, ⟨b1, #[.int .i64 1, .int .i64 0, .int .i64 0, .string ⟨#[]⟩, .string ⟨#[]⟩], 26⟩])))) ∧ SetO v' (exactT aP5) ob') rfl (by kernel_rfl) (fun _ => by kernel_rfl) (fun w hO => (sExact_any aP5 w aP5_short).mono fun e w' ⟨v', ob', k1, k2, k3⟩ => ⟨v', _, k1, ⟨ob', rfl, k2⟩, Own.joinN hO k3⟩) (fun v' L' ⟨ob', e, _⟩ w hO => by subst e; exact Own.sub [] (Own.sub ob' hO)) (fun v2 L2 hv2 => ?_)
  obtain ⟨o2, rfl, hr2⟩ := hv2
  obtain ⟨V2, U2, c2, d2, rfl⟩ := hr2.form
  refine h_cast (L' := (o2 ++ ([] : List Blk)) ++ (⟨b3, #[.slice V1 ((exactT aV5).rel.length) c1, .slice U1 ((exactT aV5).pre.length) d1], 24⟩ :: (o1 ++ ([⟨b2, #[.int .i64 1, .int .i64 0, .int .i64 0, .string ⟨#[97]⟩, .string ⟨#[]⟩], 26⟩, ⟨b1, #[.int .i64 1, .int .i64 0, .int .i64 0, .string ⟨#[]⟩, .string ⟨#[]⟩], 26⟩])))) (List.append_assoc _ _ _).symm ?_
  refine h_one 13 (by kernel_rfl) ?_
  refine hs_call (o2 ++ ([] : List Blk)) _ (k := 16) (args := #[.agg #[.slice V2 ((exactT aP5).rel.length) c2, .slice U2 ((exactT aP5).pre.length) d2], .agg #[.int .i64 1, .int .i64 0, .int .i64 0, .string ⟨#[97]⟩, .string ⟨#[]⟩]]) (.bool true) rfl (by kernel_rfl) (fun _ => by kernel_rfl) (fun w hO => ret_b (aH11) (sHas_any V2 U2 c2 d2 (exactT aP5) aP5 w (SetO.inn hr2 hO (fun x hx => by simp [hx]) (exact_sf aP5) (by decide)) aP5_short hr2.caps)) ?_
  refine h_take 14 (o2 ++ ([] : List Blk)) _ (.bool true) rfl (by kernel_rfl) (by kernel_rfl) (by kernel_rfl) (pq_seq pq_body) (by kernel_rfl) (fun _ _ => by kernel_rfl) ?_
  refine h_take 15 (o2 ++ ([] : List Blk)) _ (.bool true) rfl (by kernel_rfl) (by kernel_rfl) (by kernel_rfl) (pq_seq pq_body) (by kernel_rfl) (fun _ _ => by kernel_rfl) ?_
  refine h_one 16 (by kernel_rfl) ?_
  refine hs_call (o2 ++ ([] : List Blk)) _ (k := 37) (args := #[]) (.agg #[.slice none 0 0, .slice none 0 0]) rfl (by kernel_rfl) (fun _ => by kernel_rfl) (fun w _ => sNone_any w) ?_
  refine h_one 17 (by kernel_rfl) ?_
  refine hl_callx _ (k := 25) (args := #[.agg #[.slice none 0 0, .slice none 0 0]]) (fun v' L' => ∃ ob', L' = ob' ++ ((o2 ++ ([] : List Blk)) ++ (⟨b3, #[.slice V1 ((exactT aV5).rel.length) c1, .slice U1 ((exactT aV5).pre.length) d1], 24⟩ :: (o1 ++ ([⟨b2, #[.int .i64 1, .int .i64 0, .int .i64 0, .string ⟨#[97]⟩, .string ⟨#[]⟩], 26⟩, ⟨b1, #[.int .i64 1, .int .i64 0, .int .i64 0, .string ⟨#[]⟩, .string ⟨#[]⟩], 26⟩])))) ∧ SetO v' (notT noneT) ob') rfl (by kernel_rfl) (fun _ => by kernel_rfl) (fun w hO => (sNot_any none none 0 0 noneT w (none_in _ _) ⟨Nat.le_refl 0, Nat.le_refl 0⟩).mono fun e w' ⟨v', ob', k1, k2, k3⟩ => ⟨v', _, k1, ⟨ob', rfl, by rw [if_pos (none_sf).may] at k2; exact k2⟩, Own.joinN hO k3⟩) (fun v' L' ⟨ob', e, _⟩ w hO => by subst e; exact Own.sub (o2 ++ ([] : List Blk)) (Own.sub ob' hO)) (fun v3 L2 hv2 => ?_)
  obtain ⟨o3, rfl, hr3⟩ := hv2
  obtain ⟨V3, U3, c3, d3, rfl⟩ := hr3.form
  refine h_cast (L' := (o3 ++ (o2 ++ ([] : List Blk))) ++ (⟨b3, #[.slice V1 ((exactT aV5).rel.length) c1, .slice U1 ((exactT aV5).pre.length) d1], 24⟩ :: (o1 ++ ([⟨b2, #[.int .i64 1, .int .i64 0, .int .i64 0, .string ⟨#[97]⟩, .string ⟨#[]⟩], 26⟩, ⟨b1, #[.int .i64 1, .int .i64 0, .int .i64 0, .string ⟨#[]⟩, .string ⟨#[]⟩], 26⟩])))) (List.append_assoc _ _ _).symm ?_
  refine h_one 18 (by kernel_rfl) ?_
  refine hl_callx _ (k := 36) (args := #[]) (fun v' L' => ∃ ob', L' = ob' ++ ((o3 ++ (o2 ++ ([] : List Blk))) ++ (⟨b3, #[.slice V1 ((exactT aV5).rel.length) c1, .slice U1 ((exactT aV5).pre.length) d1], 24⟩ :: (o1 ++ ([⟨b2, #[.int .i64 1, .int .i64 0, .int .i64 0, .string ⟨#[97]⟩, .string ⟨#[]⟩], 26⟩, ⟨b1, #[.int .i64 1, .int .i64 0, .int .i64 0, .string ⟨#[]⟩, .string ⟨#[]⟩], 26⟩])))) ∧ SetO v' (allT) ob') rfl (by kernel_rfl) (fun _ => by kernel_rfl) (fun w hO => (sAll_any w).mono fun e w' ⟨v', ob', k1, k2, k3⟩ => ⟨v', _, k1, ⟨ob', rfl, k2⟩, Own.joinN hO k3⟩) (fun v' L' ⟨ob', e, _⟩ w hO => by subst e; exact Own.sub (o3 ++ (o2 ++ ([] : List Blk))) (Own.sub ob' hO)) (fun v4 L2 hv2 => ?_)
  obtain ⟨o4, rfl, hr4⟩ := hv2
  obtain ⟨V4, U4, c4, d4, rfl⟩ := hr4.form
  refine h_cast (L' := (o4 ++ (o3 ++ (o2 ++ ([] : List Blk)))) ++ (⟨b3, #[.slice V1 ((exactT aV5).rel.length) c1, .slice U1 ((exactT aV5).pre.length) d1], 24⟩ :: (o1 ++ ([⟨b2, #[.int .i64 1, .int .i64 0, .int .i64 0, .string ⟨#[97]⟩, .string ⟨#[]⟩], 26⟩, ⟨b1, #[.int .i64 1, .int .i64 0, .int .i64 0, .string ⟨#[]⟩, .string ⟨#[]⟩], 26⟩])))) (List.append_assoc _ _ _).symm ?_
  refine h_one 19 (by kernel_rfl) ?_
  refine hs_call (o4 ++ (o3 ++ (o2 ++ ([] : List Blk)))) _ (k := 33) (args := #[.agg #[.slice V3 ((notT noneT).rel.length) c3, .slice U3 ((notT noneT).pre.length) d3], .agg #[.slice V4 ((allT).rel.length) c4, .slice U4 ((allT).pre.length) d4]]) (.bool true) rfl (by kernel_rfl) (fun _ => by kernel_rfl) (fun w hO => ret_b ((same_b _ _).trans (decide_eq_true (notT_none))) (sSame_any V3 U3 V4 U4 c3 d3 c4 d4 (notT noneT) allT w (SetO.inn hr3 hO (fun x hx => by simp [hx]) ((none_sf).not) (by decide)) (SetO.inn hr4 hO (fun x hx => by simp [hx]) (all_sf) (by decide)) hr3.caps hr4.caps)) ?_
  refine h_take 20 (o4 ++ (o3 ++ (o2 ++ ([] : List Blk)))) _ (.bool true) rfl (by kernel_rfl) (by kernel_rfl) (by kernel_rfl) (pq_seq pq_body) (by kernel_rfl) (fun _ _ => by kernel_rfl) ?_
  refine h_take 21 (o4 ++ (o3 ++ (o2 ++ ([] : List Blk)))) _ (.bool true) rfl (by kernel_rfl) (by kernel_rfl) (by kernel_rfl) (pq_seq pq_body) (by kernel_rfl) (fun _ _ => by kernel_rfl) ?_
  refine h_load 22 (o4 ++ (o3 ++ (o2 ++ ([] : List Blk)))) _ 0 ⟨b3, #[.slice V1 ((exactT aV5).rel.length) c1, .slice U1 ((exactT aV5).pre.length) d1], 24⟩ (off := 0) (.agg #[.slice V1 ((exactT aV5).rel.length) c1, .slice U1 ((exactT aV5).pre.length) d1]) rfl (by kernel_rfl) (by kernel_rfl) (by kernel_rfl) (pq_seq pq_body) (by kernel_rfl) rfl (by kernel_rfl) (by kernel_rfl) (by kernel_rfl) ?_
  refine h_loadm 23 (o4 ++ (o3 ++ (o2 ++ ([] : List Blk)))) _ ⟨b2, #[.int .i64 1, .int .i64 0, .int .i64 0, .string ⟨#[97]⟩, .string ⟨#[]⟩], 26⟩ (off := 0) (.agg #[.int .i64 1, .int .i64 0, .int .i64 0, .string ⟨#[97]⟩, .string ⟨#[]⟩]) rfl (by kernel_rfl) (by kernel_rfl) (by kernel_rfl) (pq_seq pq_body) (by kernel_rfl) rfl (by simp) (by kernel_rfl) (by kernel_rfl) ?_
  refine h_one 24 (by kernel_rfl) ?_
  refine hl_callx _ (k := 19) (args := #[.agg #[.int .i64 1, .int .i64 0, .int .i64 0, .string ⟨#[97]⟩, .string ⟨#[]⟩]]) (fun v' L' => ∃ ob', L' = ob' ++ ((o4 ++ (o3 ++ (o2 ++ ([] : List Blk)))) ++ (⟨b3, #[.slice V1 ((exactT aV5).rel.length) c1, .slice U1 ((exactT aV5).pre.length) d1], 24⟩ :: (o1 ++ ([⟨b2, #[.int .i64 1, .int .i64 0, .int .i64 0, .string ⟨#[97]⟩, .string ⟨#[]⟩], 26⟩, ⟨b1, #[.int .i64 1, .int .i64 0, .int .i64 0, .string ⟨#[]⟩, .string ⟨#[]⟩], 26⟩])))) ∧ SetO v' (exactT aP5) ob') rfl (by kernel_rfl) (fun _ => by kernel_rfl) (fun w hO => (sExact_any aP5 w aP5_short).mono fun e w' ⟨v', ob', k1, k2, k3⟩ => ⟨v', _, k1, ⟨ob', rfl, k2⟩, Own.joinN hO k3⟩) (fun v' L' ⟨ob', e, _⟩ w hO => by subst e; exact Own.sub (o4 ++ (o3 ++ (o2 ++ ([] : List Blk)))) (Own.sub ob' hO)) (fun v5 L2 hv2 => ?_)
  obtain ⟨o5, rfl, hr5⟩ := hv2
  obtain ⟨V5, U5, c5, d5, rfl⟩ := hr5.form
  refine h_cast (L' := (o5 ++ (o4 ++ (o3 ++ (o2 ++ ([] : List Blk))))) ++ (⟨b3, #[.slice V1 ((exactT aV5).rel.length) c1, .slice U1 ((exactT aV5).pre.length) d1], 24⟩ :: (o1 ++ ([⟨b2, #[.int .i64 1, .int .i64 0, .int .i64 0, .string ⟨#[97]⟩, .string ⟨#[]⟩], 26⟩, ⟨b1, #[.int .i64 1, .int .i64 0, .int .i64 0, .string ⟨#[]⟩, .string ⟨#[]⟩], 26⟩])))) (List.append_assoc _ _ _).symm ?_
  refine h_one 25 (by kernel_rfl) ?_
  refine hs_call (o5 ++ (o4 ++ (o3 ++ (o2 ++ ([] : List Blk))))) _ (k := 31) (args := #[.agg #[.slice V1 ((exactT aV5).rel.length) c1, .slice U1 ((exactT aV5).pre.length) d1], .agg #[.slice V5 ((exactT aP5).rel.length) c5, .slice U5 ((exactT aP5).pre.length) d5]]) (.bool true) rfl (by kernel_rfl) (fun _ => by kernel_rfl) (fun w hO => ret_b ((apart_b (exact_sf aV5) (exact_sf aP5)).trans (decide_eq_true (aA01))) (sApart_any V1 U1 V5 U5 c1 d1 c5 d5 (exactT aV5) (exactT aP5) w (SetO.inn hr1 hO (fun x hx => by simp [hx]) (exact_sf aV5) (by decide)) (SetO.inn hr5 hO (fun x hx => by simp [hx]) (exact_sf aP5) (by decide)) hr1.caps hr5.caps (Nat.le_trans (exact_sf aV5).rel.len (by decide)) (Nat.le_trans (exact_sf aV5).pre.len (by decide)) (Nat.le_trans (exact_sf aP5).rel.len (by decide)) (Nat.le_trans (exact_sf aP5).pre.len (by decide)))) ?_
  refine h_take 26 (o5 ++ (o4 ++ (o3 ++ (o2 ++ ([] : List Blk))))) _ (.bool true) rfl (by kernel_rfl) (by kernel_rfl) (by kernel_rfl) (pq_seq pq_body) (by kernel_rfl) (fun _ _ => by kernel_rfl) ?_
  refine h_take 27 (o5 ++ (o4 ++ (o3 ++ (o2 ++ ([] : List Blk))))) _ (.bool true) rfl (by kernel_rfl) (by kernel_rfl) (by kernel_rfl) (pq_seq pq_body) (by kernel_rfl) (fun _ _ => by kernel_rfl) ?_
  refine h_load 28 (o5 ++ (o4 ++ (o3 ++ (o2 ++ ([] : List Blk))))) _ 0 ⟨b3, #[.slice V1 ((exactT aV5).rel.length) c1, .slice U1 ((exactT aV5).pre.length) d1], 24⟩ (off := 0) (.agg #[.slice V1 ((exactT aV5).rel.length) c1, .slice U1 ((exactT aV5).pre.length) d1]) rfl (by kernel_rfl) (by kernel_rfl) (by kernel_rfl) (pq_seq pq_body) (by kernel_rfl) rfl (by kernel_rfl) (by kernel_rfl) (by kernel_rfl) ?_
  refine h_one 29 (by kernel_rfl) ?_
  refine hs_call (o5 ++ (o4 ++ (o3 ++ (o2 ++ ([] : List Blk))))) _ (k := 14) (args := #[.agg #[.slice V1 ((exactT aV5).rel.length) c1, .slice U1 ((exactT aV5).pre.length) d1]]) (.bool true) rfl (by kernel_rfl) (fun _ => by kernel_rfl) (fun w hO => ret_b (exact_sf aV5).may (sMay_any V1 U1 c1 d1 (exactT aV5) w (SetO.inn hr1 hO (fun x hx => by simp [hx]) (exact_sf aV5) (by decide)) hr1.caps)) ?_
  refine h_take 30 (o5 ++ (o4 ++ (o3 ++ (o2 ++ ([] : List Blk))))) _ (.bool true) rfl (by kernel_rfl) (by kernel_rfl) (by kernel_rfl) (pq_seq pq_body) (by kernel_rfl) (fun _ _ => by kernel_rfl) ?_
  refine h_take 31 (o5 ++ (o4 ++ (o3 ++ (o2 ++ ([] : List Blk))))) _ (.bool true) rfl (by kernel_rfl) (by kernel_rfl) (by kernel_rfl) (pq_seq pq_body) (by kernel_rfl) (fun _ _ => by kernel_rfl) ?_
  refine h_drop (o5 ++ (o4 ++ (o3 ++ (o2 ++ ([] : List Blk))))) ?_
  refine h_done (by kernel_rfl) ?_
  refine fin_seq ?_
  refine ok_ret ?_
  refine fin_ret (.bool true) Tryz.results11 (by kernel_rfl) ?_
  exact fun w hO => ⟨rfl, hO.below⟩
end Go.Proofs.YtgeccfdofmnphaaGreat
end

section
/-
  What every statement of this seat's proof leans on at its end: from 'the call returns true and below the heap's old end nothing has changed' to the row's own words; the table that the row lists, read as a walk needs it. Conditions: none of its own.
-/
namespace Go.Proofs.YtgeccfdofmnphaaGreat
open Go.ChangeShapes Go.WideShapes Go.ChangeAt Go.RowKit

theorem own : ownKnob Tryz.prog.godebug = none := by kernel_rfl

theorem trodAll_stays {H : Type} {enc : TypeId × Value → H} {P : Program} (hl : laidOutB P = true) {W W' : World} (hb : Below W.heap.size W W') :
    ∀ (ts : List TypeId), (∀ t ∈ ts, P.readableRec t = true ∧ t < P.types.size) → ∀ (vs : List Value) (ds : List (DataW H)) (ps : List MemPlace), DataW.TrodAll enc P W 0 (fun _ => true) true ts vs ds ps → (∀ p ∈ ps, p.block < W.heap.size) →
      DataW.TrodAll enc P W' 0 (fun b => decide (b < W.heap.size)) true ts vs ds ps
  | [], _, vs, ds, ps, h, _ => by
    obtain ⟨rfl, rfl, rfl⟩ := trodAll_nil h
    exact trodAll_mk0
  | t :: ts, hr, vs, ds, ps, h, hlt => by
    obtain ⟨v, vs', d, ds', p, q, rfl, rfl, rfl, hd, hrest⟩ := trodAll_cons h
    exact ⟨p, q, Go.RowKit.Below.trod hl (hr t (by simp)).1 (hr t (by simp)).2 hd hb.old (fun x hx => hlt x (by simp [hx])), trodAll_stays hl hb ts (fun t' ht' => hr t' (by simp [ht'])) vs' ds' q hrest (fun x hx => hlt x (by simp [hx])), rfl⟩

/-- The end of a statement's row: the call has returned true, and below the heap's old end nothing has changed. -/
theorem law_end {H : Type} {enc : TypeId × Value → H} {P : Program} {f : Func} {s : ChangeSpec} {W W' : World} {args : Array Value} {ds gs : List (DataW H)} {before : List MemPlace} {T : TypeId}
    (hl : laidOutB P = true) (hr : ∀ t ∈ f.params.toList, P.readableRec t = true ∧ t < P.types.size) (hv : s.vars = []) (hT : f.resultTypes = #[T]) (hB : P.underlying T = some .bool)
    (hW : DataW.Whole enc P f.params.toList s.vars false W args.toList ds gs before) (hf : s.fn H (ds ++ gs) = { results := [.lit (.bool true)], args := ds }) (hb : Below W.heap.size W W') :
    s.post enc P f false true false false W args (.bool true) W' := by
  have hlt : ∀ p ∈ before, p.block < W.heap.size := fun p hp => hW.lt p hp
  have hW' := hW
  obtain ⟨p, q, hA, hV, rfl, _, _⟩ := hW
  rw [hv] at hV
  obtain ⟨rfl, rfl⟩ := trodVars_none hV
  have h2 := trodAll_stays hl hb _ hr _ _ _ hA (fun x hx => hlt x (by simp [hx]))
  refine ⟨ds, [], p ++ [], [], p, [], hW', ?_, ?_, ?_, World.keptBut_mono (fun x hx => ⟨hx, Or.inr (Or.inl (by simpa using hx))⟩) (hb.frame (· ∈ p ++ [])), fun h => by cases h⟩
  · rw [hf, hT]
    exact trodAll_cons_mk (shut_bool hB true) trodAll_mk0
  · rw [hf]; exact h2
  · rw [hf, hv]; rfl
theorem laidOut : laidOutB Tryz.prog = true := by kernel_rfl

theorem cell_lt {W : World} {a : Addr} {v : Value} (h : W.cell? a = some v) : a.block < W.heap.size := by
  rcases Nat.lt_or_ge a.block W.heap.size with h1 | h1
  · exact h1
  · unfold World.cell? at h
    rw [Array.getElem?_eq_none h1] at h
    simp at h
/-- The cells that a table of integers lays. -/
def tabCells : DataW Unit → Array Value
  | .agg l => (l.map fun d => match d with | .lit (.int k n) => Value.int k n | _ => Value.int .i64 0).toArray
  | _ => #[]
def layAt (h : Array Obj) (g : Nat) (d : DataW Unit) : Array Obj := h.modify g fun
  | .cells _ t frozen => .cells (tabCells d) t frozen
  | o => o

end Go.Proofs.YtgeccfdofmnphaaGreat
end

section
/-
  A parameter that is a slice of ints: it reads as a list, out of the row's own conditions.
-/
namespace Go.Proofs.YtgeccfdofmnphaaGreat
open Go.ChangeShapes Go.WideShapes Go.ChangeAt Go.RowKit

set_option maxRecDepth 100000 in
theorem open_nums {H : Type} {enc : TypeId × Value → H} {W : World} {base : Nat} {v : Value} {d : DataW H} {ps : List MemPlace} (hval : Value.okWide Tryz.prog W .any base 36 v)
    (h : DataW.Trod enc Tryz.prog W 0 (fun _ => true) true 36 v d ps) : ∃ l : List Int, ReadsI W W.heap.size v l ∧ l.length ≤ maxLen := by
  obtain ⟨A, len, cap, rfl⟩ := okWide_slice Tryz.underlying36 hval
  obtain ⟨fuel, hf⟩ := h
  rcases open_ints Tryz.underlying36 Tryz.underlying3 (by kernel_rfl) hf with ⟨hcs, _⟩ | ⟨a, len', cap', zs, hcs, _, hl, hm, hz, _, hcell, _⟩
  · simp [Value.cells] at hcs
    obtain ⟨rfl, rfl, rfl⟩ := hcs
    exact ⟨[], ⟨none, 0, rfl, fun h => by cases h⟩, by simp⟩
  · simp [Value.cells] at hcs
    obtain ⟨rfl, rfl, rfl⟩ := hcs
    simp only [if_true] at hz
    have hlen : (zs.take len).length = len := by rw [List.length_take]; omega
    refine ⟨zs.take len, ⟨some a, cap, by rw [hlen], fun h0 => ⟨a, rfl, ?_, fun j hj => ?_⟩⟩, by rw [hlen]; omega⟩
    · have := cell_lt (hcell 0 (by omega))
      rwa [add_block] at this
    · have hj2 : j < zs.length := by omega
      rw [hcell j hj2, List.getElem_take]
      simp only [List.getD, List.getElem?_eq_getElem hj2, Option.getD_some]
end Go.Proofs.YtgeccfdofmnphaaGreat
end

section
/-
  A load out of a slice that reads as a list. No condition of its own.
-/
namespace Go.Proofs.YtgeccfdofmnphaaGreat
open Go.RowKit
set_option linter.unusedVariables false
theorem Reads.load {P : Program} {α : Type} {g : α → List Value} {sz : Nat} (hg : ∀ x, (g x).length = sz) {ty : TypeId} {w : World} {B b off o : Nat} {A : Option Addr} {l : List α} (h : Reads g w B A l) (hA : A = some ⟨b, off, none⟩) (k fo : Nat) (hk : k < l.length) (ho : o = off + k * sz + fo) (v : Value)
    (hr : readAt P ty ((g l[k]).drop fo).toArray 0 = some v) : (loadVar ty ⟨b, o, none⟩).run P w = .ok v w := by
  subst hA
  obtain ⟨b', off', e, hlt, hcell⟩ := h (by omega)
  obtain ⟨rfl, rfl⟩ : b = b' ∧ off = off' := by simp at e; exact e
  exact elem_load hg hcell k fo hk ho v hr
end Go.Proofs.YtgeccfdofmnphaaGreat
end

section
/-
  linchpinlaw5's edges: the versions of a set's Rel's cuts, and 0.0.0 before them; nothing that was there is changed.
-/
namespace Go.Proofs.YtgeccfdofmnphaaGreat
open Go.RowKit
set_option maxRecDepth 100000
set_option linter.unusedVariables false
set_option linter.unusedSimpArgs false
set_option maxHeartbeats 2000000

def verC (v : Ver) : List Value := (verV v).cells.toList
theorem verC_len (v : Ver) : (verC v).length = 5 := rfl
/-- The value v is a slice of the versions l that lies in ob. -/
def SlV (v : Value) (l : List Ver) (ob : List Blk) : Prop := Sl 26 5 v l.length (l.flatMap verC) ob
theorem SlV.form {v : Value} {l : List Ver} {ob : List Blk} (h : SlV v l ob) : ∃ A cap, v = .slice A l.length cap := by
  rcases h.2 with ⟨h1, h2, _⟩ | ⟨g, cap, cur, h1, _⟩
  · exact ⟨none, 0, by rw [h1, h2]⟩
  · exact ⟨_, _, h1⟩
theorem verInfo : (Tryz.prog.info? 26).map (fun i => (i.zero.map (·.cells.size), i.size, i.bytes)) = some (some 5, 5, 56) := by kernel_rfl
theorem ver_info : ∃ i z, Tryz.prog.info? 26 = some i ∧ i.zero = some z ∧ i.size = 5 ∧ z.cells.size = 5 ∧ i.bytes = 56 := by
  have h := verInfo
  cases hi : Tryz.prog.info? 26 with
  | none => rw [hi] at h; cases h
  | some i =>
    rw [hi] at h
    simp only [Option.map_some, Option.some.injEq, Prod.mk.injEq] at h
    cases hz : i.zero with
    | none => rw [hz] at h; simp at h
    | some z => rw [hz] at h; simp at h; exact ⟨i, z, rfl, hz, h.2.1, h.1, h.2.2⟩
theorem ver_cells (v : Ver) : ∀ u ∈ verC v, u.oneCell' = true := by
  intro u hu
  unfold verC verV at hu
  simp only [Value.cells, List.mem_cons, List.not_mem_nil, or_false] at hu
  rcases hu with rfl | rfl | rfl | rfl | rfl <;> rfl
theorem slv_lit (v : Ver) (b : Nat) (cur : Array Value) (h : cur.toList = verC v) : SlV (.slice (some ⟨b, 0, none⟩) 1 1) [v] [⟨b, cur, 26⟩] := by
  have e : ([v] : List Ver).flatMap verC = verC v := List.append_nil _
  have hc : cur.toList.length = 5 := by rw [h]; rfl
  refine ⟨by rw [e]; rfl, .inr ⟨b, 1, cur, rfl, rfl, Nat.le_refl _, by decide, by rw [← Array.length_toList, hc], ?_⟩⟩
  rw [e, h]
  exact List.take_of_length_le (Nat.le_refl 5)
def edC (c : Cu) : List Ver := if c.e = 0 then [c.v] else []
def edgesL (l : List Sp) : List Ver := Ver.zero :: l.flatMap fun s => edC s.lo ++ edC s.hi
/-- After k spans. -/
def edT (l : List Sp) (k : Nat) : List Ver := edgesL (l.take k)
theorem edC_len (c : Cu) : (edC c).length ≤ 1 := by unfold edC; split <;> simp
theorem edT_step {l : List Sp} {k : Nat} (hk : k < l.length) {s : Sp} (hs : l[k] = s) : edT l (k + 1) = edT l k ++ edC s.lo ++ edC s.hi := by
  unfold edT edgesL
  rw [List.take_succ_eq_append_getElem hk, hs, List.flatMap_append]
  simp
theorem edges_len : ∀ (l : List Sp), (edgesL l).length ≤ 1 + 2 * l.length
  | [] => by simp [edgesL]
  | s :: l => by
    have h := edges_len l
    have h1 := edC_len s.lo
    have h2 := edC_len s.hi
    unfold edgesL at h ⊢
    simp only [List.flatMap_cons, List.length_cons, List.length_append] at h ⊢
    omega
theorem edT_len (l : List Sp) (k : Nat) : (edT l k).length ≤ 1 + 2 * k := by
  have h := edges_len (l.take k)
  have h2 : (l.take k).length ≤ k := by rw [List.length_take]; omega
  unfold edT; omega
theorem edC_yes {c : Cu} (h : c.e = 0) : edC c = [c.v] := by unfold edC; rw [if_pos h]
theorem edC_no {c : Cu} (h : ¬ c.e = 0) : edC c = [] := by unfold edC; rw [if_neg h]
theorem own_ed1 {M : List Nat} {W w : World} {x y z t : Blk} {A : List Blk} (h : Own M W w ([x, y, z] ++ A ++ [t])) : Own M W w (z :: (A ++ [t])) := by
  rw [List.append_assoc] at h
  exact Own.sub [x, y] h
theorem own_ed2 {M : List Nat} {W w : World} {x z t : Blk} {A : List Blk} (h : Own M W w (x :: z :: (A ++ [t]))) : Own M W w (z :: (A ++ [t])) := Own.sub [x] h
structure EdI (l : List Sp) (k : Nat) (u : Value) (acc : List Ver) (ob : List Blk) : Prop where
  le : k ≤ l.length
  sl : SlV u acc ob
  eq : acc = edT l k
set_option maxHeartbeats 4000000 in
theorem edges_any (A B : Option Addr) (c d q2 : Nat) (l : List Sp) (W : World) (hv : Reads spanC W W.heap.size A l) (hn : l.length ≤ 1000) : Calls Tryz.prog 40 #[.agg #[.slice A l.length c, .slice B q2 d]] W fun e w' => ∃ v' ob', e = .returned v' ∧ SlV v' (edgesL l) ob' ∧ Own [] W w' ob' := by
  refine calls_ok (n := 44) Tryz.func40 rfl (by kernel_rfl) (by kernel_rfl) ?_
  refine ok_seq ?_
  refine ok_region ?_
  refine s_box (.agg #[.slice A l.length c, .slice B q2 d]) (by kernel_rfl) rfl (by kernel_rfl) (fun b1 => ?_)
  refine s_val (.slice none 0 0) (by kernel_rfl) (fun _ => by kernel_rfl) ?_
  refine s_nil ?_
  refine fin_seq ?_
  refine ok_seq ?_
  refine ok_region ?_
  refine s_val (.agg #[.int .i64 0, .int .i64 0, .int .i64 0, .string ⟨#[]⟩, .string ⟨#[]⟩]) (by kernel_rfl) (fun _ => by kernel_rfl) ?_
  refine s_lit 26 #[.int .i64 0, .int .i64 0, .int .i64 0, .string ⟨#[]⟩, .string ⟨#[]⟩] (by kernel_rfl) rfl (fun _ => by kernel_rfl) (fun b2 => ?_)
  refine s_val (.slice (some ⟨b2, 0, none⟩) 1 1) (by kernel_rfl) (fun _ => by kernel_rfl) ?_
  refine s_nil ?_
  refine fin_seq ?_
  refine ok_seq ?_
  refine ok_seq ?_
  refine ok_region ?_
  refine s_val (.int .i64 0) (by kernel_rfl) (fun _ => by kernel_rfl) ?_
  refine s_nil ?_
  refine fin_seq ?_
  refine ok_block ?_
  refine ok_loop (fun L f m => ∃ (k : Nat) (u : Value) (acc : List Ver) (ob : List Blk) (j : Nat → Value), (EdI l k u acc ob) ∧ L = ob ++ [⟨b1, #[.slice A l.length c, .slice B q2 d], 24⟩] ∧ f = upds j [(1, .pointer (some ⟨b1, 0, none⟩)), (3, u), (4, .int .i64 (k : Int))] ∧ m = l.length - k) (l.length - 0) ⟨0, _, [Ver.zero], [⟨b2, #[.int .i64 0, .int .i64 0, .int .i64 0, .string ⟨#[]⟩, .string ⟨#[]⟩], 26⟩], _, ⟨Nat.zero_le _, slv_lit Ver.zero b2 _ (by kernel_rfl), rfl⟩, rfl, upds_self _ ⟨by kernel_rfl, by kernel_rfl, by kernel_rfl, trivial⟩, rfl⟩ ?_
  rintro L f m ⟨k, u, acc, ob, j, hrel, rfl, rfl, rfl⟩
  have hkl := hrel.le
  refine ok_seq ?_
  refine ok_seq ?_
  refine ok_region ?_
  refine s_val (.int .i64 (k : Int)) (by kernel_rfl) (fun _ => by kernel_rfl) ?_
  refine s_val (.pointer (some ⟨b1, 0, none⟩)) (by kernel_rfl) (fun _ => by kernel_rfl) ?_
  refine s_loadm ⟨b1, #[.slice A l.length c, .slice B q2 d], 24⟩ (off := 0) (.slice A l.length c) (by kernel_rfl) rfl (by simp) (by kernel_rfl) (by kernel_rfl) ?_
  refine s_val (.int .i64 (l.length : Int)) (by kernel_rfl) (fun _ => by kernel_rfl) ?_
  by_cases h1 : (k : Int) < (l.length : Int)
  · skip
    have hlk : k < l.length := by omega
    obtain ⟨b, off, hA, hlt, hcell⟩ := hv (by omega)
    obtain ⟨s, he⟩ : ∃ s, l[k] = s := ⟨_, rfl⟩
    refine s_dec (p := (k : Int) < (l.length : Int)) true (by kernel_rfl) (fun _ => by kernel_rfl) (decide_eq_true (h1)) ?_
    refine s_nil ?_
    refine fin_seq ?_
    refine ok_true (by kernel_rfl) ?_
    refine ok_skip ?_
    refine fin_seq ?_
    refine ok_seq ?_
    refine ok_block ?_
    refine ok_seq ?_
    refine ok_anyh (by kernel_rfl) ?_
    refine h_take 0 [] _ (.pointer (some ⟨b1, 0, none⟩)) rfl (by kernel_rfl) (by kernel_rfl) (by kernel_rfl) (pq_seq (pq_block (pq_seq (pq_round (pq_block (pq_seq pq_body)))))) (by kernel_rfl) (fun _ _ => by kernel_rfl) ?_
    refine h_loadm 1 [] _ ⟨b1, #[.slice A l.length c, .slice B q2 d], 24⟩ (off := 0) (.slice A l.length c) rfl (by kernel_rfl) (by kernel_rfl) (by kernel_rfl) (pq_seq (pq_block (pq_seq (pq_round (pq_block (pq_seq pq_body)))))) (by kernel_rfl) rfl (by simp) (by kernel_rfl) (by kernel_rfl) ?_
    refine h_take 2 [] _ (.int .i64 (k : Int)) rfl (by kernel_rfl) (by kernel_rfl) (by kernel_rfl) (pq_seq (pq_block (pq_seq (pq_round (pq_block (pq_seq pq_body)))))) (by kernel_rfl) (fun _ _ => by kernel_rfl) ?_
    refine h_take 3 [] _ (.pointer (some ⟨b, off + k * 14, none⟩)) rfl (by kernel_rfl) (by kernel_rfl) (by kernel_rfl) (pq_seq (pq_block (pq_seq (pq_round (pq_block (pq_seq pq_body)))))) (by kernel_rfl) (fun w _ => run_ixA (b := b) (off := off) (c := c) (n := l.length) (k := .i64) (j := (k : Int)) (e := 50) (sz := 14) rfl (by kernel_rfl) hA (by kernel_rfl) (by kernel_rfl) (by kernel_rfl) (by omega) (by omega) (by omega) w) ?_
    refine h_take 4 [] _ (.pointer (some ⟨b, off + k * 14 + 0, none⟩)) rfl (by kernel_rfl) (by kernel_rfl) (by kernel_rfl) (pq_seq (pq_block (pq_seq (pq_round (pq_block (pq_seq pq_body)))))) (by kernel_rfl) (fun _ _ => by kernel_rfl) ?_
    refine hl_old 5 _ (a := ⟨b, off + k * 14 + 0, none⟩) (cutV s.lo) rfl (by kernel_rfl) (by kernel_rfl) (by kernel_rfl) (pq_seq (pq_block (pq_seq (pq_round (pq_block (pq_seq pq_body)))))) (fun w hO => Own.sub [] hO) (by kernel_rfl) rfl (by kernel_rfl) (fun w hO => elem_load spanC_len (fun j u h => (hO.below.cell (p := ⟨b, off + j, none⟩) hlt).trans (hcell j u h)) k 0 hlk (by omega) _ (by rw [he]; kernel_rfl)) ?_
    refine h_take 6 [] _ (.pointer (some ⟨b1, 0, none⟩)) rfl (by kernel_rfl) (by kernel_rfl) (by kernel_rfl) (pq_seq (pq_block (pq_seq (pq_round (pq_block (pq_seq pq_body)))))) (by kernel_rfl) (fun _ _ => by kernel_rfl) ?_
    refine h_loadm 7 [] _ ⟨b1, #[.slice A l.length c, .slice B q2 d], 24⟩ (off := 0) (.slice A l.length c) rfl (by kernel_rfl) (by kernel_rfl) (by kernel_rfl) (pq_seq (pq_block (pq_seq (pq_round (pq_block (pq_seq pq_body)))))) (by kernel_rfl) rfl (by simp) (by kernel_rfl) (by kernel_rfl) ?_
    refine h_take 8 [] _ (.int .i64 (k : Int)) rfl (by kernel_rfl) (by kernel_rfl) (by kernel_rfl) (pq_seq (pq_block (pq_seq (pq_round (pq_block (pq_seq pq_body)))))) (by kernel_rfl) (fun _ _ => by kernel_rfl) ?_
    refine h_take 9 [] _ (.pointer (some ⟨b, off + k * 14, none⟩)) rfl (by kernel_rfl) (by kernel_rfl) (by kernel_rfl) (pq_seq (pq_block (pq_seq (pq_round (pq_block (pq_seq pq_body)))))) (by kernel_rfl) (fun w _ => run_ixA (b := b) (off := off) (c := c) (n := l.length) (k := .i64) (j := (k : Int)) (e := 50) (sz := 14) rfl (by kernel_rfl) hA (by kernel_rfl) (by kernel_rfl) (by kernel_rfl) (by omega) (by omega) (by omega) w) ?_
    refine h_take 10 [] _ (.pointer (some ⟨b, off + k * 14 + 7, none⟩)) rfl (by kernel_rfl) (by kernel_rfl) (by kernel_rfl) (pq_seq (pq_block (pq_seq (pq_round (pq_block (pq_seq pq_body)))))) (by kernel_rfl) (fun _ _ => by kernel_rfl) ?_
    refine hl_old 11 _ (a := ⟨b, off + k * 14 + 7, none⟩) (cutV s.hi) rfl (by kernel_rfl) (by kernel_rfl) (by kernel_rfl) (pq_seq (pq_block (pq_seq (pq_round (pq_block (pq_seq pq_body)))))) (fun w hO => Own.sub [] hO) (by kernel_rfl) rfl (by kernel_rfl) (fun w hO => elem_load spanC_len (fun j u h => (hO.below.cell (p := ⟨b, off + j, none⟩) hlt).trans (hcell j u h)) k 7 hlk (by omega) _ (by rw [he]; kernel_rfl)) ?_
    refine h_take 14 [] _ (.int .i64 0) rfl (by kernel_rfl) (by kernel_rfl) (by kernel_rfl) (pq_seq (pq_block (pq_seq (pq_round (pq_block (pq_seq pq_body)))))) (by kernel_rfl) (fun _ _ => by kernel_rfl) ?_
    refine h_one 12 (by kernel_rfl) ?_
    refine hl_lit _ 48 #[.int .i64 s.lo.e, .int .i64 s.lo.v.maj, .int .i64 s.lo.v.min, .int .i64 s.lo.v.pat, .string (mkS s.lo.v.pre), .string (mkS s.lo.v.build), .bool s.lo.aft, .int .i64 s.hi.e, .int .i64 s.hi.v.maj, .int .i64 s.hi.v.min, .int .i64 s.hi.v.pat, .string (mkS s.hi.v.pre), .string (mkS s.hi.v.build), .bool s.hi.aft] rfl (by kernel_rfl) rfl (fun w hO => Own.sub [] hO) (fun _ => by kernel_rfl) (fun b3 => ?_)
    refine h_take 13 [⟨b3, #[.int .i64 s.lo.e, .int .i64 s.lo.v.maj, .int .i64 s.lo.v.min, .int .i64 s.lo.v.pat, .string (mkS s.lo.v.pre), .string (mkS s.lo.v.build), .bool s.lo.aft, .int .i64 s.hi.e, .int .i64 s.hi.v.maj, .int .i64 s.hi.v.min, .int .i64 s.hi.v.pat, .string (mkS s.hi.v.pre), .string (mkS s.hi.v.build), .bool s.hi.aft], 48⟩] _ (.int .i64 (2 : Int)) rfl (by kernel_rfl) (by kernel_rfl) (by kernel_rfl) (pq_seq (pq_block (pq_seq (pq_round (pq_block (pq_seq pq_body)))))) (by kernel_rfl) (fun _ _ => by kernel_rfl) ?_
    refine h_done (by kernel_rfl) ?_
    refine fin_seq ?_
    refine ok_block ?_
    have hln0 : acc.length ≤ 1 + 2 * k := by rw [hrel.eq]; exact edT_len l k
    refine ok_cast (L' := ⟨b3, #[.int .i64 s.lo.e, .int .i64 s.lo.v.maj, .int .i64 s.lo.v.min, .int .i64 s.lo.v.pat, .string (mkS s.lo.v.pre), .string (mkS s.lo.v.build), .bool s.lo.aft, .int .i64 s.hi.e, .int .i64 s.hi.v.maj, .int .i64 s.hi.v.min, .int .i64 s.hi.v.pat, .string (mkS s.hi.v.pre), .string (mkS s.hi.v.build), .bool s.hi.aft], 48⟩ :: (ob ++ [⟨b1, #[.slice A l.length c, .slice B q2 d], 24⟩])) rfl ?_
    have hrel0 := hrel
    refine ok_loop (fun L f m => (∃ (u1 : Value) (acc1 : List Ver) (ob1 : List Blk) (j : Nat → Value), (SlV u1 acc1 ob1 ∧ acc1 = edT l k ++ ([])) ∧ L = ⟨b3, #[.int .i64 s.lo.e, .int .i64 s.lo.v.maj, .int .i64 s.lo.v.min, .int .i64 s.lo.v.pat, .string (mkS s.lo.v.pre), .string (mkS s.lo.v.build), .bool s.lo.aft, .int .i64 s.hi.e, .int .i64 s.hi.v.maj, .int .i64 s.hi.v.min, .int .i64 s.hi.v.pat, .string (mkS s.hi.v.pre), .string (mkS s.hi.v.build), .bool s.hi.aft], 48⟩ :: (ob1 ++ [⟨b1, #[.slice A l.length c, .slice B q2 d], 24⟩]) ∧ f = upds j [(1, .pointer (some ⟨b1, 0, none⟩)), (3, u1), (4, .int .i64 (k : Int)), (28, .slice (some ⟨b3, 0, none⟩) 2 2), (29, .int .i64 2), (30, .int .i64 0)] ∧ m = 3) ∨ (∃ (u1 : Value) (acc1 : List Ver) (ob1 : List Blk) (j : Nat → Value), (SlV u1 acc1 ob1 ∧ acc1 = edT l k ++ (edC s.lo)) ∧ L = ⟨b3, #[.int .i64 s.lo.e, .int .i64 s.lo.v.maj, .int .i64 s.lo.v.min, .int .i64 s.lo.v.pat, .string (mkS s.lo.v.pre), .string (mkS s.lo.v.build), .bool s.lo.aft, .int .i64 s.hi.e, .int .i64 s.hi.v.maj, .int .i64 s.hi.v.min, .int .i64 s.hi.v.pat, .string (mkS s.hi.v.pre), .string (mkS s.hi.v.build), .bool s.hi.aft], 48⟩ :: (ob1 ++ [⟨b1, #[.slice A l.length c, .slice B q2 d], 24⟩]) ∧ f = upds j [(1, .pointer (some ⟨b1, 0, none⟩)), (3, u1), (4, .int .i64 (k : Int)), (28, .slice (some ⟨b3, 0, none⟩) 2 2), (29, .int .i64 2), (30, .int .i64 1)] ∧ m = 2) ∨ (∃ (u1 : Value) (acc1 : List Ver) (ob1 : List Blk) (j : Nat → Value), (SlV u1 acc1 ob1 ∧ acc1 = edT l k ++ (edC s.lo ++ edC s.hi)) ∧ L = ⟨b3, #[.int .i64 s.lo.e, .int .i64 s.lo.v.maj, .int .i64 s.lo.v.min, .int .i64 s.lo.v.pat, .string (mkS s.lo.v.pre), .string (mkS s.lo.v.build), .bool s.lo.aft, .int .i64 s.hi.e, .int .i64 s.hi.v.maj, .int .i64 s.hi.v.min, .int .i64 s.hi.v.pat, .string (mkS s.hi.v.pre), .string (mkS s.hi.v.build), .bool s.hi.aft], 48⟩ :: (ob1 ++ [⟨b1, #[.slice A l.length c, .slice B q2 d], 24⟩]) ∧ f = upds j [(1, .pointer (some ⟨b1, 0, none⟩)), (3, u1), (4, .int .i64 (k : Int)), (28, .slice (some ⟨b3, 0, none⟩) 2 2), (29, .int .i64 2), (30, .int .i64 2)] ∧ m = 1)) 3 (.inl ⟨u, acc, ob, _, ⟨hrel.sl, by rw [hrel.eq, List.append_nil]⟩, rfl, upds_self _ ⟨by kernel_rfl, by kernel_rfl, by kernel_rfl, by kernel_rfl, by kernel_rfl, by kernel_rfl, trivial⟩, rfl⟩) ?_
    rintro L f m (⟨u1, acc1, ob1, j, hrel, rfl, rfl, rfl⟩ | ⟨u1, acc1, ob1, j, hrel, rfl, rfl, rfl⟩ | ⟨u1, acc1, ob1, j, hrel, rfl, rfl, rfl⟩)
    · skip
      have hrel1 := hrel; clear hrel; obtain ⟨hsl1, hacc⟩ := hrel1; have hlen1 : acc1.length ≤ 1 + 2 * k + 1 := by rw [hacc, List.length_append]; have := edT_len l k; have := edC_len s.lo; have h0 : ([] : List Ver).length = 0 := rfl; omega
      refine ok_seq ?_
      refine ok_region ?_
      refine s_val (.bool true) (by kernel_rfl) (fun _ => by kernel_rfl) ?_
      refine s_nil ?_
      refine fin_seq ?_
      refine ok_seq ?_
      refine ok_true (by kernel_rfl) ?_
      refine ok_skip ?_
      refine fin_seq ?_
      refine ok_seq ?_
      refine ok_block ?_
      refine ok_seq ?_
      refine ok_region ?_
      refine s_val (.pointer (some ⟨b3, 0, none⟩)) (by kernel_rfl) (run_ixsl (b := b3) (off := 0) (n := 2) (c := 2) (k := .i64) (j := 0) (e := 48) (sz := 7) rfl (by kernel_rfl) (by kernel_rfl) (by kernel_rfl) (by kernel_rfl) (by omega) (by omega) (by rfl)) ?_
      refine s_load 0 ⟨b3, #[.int .i64 s.lo.e, .int .i64 s.lo.v.maj, .int .i64 s.lo.v.min, .int .i64 s.lo.v.pat, .string (mkS s.lo.v.pre), .string (mkS s.lo.v.build), .bool s.lo.aft, .int .i64 s.hi.e, .int .i64 s.hi.v.maj, .int .i64 s.hi.v.min, .int .i64 s.hi.v.pat, .string (mkS s.hi.v.pre), .string (mkS s.hi.v.build), .bool s.hi.aft], 48⟩ (off := 0) (.agg #[.int .i64 s.lo.e, .int .i64 s.lo.v.maj, .int .i64 s.lo.v.min, .int .i64 s.lo.v.pat, .string (mkS s.lo.v.pre), .string (mkS s.lo.v.build), .bool s.lo.aft]) (by kernel_rfl) rfl (by kernel_rfl) (by kernel_rfl) (by kernel_rfl) ?_
      refine s_alloc_at (.agg #[.int .i64 0, .int .i64 0, .int .i64 0, .int .i64 0, .string ⟨#[]⟩, .string ⟨#[]⟩, .bool false]) (by kernel_rfl) rfl (by kernel_rfl) (fun b4 => ?_)
      refine s_store_at 0 ⟨b4, #[.int .i64 0, .int .i64 0, .int .i64 0, .int .i64 0, .string ⟨#[]⟩, .string ⟨#[]⟩, .bool false], 48⟩ (off := 0) (.agg #[.int .i64 s.lo.e, .int .i64 s.lo.v.maj, .int .i64 s.lo.v.min, .int .i64 s.lo.v.pat, .string (mkS s.lo.v.pre), .string (mkS s.lo.v.build), .bool s.lo.aft]) (by kernel_rfl) rfl rfl (by kernel_rfl) (by kernel_rfl) (by kernel_rfl) (by kernel_rfl) (by kernel_rfl) ?_
      refine s_cast (L' := ⟨b4, #[.int .i64 s.lo.e, .int .i64 s.lo.v.maj, .int .i64 s.lo.v.min, .int .i64 s.lo.v.pat, .string (mkS s.lo.v.pre), .string (mkS s.lo.v.build), .bool s.lo.aft], 48⟩ :: (⟨b3, #[.int .i64 s.lo.e, .int .i64 s.lo.v.maj, .int .i64 s.lo.v.min, .int .i64 s.lo.v.pat, .string (mkS s.lo.v.pre), .string (mkS s.lo.v.build), .bool s.lo.aft, .int .i64 s.hi.e, .int .i64 s.hi.v.maj, .int .i64 s.hi.v.min, .int .i64 s.hi.v.pat, .string (mkS s.hi.v.pre), .string (mkS s.hi.v.build), .bool s.hi.aft], 48⟩ :: (ob1 ++ ([⟨b1, #[.slice A l.length c, .slice B q2 d], 24⟩])))) (by kernel_rfl) ?_
      refine s_nil ?_
      refine fin_seq ?_
      refine ok_seq ?_
      refine ok_region ?_
      refine s_val (.pointer (some ⟨b4, 0, none⟩)) (by kernel_rfl) (fun _ => by kernel_rfl) ?_
      refine s_load 0 ⟨b4, #[.int .i64 s.lo.e, .int .i64 s.lo.v.maj, .int .i64 s.lo.v.min, .int .i64 s.lo.v.pat, .string (mkS s.lo.v.pre), .string (mkS s.lo.v.build), .bool s.lo.aft], 48⟩ (off := 0) (.int .i64 s.lo.e) (by kernel_rfl) rfl (by kernel_rfl) (by kernel_rfl) (by kernel_rfl) ?_
      by_cases h2 : (s.lo.e : Int) = 0
      · skip
        refine s_dec (p := (s.lo.e : Int) = 0) true (by kernel_rfl) (fun _ => by kernel_rfl) (decide_eq_true (h2)) ?_
        refine s_nil ?_
        refine fin_seq ?_
        refine ok_true (by kernel_rfl) ?_
        refine ok_region ?_
        refine s_val (u1) (by kernel_rfl) (fun _ => by kernel_rfl) ?_
        refine s_val (.pointer (some ⟨b4, 1, none⟩)) (by kernel_rfl) (fun _ => by kernel_rfl) ?_
        refine s_load 0 ⟨b4, #[.int .i64 s.lo.e, .int .i64 s.lo.v.maj, .int .i64 s.lo.v.min, .int .i64 s.lo.v.pat, .string (mkS s.lo.v.pre), .string (mkS s.lo.v.build), .bool s.lo.aft], 48⟩ (off := 1) (.agg #[.int .i64 s.lo.v.maj, .int .i64 s.lo.v.min, .int .i64 s.lo.v.pat, .string (mkS s.lo.v.pre), .string (mkS s.lo.v.build)]) (by kernel_rfl) rfl (by kernel_rfl) (by kernel_rfl) (by kernel_rfl) ?_
        refine s_lit 26 #[.int .i64 s.lo.v.maj, .int .i64 s.lo.v.min, .int .i64 s.lo.v.pat, .string (mkS s.lo.v.pre), .string (mkS s.lo.v.build)] (by kernel_rfl) rfl (fun _ => by kernel_rfl) (fun b5 => ?_)
        obtain ⟨i0, z0, e1, e2, e3, e4, e5⟩ := ver_info
        have hln : acc1.length ≤ 1 + 2 * k + 1 := hlen1
        have hsl1' := hsl1
        unfold SlV at hsl1'
        refine s_cast (L' := [⟨b5, #[.int .i64 s.lo.v.maj, .int .i64 s.lo.v.min, .int .i64 s.lo.v.pat, .string (mkS s.lo.v.pre), .string (mkS s.lo.v.build)], 26⟩, ⟨b4, #[.int .i64 s.lo.e, .int .i64 s.lo.v.maj, .int .i64 s.lo.v.min, .int .i64 s.lo.v.pat, .string (mkS s.lo.v.pre), .string (mkS s.lo.v.build), .bool s.lo.aft], 48⟩, ⟨b3, #[.int .i64 s.lo.e, .int .i64 s.lo.v.maj, .int .i64 s.lo.v.min, .int .i64 s.lo.v.pat, .string (mkS s.lo.v.pre), .string (mkS s.lo.v.build), .bool s.lo.aft, .int .i64 s.hi.e, .int .i64 s.hi.v.maj, .int .i64 s.hi.v.min, .int .i64 s.hi.v.pat, .string (mkS s.hi.v.pre), .string (mkS s.hi.v.build), .bool s.hi.aft], 48⟩] ++ ob1 ++ [⟨b1, #[.slice A l.length c, .slice B q2 d], 24⟩]) (by rw [List.append_assoc]; kernel_rfl) ?_
        refine s_append (sz := 5) (by kernel_rfl) rfl Tryz.underlying44 e1 e2 e3 e4 (by kernel_rfl) hsl1' (a := ⟨b5, 0, none⟩) (m := 1) (c := 1) (news := verC s.lo.v) (by kernel_rfl) rfl (fun w hO j u hj => ?_) (ver_cells _) (by unfold maxLen; omega) (by rw [e5]; omega) (fun u2 ob2 hu2 => ?_)
        · rw [add_off, cell_of_row w b5 (0 + j) (verC s.lo.v).toArray 26 _ (hO.held ⟨b5, (verC s.lo.v).toArray, 26⟩ (List.mem_append_left _ (List.mem_append_left _ (List.mem_cons_self ..))))]; simpa using hj
        have hu3 : SlV u2 (acc1 ++ [s.lo.v]) ob2 := hu2.to (by simp) (by simp)
        refine s_val (u2) (by kernel_rfl) (fun _ => by kernel_rfl) ?_
        refine s_nil ?_
        refine fin_block ?_
        refine fin_seq ?_
        refine ok_region ?_
        refine s_val (.int .i64 1) (by kernel_rfl) (fun _ => by kernel_rfl) ?_
        refine s_val (.int .i64 1) (by kernel_rfl) (fun _ => by kernel_rfl) ?_
        refine s_nil ?_
        refine fin_take (L' := ⟨b3, #[.int .i64 s.lo.e, .int .i64 s.lo.v.maj, .int .i64 s.lo.v.min, .int .i64 s.lo.v.pat, .string (mkS s.lo.v.pre), .string (mkS s.lo.v.build), .bool s.lo.aft, .int .i64 s.hi.e, .int .i64 s.hi.v.maj, .int .i64 s.hi.v.min, .int .i64 s.hi.v.pat, .string (mkS s.hi.v.pre), .string (mkS s.hi.v.build), .bool s.hi.aft], 48⟩ :: (ob2 ++ [⟨b1, #[.slice A l.length c, .slice B q2 d], 24⟩])) (fun w hO => own_ed1 hO) ?_
        exact fin_round (m' := 2) (by decide) (.inr (.inl ⟨u2, acc1 ++ [s.lo.v], ob2, _, ⟨hu3, by rw [hacc, edC_yes (c := s.lo) h2]; simp⟩, rfl, upds_self _ ⟨by kernel_rfl, by kernel_rfl, by kernel_rfl, by kernel_rfl, by kernel_rfl, by kernel_rfl, trivial⟩, rfl⟩))
      · skip
        refine s_dec (p := (s.lo.e : Int) = 0) false (by kernel_rfl) (fun _ => by kernel_rfl) (decide_eq_false (h2)) ?_
        refine s_nil ?_
        refine fin_seq ?_
        refine ok_false (by kernel_rfl) ?_
        refine ok_skip ?_
        refine fin_block ?_
        refine fin_seq ?_
        refine ok_region ?_
        refine s_val (.int .i64 1) (by kernel_rfl) (fun _ => by kernel_rfl) ?_
        refine s_val (.int .i64 1) (by kernel_rfl) (fun _ => by kernel_rfl) ?_
        refine s_nil ?_
        refine fin_take (L' := ⟨b3, #[.int .i64 s.lo.e, .int .i64 s.lo.v.maj, .int .i64 s.lo.v.min, .int .i64 s.lo.v.pat, .string (mkS s.lo.v.pre), .string (mkS s.lo.v.build), .bool s.lo.aft, .int .i64 s.hi.e, .int .i64 s.hi.v.maj, .int .i64 s.hi.v.min, .int .i64 s.hi.v.pat, .string (mkS s.hi.v.pre), .string (mkS s.hi.v.build), .bool s.hi.aft], 48⟩ :: (ob1 ++ [⟨b1, #[.slice A l.length c, .slice B q2 d], 24⟩])) (fun w hO => own_ed2 hO) ?_
        exact fin_round (m' := 2) (by decide) (.inr (.inl ⟨u1, acc1, ob1, _, ⟨hsl1, by rw [hacc, edC_no (c := s.lo) h2] <;> simp⟩, rfl, upds_self _ ⟨by kernel_rfl, by kernel_rfl, by kernel_rfl, by kernel_rfl, by kernel_rfl, by kernel_rfl, trivial⟩, rfl⟩))
    · skip
      have hrel1 := hrel; clear hrel; obtain ⟨hsl1, hacc⟩ := hrel1; have hlen1 : acc1.length ≤ 1 + 2 * k + 1 := by rw [hacc, List.length_append]; have := edT_len l k; have := edC_len s.lo; have h0 : ([] : List Ver).length = 0 := rfl; omega
      refine ok_seq ?_
      refine ok_region ?_
      refine s_val (.bool true) (by kernel_rfl) (fun _ => by kernel_rfl) ?_
      refine s_nil ?_
      refine fin_seq ?_
      refine ok_seq ?_
      refine ok_true (by kernel_rfl) ?_
      refine ok_skip ?_
      refine fin_seq ?_
      refine ok_seq ?_
      refine ok_block ?_
      refine ok_seq ?_
      refine ok_region ?_
      refine s_val (.pointer (some ⟨b3, 7, none⟩)) (by kernel_rfl) (run_ixsl (b := b3) (off := 0) (n := 2) (c := 2) (k := .i64) (j := 1) (e := 48) (sz := 7) rfl (by kernel_rfl) (by kernel_rfl) (by kernel_rfl) (by kernel_rfl) (by omega) (by omega) (by rfl)) ?_
      refine s_load 0 ⟨b3, #[.int .i64 s.lo.e, .int .i64 s.lo.v.maj, .int .i64 s.lo.v.min, .int .i64 s.lo.v.pat, .string (mkS s.lo.v.pre), .string (mkS s.lo.v.build), .bool s.lo.aft, .int .i64 s.hi.e, .int .i64 s.hi.v.maj, .int .i64 s.hi.v.min, .int .i64 s.hi.v.pat, .string (mkS s.hi.v.pre), .string (mkS s.hi.v.build), .bool s.hi.aft], 48⟩ (off := 7) (.agg #[.int .i64 s.hi.e, .int .i64 s.hi.v.maj, .int .i64 s.hi.v.min, .int .i64 s.hi.v.pat, .string (mkS s.hi.v.pre), .string (mkS s.hi.v.build), .bool s.hi.aft]) (by kernel_rfl) rfl (by kernel_rfl) (by kernel_rfl) (by kernel_rfl) ?_
      refine s_alloc_at (.agg #[.int .i64 0, .int .i64 0, .int .i64 0, .int .i64 0, .string ⟨#[]⟩, .string ⟨#[]⟩, .bool false]) (by kernel_rfl) rfl (by kernel_rfl) (fun b4 => ?_)
      refine s_store_at 0 ⟨b4, #[.int .i64 0, .int .i64 0, .int .i64 0, .int .i64 0, .string ⟨#[]⟩, .string ⟨#[]⟩, .bool false], 48⟩ (off := 0) (.agg #[.int .i64 s.hi.e, .int .i64 s.hi.v.maj, .int .i64 s.hi.v.min, .int .i64 s.hi.v.pat, .string (mkS s.hi.v.pre), .string (mkS s.hi.v.build), .bool s.hi.aft]) (by kernel_rfl) rfl rfl (by kernel_rfl) (by kernel_rfl) (by kernel_rfl) (by kernel_rfl) (by kernel_rfl) ?_
      refine s_cast (L' := ⟨b4, #[.int .i64 s.hi.e, .int .i64 s.hi.v.maj, .int .i64 s.hi.v.min, .int .i64 s.hi.v.pat, .string (mkS s.hi.v.pre), .string (mkS s.hi.v.build), .bool s.hi.aft], 48⟩ :: (⟨b3, #[.int .i64 s.lo.e, .int .i64 s.lo.v.maj, .int .i64 s.lo.v.min, .int .i64 s.lo.v.pat, .string (mkS s.lo.v.pre), .string (mkS s.lo.v.build), .bool s.lo.aft, .int .i64 s.hi.e, .int .i64 s.hi.v.maj, .int .i64 s.hi.v.min, .int .i64 s.hi.v.pat, .string (mkS s.hi.v.pre), .string (mkS s.hi.v.build), .bool s.hi.aft], 48⟩ :: (ob1 ++ ([⟨b1, #[.slice A l.length c, .slice B q2 d], 24⟩])))) (by kernel_rfl) ?_
      refine s_nil ?_
      refine fin_seq ?_
      refine ok_seq ?_
      refine ok_region ?_
      refine s_val (.pointer (some ⟨b4, 0, none⟩)) (by kernel_rfl) (fun _ => by kernel_rfl) ?_
      refine s_load 0 ⟨b4, #[.int .i64 s.hi.e, .int .i64 s.hi.v.maj, .int .i64 s.hi.v.min, .int .i64 s.hi.v.pat, .string (mkS s.hi.v.pre), .string (mkS s.hi.v.build), .bool s.hi.aft], 48⟩ (off := 0) (.int .i64 s.hi.e) (by kernel_rfl) rfl (by kernel_rfl) (by kernel_rfl) (by kernel_rfl) ?_
      by_cases h3 : (s.hi.e : Int) = 0
      · skip
        refine s_dec (p := (s.hi.e : Int) = 0) true (by kernel_rfl) (fun _ => by kernel_rfl) (decide_eq_true (h3)) ?_
        refine s_nil ?_
        refine fin_seq ?_
        refine ok_true (by kernel_rfl) ?_
        refine ok_region ?_
        refine s_val (u1) (by kernel_rfl) (fun _ => by kernel_rfl) ?_
        refine s_val (.pointer (some ⟨b4, 1, none⟩)) (by kernel_rfl) (fun _ => by kernel_rfl) ?_
        refine s_load 0 ⟨b4, #[.int .i64 s.hi.e, .int .i64 s.hi.v.maj, .int .i64 s.hi.v.min, .int .i64 s.hi.v.pat, .string (mkS s.hi.v.pre), .string (mkS s.hi.v.build), .bool s.hi.aft], 48⟩ (off := 1) (.agg #[.int .i64 s.hi.v.maj, .int .i64 s.hi.v.min, .int .i64 s.hi.v.pat, .string (mkS s.hi.v.pre), .string (mkS s.hi.v.build)]) (by kernel_rfl) rfl (by kernel_rfl) (by kernel_rfl) (by kernel_rfl) ?_
        refine s_lit 26 #[.int .i64 s.hi.v.maj, .int .i64 s.hi.v.min, .int .i64 s.hi.v.pat, .string (mkS s.hi.v.pre), .string (mkS s.hi.v.build)] (by kernel_rfl) rfl (fun _ => by kernel_rfl) (fun b5 => ?_)
        obtain ⟨i0, z0, e1, e2, e3, e4, e5⟩ := ver_info
        have hln : acc1.length ≤ 1 + 2 * k + 1 := hlen1
        have hsl1' := hsl1
        unfold SlV at hsl1'
        refine s_cast (L' := [⟨b5, #[.int .i64 s.hi.v.maj, .int .i64 s.hi.v.min, .int .i64 s.hi.v.pat, .string (mkS s.hi.v.pre), .string (mkS s.hi.v.build)], 26⟩, ⟨b4, #[.int .i64 s.hi.e, .int .i64 s.hi.v.maj, .int .i64 s.hi.v.min, .int .i64 s.hi.v.pat, .string (mkS s.hi.v.pre), .string (mkS s.hi.v.build), .bool s.hi.aft], 48⟩, ⟨b3, #[.int .i64 s.lo.e, .int .i64 s.lo.v.maj, .int .i64 s.lo.v.min, .int .i64 s.lo.v.pat, .string (mkS s.lo.v.pre), .string (mkS s.lo.v.build), .bool s.lo.aft, .int .i64 s.hi.e, .int .i64 s.hi.v.maj, .int .i64 s.hi.v.min, .int .i64 s.hi.v.pat, .string (mkS s.hi.v.pre), .string (mkS s.hi.v.build), .bool s.hi.aft], 48⟩] ++ ob1 ++ [⟨b1, #[.slice A l.length c, .slice B q2 d], 24⟩]) (by rw [List.append_assoc]; kernel_rfl) ?_
        refine s_append (sz := 5) (by kernel_rfl) rfl Tryz.underlying44 e1 e2 e3 e4 (by kernel_rfl) hsl1' (a := ⟨b5, 0, none⟩) (m := 1) (c := 1) (news := verC s.hi.v) (by kernel_rfl) rfl (fun w hO j u hj => ?_) (ver_cells _) (by unfold maxLen; omega) (by rw [e5]; omega) (fun u2 ob2 hu2 => ?_)
        · rw [add_off, cell_of_row w b5 (0 + j) (verC s.hi.v).toArray 26 _ (hO.held ⟨b5, (verC s.hi.v).toArray, 26⟩ (List.mem_append_left _ (List.mem_append_left _ (List.mem_cons_self ..))))]; simpa using hj
        have hu3 : SlV u2 (acc1 ++ [s.hi.v]) ob2 := hu2.to (by simp) (by simp)
        refine s_val (u2) (by kernel_rfl) (fun _ => by kernel_rfl) ?_
        refine s_nil ?_
        refine fin_block ?_
        refine fin_seq ?_
        refine ok_region ?_
        refine s_val (.int .i64 2) (by kernel_rfl) (fun _ => by kernel_rfl) ?_
        refine s_val (.int .i64 2) (by kernel_rfl) (fun _ => by kernel_rfl) ?_
        refine s_nil ?_
        refine fin_take (L' := ⟨b3, #[.int .i64 s.lo.e, .int .i64 s.lo.v.maj, .int .i64 s.lo.v.min, .int .i64 s.lo.v.pat, .string (mkS s.lo.v.pre), .string (mkS s.lo.v.build), .bool s.lo.aft, .int .i64 s.hi.e, .int .i64 s.hi.v.maj, .int .i64 s.hi.v.min, .int .i64 s.hi.v.pat, .string (mkS s.hi.v.pre), .string (mkS s.hi.v.build), .bool s.hi.aft], 48⟩ :: (ob2 ++ [⟨b1, #[.slice A l.length c, .slice B q2 d], 24⟩])) (fun w hO => own_ed1 hO) ?_
        exact fin_round (m' := 1) (by decide) (.inr (.inr (⟨u2, acc1 ++ [s.hi.v], ob2, _, ⟨hu3, by rw [hacc, edC_yes (c := s.hi) h3]; simp⟩, rfl, upds_self _ ⟨by kernel_rfl, by kernel_rfl, by kernel_rfl, by kernel_rfl, by kernel_rfl, by kernel_rfl, trivial⟩, rfl⟩)))
      · skip
        refine s_dec (p := (s.hi.e : Int) = 0) false (by kernel_rfl) (fun _ => by kernel_rfl) (decide_eq_false (h3)) ?_
        refine s_nil ?_
        refine fin_seq ?_
        refine ok_false (by kernel_rfl) ?_
        refine ok_skip ?_
        refine fin_block ?_
        refine fin_seq ?_
        refine ok_region ?_
        refine s_val (.int .i64 2) (by kernel_rfl) (fun _ => by kernel_rfl) ?_
        refine s_val (.int .i64 2) (by kernel_rfl) (fun _ => by kernel_rfl) ?_
        refine s_nil ?_
        refine fin_take (L' := ⟨b3, #[.int .i64 s.lo.e, .int .i64 s.lo.v.maj, .int .i64 s.lo.v.min, .int .i64 s.lo.v.pat, .string (mkS s.lo.v.pre), .string (mkS s.lo.v.build), .bool s.lo.aft, .int .i64 s.hi.e, .int .i64 s.hi.v.maj, .int .i64 s.hi.v.min, .int .i64 s.hi.v.pat, .string (mkS s.hi.v.pre), .string (mkS s.hi.v.build), .bool s.hi.aft], 48⟩ :: (ob1 ++ [⟨b1, #[.slice A l.length c, .slice B q2 d], 24⟩])) (fun w hO => own_ed2 hO) ?_
        exact fin_round (m' := 1) (by decide) (.inr (.inr (⟨u1, acc1, ob1, _, ⟨hsl1, by rw [hacc, edC_no (c := s.hi) h3] <;> simp⟩, rfl, upds_self _ ⟨by kernel_rfl, by kernel_rfl, by kernel_rfl, by kernel_rfl, by kernel_rfl, by kernel_rfl, trivial⟩, rfl⟩)))
    · skip
      have hrel1 := hrel; clear hrel; obtain ⟨hsl1, hacc⟩ := hrel1
      refine ok_seq ?_
      refine ok_region ?_
      refine s_val (.bool false) (by kernel_rfl) (fun _ => by kernel_rfl) ?_
      refine s_nil ?_
      refine fin_seq ?_
      refine ok_seq ?_
      refine ok_false (by kernel_rfl) ?_
      refine ok_exit ?_
      refine fin_seq_exit ?_
      refine fin_round_exit ?_
      refine fin_block_exit ?_
      refine fin_block ?_
      refine fin_seq ?_
      refine ok_region ?_
      refine s_val (.int .i64 (k : Int)) (by kernel_rfl) (fun _ => by kernel_rfl) ?_
      refine s_sum (k := .i64) (((k + 1 : Nat) : Int)) (by kernel_rfl) (fun _ => by kernel_rfl) (IntWalk.i64_in _ (by omega)) ?_
      refine s_val (.int .i64 ((k + 1 : Nat) : Int)) (by kernel_rfl) (fun _ => by kernel_rfl) ?_
      refine s_nil ?_
      refine fin_take (L' := ob1 ++ [⟨b1, #[.slice A l.length c, .slice B q2 d], 24⟩]) (fun w hO => Own.sub [_] hO) ?_
      exact fin_round (m' := l.length - (k + 1)) (by omega) ⟨k + 1, u1, acc1, ob1, _, ⟨hlk, hsl1, by rw [hacc, edT_step hlk he, List.append_assoc]⟩, rfl, upds_self _ ⟨by kernel_rfl, by kernel_rfl, by kernel_rfl, trivial⟩, rfl⟩
  · skip
    refine s_dec (p := (k : Int) < (l.length : Int)) false (by kernel_rfl) (fun _ => by kernel_rfl) (decide_eq_false (h1)) ?_
    refine s_nil ?_
    refine fin_seq ?_
    refine ok_false (by kernel_rfl) ?_
    refine ok_exit ?_
    refine fin_seq_exit ?_
    refine fin_round_exit ?_
    refine fin_block_exit ?_
    refine fin_seq ?_
    refine ok_seq ?_
    refine ok_region ?_
    refine s_val (u) (by kernel_rfl) (fun _ => by kernel_rfl) ?_
    refine s_val (u) (by kernel_rfl) (fun _ => by kernel_rfl) ?_
    refine s_nil ?_
    refine fin_seq ?_
    refine ok_ret ?_
    refine fin_ret (u) Tryz.results40 (by kernel_rfl) ?_
    exact fun w hO => ⟨u, ob, rfl, by have h := hrel.eq; unfold edT at h; rw [List.take_of_length_le (by omega)] at h; exact h ▸ hrel.sl, hO.sublist (List.sublist_append_left _ _)⟩
end Go.Proofs.YtgeccfdofmnphaaGreat
end
