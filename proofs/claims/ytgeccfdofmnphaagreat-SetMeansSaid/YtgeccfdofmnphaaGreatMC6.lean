/-
  What the statements' proofs lean on, part 6: each part begins with a remark that says what it proves and on what conditions.
-/
import Derived.Below
import Derived.ChangeSame
import Derived.ProofKit
import Derived.OpenShut
import Derived.LaidSub
import Derived.Carry
import Derived.SliceStrings
import Derived.Lib.LaidTab
import Derived.Deep.DeepHandedRow
import Derived.ChangeSlices
import Derived.Test.YtgeccfdofmnphaaGreatMC5

section
/-
  linchpinlaw5's awake: it returns true; nothing that was there is changed.
-/
namespace Go.Proofs.YtgeccfdofmnphaaGreat
open Go.RowKit
set_option maxRecDepth 100000
set_option linter.unusedVariables false
set_option linter.unusedSimpArgs false
set_option maxHeartbeats 2000000

def aV5 : Ver := ⟨1, 0, 0, [], []⟩
def aP5 : Ver := ⟨1, 0, 0, [97], []⟩
theorem aV5_may : aV5.may = true := by decide +kernel
theorem aP5_may : aP5.may = true := by decide +kernel
theorem aV5_short : aV5.short := ⟨by decide, by decide⟩
theorem aP5_short : aP5.short := ⟨by decide, by decide⟩
theorem aC00 : cmpR aV5 aV5 = 0 := by decide +kernel
theorem aC11 : cmpR aP5 aP5 = 0 := by decide +kernel
theorem aC01 : ¬ cmpR aV5 aP5 = 0 := by decide +kernel
theorem aH00 : setHas (exactT aV5) aV5 = true := (exact_has aV5_may aV5_may).trans (decide_eq_true aC00)
theorem aH01 : setHas (exactT aV5) aP5 = false := (exact_has aV5_may aP5_may).trans (decide_eq_false aC01)
theorem aH11 : setHas (exactT aP5) aP5 = true := (exact_has aP5_may aP5_may).trans (decide_eq_true aC11)
theorem aA01 : andT (exactT aV5) (exactT aP5) = noneT := (exact_apart aV5_may aP5_may).2 aC01
theorem awake5_any (W : World) : Calls Tryz.prog 11 #[] W fun e w' => e = .returned (.bool true) ∧ Below W.heap.size W w' := by
  refine calls_ok (n := 39) Tryz.func11 rfl (by kernel_rfl) (by kernel_rfl) ?_
  refine ok_seq ?_
  refine ok_region ?_
  refine s_val (.bool false) (by kernel_rfl) (fun _ => by kernel_rfl) ?_
  refine s_nil ?_
  refine fin_seq ?_
  refine ok_seq ?_
  refine ok_region ?_
  refine s_val (.agg #[.int .i64 1, .int .i64 0, .int .i64 0, .string ⟨#[]⟩, .string ⟨#[]⟩]) (by kernel_rfl) (fun _ => by kernel_rfl) ?_
  refine s_val (.agg #[.int .i64 1, .int .i64 0, .int .i64 0, .string ⟨#[97]⟩, .string ⟨#[]⟩]) (by kernel_rfl) (fun _ => by kernel_rfl) ?_
  refine s_alloc_at (.agg #[.int .i64 0, .int .i64 0, .int .i64 0, .string ⟨#[]⟩, .string ⟨#[]⟩]) (by kernel_rfl) rfl (by kernel_rfl) (fun b1 => ?_)
  refine s_alloc_at (.agg #[.int .i64 0, .int .i64 0, .int .i64 0, .string ⟨#[]⟩, .string ⟨#[]⟩]) (by kernel_rfl) rfl (by kernel_rfl) (fun b2 => ?_)
  refine s_store_at 1 ⟨b1, #[.int .i64 0, .int .i64 0, .int .i64 0, .string ⟨#[]⟩, .string ⟨#[]⟩], 26⟩ (off := 0) (.agg #[.int .i64 1, .int .i64 0, .int .i64 0, .string ⟨#[]⟩, .string ⟨#[]⟩]) (by kernel_rfl) rfl rfl (by kernel_rfl) (by kernel_rfl) (by kernel_rfl) (by kernel_rfl) (by kernel_rfl) ?_
  refine s_store_at 0 ⟨b2, #[.int .i64 0, .int .i64 0, .int .i64 0, .string ⟨#[]⟩, .string ⟨#[]⟩], 26⟩ (off := 0) (.agg #[.int .i64 1, .int .i64 0, .int .i64 0, .string ⟨#[97]⟩, .string ⟨#[]⟩]) (by kernel_rfl) rfl rfl (by kernel_rfl) (by kernel_rfl) (by kernel_rfl) (by kernel_rfl) (by kernel_rfl) ?_
  refine s_nil ?_
  refine fin_seq ?_
  refine ok_seq ?_
  refine ok_region ?_
  refine s_load 1 ⟨b1, #[.int .i64 1, .int .i64 0, .int .i64 0, .string ⟨#[]⟩, .string ⟨#[]⟩], 26⟩ (off := 0) (.agg #[.int .i64 1, .int .i64 0, .int .i64 0, .string ⟨#[]⟩, .string ⟨#[]⟩]) (by kernel_rfl) rfl (by kernel_rfl) (by kernel_rfl) (by kernel_rfl) ?_
  refine s_callo (k := 19) (args := #[.agg #[.int .i64 1, .int .i64 0, .int .i64 0, .string ⟨#[]⟩, .string ⟨#[]⟩]]) (fun v' L' => ∃ ob', L' = ob' ++ ([⟨b2, #[.int .i64 1, .int .i64 0, .int .i64 0, .string ⟨#[97]⟩, .string ⟨#[]⟩], 26⟩, ⟨b1, #[.int .i64 1, .int .i64 0, .int .i64 0, .string ⟨#[]⟩, .string ⟨#[]⟩], 26⟩]) ∧ SetO v' (exactT aV5) ob') (by kernel_rfl) (fun _ => by kernel_rfl) (fun w hO => (sExact_any aV5 w aV5_short).mono fun e w' ⟨v', ob', k1, k2, k3⟩ => ⟨v', _, k1, ⟨ob', rfl, k2⟩, Own.joinN hO k3⟩) (fun v1 L1 hv1 => ?_)
  obtain ⟨o1, rfl, hr1⟩ := hv1
  obtain ⟨V1, U1, c1, d1, rfl⟩ := hr1.form
  refine s_alloc_at (.agg #[.slice none 0 0, .slice none 0 0]) (by kernel_rfl) rfl (by kernel_rfl) (fun b3 => ?_)
  refine s_store_at 0 ⟨b3, #[.slice none 0 0, .slice none 0 0], 24⟩ (off := 0) (.agg #[.slice V1 ((exactT aV5).rel.length) c1, .slice U1 ((exactT aV5).pre.length) d1]) (by kernel_rfl) rfl rfl (by kernel_rfl) (by kernel_rfl) (by kernel_rfl) (by kernel_rfl) (by kernel_rfl) ?_
  refine s_nil ?_
  refine fin_seq ?_
  refine ok_seq ?_
  refine ok_anyh (by kernel_rfl) ?_
  refine h_load 0 [] _ 0 ⟨b3, #[.slice V1 ((exactT aV5).rel.length) c1, .slice U1 ((exactT aV5).pre.length) d1], 24⟩ (off := 0) (.agg #[.slice V1 ((exactT aV5).rel.length) c1, .slice U1 ((exactT aV5).pre.length) d1]) rfl (by kernel_rfl) (by kernel_rfl) (by kernel_rfl) (pq_seq pq_body) (by kernel_rfl) rfl (by kernel_rfl) (by kernel_rfl) (by kernel_rfl) ?_
  refine h_loadm 1 [] _ ⟨b1, #[.int .i64 1, .int .i64 0, .int .i64 0, .string ⟨#[]⟩, .string ⟨#[]⟩], 26⟩ (off := 0) (.agg #[.int .i64 1, .int .i64 0, .int .i64 0, .string ⟨#[]⟩, .string ⟨#[]⟩]) rfl (by kernel_rfl) (by kernel_rfl) (by kernel_rfl) (pq_seq pq_body) (by kernel_rfl) rfl (by simp) (by kernel_rfl) (by kernel_rfl) ?_
  refine h_one 2 (by kernel_rfl) ?_
  refine hs_call [] _ (k := 16) (args := #[.agg #[.slice V1 ((exactT aV5).rel.length) c1, .slice U1 ((exactT aV5).pre.length) d1], .agg #[.int .i64 1, .int .i64 0, .int .i64 0, .string ⟨#[]⟩, .string ⟨#[]⟩]]) (.bool true) rfl (by kernel_rfl) (fun _ => by kernel_rfl) (fun w hO => ret_b (aH00) (sHas_any V1 U1 c1 d1 (exactT aV5) aV5 w (SetO.inn hr1 hO (fun x hx => by simp [hx]) (exact_sf aV5) (by decide)) aV5_short hr1.caps)) ?_
  refine h_take 3 [] _ (.bool true) rfl (by kernel_rfl) (by kernel_rfl) (by kernel_rfl) (pq_seq pq_body) (by kernel_rfl) (fun _ _ => by kernel_rfl) ?_
  refine h_load 4 [] _ 0 ⟨b3, #[.slice V1 ((exactT aV5).rel.length) c1, .slice U1 ((exactT aV5).pre.length) d1], 24⟩ (off := 0) (.agg #[.slice V1 ((exactT aV5).rel.length) c1, .slice U1 ((exactT aV5).pre.length) d1]) rfl (by kernel_rfl) (by kernel_rfl) (by kernel_rfl) (pq_seq pq_body) (by kernel_rfl) rfl (by kernel_rfl) (by kernel_rfl) (by kernel_rfl) ?_
  refine h_loadm 5 [] _ ⟨b2, #[.int .i64 1, .int .i64 0, .int .i64 0, .string ⟨#[97]⟩, .string ⟨#[]⟩], 26⟩ (off := 0) (.agg #[.int .i64 1, .int .i64 0, .int .i64 0, .string ⟨#[97]⟩, .string ⟨#[]⟩]) rfl (by kernel_rfl) (by kernel_rfl) (by kernel_rfl) (pq_seq pq_body) (by kernel_rfl) rfl (by simp) (by kernel_rfl) (by kernel_rfl) ?_
  refine h_one 6 (by kernel_rfl) ?_
  refine hs_call [] _ (k := 16) (args := #[.agg #[.slice V1 ((exactT aV5).rel.length) c1, .slice U1 ((exactT aV5).pre.length) d1], .agg #[.int .i64 1, .int .i64 0, .int .i64 0, .string ⟨#[97]⟩, .string ⟨#[]⟩]]) (.bool false) rfl (by kernel_rfl) (fun _ => by kernel_rfl) (fun w hO => ret_b (aH01) (sHas_any V1 U1 c1 d1 (exactT aV5) aP5 w (SetO.inn hr1 hO (fun x hx => by simp [hx]) (exact_sf aV5) (by decide)) aP5_short hr1.caps)) ?_
  refine h_take 7 [] _ (.bool true) rfl (by kernel_rfl) (by kernel_rfl) (by kernel_rfl) (pq_seq pq_body) (by kernel_rfl) (fun _ _ => by kernel_rfl) ?_
  refine h_take 8 [] _ (.bool true) rfl (by kernel_rfl) (by kernel_rfl) (by kernel_rfl) (pq_seq pq_body) (by kernel_rfl) (fun _ _ => by kernel_rfl) ?_
  refine h_take 9 [] _ (.bool true) rfl (by kernel_rfl) (by kernel_rfl) (by kernel_rfl) (pq_seq pq_body) (by kernel_rfl) (fun _ _ => by kernel_rfl) ?_
  refine h_loadm 10 [] _ ⟨b2, #[.int .i64 1, .int .i64 0, .int .i64 0, .string ⟨#[97]⟩, .string ⟨#[]⟩], 26⟩ (off := 0) (.agg #[.int .i64 1, .int .i64 0, .int .i64 0, .string ⟨#[97]⟩, .string ⟨#[]⟩]) rfl (by kernel_rfl) (by kernel_rfl) (by kernel_rfl) (pq_seq pq_body) (by kernel_rfl) rfl (by simp) (by kernel_rfl) (by kernel_rfl) ?_
  refine h_loadm 12 [] _ ⟨b2, #[.int .i64 1, .int .i64 0, .int .i64 0, .string ⟨#[97]⟩, .string ⟨#[]⟩], 26⟩ (off := 0) (.agg #[.int .i64 1, .int .i64 0, .int .i64 0, .string ⟨#[97]⟩, .string ⟨#[]⟩]) rfl (by kernel_rfl) (by kernel_rfl) (by kernel_rfl) (pq_seq pq_body) (by kernel_rfl) rfl (by simp) (by kernel_rfl) (by kernel_rfl) ?_
  refine h_one 11 (by kernel_rfl) ?_
  refine hl_callx _ (k := 19) (args := #[.agg #[.int .i64 1, .int .i64 0, .int .i64 0, .string ⟨#[97]⟩, .string ⟨#[]⟩]]) (fun v' L' => ∃ ob', L' = ob' ++ ([] ++ (⟨b3, #[.slice V1 ((exactT aV5).rel.length) c1, .slice U1 ((exactT aV5).pre.length) d1], 24⟩ :: (o1 ++ ([⟨b2, #[.int .i64 1, .int .i64 0, .int .i64 0, .string ⟨#[97]⟩, .string ⟨#[]⟩], 26⟩, ⟨b1, #[.int .i64 1, .int .i64 0, .int .i64 0, .string ⟨#[]⟩, .string ⟨#[]⟩], 26⟩])))) ∧ SetO v' (exactT aP5) ob') rfl (by kernel_rfl) (fun _ => by kernel_rfl) (fun w hO => (sExact_any aP5 w aP5_short).mono fun e w' ⟨v', ob', k1, k2, k3⟩ => ⟨v', _, k1, ⟨ob', rfl, k2⟩, Own.joinN hO k3⟩) (fun v' L' ⟨ob', e, _⟩ w hO => by subst e; exact Own.sub [] (Own.sub ob' hO)) (fun v2 L2 hv2 => ?_)
  obtain ⟨o2, rfl, hr2⟩ := hv2
  obtain ⟨V2, U2, c2, d2, rfl⟩ := hr2.form
  refine h_cast (L' := (o2 ++ ([] : List Blk)) ++ (⟨b3, #[.slice V1 ((exactT aV5).rel.length) c1, .slice U1 ((exactT aV5).pre.length) d1], 24⟩ :: (o1 ++ ([⟨b2, #[.int .i64 1, .int .i64 0, .int .i64 0, .string ⟨#[97]⟩, .string ⟨#[]⟩], 26⟩, ⟨b1, #[.int .i64 1, .int .i64 0, .int .i64 0, .string ⟨#[]⟩, .string ⟨#[]⟩], 26⟩])))) (List.append_assoc _ _ _).symm ?_
  refine h_one 13 (by kernel_rfl) ?_
  refine hs_call (o2 ++ ([] : List Blk)) _ (k := 16) (args := #[.agg #[.slice V2 ((exactT aP5).rel.length) c2, .slice U2 ((exactT aP5).pre.length) d2], .agg #[.int .i64 1, .int .i64 0, .int .i64 0, .string ⟨#[97]⟩, .string ⟨#[]⟩]]) (.bool true) rfl (by kernel_rfl) (fun _ => by kernel_rfl) (fun w hO => ret_b (aH11) (sHas_any V2 U2 c2 d2 (exactT aP5) aP5 w (SetO.inn hr2 hO (fun x hx => by simp [hx]) (exact_sf aP5) (by decide)) aP5_short hr2.caps)) ?_
  refine h_take 14 (o2 ++ ([] : List Blk)) _ (.bool true) rfl (by kernel_rfl) (by kernel_rfl) (by kernel_rfl) (pq_seq pq_body) (by kernel_rfl) (fun _ _ => by kernel_rfl) ?_
  refine h_take 15 (o2 ++ ([] : List Blk)) _ (.bool true) rfl (by kernel_rfl) (by kernel_rfl) (by kernel_rfl) (pq_seq pq_body) (by kernel_rfl) (fun _ _ => by kernel_rfl) ?_
  refine h_one 16 (by kernel_rfl) ?_
  refine hs_call (o2 ++ ([] : List Blk)) _ (k := 37) (args := #[]) (.agg #[.slice none 0 0, .slice none 0 0]) rfl (by kernel_rfl) (fun _ => by kernel_rfl) (fun w _ => sNone_any w) ?_
  refine h_one 17 (by kernel_rfl) ?_
  refine hl_callx _ (k := 25) (args := #[.agg #[.slice none 0 0, .slice none 0 0]]) (fun v' L' => ∃ ob', L' = ob' ++ ((o2 ++ ([] : List Blk)) ++ (⟨b3, #[.slice V1 ((exactT aV5).rel.length) c1, .slice U1 ((exactT aV5).pre.length) d1], 24⟩ :: (o1 ++ ([⟨b2, #[.int .i64 1, .int .i64 0, .int .i64 0, .string ⟨#[97]⟩, .string ⟨#[]⟩], 26⟩, ⟨b1, #[.int .i64 1, .int .i64 0, .int .i64 0, .string ⟨#[]⟩, .string ⟨#[]⟩], 26⟩])))) ∧ SetO v' (notT noneT) ob') rfl (by kernel_rfl) (fun _ => by kernel_rfl) (fun w hO => (sNot_any none none 0 0 noneT w (none_in _ _) ⟨Nat.le_refl 0, Nat.le_refl 0⟩).mono fun e w' ⟨v', ob', k1, k2, k3⟩ => ⟨v', _, k1, ⟨ob', rfl, by rw [if_pos (none_sf).may] at k2; exact k2⟩, Own.joinN hO k3⟩) (fun v' L' ⟨ob', e, _⟩ w hO => by subst e; exact Own.sub (o2 ++ ([] : List Blk)) (Own.sub ob' hO)) (fun v3 L2 hv2 => ?_)
  obtain ⟨o3, rfl, hr3⟩ := hv2
  obtain ⟨V3, U3, c3, d3, rfl⟩ := hr3.form
  refine h_cast (L' := (o3 ++ (o2 ++ ([] : List Blk))) ++ (⟨b3, #[.slice V1 ((exactT aV5).rel.length) c1, .slice U1 ((exactT aV5).pre.length) d1], 24⟩ :: (o1 ++ ([⟨b2, #[.int .i64 1, .int .i64 0, .int .i64 0, .string ⟨#[97]⟩, .string ⟨#[]⟩], 26⟩, ⟨b1, #[.int .i64 1, .int .i64 0, .int .i64 0, .string ⟨#[]⟩, .string ⟨#[]⟩], 26⟩])))) (List.append_assoc _ _ _).symm ?_
  refine h_one 18 (by kernel_rfl) ?_
  refine hl_callx _ (k := 36) (args := #[]) (fun v' L' => ∃ ob', L' = ob' ++ ((o3 ++ (o2 ++ ([] : List Blk))) ++ (⟨b3, #[.slice V1 ((exactT aV5).rel.length) c1, .slice U1 ((exactT aV5).pre.length) d1], 24⟩ :: (o1 ++ ([⟨b2, #[.int .i64 1, .int .i64 0, .int .i64 0, .string ⟨#[97]⟩, .string ⟨#[]⟩], 26⟩, ⟨b1, #[.int .i64 1, .int .i64 0, .int .i64 0, .string ⟨#[]⟩, .string ⟨#[]⟩], 26⟩])))) ∧ SetO v' (allT) ob') rfl (by kernel_rfl) (fun _ => by kernel_rfl) (fun w hO => (sAll_any w).mono fun e w' ⟨v', ob', k1, k2, k3⟩ => ⟨v', _, k1, ⟨ob', rfl, k2⟩, Own.joinN hO k3⟩) (fun v' L' ⟨ob', e, _⟩ w hO => by subst e; exact Own.sub (o3 ++ (o2 ++ ([] : List Blk))) (Own.sub ob' hO)) (fun v4 L2 hv2 => ?_)
  obtain ⟨o4, rfl, hr4⟩ := hv2
  obtain ⟨V4, U4, c4, d4, rfl⟩ := hr4.form
  refine h_cast (L' := (o4 ++ (o3 ++ (o2 ++ ([] : List Blk)))) ++ (⟨b3, #[.slice V1 ((exactT aV5).rel.length) c1, .slice U1 ((exactT aV5).pre.length) d1], 24⟩ :: (o1 ++ ([⟨b2, #[.int .i64 1, .int .i64 0, .int .i64 0, .string ⟨#[97]⟩, .string ⟨#[]⟩], 26⟩, ⟨b1, #[.int .i64 1, .int .i64 0, .int .i64 0, .string ⟨#[]⟩, .string ⟨#[]⟩], 26⟩])))) (List.append_assoc _ _ _).symm ?_
  refine h_one 19 (by kernel_rfl) ?_
  refine hs_call (o4 ++ (o3 ++ (o2 ++ ([] : List Blk)))) _ (k := 33) (args := #[.agg #[.slice V3 ((notT noneT).rel.length) c3, .slice U3 ((notT noneT).pre.length) d3], .agg #[.slice V4 ((allT).rel.length) c4, .slice U4 ((allT).pre.length) d4]]) (.bool true) rfl (by kernel_rfl) (fun _ => by kernel_rfl) (fun w hO => ret_b ((same_b _ _).trans (decide_eq_true (notT_none))) (sSame_any V3 U3 V4 U4 c3 d3 c4 d4 (notT noneT) allT w (SetO.inn hr3 hO (fun x hx => by simp [hx]) ((none_sf).not) (by decide)) (SetO.inn hr4 hO (fun x hx => by simp [hx]) (all_sf) (by decide)) hr3.caps hr4.caps)) ?_
  refine h_take 20 (o4 ++ (o3 ++ (o2 ++ ([] : List Blk)))) _ (.bool true) rfl (by kernel_rfl) (by kernel_rfl) (by kernel_rfl) (pq_seq pq_body) (by kernel_rfl) (fun _ _ => by kernel_rfl) ?_
  refine h_take 21 (o4 ++ (o3 ++ (o2 ++ ([] : List Blk)))) _ (.bool true) rfl (by kernel_rfl) (by kernel_rfl) (by kernel_rfl) (pq_seq pq_body) (by kernel_rfl) (fun _ _ => by kernel_rfl) ?_
  refine h_load 22 (o4 ++ (o3 ++ (o2 ++ ([] : List Blk)))) _ 0 ⟨b3, #[.slice V1 ((exactT aV5).rel.length) c1, .slice U1 ((exactT aV5).pre.length) d1], 24⟩ (off := 0) (.agg #[.slice V1 ((exactT aV5).rel.length) c1, .slice U1 ((exactT aV5).pre.length) d1]) rfl (by kernel_rfl) (by kernel_rfl) (by kernel_rfl) (pq_seq pq_body) (by kernel_rfl) rfl (by kernel_rfl) (by kernel_rfl) (by kernel_rfl) ?_
  refine h_loadm 23 (o4 ++ (o3 ++ (o2 ++ ([] : List Blk)))) _ ⟨b2, #[.int .i64 1, .int .i64 0, .int .i64 0, .string ⟨#[97]⟩, .string ⟨#[]⟩], 26⟩ (off := 0) (.agg #[.int .i64 1, .int .i64 0, .int .i64 0, .string ⟨#[97]⟩, .string ⟨#[]⟩]) rfl (by kernel_rfl) (by kernel_rfl) (by kernel_rfl) (pq_seq pq_body) (by kernel_rfl) rfl (by simp) (by kernel_rfl) (by kernel_rfl) ?_
  refine h_one 24 (by kernel_rfl) ?_
  refine hl_callx _ (k := 19) (args := #[.agg #[.int .i64 1, .int .i64 0, .int .i64 0, .string ⟨#[97]⟩, .string ⟨#[]⟩]]) (fun v' L' => ∃ ob', L' = ob' ++ ((o4 ++ (o3 ++ (o2 ++ ([] : List Blk)))) ++ (⟨b3, #[.slice V1 ((exactT aV5).rel.length) c1, .slice U1 ((exactT aV5).pre.length) d1], 24⟩ :: (o1 ++ ([⟨b2, #[.int .i64 1, .int .i64 0, .int .i64 0, .string ⟨#[97]⟩, .string ⟨#[]⟩], 26⟩, ⟨b1, #[.int .i64 1, .int .i64 0, .int .i64 0, .string ⟨#[]⟩, .string ⟨#[]⟩], 26⟩])))) ∧ SetO v' (exactT aP5) ob') rfl (by kernel_rfl) (fun _ => by kernel_rfl) (fun w hO => (sExact_any aP5 w aP5_short).mono fun e w' ⟨v', ob', k1, k2, k3⟩ => ⟨v', _, k1, ⟨ob', rfl, k2⟩, Own.joinN hO k3⟩) (fun v' L' ⟨ob', e, _⟩ w hO => by subst e; exact Own.sub (o4 ++ (o3 ++ (o2 ++ ([] : List Blk)))) (Own.sub ob' hO)) (fun v5 L2 hv2 => ?_)
  obtain ⟨o5, rfl, hr5⟩ := hv2
  obtain ⟨V5, U5, c5, d5, rfl⟩ := hr5.form
  refine h_cast (L' := (o5 ++ (o4 ++ (o3 ++ (o2 ++ ([] : List Blk))))) ++ (⟨b3, #[.slice V1 ((exactT aV5).rel.length) c1, .slice U1 ((exactT aV5).pre.length) d1], 24⟩ :: (o1 ++ ([⟨b2, #[.int .i64 1, .int .i64 0, .int .i64 0, .string ⟨#[97]⟩, .string ⟨#[]⟩], 26⟩, ⟨b1, #[.int .i64 1, .int .i64 0, .int .i64 0, .string ⟨#[]⟩, .string ⟨#[]⟩], 26⟩])))) (List.append_assoc _ _ _).symm ?_
  refine h_one 25 (by kernel_rfl) ?_
  refine hs_call (o5 ++ (o4 ++ (o3 ++ (o2 ++ ([] : List Blk))))) _ (k := 31) (args := #[.agg #[.slice V1 ((exactT aV5).rel.length) c1, .slice U1 ((exactT aV5).pre.length) d1], .agg #[.slice V5 ((exactT aP5).rel.length) c5, .slice U5 ((exactT aP5).pre.length) d5]]) (.bool true) rfl (by kernel_rfl) (fun _ => by kernel_rfl) (fun w hO => ret_b ((apart_b (exact_sf aV5) (exact_sf aP5)).trans (decide_eq_true (aA01))) (sApart_any V1 U1 V5 U5 c1 d1 c5 d5 (exactT aV5) (exactT aP5) w (SetO.inn hr1 hO (fun x hx => by simp [hx]) (exact_sf aV5) (by decide)) (SetO.inn hr5 hO (fun x hx => by simp [hx]) (exact_sf aP5) (by decide)) hr1.caps hr5.caps (Nat.le_trans (exact_sf aV5).rel.len (by decide)) (Nat.le_trans (exact_sf aV5).pre.len (by decide)) (Nat.le_trans (exact_sf aP5).rel.len (by decide)) (Nat.le_trans (exact_sf aP5).pre.len (by decide)))) ?_
  refine h_take 26 (o5 ++ (o4 ++ (o3 ++ (o2 ++ ([] : List Blk))))) _ (.bool true) rfl (by kernel_rfl) (by kernel_rfl) (by kernel_rfl) (pq_seq pq_body) (by kernel_rfl) (fun _ _ => by kernel_rfl) ?_
  refine h_take 27 (o5 ++ (o4 ++ (o3 ++ (o2 ++ ([] : List Blk))))) _ (.bool true) rfl (by kernel_rfl) (by kernel_rfl) (by kernel_rfl) (pq_seq pq_body) (by kernel_rfl) (fun _ _ => by kernel_rfl) ?_
  refine h_load 28 (o5 ++ (o4 ++ (o3 ++ (o2 ++ ([] : List Blk))))) _ 0 ⟨b3, #[.slice V1 ((exactT aV5).rel.length) c1, .slice U1 ((exactT aV5).pre.length) d1], 24⟩ (off := 0) (.agg #[.slice V1 ((exactT aV5).rel.length) c1, .slice U1 ((exactT aV5).pre.length) d1]) rfl (by kernel_rfl) (by kernel_rfl) (by kernel_rfl) (pq_seq pq_body) (by kernel_rfl) rfl (by kernel_rfl) (by kernel_rfl) (by kernel_rfl) ?_
  refine h_one 29 (by kernel_rfl) ?_
  refine hs_call (o5 ++ (o4 ++ (o3 ++ (o2 ++ ([] : List Blk))))) _ (k := 14) (args := #[.agg #[.slice V1 ((exactT aV5).rel.length) c1, .slice U1 ((exactT aV5).pre.length) d1]]) (.bool true) rfl (by kernel_rfl) (fun _ => by kernel_rfl) (fun w hO => ret_b (exact_sf aV5).may (sMay_any V1 U1 c1 d1 (exactT aV5) w (SetO.inn hr1 hO (fun x hx => by simp [hx]) (exact_sf aV5) (by decide)) hr1.caps)) ?_
  refine h_take 30 (o5 ++ (o4 ++ (o3 ++ (o2 ++ ([] : List Blk))))) _ (.bool true) rfl (by kernel_rfl) (by kernel_rfl) (by kernel_rfl) (pq_seq pq_body) (by kernel_rfl) (fun _ _ => by kernel_rfl) ?_
  refine h_take 31 (o5 ++ (o4 ++ (o3 ++ (o2 ++ ([] : List Blk))))) _ (.bool true) rfl (by kernel_rfl) (by kernel_rfl) (by kernel_rfl) (pq_seq pq_body) (by kernel_rfl) (fun _ _ => by kernel_rfl) ?_
  refine h_drop (o5 ++ (o4 ++ (o3 ++ (o2 ++ ([] : List Blk))))) ?_
  refine h_done (by kernel_rfl) ?_
  refine fin_seq ?_
  refine ok_ret ?_
  refine fin_ret (.bool true) Tryz.results11 (by kernel_rfl) ?_
  exact fun w hO => ⟨rfl, hO.below⟩
end Go.Proofs.YtgeccfdofmnphaaGreat
end

section
/-
  What every statement of this seat's proof leans on at its end: from 'the call returns true and below the heap's old end nothing has changed' to the row's own words; the table that the row lists, read as a walk needs it. Conditions: none of its own.
-/
namespace Go.Proofs.YtgeccfdofmnphaaGreat
open Go.ChangeShapes Go.WideShapes Go.ChangeAt Go.RowKit

theorem own : ownKnob Tryz.prog.godebug = none := by kernel_rfl

theorem trodAll_stays {H : Type} {enc : TypeId × Value → H} {P : Program} (hl : laidOutB P = true) {W W' : World} (hb : Below W.heap.size W W') :
    ∀ (ts : List TypeId), (∀ t ∈ ts, P.readableRec t = true ∧ t < P.types.size) → ∀ (vs : List Value) (ds : List (DataW H)) (ps : List MemPlace), DataW.TrodAll enc P W 0 (fun _ => true) true ts vs ds ps → (∀ p ∈ ps, p.block < W.heap.size) →
      DataW.TrodAll enc P W' 0 (fun b => decide (b < W.heap.size)) true ts vs ds ps
  | [], _, vs, ds, ps, h, _ => by
    obtain ⟨rfl, rfl, rfl⟩ := trodAll_nil h
    exact trodAll_mk0
  | t :: ts, hr, vs, ds, ps, h, hlt => by
    obtain ⟨v, vs', d, ds', p, q, rfl, rfl, rfl, hd, hrest⟩ := trodAll_cons h
    exact ⟨p, q, Go.RowKit.Below.trod hl (hr t (by simp)).1 (hr t (by simp)).2 hd hb.old (fun x hx => hlt x (by simp [hx])), trodAll_stays hl hb ts (fun t' ht' => hr t' (by simp [ht'])) vs' ds' q hrest (fun x hx => hlt x (by simp [hx])), rfl⟩

/-- The end of a statement's row: the call has returned true, and below the heap's old end nothing has changed. -/
theorem law_end {H : Type} {enc : TypeId × Value → H} {P : Program} {f : Func} {s : ChangeSpec} {W W' : World} {args : Array Value} {ds gs : List (DataW H)} {before : List MemPlace} {T : TypeId}
    (hl : laidOutB P = true) (hr : ∀ t ∈ f.params.toList, P.readableRec t = true ∧ t < P.types.size) (hv : s.vars = []) (hT : f.resultTypes = #[T]) (hB : P.underlying T = some .bool)
    (hW : DataW.Whole enc P f.params.toList s.vars false W args.toList ds gs before) (hf : s.fn H (ds ++ gs) = { results := [.lit (.bool true)], args := ds }) (hb : Below W.heap.size W W') :
    s.post enc P f false true false false W args (.bool true) W' := by
  have hlt : ∀ p ∈ before, p.block < W.heap.size := fun p hp => hW.lt p hp
  have hW' := hW
  obtain ⟨p, q, hA, hV, rfl, _, _⟩ := hW
  rw [hv] at hV
  obtain ⟨rfl, rfl⟩ := trodVars_none hV
  have h2 := trodAll_stays hl hb _ hr _ _ _ hA (fun x hx => hlt x (by simp [hx]))
  refine ⟨ds, [], p ++ [], [], p, [], hW', ?_, ?_, ?_, World.keptBut_mono (fun x hx => ⟨hx, Or.inr (Or.inl (by simpa using hx))⟩) (hb.frame (· ∈ p ++ [])), fun h => by cases h⟩
  · rw [hf, hT]
    exact trodAll_cons_mk (shut_bool hB true) trodAll_mk0
  · rw [hf]; exact h2
  · rw [hf, hv]; rfl
theorem laidOut : laidOutB Tryz.prog = true := by kernel_rfl

theorem cell_lt {W : World} {a : Addr} {v : Value} (h : W.cell? a = some v) : a.block < W.heap.size := by
  rcases Nat.lt_or_ge a.block W.heap.size with h1 | h1
  · exact h1
  · unfold World.cell? at h
    rw [Array.getElem?_eq_none h1] at h
    simp at h
/-- The cells that a table of integers lays. -/
def tabCells : DataW Unit → Array Value
  | .agg l => (l.map fun d => match d with | .lit (.int k n) => Value.int k n | _ => Value.int .i64 0).toArray
  | _ => #[]
def layAt (h : Array Obj) (g : Nat) (d : DataW Unit) : Array Obj := h.modify g fun
  | .cells _ t frozen => .cells (tabCells d) t frozen
  | o => o

end Go.Proofs.YtgeccfdofmnphaaGreat
end

section
/-
  A parameter that is a slice of ints: it reads as a list, out of the row's own conditions.
-/
namespace Go.Proofs.YtgeccfdofmnphaaGreat
open Go.ChangeShapes Go.WideShapes Go.ChangeAt Go.RowKit

set_option maxRecDepth 100000 in
theorem open_nums {H : Type} {enc : TypeId × Value → H} {W : World} {base : Nat} {v : Value} {d : DataW H} {ps : List MemPlace} (hval : Value.okWide Tryz.prog W .any base 36 v)
    (h : DataW.Trod enc Tryz.prog W 0 (fun _ => true) true 36 v d ps) : ∃ l : List Int, ReadsI W W.heap.size v l ∧ l.length ≤ maxLen := by
  obtain ⟨A, len, cap, rfl⟩ := okWide_slice Tryz.underlying36 hval
  obtain ⟨fuel, hf⟩ := h
  rcases open_ints Tryz.underlying36 Tryz.underlying3 (by kernel_rfl) hf with ⟨hcs, _⟩ | ⟨a, len', cap', zs, hcs, _, hl, hm, hz, _, hcell, _⟩
  · simp [Value.cells] at hcs
    obtain ⟨rfl, rfl, rfl⟩ := hcs
    exact ⟨[], ⟨none, 0, rfl, fun h => by cases h⟩, by simp⟩
  · simp [Value.cells] at hcs
    obtain ⟨rfl, rfl, rfl⟩ := hcs
    simp only [if_true] at hz
    have hlen : (zs.take len).length = len := by rw [List.length_take]; omega
    refine ⟨zs.take len, ⟨some a, cap, by rw [hlen], fun h0 => ⟨a, rfl, ?_, fun j hj => ?_⟩⟩, by rw [hlen]; omega⟩
    · have := cell_lt (hcell 0 (by omega))
      rwa [add_block] at this
    · have hj2 : j < zs.length := by omega
      rw [hcell j hj2, List.getElem_take]
      simp only [List.getD, List.getElem?_eq_getElem hj2, Option.getD_some]
end Go.Proofs.YtgeccfdofmnphaaGreat
end
