/-
  SetAlgebra: for every input the call returns true, and each argument reads afterwards as it read before. Conditions: none but the row's own.
-/
import Derived.Test.YtgeccfdofmnphaaGreatRows
import Derived.Test.YtgeccfdofmnphaaGreatMB6

section
/-
  SetAlgebra: for any two sets the law returns true, and nothing that was there is changed. No condition.
-/
namespace Go.Proofs.YtgeccfdofmnphaaGreat
open Go.RowKit
set_option maxRecDepth 100000
set_option linter.unusedVariables false
set_option linter.unusedSimpArgs false
set_option maxHeartbeats 2000000

set_option maxHeartbeats 8000000 in
theorem setAlgebra.law (W : World) (A B : Option Addr) (c d : Nat) (a : St) (ra : Reads spanC W W.heap.size A a.rel) (pa : Reads spanC W W.heap.size B a.pre) (ca : a.rel.length ≤ c ∧ a.pre.length ≤ d) (A' B' : Option Addr) (c' d' : Nat) (b : St) (rb : Reads spanC W W.heap.size A' b.rel) (pb : Reads spanC W W.heap.size B' b.pre) (cb : b.rel.length ≤ c' ∧ b.pre.length ≤ d') :
    Calls Tryz.prog 4 #[.agg #[.slice A a.rel.length c, .slice B a.pre.length d], .agg #[.slice A' b.rel.length c', .slice B' b.pre.length d']] W fun e w' => e = .returned (.bool true) ∧ Below W.heap.size W w' := by
  refine calls_ok (n := 80) Tryz.func4 rfl (by kernel_rfl) (by kernel_rfl) ?_
  refine ok_seq ?_
  refine ok_region ?_
  refine s_box (.agg #[.slice A a.rel.length c, .slice B a.pre.length d]) (by kernel_rfl) rfl (by kernel_rfl) (fun b1 => ?_)
  refine s_box (.agg #[.slice A' b.rel.length c', .slice B' b.pre.length d']) (by kernel_rfl) rfl (by kernel_rfl) (fun b2 => ?_)
  refine s_val (.bool false) (by kernel_rfl) (fun _ => by kernel_rfl) ?_
  refine s_nil ?_
  refine fin_seq ?_
  refine ok_seq ?_
  refine ok_seq ?_
  refine ok_region ?_
  refine s_load 1 ⟨b1, #[.slice A a.rel.length c, .slice B a.pre.length d], 24⟩ (off := 0) (.agg #[.slice A a.rel.length c, .slice B a.pre.length d]) (by kernel_rfl) rfl (by kernel_rfl) (by kernel_rfl) (by kernel_rfl) ?_
  refine s_call (k := 10) (args := #[.agg #[.slice A a.rel.length c, .slice B a.pre.length d]]) (.bool (fewT a)) (by kernel_rfl) (fun _ => by kernel_rfl) (fun w hO => few5_any A B c d a w (ra.on hO.below hO.size) (pa.on hO.below hO.size)) ?_
  cases h1 : fewT a with
  | true =>
    refine s_val (.bool false) (by kernel_rfl) (fun _ => by kernel_rfl) ?_
    refine s_val (.bool false) (by kernel_rfl) (fun _ => by kernel_rfl) ?_
    refine s_load 0 ⟨b2, #[.slice A' b.rel.length c', .slice B' b.pre.length d'], 24⟩ (off := 0) (.agg #[.slice A' b.rel.length c', .slice B' b.pre.length d']) (by kernel_rfl) rfl (by kernel_rfl) (by kernel_rfl) (by kernel_rfl) ?_
    refine s_call (k := 10) (args := #[.agg #[.slice A' b.rel.length c', .slice B' b.pre.length d']]) (.bool (fewT b)) (by kernel_rfl) (fun _ => by kernel_rfl) (fun w hO => few5_any A' B' c' d' b w (rb.on hO.below hO.size) (pb.on hO.below hO.size)) ?_
    cases h2 : fewT b with
    | true =>
      refine s_val (.bool false) (by kernel_rfl) (fun _ => by kernel_rfl) ?_
      refine s_val (.bool false) (by kernel_rfl) (fun _ => by kernel_rfl) ?_
      refine s_nil ?_
      refine fin_seq ?_
      refine ok_false (by kernel_rfl) ?_
      refine ok_skip ?_
      refine fin_seq ?_
      refine ok_seq ?_
      refine ok_anyh (by kernel_rfl) ?_
      refine h_load 0 [] _ 1 ⟨b1, #[.slice A a.rel.length c, .slice B a.pre.length d], 24⟩ (off := 0) (.agg #[.slice A a.rel.length c, .slice B a.pre.length d]) rfl (by kernel_rfl) (by kernel_rfl) (by kernel_rfl) (pq_seq pq_body) (by kernel_rfl) rfl (by kernel_rfl) (by kernel_rfl) (by kernel_rfl) ?_
      refine h_load 1 [] _ 0 ⟨b2, #[.slice A' b.rel.length c', .slice B' b.pre.length d'], 24⟩ (off := 0) (.agg #[.slice A' b.rel.length c', .slice B' b.pre.length d']) rfl (by kernel_rfl) (by kernel_rfl) (by kernel_rfl) (pq_seq pq_body) (by kernel_rfl) rfl (by kernel_rfl) (by kernel_rfl) (by kernel_rfl) ?_
      refine h_load 3 [] _ 1 ⟨b1, #[.slice A a.rel.length c, .slice B a.pre.length d], 24⟩ (off := 0) (.agg #[.slice A a.rel.length c, .slice B a.pre.length d]) rfl (by kernel_rfl) (by kernel_rfl) (by kernel_rfl) (pq_seq pq_body) (by kernel_rfl) rfl (by kernel_rfl) (by kernel_rfl) (by kernel_rfl) ?_
      refine h_load 4 [] _ 0 ⟨b2, #[.slice A' b.rel.length c', .slice B' b.pre.length d'], 24⟩ (off := 0) (.agg #[.slice A' b.rel.length c', .slice B' b.pre.length d']) rfl (by kernel_rfl) (by kernel_rfl) (by kernel_rfl) (pq_seq pq_body) (by kernel_rfl) rfl (by kernel_rfl) (by kernel_rfl) (by kernel_rfl) ?_
      refine h_one 2 (by kernel_rfl) ?_
      refine hl_callx _ (k := 21) (args := #[.agg #[.slice A a.rel.length c, .slice B a.pre.length d], .agg #[.slice A' b.rel.length c', .slice B' b.pre.length d']]) (fun v' L' => ∃ ob', L' = ob' ++ ([] ++ ([⟨b2, #[.slice A' b.rel.length c', .slice B' b.pre.length d'], 24⟩, ⟨b1, #[.slice A a.rel.length c, .slice B a.pre.length d], 24⟩])) ∧ SetO v' (if a.may && b.may then orT a b else noneT) ob') rfl (by kernel_rfl) (fun _ => by kernel_rfl) (fun w hO => (sOr_any A B A' B' c d c' d' a b w (SetIn.few (ra.on hO.below hO.size) (pa.on hO.below hO.size) h1) (SetIn.few (rb.on hO.below hO.size) (pb.on hO.below hO.size) h2) ca cb).mono fun e w' ⟨v', ob', k1, k2, k3⟩ => ⟨v', _, k1, ⟨ob', rfl, k2⟩, Own.joinN hO k3⟩) (fun v' L' ⟨ob', e, _⟩ w hO => by subst e; exact Own.sub [] (Own.sub ob' hO)) (fun v1 L2 hv2 => ?_)
      obtain ⟨o1, rfl, hr1⟩ := hv2
      obtain ⟨V1, U1, c1, d1, rfl⟩ := hr1.form
      refine h_cast (L' := (o1 ++ ([] : List Blk)) ++ ([⟨b2, #[.slice A' b.rel.length c', .slice B' b.pre.length d'], 24⟩, ⟨b1, #[.slice A a.rel.length c, .slice B a.pre.length d], 24⟩])) (List.append_assoc _ _ _).symm ?_
      refine h_one 5 (by kernel_rfl) ?_
      refine hl_callx _ (k := 22) (args := #[.agg #[.slice A a.rel.length c, .slice B a.pre.length d], .agg #[.slice A' b.rel.length c', .slice B' b.pre.length d']]) (fun v' L' => ∃ ob', L' = ob' ++ ((o1 ++ ([] : List Blk)) ++ ([⟨b2, #[.slice A' b.rel.length c', .slice B' b.pre.length d'], 24⟩, ⟨b1, #[.slice A a.rel.length c, .slice B a.pre.length d], 24⟩])) ∧ SetO v' (if a.may && b.may then orT a b else noneT) ob') rfl (by kernel_rfl) (fun _ => by kernel_rfl) (fun w hO => (rsetOr_any A B A' B' c d c' d' a b w (SetIn.few (ra.on hO.below hO.size) (pa.on hO.below hO.size) h1) (SetIn.few (rb.on hO.below hO.size) (pb.on hO.below hO.size) h2)).mono fun e w' ⟨v', ob', k1, k2, k3⟩ => ⟨v', _, k1, ⟨ob', rfl, k2⟩, Own.joinN hO k3⟩) (fun v' L' ⟨ob', e, _⟩ w hO => by subst e; exact Own.sub (o1 ++ ([] : List Blk)) (Own.sub ob' hO)) (fun v2 L2 hv2 => ?_)
      obtain ⟨o2, rfl, hr2⟩ := hv2
      obtain ⟨V2, U2, c2, d2, rfl⟩ := hr2.form
      refine h_cast (L' := (o2 ++ (o1 ++ ([] : List Blk))) ++ ([⟨b2, #[.slice A' b.rel.length c', .slice B' b.pre.length d'], 24⟩, ⟨b1, #[.slice A a.rel.length c, .slice B a.pre.length d], 24⟩])) (List.append_assoc _ _ _).symm ?_
      refine h_one 6 (by kernel_rfl) ?_
      refine hs_call (o2 ++ (o1 ++ ([] : List Blk))) _ (k := 18) (args := #[.agg #[.slice V1 ((if a.may && b.may then orT a b else noneT).rel.length) c1, .slice U1 ((if a.may && b.may then orT a b else noneT).pre.length) d1], .agg #[.slice V2 ((if a.may && b.may then orT a b else noneT).rel.length) c2, .slice U2 ((if a.may && b.may then orT a b else noneT).pre.length) d2]]) (.bool true) rfl (by kernel_rfl) (fun _ => by kernel_rfl) (fun w hO => ret_b ((same_b _ _).trans (decide_eq_true (rfl))) (rsetSame_any V1 U1 V2 U2 c1 d1 c2 d2 (if a.may && b.may then orT a b else noneT) (if a.may && b.may then orT a b else noneT) w (SetO.inn hr1 hO (fun x hx => by simp [hx]) (if_sf fun hp => SF.or (SF.of (Bool.and_eq_true_iff.1 hp).1 (fewT_short h1).2.2.1 (fewT_short h1).2.2.2) (SF.of (Bool.and_eq_true_iff.1 hp).2 (fewT_short h2).2.2.1 (fewT_short h2).2.2.2)) (by decide)) (SetO.inn hr2 hO (fun x hx => by simp [hx]) (if_sf fun hp => SF.or (SF.of (Bool.and_eq_true_iff.1 hp).1 (fewT_short h1).2.2.1 (fewT_short h1).2.2.2) (SF.of (Bool.and_eq_true_iff.1 hp).2 (fewT_short h2).2.2.1 (fewT_short h2).2.2.2)) (by decide)))) ?_
      refine h_take 7 (o2 ++ (o1 ++ ([] : List Blk))) _ (.bool true) rfl (by kernel_rfl) (by kernel_rfl) (by kernel_rfl) (pq_seq pq_body) (by kernel_rfl) (fun _ _ => by kernel_rfl) ?_
      refine h_load 8 (o2 ++ (o1 ++ ([] : List Blk))) _ 1 ⟨b1, #[.slice A a.rel.length c, .slice B a.pre.length d], 24⟩ (off := 0) (.agg #[.slice A a.rel.length c, .slice B a.pre.length d]) rfl (by kernel_rfl) (by kernel_rfl) (by kernel_rfl) (pq_seq pq_body) (by kernel_rfl) rfl (by kernel_rfl) (by kernel_rfl) (by kernel_rfl) ?_
      refine h_load 9 (o2 ++ (o1 ++ ([] : List Blk))) _ 0 ⟨b2, #[.slice A' b.rel.length c', .slice B' b.pre.length d'], 24⟩ (off := 0) (.agg #[.slice A' b.rel.length c', .slice B' b.pre.length d']) rfl (by kernel_rfl) (by kernel_rfl) (by kernel_rfl) (pq_seq pq_body) (by kernel_rfl) rfl (by kernel_rfl) (by kernel_rfl) (by kernel_rfl) ?_
      refine h_load 11 (o2 ++ (o1 ++ ([] : List Blk))) _ 1 ⟨b1, #[.slice A a.rel.length c, .slice B a.pre.length d], 24⟩ (off := 0) (.agg #[.slice A a.rel.length c, .slice B a.pre.length d]) rfl (by kernel_rfl) (by kernel_rfl) (by kernel_rfl) (pq_seq pq_body) (by kernel_rfl) rfl (by kernel_rfl) (by kernel_rfl) (by kernel_rfl) ?_
      refine h_load 12 (o2 ++ (o1 ++ ([] : List Blk))) _ 0 ⟨b2, #[.slice A' b.rel.length c', .slice B' b.pre.length d'], 24⟩ (off := 0) (.agg #[.slice A' b.rel.length c', .slice B' b.pre.length d']) rfl (by kernel_rfl) (by kernel_rfl) (by kernel_rfl) (pq_seq pq_body) (by kernel_rfl) rfl (by kernel_rfl) (by kernel_rfl) (by kernel_rfl) ?_
      refine h_one 10 (by kernel_rfl) ?_
      refine hl_callx _ (k := 23) (args := #[.agg #[.slice A a.rel.length c, .slice B a.pre.length d], .agg #[.slice A' b.rel.length c', .slice B' b.pre.length d']]) (fun v' L' => ∃ ob', L' = ob' ++ ((o2 ++ (o1 ++ ([] : List Blk))) ++ ([⟨b2, #[.slice A' b.rel.length c', .slice B' b.pre.length d'], 24⟩, ⟨b1, #[.slice A a.rel.length c, .slice B a.pre.length d], 24⟩])) ∧ SetO v' (if a.may && b.may then andT a b else noneT) ob') rfl (by kernel_rfl) (fun _ => by kernel_rfl) (fun w hO => (sAnd_any A B A' B' c d c' d' a b w (SetIn.few (ra.on hO.below hO.size) (pa.on hO.below hO.size) h1) (SetIn.few (rb.on hO.below hO.size) (pb.on hO.below hO.size) h2) ca cb).mono fun e w' ⟨v', ob', k1, k2, k3⟩ => ⟨v', _, k1, ⟨ob', rfl, k2⟩, Own.joinN hO k3⟩) (fun v' L' ⟨ob', e, _⟩ w hO => by subst e; exact Own.sub (o2 ++ (o1 ++ ([] : List Blk))) (Own.sub ob' hO)) (fun v3 L2 hv2 => ?_)
      obtain ⟨o3, rfl, hr3⟩ := hv2
      obtain ⟨V3, U3, c3, d3, rfl⟩ := hr3.form
      refine h_cast (L' := (o3 ++ (o2 ++ (o1 ++ ([] : List Blk)))) ++ ([⟨b2, #[.slice A' b.rel.length c', .slice B' b.pre.length d'], 24⟩, ⟨b1, #[.slice A a.rel.length c, .slice B a.pre.length d], 24⟩])) (List.append_assoc _ _ _).symm ?_
      refine h_one 13 (by kernel_rfl) ?_
      refine hl_callx _ (k := 24) (args := #[.agg #[.slice A a.rel.length c, .slice B a.pre.length d], .agg #[.slice A' b.rel.length c', .slice B' b.pre.length d']]) (fun v' L' => ∃ ob', L' = ob' ++ ((o3 ++ (o2 ++ (o1 ++ ([] : List Blk)))) ++ ([⟨b2, #[.slice A' b.rel.length c', .slice B' b.pre.length d'], 24⟩, ⟨b1, #[.slice A a.rel.length c, .slice B a.pre.length d], 24⟩])) ∧ SetO v' (if a.may && b.may then andT a b else noneT) ob') rfl (by kernel_rfl) (fun _ => by kernel_rfl) (fun w hO => (rsetAnd_any A B A' B' c d c' d' a b w (SetIn.few (ra.on hO.below hO.size) (pa.on hO.below hO.size) h1) (SetIn.few (rb.on hO.below hO.size) (pb.on hO.below hO.size) h2)).mono fun e w' ⟨v', ob', k1, k2, k3⟩ => ⟨v', _, k1, ⟨ob', rfl, k2⟩, Own.joinN hO k3⟩) (fun v' L' ⟨ob', e, _⟩ w hO => by subst e; exact Own.sub (o3 ++ (o2 ++ (o1 ++ ([] : List Blk)))) (Own.sub ob' hO)) (fun v4 L2 hv2 => ?_)
      obtain ⟨o4, rfl, hr4⟩ := hv2
      obtain ⟨V4, U4, c4, d4, rfl⟩ := hr4.form
      refine h_cast (L' := (o4 ++ (o3 ++ (o2 ++ (o1 ++ ([] : List Blk))))) ++ ([⟨b2, #[.slice A' b.rel.length c', .slice B' b.pre.length d'], 24⟩, ⟨b1, #[.slice A a.rel.length c, .slice B a.pre.length d], 24⟩])) (List.append_assoc _ _ _).symm ?_
      refine h_one 14 (by kernel_rfl) ?_
      refine hs_call (o4 ++ (o3 ++ (o2 ++ (o1 ++ ([] : List Blk))))) _ (k := 18) (args := #[.agg #[.slice V3 ((if a.may && b.may then andT a b else noneT).rel.length) c3, .slice U3 ((if a.may && b.may then andT a b else noneT).pre.length) d3], .agg #[.slice V4 ((if a.may && b.may then andT a b else noneT).rel.length) c4, .slice U4 ((if a.may && b.may then andT a b else noneT).pre.length) d4]]) (.bool true) rfl (by kernel_rfl) (fun _ => by kernel_rfl) (fun w hO => ret_b ((same_b _ _).trans (decide_eq_true (rfl))) (rsetSame_any V3 U3 V4 U4 c3 d3 c4 d4 (if a.may && b.may then andT a b else noneT) (if a.may && b.may then andT a b else noneT) w (SetO.inn hr3 hO (fun x hx => by simp [hx]) (if_sf fun hp => SF.and (SF.of (Bool.and_eq_true_iff.1 hp).1 (fewT_short h1).2.2.1 (fewT_short h1).2.2.2) (SF.of (Bool.and_eq_true_iff.1 hp).2 (fewT_short h2).2.2.1 (fewT_short h2).2.2.2)) (by decide)) (SetO.inn hr4 hO (fun x hx => by simp [hx]) (if_sf fun hp => SF.and (SF.of (Bool.and_eq_true_iff.1 hp).1 (fewT_short h1).2.2.1 (fewT_short h1).2.2.2) (SF.of (Bool.and_eq_true_iff.1 hp).2 (fewT_short h2).2.2.1 (fewT_short h2).2.2.2)) (by decide)))) ?_
      refine h_take 15 (o4 ++ (o3 ++ (o2 ++ (o1 ++ ([] : List Blk))))) _ (.bool true) rfl (by kernel_rfl) (by kernel_rfl) (by kernel_rfl) (pq_seq pq_body) (by kernel_rfl) (fun _ _ => by kernel_rfl) ?_
      refine h_take 16 (o4 ++ (o3 ++ (o2 ++ (o1 ++ ([] : List Blk))))) _ (.bool true) rfl (by kernel_rfl) (by kernel_rfl) (by kernel_rfl) (pq_seq pq_body) (by kernel_rfl) (fun _ _ => by kernel_rfl) ?_
      refine h_drop (o4 ++ (o3 ++ (o2 ++ (o1 ++ ([] : List Blk))))) ?_
      refine h_done (by kernel_rfl) ?_
      refine fin_seq ?_
      refine ok_seq ?_
      refine ok_anyh (by kernel_rfl) ?_
      refine h_load 0 [] _ 1 ⟨b1, #[.slice A a.rel.length c, .slice B a.pre.length d], 24⟩ (off := 0) (.agg #[.slice A a.rel.length c, .slice B a.pre.length d]) rfl (by kernel_rfl) (by kernel_rfl) (by kernel_rfl) (pq_seq pq_body) (by kernel_rfl) rfl (by kernel_rfl) (by kernel_rfl) (by kernel_rfl) ?_
      refine h_load 2 [] _ 1 ⟨b1, #[.slice A a.rel.length c, .slice B a.pre.length d], 24⟩ (off := 0) (.agg #[.slice A a.rel.length c, .slice B a.pre.length d]) rfl (by kernel_rfl) (by kernel_rfl) (by kernel_rfl) (pq_seq pq_body) (by kernel_rfl) rfl (by kernel_rfl) (by kernel_rfl) (by kernel_rfl) ?_
      refine h_one 1 (by kernel_rfl) ?_
      refine hl_callx _ (k := 25) (args := #[.agg #[.slice A a.rel.length c, .slice B a.pre.length d]]) (fun v' L' => ∃ ob', L' = ob' ++ ([] ++ ([⟨b2, #[.slice A' b.rel.length c', .slice B' b.pre.length d'], 24⟩, ⟨b1, #[.slice A a.rel.length c, .slice B a.pre.length d], 24⟩])) ∧ SetO v' (if a.may then notT a else noneT) ob') rfl (by kernel_rfl) (fun _ => by kernel_rfl) (fun w hO => (sNot_any A B c d a w (SetIn.few (ra.on hO.below hO.size) (pa.on hO.below hO.size) h1) ca).mono fun e w' ⟨v', ob', k1, k2, k3⟩ => ⟨v', _, k1, ⟨ob', rfl, k2⟩, Own.joinN hO k3⟩) (fun v' L' ⟨ob', e, _⟩ w hO => by subst e; exact Own.sub [] (Own.sub ob' hO)) (fun v5 L2 hv2 => ?_)
      obtain ⟨o5, rfl, hr5⟩ := hv2
      obtain ⟨V5, U5, c5, d5, rfl⟩ := hr5.form
      refine h_cast (L' := (o5 ++ ([] : List Blk)) ++ ([⟨b2, #[.slice A' b.rel.length c', .slice B' b.pre.length d'], 24⟩, ⟨b1, #[.slice A a.rel.length c, .slice B a.pre.length d], 24⟩])) (List.append_assoc _ _ _).symm ?_
      refine h_one 3 (by kernel_rfl) ?_
      refine hl_callx _ (k := 26) (args := #[.agg #[.slice A a.rel.length c, .slice B a.pre.length d]]) (fun v' L' => ∃ ob', L' = ob' ++ ((o5 ++ ([] : List Blk)) ++ ([⟨b2, #[.slice A' b.rel.length c', .slice B' b.pre.length d'], 24⟩, ⟨b1, #[.slice A a.rel.length c, .slice B a.pre.length d], 24⟩])) ∧ SetO v' (if a.may then notT a else noneT) ob') rfl (by kernel_rfl) (fun _ => by kernel_rfl) (fun w hO => (rsetNot_any A B c d a w (SetIn.few (ra.on hO.below hO.size) (pa.on hO.below hO.size) h1)).mono fun e w' ⟨v', ob', k1, k2, k3⟩ => ⟨v', _, k1, ⟨ob', rfl, k2⟩, Own.joinN hO k3⟩) (fun v' L' ⟨ob', e, _⟩ w hO => by subst e; exact Own.sub (o5 ++ ([] : List Blk)) (Own.sub ob' hO)) (fun v6 L2 hv2 => ?_)
      obtain ⟨o6, rfl, hr6⟩ := hv2
      obtain ⟨V6, U6, c6, d6, rfl⟩ := hr6.form
      refine h_cast (L' := (o6 ++ (o5 ++ ([] : List Blk))) ++ ([⟨b2, #[.slice A' b.rel.length c', .slice B' b.pre.length d'], 24⟩, ⟨b1, #[.slice A a.rel.length c, .slice B a.pre.length d], 24⟩])) (List.append_assoc _ _ _).symm ?_
      refine h_one 4 (by kernel_rfl) ?_
      refine hs_call (o6 ++ (o5 ++ ([] : List Blk))) _ (k := 18) (args := #[.agg #[.slice V5 ((if a.may then notT a else noneT).rel.length) c5, .slice U5 ((if a.may then notT a else noneT).pre.length) d5], .agg #[.slice V6 ((if a.may then notT a else noneT).rel.length) c6, .slice U6 ((if a.may then notT a else noneT).pre.length) d6]]) (.bool true) rfl (by kernel_rfl) (fun _ => by kernel_rfl) (fun w hO => ret_b ((same_b _ _).trans (decide_eq_true (rfl))) (rsetSame_any V5 U5 V6 U6 c5 d5 c6 d6 (if a.may then notT a else noneT) (if a.may then notT a else noneT) w (SetO.inn hr5 hO (fun x hx => by simp [hx]) (if_sf fun hp => SF.not (SF.of hp (fewT_short h1).2.2.1 (fewT_short h1).2.2.2)) (by decide)) (SetO.inn hr6 hO (fun x hx => by simp [hx]) (if_sf fun hp => SF.not (SF.of hp (fewT_short h1).2.2.1 (fewT_short h1).2.2.2)) (by decide)))) ?_
      refine h_take 5 (o6 ++ (o5 ++ ([] : List Blk))) _ (.bool true) rfl (by kernel_rfl) (by kernel_rfl) (by kernel_rfl) (pq_seq pq_body) (by kernel_rfl) (fun _ _ => by kernel_rfl) ?_
      refine h_load 6 (o6 ++ (o5 ++ ([] : List Blk))) _ 1 ⟨b1, #[.slice A a.rel.length c, .slice B a.pre.length d], 24⟩ (off := 0) (.agg #[.slice A a.rel.length c, .slice B a.pre.length d]) rfl (by kernel_rfl) (by kernel_rfl) (by kernel_rfl) (pq_seq pq_body) (by kernel_rfl) rfl (by kernel_rfl) (by kernel_rfl) (by kernel_rfl) ?_
      refine h_load 7 (o6 ++ (o5 ++ ([] : List Blk))) _ 0 ⟨b2, #[.slice A' b.rel.length c', .slice B' b.pre.length d'], 24⟩ (off := 0) (.agg #[.slice A' b.rel.length c', .slice B' b.pre.length d']) rfl (by kernel_rfl) (by kernel_rfl) (by kernel_rfl) (pq_seq pq_body) (by kernel_rfl) rfl (by kernel_rfl) (by kernel_rfl) (by kernel_rfl) ?_
      refine h_load 9 (o6 ++ (o5 ++ ([] : List Blk))) _ 1 ⟨b1, #[.slice A a.rel.length c, .slice B a.pre.length d], 24⟩ (off := 0) (.agg #[.slice A a.rel.length c, .slice B a.pre.length d]) rfl (by kernel_rfl) (by kernel_rfl) (by kernel_rfl) (pq_seq pq_body) (by kernel_rfl) rfl (by kernel_rfl) (by kernel_rfl) (by kernel_rfl) ?_
      refine h_load 10 (o6 ++ (o5 ++ ([] : List Blk))) _ 0 ⟨b2, #[.slice A' b.rel.length c', .slice B' b.pre.length d'], 24⟩ (off := 0) (.agg #[.slice A' b.rel.length c', .slice B' b.pre.length d']) rfl (by kernel_rfl) (by kernel_rfl) (by kernel_rfl) (pq_seq pq_body) (by kernel_rfl) rfl (by kernel_rfl) (by kernel_rfl) (by kernel_rfl) ?_
      refine h_one 8 (by kernel_rfl) ?_
      refine hl_callx _ (k := 27) (args := #[.agg #[.slice A a.rel.length c, .slice B a.pre.length d], .agg #[.slice A' b.rel.length c', .slice B' b.pre.length d']]) (fun v' L' => ∃ ob', L' = ob' ++ ((o6 ++ (o5 ++ ([] : List Blk))) ++ ([⟨b2, #[.slice A' b.rel.length c', .slice B' b.pre.length d'], 24⟩, ⟨b1, #[.slice A a.rel.length c, .slice B a.pre.length d], 24⟩])) ∧ SetO v' (if a.may && b.may then minusT a b else noneT) ob') rfl (by kernel_rfl) (fun _ => by kernel_rfl) (fun w hO => (sMinus_any A B A' B' c d c' d' a b w (SetIn.few (ra.on hO.below hO.size) (pa.on hO.below hO.size) h1) (SetIn.few (rb.on hO.below hO.size) (pb.on hO.below hO.size) h2) ca cb (Nat.le_trans (fewT_short h2).2.2.1 (by decide)) (Nat.le_trans (fewT_short h2).2.2.2 (by decide))).mono fun e w' ⟨v', ob', k1, k2, k3⟩ => ⟨v', _, k1, ⟨ob', rfl, k2⟩, Own.joinN hO k3⟩) (fun v' L' ⟨ob', e, _⟩ w hO => by subst e; exact Own.sub (o6 ++ (o5 ++ ([] : List Blk))) (Own.sub ob' hO)) (fun v7 L2 hv2 => ?_)
      obtain ⟨o7, rfl, hr7⟩ := hv2
      obtain ⟨V7, U7, c7, d7, rfl⟩ := hr7.form
      refine h_cast (L' := (o7 ++ (o6 ++ (o5 ++ ([] : List Blk)))) ++ ([⟨b2, #[.slice A' b.rel.length c', .slice B' b.pre.length d'], 24⟩, ⟨b1, #[.slice A a.rel.length c, .slice B a.pre.length d], 24⟩])) (List.append_assoc _ _ _).symm ?_
      refine h_one 11 (by kernel_rfl) ?_
      refine hl_callx _ (k := 28) (args := #[.agg #[.slice A a.rel.length c, .slice B a.pre.length d], .agg #[.slice A' b.rel.length c', .slice B' b.pre.length d']]) (fun v' L' => ∃ ob', L' = ob' ++ ((o7 ++ (o6 ++ (o5 ++ ([] : List Blk)))) ++ ([⟨b2, #[.slice A' b.rel.length c', .slice B' b.pre.length d'], 24⟩, ⟨b1, #[.slice A a.rel.length c, .slice B a.pre.length d], 24⟩])) ∧ SetO v' (if a.may && b.may then minusT a b else noneT) ob') rfl (by kernel_rfl) (fun _ => by kernel_rfl) (fun w hO => (rsetMinus_any A B A' B' c d c' d' a b w (SetIn.few (ra.on hO.below hO.size) (pa.on hO.below hO.size) h1) (SetIn.few (rb.on hO.below hO.size) (pb.on hO.below hO.size) h2) (Nat.le_trans (fewT_short h2).2.2.1 (by decide)) (Nat.le_trans (fewT_short h2).2.2.2 (by decide))).mono fun e w' ⟨v', ob', k1, k2, k3⟩ => ⟨v', _, k1, ⟨ob', rfl, k2⟩, Own.joinN hO k3⟩) (fun v' L' ⟨ob', e, _⟩ w hO => by subst e; exact Own.sub (o7 ++ (o6 ++ (o5 ++ ([] : List Blk)))) (Own.sub ob' hO)) (fun v8 L2 hv2 => ?_)
      obtain ⟨o8, rfl, hr8⟩ := hv2
      obtain ⟨V8, U8, c8, d8, rfl⟩ := hr8.form
      refine h_cast (L' := (o8 ++ (o7 ++ (o6 ++ (o5 ++ ([] : List Blk))))) ++ ([⟨b2, #[.slice A' b.rel.length c', .slice B' b.pre.length d'], 24⟩, ⟨b1, #[.slice A a.rel.length c, .slice B a.pre.length d], 24⟩])) (List.append_assoc _ _ _).symm ?_
      refine h_one 12 (by kernel_rfl) ?_
      refine hs_call (o8 ++ (o7 ++ (o6 ++ (o5 ++ ([] : List Blk))))) _ (k := 18) (args := #[.agg #[.slice V7 ((if a.may && b.may then minusT a b else noneT).rel.length) c7, .slice U7 ((if a.may && b.may then minusT a b else noneT).pre.length) d7], .agg #[.slice V8 ((if a.may && b.may then minusT a b else noneT).rel.length) c8, .slice U8 ((if a.may && b.may then minusT a b else noneT).pre.length) d8]]) (.bool true) rfl (by kernel_rfl) (fun _ => by kernel_rfl) (fun w hO => ret_b ((same_b _ _).trans (decide_eq_true (rfl))) (rsetSame_any V7 U7 V8 U8 c7 d7 c8 d8 (if a.may && b.may then minusT a b else noneT) (if a.may && b.may then minusT a b else noneT) w (SetO.inn hr7 hO (fun x hx => by simp [hx]) (if_sf fun hp => SF.minus (SF.of (Bool.and_eq_true_iff.1 hp).1 (fewT_short h1).2.2.1 (fewT_short h1).2.2.2) (SF.of (Bool.and_eq_true_iff.1 hp).2 (fewT_short h2).2.2.1 (fewT_short h2).2.2.2)) (by decide)) (SetO.inn hr8 hO (fun x hx => by simp [hx]) (if_sf fun hp => SF.minus (SF.of (Bool.and_eq_true_iff.1 hp).1 (fewT_short h1).2.2.1 (fewT_short h1).2.2.2) (SF.of (Bool.and_eq_true_iff.1 hp).2 (fewT_short h2).2.2.1 (fewT_short h2).2.2.2)) (by decide)))) ?_
      refine h_take 13 (o8 ++ (o7 ++ (o6 ++ (o5 ++ ([] : List Blk))))) _ (.bool true) rfl (by kernel_rfl) (by kernel_rfl) (by kernel_rfl) (pq_seq pq_body) (by kernel_rfl) (fun _ _ => by kernel_rfl) ?_
      refine h_take 14 (o8 ++ (o7 ++ (o6 ++ (o5 ++ ([] : List Blk))))) _ (.bool true) rfl (by kernel_rfl) (by kernel_rfl) (by kernel_rfl) (pq_seq pq_body) (by kernel_rfl) (fun _ _ => by kernel_rfl) ?_
      refine h_drop (o8 ++ (o7 ++ (o6 ++ (o5 ++ ([] : List Blk))))) ?_
      refine h_done (by kernel_rfl) ?_
      refine fin_seq ?_
      refine ok_seq ?_
      refine ok_draw (by kernel_rfl) (by kernel_rfl) ?_
      refine q_call (k := 11) (args := #[]) (.bool true) (by kernel_rfl) (fun _ => by kernel_rfl) (fun w _ => awake5_any w) ?_
      refine q_val (.bool true) (by kernel_rfl) (fun _ => by kernel_rfl) ?_
      refine q_val (.bool true) (by kernel_rfl) (fun _ => by kernel_rfl) ?_
      refine q_val (.bool true) (by kernel_rfl) (fun _ => by kernel_rfl) ?_
      refine q_val (.bool true) (by kernel_rfl) (fun _ => by kernel_rfl) ?_
      refine q_val (.bool true) (by kernel_rfl) (fun _ => by kernel_rfl) ?_
      refine q_val (.bool true) (by kernel_rfl) (fun _ => by kernel_rfl) ?_
      refine q_val (.bool true) (by kernel_rfl) (fun _ => by kernel_rfl) ?_
      refine q_load 1 ⟨b1, #[.slice A a.rel.length c, .slice B a.pre.length d], 24⟩ (off := 0) (.agg #[.slice A a.rel.length c, .slice B a.pre.length d]) (by kernel_rfl) rfl (by kernel_rfl) (by kernel_rfl) (by kernel_rfl) ?_
      refine q_load 0 ⟨b2, #[.slice A' b.rel.length c', .slice B' b.pre.length d'], 24⟩ (off := 0) (.agg #[.slice A' b.rel.length c', .slice B' b.pre.length d']) (by kernel_rfl) rfl (by kernel_rfl) (by kernel_rfl) (by kernel_rfl) ?_
      refine q_call (k := 29) (args := #[.agg #[.slice A a.rel.length c, .slice B a.pre.length d], .agg #[.slice A' b.rel.length c', .slice B' b.pre.length d']]) (.bool (a.may && b.may && decide (andL a.rel b.rel = a.rel) && decide (andL a.pre b.pre = a.pre))) (by kernel_rfl) (fun _ => by kernel_rfl) (fun w hO => sWithin_any A B A' B' c d c' d' a b w (SetIn.few (ra.on hO.below hO.size) (pa.on hO.below hO.size) h1) (SetIn.few (rb.on hO.below hO.size) (pb.on hO.below hO.size) h2) ca cb) ?_
      refine q_load 1 ⟨b1, #[.slice A a.rel.length c, .slice B a.pre.length d], 24⟩ (off := 0) (.agg #[.slice A a.rel.length c, .slice B a.pre.length d]) (by kernel_rfl) rfl (by kernel_rfl) (by kernel_rfl) (by kernel_rfl) ?_
      refine q_load 0 ⟨b2, #[.slice A' b.rel.length c', .slice B' b.pre.length d'], 24⟩ (off := 0) (.agg #[.slice A' b.rel.length c', .slice B' b.pre.length d']) (by kernel_rfl) rfl (by kernel_rfl) (by kernel_rfl) (by kernel_rfl) ?_
      refine q_call (k := 30) (args := #[.agg #[.slice A a.rel.length c, .slice B a.pre.length d], .agg #[.slice A' b.rel.length c', .slice B' b.pre.length d']]) (.bool (a.may && b.may && decide (andL a.rel b.rel = a.rel) && decide (andL a.pre b.pre = a.pre))) (by kernel_rfl) (fun _ => by kernel_rfl) (fun w hO => rsetWithin_any A B A' B' c d c' d' a b w (SetIn.few (ra.on hO.below hO.size) (pa.on hO.below hO.size) h1) (SetIn.few (rb.on hO.below hO.size) (pb.on hO.below hO.size) h2)) ?_
      cases h3 : a.may && b.may && decide (andL a.rel b.rel = a.rel) && decide (andL a.pre b.pre = a.pre) with
      | true =>
        refine q_val (.bool true) (by kernel_rfl) (fun _ => by kernel_rfl) ?_
        refine q_val (.bool true) (by kernel_rfl) (fun _ => by kernel_rfl) ?_
        refine q_val (.bool true) (by kernel_rfl) (fun _ => by kernel_rfl) ?_
        refine q_load 1 ⟨b1, #[.slice A a.rel.length c, .slice B a.pre.length d], 24⟩ (off := 0) (.agg #[.slice A a.rel.length c, .slice B a.pre.length d]) (by kernel_rfl) rfl (by kernel_rfl) (by kernel_rfl) (by kernel_rfl) ?_
        refine q_load 0 ⟨b2, #[.slice A' b.rel.length c', .slice B' b.pre.length d'], 24⟩ (off := 0) (.agg #[.slice A' b.rel.length c', .slice B' b.pre.length d']) (by kernel_rfl) rfl (by kernel_rfl) (by kernel_rfl) (by kernel_rfl) ?_
        refine q_call (k := 31) (args := #[.agg #[.slice A a.rel.length c, .slice B a.pre.length d], .agg #[.slice A' b.rel.length c', .slice B' b.pre.length d']]) (.bool (a.may && b.may && decide ((andT a b).rel = []) && decide ((andT a b).pre = []))) (by kernel_rfl) (fun _ => by kernel_rfl) (fun w hO => sApart_any A B A' B' c d c' d' a b w (SetIn.few (ra.on hO.below hO.size) (pa.on hO.below hO.size) h1) (SetIn.few (rb.on hO.below hO.size) (pb.on hO.below hO.size) h2) ca cb (Nat.le_trans (fewT_short h1).2.2.1 (by decide)) (Nat.le_trans (fewT_short h1).2.2.2 (by decide)) (Nat.le_trans (fewT_short h2).2.2.1 (by decide)) (Nat.le_trans (fewT_short h2).2.2.2 (by decide))) ?_
        refine q_load 1 ⟨b1, #[.slice A a.rel.length c, .slice B a.pre.length d], 24⟩ (off := 0) (.agg #[.slice A a.rel.length c, .slice B a.pre.length d]) (by kernel_rfl) rfl (by kernel_rfl) (by kernel_rfl) (by kernel_rfl) ?_
        refine q_load 0 ⟨b2, #[.slice A' b.rel.length c', .slice B' b.pre.length d'], 24⟩ (off := 0) (.agg #[.slice A' b.rel.length c', .slice B' b.pre.length d']) (by kernel_rfl) rfl (by kernel_rfl) (by kernel_rfl) (by kernel_rfl) ?_
        refine q_call (k := 32) (args := #[.agg #[.slice A a.rel.length c, .slice B a.pre.length d], .agg #[.slice A' b.rel.length c', .slice B' b.pre.length d']]) (.bool (a.may && b.may && decide ((andT a b).rel = []) && decide ((andT a b).pre = []))) (by kernel_rfl) (fun _ => by kernel_rfl) (fun w hO => rsetApart_any A B A' B' c d c' d' a b w (SetIn.few (ra.on hO.below hO.size) (pa.on hO.below hO.size) h1) (SetIn.few (rb.on hO.below hO.size) (pb.on hO.below hO.size) h2) (Nat.le_trans (fewT_short h1).2.2.1 (by decide)) (Nat.le_trans (fewT_short h1).2.2.2 (by decide)) (Nat.le_trans (fewT_short h2).2.2.1 (by decide)) (Nat.le_trans (fewT_short h2).2.2.2 (by decide))) ?_
        cases h4 : a.may && b.may && decide ((andT a b).rel = []) && decide ((andT a b).pre = []) with
        | true =>
          refine q_val (.bool true) (by kernel_rfl) (fun _ => by kernel_rfl) ?_
          refine q_val (.bool true) (by kernel_rfl) (fun _ => by kernel_rfl) ?_
          refine q_val (.bool true) (by kernel_rfl) (fun _ => by kernel_rfl) ?_
          refine q_load 1 ⟨b1, #[.slice A a.rel.length c, .slice B a.pre.length d], 24⟩ (off := 0) (.agg #[.slice A a.rel.length c, .slice B a.pre.length d]) (by kernel_rfl) rfl (by kernel_rfl) (by kernel_rfl) (by kernel_rfl) ?_
          refine q_load 0 ⟨b2, #[.slice A' b.rel.length c', .slice B' b.pre.length d'], 24⟩ (off := 0) (.agg #[.slice A' b.rel.length c', .slice B' b.pre.length d']) (by kernel_rfl) rfl (by kernel_rfl) (by kernel_rfl) (by kernel_rfl) ?_
          refine q_call (k := 33) (args := #[.agg #[.slice A a.rel.length c, .slice B a.pre.length d], .agg #[.slice A' b.rel.length c', .slice B' b.pre.length d']]) (.bool (decide (a.rel = b.rel) && decide (a.pre = b.pre))) (by kernel_rfl) (fun _ => by kernel_rfl) (fun w hO => sSame_any A B A' B' c d c' d' a b w (SetIn.few (ra.on hO.below hO.size) (pa.on hO.below hO.size) h1) (SetIn.few (rb.on hO.below hO.size) (pb.on hO.below hO.size) h2) ca cb) ?_
          refine q_load 1 ⟨b1, #[.slice A a.rel.length c, .slice B a.pre.length d], 24⟩ (off := 0) (.agg #[.slice A a.rel.length c, .slice B a.pre.length d]) (by kernel_rfl) rfl (by kernel_rfl) (by kernel_rfl) (by kernel_rfl) ?_
          refine q_load 0 ⟨b2, #[.slice A' b.rel.length c', .slice B' b.pre.length d'], 24⟩ (off := 0) (.agg #[.slice A' b.rel.length c', .slice B' b.pre.length d']) (by kernel_rfl) rfl (by kernel_rfl) (by kernel_rfl) (by kernel_rfl) ?_
          refine q_call (k := 18) (args := #[.agg #[.slice A a.rel.length c, .slice B a.pre.length d], .agg #[.slice A' b.rel.length c', .slice B' b.pre.length d']]) (.bool (decide (a.rel = b.rel) && decide (a.pre = b.pre))) (by kernel_rfl) (fun _ => by kernel_rfl) (fun w hO => rsetSame_any A B A' B' c d c' d' a b w (SetIn.few (ra.on hO.below hO.size) (pa.on hO.below hO.size) h1) (SetIn.few (rb.on hO.below hO.size) (pb.on hO.below hO.size) h2)) ?_
          cases h5 : decide (a.rel = b.rel) && decide (a.pre = b.pre) with
          | true =>
            refine q_val (.bool true) (by kernel_rfl) (fun _ => by kernel_rfl) ?_
            refine q_val (.bool true) (by kernel_rfl) (fun _ => by kernel_rfl) ?_
            refine q_val (.bool true) (by kernel_rfl) (fun _ => by kernel_rfl) ?_
            refine q_nil ?_
            refine fin_seq ?_
            refine ok_ret ?_
            refine fin_ret (.bool true) Tryz.results4 (by kernel_rfl) ?_
            exact fun w hO => ⟨rfl, hO.below⟩
          | false =>
            refine q_val (.bool true) (by kernel_rfl) (fun _ => by kernel_rfl) ?_
            refine q_val (.bool true) (by kernel_rfl) (fun _ => by kernel_rfl) ?_
            refine q_val (.bool true) (by kernel_rfl) (fun _ => by kernel_rfl) ?_
            refine q_nil ?_
            refine fin_seq ?_
            refine ok_ret ?_
            refine fin_ret (.bool true) Tryz.results4 (by kernel_rfl) ?_
            exact fun w hO => ⟨rfl, hO.below⟩
        | false =>
          refine q_val (.bool true) (by kernel_rfl) (fun _ => by kernel_rfl) ?_
          refine q_val (.bool true) (by kernel_rfl) (fun _ => by kernel_rfl) ?_
          refine q_val (.bool true) (by kernel_rfl) (fun _ => by kernel_rfl) ?_
          refine q_load 1 ⟨b1, #[.slice A a.rel.length c, .slice B a.pre.length d], 24⟩ (off := 0) (.agg #[.slice A a.rel.length c, .slice B a.pre.length d]) (by kernel_rfl) rfl (by kernel_rfl) (by kernel_rfl) (by kernel_rfl) ?_
          refine q_load 0 ⟨b2, #[.slice A' b.rel.length c', .slice B' b.pre.length d'], 24⟩ (off := 0) (.agg #[.slice A' b.rel.length c', .slice B' b.pre.length d']) (by kernel_rfl) rfl (by kernel_rfl) (by kernel_rfl) (by kernel_rfl) ?_
          refine q_call (k := 33) (args := #[.agg #[.slice A a.rel.length c, .slice B a.pre.length d], .agg #[.slice A' b.rel.length c', .slice B' b.pre.length d']]) (.bool (decide (a.rel = b.rel) && decide (a.pre = b.pre))) (by kernel_rfl) (fun _ => by kernel_rfl) (fun w hO => sSame_any A B A' B' c d c' d' a b w (SetIn.few (ra.on hO.below hO.size) (pa.on hO.below hO.size) h1) (SetIn.few (rb.on hO.below hO.size) (pb.on hO.below hO.size) h2) ca cb) ?_
          refine q_load 1 ⟨b1, #[.slice A a.rel.length c, .slice B a.pre.length d], 24⟩ (off := 0) (.agg #[.slice A a.rel.length c, .slice B a.pre.length d]) (by kernel_rfl) rfl (by kernel_rfl) (by kernel_rfl) (by kernel_rfl) ?_
          refine q_load 0 ⟨b2, #[.slice A' b.rel.length c', .slice B' b.pre.length d'], 24⟩ (off := 0) (.agg #[.slice A' b.rel.length c', .slice B' b.pre.length d']) (by kernel_rfl) rfl (by kernel_rfl) (by kernel_rfl) (by kernel_rfl) ?_
          refine q_call (k := 18) (args := #[.agg #[.slice A a.rel.length c, .slice B a.pre.length d], .agg #[.slice A' b.rel.length c', .slice B' b.pre.length d']]) (.bool (decide (a.rel = b.rel) && decide (a.pre = b.pre))) (by kernel_rfl) (fun _ => by kernel_rfl) (fun w hO => rsetSame_any A B A' B' c d c' d' a b w (SetIn.few (ra.on hO.below hO.size) (pa.on hO.below hO.size) h1) (SetIn.few (rb.on hO.below hO.size) (pb.on hO.below hO.size) h2)) ?_
          cases h6 : decide (a.rel = b.rel) && decide (a.pre = b.pre) with
          | true =>
            refine q_val (.bool true) (by kernel_rfl) (fun _ => by kernel_rfl) ?_
            refine q_val (.bool true) (by kernel_rfl) (fun _ => by kernel_rfl) ?_
            refine q_val (.bool true) (by kernel_rfl) (fun _ => by kernel_rfl) ?_
            refine q_nil ?_
            refine fin_seq ?_
            refine ok_ret ?_
            refine fin_ret (.bool true) Tryz.results4 (by kernel_rfl) ?_
            exact fun w hO => ⟨rfl, hO.below⟩
          | false =>
            refine q_val (.bool true) (by kernel_rfl) (fun _ => by kernel_rfl) ?_
            refine q_val (.bool true) (by kernel_rfl) (fun _ => by kernel_rfl) ?_
            refine q_val (.bool true) (by kernel_rfl) (fun _ => by kernel_rfl) ?_
            refine q_nil ?_
            refine fin_seq ?_
            refine ok_ret ?_
            refine fin_ret (.bool true) Tryz.results4 (by kernel_rfl) ?_
            exact fun w hO => ⟨rfl, hO.below⟩
      | false =>
        refine q_val (.bool true) (by kernel_rfl) (fun _ => by kernel_rfl) ?_
        refine q_val (.bool true) (by kernel_rfl) (fun _ => by kernel_rfl) ?_
        refine q_val (.bool true) (by kernel_rfl) (fun _ => by kernel_rfl) ?_
        refine q_load 1 ⟨b1, #[.slice A a.rel.length c, .slice B a.pre.length d], 24⟩ (off := 0) (.agg #[.slice A a.rel.length c, .slice B a.pre.length d]) (by kernel_rfl) rfl (by kernel_rfl) (by kernel_rfl) (by kernel_rfl) ?_
        refine q_load 0 ⟨b2, #[.slice A' b.rel.length c', .slice B' b.pre.length d'], 24⟩ (off := 0) (.agg #[.slice A' b.rel.length c', .slice B' b.pre.length d']) (by kernel_rfl) rfl (by kernel_rfl) (by kernel_rfl) (by kernel_rfl) ?_
        refine q_call (k := 31) (args := #[.agg #[.slice A a.rel.length c, .slice B a.pre.length d], .agg #[.slice A' b.rel.length c', .slice B' b.pre.length d']]) (.bool (a.may && b.may && decide ((andT a b).rel = []) && decide ((andT a b).pre = []))) (by kernel_rfl) (fun _ => by kernel_rfl) (fun w hO => sApart_any A B A' B' c d c' d' a b w (SetIn.few (ra.on hO.below hO.size) (pa.on hO.below hO.size) h1) (SetIn.few (rb.on hO.below hO.size) (pb.on hO.below hO.size) h2) ca cb (Nat.le_trans (fewT_short h1).2.2.1 (by decide)) (Nat.le_trans (fewT_short h1).2.2.2 (by decide)) (Nat.le_trans (fewT_short h2).2.2.1 (by decide)) (Nat.le_trans (fewT_short h2).2.2.2 (by decide))) ?_
        refine q_load 1 ⟨b1, #[.slice A a.rel.length c, .slice B a.pre.length d], 24⟩ (off := 0) (.agg #[.slice A a.rel.length c, .slice B a.pre.length d]) (by kernel_rfl) rfl (by kernel_rfl) (by kernel_rfl) (by kernel_rfl) ?_
        refine q_load 0 ⟨b2, #[.slice A' b.rel.length c', .slice B' b.pre.length d'], 24⟩ (off := 0) (.agg #[.slice A' b.rel.length c', .slice B' b.pre.length d']) (by kernel_rfl) rfl (by kernel_rfl) (by kernel_rfl) (by kernel_rfl) ?_
        refine q_call (k := 32) (args := #[.agg #[.slice A a.rel.length c, .slice B a.pre.length d], .agg #[.slice A' b.rel.length c', .slice B' b.pre.length d']]) (.bool (a.may && b.may && decide ((andT a b).rel = []) && decide ((andT a b).pre = []))) (by kernel_rfl) (fun _ => by kernel_rfl) (fun w hO => rsetApart_any A B A' B' c d c' d' a b w (SetIn.few (ra.on hO.below hO.size) (pa.on hO.below hO.size) h1) (SetIn.few (rb.on hO.below hO.size) (pb.on hO.below hO.size) h2) (Nat.le_trans (fewT_short h1).2.2.1 (by decide)) (Nat.le_trans (fewT_short h1).2.2.2 (by decide)) (Nat.le_trans (fewT_short h2).2.2.1 (by decide)) (Nat.le_trans (fewT_short h2).2.2.2 (by decide))) ?_
        cases h7 : a.may && b.may && decide ((andT a b).rel = []) && decide ((andT a b).pre = []) with
        | true =>
          refine q_val (.bool true) (by kernel_rfl) (fun _ => by kernel_rfl) ?_
          refine q_val (.bool true) (by kernel_rfl) (fun _ => by kernel_rfl) ?_
          refine q_val (.bool true) (by kernel_rfl) (fun _ => by kernel_rfl) ?_
          refine q_load 1 ⟨b1, #[.slice A a.rel.length c, .slice B a.pre.length d], 24⟩ (off := 0) (.agg #[.slice A a.rel.length c, .slice B a.pre.length d]) (by kernel_rfl) rfl (by kernel_rfl) (by kernel_rfl) (by kernel_rfl) ?_
          refine q_load 0 ⟨b2, #[.slice A' b.rel.length c', .slice B' b.pre.length d'], 24⟩ (off := 0) (.agg #[.slice A' b.rel.length c', .slice B' b.pre.length d']) (by kernel_rfl) rfl (by kernel_rfl) (by kernel_rfl) (by kernel_rfl) ?_
          refine q_call (k := 33) (args := #[.agg #[.slice A a.rel.length c, .slice B a.pre.length d], .agg #[.slice A' b.rel.length c', .slice B' b.pre.length d']]) (.bool (decide (a.rel = b.rel) && decide (a.pre = b.pre))) (by kernel_rfl) (fun _ => by kernel_rfl) (fun w hO => sSame_any A B A' B' c d c' d' a b w (SetIn.few (ra.on hO.below hO.size) (pa.on hO.below hO.size) h1) (SetIn.few (rb.on hO.below hO.size) (pb.on hO.below hO.size) h2) ca cb) ?_
          refine q_load 1 ⟨b1, #[.slice A a.rel.length c, .slice B a.pre.length d], 24⟩ (off := 0) (.agg #[.slice A a.rel.length c, .slice B a.pre.length d]) (by kernel_rfl) rfl (by kernel_rfl) (by kernel_rfl) (by kernel_rfl) ?_
          refine q_load 0 ⟨b2, #[.slice A' b.rel.length c', .slice B' b.pre.length d'], 24⟩ (off := 0) (.agg #[.slice A' b.rel.length c', .slice B' b.pre.length d']) (by kernel_rfl) rfl (by kernel_rfl) (by kernel_rfl) (by kernel_rfl) ?_
          refine q_call (k := 18) (args := #[.agg #[.slice A a.rel.length c, .slice B a.pre.length d], .agg #[.slice A' b.rel.length c', .slice B' b.pre.length d']]) (.bool (decide (a.rel = b.rel) && decide (a.pre = b.pre))) (by kernel_rfl) (fun _ => by kernel_rfl) (fun w hO => rsetSame_any A B A' B' c d c' d' a b w (SetIn.few (ra.on hO.below hO.size) (pa.on hO.below hO.size) h1) (SetIn.few (rb.on hO.below hO.size) (pb.on hO.below hO.size) h2)) ?_
          cases h8 : decide (a.rel = b.rel) && decide (a.pre = b.pre) with
          | true =>
            refine q_val (.bool true) (by kernel_rfl) (fun _ => by kernel_rfl) ?_
            refine q_val (.bool true) (by kernel_rfl) (fun _ => by kernel_rfl) ?_
            refine q_val (.bool true) (by kernel_rfl) (fun _ => by kernel_rfl) ?_
            refine q_nil ?_
            refine fin_seq ?_
            refine ok_ret ?_
            refine fin_ret (.bool true) Tryz.results4 (by kernel_rfl) ?_
            exact fun w hO => ⟨rfl, hO.below⟩
          | false =>
            refine q_val (.bool true) (by kernel_rfl) (fun _ => by kernel_rfl) ?_
            refine q_val (.bool true) (by kernel_rfl) (fun _ => by kernel_rfl) ?_
            refine q_val (.bool true) (by kernel_rfl) (fun _ => by kernel_rfl) ?_
            refine q_nil ?_
            refine fin_seq ?_
            refine ok_ret ?_
            refine fin_ret (.bool true) Tryz.results4 (by kernel_rfl) ?_
            exact fun w hO => ⟨rfl, hO.below⟩
        | false =>
          refine q_val (.bool true) (by kernel_rfl) (fun _ => by kernel_rfl) ?_
          refine q_val (.bool true) (by kernel_rfl) (fun _ => by kernel_rfl) ?_
          refine q_val (.bool true) (by kernel_rfl) (fun _ => by kernel_rfl) ?_
          refine q_load 1 ⟨b1, #[.slice A a.rel.length c, .slice B a.pre.length d], 24⟩ (off := 0) (.agg #[.slice A a.rel.length c, .slice B a.pre.length d]) (by kernel_rfl) rfl (by kernel_rfl) (by kernel_rfl) (by kernel_rfl) ?_
          refine q_load 0 ⟨b2, #[.slice A' b.rel.length c', .slice B' b.pre.length d'], 24⟩ (off := 0) (.agg #[.slice A' b.rel.length c', .slice B' b.pre.length d']) (by kernel_rfl) rfl (by kernel_rfl) (by kernel_rfl) (by kernel_rfl) ?_
          refine q_call (k := 33) (args := #[.agg #[.slice A a.rel.length c, .slice B a.pre.length d], .agg #[.slice A' b.rel.length c', .slice B' b.pre.length d']]) (.bool (decide (a.rel = b.rel) && decide (a.pre = b.pre))) (by kernel_rfl) (fun _ => by kernel_rfl) (fun w hO => sSame_any A B A' B' c d c' d' a b w (SetIn.few (ra.on hO.below hO.size) (pa.on hO.below hO.size) h1) (SetIn.few (rb.on hO.below hO.size) (pb.on hO.below hO.size) h2) ca cb) ?_
          refine q_load 1 ⟨b1, #[.slice A a.rel.length c, .slice B a.pre.length d], 24⟩ (off := 0) (.agg #[.slice A a.rel.length c, .slice B a.pre.length d]) (by kernel_rfl) rfl (by kernel_rfl) (by kernel_rfl) (by kernel_rfl) ?_
          refine q_load 0 ⟨b2, #[.slice A' b.rel.length c', .slice B' b.pre.length d'], 24⟩ (off := 0) (.agg #[.slice A' b.rel.length c', .slice B' b.pre.length d']) (by kernel_rfl) rfl (by kernel_rfl) (by kernel_rfl) (by kernel_rfl) ?_
          refine q_call (k := 18) (args := #[.agg #[.slice A a.rel.length c, .slice B a.pre.length d], .agg #[.slice A' b.rel.length c', .slice B' b.pre.length d']]) (.bool (decide (a.rel = b.rel) && decide (a.pre = b.pre))) (by kernel_rfl) (fun _ => by kernel_rfl) (fun w hO => rsetSame_any A B A' B' c d c' d' a b w (SetIn.few (ra.on hO.below hO.size) (pa.on hO.below hO.size) h1) (SetIn.few (rb.on hO.below hO.size) (pb.on hO.below hO.size) h2)) ?_
          cases h9 : decide (a.rel = b.rel) && decide (a.pre = b.pre) with
          | true =>
            refine q_val (.bool true) (by kernel_rfl) (fun _ => by kernel_rfl) ?_
            refine q_val (.bool true) (by kernel_rfl) (fun _ => by kernel_rfl) ?_
            refine q_val (.bool true) (by kernel_rfl) (fun _ => by kernel_rfl) ?_
            refine q_nil ?_
            refine fin_seq ?_
            refine ok_ret ?_
            refine fin_ret (.bool true) Tryz.results4 (by kernel_rfl) ?_
            exact fun w hO => ⟨rfl, hO.below⟩
          | false =>
            refine q_val (.bool true) (by kernel_rfl) (fun _ => by kernel_rfl) ?_
            refine q_val (.bool true) (by kernel_rfl) (fun _ => by kernel_rfl) ?_
            refine q_val (.bool true) (by kernel_rfl) (fun _ => by kernel_rfl) ?_
            refine q_nil ?_
            refine fin_seq ?_
            refine ok_ret ?_
            refine fin_ret (.bool true) Tryz.results4 (by kernel_rfl) ?_
            exact fun w hO => ⟨rfl, hO.below⟩
    | false =>
      refine s_val (.bool true) (by kernel_rfl) (fun _ => by kernel_rfl) ?_
      refine s_val (.bool true) (by kernel_rfl) (fun _ => by kernel_rfl) ?_
      refine s_nil ?_
      refine fin_seq ?_
      refine ok_true (by kernel_rfl) ?_
      refine ok_seq ?_
      refine ok_region ?_
      refine s_call (k := 11) (args := #[]) (.bool true) (by kernel_rfl) (fun _ => by kernel_rfl) (fun w _ => awake5_any w) ?_
      refine s_val (.bool true) (by kernel_rfl) (fun _ => by kernel_rfl) ?_
      refine s_nil ?_
      refine fin_seq ?_
      refine ok_ret ?_
      refine fin_seq_ret ?_
      refine fin_ret (.bool true) Tryz.results4 (by kernel_rfl) ?_
      exact fun w hO => ⟨rfl, hO.below⟩
  | false =>
    refine s_val (.bool true) (by kernel_rfl) (fun _ => by kernel_rfl) ?_
    refine s_val (.bool true) (by kernel_rfl) (fun _ => by kernel_rfl) ?_
    refine s_skip (by kernel_rfl) ?_
    refine s_skip (by kernel_rfl) ?_
    refine s_skip (by kernel_rfl) ?_
    refine s_val (.bool true) (by kernel_rfl) (fun _ => by kernel_rfl) ?_
    refine s_nil ?_
    refine fin_seq ?_
    refine ok_true (by kernel_rfl) ?_
    refine ok_seq ?_
    refine ok_region ?_
    refine s_call (k := 11) (args := #[]) (.bool true) (by kernel_rfl) (fun _ => by kernel_rfl) (fun w _ => awake5_any w) ?_
    refine s_val (.bool true) (by kernel_rfl) (fun _ => by kernel_rfl) ?_
    refine s_nil ?_
    refine fin_seq ?_
    refine ok_ret ?_
    refine fin_seq_ret ?_
    refine fin_ret (.bool true) Tryz.results4 (by kernel_rfl) ?_
    exact fun w hO => ⟨rfl, hO.below⟩
end Go.Proofs.YtgeccfdofmnphaaGreat
end

section
/-
  SetAlgebra: for every input the call returns true, and each argument reads afterwards as it read before. Conditions: none but the row's own.
-/
namespace Go.Proofs.YtgeccfdofmnphaaGreat.setAlgebra
open Go.ChangeShapes Go.WideShapes Go.ChangeAt Go.RowKit
open Go.ChangeMaps (open_string shut_string)
set_option linter.unusedVariables false

set_option maxRecDepth 100000 in
theorem contract (H : Type) (enc : TypeId × Value → H) (W : World) (base : Nat) (args : Array Value) (ds gs : List (DataW H)) (before : List MemPlace)
    (hval : ∀ (j : Nat) t v, Tryz.f4.params[j]? = some t → args[j]? = some v → Value.okWide Tryz.prog W .any base t v)
    (hW : DataW.Whole enc Tryz.prog Tryz.f4.params.toList Rows.setAlgebraSpec.vars false W args.toList ds gs before) (hL : laidMetH Tryz.prog Rows.setAlgebraRow.laid W) :
    Calls Tryz.prog 4 args W fun e W' => ∃ v, e = .returned v ∧ Rows.setAlgebraSpec.post enc Tryz.prog Tryz.f4 false true false false W args v W' := by
  have hW' := hW
  obtain ⟨p, q, hA0, hV, rfl, hfz, hnd⟩ := hW
  have hA : DataW.TrodAll enc Tryz.prog W 0 (fun _ => true) true Tryz.f4.params.toList args.toList ds p := hA0
  rw [Tryz.params4] at hA hval
  obtain ⟨v0, vs0, d0, ds0, p0, q0, hargs, rfl, rfl, h0, r0⟩ := trodAll_cons hA
  obtain ⟨v1, vs1, d1, ds1, p1, q1, rfl, rfl, rfl, h1, r1⟩ := trodAll_cons r0
  obtain ⟨rfl, rfl, rfl⟩ := trodAll_nil r1
  obtain rfl : args = #[v0, v1] := by cases args; simp_all
  obtain ⟨rfl, rfl⟩ := trodVars_none hV
  clear hA0
  obtain ⟨a_A, a_B, a_c, a_d, a, rfl, a_rr, a_rp, a_cap⟩ := open_set (hval 0 24 v0 rfl rfl) h0
  obtain ⟨b_A, b_B, b_c, b_d, b, rfl, b_rr, b_rp, b_cap⟩ := open_set (hval 1 24 v1 rfl rfl) h1
  refine (setAlgebra.law W a_A a_B a_c a_d a a_rr a_rp a_cap b_A b_B b_c b_d b b_rr b_rp b_cap ).mono fun e W' ⟨he, hb⟩ => ?_
  subst he
  exact ⟨_, rfl, law_end laidOut (fun t ht => by rw [Tryz.params4] at ht; simp at ht; subst ht; exact ⟨by kernel_rfl, of_decide_eq_true (by kernel_rfl)⟩) rfl rfl Tryz.underlying4 hW' (by rfl) hb⟩

noncomputable def laidWorld (os : Os) : World :=
  { World.holding Tryz.prog os ⟨#[], #[], []⟩ with heap := (World.holding Tryz.prog os ⟨#[], #[], []⟩).heap }
theorem laid_met (os : Os) : laidMet Tryz.prog Rows.setAlgebraRow.laid ((laidWorld os).forCall (fun _ _ => 0) ⟨#[], #[.agg #[.slice none 0 0, .slice none 0 0], .agg #[.slice none 0 0, .slice none 0 0]], []⟩).memory :=
  laidMet_of_run' 8 (by kernel_rfl) (by kernel_rfl)
theorem reads (os : Os) {H : Type} (enc : TypeId × Value → H) : ∃ places, DataW.whole enc Tryz.prog ((laidWorld os).forCall (fun _ _ => 0) ⟨#[], #[.agg #[.slice none 0 0, .slice none 0 0], .agg #[.slice none 0 0, .slice none 0 0]], []⟩).memory Tryz.f4.params.toList Rows.setAlgebraSpec.vars false (#[.agg #[.slice none 0 0, .slice none 0 0], .agg #[.slice none 0 0, .slice none 0 0]] : Array Value).toList 8 = some ([.agg [.nil, .nil], .agg [.nil, .nil]], [], places) :=
  ⟨[], by kernel_rfl⟩

set_option maxRecDepth 100000 in
theorem lifted (os : Os) (started : os.Started) (H : Type) (enc : TypeId × Value → H) (F : Stop.Interp) :
    ReturnsInHanded {} Tryz.checked os 4 .any ((OpenSpec.ofChange Rows.setAlgebraSpec).preRow enc Tryz.prog Tryz.f4 Rows.setAlgebraRow.domain false Rows.setAlgebraRow.laid) (((OpenSpec.ofChange Rows.setAlgebraSpec).at F).post enc Tryz.prog Tryz.f4 false true false false) := by
  obtain ⟨places, hx⟩ := reads os enc
  refine returnsInHanded_of_row (C := Tryz.checked) (s := OpenSpec.ofChange Rows.setAlgebraSpec) own started (by kernel_rfl) Tryz.func4
    (witness_row_at (enc := enc) (C := Tryz.checked) false (laidWorld os) #[.agg #[.slice none 0 0, .slice none 0 0], .agg #[.slice none 0 0, .slice none 0 0]] rfl (by kernel_rfl) (by kernel_rfl) (by kernel_rfl)
      (OpenSpec.preRow_of_cond 8 hx (by kernel_rfl) (fun k hk => by cases hk) (by kernel_rfl) (laid_met os))) ?_
  intro W base args ds gs before hval hW _ _ _ hL _ _
  exact contract H enc W base args ds gs before hval hW hL

theorem said : Rows.SetAlgebraSaid :=
  OpenClaim.holds_of_cond 4 Tryz.f4 rfl rfl rfl rfl rfl rfl rfl ⟨rfl, rfl, rfl, rfl, rfl⟩ rfl rfl rfl rfl rfl (by kernel_rfl) Tryz.func4 (by kernel_rfl)
    (of_decide_eq_true (by kernel_rfl)) (by unfold Func.isWrapper; first | (rw [if_pos (by decide +kernel)]; kernel_rfl) | (rw [if_neg (by decide +kernel)]; exact ⟨rfl, rfl⟩))
    (fun os started H enc _ F => by rw [OpenClaim.pre_eq_preRow]; exact lifted os started H enc F)

#print axioms said
end Go.Proofs.YtgeccfdofmnphaaGreat.setAlgebra
end
