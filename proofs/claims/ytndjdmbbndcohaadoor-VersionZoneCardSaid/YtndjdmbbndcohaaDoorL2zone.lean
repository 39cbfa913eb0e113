/-
  VersionZone: for every list of numbers the law returns true, and nothing that was there is changed. Condition: the library's table of powers of ten reads as it is laid.
-/
import Derived.Test.YtndjdmbbndcohaaDoorP2
namespace Go.Proofs.YtndjdmbbndcohaaDoor
open Go.RowKit
set_option maxRecDepth 100000
set_option linter.unusedVariables false
set_option linter.unusedSimpArgs false
set_option maxHeartbeats 4000000
theorem versionZone.law (W : World) (v : Value) (l : List Int) (hv : ReadsI W W.heap.size v l) (hl : l.length ≤ maxLen) (ht : HasTab W) : Calls Tryd.prog 4 #[v] W fun e w' => e = .returned (.bool true) ∧ Below W.heap.size W w' := by
  unfold maxLen at hl
  obtain ⟨a, ha⟩ : ∃ x, genV l 0 = x := ⟨_, rfl⟩
  have ma := gen_may l 0
  have sa := genS l 0
  rw [ha] at ma sa
  obtain ⟨u, hu⟩ : ∃ x, genV l 5 = x := ⟨_, rfl⟩
  have mu := gen_may l 5
  have su := genS l 5
  rw [hu] at mu su
  have hrel : ¬ a.pre = [] → cmpR a (zr a) = -1 := fun h => zone_rel ma h
  have hleast : ¬ a.pre = [] → cmpR (zl a) a ≤ 0 := fun h => zone_least ma h
  have hless : (u.maj < a.maj ∨ (u.maj = a.maj ∧ (u.min < a.min ∨ (u.min = a.min ∧ u.pat < a.pat)))) → cmpR u (zl a) = -1 := fun h => zone_less ma mu h
  refine calls_ok (n := 76) Tryd.func4 rfl (by kernel_rfl) (by kernel_rfl) ?_
  refine ok_seq ?_
  refine ok_region ?_
  refine s_val (.bool false) (by kernel_rfl) (fun _ => by kernel_rfl) ?_
  refine s_nil ?_
  refine fin_seq ?_
  refine ok_seq ?_
  refine ok_region ?_
  refine s_val (v) (by kernel_rfl) (fun _ => by kernel_rfl) ?_
  refine s_call (k := 5) (args := #[v, .int .i64 0]) (verV a) (by kernel_rfl) (fun _ => by kernel_rfl) (fun w hO => ret_v (congrArg verV ha) (gen_any v l 0 w ((hv.below hO.below).more hO.below.size) hl (by omega))) ?_
  refine s_val (v) (by kernel_rfl) (fun _ => by kernel_rfl) ?_
  refine s_call (k := 5) (args := #[v, .int .i64 5]) (verV u) (by kernel_rfl) (fun _ => by kernel_rfl) (fun w hO => ret_v (congrArg verV hu) (gen_any v l 5 w ((hv.below hO.below).more hO.below.size) hl (by omega))) ?_
  refine s_alloc_at (.agg #[.int .i64 0, .int .i64 0, .int .i64 0, .string ⟨#[]⟩, .string ⟨#[]⟩]) (by kernel_rfl) rfl (by kernel_rfl) (fun b1 => ?_)
  refine s_alloc_at (.agg #[.int .i64 0, .int .i64 0, .int .i64 0, .string ⟨#[]⟩, .string ⟨#[]⟩]) (by kernel_rfl) rfl (by kernel_rfl) (fun b2 => ?_)
  refine s_store_at 1 ⟨b1, #[.int .i64 0, .int .i64 0, .int .i64 0, .string ⟨#[]⟩, .string ⟨#[]⟩], 24⟩ (off := 0) (verV a) (by kernel_rfl) rfl rfl (by kernel_rfl) (by kernel_rfl) (by kernel_rfl) (by kernel_rfl) (by kernel_rfl) ?_
  refine s_store_at 0 ⟨b2, #[.int .i64 0, .int .i64 0, .int .i64 0, .string ⟨#[]⟩, .string ⟨#[]⟩], 24⟩ (off := 0) (verV u) (by kernel_rfl) rfl rfl (by kernel_rfl) (by kernel_rfl) (by kernel_rfl) (by kernel_rfl) (by kernel_rfl) ?_
  refine s_nil ?_
  refine fin_seq ?_
  refine ok_seq ?_
  refine ok_seq ?_
  refine ok_region ?_
  refine s_val (.pointer (some ⟨b1, 3, none⟩)) (by kernel_rfl) (fun _ => by kernel_rfl) ?_
  refine s_load 1 ⟨b1, (verV a).cells, 24⟩ (off := 3) (.string (mkS a.pre)) (by kernel_rfl) rfl (by kernel_rfl) (by kernel_rfl) (by kernel_rfl) ?_
  by_cases h1 : (a.pre : List UInt8) = []
  · skip
    refine s_val (.bool true) (by kernel_rfl) (run_streql (a := a.pre) (b := ([])) rfl (by kernel_rfl) (by kernel_rfl) (decide_eq_true (h1))) ?_
    refine s_nil ?_
    refine fin_seq ?_
    refine ok_true (by kernel_rfl) ?_
    refine ok_seq ?_
    refine ok_region ?_
    refine s_call (k := 7) (args := #[]) (.bool true) (by kernel_rfl) (fun _ => by kernel_rfl) (fun w hO => awake_any w (ht.on hO.below)) ?_
    refine s_val (.bool true) (by kernel_rfl) (fun _ => by kernel_rfl) ?_
    refine s_nil ?_
    refine fin_seq ?_
    refine ok_ret ?_
    refine fin_seq_ret ?_
    refine fin_ret (.bool true) Tryd.results4 (by kernel_rfl) ?_
    exact fun w hO => ⟨rfl, hO.below⟩
  · skip
    refine s_val (.bool false) (by kernel_rfl) (run_streql (a := a.pre) (b := ([])) rfl (by kernel_rfl) (by kernel_rfl) (decide_eq_false (h1))) ?_
    refine s_nil ?_
    refine fin_seq ?_
    refine ok_false (by kernel_rfl) ?_
    refine ok_skip ?_
    refine fin_seq ?_
    refine ok_seq ?_
    refine ok_anyh (by kernel_rfl) ?_
    refine h_load 0 [] _ 1 ⟨b1, (verV a).cells, 24⟩ (off := 0) (verV a) rfl (by kernel_rfl) (by kernel_rfl) (by kernel_rfl) (pq_seq pq_body) (by kernel_rfl) rfl (by kernel_rfl) (by kernel_rfl) (by kernel_rfl) ?_
    refine h_load 1 [] _ 1 ⟨b1, (verV a).cells, 24⟩ (off := 0) (verV a) rfl (by kernel_rfl) (by kernel_rfl) (by kernel_rfl) (pq_seq pq_body) (by kernel_rfl) rfl (by kernel_rfl) (by kernel_rfl) (by kernel_rfl) ?_
    refine h_two 2 3 (by kernel_rfl) ?_ ?_
    · skip
      refine hs_alloc [] _ (.agg #[.int .i64 0, .int .i64 0, .int .i64 0, .string ⟨#[]⟩, .string ⟨#[]⟩]) rfl (by kernel_rfl) rfl (by kernel_rfl) (fun b3 => ?_)
      refine h_one 3 (by kernel_rfl) ?_
      refine hs_alloc [⟨b3, #[.int .i64 0, .int .i64 0, .int .i64 0, .string ⟨#[]⟩, .string ⟨#[]⟩], 24⟩] _ (.agg #[.int .i64 0, .int .i64 0, .int .i64 0, .string ⟨#[]⟩, .string ⟨#[]⟩]) rfl (by kernel_rfl) rfl (by kernel_rfl) (fun b4 => ?_)
      refine h_one 4 (by kernel_rfl) ?_
      refine hs_store [⟨b4, #[.int .i64 0, .int .i64 0, .int .i64 0, .string ⟨#[]⟩, .string ⟨#[]⟩], 24⟩, ⟨b3, #[.int .i64 0, .int .i64 0, .int .i64 0, .string ⟨#[]⟩, .string ⟨#[]⟩], 24⟩] _ 1 ⟨b3, #[.int .i64 0, .int .i64 0, .int .i64 0, .string ⟨#[]⟩, .string ⟨#[]⟩], 24⟩ (off := 0) (verV a) rfl (by kernel_rfl) rfl rfl (by kernel_rfl) (by kernel_rfl) (by kernel_rfl) (by kernel_rfl) (by kernel_rfl) ?_
      refine h_one 5 (by kernel_rfl) ?_
      refine hs_store [⟨b4, #[.int .i64 0, .int .i64 0, .int .i64 0, .string ⟨#[]⟩, .string ⟨#[]⟩], 24⟩, ⟨b3, (verV a).cells, 24⟩] _ 0 ⟨b4, #[.int .i64 0, .int .i64 0, .int .i64 0, .string ⟨#[]⟩, .string ⟨#[]⟩], 24⟩ (off := 0) (verV a) rfl (by kernel_rfl) rfl rfl (by kernel_rfl) (by kernel_rfl) (by kernel_rfl) (by kernel_rfl) (by kernel_rfl) ?_
      refine h_done (by kernel_rfl) ?_
      refine fin_seq ?_
      refine ok_seq ?_
      refine ok_region ?_
      refine s_val (.pointer (some ⟨b3, 3, none⟩)) (by kernel_rfl) (fun _ => by kernel_rfl) ?_
      refine s_store_at 1 ⟨b3, (verV a).cells, 24⟩ (off := 3) (.string ⟨#[]⟩) (by kernel_rfl) rfl rfl (by kernel_rfl) (by kernel_rfl) (by kernel_rfl) (by kernel_rfl) (by kernel_rfl) ?_
      refine s_nil ?_
      refine fin_seq ?_
      refine ok_seq ?_
      refine ok_region ?_
      refine s_val (.pointer (some ⟨b4, 3, none⟩)) (by kernel_rfl) (fun _ => by kernel_rfl) ?_
      refine s_store_at 0 ⟨b4, (verV a).cells, 24⟩ (off := 3) (.string ⟨#[48]⟩) (by kernel_rfl) rfl rfl (by kernel_rfl) (by kernel_rfl) (by kernel_rfl) (by kernel_rfl) (by kernel_rfl) ?_
      refine s_nil ?_
      refine fin_seq ?_
      refine ok_seq ?_
      refine ok_region ?_
      refine s_val (.pointer (some ⟨b2, 0, none⟩)) (by kernel_rfl) (fun _ => by kernel_rfl) ?_
      refine s_load 2 ⟨b2, (verV u).cells, 24⟩ (off := 0) (.int .i64 u.maj) (by kernel_rfl) rfl (by kernel_rfl) (by kernel_rfl) (by kernel_rfl) ?_
      refine s_val (.pointer (some ⟨b1, 0, none⟩)) (by kernel_rfl) (fun _ => by kernel_rfl) ?_
      refine s_load 3 ⟨b1, (verV a).cells, 24⟩ (off := 0) (.int .i64 a.maj) (by kernel_rfl) rfl (by kernel_rfl) (by kernel_rfl) (by kernel_rfl) ?_
      by_cases h2 : (u.maj : Int) < a.maj
      · skip
        refine s_dec (p := (u.maj : Int) < a.maj) true (by kernel_rfl) (fun _ => by kernel_rfl) (decide_eq_true (h2)) ?_
        refine s_val (.bool true) (by kernel_rfl) (fun _ => by kernel_rfl) ?_
        refine s_skip (by kernel_rfl) ?_
        refine s_skip (by kernel_rfl) ?_
        refine s_skip (by kernel_rfl) ?_
        refine s_skip (by kernel_rfl) ?_
        refine s_skip (by kernel_rfl) ?_
        refine s_skip (by kernel_rfl) ?_
        refine s_skip (by kernel_rfl) ?_
        refine s_skip (by kernel_rfl) ?_
        refine s_skip (by kernel_rfl) ?_
        refine s_skip (by kernel_rfl) ?_
        refine s_skip (by kernel_rfl) ?_
        refine s_skip (by kernel_rfl) ?_
        refine s_skip (by kernel_rfl) ?_
        refine s_skip (by kernel_rfl) ?_
        refine s_skip (by kernel_rfl) ?_
        refine s_skip (by kernel_rfl) ?_
        refine s_skip (by kernel_rfl) ?_
        refine s_skip (by kernel_rfl) ?_
        refine s_skip (by kernel_rfl) ?_
        refine s_skip (by kernel_rfl) ?_
        refine s_skip (by kernel_rfl) ?_
        refine s_skip (by kernel_rfl) ?_
        refine s_skip (by kernel_rfl) ?_
        refine s_skip (by kernel_rfl) ?_
        refine s_skip (by kernel_rfl) ?_
        refine s_skip (by kernel_rfl) ?_
        refine s_val (.bool true) (by kernel_rfl) (fun _ => by kernel_rfl) ?_
        refine s_val (.bool true) (by kernel_rfl) (fun _ => by kernel_rfl) ?_
        refine s_nil ?_
        refine fin_seq ?_
        refine ok_seq ?_
        refine ok_region ?_
        refine s_call (k := 7) (args := #[]) (.bool true) (by kernel_rfl) (fun _ => by kernel_rfl) (fun w hO => awake_any w (ht.on hO.below)) ?_
        refine s_val (.bool true) (by kernel_rfl) (fun _ => by kernel_rfl) ?_
        refine s_load 3 ⟨b1, (verV a).cells, 24⟩ (off := 0) (verV a) (by kernel_rfl) rfl (by kernel_rfl) (by kernel_rfl) (by kernel_rfl) ?_
        refine s_load 1 ⟨b3, #[.int .i64 a.maj, .int .i64 a.min, .int .i64 a.pat, .string ⟨#[]⟩, .string (mkS a.build)], 24⟩ (off := 0) (.agg #[.int .i64 a.maj, .int .i64 a.min, .int .i64 a.pat, .string ⟨#[]⟩, .string (mkS a.build)]) (by kernel_rfl) rfl (by kernel_rfl) (by kernel_rfl) (by kernel_rfl) ?_
        refine s_call (k := 6) (args := #[verV a, .agg #[.int .i64 a.maj, .int .i64 a.min, .int .i64 a.pat, .string ⟨#[]⟩, .string (mkS a.build)]]) (.int .i64 (cmpR a (zr a))) (by kernel_rfl) (fun _ => by kernel_rfl) (fun w _ => vcompare_any a (zr a) w sa.1 sa.2 (zr_short sa).1 (zr_short sa).2) ?_
        refine s_dec (p := (cmpR a (zr a) : Int) = -1) true (by kernel_rfl) (fun _ => by kernel_rfl) (decide_eq_true (hrel h1)) ?_
        refine s_val (.bool true) (by kernel_rfl) (fun _ => by kernel_rfl) ?_
        refine s_val (.bool true) (by kernel_rfl) (fun _ => by kernel_rfl) ?_
        refine s_load 0 ⟨b4, #[.int .i64 a.maj, .int .i64 a.min, .int .i64 a.pat, .string ⟨#[48]⟩, .string (mkS a.build)], 24⟩ (off := 0) (.agg #[.int .i64 a.maj, .int .i64 a.min, .int .i64 a.pat, .string ⟨#[48]⟩, .string (mkS a.build)]) (by kernel_rfl) rfl (by kernel_rfl) (by kernel_rfl) (by kernel_rfl) ?_
        refine s_load 3 ⟨b1, (verV a).cells, 24⟩ (off := 0) (verV a) (by kernel_rfl) rfl (by kernel_rfl) (by kernel_rfl) (by kernel_rfl) ?_
        refine s_call (k := 6) (args := #[.agg #[.int .i64 a.maj, .int .i64 a.min, .int .i64 a.pat, .string ⟨#[48]⟩, .string (mkS a.build)], verV a]) (.int .i64 (cmpR (zl a) a)) (by kernel_rfl) (fun _ => by kernel_rfl) (fun w _ => vcompare_any (zl a) a w (zl_short sa).1 (zl_short sa).2 sa.1 sa.2) ?_
        refine s_dec (p := (cmpR (zl a) a : Int) ≤ 0) true (by kernel_rfl) (fun _ => by kernel_rfl) (decide_eq_true (hleast h1)) ?_
        refine s_val (.bool true) (by kernel_rfl) (fun _ => by kernel_rfl) ?_
        refine s_val (.bool true) (by kernel_rfl) (fun _ => by kernel_rfl) ?_
        refine s_val (.bool true) (by kernel_rfl) (fun _ => by kernel_rfl) ?_
        refine s_val (.bool false) (by kernel_rfl) (fun _ => by kernel_rfl) ?_
        refine s_val (.bool false) (by kernel_rfl) (fun _ => by kernel_rfl) ?_
        refine s_load 2 ⟨b2, (verV u).cells, 24⟩ (off := 0) (verV u) (by kernel_rfl) rfl (by kernel_rfl) (by kernel_rfl) (by kernel_rfl) ?_
        refine s_load 0 ⟨b4, #[.int .i64 a.maj, .int .i64 a.min, .int .i64 a.pat, .string ⟨#[48]⟩, .string (mkS a.build)], 24⟩ (off := 0) (.agg #[.int .i64 a.maj, .int .i64 a.min, .int .i64 a.pat, .string ⟨#[48]⟩, .string (mkS a.build)]) (by kernel_rfl) rfl (by kernel_rfl) (by kernel_rfl) (by kernel_rfl) ?_
        refine s_call (k := 6) (args := #[verV u, .agg #[.int .i64 a.maj, .int .i64 a.min, .int .i64 a.pat, .string ⟨#[48]⟩, .string (mkS a.build)]]) (.int .i64 (cmpR u (zl a))) (by kernel_rfl) (fun _ => by kernel_rfl) (fun w _ => vcompare_any u (zl a) w su.1 su.2 (zl_short sa).1 (zl_short sa).2) ?_
        refine s_dec (p := (cmpR u (zl a) : Int) = -1) true (by kernel_rfl) (fun _ => by kernel_rfl) (decide_eq_true (hless (by omega))) ?_
        refine s_val (.bool true) (by kernel_rfl) (fun _ => by kernel_rfl) ?_
        refine s_val (.bool true) (by kernel_rfl) (fun _ => by kernel_rfl) ?_
        refine s_val (.bool true) (by kernel_rfl) (fun _ => by kernel_rfl) ?_
        refine s_nil ?_
        refine fin_seq ?_
        refine ok_ret ?_
        refine fin_ret (.bool true) Tryd.results4 (by kernel_rfl) ?_
        exact fun w hO => ⟨rfl, hO.below⟩
      · skip
        refine s_dec (p := (u.maj : Int) < a.maj) false (by kernel_rfl) (fun _ => by kernel_rfl) (decide_eq_false (h2)) ?_
        refine s_val (.bool false) (by kernel_rfl) (fun _ => by kernel_rfl) ?_
        refine s_val (.pointer (some ⟨b2, 0, none⟩)) (by kernel_rfl) (fun _ => by kernel_rfl) ?_
        refine s_load 2 ⟨b2, (verV u).cells, 24⟩ (off := 0) (.int .i64 u.maj) (by kernel_rfl) rfl (by kernel_rfl) (by kernel_rfl) (by kernel_rfl) ?_
        refine s_val (.pointer (some ⟨b1, 0, none⟩)) (by kernel_rfl) (fun _ => by kernel_rfl) ?_
        refine s_load 3 ⟨b1, (verV a).cells, 24⟩ (off := 0) (.int .i64 a.maj) (by kernel_rfl) rfl (by kernel_rfl) (by kernel_rfl) (by kernel_rfl) ?_
        by_cases h3 : (u.maj : Int) = a.maj
        · skip
          refine s_dec (p := (u.maj : Int) = a.maj) true (by kernel_rfl) (fun _ => by kernel_rfl) (decide_eq_true (h3)) ?_
          refine s_val (.bool true) (by kernel_rfl) (fun _ => by kernel_rfl) ?_
          refine s_val (.pointer (some ⟨b2, 1, none⟩)) (by kernel_rfl) (fun _ => by kernel_rfl) ?_
          refine s_load 2 ⟨b2, (verV u).cells, 24⟩ (off := 1) (.int .i64 u.min) (by kernel_rfl) rfl (by kernel_rfl) (by kernel_rfl) (by kernel_rfl) ?_
          refine s_val (.pointer (some ⟨b1, 1, none⟩)) (by kernel_rfl) (fun _ => by kernel_rfl) ?_
          refine s_load 3 ⟨b1, (verV a).cells, 24⟩ (off := 1) (.int .i64 a.min) (by kernel_rfl) rfl (by kernel_rfl) (by kernel_rfl) (by kernel_rfl) ?_
          by_cases h4 : (u.min : Int) < a.min
          · skip
            refine s_dec (p := (u.min : Int) < a.min) true (by kernel_rfl) (fun _ => by kernel_rfl) (decide_eq_true (h4)) ?_
            refine s_val (.bool true) (by kernel_rfl) (fun _ => by kernel_rfl) ?_
            refine s_skip (by kernel_rfl) ?_
            refine s_skip (by kernel_rfl) ?_
            refine s_skip (by kernel_rfl) ?_
            refine s_skip (by kernel_rfl) ?_
            refine s_skip (by kernel_rfl) ?_
            refine s_skip (by kernel_rfl) ?_
            refine s_skip (by kernel_rfl) ?_
            refine s_skip (by kernel_rfl) ?_
            refine s_skip (by kernel_rfl) ?_
            refine s_skip (by kernel_rfl) ?_
            refine s_skip (by kernel_rfl) ?_
            refine s_skip (by kernel_rfl) ?_
            refine s_val (.bool true) (by kernel_rfl) (fun _ => by kernel_rfl) ?_
            refine s_val (.bool true) (by kernel_rfl) (fun _ => by kernel_rfl) ?_
            refine s_val (.bool true) (by kernel_rfl) (fun _ => by kernel_rfl) ?_
            refine s_val (.bool true) (by kernel_rfl) (fun _ => by kernel_rfl) ?_
            refine s_nil ?_
            refine fin_seq ?_
            refine ok_seq ?_
            refine ok_region ?_
            refine s_call (k := 7) (args := #[]) (.bool true) (by kernel_rfl) (fun _ => by kernel_rfl) (fun w hO => awake_any w (ht.on hO.below)) ?_
            refine s_val (.bool true) (by kernel_rfl) (fun _ => by kernel_rfl) ?_
            refine s_load 3 ⟨b1, (verV a).cells, 24⟩ (off := 0) (verV a) (by kernel_rfl) rfl (by kernel_rfl) (by kernel_rfl) (by kernel_rfl) ?_
            refine s_load 1 ⟨b3, #[.int .i64 a.maj, .int .i64 a.min, .int .i64 a.pat, .string ⟨#[]⟩, .string (mkS a.build)], 24⟩ (off := 0) (.agg #[.int .i64 a.maj, .int .i64 a.min, .int .i64 a.pat, .string ⟨#[]⟩, .string (mkS a.build)]) (by kernel_rfl) rfl (by kernel_rfl) (by kernel_rfl) (by kernel_rfl) ?_
            refine s_call (k := 6) (args := #[verV a, .agg #[.int .i64 a.maj, .int .i64 a.min, .int .i64 a.pat, .string ⟨#[]⟩, .string (mkS a.build)]]) (.int .i64 (cmpR a (zr a))) (by kernel_rfl) (fun _ => by kernel_rfl) (fun w _ => vcompare_any a (zr a) w sa.1 sa.2 (zr_short sa).1 (zr_short sa).2) ?_
            refine s_dec (p := (cmpR a (zr a) : Int) = -1) true (by kernel_rfl) (fun _ => by kernel_rfl) (decide_eq_true (hrel h1)) ?_
            refine s_val (.bool true) (by kernel_rfl) (fun _ => by kernel_rfl) ?_
            refine s_val (.bool true) (by kernel_rfl) (fun _ => by kernel_rfl) ?_
            refine s_load 0 ⟨b4, #[.int .i64 a.maj, .int .i64 a.min, .int .i64 a.pat, .string ⟨#[48]⟩, .string (mkS a.build)], 24⟩ (off := 0) (.agg #[.int .i64 a.maj, .int .i64 a.min, .int .i64 a.pat, .string ⟨#[48]⟩, .string (mkS a.build)]) (by kernel_rfl) rfl (by kernel_rfl) (by kernel_rfl) (by kernel_rfl) ?_
            refine s_load 3 ⟨b1, (verV a).cells, 24⟩ (off := 0) (verV a) (by kernel_rfl) rfl (by kernel_rfl) (by kernel_rfl) (by kernel_rfl) ?_
            refine s_call (k := 6) (args := #[.agg #[.int .i64 a.maj, .int .i64 a.min, .int .i64 a.pat, .string ⟨#[48]⟩, .string (mkS a.build)], verV a]) (.int .i64 (cmpR (zl a) a)) (by kernel_rfl) (fun _ => by kernel_rfl) (fun w _ => vcompare_any (zl a) a w (zl_short sa).1 (zl_short sa).2 sa.1 sa.2) ?_
            refine s_dec (p := (cmpR (zl a) a : Int) ≤ 0) true (by kernel_rfl) (fun _ => by kernel_rfl) (decide_eq_true (hleast h1)) ?_
            refine s_val (.bool true) (by kernel_rfl) (fun _ => by kernel_rfl) ?_
            refine s_val (.bool true) (by kernel_rfl) (fun _ => by kernel_rfl) ?_
            refine s_val (.bool true) (by kernel_rfl) (fun _ => by kernel_rfl) ?_
            refine s_val (.bool false) (by kernel_rfl) (fun _ => by kernel_rfl) ?_
            refine s_val (.bool false) (by kernel_rfl) (fun _ => by kernel_rfl) ?_
            refine s_load 2 ⟨b2, (verV u).cells, 24⟩ (off := 0) (verV u) (by kernel_rfl) rfl (by kernel_rfl) (by kernel_rfl) (by kernel_rfl) ?_
            refine s_load 0 ⟨b4, #[.int .i64 a.maj, .int .i64 a.min, .int .i64 a.pat, .string ⟨#[48]⟩, .string (mkS a.build)], 24⟩ (off := 0) (.agg #[.int .i64 a.maj, .int .i64 a.min, .int .i64 a.pat, .string ⟨#[48]⟩, .string (mkS a.build)]) (by kernel_rfl) rfl (by kernel_rfl) (by kernel_rfl) (by kernel_rfl) ?_
            refine s_call (k := 6) (args := #[verV u, .agg #[.int .i64 a.maj, .int .i64 a.min, .int .i64 a.pat, .string ⟨#[48]⟩, .string (mkS a.build)]]) (.int .i64 (cmpR u (zl a))) (by kernel_rfl) (fun _ => by kernel_rfl) (fun w _ => vcompare_any u (zl a) w su.1 su.2 (zl_short sa).1 (zl_short sa).2) ?_
            refine s_dec (p := (cmpR u (zl a) : Int) = -1) true (by kernel_rfl) (fun _ => by kernel_rfl) (decide_eq_true (hless (by omega))) ?_
            refine s_val (.bool true) (by kernel_rfl) (fun _ => by kernel_rfl) ?_
            refine s_val (.bool true) (by kernel_rfl) (fun _ => by kernel_rfl) ?_
            refine s_val (.bool true) (by kernel_rfl) (fun _ => by kernel_rfl) ?_
            refine s_nil ?_
            refine fin_seq ?_
            refine ok_ret ?_
            refine fin_ret (.bool true) Tryd.results4 (by kernel_rfl) ?_
            exact fun w hO => ⟨rfl, hO.below⟩
          · skip
            refine s_dec (p := (u.min : Int) < a.min) false (by kernel_rfl) (fun _ => by kernel_rfl) (decide_eq_false (h4)) ?_
            refine s_val (.bool false) (by kernel_rfl) (fun _ => by kernel_rfl) ?_
            refine s_val (.pointer (some ⟨b2, 1, none⟩)) (by kernel_rfl) (fun _ => by kernel_rfl) ?_
            refine s_load 2 ⟨b2, (verV u).cells, 24⟩ (off := 1) (.int .i64 u.min) (by kernel_rfl) rfl (by kernel_rfl) (by kernel_rfl) (by kernel_rfl) ?_
            refine s_val (.pointer (some ⟨b1, 1, none⟩)) (by kernel_rfl) (fun _ => by kernel_rfl) ?_
            refine s_load 3 ⟨b1, (verV a).cells, 24⟩ (off := 1) (.int .i64 a.min) (by kernel_rfl) rfl (by kernel_rfl) (by kernel_rfl) (by kernel_rfl) ?_
            by_cases h5 : (u.min : Int) = a.min
            · skip
              refine s_dec (p := (u.min : Int) = a.min) true (by kernel_rfl) (fun _ => by kernel_rfl) (decide_eq_true (h5)) ?_
              refine s_val (.bool true) (by kernel_rfl) (fun _ => by kernel_rfl) ?_
              refine s_val (.pointer (some ⟨b2, 2, none⟩)) (by kernel_rfl) (fun _ => by kernel_rfl) ?_
              refine s_load 2 ⟨b2, (verV u).cells, 24⟩ (off := 2) (.int .i64 u.pat) (by kernel_rfl) rfl (by kernel_rfl) (by kernel_rfl) (by kernel_rfl) ?_
              refine s_val (.pointer (some ⟨b1, 2, none⟩)) (by kernel_rfl) (fun _ => by kernel_rfl) ?_
              refine s_load 3 ⟨b1, (verV a).cells, 24⟩ (off := 2) (.int .i64 a.pat) (by kernel_rfl) rfl (by kernel_rfl) (by kernel_rfl) (by kernel_rfl) ?_
              by_cases h6 : (u.pat : Int) < a.pat
              · skip
                refine s_dec (p := (u.pat : Int) < a.pat) true (by kernel_rfl) (fun _ => by kernel_rfl) (decide_eq_true (h6)) ?_
                refine s_val (.bool true) (by kernel_rfl) (fun _ => by kernel_rfl) ?_
                refine s_val (.bool true) (by kernel_rfl) (fun _ => by kernel_rfl) ?_
                refine s_val (.bool true) (by kernel_rfl) (fun _ => by kernel_rfl) ?_
                refine s_val (.bool true) (by kernel_rfl) (fun _ => by kernel_rfl) ?_
                refine s_val (.bool true) (by kernel_rfl) (fun _ => by kernel_rfl) ?_
                refine s_nil ?_
                refine fin_seq ?_
                refine ok_seq ?_
                refine ok_region ?_
                refine s_call (k := 7) (args := #[]) (.bool true) (by kernel_rfl) (fun _ => by kernel_rfl) (fun w hO => awake_any w (ht.on hO.below)) ?_
                refine s_val (.bool true) (by kernel_rfl) (fun _ => by kernel_rfl) ?_
                refine s_load 3 ⟨b1, (verV a).cells, 24⟩ (off := 0) (verV a) (by kernel_rfl) rfl (by kernel_rfl) (by kernel_rfl) (by kernel_rfl) ?_
                refine s_load 1 ⟨b3, #[.int .i64 a.maj, .int .i64 a.min, .int .i64 a.pat, .string ⟨#[]⟩, .string (mkS a.build)], 24⟩ (off := 0) (.agg #[.int .i64 a.maj, .int .i64 a.min, .int .i64 a.pat, .string ⟨#[]⟩, .string (mkS a.build)]) (by kernel_rfl) rfl (by kernel_rfl) (by kernel_rfl) (by kernel_rfl) ?_
                refine s_call (k := 6) (args := #[verV a, .agg #[.int .i64 a.maj, .int .i64 a.min, .int .i64 a.pat, .string ⟨#[]⟩, .string (mkS a.build)]]) (.int .i64 (cmpR a (zr a))) (by kernel_rfl) (fun _ => by kernel_rfl) (fun w _ => vcompare_any a (zr a) w sa.1 sa.2 (zr_short sa).1 (zr_short sa).2) ?_
                refine s_dec (p := (cmpR a (zr a) : Int) = -1) true (by kernel_rfl) (fun _ => by kernel_rfl) (decide_eq_true (hrel h1)) ?_
                refine s_val (.bool true) (by kernel_rfl) (fun _ => by kernel_rfl) ?_
                refine s_val (.bool true) (by kernel_rfl) (fun _ => by kernel_rfl) ?_
                refine s_load 0 ⟨b4, #[.int .i64 a.maj, .int .i64 a.min, .int .i64 a.pat, .string ⟨#[48]⟩, .string (mkS a.build)], 24⟩ (off := 0) (.agg #[.int .i64 a.maj, .int .i64 a.min, .int .i64 a.pat, .string ⟨#[48]⟩, .string (mkS a.build)]) (by kernel_rfl) rfl (by kernel_rfl) (by kernel_rfl) (by kernel_rfl) ?_
                refine s_load 3 ⟨b1, (verV a).cells, 24⟩ (off := 0) (verV a) (by kernel_rfl) rfl (by kernel_rfl) (by kernel_rfl) (by kernel_rfl) ?_
                refine s_call (k := 6) (args := #[.agg #[.int .i64 a.maj, .int .i64 a.min, .int .i64 a.pat, .string ⟨#[48]⟩, .string (mkS a.build)], verV a]) (.int .i64 (cmpR (zl a) a)) (by kernel_rfl) (fun _ => by kernel_rfl) (fun w _ => vcompare_any (zl a) a w (zl_short sa).1 (zl_short sa).2 sa.1 sa.2) ?_
                refine s_dec (p := (cmpR (zl a) a : Int) ≤ 0) true (by kernel_rfl) (fun _ => by kernel_rfl) (decide_eq_true (hleast h1)) ?_
                refine s_val (.bool true) (by kernel_rfl) (fun _ => by kernel_rfl) ?_
                refine s_val (.bool true) (by kernel_rfl) (fun _ => by kernel_rfl) ?_
                refine s_val (.bool true) (by kernel_rfl) (fun _ => by kernel_rfl) ?_
                refine s_val (.bool false) (by kernel_rfl) (fun _ => by kernel_rfl) ?_
                refine s_val (.bool false) (by kernel_rfl) (fun _ => by kernel_rfl) ?_
                refine s_load 2 ⟨b2, (verV u).cells, 24⟩ (off := 0) (verV u) (by kernel_rfl) rfl (by kernel_rfl) (by kernel_rfl) (by kernel_rfl) ?_
                refine s_load 0 ⟨b4, #[.int .i64 a.maj, .int .i64 a.min, .int .i64 a.pat, .string ⟨#[48]⟩, .string (mkS a.build)], 24⟩ (off := 0) (.agg #[.int .i64 a.maj, .int .i64 a.min, .int .i64 a.pat, .string ⟨#[48]⟩, .string (mkS a.build)]) (by kernel_rfl) rfl (by kernel_rfl) (by kernel_rfl) (by kernel_rfl) ?_
                refine s_call (k := 6) (args := #[verV u, .agg #[.int .i64 a.maj, .int .i64 a.min, .int .i64 a.pat, .string ⟨#[48]⟩, .string (mkS a.build)]]) (.int .i64 (cmpR u (zl a))) (by kernel_rfl) (fun _ => by kernel_rfl) (fun w _ => vcompare_any u (zl a) w su.1 su.2 (zl_short sa).1 (zl_short sa).2) ?_
                refine s_dec (p := (cmpR u (zl a) : Int) = -1) true (by kernel_rfl) (fun _ => by kernel_rfl) (decide_eq_true (hless (by omega))) ?_
                refine s_val (.bool true) (by kernel_rfl) (fun _ => by kernel_rfl) ?_
                refine s_val (.bool true) (by kernel_rfl) (fun _ => by kernel_rfl) ?_
                refine s_val (.bool true) (by kernel_rfl) (fun _ => by kernel_rfl) ?_
                refine s_nil ?_
                refine fin_seq ?_
                refine ok_ret ?_
                refine fin_ret (.bool true) Tryd.results4 (by kernel_rfl) ?_
                exact fun w hO => ⟨rfl, hO.below⟩
              · skip
                refine s_dec (p := (u.pat : Int) < a.pat) false (by kernel_rfl) (fun _ => by kernel_rfl) (decide_eq_false (h6)) ?_
                refine s_val (.bool false) (by kernel_rfl) (fun _ => by kernel_rfl) ?_
                refine s_val (.bool false) (by kernel_rfl) (fun _ => by kernel_rfl) ?_
                refine s_val (.bool false) (by kernel_rfl) (fun _ => by kernel_rfl) ?_
                refine s_val (.bool false) (by kernel_rfl) (fun _ => by kernel_rfl) ?_
                refine s_val (.bool false) (by kernel_rfl) (fun _ => by kernel_rfl) ?_
                refine s_nil ?_
                refine fin_seq ?_
                refine ok_seq ?_
                refine ok_region ?_
                refine s_call (k := 7) (args := #[]) (.bool true) (by kernel_rfl) (fun _ => by kernel_rfl) (fun w hO => awake_any w (ht.on hO.below)) ?_
                refine s_val (.bool true) (by kernel_rfl) (fun _ => by kernel_rfl) ?_
                refine s_load 3 ⟨b1, (verV a).cells, 24⟩ (off := 0) (verV a) (by kernel_rfl) rfl (by kernel_rfl) (by kernel_rfl) (by kernel_rfl) ?_
                refine s_load 1 ⟨b3, #[.int .i64 a.maj, .int .i64 a.min, .int .i64 a.pat, .string ⟨#[]⟩, .string (mkS a.build)], 24⟩ (off := 0) (.agg #[.int .i64 a.maj, .int .i64 a.min, .int .i64 a.pat, .string ⟨#[]⟩, .string (mkS a.build)]) (by kernel_rfl) rfl (by kernel_rfl) (by kernel_rfl) (by kernel_rfl) ?_
                refine s_call (k := 6) (args := #[verV a, .agg #[.int .i64 a.maj, .int .i64 a.min, .int .i64 a.pat, .string ⟨#[]⟩, .string (mkS a.build)]]) (.int .i64 (cmpR a (zr a))) (by kernel_rfl) (fun _ => by kernel_rfl) (fun w _ => vcompare_any a (zr a) w sa.1 sa.2 (zr_short sa).1 (zr_short sa).2) ?_
                refine s_dec (p := (cmpR a (zr a) : Int) = -1) true (by kernel_rfl) (fun _ => by kernel_rfl) (decide_eq_true (hrel h1)) ?_
                refine s_val (.bool true) (by kernel_rfl) (fun _ => by kernel_rfl) ?_
                refine s_val (.bool true) (by kernel_rfl) (fun _ => by kernel_rfl) ?_
                refine s_load 0 ⟨b4, #[.int .i64 a.maj, .int .i64 a.min, .int .i64 a.pat, .string ⟨#[48]⟩, .string (mkS a.build)], 24⟩ (off := 0) (.agg #[.int .i64 a.maj, .int .i64 a.min, .int .i64 a.pat, .string ⟨#[48]⟩, .string (mkS a.build)]) (by kernel_rfl) rfl (by kernel_rfl) (by kernel_rfl) (by kernel_rfl) ?_
                refine s_load 3 ⟨b1, (verV a).cells, 24⟩ (off := 0) (verV a) (by kernel_rfl) rfl (by kernel_rfl) (by kernel_rfl) (by kernel_rfl) ?_
                refine s_call (k := 6) (args := #[.agg #[.int .i64 a.maj, .int .i64 a.min, .int .i64 a.pat, .string ⟨#[48]⟩, .string (mkS a.build)], verV a]) (.int .i64 (cmpR (zl a) a)) (by kernel_rfl) (fun _ => by kernel_rfl) (fun w _ => vcompare_any (zl a) a w (zl_short sa).1 (zl_short sa).2 sa.1 sa.2) ?_
                refine s_dec (p := (cmpR (zl a) a : Int) ≤ 0) true (by kernel_rfl) (fun _ => by kernel_rfl) (decide_eq_true (hleast h1)) ?_
                refine s_val (.bool true) (by kernel_rfl) (fun _ => by kernel_rfl) ?_
                refine s_val (.bool true) (by kernel_rfl) (fun _ => by kernel_rfl) ?_
                refine s_val (.bool false) (by kernel_rfl) (fun _ => by kernel_rfl) ?_
                refine s_val (.bool true) (by kernel_rfl) (fun _ => by kernel_rfl) ?_
                refine s_val (.bool true) (by kernel_rfl) (fun _ => by kernel_rfl) ?_
                refine s_skip (by kernel_rfl) ?_
                refine s_skip (by kernel_rfl) ?_
                refine s_skip (by kernel_rfl) ?_
                refine s_skip (by kernel_rfl) ?_
                refine s_val (.bool true) (by kernel_rfl) (fun _ => by kernel_rfl) ?_
                refine s_val (.bool true) (by kernel_rfl) (fun _ => by kernel_rfl) ?_
                refine s_val (.bool true) (by kernel_rfl) (fun _ => by kernel_rfl) ?_
                refine s_nil ?_
                refine fin_seq ?_
                refine ok_ret ?_
                refine fin_ret (.bool true) Tryd.results4 (by kernel_rfl) ?_
                exact fun w hO => ⟨rfl, hO.below⟩
            · skip
              refine s_dec (p := (u.min : Int) = a.min) false (by kernel_rfl) (fun _ => by kernel_rfl) (decide_eq_false (h5)) ?_
              refine s_val (.bool false) (by kernel_rfl) (fun _ => by kernel_rfl) ?_
              refine s_skip (by kernel_rfl) ?_
              refine s_skip (by kernel_rfl) ?_
              refine s_skip (by kernel_rfl) ?_
              refine s_skip (by kernel_rfl) ?_
              refine s_skip (by kernel_rfl) ?_
              refine s_val (.bool false) (by kernel_rfl) (fun _ => by kernel_rfl) ?_
              refine s_val (.bool false) (by kernel_rfl) (fun _ => by kernel_rfl) ?_
              refine s_val (.bool false) (by kernel_rfl) (fun _ => by kernel_rfl) ?_
              refine s_val (.bool false) (by kernel_rfl) (fun _ => by kernel_rfl) ?_
              refine s_val (.bool false) (by kernel_rfl) (fun _ => by kernel_rfl) ?_
              refine s_nil ?_
              refine fin_seq ?_
              refine ok_seq ?_
              refine ok_region ?_
              refine s_call (k := 7) (args := #[]) (.bool true) (by kernel_rfl) (fun _ => by kernel_rfl) (fun w hO => awake_any w (ht.on hO.below)) ?_
              refine s_val (.bool true) (by kernel_rfl) (fun _ => by kernel_rfl) ?_
              refine s_load 3 ⟨b1, (verV a).cells, 24⟩ (off := 0) (verV a) (by kernel_rfl) rfl (by kernel_rfl) (by kernel_rfl) (by kernel_rfl) ?_
              refine s_load 1 ⟨b3, #[.int .i64 a.maj, .int .i64 a.min, .int .i64 a.pat, .string ⟨#[]⟩, .string (mkS a.build)], 24⟩ (off := 0) (.agg #[.int .i64 a.maj, .int .i64 a.min, .int .i64 a.pat, .string ⟨#[]⟩, .string (mkS a.build)]) (by kernel_rfl) rfl (by kernel_rfl) (by kernel_rfl) (by kernel_rfl) ?_
              refine s_call (k := 6) (args := #[verV a, .agg #[.int .i64 a.maj, .int .i64 a.min, .int .i64 a.pat, .string ⟨#[]⟩, .string (mkS a.build)]]) (.int .i64 (cmpR a (zr a))) (by kernel_rfl) (fun _ => by kernel_rfl) (fun w _ => vcompare_any a (zr a) w sa.1 sa.2 (zr_short sa).1 (zr_short sa).2) ?_
              refine s_dec (p := (cmpR a (zr a) : Int) = -1) true (by kernel_rfl) (fun _ => by kernel_rfl) (decide_eq_true (hrel h1)) ?_
              refine s_val (.bool true) (by kernel_rfl) (fun _ => by kernel_rfl) ?_
              refine s_val (.bool true) (by kernel_rfl) (fun _ => by kernel_rfl) ?_
              refine s_load 0 ⟨b4, #[.int .i64 a.maj, .int .i64 a.min, .int .i64 a.pat, .string ⟨#[48]⟩, .string (mkS a.build)], 24⟩ (off := 0) (.agg #[.int .i64 a.maj, .int .i64 a.min, .int .i64 a.pat, .string ⟨#[48]⟩, .string (mkS a.build)]) (by kernel_rfl) rfl (by kernel_rfl) (by kernel_rfl) (by kernel_rfl) ?_
              refine s_load 3 ⟨b1, (verV a).cells, 24⟩ (off := 0) (verV a) (by kernel_rfl) rfl (by kernel_rfl) (by kernel_rfl) (by kernel_rfl) ?_
              refine s_call (k := 6) (args := #[.agg #[.int .i64 a.maj, .int .i64 a.min, .int .i64 a.pat, .string ⟨#[48]⟩, .string (mkS a.build)], verV a]) (.int .i64 (cmpR (zl a) a)) (by kernel_rfl) (fun _ => by kernel_rfl) (fun w _ => vcompare_any (zl a) a w (zl_short sa).1 (zl_short sa).2 sa.1 sa.2) ?_
              refine s_dec (p := (cmpR (zl a) a : Int) ≤ 0) true (by kernel_rfl) (fun _ => by kernel_rfl) (decide_eq_true (hleast h1)) ?_
              refine s_val (.bool true) (by kernel_rfl) (fun _ => by kernel_rfl) ?_
              refine s_val (.bool true) (by kernel_rfl) (fun _ => by kernel_rfl) ?_
              refine s_val (.bool false) (by kernel_rfl) (fun _ => by kernel_rfl) ?_
              refine s_val (.bool true) (by kernel_rfl) (fun _ => by kernel_rfl) ?_
              refine s_val (.bool true) (by kernel_rfl) (fun _ => by kernel_rfl) ?_
              refine s_skip (by kernel_rfl) ?_
              refine s_skip (by kernel_rfl) ?_
              refine s_skip (by kernel_rfl) ?_
              refine s_skip (by kernel_rfl) ?_
              refine s_val (.bool true) (by kernel_rfl) (fun _ => by kernel_rfl) ?_
              refine s_val (.bool true) (by kernel_rfl) (fun _ => by kernel_rfl) ?_
              refine s_val (.bool true) (by kernel_rfl) (fun _ => by kernel_rfl) ?_
              refine s_nil ?_
              refine fin_seq ?_
              refine ok_ret ?_
              refine fin_ret (.bool true) Tryd.results4 (by kernel_rfl) ?_
              exact fun w hO => ⟨rfl, hO.below⟩
        · skip
          refine s_dec (p := (u.maj : Int) = a.maj) false (by kernel_rfl) (fun _ => by kernel_rfl) (decide_eq_false (h3)) ?_
          refine s_val (.bool false) (by kernel_rfl) (fun _ => by kernel_rfl) ?_
          refine s_skip (by kernel_rfl) ?_
          refine s_skip (by kernel_rfl) ?_
          refine s_skip (by kernel_rfl) ?_
          refine s_skip (by kernel_rfl) ?_
          refine s_skip (by kernel_rfl) ?_
          refine s_skip (by kernel_rfl) ?_
          refine s_skip (by kernel_rfl) ?_
          refine s_skip (by kernel_rfl) ?_
          refine s_skip (by kernel_rfl) ?_
          refine s_skip (by kernel_rfl) ?_
          refine s_skip (by kernel_rfl) ?_
          refine s_skip (by kernel_rfl) ?_
          refine s_skip (by kernel_rfl) ?_
          refine s_skip (by kernel_rfl) ?_
          refine s_skip (by kernel_rfl) ?_
          refine s_skip (by kernel_rfl) ?_
          refine s_skip (by kernel_rfl) ?_
          refine s_skip (by kernel_rfl) ?_
          refine s_skip (by kernel_rfl) ?_
          refine s_val (.bool false) (by kernel_rfl) (fun _ => by kernel_rfl) ?_
          refine s_val (.bool false) (by kernel_rfl) (fun _ => by kernel_rfl) ?_
          refine s_val (.bool false) (by kernel_rfl) (fun _ => by kernel_rfl) ?_
          refine s_nil ?_
          refine fin_seq ?_
          refine ok_seq ?_
          refine ok_region ?_
          refine s_call (k := 7) (args := #[]) (.bool true) (by kernel_rfl) (fun _ => by kernel_rfl) (fun w hO => awake_any w (ht.on hO.below)) ?_
          refine s_val (.bool true) (by kernel_rfl) (fun _ => by kernel_rfl) ?_
          refine s_load 3 ⟨b1, (verV a).cells, 24⟩ (off := 0) (verV a) (by kernel_rfl) rfl (by kernel_rfl) (by kernel_rfl) (by kernel_rfl) ?_
          refine s_load 1 ⟨b3, #[.int .i64 a.maj, .int .i64 a.min, .int .i64 a.pat, .string ⟨#[]⟩, .string (mkS a.build)], 24⟩ (off := 0) (.agg #[.int .i64 a.maj, .int .i64 a.min, .int .i64 a.pat, .string ⟨#[]⟩, .string (mkS a.build)]) (by kernel_rfl) rfl (by kernel_rfl) (by kernel_rfl) (by kernel_rfl) ?_
          refine s_call (k := 6) (args := #[verV a, .agg #[.int .i64 a.maj, .int .i64 a.min, .int .i64 a.pat, .string ⟨#[]⟩, .string (mkS a.build)]]) (.int .i64 (cmpR a (zr a))) (by kernel_rfl) (fun _ => by kernel_rfl) (fun w _ => vcompare_any a (zr a) w sa.1 sa.2 (zr_short sa).1 (zr_short sa).2) ?_
          refine s_dec (p := (cmpR a (zr a) : Int) = -1) true (by kernel_rfl) (fun _ => by kernel_rfl) (decide_eq_true (hrel h1)) ?_
          refine s_val (.bool true) (by kernel_rfl) (fun _ => by kernel_rfl) ?_
          refine s_val (.bool true) (by kernel_rfl) (fun _ => by kernel_rfl) ?_
          refine s_load 0 ⟨b4, #[.int .i64 a.maj, .int .i64 a.min, .int .i64 a.pat, .string ⟨#[48]⟩, .string (mkS a.build)], 24⟩ (off := 0) (.agg #[.int .i64 a.maj, .int .i64 a.min, .int .i64 a.pat, .string ⟨#[48]⟩, .string (mkS a.build)]) (by kernel_rfl) rfl (by kernel_rfl) (by kernel_rfl) (by kernel_rfl) ?_
          refine s_load 3 ⟨b1, (verV a).cells, 24⟩ (off := 0) (verV a) (by kernel_rfl) rfl (by kernel_rfl) (by kernel_rfl) (by kernel_rfl) ?_
          refine s_call (k := 6) (args := #[.agg #[.int .i64 a.maj, .int .i64 a.min, .int .i64 a.pat, .string ⟨#[48]⟩, .string (mkS a.build)], verV a]) (.int .i64 (cmpR (zl a) a)) (by kernel_rfl) (fun _ => by kernel_rfl) (fun w _ => vcompare_any (zl a) a w (zl_short sa).1 (zl_short sa).2 sa.1 sa.2) ?_
          refine s_dec (p := (cmpR (zl a) a : Int) ≤ 0) true (by kernel_rfl) (fun _ => by kernel_rfl) (decide_eq_true (hleast h1)) ?_
          refine s_val (.bool true) (by kernel_rfl) (fun _ => by kernel_rfl) ?_
          refine s_val (.bool true) (by kernel_rfl) (fun _ => by kernel_rfl) ?_
          refine s_val (.bool false) (by kernel_rfl) (fun _ => by kernel_rfl) ?_
          refine s_val (.bool true) (by kernel_rfl) (fun _ => by kernel_rfl) ?_
          refine s_val (.bool true) (by kernel_rfl) (fun _ => by kernel_rfl) ?_
          refine s_skip (by kernel_rfl) ?_
          refine s_skip (by kernel_rfl) ?_
          refine s_skip (by kernel_rfl) ?_
          refine s_skip (by kernel_rfl) ?_
          refine s_val (.bool true) (by kernel_rfl) (fun _ => by kernel_rfl) ?_
          refine s_val (.bool true) (by kernel_rfl) (fun _ => by kernel_rfl) ?_
          refine s_val (.bool true) (by kernel_rfl) (fun _ => by kernel_rfl) ?_
          refine s_nil ?_
          refine fin_seq ?_
          refine ok_ret ?_
          refine fin_ret (.bool true) Tryd.results4 (by kernel_rfl) ?_
          exact fun w hO => ⟨rfl, hO.below⟩
    · skip
      refine hs_alloc [] _ (.agg #[.int .i64 0, .int .i64 0, .int .i64 0, .string ⟨#[]⟩, .string ⟨#[]⟩]) rfl (by kernel_rfl) rfl (by kernel_rfl) (fun b3 => ?_)
      refine h_one 2 (by kernel_rfl) ?_
      refine hs_alloc [⟨b3, #[.int .i64 0, .int .i64 0, .int .i64 0, .string ⟨#[]⟩, .string ⟨#[]⟩], 24⟩] _ (.agg #[.int .i64 0, .int .i64 0, .int .i64 0, .string ⟨#[]⟩, .string ⟨#[]⟩]) rfl (by kernel_rfl) rfl (by kernel_rfl) (fun b4 => ?_)
      refine h_one 4 (by kernel_rfl) ?_
      refine hs_store [⟨b4, #[.int .i64 0, .int .i64 0, .int .i64 0, .string ⟨#[]⟩, .string ⟨#[]⟩], 24⟩, ⟨b3, #[.int .i64 0, .int .i64 0, .int .i64 0, .string ⟨#[]⟩, .string ⟨#[]⟩], 24⟩] _ 0 ⟨b4, #[.int .i64 0, .int .i64 0, .int .i64 0, .string ⟨#[]⟩, .string ⟨#[]⟩], 24⟩ (off := 0) (verV a) rfl (by kernel_rfl) rfl rfl (by kernel_rfl) (by kernel_rfl) (by kernel_rfl) (by kernel_rfl) (by kernel_rfl) ?_
      refine h_one 5 (by kernel_rfl) ?_
      refine hs_store [⟨b4, (verV a).cells, 24⟩, ⟨b3, #[.int .i64 0, .int .i64 0, .int .i64 0, .string ⟨#[]⟩, .string ⟨#[]⟩], 24⟩] _ 1 ⟨b3, #[.int .i64 0, .int .i64 0, .int .i64 0, .string ⟨#[]⟩, .string ⟨#[]⟩], 24⟩ (off := 0) (verV a) rfl (by kernel_rfl) rfl rfl (by kernel_rfl) (by kernel_rfl) (by kernel_rfl) (by kernel_rfl) (by kernel_rfl) ?_
      refine h_done (by kernel_rfl) ?_
      refine fin_seq ?_
      refine ok_seq ?_
      refine ok_region ?_
      refine s_val (.pointer (some ⟨b4, 3, none⟩)) (by kernel_rfl) (fun _ => by kernel_rfl) ?_
      refine s_store_at 0 ⟨b4, (verV a).cells, 24⟩ (off := 3) (.string ⟨#[]⟩) (by kernel_rfl) rfl rfl (by kernel_rfl) (by kernel_rfl) (by kernel_rfl) (by kernel_rfl) (by kernel_rfl) ?_
      refine s_nil ?_
      refine fin_seq ?_
      refine ok_seq ?_
      refine ok_region ?_
      refine s_val (.pointer (some ⟨b3, 3, none⟩)) (by kernel_rfl) (fun _ => by kernel_rfl) ?_
      refine s_store_at 1 ⟨b3, (verV a).cells, 24⟩ (off := 3) (.string ⟨#[48]⟩) (by kernel_rfl) rfl rfl (by kernel_rfl) (by kernel_rfl) (by kernel_rfl) (by kernel_rfl) (by kernel_rfl) ?_
      refine s_nil ?_
      refine fin_seq ?_
      refine ok_seq ?_
      refine ok_region ?_
      refine s_val (.pointer (some ⟨b2, 0, none⟩)) (by kernel_rfl) (fun _ => by kernel_rfl) ?_
      refine s_load 2 ⟨b2, (verV u).cells, 24⟩ (off := 0) (.int .i64 u.maj) (by kernel_rfl) rfl (by kernel_rfl) (by kernel_rfl) (by kernel_rfl) ?_
      refine s_val (.pointer (some ⟨b1, 0, none⟩)) (by kernel_rfl) (fun _ => by kernel_rfl) ?_
      refine s_load 3 ⟨b1, (verV a).cells, 24⟩ (off := 0) (.int .i64 a.maj) (by kernel_rfl) rfl (by kernel_rfl) (by kernel_rfl) (by kernel_rfl) ?_
      by_cases h7 : (u.maj : Int) < a.maj
      · skip
        refine s_dec (p := (u.maj : Int) < a.maj) true (by kernel_rfl) (fun _ => by kernel_rfl) (decide_eq_true (h7)) ?_
        refine s_val (.bool true) (by kernel_rfl) (fun _ => by kernel_rfl) ?_
        refine s_skip (by kernel_rfl) ?_
        refine s_skip (by kernel_rfl) ?_
        refine s_skip (by kernel_rfl) ?_
        refine s_skip (by kernel_rfl) ?_
        refine s_skip (by kernel_rfl) ?_
        refine s_skip (by kernel_rfl) ?_
        refine s_skip (by kernel_rfl) ?_
        refine s_skip (by kernel_rfl) ?_
        refine s_skip (by kernel_rfl) ?_
        refine s_skip (by kernel_rfl) ?_
        refine s_skip (by kernel_rfl) ?_
        refine s_skip (by kernel_rfl) ?_
        refine s_skip (by kernel_rfl) ?_
        refine s_skip (by kernel_rfl) ?_
        refine s_skip (by kernel_rfl) ?_
        refine s_skip (by kernel_rfl) ?_
        refine s_skip (by kernel_rfl) ?_
        refine s_skip (by kernel_rfl) ?_
        refine s_skip (by kernel_rfl) ?_
        refine s_skip (by kernel_rfl) ?_
        refine s_skip (by kernel_rfl) ?_
        refine s_skip (by kernel_rfl) ?_
        refine s_skip (by kernel_rfl) ?_
        refine s_skip (by kernel_rfl) ?_
        refine s_skip (by kernel_rfl) ?_
        refine s_skip (by kernel_rfl) ?_
        refine s_val (.bool true) (by kernel_rfl) (fun _ => by kernel_rfl) ?_
        refine s_val (.bool true) (by kernel_rfl) (fun _ => by kernel_rfl) ?_
        refine s_nil ?_
        refine fin_seq ?_
        refine ok_seq ?_
        refine ok_region ?_
        refine s_call (k := 7) (args := #[]) (.bool true) (by kernel_rfl) (fun _ => by kernel_rfl) (fun w hO => awake_any w (ht.on hO.below)) ?_
        refine s_val (.bool true) (by kernel_rfl) (fun _ => by kernel_rfl) ?_
        refine s_load 3 ⟨b1, (verV a).cells, 24⟩ (off := 0) (verV a) (by kernel_rfl) rfl (by kernel_rfl) (by kernel_rfl) (by kernel_rfl) ?_
        refine s_load 0 ⟨b4, #[.int .i64 a.maj, .int .i64 a.min, .int .i64 a.pat, .string ⟨#[]⟩, .string (mkS a.build)], 24⟩ (off := 0) (.agg #[.int .i64 a.maj, .int .i64 a.min, .int .i64 a.pat, .string ⟨#[]⟩, .string (mkS a.build)]) (by kernel_rfl) rfl (by kernel_rfl) (by kernel_rfl) (by kernel_rfl) ?_
        refine s_call (k := 6) (args := #[verV a, .agg #[.int .i64 a.maj, .int .i64 a.min, .int .i64 a.pat, .string ⟨#[]⟩, .string (mkS a.build)]]) (.int .i64 (cmpR a (zr a))) (by kernel_rfl) (fun _ => by kernel_rfl) (fun w _ => vcompare_any a (zr a) w sa.1 sa.2 (zr_short sa).1 (zr_short sa).2) ?_
        refine s_dec (p := (cmpR a (zr a) : Int) = -1) true (by kernel_rfl) (fun _ => by kernel_rfl) (decide_eq_true (hrel h1)) ?_
        refine s_val (.bool true) (by kernel_rfl) (fun _ => by kernel_rfl) ?_
        refine s_val (.bool true) (by kernel_rfl) (fun _ => by kernel_rfl) ?_
        refine s_load 1 ⟨b3, #[.int .i64 a.maj, .int .i64 a.min, .int .i64 a.pat, .string ⟨#[48]⟩, .string (mkS a.build)], 24⟩ (off := 0) (.agg #[.int .i64 a.maj, .int .i64 a.min, .int .i64 a.pat, .string ⟨#[48]⟩, .string (mkS a.build)]) (by kernel_rfl) rfl (by kernel_rfl) (by kernel_rfl) (by kernel_rfl) ?_
        refine s_load 3 ⟨b1, (verV a).cells, 24⟩ (off := 0) (verV a) (by kernel_rfl) rfl (by kernel_rfl) (by kernel_rfl) (by kernel_rfl) ?_
        refine s_call (k := 6) (args := #[.agg #[.int .i64 a.maj, .int .i64 a.min, .int .i64 a.pat, .string ⟨#[48]⟩, .string (mkS a.build)], verV a]) (.int .i64 (cmpR (zl a) a)) (by kernel_rfl) (fun _ => by kernel_rfl) (fun w _ => vcompare_any (zl a) a w (zl_short sa).1 (zl_short sa).2 sa.1 sa.2) ?_
        refine s_dec (p := (cmpR (zl a) a : Int) ≤ 0) true (by kernel_rfl) (fun _ => by kernel_rfl) (decide_eq_true (hleast h1)) ?_
        refine s_val (.bool true) (by kernel_rfl) (fun _ => by kernel_rfl) ?_
        refine s_val (.bool true) (by kernel_rfl) (fun _ => by kernel_rfl) ?_
        refine s_val (.bool true) (by kernel_rfl) (fun _ => by kernel_rfl) ?_
        refine s_val (.bool false) (by kernel_rfl) (fun _ => by kernel_rfl) ?_
        refine s_val (.bool false) (by kernel_rfl) (fun _ => by kernel_rfl) ?_
        refine s_load 2 ⟨b2, (verV u).cells, 24⟩ (off := 0) (verV u) (by kernel_rfl) rfl (by kernel_rfl) (by kernel_rfl) (by kernel_rfl) ?_
        refine s_load 1 ⟨b3, #[.int .i64 a.maj, .int .i64 a.min, .int .i64 a.pat, .string ⟨#[48]⟩, .string (mkS a.build)], 24⟩ (off := 0) (.agg #[.int .i64 a.maj, .int .i64 a.min, .int .i64 a.pat, .string ⟨#[48]⟩, .string (mkS a.build)]) (by kernel_rfl) rfl (by kernel_rfl) (by kernel_rfl) (by kernel_rfl) ?_
        refine s_call (k := 6) (args := #[verV u, .agg #[.int .i64 a.maj, .int .i64 a.min, .int .i64 a.pat, .string ⟨#[48]⟩, .string (mkS a.build)]]) (.int .i64 (cmpR u (zl a))) (by kernel_rfl) (fun _ => by kernel_rfl) (fun w _ => vcompare_any u (zl a) w su.1 su.2 (zl_short sa).1 (zl_short sa).2) ?_
        refine s_dec (p := (cmpR u (zl a) : Int) = -1) true (by kernel_rfl) (fun _ => by kernel_rfl) (decide_eq_true (hless (by omega))) ?_
        refine s_val (.bool true) (by kernel_rfl) (fun _ => by kernel_rfl) ?_
        refine s_val (.bool true) (by kernel_rfl) (fun _ => by kernel_rfl) ?_
        refine s_val (.bool true) (by kernel_rfl) (fun _ => by kernel_rfl) ?_
        refine s_nil ?_
        refine fin_seq ?_
        refine ok_ret ?_
        refine fin_ret (.bool true) Tryd.results4 (by kernel_rfl) ?_
        exact fun w hO => ⟨rfl, hO.below⟩
      · skip
        refine s_dec (p := (u.maj : Int) < a.maj) false (by kernel_rfl) (fun _ => by kernel_rfl) (decide_eq_false (h7)) ?_
        refine s_val (.bool false) (by kernel_rfl) (fun _ => by kernel_rfl) ?_
        refine s_val (.pointer (some ⟨b2, 0, none⟩)) (by kernel_rfl) (fun _ => by kernel_rfl) ?_
        refine s_load 2 ⟨b2, (verV u).cells, 24⟩ (off := 0) (.int .i64 u.maj) (by kernel_rfl) rfl (by kernel_rfl) (by kernel_rfl) (by kernel_rfl) ?_
        refine s_val (.pointer (some ⟨b1, 0, none⟩)) (by kernel_rfl) (fun _ => by kernel_rfl) ?_
        refine s_load 3 ⟨b1, (verV a).cells, 24⟩ (off := 0) (.int .i64 a.maj) (by kernel_rfl) rfl (by kernel_rfl) (by kernel_rfl) (by kernel_rfl) ?_
        by_cases h8 : (u.maj : Int) = a.maj
        · skip
          refine s_dec (p := (u.maj : Int) = a.maj) true (by kernel_rfl) (fun _ => by kernel_rfl) (decide_eq_true (h8)) ?_
          refine s_val (.bool true) (by kernel_rfl) (fun _ => by kernel_rfl) ?_
          refine s_val (.pointer (some ⟨b2, 1, none⟩)) (by kernel_rfl) (fun _ => by kernel_rfl) ?_
          refine s_load 2 ⟨b2, (verV u).cells, 24⟩ (off := 1) (.int .i64 u.min) (by kernel_rfl) rfl (by kernel_rfl) (by kernel_rfl) (by kernel_rfl) ?_
          refine s_val (.pointer (some ⟨b1, 1, none⟩)) (by kernel_rfl) (fun _ => by kernel_rfl) ?_
          refine s_load 3 ⟨b1, (verV a).cells, 24⟩ (off := 1) (.int .i64 a.min) (by kernel_rfl) rfl (by kernel_rfl) (by kernel_rfl) (by kernel_rfl) ?_
          by_cases h9 : (u.min : Int) < a.min
          · skip
            refine s_dec (p := (u.min : Int) < a.min) true (by kernel_rfl) (fun _ => by kernel_rfl) (decide_eq_true (h9)) ?_
            refine s_val (.bool true) (by kernel_rfl) (fun _ => by kernel_rfl) ?_
            refine s_skip (by kernel_rfl) ?_
            refine s_skip (by kernel_rfl) ?_
            refine s_skip (by kernel_rfl) ?_
            refine s_skip (by kernel_rfl) ?_
            refine s_skip (by kernel_rfl) ?_
            refine s_skip (by kernel_rfl) ?_
            refine s_skip (by kernel_rfl) ?_
            refine s_skip (by kernel_rfl) ?_
            refine s_skip (by kernel_rfl) ?_
            refine s_skip (by kernel_rfl) ?_
            refine s_skip (by kernel_rfl) ?_
            refine s_skip (by kernel_rfl) ?_
            refine s_val (.bool true) (by kernel_rfl) (fun _ => by kernel_rfl) ?_
            refine s_val (.bool true) (by kernel_rfl) (fun _ => by kernel_rfl) ?_
            refine s_val (.bool true) (by kernel_rfl) (fun _ => by kernel_rfl) ?_
            refine s_val (.bool true) (by kernel_rfl) (fun _ => by kernel_rfl) ?_
            refine s_nil ?_
            refine fin_seq ?_
            refine ok_seq ?_
            refine ok_region ?_
            refine s_call (k := 7) (args := #[]) (.bool true) (by kernel_rfl) (fun _ => by kernel_rfl) (fun w hO => awake_any w (ht.on hO.below)) ?_
            refine s_val (.bool true) (by kernel_rfl) (fun _ => by kernel_rfl) ?_
            refine s_load 3 ⟨b1, (verV a).cells, 24⟩ (off := 0) (verV a) (by kernel_rfl) rfl (by kernel_rfl) (by kernel_rfl) (by kernel_rfl) ?_
            refine s_load 0 ⟨b4, #[.int .i64 a.maj, .int .i64 a.min, .int .i64 a.pat, .string ⟨#[]⟩, .string (mkS a.build)], 24⟩ (off := 0) (.agg #[.int .i64 a.maj, .int .i64 a.min, .int .i64 a.pat, .string ⟨#[]⟩, .string (mkS a.build)]) (by kernel_rfl) rfl (by kernel_rfl) (by kernel_rfl) (by kernel_rfl) ?_
            refine s_call (k := 6) (args := #[verV a, .agg #[.int .i64 a.maj, .int .i64 a.min, .int .i64 a.pat, .string ⟨#[]⟩, .string (mkS a.build)]]) (.int .i64 (cmpR a (zr a))) (by kernel_rfl) (fun _ => by kernel_rfl) (fun w _ => vcompare_any a (zr a) w sa.1 sa.2 (zr_short sa).1 (zr_short sa).2) ?_
            refine s_dec (p := (cmpR a (zr a) : Int) = -1) true (by kernel_rfl) (fun _ => by kernel_rfl) (decide_eq_true (hrel h1)) ?_
            refine s_val (.bool true) (by kernel_rfl) (fun _ => by kernel_rfl) ?_
            refine s_val (.bool true) (by kernel_rfl) (fun _ => by kernel_rfl) ?_
            refine s_load 1 ⟨b3, #[.int .i64 a.maj, .int .i64 a.min, .int .i64 a.pat, .string ⟨#[48]⟩, .string (mkS a.build)], 24⟩ (off := 0) (.agg #[.int .i64 a.maj, .int .i64 a.min, .int .i64 a.pat, .string ⟨#[48]⟩, .string (mkS a.build)]) (by kernel_rfl) rfl (by kernel_rfl) (by kernel_rfl) (by kernel_rfl) ?_
            refine s_load 3 ⟨b1, (verV a).cells, 24⟩ (off := 0) (verV a) (by kernel_rfl) rfl (by kernel_rfl) (by kernel_rfl) (by kernel_rfl) ?_
            refine s_call (k := 6) (args := #[.agg #[.int .i64 a.maj, .int .i64 a.min, .int .i64 a.pat, .string ⟨#[48]⟩, .string (mkS a.build)], verV a]) (.int .i64 (cmpR (zl a) a)) (by kernel_rfl) (fun _ => by kernel_rfl) (fun w _ => vcompare_any (zl a) a w (zl_short sa).1 (zl_short sa).2 sa.1 sa.2) ?_
            refine s_dec (p := (cmpR (zl a) a : Int) ≤ 0) true (by kernel_rfl) (fun _ => by kernel_rfl) (decide_eq_true (hleast h1)) ?_
            refine s_val (.bool true) (by kernel_rfl) (fun _ => by kernel_rfl) ?_
            refine s_val (.bool true) (by kernel_rfl) (fun _ => by kernel_rfl) ?_
            refine s_val (.bool true) (by kernel_rfl) (fun _ => by kernel_rfl) ?_
            refine s_val (.bool false) (by kernel_rfl) (fun _ => by kernel_rfl) ?_
            refine s_val (.bool false) (by kernel_rfl) (fun _ => by kernel_rfl) ?_
            refine s_load 2 ⟨b2, (verV u).cells, 24⟩ (off := 0) (verV u) (by kernel_rfl) rfl (by kernel_rfl) (by kernel_rfl) (by kernel_rfl) ?_
            refine s_load 1 ⟨b3, #[.int .i64 a.maj, .int .i64 a.min, .int .i64 a.pat, .string ⟨#[48]⟩, .string (mkS a.build)], 24⟩ (off := 0) (.agg #[.int .i64 a.maj, .int .i64 a.min, .int .i64 a.pat, .string ⟨#[48]⟩, .string (mkS a.build)]) (by kernel_rfl) rfl (by kernel_rfl) (by kernel_rfl) (by kernel_rfl) ?_
            refine s_call (k := 6) (args := #[verV u, .agg #[.int .i64 a.maj, .int .i64 a.min, .int .i64 a.pat, .string ⟨#[48]⟩, .string (mkS a.build)]]) (.int .i64 (cmpR u (zl a))) (by kernel_rfl) (fun _ => by kernel_rfl) (fun w _ => vcompare_any u (zl a) w su.1 su.2 (zl_short sa).1 (zl_short sa).2) ?_
            refine s_dec (p := (cmpR u (zl a) : Int) = -1) true (by kernel_rfl) (fun _ => by kernel_rfl) (decide_eq_true (hless (by omega))) ?_
            refine s_val (.bool true) (by kernel_rfl) (fun _ => by kernel_rfl) ?_
            refine s_val (.bool true) (by kernel_rfl) (fun _ => by kernel_rfl) ?_
            refine s_val (.bool true) (by kernel_rfl) (fun _ => by kernel_rfl) ?_
            refine s_nil ?_
            refine fin_seq ?_
            refine ok_ret ?_
            refine fin_ret (.bool true) Tryd.results4 (by kernel_rfl) ?_
            exact fun w hO => ⟨rfl, hO.below⟩
          · skip
            refine s_dec (p := (u.min : Int) < a.min) false (by kernel_rfl) (fun _ => by kernel_rfl) (decide_eq_false (h9)) ?_
            refine s_val (.bool false) (by kernel_rfl) (fun _ => by kernel_rfl) ?_
            refine s_val (.pointer (some ⟨b2, 1, none⟩)) (by kernel_rfl) (fun _ => by kernel_rfl) ?_
            refine s_load 2 ⟨b2, (verV u).cells, 24⟩ (off := 1) (.int .i64 u.min) (by kernel_rfl) rfl (by kernel_rfl) (by kernel_rfl) (by kernel_rfl) ?_
            refine s_val (.pointer (some ⟨b1, 1, none⟩)) (by kernel_rfl) (fun _ => by kernel_rfl) ?_
            refine s_load 3 ⟨b1, (verV a).cells, 24⟩ (off := 1) (.int .i64 a.min) (by kernel_rfl) rfl (by kernel_rfl) (by kernel_rfl) (by kernel_rfl) ?_
            by_cases h10 : (u.min : Int) = a.min
            · skip
              refine s_dec (p := (u.min : Int) = a.min) true (by kernel_rfl) (fun _ => by kernel_rfl) (decide_eq_true (h10)) ?_
              refine s_val (.bool true) (by kernel_rfl) (fun _ => by kernel_rfl) ?_
              refine s_val (.pointer (some ⟨b2, 2, none⟩)) (by kernel_rfl) (fun _ => by kernel_rfl) ?_
              refine s_load 2 ⟨b2, (verV u).cells, 24⟩ (off := 2) (.int .i64 u.pat) (by kernel_rfl) rfl (by kernel_rfl) (by kernel_rfl) (by kernel_rfl) ?_
              refine s_val (.pointer (some ⟨b1, 2, none⟩)) (by kernel_rfl) (fun _ => by kernel_rfl) ?_
              refine s_load 3 ⟨b1, (verV a).cells, 24⟩ (off := 2) (.int .i64 a.pat) (by kernel_rfl) rfl (by kernel_rfl) (by kernel_rfl) (by kernel_rfl) ?_
              by_cases h11 : (u.pat : Int) < a.pat
              · skip
                refine s_dec (p := (u.pat : Int) < a.pat) true (by kernel_rfl) (fun _ => by kernel_rfl) (decide_eq_true (h11)) ?_
                refine s_val (.bool true) (by kernel_rfl) (fun _ => by kernel_rfl) ?_
                refine s_val (.bool true) (by kernel_rfl) (fun _ => by kernel_rfl) ?_
                refine s_val (.bool true) (by kernel_rfl) (fun _ => by kernel_rfl) ?_
                refine s_val (.bool true) (by kernel_rfl) (fun _ => by kernel_rfl) ?_
                refine s_val (.bool true) (by kernel_rfl) (fun _ => by kernel_rfl) ?_
                refine s_nil ?_
                refine fin_seq ?_
                refine ok_seq ?_
                refine ok_region ?_
                refine s_call (k := 7) (args := #[]) (.bool true) (by kernel_rfl) (fun _ => by kernel_rfl) (fun w hO => awake_any w (ht.on hO.below)) ?_
                refine s_val (.bool true) (by kernel_rfl) (fun _ => by kernel_rfl) ?_
                refine s_load 3 ⟨b1, (verV a).cells, 24⟩ (off := 0) (verV a) (by kernel_rfl) rfl (by kernel_rfl) (by kernel_rfl) (by kernel_rfl) ?_
                refine s_load 0 ⟨b4, #[.int .i64 a.maj, .int .i64 a.min, .int .i64 a.pat, .string ⟨#[]⟩, .string (mkS a.build)], 24⟩ (off := 0) (.agg #[.int .i64 a.maj, .int .i64 a.min, .int .i64 a.pat, .string ⟨#[]⟩, .string (mkS a.build)]) (by kernel_rfl) rfl (by kernel_rfl) (by kernel_rfl) (by kernel_rfl) ?_
                refine s_call (k := 6) (args := #[verV a, .agg #[.int .i64 a.maj, .int .i64 a.min, .int .i64 a.pat, .string ⟨#[]⟩, .string (mkS a.build)]]) (.int .i64 (cmpR a (zr a))) (by kernel_rfl) (fun _ => by kernel_rfl) (fun w _ => vcompare_any a (zr a) w sa.1 sa.2 (zr_short sa).1 (zr_short sa).2) ?_
                refine s_dec (p := (cmpR a (zr a) : Int) = -1) true (by kernel_rfl) (fun _ => by kernel_rfl) (decide_eq_true (hrel h1)) ?_
                refine s_val (.bool true) (by kernel_rfl) (fun _ => by kernel_rfl) ?_
                refine s_val (.bool true) (by kernel_rfl) (fun _ => by kernel_rfl) ?_
                refine s_load 1 ⟨b3, #[.int .i64 a.maj, .int .i64 a.min, .int .i64 a.pat, .string ⟨#[48]⟩, .string (mkS a.build)], 24⟩ (off := 0) (.agg #[.int .i64 a.maj, .int .i64 a.min, .int .i64 a.pat, .string ⟨#[48]⟩, .string (mkS a.build)]) (by kernel_rfl) rfl (by kernel_rfl) (by kernel_rfl) (by kernel_rfl) ?_
                refine s_load 3 ⟨b1, (verV a).cells, 24⟩ (off := 0) (verV a) (by kernel_rfl) rfl (by kernel_rfl) (by kernel_rfl) (by kernel_rfl) ?_
                refine s_call (k := 6) (args := #[.agg #[.int .i64 a.maj, .int .i64 a.min, .int .i64 a.pat, .string ⟨#[48]⟩, .string (mkS a.build)], verV a]) (.int .i64 (cmpR (zl a) a)) (by kernel_rfl) (fun _ => by kernel_rfl) (fun w _ => vcompare_any (zl a) a w (zl_short sa).1 (zl_short sa).2 sa.1 sa.2) ?_
                refine s_dec (p := (cmpR (zl a) a : Int) ≤ 0) true (by kernel_rfl) (fun _ => by kernel_rfl) (decide_eq_true (hleast h1)) ?_
                refine s_val (.bool true) (by kernel_rfl) (fun _ => by kernel_rfl) ?_
                refine s_val (.bool true) (by kernel_rfl) (fun _ => by kernel_rfl) ?_
                refine s_val (.bool true) (by kernel_rfl) (fun _ => by kernel_rfl) ?_
                refine s_val (.bool false) (by kernel_rfl) (fun _ => by kernel_rfl) ?_
                refine s_val (.bool false) (by kernel_rfl) (fun _ => by kernel_rfl) ?_
                refine s_load 2 ⟨b2, (verV u).cells, 24⟩ (off := 0) (verV u) (by kernel_rfl) rfl (by kernel_rfl) (by kernel_rfl) (by kernel_rfl) ?_
                refine s_load 1 ⟨b3, #[.int .i64 a.maj, .int .i64 a.min, .int .i64 a.pat, .string ⟨#[48]⟩, .string (mkS a.build)], 24⟩ (off := 0) (.agg #[.int .i64 a.maj, .int .i64 a.min, .int .i64 a.pat, .string ⟨#[48]⟩, .string (mkS a.build)]) (by kernel_rfl) rfl (by kernel_rfl) (by kernel_rfl) (by kernel_rfl) ?_
                refine s_call (k := 6) (args := #[verV u, .agg #[.int .i64 a.maj, .int .i64 a.min, .int .i64 a.pat, .string ⟨#[48]⟩, .string (mkS a.build)]]) (.int .i64 (cmpR u (zl a))) (by kernel_rfl) (fun _ => by kernel_rfl) (fun w _ => vcompare_any u (zl a) w su.1 su.2 (zl_short sa).1 (zl_short sa).2) ?_
                refine s_dec (p := (cmpR u (zl a) : Int) = -1) true (by kernel_rfl) (fun _ => by kernel_rfl) (decide_eq_true (hless (by omega))) ?_
                refine s_val (.bool true) (by kernel_rfl) (fun _ => by kernel_rfl) ?_
                refine s_val (.bool true) (by kernel_rfl) (fun _ => by kernel_rfl) ?_
                refine s_val (.bool true) (by kernel_rfl) (fun _ => by kernel_rfl) ?_
                refine s_nil ?_
                refine fin_seq ?_
                refine ok_ret ?_
                refine fin_ret (.bool true) Tryd.results4 (by kernel_rfl) ?_
                exact fun w hO => ⟨rfl, hO.below⟩
              · skip
                refine s_dec (p := (u.pat : Int) < a.pat) false (by kernel_rfl) (fun _ => by kernel_rfl) (decide_eq_false (h11)) ?_
                refine s_val (.bool false) (by kernel_rfl) (fun _ => by kernel_rfl) ?_
                refine s_val (.bool false) (by kernel_rfl) (fun _ => by kernel_rfl) ?_
                refine s_val (.bool false) (by kernel_rfl) (fun _ => by kernel_rfl) ?_
                refine s_val (.bool false) (by kernel_rfl) (fun _ => by kernel_rfl) ?_
                refine s_val (.bool false) (by kernel_rfl) (fun _ => by kernel_rfl) ?_
                refine s_nil ?_
                refine fin_seq ?_
                refine ok_seq ?_
                refine ok_region ?_
                refine s_call (k := 7) (args := #[]) (.bool true) (by kernel_rfl) (fun _ => by kernel_rfl) (fun w hO => awake_any w (ht.on hO.below)) ?_
                refine s_val (.bool true) (by kernel_rfl) (fun _ => by kernel_rfl) ?_
                refine s_load 3 ⟨b1, (verV a).cells, 24⟩ (off := 0) (verV a) (by kernel_rfl) rfl (by kernel_rfl) (by kernel_rfl) (by kernel_rfl) ?_
                refine s_load 0 ⟨b4, #[.int .i64 a.maj, .int .i64 a.min, .int .i64 a.pat, .string ⟨#[]⟩, .string (mkS a.build)], 24⟩ (off := 0) (.agg #[.int .i64 a.maj, .int .i64 a.min, .int .i64 a.pat, .string ⟨#[]⟩, .string (mkS a.build)]) (by kernel_rfl) rfl (by kernel_rfl) (by kernel_rfl) (by kernel_rfl) ?_
                refine s_call (k := 6) (args := #[verV a, .agg #[.int .i64 a.maj, .int .i64 a.min, .int .i64 a.pat, .string ⟨#[]⟩, .string (mkS a.build)]]) (.int .i64 (cmpR a (zr a))) (by kernel_rfl) (fun _ => by kernel_rfl) (fun w _ => vcompare_any a (zr a) w sa.1 sa.2 (zr_short sa).1 (zr_short sa).2) ?_
                refine s_dec (p := (cmpR a (zr a) : Int) = -1) true (by kernel_rfl) (fun _ => by kernel_rfl) (decide_eq_true (hrel h1)) ?_
                refine s_val (.bool true) (by kernel_rfl) (fun _ => by kernel_rfl) ?_
                refine s_val (.bool true) (by kernel_rfl) (fun _ => by kernel_rfl) ?_
                refine s_load 1 ⟨b3, #[.int .i64 a.maj, .int .i64 a.min, .int .i64 a.pat, .string ⟨#[48]⟩, .string (mkS a.build)], 24⟩ (off := 0) (.agg #[.int .i64 a.maj, .int .i64 a.min, .int .i64 a.pat, .string ⟨#[48]⟩, .string (mkS a.build)]) (by kernel_rfl) rfl (by kernel_rfl) (by kernel_rfl) (by kernel_rfl) ?_
                refine s_load 3 ⟨b1, (verV a).cells, 24⟩ (off := 0) (verV a) (by kernel_rfl) rfl (by kernel_rfl) (by kernel_rfl) (by kernel_rfl) ?_
                refine s_call (k := 6) (args := #[.agg #[.int .i64 a.maj, .int .i64 a.min, .int .i64 a.pat, .string ⟨#[48]⟩, .string (mkS a.build)], verV a]) (.int .i64 (cmpR (zl a) a)) (by kernel_rfl) (fun _ => by kernel_rfl) (fun w _ => vcompare_any (zl a) a w (zl_short sa).1 (zl_short sa).2 sa.1 sa.2) ?_
                refine s_dec (p := (cmpR (zl a) a : Int) ≤ 0) true (by kernel_rfl) (fun _ => by kernel_rfl) (decide_eq_true (hleast h1)) ?_
                refine s_val (.bool true) (by kernel_rfl) (fun _ => by kernel_rfl) ?_
                refine s_val (.bool true) (by kernel_rfl) (fun _ => by kernel_rfl) ?_
                refine s_val (.bool false) (by kernel_rfl) (fun _ => by kernel_rfl) ?_
                refine s_val (.bool true) (by kernel_rfl) (fun _ => by kernel_rfl) ?_
                refine s_val (.bool true) (by kernel_rfl) (fun _ => by kernel_rfl) ?_
                refine s_skip (by kernel_rfl) ?_
                refine s_skip (by kernel_rfl) ?_
                refine s_skip (by kernel_rfl) ?_
                refine s_skip (by kernel_rfl) ?_
                refine s_val (.bool true) (by kernel_rfl) (fun _ => by kernel_rfl) ?_
                refine s_val (.bool true) (by kernel_rfl) (fun _ => by kernel_rfl) ?_
                refine s_val (.bool true) (by kernel_rfl) (fun _ => by kernel_rfl) ?_
                refine s_nil ?_
                refine fin_seq ?_
                refine ok_ret ?_
                refine fin_ret (.bool true) Tryd.results4 (by kernel_rfl) ?_
                exact fun w hO => ⟨rfl, hO.below⟩
            · skip
              refine s_dec (p := (u.min : Int) = a.min) false (by kernel_rfl) (fun _ => by kernel_rfl) (decide_eq_false (h10)) ?_
              refine s_val (.bool false) (by kernel_rfl) (fun _ => by kernel_rfl) ?_
              refine s_skip (by kernel_rfl) ?_
              refine s_skip (by kernel_rfl) ?_
              refine s_skip (by kernel_rfl) ?_
              refine s_skip (by kernel_rfl) ?_
              refine s_skip (by kernel_rfl) ?_
              refine s_val (.bool false) (by kernel_rfl) (fun _ => by kernel_rfl) ?_
              refine s_val (.bool false) (by kernel_rfl) (fun _ => by kernel_rfl) ?_
              refine s_val (.bool false) (by kernel_rfl) (fun _ => by kernel_rfl) ?_
              refine s_val (.bool false) (by kernel_rfl) (fun _ => by kernel_rfl) ?_
              refine s_val (.bool false) (by kernel_rfl) (fun _ => by kernel_rfl) ?_
              refine s_nil ?_
              refine fin_seq ?_
              refine ok_seq ?_
              refine ok_region ?_
              refine s_call (k := 7) (args := #[]) (.bool true) (by kernel_rfl) (fun _ => by kernel_rfl) (fun w hO => awake_any w (ht.on hO.below)) ?_
              refine s_val (.bool true) (by kernel_rfl) (fun _ => by kernel_rfl) ?_
              refine s_load 3 ⟨b1, (verV a).cells, 24⟩ (off := 0) (verV a) (by kernel_rfl) rfl (by kernel_rfl) (by kernel_rfl) (by kernel_rfl) ?_
              refine s_load 0 ⟨b4, #[.int .i64 a.maj, .int .i64 a.min, .int .i64 a.pat, .string ⟨#[]⟩, .string (mkS a.build)], 24⟩ (off := 0) (.agg #[.int .i64 a.maj, .int .i64 a.min, .int .i64 a.pat, .string ⟨#[]⟩, .string (mkS a.build)]) (by kernel_rfl) rfl (by kernel_rfl) (by kernel_rfl) (by kernel_rfl) ?_
              refine s_call (k := 6) (args := #[verV a, .agg #[.int .i64 a.maj, .int .i64 a.min, .int .i64 a.pat, .string ⟨#[]⟩, .string (mkS a.build)]]) (.int .i64 (cmpR a (zr a))) (by kernel_rfl) (fun _ => by kernel_rfl) (fun w _ => vcompare_any a (zr a) w sa.1 sa.2 (zr_short sa).1 (zr_short sa).2) ?_
              refine s_dec (p := (cmpR a (zr a) : Int) = -1) true (by kernel_rfl) (fun _ => by kernel_rfl) (decide_eq_true (hrel h1)) ?_
              refine s_val (.bool true) (by kernel_rfl) (fun _ => by kernel_rfl) ?_
              refine s_val (.bool true) (by kernel_rfl) (fun _ => by kernel_rfl) ?_
              refine s_load 1 ⟨b3, #[.int .i64 a.maj, .int .i64 a.min, .int .i64 a.pat, .string ⟨#[48]⟩, .string (mkS a.build)], 24⟩ (off := 0) (.agg #[.int .i64 a.maj, .int .i64 a.min, .int .i64 a.pat, .string ⟨#[48]⟩, .string (mkS a.build)]) (by kernel_rfl) rfl (by kernel_rfl) (by kernel_rfl) (by kernel_rfl) ?_
              refine s_load 3 ⟨b1, (verV a).cells, 24⟩ (off := 0) (verV a) (by kernel_rfl) rfl (by kernel_rfl) (by kernel_rfl) (by kernel_rfl) ?_
              refine s_call (k := 6) (args := #[.agg #[.int .i64 a.maj, .int .i64 a.min, .int .i64 a.pat, .string ⟨#[48]⟩, .string (mkS a.build)], verV a]) (.int .i64 (cmpR (zl a) a)) (by kernel_rfl) (fun _ => by kernel_rfl) (fun w _ => vcompare_any (zl a) a w (zl_short sa).1 (zl_short sa).2 sa.1 sa.2) ?_
              refine s_dec (p := (cmpR (zl a) a : Int) ≤ 0) true (by kernel_rfl) (fun _ => by kernel_rfl) (decide_eq_true (hleast h1)) ?_
              refine s_val (.bool true) (by kernel_rfl) (fun _ => by kernel_rfl) ?_
              refine s_val (.bool true) (by kernel_rfl) (fun _ => by kernel_rfl) ?_
              refine s_val (.bool false) (by kernel_rfl) (fun _ => by kernel_rfl) ?_
              refine s_val (.bool true) (by kernel_rfl) (fun _ => by kernel_rfl) ?_
              refine s_val (.bool true) (by kernel_rfl) (fun _ => by kernel_rfl) ?_
              refine s_skip (by kernel_rfl) ?_
              refine s_skip (by kernel_rfl) ?_
              refine s_skip (by kernel_rfl) ?_
              refine s_skip (by kernel_rfl) ?_
              refine s_val (.bool true) (by kernel_rfl) (fun _ => by kernel_rfl) ?_
              refine s_val (.bool true) (by kernel_rfl) (fun _ => by kernel_rfl) ?_
              refine s_val (.bool true) (by kernel_rfl) (fun _ => by kernel_rfl) ?_
              refine s_nil ?_
              refine fin_seq ?_
              refine ok_ret ?_
              refine fin_ret (.bool true) Tryd.results4 (by kernel_rfl) ?_
              exact fun w hO => ⟨rfl, hO.below⟩
        · skip
          refine s_dec (p := (u.maj : Int) = a.maj) false (by kernel_rfl) (fun _ => by kernel_rfl) (decide_eq_false (h8)) ?_
          refine s_val (.bool false) (by kernel_rfl) (fun _ => by kernel_rfl) ?_
          refine s_skip (by kernel_rfl) ?_
          refine s_skip (by kernel_rfl) ?_
          refine s_skip (by kernel_rfl) ?_
          refine s_skip (by kernel_rfl) ?_
          refine s_skip (by kernel_rfl) ?_
          refine s_skip (by kernel_rfl) ?_
          refine s_skip (by kernel_rfl) ?_
          refine s_skip (by kernel_rfl) ?_
          refine s_skip (by kernel_rfl) ?_
          refine s_skip (by kernel_rfl) ?_
          refine s_skip (by kernel_rfl) ?_
          refine s_skip (by kernel_rfl) ?_
          refine s_skip (by kernel_rfl) ?_
          refine s_skip (by kernel_rfl) ?_
          refine s_skip (by kernel_rfl) ?_
          refine s_skip (by kernel_rfl) ?_
          refine s_skip (by kernel_rfl) ?_
          refine s_skip (by kernel_rfl) ?_
          refine s_skip (by kernel_rfl) ?_
          refine s_val (.bool false) (by kernel_rfl) (fun _ => by kernel_rfl) ?_
          refine s_val (.bool false) (by kernel_rfl) (fun _ => by kernel_rfl) ?_
          refine s_val (.bool false) (by kernel_rfl) (fun _ => by kernel_rfl) ?_
          refine s_nil ?_
          refine fin_seq ?_
          refine ok_seq ?_
          refine ok_region ?_
          refine s_call (k := 7) (args := #[]) (.bool true) (by kernel_rfl) (fun _ => by kernel_rfl) (fun w hO => awake_any w (ht.on hO.below)) ?_
          refine s_val (.bool true) (by kernel_rfl) (fun _ => by kernel_rfl) ?_
          refine s_load 3 ⟨b1, (verV a).cells, 24⟩ (off := 0) (verV a) (by kernel_rfl) rfl (by kernel_rfl) (by kernel_rfl) (by kernel_rfl) ?_
          refine s_load 0 ⟨b4, #[.int .i64 a.maj, .int .i64 a.min, .int .i64 a.pat, .string ⟨#[]⟩, .string (mkS a.build)], 24⟩ (off := 0) (.agg #[.int .i64 a.maj, .int .i64 a.min, .int .i64 a.pat, .string ⟨#[]⟩, .string (mkS a.build)]) (by kernel_rfl) rfl (by kernel_rfl) (by kernel_rfl) (by kernel_rfl) ?_
          refine s_call (k := 6) (args := #[verV a, .agg #[.int .i64 a.maj, .int .i64 a.min, .int .i64 a.pat, .string ⟨#[]⟩, .string (mkS a.build)]]) (.int .i64 (cmpR a (zr a))) (by kernel_rfl) (fun _ => by kernel_rfl) (fun w _ => vcompare_any a (zr a) w sa.1 sa.2 (zr_short sa).1 (zr_short sa).2) ?_
          refine s_dec (p := (cmpR a (zr a) : Int) = -1) true (by kernel_rfl) (fun _ => by kernel_rfl) (decide_eq_true (hrel h1)) ?_
          refine s_val (.bool true) (by kernel_rfl) (fun _ => by kernel_rfl) ?_
          refine s_val (.bool true) (by kernel_rfl) (fun _ => by kernel_rfl) ?_
          refine s_load 1 ⟨b3, #[.int .i64 a.maj, .int .i64 a.min, .int .i64 a.pat, .string ⟨#[48]⟩, .string (mkS a.build)], 24⟩ (off := 0) (.agg #[.int .i64 a.maj, .int .i64 a.min, .int .i64 a.pat, .string ⟨#[48]⟩, .string (mkS a.build)]) (by kernel_rfl) rfl (by kernel_rfl) (by kernel_rfl) (by kernel_rfl) ?_
          refine s_load 3 ⟨b1, (verV a).cells, 24⟩ (off := 0) (verV a) (by kernel_rfl) rfl (by kernel_rfl) (by kernel_rfl) (by kernel_rfl) ?_
          refine s_call (k := 6) (args := #[.agg #[.int .i64 a.maj, .int .i64 a.min, .int .i64 a.pat, .string ⟨#[48]⟩, .string (mkS a.build)], verV a]) (.int .i64 (cmpR (zl a) a)) (by kernel_rfl) (fun _ => by kernel_rfl) (fun w _ => vcompare_any (zl a) a w (zl_short sa).1 (zl_short sa).2 sa.1 sa.2) ?_
          refine s_dec (p := (cmpR (zl a) a : Int) ≤ 0) true (by kernel_rfl) (fun _ => by kernel_rfl) (decide_eq_true (hleast h1)) ?_
          refine s_val (.bool true) (by kernel_rfl) (fun _ => by kernel_rfl) ?_
          refine s_val (.bool true) (by kernel_rfl) (fun _ => by kernel_rfl) ?_
          refine s_val (.bool false) (by kernel_rfl) (fun _ => by kernel_rfl) ?_
          refine s_val (.bool true) (by kernel_rfl) (fun _ => by kernel_rfl) ?_
          refine s_val (.bool true) (by kernel_rfl) (fun _ => by kernel_rfl) ?_
          refine s_skip (by kernel_rfl) ?_
          refine s_skip (by kernel_rfl) ?_
          refine s_skip (by kernel_rfl) ?_
          refine s_skip (by kernel_rfl) ?_
          refine s_val (.bool true) (by kernel_rfl) (fun _ => by kernel_rfl) ?_
          refine s_val (.bool true) (by kernel_rfl) (fun _ => by kernel_rfl) ?_
          refine s_val (.bool true) (by kernel_rfl) (fun _ => by kernel_rfl) ?_
          refine s_nil ?_
          refine fin_seq ?_
          refine ok_ret ?_
          refine fin_ret (.bool true) Tryd.results4 (by kernel_rfl) ?_
          exact fun w hO => ⟨rfl, hO.below⟩
end Go.Proofs.YtndjdmbbndcohaaDoor
