/-
  SetMakes: for every input the call returns true, and each argument reads afterwards as it read before. Conditions: none but the row's own.
-/
import Derived.Test.YtgeccfdofmnphaaGreatRows
import Derived.Test.YtgeccfdofmnphaaGreatMA6

section
/-
  SetMakes: for any list of numbers the law returns true, and nothing that was there is changed. No condition.
-/
namespace Go.Proofs.YtgeccfdofmnphaaGreat
open Go.RowKit
set_option maxRecDepth 100000
set_option linter.unusedVariables false
set_option linter.unusedSimpArgs false
set_option maxHeartbeats 2000000

set_option maxHeartbeats 8000000 in
theorem setMakes.law (W : World) (x : Value) (xl : List Int) (hxl : ReadsI W W.heap.size x xl) (lxl : xl.length ≤ maxLen) :
    Calls Tryz.prog 6 #[x] W fun e w' => e = .returned (.bool true) ∧ Below W.heap.size W w' := by
  obtain ⟨u, eu⟩ : ∃ q, q = genV xl 98 := ⟨_, rfl⟩
  have mu : u.may = true := eu ▸ gen_may xl 98
  have su : u.short := eu ▸ ⟨Nat.le_trans (gen_pre xl 98) (by decide), Nat.le_trans (gen_bld xl 98) (by decide)⟩
  obtain ⟨p, ep⟩ : ∃ q, q = rowG xl 0 := ⟨_, rfl⟩
  have fp : RF p 10 := ep ▸ rowG_rf5 xl 0
  obtain ⟨q, eq⟩ : ∃ q, q = rowG xl 49 := ⟨_, rfl⟩
  have fq : RF q 10 := eq ▸ rowG_rf5 xl 49
  obtain ⟨s, es⟩ : ∃ s : St, (⟨makeRel p, q⟩ : St) = s := ⟨_, rfl⟩
  have fs : SF s 22 := es ▸ ⟨makeRel_rf fp.len, fq.le (by decide), makeRel_right (row_mem fp.may)⟩
  have ess : (⟨makeRel s.rel, s.pre⟩ : St) = s := St.eq (makeRel_self fs.rel.may fs.right) rfl
  refine calls_ok (n := 63) Tryz.func6 rfl (by kernel_rfl) (by kernel_rfl) ?_
  refine ok_seq ?_
  refine ok_region ?_
  refine s_val (.bool false) (by kernel_rfl) (fun _ => by kernel_rfl) ?_
  refine s_nil ?_
  refine fin_seq ?_
  refine ok_seq ?_
  refine ok_region ?_
  refine s_val (x) (by kernel_rfl) (fun _ => by kernel_rfl) ?_
  refine s_callo (k := 38) (args := #[x, .int .i64 0]) (fun v' L' => ∃ ob', L' = ob' ++ ([]) ∧ SlS v' (p) ob') (by kernel_rfl) (fun _ => by kernel_rfl) (fun w hO => (row_any x xl 0 w ((hxl.below hO.below).more hO.below.size) (by unfold maxLen at lxl; omega) (by omega)).mono fun e w' ⟨v', ob', k1, k2, k3⟩ => ⟨v', _, k1, ⟨ob', rfl, by rw [← ep] at k2; exact k2⟩, Own.joinN hO k3⟩) (fun v1 L1 hv1 => ?_)
  obtain ⟨o1, rfl, hr1⟩ := hv1
  obtain ⟨V1, c1, rfl⟩ := hr1.form
  refine s_cast (L' := o1) (List.append_nil _) ?_
  refine s_val (x) (by kernel_rfl) (fun _ => by kernel_rfl) ?_
  refine s_callo (k := 38) (args := #[x, .int .i64 49]) (fun v' L' => ∃ ob', L' = ob' ++ (o1) ∧ SlS v' (q) ob') (by kernel_rfl) (fun _ => by kernel_rfl) (fun w hO => (row_any x xl 49 w ((hxl.below hO.below).more hO.below.size) (by unfold maxLen at lxl; omega) (by omega)).mono fun e w' ⟨v', ob', k1, k2, k3⟩ => ⟨v', _, k1, ⟨ob', rfl, by rw [← eq] at k2; exact k2⟩, Own.joinN hO k3⟩) (fun v2 L2 hv2 => ?_)
  obtain ⟨o2, rfl, hr2⟩ := hv2
  obtain ⟨V2, c2, rfl⟩ := hr2.form
  refine s_val (x) (by kernel_rfl) (fun _ => by kernel_rfl) ?_
  refine s_call (k := 35) (args := #[x, .int .i64 98]) (verV u) (by kernel_rfl) (fun _ => by kernel_rfl) (fun w hO => ret_v (by rw [eu]) (gen_any x xl 98 w ((hxl.below hO.below).more hO.below.size) (by unfold maxLen at lxl; omega) (by omega))) ?_
  refine s_alloc_at (.agg #[.int .i64 0, .int .i64 0, .int .i64 0, .string ⟨#[]⟩, .string ⟨#[]⟩]) (by kernel_rfl) rfl (by kernel_rfl) (fun b1 => ?_)
  refine s_val (.slice V1 ((p).length) c1) (by kernel_rfl) (fun _ => by kernel_rfl) ?_
  refine s_val (.slice V2 ((q).length) c2) (by kernel_rfl) (fun _ => by kernel_rfl) ?_
  refine s_store_at 0 ⟨b1, #[.int .i64 0, .int .i64 0, .int .i64 0, .string ⟨#[]⟩, .string ⟨#[]⟩], 26⟩ (off := 0) (verV u) (by kernel_rfl) rfl rfl (by kernel_rfl) (by kernel_rfl) (by kernel_rfl) (by kernel_rfl) (by kernel_rfl) ?_
  refine s_nil ?_
  refine fin_seq ?_
  refine ok_seq ?_
  refine ok_region ?_
  refine s_val (.slice V1 ((p).length) c1) (by kernel_rfl) (fun _ => by kernel_rfl) ?_
  refine s_val (.slice V2 ((q).length) c2) (by kernel_rfl) (fun _ => by kernel_rfl) ?_
  refine s_callo (k := 12) (args := #[.slice V1 ((p).length) c1, .slice V2 ((q).length) c2]) (fun v' L' => ∃ mv ob', v' = .tuple #[mv, .bool true] ∧ L' = ob' ++ (⟨b1, (verV u).cells, 26⟩ :: (o2 ++ (o1))) ∧ SetO mv (s) ob') (by kernel_rfl) (fun _ => by kernel_rfl) (fun w hO => (sMake_any V1 V2 c1 c2 p q w (Sl.reads hr1 rfl hO (fun x hx => by simp [hx])) (Sl.reads hr2 rfl hO (fun x hx => by simp [hx])) (Nat.le_trans fp.len (by decide)) (Nat.le_trans fq.len (by decide)) fp.short fq.short (sls_cap hr1) (sls_cap hr2)).mono fun e w' ⟨v', ob', k1, k2, k3⟩ => ⟨_, _, k1, ⟨v', ob', by rw [fp.may, fq.may]; rfl, rfl, by rw [if_pos (by rw [fp.may, fq.may]; rfl), es] at k2; exact k2⟩, Own.joinN hO k3⟩) (fun tv3 L3 hv3 => ?_)
  obtain ⟨v3, o3, rfl, rfl, hr3⟩ := hv3
  obtain ⟨V3, U3, c3, d3, rfl⟩ := hr3.form
  refine s_val (.tuple #[.agg #[.slice V3 ((s).rel.length) c3, .slice U3 ((s).pre.length) d3], .bool true]) (by kernel_rfl) (fun _ => by kernel_rfl) ?_
  refine s_val (.agg #[.slice V3 ((s).rel.length) c3, .slice U3 ((s).pre.length) d3]) (by kernel_rfl) (fun _ => by kernel_rfl) ?_
  refine s_val (.bool true) (by kernel_rfl) (fun _ => by kernel_rfl) ?_
  refine s_alloc_at (.agg #[.slice none 0 0, .slice none 0 0]) (by kernel_rfl) rfl (by kernel_rfl) (fun b2 => ?_)
  refine s_store_at 0 ⟨b2, #[.slice none 0 0, .slice none 0 0], 24⟩ (off := 0) (.agg #[.slice V3 ((s).rel.length) c3, .slice U3 ((s).pre.length) d3]) (by kernel_rfl) rfl rfl (by kernel_rfl) (by kernel_rfl) (by kernel_rfl) (by kernel_rfl) (by kernel_rfl) ?_
  refine s_val (.bool true) (by kernel_rfl) (fun _ => by kernel_rfl) ?_
  refine s_nil ?_
  refine fin_seq ?_
  refine ok_seq ?_
  refine ok_region ?_
  refine s_val (.slice V1 ((p).length) c1) (by kernel_rfl) (fun _ => by kernel_rfl) ?_
  refine s_loadm ⟨b1, (verV u).cells, 26⟩ (off := 0) (verV u) (by kernel_rfl) rfl (by simp) (by kernel_rfl) (by kernel_rfl) ?_
  refine s_call (k := 39) (args := #[.slice V1 ((p).length) c1, verV u]) (.bool (rowHas p u)) (by kernel_rfl) (fun _ => by kernel_rfl) (fun w hO => rrowHas_any V1 c1 p u w (Sl.reads hr1 rfl hO (fun x hx => by simp [hx])) (Nat.le_trans fp.len (by decide)) fp.short su) ?_
  refine s_val (.bool (rowHas p u)) (by kernel_rfl) (fun _ => by kernel_rfl) ?_
  refine s_nil ?_
  refine fin_seq ?_
  refine ok_seq ?_
  refine ok_seq ?_
  refine ok_region ?_
  refine s_val (.pointer (some ⟨b1, 3, none⟩)) (by kernel_rfl) (fun _ => by kernel_rfl) ?_
  refine s_loadm ⟨b1, (verV u).cells, 26⟩ (off := 3) (.string (mkS u.pre)) (by kernel_rfl) rfl (by simp) (by kernel_rfl) (by kernel_rfl) ?_
  by_cases h1 : (u.pre : List UInt8) = []
  · skip
    refine s_val (.bool false) (by kernel_rfl) (run_strneq (a := u.pre) (b := ([])) rfl (by kernel_rfl) (by kernel_rfl) (decide_eq_true (h1))) ?_
    refine s_nil ?_
    refine fin_seq ?_
    refine ok_false (by kernel_rfl) ?_
    refine ok_skip ?_
    refine fin_seq ?_
    refine ok_seq ?_
    refine ok_region ?_
    refine s_val (.pointer (some ⟨b2, 0, none⟩)) (by kernel_rfl) (fun _ => by kernel_rfl) ?_
    refine s_load 0 ⟨b2, #[.slice V3 ((s).rel.length) c3, .slice U3 ((s).pre.length) d3], 24⟩ (off := 0) (.slice V3 ((s).rel.length) c3) (by kernel_rfl) rfl (by kernel_rfl) (by kernel_rfl) (by kernel_rfl) ?_
    refine s_val (.pointer (some ⟨b2, 1, none⟩)) (by kernel_rfl) (fun _ => by kernel_rfl) ?_
    refine s_load 0 ⟨b2, #[.slice V3 ((s).rel.length) c3, .slice U3 ((s).pre.length) d3], 24⟩ (off := 1) (.slice U3 ((s).pre.length) d3) (by kernel_rfl) rfl (by kernel_rfl) (by kernel_rfl) (by kernel_rfl) ?_
    refine s_callo (k := 12) (args := #[.slice V3 ((s).rel.length) c3, .slice U3 ((s).pre.length) d3]) (fun v' L' => ∃ mv ob', v' = .tuple #[mv, .bool true] ∧ L' = ob' ++ (⟨b2, #[.slice V3 ((s).rel.length) c3, .slice U3 ((s).pre.length) d3], 24⟩ :: (o3 ++ (⟨b1, (verV u).cells, 26⟩ :: (o2 ++ (o1))))) ∧ SetO mv (s) ob') (by kernel_rfl) (fun _ => by kernel_rfl) (fun w hO => (sMake_any V3 U3 c3 d3 s.rel s.pre w ((SetO.inn hr3 hO (fun x hx => by simp [hx]) (fs) (by decide))).rel ((SetO.inn hr3 hO (fun x hx => by simp [hx]) (fs) (by decide))).pre (Nat.le_trans ((fs).rel.len) (by decide)) (Nat.le_trans ((fs).pre.len) (by decide)) ((fs).rel.short) ((fs).pre.short) (hr3.caps).1 (hr3.caps).2).mono fun e w' ⟨v', ob', k1, k2, k3⟩ => ⟨_, _, k1, ⟨v', ob', by rw [(fs).rel.may, (fs).pre.may]; rfl, rfl, by rw [if_pos (by rw [(fs).rel.may, (fs).pre.may]; rfl), ess] at k2; exact k2⟩, Own.joinN hO k3⟩) (fun tv4 L4 hv4 => ?_)
    obtain ⟨v4, o4, rfl, rfl, hr4⟩ := hv4
    obtain ⟨V4, U4, c4, d4, rfl⟩ := hr4.form
    refine s_val (.tuple #[.agg #[.slice V4 ((s).rel.length) c4, .slice U4 ((s).pre.length) d4], .bool true]) (by kernel_rfl) (fun _ => by kernel_rfl) ?_
    refine s_val (.agg #[.slice V4 ((s).rel.length) c4, .slice U4 ((s).pre.length) d4]) (by kernel_rfl) (fun _ => by kernel_rfl) ?_
    refine s_val (.bool true) (by kernel_rfl) (fun _ => by kernel_rfl) ?_
    refine s_alloc_at (.agg #[.slice none 0 0, .slice none 0 0]) (by kernel_rfl) rfl (by kernel_rfl) (fun b3 => ?_)
    refine s_store_at 0 ⟨b3, #[.slice none 0 0, .slice none 0 0], 24⟩ (off := 0) (.agg #[.slice V4 ((s).rel.length) c4, .slice U4 ((s).pre.length) d4]) (by kernel_rfl) rfl rfl (by kernel_rfl) (by kernel_rfl) (by kernel_rfl) (by kernel_rfl) (by kernel_rfl) ?_
    refine s_val (.bool true) (by kernel_rfl) (fun _ => by kernel_rfl) ?_
    refine s_nil ?_
    refine fin_seq ?_
    refine ok_seq ?_
    refine ok_region ?_
    refine s_call (k := 11) (args := #[]) (.bool true) (by kernel_rfl) (fun _ => by kernel_rfl) (fun w _ => awake5_any w) ?_
    refine s_val (.bool true) (by kernel_rfl) (fun _ => by kernel_rfl) ?_
    refine s_val (.bool true) (by kernel_rfl) (fun _ => by kernel_rfl) ?_
    refine s_val (.bool true) (by kernel_rfl) (fun _ => by kernel_rfl) ?_
    refine s_val (.bool true) (by kernel_rfl) (fun _ => by kernel_rfl) ?_
    refine s_val (.bool true) (by kernel_rfl) (fun _ => by kernel_rfl) ?_
    refine s_val (.bool true) (by kernel_rfl) (fun _ => by kernel_rfl) ?_
    refine s_val (.bool true) (by kernel_rfl) (fun _ => by kernel_rfl) ?_
    refine s_loadm ⟨b2, #[.slice V3 ((s).rel.length) c3, .slice U3 ((s).pre.length) d3], 24⟩ (off := 0) (.agg #[.slice V3 ((s).rel.length) c3, .slice U3 ((s).pre.length) d3]) (by kernel_rfl) rfl (by simp) (by kernel_rfl) (by kernel_rfl) ?_
    refine s_call (k := 14) (args := #[.agg #[.slice V3 ((s).rel.length) c3, .slice U3 ((s).pre.length) d3]]) (.bool true) (by kernel_rfl) (fun _ => by kernel_rfl) (fun w hO => ret_b (fs).may (sMay_any V3 U3 c3 d3 s w (SetO.inn hr3 hO (fun x hx => by simp [hx]) (fs) (by decide)) hr3.caps)) ?_
    refine s_val (.bool true) (by kernel_rfl) (fun _ => by kernel_rfl) ?_
    refine s_val (.bool true) (by kernel_rfl) (fun _ => by kernel_rfl) ?_
    refine s_loadm ⟨b2, #[.slice V3 ((s).rel.length) c3, .slice U3 ((s).pre.length) d3], 24⟩ (off := 0) (.agg #[.slice V3 ((s).rel.length) c3, .slice U3 ((s).pre.length) d3]) (by kernel_rfl) rfl (by simp) (by kernel_rfl) (by kernel_rfl) ?_
    refine s_loadm ⟨b1, (verV u).cells, 26⟩ (off := 0) (verV u) (by kernel_rfl) rfl (by simp) (by kernel_rfl) (by kernel_rfl) ?_
    refine s_call (k := 16) (args := #[.agg #[.slice V3 ((s).rel.length) c3, .slice U3 ((s).pre.length) d3], verV u]) (.bool (rowHas p u)) (by kernel_rfl) (fun _ => by kernel_rfl) (fun w hO => ret_b (by rw [has_may fs mu, if_pos h1, ← es]; exact makeRel_has fp.may mu h1) (sHas_any V3 U3 c3 d3 s u w (SetO.inn hr3 hO (fun x hx => by simp [hx]) (fs) (by decide)) su hr3.caps)) ?_
    refine s_val (.bool (rowHas p u)) (by kernel_rfl) (fun _ => by kernel_rfl) ?_
    cases h2 : rowHas p u with
    | true =>
      refine s_val (.bool true) (by kernel_rfl) (fun _ => by kernel_rfl) ?_
      refine s_val (.bool true) (by kernel_rfl) (fun _ => by kernel_rfl) ?_
      refine s_val (.bool true) (by kernel_rfl) (fun _ => by kernel_rfl) ?_
      refine s_load 0 ⟨b3, #[.slice V4 ((s).rel.length) c4, .slice U4 ((s).pre.length) d4], 24⟩ (off := 0) (.agg #[.slice V4 ((s).rel.length) c4, .slice U4 ((s).pre.length) d4]) (by kernel_rfl) rfl (by kernel_rfl) (by kernel_rfl) (by kernel_rfl) ?_
      refine s_loadm ⟨b2, #[.slice V3 ((s).rel.length) c3, .slice U3 ((s).pre.length) d3], 24⟩ (off := 0) (.agg #[.slice V3 ((s).rel.length) c3, .slice U3 ((s).pre.length) d3]) (by kernel_rfl) rfl (by simp) (by kernel_rfl) (by kernel_rfl) ?_
      refine s_call (k := 33) (args := #[.agg #[.slice V4 ((s).rel.length) c4, .slice U4 ((s).pre.length) d4], .agg #[.slice V3 ((s).rel.length) c3, .slice U3 ((s).pre.length) d3]]) (.bool true) (by kernel_rfl) (fun _ => by kernel_rfl) (fun w hO => ret_b ((same_b _ _).trans (decide_eq_true (rfl))) (sSame_any V4 U4 V3 U3 c4 d4 c3 d3 s s w (SetO.inn hr4 hO (fun x hx => by simp [hx]) (fs) (by decide)) (SetO.inn hr3 hO (fun x hx => by simp [hx]) (fs) (by decide)) hr4.caps hr3.caps)) ?_
      refine s_val (.bool true) (by kernel_rfl) (fun _ => by kernel_rfl) ?_
      refine s_val (.bool true) (by kernel_rfl) (fun _ => by kernel_rfl) ?_
      refine s_nil ?_
      refine fin_seq ?_
      refine ok_ret ?_
      refine fin_ret (.bool true) Tryz.results6 (by kernel_rfl) ?_
      exact fun w hO => ⟨rfl, hO.below⟩
    | false =>
      refine s_val (.bool true) (by kernel_rfl) (fun _ => by kernel_rfl) ?_
      refine s_val (.bool true) (by kernel_rfl) (fun _ => by kernel_rfl) ?_
      refine s_val (.bool true) (by kernel_rfl) (fun _ => by kernel_rfl) ?_
      refine s_load 0 ⟨b3, #[.slice V4 ((s).rel.length) c4, .slice U4 ((s).pre.length) d4], 24⟩ (off := 0) (.agg #[.slice V4 ((s).rel.length) c4, .slice U4 ((s).pre.length) d4]) (by kernel_rfl) rfl (by kernel_rfl) (by kernel_rfl) (by kernel_rfl) ?_
      refine s_loadm ⟨b2, #[.slice V3 ((s).rel.length) c3, .slice U3 ((s).pre.length) d3], 24⟩ (off := 0) (.agg #[.slice V3 ((s).rel.length) c3, .slice U3 ((s).pre.length) d3]) (by kernel_rfl) rfl (by simp) (by kernel_rfl) (by kernel_rfl) ?_
      refine s_call (k := 33) (args := #[.agg #[.slice V4 ((s).rel.length) c4, .slice U4 ((s).pre.length) d4], .agg #[.slice V3 ((s).rel.length) c3, .slice U3 ((s).pre.length) d3]]) (.bool true) (by kernel_rfl) (fun _ => by kernel_rfl) (fun w hO => ret_b ((same_b _ _).trans (decide_eq_true (rfl))) (sSame_any V4 U4 V3 U3 c4 d4 c3 d3 s s w (SetO.inn hr4 hO (fun x hx => by simp [hx]) (fs) (by decide)) (SetO.inn hr3 hO (fun x hx => by simp [hx]) (fs) (by decide)) hr4.caps hr3.caps)) ?_
      refine s_val (.bool true) (by kernel_rfl) (fun _ => by kernel_rfl) ?_
      refine s_val (.bool true) (by kernel_rfl) (fun _ => by kernel_rfl) ?_
      refine s_nil ?_
      refine fin_seq ?_
      refine ok_ret ?_
      refine fin_ret (.bool true) Tryz.results6 (by kernel_rfl) ?_
      exact fun w hO => ⟨rfl, hO.below⟩
  · skip
    refine s_val (.bool true) (by kernel_rfl) (run_strneq (a := u.pre) (b := ([])) rfl (by kernel_rfl) (by kernel_rfl) (decide_eq_false (h1))) ?_
    refine s_nil ?_
    refine fin_seq ?_
    refine ok_true (by kernel_rfl) ?_
    refine ok_region ?_
    refine s_val (.slice V2 ((q).length) c2) (by kernel_rfl) (fun _ => by kernel_rfl) ?_
    refine s_loadm ⟨b1, (verV u).cells, 26⟩ (off := 0) (verV u) (by kernel_rfl) rfl (by simp) (by kernel_rfl) (by kernel_rfl) ?_
    refine s_call (k := 39) (args := #[.slice V2 ((q).length) c2, verV u]) (.bool (rowHas q u)) (by kernel_rfl) (fun _ => by kernel_rfl) (fun w hO => rrowHas_any V2 c2 q u w (Sl.reads hr2 rfl hO (fun x hx => by simp [hx])) (Nat.le_trans fq.len (by decide)) fq.short su) ?_
    refine s_val (.bool (rowHas q u)) (by kernel_rfl) (fun _ => by kernel_rfl) ?_
    refine s_nil ?_
    refine fin_seq ?_
    refine ok_seq ?_
    refine ok_region ?_
    refine s_val (.pointer (some ⟨b2, 0, none⟩)) (by kernel_rfl) (fun _ => by kernel_rfl) ?_
    refine s_load 0 ⟨b2, #[.slice V3 ((s).rel.length) c3, .slice U3 ((s).pre.length) d3], 24⟩ (off := 0) (.slice V3 ((s).rel.length) c3) (by kernel_rfl) rfl (by kernel_rfl) (by kernel_rfl) (by kernel_rfl) ?_
    refine s_val (.pointer (some ⟨b2, 1, none⟩)) (by kernel_rfl) (fun _ => by kernel_rfl) ?_
    refine s_load 0 ⟨b2, #[.slice V3 ((s).rel.length) c3, .slice U3 ((s).pre.length) d3], 24⟩ (off := 1) (.slice U3 ((s).pre.length) d3) (by kernel_rfl) rfl (by kernel_rfl) (by kernel_rfl) (by kernel_rfl) ?_
    refine s_callo (k := 12) (args := #[.slice V3 ((s).rel.length) c3, .slice U3 ((s).pre.length) d3]) (fun v' L' => ∃ mv ob', v' = .tuple #[mv, .bool true] ∧ L' = ob' ++ (⟨b2, #[.slice V3 ((s).rel.length) c3, .slice U3 ((s).pre.length) d3], 24⟩ :: (o3 ++ (⟨b1, (verV u).cells, 26⟩ :: (o2 ++ (o1))))) ∧ SetO mv (s) ob') (by kernel_rfl) (fun _ => by kernel_rfl) (fun w hO => (sMake_any V3 U3 c3 d3 s.rel s.pre w ((SetO.inn hr3 hO (fun x hx => by simp [hx]) (fs) (by decide))).rel ((SetO.inn hr3 hO (fun x hx => by simp [hx]) (fs) (by decide))).pre (Nat.le_trans ((fs).rel.len) (by decide)) (Nat.le_trans ((fs).pre.len) (by decide)) ((fs).rel.short) ((fs).pre.short) (hr3.caps).1 (hr3.caps).2).mono fun e w' ⟨v', ob', k1, k2, k3⟩ => ⟨_, _, k1, ⟨v', ob', by rw [(fs).rel.may, (fs).pre.may]; rfl, rfl, by rw [if_pos (by rw [(fs).rel.may, (fs).pre.may]; rfl), ess] at k2; exact k2⟩, Own.joinN hO k3⟩) (fun tv5 L5 hv5 => ?_)
    obtain ⟨v5, o5, rfl, rfl, hr5⟩ := hv5
    obtain ⟨V5, U5, c5, d5, rfl⟩ := hr5.form
    refine s_val (.tuple #[.agg #[.slice V5 ((s).rel.length) c5, .slice U5 ((s).pre.length) d5], .bool true]) (by kernel_rfl) (fun _ => by kernel_rfl) ?_
    refine s_val (.agg #[.slice V5 ((s).rel.length) c5, .slice U5 ((s).pre.length) d5]) (by kernel_rfl) (fun _ => by kernel_rfl) ?_
    refine s_val (.bool true) (by kernel_rfl) (fun _ => by kernel_rfl) ?_
    refine s_alloc_at (.agg #[.slice none 0 0, .slice none 0 0]) (by kernel_rfl) rfl (by kernel_rfl) (fun b3 => ?_)
    refine s_store_at 0 ⟨b3, #[.slice none 0 0, .slice none 0 0], 24⟩ (off := 0) (.agg #[.slice V5 ((s).rel.length) c5, .slice U5 ((s).pre.length) d5]) (by kernel_rfl) rfl rfl (by kernel_rfl) (by kernel_rfl) (by kernel_rfl) (by kernel_rfl) (by kernel_rfl) ?_
    refine s_val (.bool true) (by kernel_rfl) (fun _ => by kernel_rfl) ?_
    refine s_nil ?_
    refine fin_seq ?_
    refine ok_seq ?_
    refine ok_region ?_
    refine s_call (k := 11) (args := #[]) (.bool true) (by kernel_rfl) (fun _ => by kernel_rfl) (fun w _ => awake5_any w) ?_
    refine s_val (.bool true) (by kernel_rfl) (fun _ => by kernel_rfl) ?_
    refine s_val (.bool true) (by kernel_rfl) (fun _ => by kernel_rfl) ?_
    refine s_val (.bool true) (by kernel_rfl) (fun _ => by kernel_rfl) ?_
    refine s_val (.bool true) (by kernel_rfl) (fun _ => by kernel_rfl) ?_
    refine s_val (.bool true) (by kernel_rfl) (fun _ => by kernel_rfl) ?_
    refine s_val (.bool true) (by kernel_rfl) (fun _ => by kernel_rfl) ?_
    refine s_val (.bool true) (by kernel_rfl) (fun _ => by kernel_rfl) ?_
    refine s_loadm ⟨b2, #[.slice V3 ((s).rel.length) c3, .slice U3 ((s).pre.length) d3], 24⟩ (off := 0) (.agg #[.slice V3 ((s).rel.length) c3, .slice U3 ((s).pre.length) d3]) (by kernel_rfl) rfl (by simp) (by kernel_rfl) (by kernel_rfl) ?_
    refine s_call (k := 14) (args := #[.agg #[.slice V3 ((s).rel.length) c3, .slice U3 ((s).pre.length) d3]]) (.bool true) (by kernel_rfl) (fun _ => by kernel_rfl) (fun w hO => ret_b (fs).may (sMay_any V3 U3 c3 d3 s w (SetO.inn hr3 hO (fun x hx => by simp [hx]) (fs) (by decide)) hr3.caps)) ?_
    refine s_val (.bool true) (by kernel_rfl) (fun _ => by kernel_rfl) ?_
    refine s_val (.bool true) (by kernel_rfl) (fun _ => by kernel_rfl) ?_
    refine s_loadm ⟨b2, #[.slice V3 ((s).rel.length) c3, .slice U3 ((s).pre.length) d3], 24⟩ (off := 0) (.agg #[.slice V3 ((s).rel.length) c3, .slice U3 ((s).pre.length) d3]) (by kernel_rfl) rfl (by simp) (by kernel_rfl) (by kernel_rfl) ?_
    refine s_loadm ⟨b1, (verV u).cells, 26⟩ (off := 0) (verV u) (by kernel_rfl) rfl (by simp) (by kernel_rfl) (by kernel_rfl) ?_
    refine s_call (k := 16) (args := #[.agg #[.slice V3 ((s).rel.length) c3, .slice U3 ((s).pre.length) d3], verV u]) (.bool (rowHas q u)) (by kernel_rfl) (fun _ => by kernel_rfl) (fun w hO => ret_b (by rw [has_may fs mu, if_neg h1, ← es]) (sHas_any V3 U3 c3 d3 s u w (SetO.inn hr3 hO (fun x hx => by simp [hx]) (fs) (by decide)) su hr3.caps)) ?_
    refine s_val (.bool (rowHas q u)) (by kernel_rfl) (fun _ => by kernel_rfl) ?_
    cases h3 : rowHas q u with
    | true =>
      refine s_val (.bool true) (by kernel_rfl) (fun _ => by kernel_rfl) ?_
      refine s_val (.bool true) (by kernel_rfl) (fun _ => by kernel_rfl) ?_
      refine s_val (.bool true) (by kernel_rfl) (fun _ => by kernel_rfl) ?_
      refine s_load 0 ⟨b3, #[.slice V5 ((s).rel.length) c5, .slice U5 ((s).pre.length) d5], 24⟩ (off := 0) (.agg #[.slice V5 ((s).rel.length) c5, .slice U5 ((s).pre.length) d5]) (by kernel_rfl) rfl (by kernel_rfl) (by kernel_rfl) (by kernel_rfl) ?_
      refine s_loadm ⟨b2, #[.slice V3 ((s).rel.length) c3, .slice U3 ((s).pre.length) d3], 24⟩ (off := 0) (.agg #[.slice V3 ((s).rel.length) c3, .slice U3 ((s).pre.length) d3]) (by kernel_rfl) rfl (by simp) (by kernel_rfl) (by kernel_rfl) ?_
      refine s_call (k := 33) (args := #[.agg #[.slice V5 ((s).rel.length) c5, .slice U5 ((s).pre.length) d5], .agg #[.slice V3 ((s).rel.length) c3, .slice U3 ((s).pre.length) d3]]) (.bool true) (by kernel_rfl) (fun _ => by kernel_rfl) (fun w hO => ret_b ((same_b _ _).trans (decide_eq_true (rfl))) (sSame_any V5 U5 V3 U3 c5 d5 c3 d3 s s w (SetO.inn hr5 hO (fun x hx => by simp [hx]) (fs) (by decide)) (SetO.inn hr3 hO (fun x hx => by simp [hx]) (fs) (by decide)) hr5.caps hr3.caps)) ?_
      refine s_val (.bool true) (by kernel_rfl) (fun _ => by kernel_rfl) ?_
      refine s_val (.bool true) (by kernel_rfl) (fun _ => by kernel_rfl) ?_
      refine s_nil ?_
      refine fin_seq ?_
      refine ok_ret ?_
      refine fin_ret (.bool true) Tryz.results6 (by kernel_rfl) ?_
      exact fun w hO => ⟨rfl, hO.below⟩
    | false =>
      refine s_val (.bool true) (by kernel_rfl) (fun _ => by kernel_rfl) ?_
      refine s_val (.bool true) (by kernel_rfl) (fun _ => by kernel_rfl) ?_
      refine s_val (.bool true) (by kernel_rfl) (fun _ => by kernel_rfl) ?_
      refine s_load 0 ⟨b3, #[.slice V5 ((s).rel.length) c5, .slice U5 ((s).pre.length) d5], 24⟩ (off := 0) (.agg #[.slice V5 ((s).rel.length) c5, .slice U5 ((s).pre.length) d5]) (by kernel_rfl) rfl (by kernel_rfl) (by kernel_rfl) (by kernel_rfl) ?_
      refine s_loadm ⟨b2, #[.slice V3 ((s).rel.length) c3, .slice U3 ((s).pre.length) d3], 24⟩ (off := 0) (.agg #[.slice V3 ((s).rel.length) c3, .slice U3 ((s).pre.length) d3]) (by kernel_rfl) rfl (by simp) (by kernel_rfl) (by kernel_rfl) ?_
      refine s_call (k := 33) (args := #[.agg #[.slice V5 ((s).rel.length) c5, .slice U5 ((s).pre.length) d5], .agg #[.slice V3 ((s).rel.length) c3, .slice U3 ((s).pre.length) d3]]) (.bool true) (by kernel_rfl) (fun _ => by kernel_rfl) (fun w hO => ret_b ((same_b _ _).trans (decide_eq_true (rfl))) (sSame_any V5 U5 V3 U3 c5 d5 c3 d3 s s w (SetO.inn hr5 hO (fun x hx => by simp [hx]) (fs) (by decide)) (SetO.inn hr3 hO (fun x hx => by simp [hx]) (fs) (by decide)) hr5.caps hr3.caps)) ?_
      refine s_val (.bool true) (by kernel_rfl) (fun _ => by kernel_rfl) ?_
      refine s_val (.bool true) (by kernel_rfl) (fun _ => by kernel_rfl) ?_
      refine s_nil ?_
      refine fin_seq ?_
      refine ok_ret ?_
      refine fin_ret (.bool true) Tryz.results6 (by kernel_rfl) ?_
      exact fun w hO => ⟨rfl, hO.below⟩
end Go.Proofs.YtgeccfdofmnphaaGreat
end

section
/-
  SetMakes: for every input the call returns true, and each argument reads afterwards as it read before. Conditions: none but the row's own.
-/
namespace Go.Proofs.YtgeccfdofmnphaaGreat.setMakes
open Go.ChangeShapes Go.WideShapes Go.ChangeAt Go.RowKit
open Go.ChangeMaps (open_string shut_string)
set_option linter.unusedVariables false

set_option maxRecDepth 100000 in
theorem contract (H : Type) (enc : TypeId × Value → H) (W : World) (base : Nat) (args : Array Value) (ds gs : List (DataW H)) (before : List MemPlace)
    (hval : ∀ (j : Nat) t v, Tryz.f6.params[j]? = some t → args[j]? = some v → Value.okWide Tryz.prog W .any base t v)
    (hW : DataW.Whole enc Tryz.prog Tryz.f6.params.toList Rows.setMakesSpec.vars false W args.toList ds gs before) (hL : laidMetH Tryz.prog Rows.setMakesRow.laid W) :
    Calls Tryz.prog 6 args W fun e W' => ∃ v, e = .returned v ∧ Rows.setMakesSpec.post enc Tryz.prog Tryz.f6 false true false false W args v W' := by
  have hW' := hW
  obtain ⟨p, q, hA0, hV, rfl, hfz, hnd⟩ := hW
  have hA : DataW.TrodAll enc Tryz.prog W 0 (fun _ => true) true Tryz.f6.params.toList args.toList ds p := hA0
  rw [Tryz.params6] at hA hval
  obtain ⟨v0, vs0, d0, ds0, p0, q0, hargs, rfl, rfl, h0, r0⟩ := trodAll_cons hA
  obtain ⟨rfl, rfl, rfl⟩ := trodAll_nil r0
  obtain rfl : args = #[v0] := by cases args; simp_all
  obtain ⟨rfl, rfl⟩ := trodVars_none hV
  clear hA0
  obtain ⟨l, l_reads, l_len⟩ := open_nums (hval 0 36 v0 rfl rfl) h0
  refine (setMakes.law W v0 l l_reads l_len ).mono fun e W' ⟨he, hb⟩ => ?_
  subst he
  exact ⟨_, rfl, law_end laidOut (fun t ht => by rw [Tryz.params6] at ht; simp at ht; subst ht; exact ⟨by kernel_rfl, of_decide_eq_true (by kernel_rfl)⟩) rfl rfl Tryz.underlying4 hW' (by rfl) hb⟩

noncomputable def laidWorld (os : Os) : World :=
  { World.holding Tryz.prog os ⟨#[], #[], []⟩ with heap := (World.holding Tryz.prog os ⟨#[], #[], []⟩).heap }
theorem laid_met (os : Os) : laidMet Tryz.prog Rows.setMakesRow.laid ((laidWorld os).forCall (fun _ _ => 0) ⟨#[], #[.slice none 0 0], []⟩).memory :=
  laidMet_of_run' 8 (by kernel_rfl) (by kernel_rfl)
theorem reads (os : Os) {H : Type} (enc : TypeId × Value → H) : ∃ places, DataW.whole enc Tryz.prog ((laidWorld os).forCall (fun _ _ => 0) ⟨#[], #[.slice none 0 0], []⟩).memory Tryz.f6.params.toList Rows.setMakesSpec.vars false (#[.slice none 0 0] : Array Value).toList 8 = some ([.nil], [], places) :=
  ⟨[], by kernel_rfl⟩

set_option maxRecDepth 100000 in
theorem lifted (os : Os) (started : os.Started) (H : Type) (enc : TypeId × Value → H) (F : Stop.Interp) :
    ReturnsInHanded {} Tryz.checked os 6 .any ((OpenSpec.ofChange Rows.setMakesSpec).preRow enc Tryz.prog Tryz.f6 Rows.setMakesRow.domain false Rows.setMakesRow.laid) (((OpenSpec.ofChange Rows.setMakesSpec).at F).post enc Tryz.prog Tryz.f6 false true false false) := by
  obtain ⟨places, hx⟩ := reads os enc
  refine returnsInHanded_of_row (C := Tryz.checked) (s := OpenSpec.ofChange Rows.setMakesSpec) own started (by kernel_rfl) Tryz.func6
    (witness_row_at (enc := enc) (C := Tryz.checked) false (laidWorld os) #[.slice none 0 0] rfl (by kernel_rfl) (by kernel_rfl) (by kernel_rfl)
      (OpenSpec.preRow_of_cond 8 hx (by kernel_rfl) (fun k hk => by cases hk) (by kernel_rfl) (laid_met os))) ?_
  intro W base args ds gs before hval hW _ _ _ hL _ _
  exact contract H enc W base args ds gs before hval hW hL

theorem said : Rows.SetMakesSaid :=
  OpenClaim.holds_of_cond 6 Tryz.f6 rfl rfl rfl rfl rfl rfl rfl ⟨rfl, rfl, rfl, rfl, rfl⟩ rfl rfl rfl rfl rfl (by kernel_rfl) Tryz.func6 (by kernel_rfl)
    (of_decide_eq_true (by kernel_rfl)) (by unfold Func.isWrapper; first | (rw [if_pos (by decide +kernel)]; kernel_rfl) | (rw [if_neg (by decide +kernel)]; exact ⟨rfl, rfl⟩))
    (fun os started H enc _ F => by rw [OpenClaim.pre_eq_preRow]; exact lifted os started H enc F)

#print axioms said
end Go.Proofs.YtgeccfdofmnphaaGreat.setMakes
end
