/-
  CutMeets: for every list of numbers the law returns true, and nothing that was there is changed. No condition.
-/
import Derived.Test.YtndjdmbbndcohaaP3
namespace Go.Proofs.Ytndjdmbbndcohaa
open Go.RowKit
set_option maxRecDepth 100000
set_option linter.unusedVariables false
set_option linter.unusedSimpArgs false
set_option maxHeartbeats 4000000
theorem cutMeets.law (W : World) (v : Value) (l : List Int) (hv : ReadsI W W.heap.size v l) (hl : l.length ≤ maxLen) : Calls Try.prog 8 #[v] W fun e w' => e = .returned (.bool true) ∧ Below W.heap.size W w' := by
  unfold maxLen at hl
  obtain ⟨a, ha⟩ : ∃ x, genC l 0 = x := ⟨_, rfl⟩
  have ma := genC_may l 0
  have sa := genCS l 0
  rw [ha] at ma sa
  obtain ⟨b, hb⟩ : ∃ x, genC l 6 = x := ⟨_, rfl⟩
  have mb := genC_may l 6
  have sb := genCS l 6
  rw [hb] at mb sb
  obtain ⟨c, hc⟩ : ∃ x, genC l 12 = x := ⟨_, rfl⟩
  have mc := genC_may l 12
  have sc := genCS l 12
  rw [hc] at mc sc
  obtain ⟨d, hd⟩ : ∃ x, genC l 18 = x := ⟨_, rfl⟩
  have md := genC_may l 18
  have sd := genCS l 18
  rw [hd] at md sd
  obtain ⟨u, hu⟩ : ∃ x, genV l 24 = x := ⟨_, rfl⟩
  have mu := gen_may l 24
  have su := genS l 24
  rw [hu] at mu su
  have hme := fun h1 h2 => meets (s := ⟨a, b⟩) (t := ⟨c, d⟩) (v := u) h1 h2 mu
  refine calls_ok (n := 72) Try.func8 rfl (by kernel_rfl) (by kernel_rfl) ?_
  refine ok_seq ?_
  refine ok_region ?_
  refine s_val (.bool false) (by kernel_rfl) (fun _ => by kernel_rfl) ?_
  refine s_nil ?_
  refine fin_seq ?_
  refine ok_seq ?_
  refine ok_region ?_
  refine s_val (v) (by kernel_rfl) (fun _ => by kernel_rfl) ?_
  refine s_call (k := 21) (args := #[v, .int .i64 0]) (cutV a) (by kernel_rfl) (fun _ => by kernel_rfl) (fun w hO => ret_v (congrArg cutV ha) (genC_any v l 0 w ((hv.below hO.below).more hO.below.size) hl (by omega))) ?_
  refine s_val (v) (by kernel_rfl) (fun _ => by kernel_rfl) ?_
  refine s_call (k := 21) (args := #[v, .int .i64 6]) (cutV b) (by kernel_rfl) (fun _ => by kernel_rfl) (fun w hO => ret_v (congrArg cutV hb) (genC_any v l 6 w ((hv.below hO.below).more hO.below.size) hl (by omega))) ?_
  refine s_val (.agg #[.int .i64 a.e, .int .i64 a.v.maj, .int .i64 a.v.min, .int .i64 a.v.pat, .string (mkS a.v.pre), .string (mkS a.v.build), .bool a.aft, .int .i64 b.e, .int .i64 b.v.maj, .int .i64 b.v.min, .int .i64 b.v.pat, .string (mkS b.v.pre), .string (mkS b.v.build), .bool b.aft]) (by kernel_rfl) (fun _ => by kernel_rfl) ?_
  refine s_alloc_at (.agg #[.int .i64 0, .int .i64 0, .int .i64 0, .int .i64 0, .string ⟨#[]⟩, .string ⟨#[]⟩, .bool false, .int .i64 0, .int .i64 0, .int .i64 0, .int .i64 0, .string ⟨#[]⟩, .string ⟨#[]⟩, .bool false]) (by kernel_rfl) rfl (by kernel_rfl) (fun b1 => ?_)
  refine s_store_at 0 ⟨b1, #[.int .i64 0, .int .i64 0, .int .i64 0, .int .i64 0, .string ⟨#[]⟩, .string ⟨#[]⟩, .bool false, .int .i64 0, .int .i64 0, .int .i64 0, .int .i64 0, .string ⟨#[]⟩, .string ⟨#[]⟩, .bool false], 32⟩ (off := 0) (.agg #[.int .i64 a.e, .int .i64 a.v.maj, .int .i64 a.v.min, .int .i64 a.v.pat, .string (mkS a.v.pre), .string (mkS a.v.build), .bool a.aft, .int .i64 b.e, .int .i64 b.v.maj, .int .i64 b.v.min, .int .i64 b.v.pat, .string (mkS b.v.pre), .string (mkS b.v.build), .bool b.aft]) (by kernel_rfl) rfl rfl (by kernel_rfl) (by kernel_rfl) (by kernel_rfl) (by kernel_rfl) (by kernel_rfl) ?_
  refine s_nil ?_
  refine fin_seq ?_
  refine ok_seq ?_
  refine ok_region ?_
  refine s_val (v) (by kernel_rfl) (fun _ => by kernel_rfl) ?_
  refine s_call (k := 21) (args := #[v, .int .i64 12]) (cutV c) (by kernel_rfl) (fun _ => by kernel_rfl) (fun w hO => ret_v (congrArg cutV hc) (genC_any v l 12 w ((hv.below hO.below).more hO.below.size) hl (by omega))) ?_
  refine s_val (v) (by kernel_rfl) (fun _ => by kernel_rfl) ?_
  refine s_call (k := 21) (args := #[v, .int .i64 18]) (cutV d) (by kernel_rfl) (fun _ => by kernel_rfl) (fun w hO => ret_v (congrArg cutV hd) (genC_any v l 18 w ((hv.below hO.below).more hO.below.size) hl (by omega))) ?_
  refine s_val (.agg #[.int .i64 c.e, .int .i64 c.v.maj, .int .i64 c.v.min, .int .i64 c.v.pat, .string (mkS c.v.pre), .string (mkS c.v.build), .bool c.aft, .int .i64 d.e, .int .i64 d.v.maj, .int .i64 d.v.min, .int .i64 d.v.pat, .string (mkS d.v.pre), .string (mkS d.v.build), .bool d.aft]) (by kernel_rfl) (fun _ => by kernel_rfl) ?_
  refine s_alloc_at (.agg #[.int .i64 0, .int .i64 0, .int .i64 0, .int .i64 0, .string ⟨#[]⟩, .string ⟨#[]⟩, .bool false, .int .i64 0, .int .i64 0, .int .i64 0, .int .i64 0, .string ⟨#[]⟩, .string ⟨#[]⟩, .bool false]) (by kernel_rfl) rfl (by kernel_rfl) (fun b2 => ?_)
  refine s_store_at 0 ⟨b2, #[.int .i64 0, .int .i64 0, .int .i64 0, .int .i64 0, .string ⟨#[]⟩, .string ⟨#[]⟩, .bool false, .int .i64 0, .int .i64 0, .int .i64 0, .int .i64 0, .string ⟨#[]⟩, .string ⟨#[]⟩, .bool false], 32⟩ (off := 0) (.agg #[.int .i64 c.e, .int .i64 c.v.maj, .int .i64 c.v.min, .int .i64 c.v.pat, .string (mkS c.v.pre), .string (mkS c.v.build), .bool c.aft, .int .i64 d.e, .int .i64 d.v.maj, .int .i64 d.v.min, .int .i64 d.v.pat, .string (mkS d.v.pre), .string (mkS d.v.build), .bool d.aft]) (by kernel_rfl) rfl rfl (by kernel_rfl) (by kernel_rfl) (by kernel_rfl) (by kernel_rfl) (by kernel_rfl) ?_
  refine s_nil ?_
  refine fin_seq ?_
  refine ok_seq ?_
  refine ok_region ?_
  refine s_val (v) (by kernel_rfl) (fun _ => by kernel_rfl) ?_
  refine s_call (k := 22) (args := #[v, .int .i64 24]) (verV u) (by kernel_rfl) (fun _ => by kernel_rfl) (fun w hO => ret_v (congrArg verV hu) (gen_any v l 24 w ((hv.below hO.below).more hO.below.size) hl (by omega))) ?_
  refine s_alloc_at (.agg #[.int .i64 0, .int .i64 0, .int .i64 0, .string ⟨#[]⟩, .string ⟨#[]⟩]) (by kernel_rfl) rfl (by kernel_rfl) (fun b3 => ?_)
  refine s_store_at 0 ⟨b3, #[.int .i64 0, .int .i64 0, .int .i64 0, .string ⟨#[]⟩, .string ⟨#[]⟩], 23⟩ (off := 0) (verV u) (by kernel_rfl) rfl rfl (by kernel_rfl) (by kernel_rfl) (by kernel_rfl) (by kernel_rfl) (by kernel_rfl) ?_
  refine s_nil ?_
  refine fin_seq ?_
  refine ok_seq ?_
  refine ok_region ?_
  refine s_load 2 ⟨b1, #[.int .i64 a.e, .int .i64 a.v.maj, .int .i64 a.v.min, .int .i64 a.v.pat, .string (mkS a.v.pre), .string (mkS a.v.build), .bool a.aft, .int .i64 b.e, .int .i64 b.v.maj, .int .i64 b.v.min, .int .i64 b.v.pat, .string (mkS b.v.pre), .string (mkS b.v.build), .bool b.aft], 32⟩ (off := 0) (.agg #[.int .i64 a.e, .int .i64 a.v.maj, .int .i64 a.v.min, .int .i64 a.v.pat, .string (mkS a.v.pre), .string (mkS a.v.build), .bool a.aft, .int .i64 b.e, .int .i64 b.v.maj, .int .i64 b.v.min, .int .i64 b.v.pat, .string (mkS b.v.pre), .string (mkS b.v.build), .bool b.aft]) (by kernel_rfl) rfl (by kernel_rfl) (by kernel_rfl) (by kernel_rfl) ?_
  refine s_alloc_at (.agg #[.int .i64 0, .int .i64 0, .int .i64 0, .int .i64 0, .string ⟨#[]⟩, .string ⟨#[]⟩, .bool false, .int .i64 0, .int .i64 0, .int .i64 0, .int .i64 0, .string ⟨#[]⟩, .string ⟨#[]⟩, .bool false]) (by kernel_rfl) rfl (by kernel_rfl) (fun b4 => ?_)
  refine s_store_at 0 ⟨b4, #[.int .i64 0, .int .i64 0, .int .i64 0, .int .i64 0, .string ⟨#[]⟩, .string ⟨#[]⟩, .bool false, .int .i64 0, .int .i64 0, .int .i64 0, .int .i64 0, .string ⟨#[]⟩, .string ⟨#[]⟩, .bool false], 32⟩ (off := 0) (.agg #[.int .i64 a.e, .int .i64 a.v.maj, .int .i64 a.v.min, .int .i64 a.v.pat, .string (mkS a.v.pre), .string (mkS a.v.build), .bool a.aft, .int .i64 b.e, .int .i64 b.v.maj, .int .i64 b.v.min, .int .i64 b.v.pat, .string (mkS b.v.pre), .string (mkS b.v.build), .bool b.aft]) (by kernel_rfl) rfl rfl (by kernel_rfl) (by kernel_rfl) (by kernel_rfl) (by kernel_rfl) (by kernel_rfl) ?_
  refine s_nil ?_
  refine fin_seq ?_
  refine ok_seq ?_
  refine ok_seq ?_
  refine ok_region ?_
  refine s_val (.pointer (some ⟨b4, 0, none⟩)) (by kernel_rfl) (fun _ => by kernel_rfl) ?_
  refine s_load 0 ⟨b4, #[.int .i64 a.e, .int .i64 a.v.maj, .int .i64 a.v.min, .int .i64 a.v.pat, .string (mkS a.v.pre), .string (mkS a.v.build), .bool a.aft, .int .i64 b.e, .int .i64 b.v.maj, .int .i64 b.v.min, .int .i64 b.v.pat, .string (mkS b.v.pre), .string (mkS b.v.build), .bool b.aft], 32⟩ (off := 0) (.agg #[.int .i64 a.e, .int .i64 a.v.maj, .int .i64 a.v.min, .int .i64 a.v.pat, .string (mkS a.v.pre), .string (mkS a.v.build), .bool a.aft]) (by kernel_rfl) rfl (by kernel_rfl) (by kernel_rfl) (by kernel_rfl) ?_
  refine s_val (.pointer (some ⟨b2, 0, none⟩)) (by kernel_rfl) (fun _ => by kernel_rfl) ?_
  refine s_load 2 ⟨b2, #[.int .i64 c.e, .int .i64 c.v.maj, .int .i64 c.v.min, .int .i64 c.v.pat, .string (mkS c.v.pre), .string (mkS c.v.build), .bool c.aft, .int .i64 d.e, .int .i64 d.v.maj, .int .i64 d.v.min, .int .i64 d.v.pat, .string (mkS d.v.pre), .string (mkS d.v.build), .bool d.aft], 32⟩ (off := 0) (.agg #[.int .i64 c.e, .int .i64 c.v.maj, .int .i64 c.v.min, .int .i64 c.v.pat, .string (mkS c.v.pre), .string (mkS c.v.build), .bool c.aft]) (by kernel_rfl) rfl (by kernel_rfl) (by kernel_rfl) (by kernel_rfl) ?_
  refine s_call (k := 13) (args := #[.agg #[.int .i64 a.e, .int .i64 a.v.maj, .int .i64 a.v.min, .int .i64 a.v.pat, .string (mkS a.v.pre), .string (mkS a.v.build), .bool a.aft], .agg #[.int .i64 c.e, .int .i64 c.v.maj, .int .i64 c.v.min, .int .i64 c.v.pat, .string (mkS c.v.pre), .string (mkS c.v.build), .bool c.aft]]) (.int .i64 (cmpC a c)) (by kernel_rfl) (fun _ => by kernel_rfl) (fun w _ => cmpC_any a c w sa sc) ?_
  by_cases h1 : (cmpC a c : Int) < 0
  · skip
    refine s_dec (p := (cmpC a c : Int) < 0) true (by kernel_rfl) (fun _ => by kernel_rfl) (decide_eq_true (h1)) ?_
    refine s_nil ?_
    refine fin_seq ?_
    refine ok_true (by kernel_rfl) ?_
    refine ok_region ?_
    refine s_val (.pointer (some ⟨b2, 0, none⟩)) (by kernel_rfl) (fun _ => by kernel_rfl) ?_
    refine s_load 2 ⟨b2, #[.int .i64 c.e, .int .i64 c.v.maj, .int .i64 c.v.min, .int .i64 c.v.pat, .string (mkS c.v.pre), .string (mkS c.v.build), .bool c.aft, .int .i64 d.e, .int .i64 d.v.maj, .int .i64 d.v.min, .int .i64 d.v.pat, .string (mkS d.v.pre), .string (mkS d.v.build), .bool d.aft], 32⟩ (off := 0) (.agg #[.int .i64 c.e, .int .i64 c.v.maj, .int .i64 c.v.min, .int .i64 c.v.pat, .string (mkS c.v.pre), .string (mkS c.v.build), .bool c.aft]) (by kernel_rfl) rfl (by kernel_rfl) (by kernel_rfl) (by kernel_rfl) ?_
    refine s_val (.pointer (some ⟨b4, 0, none⟩)) (by kernel_rfl) (fun _ => by kernel_rfl) ?_
    refine s_store_at 0 ⟨b4, #[.int .i64 a.e, .int .i64 a.v.maj, .int .i64 a.v.min, .int .i64 a.v.pat, .string (mkS a.v.pre), .string (mkS a.v.build), .bool a.aft, .int .i64 b.e, .int .i64 b.v.maj, .int .i64 b.v.min, .int .i64 b.v.pat, .string (mkS b.v.pre), .string (mkS b.v.build), .bool b.aft], 32⟩ (off := 0) (.agg #[.int .i64 c.e, .int .i64 c.v.maj, .int .i64 c.v.min, .int .i64 c.v.pat, .string (mkS c.v.pre), .string (mkS c.v.build), .bool c.aft]) (by kernel_rfl) rfl rfl (by kernel_rfl) (by kernel_rfl) (by kernel_rfl) (by kernel_rfl) (by kernel_rfl) ?_
    refine s_nil ?_
    refine fin_seq ?_
    refine ok_seq ?_
    refine ok_seq ?_
    refine ok_region ?_
    refine s_val (.pointer (some ⟨b4, 7, none⟩)) (by kernel_rfl) (fun _ => by kernel_rfl) ?_
    refine s_load 0 ⟨b4, #[.int .i64 c.e, .int .i64 c.v.maj, .int .i64 c.v.min, .int .i64 c.v.pat, .string (mkS c.v.pre), .string (mkS c.v.build), .bool c.aft, .int .i64 b.e, .int .i64 b.v.maj, .int .i64 b.v.min, .int .i64 b.v.pat, .string (mkS b.v.pre), .string (mkS b.v.build), .bool b.aft], 32⟩ (off := 7) (.agg #[.int .i64 b.e, .int .i64 b.v.maj, .int .i64 b.v.min, .int .i64 b.v.pat, .string (mkS b.v.pre), .string (mkS b.v.build), .bool b.aft]) (by kernel_rfl) rfl (by kernel_rfl) (by kernel_rfl) (by kernel_rfl) ?_
    refine s_val (.pointer (some ⟨b2, 7, none⟩)) (by kernel_rfl) (fun _ => by kernel_rfl) ?_
    refine s_load 2 ⟨b2, #[.int .i64 c.e, .int .i64 c.v.maj, .int .i64 c.v.min, .int .i64 c.v.pat, .string (mkS c.v.pre), .string (mkS c.v.build), .bool c.aft, .int .i64 d.e, .int .i64 d.v.maj, .int .i64 d.v.min, .int .i64 d.v.pat, .string (mkS d.v.pre), .string (mkS d.v.build), .bool d.aft], 32⟩ (off := 7) (.agg #[.int .i64 d.e, .int .i64 d.v.maj, .int .i64 d.v.min, .int .i64 d.v.pat, .string (mkS d.v.pre), .string (mkS d.v.build), .bool d.aft]) (by kernel_rfl) rfl (by kernel_rfl) (by kernel_rfl) (by kernel_rfl) ?_
    refine s_call (k := 13) (args := #[.agg #[.int .i64 b.e, .int .i64 b.v.maj, .int .i64 b.v.min, .int .i64 b.v.pat, .string (mkS b.v.pre), .string (mkS b.v.build), .bool b.aft], .agg #[.int .i64 d.e, .int .i64 d.v.maj, .int .i64 d.v.min, .int .i64 d.v.pat, .string (mkS d.v.pre), .string (mkS d.v.build), .bool d.aft]]) (.int .i64 (cmpC b d)) (by kernel_rfl) (fun _ => by kernel_rfl) (fun w _ => cmpC_any b d w sb sd) ?_
    by_cases h2 : (0 : Int) < cmpC b d
    · skip
      refine s_dec (p := (0 : Int) < cmpC b d) true (by kernel_rfl) (fun _ => by kernel_rfl) (decide_eq_true (h2)) ?_
      refine s_nil ?_
      refine fin_seq ?_
      refine ok_true (by kernel_rfl) ?_
      refine ok_region ?_
      refine s_val (.pointer (some ⟨b2, 7, none⟩)) (by kernel_rfl) (fun _ => by kernel_rfl) ?_
      refine s_load 2 ⟨b2, #[.int .i64 c.e, .int .i64 c.v.maj, .int .i64 c.v.min, .int .i64 c.v.pat, .string (mkS c.v.pre), .string (mkS c.v.build), .bool c.aft, .int .i64 d.e, .int .i64 d.v.maj, .int .i64 d.v.min, .int .i64 d.v.pat, .string (mkS d.v.pre), .string (mkS d.v.build), .bool d.aft], 32⟩ (off := 7) (.agg #[.int .i64 d.e, .int .i64 d.v.maj, .int .i64 d.v.min, .int .i64 d.v.pat, .string (mkS d.v.pre), .string (mkS d.v.build), .bool d.aft]) (by kernel_rfl) rfl (by kernel_rfl) (by kernel_rfl) (by kernel_rfl) ?_
      refine s_val (.pointer (some ⟨b4, 7, none⟩)) (by kernel_rfl) (fun _ => by kernel_rfl) ?_
      refine s_store_at 0 ⟨b4, #[.int .i64 c.e, .int .i64 c.v.maj, .int .i64 c.v.min, .int .i64 c.v.pat, .string (mkS c.v.pre), .string (mkS c.v.build), .bool c.aft, .int .i64 b.e, .int .i64 b.v.maj, .int .i64 b.v.min, .int .i64 b.v.pat, .string (mkS b.v.pre), .string (mkS b.v.build), .bool b.aft], 32⟩ (off := 7) (.agg #[.int .i64 d.e, .int .i64 d.v.maj, .int .i64 d.v.min, .int .i64 d.v.pat, .string (mkS d.v.pre), .string (mkS d.v.build), .bool d.aft]) (by kernel_rfl) rfl rfl (by kernel_rfl) (by kernel_rfl) (by kernel_rfl) (by kernel_rfl) (by kernel_rfl) ?_
      refine s_nil ?_
      refine fin_seq ?_
      refine ok_seq ?_
      refine ok_seq ?_
      refine ok_region ?_
      refine s_load 3 ⟨b1, #[.int .i64 a.e, .int .i64 a.v.maj, .int .i64 a.v.min, .int .i64 a.v.pat, .string (mkS a.v.pre), .string (mkS a.v.build), .bool a.aft, .int .i64 b.e, .int .i64 b.v.maj, .int .i64 b.v.min, .int .i64 b.v.pat, .string (mkS b.v.pre), .string (mkS b.v.build), .bool b.aft], 32⟩ (off := 0) (.agg #[.int .i64 a.e, .int .i64 a.v.maj, .int .i64 a.v.min, .int .i64 a.v.pat, .string (mkS a.v.pre), .string (mkS a.v.build), .bool a.aft, .int .i64 b.e, .int .i64 b.v.maj, .int .i64 b.v.min, .int .i64 b.v.pat, .string (mkS b.v.pre), .string (mkS b.v.build), .bool b.aft]) (by kernel_rfl) rfl (by kernel_rfl) (by kernel_rfl) (by kernel_rfl) ?_
      refine s_call (k := 17) (args := #[.agg #[.int .i64 a.e, .int .i64 a.v.maj, .int .i64 a.v.min, .int .i64 a.v.pat, .string (mkS a.v.pre), .string (mkS a.v.build), .bool a.aft, .int .i64 b.e, .int .i64 b.v.maj, .int .i64 b.v.min, .int .i64 b.v.pat, .string (mkS b.v.pre), .string (mkS b.v.build), .bool b.aft]]) (.bool ((Sp.mk a b).may)) (by kernel_rfl) (fun _ => by kernel_rfl) (fun w _ => spanMay_any (Sp.mk a b) w ⟨sa, sb⟩) ?_
      cases h3 : (Sp.mk a b).may with
      | true =>
        refine s_val (.bool false) (by kernel_rfl) (fun _ => by kernel_rfl) ?_
        refine s_val (.bool false) (by kernel_rfl) (fun _ => by kernel_rfl) ?_
        refine s_load 2 ⟨b2, #[.int .i64 c.e, .int .i64 c.v.maj, .int .i64 c.v.min, .int .i64 c.v.pat, .string (mkS c.v.pre), .string (mkS c.v.build), .bool c.aft, .int .i64 d.e, .int .i64 d.v.maj, .int .i64 d.v.min, .int .i64 d.v.pat, .string (mkS d.v.pre), .string (mkS d.v.build), .bool d.aft], 32⟩ (off := 0) (.agg #[.int .i64 c.e, .int .i64 c.v.maj, .int .i64 c.v.min, .int .i64 c.v.pat, .string (mkS c.v.pre), .string (mkS c.v.build), .bool c.aft, .int .i64 d.e, .int .i64 d.v.maj, .int .i64 d.v.min, .int .i64 d.v.pat, .string (mkS d.v.pre), .string (mkS d.v.build), .bool d.aft]) (by kernel_rfl) rfl (by kernel_rfl) (by kernel_rfl) (by kernel_rfl) ?_
        refine s_call (k := 17) (args := #[.agg #[.int .i64 c.e, .int .i64 c.v.maj, .int .i64 c.v.min, .int .i64 c.v.pat, .string (mkS c.v.pre), .string (mkS c.v.build), .bool c.aft, .int .i64 d.e, .int .i64 d.v.maj, .int .i64 d.v.min, .int .i64 d.v.pat, .string (mkS d.v.pre), .string (mkS d.v.build), .bool d.aft]]) (.bool ((Sp.mk c d).may)) (by kernel_rfl) (fun _ => by kernel_rfl) (fun w _ => spanMay_any (Sp.mk c d) w ⟨sc, sd⟩) ?_
        cases h4 : (Sp.mk c d).may with
        | true =>
          refine s_val (.bool false) (by kernel_rfl) (fun _ => by kernel_rfl) ?_
          refine s_val (.bool false) (by kernel_rfl) (fun _ => by kernel_rfl) ?_
          refine s_nil ?_
          refine fin_seq ?_
          refine ok_false (by kernel_rfl) ?_
          refine ok_skip ?_
          refine fin_seq ?_
          refine ok_seq ?_
          refine ok_draw (by kernel_rfl) (by kernel_rfl) ?_
          refine q_call (k := 10) (args := #[]) (.bool true) (by kernel_rfl) (fun _ => by kernel_rfl) (fun w _ => awake3_any w) ?_
          refine q_val (.bool true) (by kernel_rfl) (fun _ => by kernel_rfl) ?_
          refine q_load 3 ⟨b1, #[.int .i64 a.e, .int .i64 a.v.maj, .int .i64 a.v.min, .int .i64 a.v.pat, .string (mkS a.v.pre), .string (mkS a.v.build), .bool a.aft, .int .i64 b.e, .int .i64 b.v.maj, .int .i64 b.v.min, .int .i64 b.v.pat, .string (mkS b.v.pre), .string (mkS b.v.build), .bool b.aft], 32⟩ (off := 0) (.agg #[.int .i64 a.e, .int .i64 a.v.maj, .int .i64 a.v.min, .int .i64 a.v.pat, .string (mkS a.v.pre), .string (mkS a.v.build), .bool a.aft, .int .i64 b.e, .int .i64 b.v.maj, .int .i64 b.v.min, .int .i64 b.v.pat, .string (mkS b.v.pre), .string (mkS b.v.build), .bool b.aft]) (by kernel_rfl) rfl (by kernel_rfl) (by kernel_rfl) (by kernel_rfl) ?_
          refine q_load 1 ⟨b3, (verV u).cells, 23⟩ (off := 0) (verV u) (by kernel_rfl) rfl (by kernel_rfl) (by kernel_rfl) (by kernel_rfl) ?_
          refine q_call (k := 19) (args := #[.agg #[.int .i64 a.e, .int .i64 a.v.maj, .int .i64 a.v.min, .int .i64 a.v.pat, .string (mkS a.v.pre), .string (mkS a.v.build), .bool a.aft, .int .i64 b.e, .int .i64 b.v.maj, .int .i64 b.v.min, .int .i64 b.v.pat, .string (mkS b.v.pre), .string (mkS b.v.build), .bool b.aft], verV u]) (.bool (holdsC (Sp.mk a b) u)) (by kernel_rfl) (fun _ => by kernel_rfl) (fun w _ => holdsC_any (Sp.mk a b) u w ⟨sa, sb⟩ su) ?_
          refine q_val (.bool (holdsC (Sp.mk a b) u)) (by kernel_rfl) (fun _ => by kernel_rfl) ?_
          cases h5 : holdsC (Sp.mk a b) u with
          | true =>
            refine q_load 2 ⟨b2, #[.int .i64 c.e, .int .i64 c.v.maj, .int .i64 c.v.min, .int .i64 c.v.pat, .string (mkS c.v.pre), .string (mkS c.v.build), .bool c.aft, .int .i64 d.e, .int .i64 d.v.maj, .int .i64 d.v.min, .int .i64 d.v.pat, .string (mkS d.v.pre), .string (mkS d.v.build), .bool d.aft], 32⟩ (off := 0) (.agg #[.int .i64 c.e, .int .i64 c.v.maj, .int .i64 c.v.min, .int .i64 c.v.pat, .string (mkS c.v.pre), .string (mkS c.v.build), .bool c.aft, .int .i64 d.e, .int .i64 d.v.maj, .int .i64 d.v.min, .int .i64 d.v.pat, .string (mkS d.v.pre), .string (mkS d.v.build), .bool d.aft]) (by kernel_rfl) rfl (by kernel_rfl) (by kernel_rfl) (by kernel_rfl) ?_
            refine q_load 1 ⟨b3, (verV u).cells, 23⟩ (off := 0) (verV u) (by kernel_rfl) rfl (by kernel_rfl) (by kernel_rfl) (by kernel_rfl) ?_
            refine q_call (k := 19) (args := #[.agg #[.int .i64 c.e, .int .i64 c.v.maj, .int .i64 c.v.min, .int .i64 c.v.pat, .string (mkS c.v.pre), .string (mkS c.v.build), .bool c.aft, .int .i64 d.e, .int .i64 d.v.maj, .int .i64 d.v.min, .int .i64 d.v.pat, .string (mkS d.v.pre), .string (mkS d.v.build), .bool d.aft], verV u]) (.bool (holdsC (Sp.mk c d) u)) (by kernel_rfl) (fun _ => by kernel_rfl) (fun w _ => holdsC_any (Sp.mk c d) u w ⟨sc, sd⟩ su) ?_
            refine q_val (.bool (holdsC (Sp.mk c d) u)) (by kernel_rfl) (fun _ => by kernel_rfl) ?_
            refine q_load 0 ⟨b4, #[.int .i64 c.e, .int .i64 c.v.maj, .int .i64 c.v.min, .int .i64 c.v.pat, .string (mkS c.v.pre), .string (mkS c.v.build), .bool c.aft, .int .i64 d.e, .int .i64 d.v.maj, .int .i64 d.v.min, .int .i64 d.v.pat, .string (mkS d.v.pre), .string (mkS d.v.build), .bool d.aft], 32⟩ (off := 0) (.agg #[.int .i64 c.e, .int .i64 c.v.maj, .int .i64 c.v.min, .int .i64 c.v.pat, .string (mkS c.v.pre), .string (mkS c.v.build), .bool c.aft, .int .i64 d.e, .int .i64 d.v.maj, .int .i64 d.v.min, .int .i64 d.v.pat, .string (mkS d.v.pre), .string (mkS d.v.build), .bool d.aft]) (by kernel_rfl) rfl (by kernel_rfl) (by kernel_rfl) (by kernel_rfl) ?_
            refine q_load 1 ⟨b3, (verV u).cells, 23⟩ (off := 0) (verV u) (by kernel_rfl) rfl (by kernel_rfl) (by kernel_rfl) (by kernel_rfl) ?_
            refine q_call (k := 19) (args := #[.agg #[.int .i64 c.e, .int .i64 c.v.maj, .int .i64 c.v.min, .int .i64 c.v.pat, .string (mkS c.v.pre), .string (mkS c.v.build), .bool c.aft, .int .i64 d.e, .int .i64 d.v.maj, .int .i64 d.v.min, .int .i64 d.v.pat, .string (mkS d.v.pre), .string (mkS d.v.build), .bool d.aft], verV u]) (.bool (holdsC (Sp.mk c d) u)) (by kernel_rfl) (fun _ => by kernel_rfl) (fun w _ => holdsC_any (Sp.mk c d) u w ⟨sc, sd⟩ su) ?_
            cases h6 : holdsC (Sp.mk c d) u with
            | true =>
              refine q_val (.bool true) (by kernel_rfl) (fun _ => by kernel_rfl) ?_
              refine q_val (.bool true) (by kernel_rfl) (fun _ => by kernel_rfl) ?_
              refine q_val (.bool true) (by kernel_rfl) (fun _ => by kernel_rfl) ?_
              refine q_load 0 ⟨b4, #[.int .i64 c.e, .int .i64 c.v.maj, .int .i64 c.v.min, .int .i64 c.v.pat, .string (mkS c.v.pre), .string (mkS c.v.build), .bool c.aft, .int .i64 d.e, .int .i64 d.v.maj, .int .i64 d.v.min, .int .i64 d.v.pat, .string (mkS d.v.pre), .string (mkS d.v.build), .bool d.aft], 32⟩ (off := 0) (.agg #[.int .i64 c.e, .int .i64 c.v.maj, .int .i64 c.v.min, .int .i64 c.v.pat, .string (mkS c.v.pre), .string (mkS c.v.build), .bool c.aft, .int .i64 d.e, .int .i64 d.v.maj, .int .i64 d.v.min, .int .i64 d.v.pat, .string (mkS d.v.pre), .string (mkS d.v.build), .bool d.aft]) (by kernel_rfl) rfl (by kernel_rfl) (by kernel_rfl) (by kernel_rfl) ?_
              refine q_call (k := 17) (args := #[.agg #[.int .i64 c.e, .int .i64 c.v.maj, .int .i64 c.v.min, .int .i64 c.v.pat, .string (mkS c.v.pre), .string (mkS c.v.build), .bool c.aft, .int .i64 d.e, .int .i64 d.v.maj, .int .i64 d.v.min, .int .i64 d.v.pat, .string (mkS d.v.pre), .string (mkS d.v.build), .bool d.aft]]) (.bool ((Sp.mk c d).may)) (by kernel_rfl) (fun _ => by kernel_rfl) (fun w _ => spanMay_any (Sp.mk c d) w ⟨sc, sd⟩) ?_
              rw [h4]
              refine q_val (.bool true) (by kernel_rfl) (fun _ => by kernel_rfl) ?_
              refine q_skip (by kernel_rfl) ?_
              refine q_skip (by kernel_rfl) ?_
              refine q_skip (by kernel_rfl) ?_
              refine q_skip (by kernel_rfl) ?_
              refine q_val (.bool true) (by kernel_rfl) (fun _ => by kernel_rfl) ?_
              refine q_val (.bool true) (by kernel_rfl) (fun _ => by kernel_rfl) ?_
              refine q_val (.bool true) (by kernel_rfl) (fun _ => by kernel_rfl) ?_
              refine q_nil ?_
              refine fin_seq ?_
              refine ok_ret ?_
              refine fin_ret (.bool true) Try.results8 (by kernel_rfl) ?_
              exact fun w hO => ⟨rfl, hO.below⟩
            | false =>
              refine q_val (.bool true) (by kernel_rfl) (fun _ => by kernel_rfl) ?_
              refine q_val (.bool true) (by kernel_rfl) (fun _ => by kernel_rfl) ?_
              refine q_val (.bool true) (by kernel_rfl) (fun _ => by kernel_rfl) ?_
              refine q_load 0 ⟨b4, #[.int .i64 c.e, .int .i64 c.v.maj, .int .i64 c.v.min, .int .i64 c.v.pat, .string (mkS c.v.pre), .string (mkS c.v.build), .bool c.aft, .int .i64 d.e, .int .i64 d.v.maj, .int .i64 d.v.min, .int .i64 d.v.pat, .string (mkS d.v.pre), .string (mkS d.v.build), .bool d.aft], 32⟩ (off := 0) (.agg #[.int .i64 c.e, .int .i64 c.v.maj, .int .i64 c.v.min, .int .i64 c.v.pat, .string (mkS c.v.pre), .string (mkS c.v.build), .bool c.aft, .int .i64 d.e, .int .i64 d.v.maj, .int .i64 d.v.min, .int .i64 d.v.pat, .string (mkS d.v.pre), .string (mkS d.v.build), .bool d.aft]) (by kernel_rfl) rfl (by kernel_rfl) (by kernel_rfl) (by kernel_rfl) ?_
              refine q_call (k := 17) (args := #[.agg #[.int .i64 c.e, .int .i64 c.v.maj, .int .i64 c.v.min, .int .i64 c.v.pat, .string (mkS c.v.pre), .string (mkS c.v.build), .bool c.aft, .int .i64 d.e, .int .i64 d.v.maj, .int .i64 d.v.min, .int .i64 d.v.pat, .string (mkS d.v.pre), .string (mkS d.v.build), .bool d.aft]]) (.bool ((Sp.mk c d).may)) (by kernel_rfl) (fun _ => by kernel_rfl) (fun w _ => spanMay_any (Sp.mk c d) w ⟨sc, sd⟩) ?_
              rw [h4]
              refine q_val (.bool true) (by kernel_rfl) (fun _ => by kernel_rfl) ?_
              refine q_skip (by kernel_rfl) ?_
              refine q_skip (by kernel_rfl) ?_
              refine q_skip (by kernel_rfl) ?_
              refine q_skip (by kernel_rfl) ?_
              refine q_val (.bool true) (by kernel_rfl) (fun _ => by kernel_rfl) ?_
              refine q_val (.bool true) (by kernel_rfl) (fun _ => by kernel_rfl) ?_
              refine q_val (.bool true) (by kernel_rfl) (fun _ => by kernel_rfl) ?_
              refine q_nil ?_
              refine fin_seq ?_
              refine ok_ret ?_
              refine fin_ret (.bool true) Try.results8 (by kernel_rfl) ?_
              exact fun w hO => ⟨rfl, hO.below⟩
          | false =>
            refine q_skip (by kernel_rfl) ?_
            refine q_skip (by kernel_rfl) ?_
            refine q_skip (by kernel_rfl) ?_
            refine q_val (.bool false) (by kernel_rfl) (fun _ => by kernel_rfl) ?_
            refine q_load 0 ⟨b4, #[.int .i64 c.e, .int .i64 c.v.maj, .int .i64 c.v.min, .int .i64 c.v.pat, .string (mkS c.v.pre), .string (mkS c.v.build), .bool c.aft, .int .i64 d.e, .int .i64 d.v.maj, .int .i64 d.v.min, .int .i64 d.v.pat, .string (mkS d.v.pre), .string (mkS d.v.build), .bool d.aft], 32⟩ (off := 0) (.agg #[.int .i64 c.e, .int .i64 c.v.maj, .int .i64 c.v.min, .int .i64 c.v.pat, .string (mkS c.v.pre), .string (mkS c.v.build), .bool c.aft, .int .i64 d.e, .int .i64 d.v.maj, .int .i64 d.v.min, .int .i64 d.v.pat, .string (mkS d.v.pre), .string (mkS d.v.build), .bool d.aft]) (by kernel_rfl) rfl (by kernel_rfl) (by kernel_rfl) (by kernel_rfl) ?_
            refine q_load 1 ⟨b3, (verV u).cells, 23⟩ (off := 0) (verV u) (by kernel_rfl) rfl (by kernel_rfl) (by kernel_rfl) (by kernel_rfl) ?_
            refine q_call (k := 19) (args := #[.agg #[.int .i64 c.e, .int .i64 c.v.maj, .int .i64 c.v.min, .int .i64 c.v.pat, .string (mkS c.v.pre), .string (mkS c.v.build), .bool c.aft, .int .i64 d.e, .int .i64 d.v.maj, .int .i64 d.v.min, .int .i64 d.v.pat, .string (mkS d.v.pre), .string (mkS d.v.build), .bool d.aft], verV u]) (.bool (holdsC (Sp.mk c d) u)) (by kernel_rfl) (fun _ => by kernel_rfl) (fun w _ => holdsC_any (Sp.mk c d) u w ⟨sc, sd⟩ su) ?_
            cases h7 : holdsC (Sp.mk c d) u with
            | true =>
              refine q_val (.bool false) (by kernel_rfl) (fun _ => by kernel_rfl) ?_
              refine q_val (.bool false) (by kernel_rfl) (fun _ => by kernel_rfl) ?_
              refine q_val (.bool false) (by kernel_rfl) (fun _ => by kernel_rfl) ?_
              refine q_skip (by kernel_rfl) ?_
              refine q_skip (by kernel_rfl) ?_
              refine q_skip (by kernel_rfl) ?_
              refine q_skip (by kernel_rfl) ?_
              refine q_skip (by kernel_rfl) ?_
              refine q_skip (by kernel_rfl) ?_
              refine q_skip (by kernel_rfl) ?_
              refine q_skip (by kernel_rfl) ?_
              refine q_val (.bool false) (by kernel_rfl) (fun _ => by kernel_rfl) ?_
              refine q_val (.bool false) (by kernel_rfl) (fun _ => by kernel_rfl) ?_
              refine q_nil ?_
              refine fin_seq ?_
              refine ok_ret ?_
              refine fin_ret (.bool false) Try.results8 (by kernel_rfl) ?_
              exact fun w hO => by exfalso; have := hme (by assumption) (by assumption); simp_all
            | false =>
              refine q_val (.bool true) (by kernel_rfl) (fun _ => by kernel_rfl) ?_
              refine q_val (.bool true) (by kernel_rfl) (fun _ => by kernel_rfl) ?_
              refine q_val (.bool true) (by kernel_rfl) (fun _ => by kernel_rfl) ?_
              refine q_load 0 ⟨b4, #[.int .i64 c.e, .int .i64 c.v.maj, .int .i64 c.v.min, .int .i64 c.v.pat, .string (mkS c.v.pre), .string (mkS c.v.build), .bool c.aft, .int .i64 d.e, .int .i64 d.v.maj, .int .i64 d.v.min, .int .i64 d.v.pat, .string (mkS d.v.pre), .string (mkS d.v.build), .bool d.aft], 32⟩ (off := 0) (.agg #[.int .i64 c.e, .int .i64 c.v.maj, .int .i64 c.v.min, .int .i64 c.v.pat, .string (mkS c.v.pre), .string (mkS c.v.build), .bool c.aft, .int .i64 d.e, .int .i64 d.v.maj, .int .i64 d.v.min, .int .i64 d.v.pat, .string (mkS d.v.pre), .string (mkS d.v.build), .bool d.aft]) (by kernel_rfl) rfl (by kernel_rfl) (by kernel_rfl) (by kernel_rfl) ?_
              refine q_call (k := 17) (args := #[.agg #[.int .i64 c.e, .int .i64 c.v.maj, .int .i64 c.v.min, .int .i64 c.v.pat, .string (mkS c.v.pre), .string (mkS c.v.build), .bool c.aft, .int .i64 d.e, .int .i64 d.v.maj, .int .i64 d.v.min, .int .i64 d.v.pat, .string (mkS d.v.pre), .string (mkS d.v.build), .bool d.aft]]) (.bool ((Sp.mk c d).may)) (by kernel_rfl) (fun _ => by kernel_rfl) (fun w _ => spanMay_any (Sp.mk c d) w ⟨sc, sd⟩) ?_
              rw [h4]
              refine q_val (.bool true) (by kernel_rfl) (fun _ => by kernel_rfl) ?_
              refine q_skip (by kernel_rfl) ?_
              refine q_skip (by kernel_rfl) ?_
              refine q_skip (by kernel_rfl) ?_
              refine q_skip (by kernel_rfl) ?_
              refine q_val (.bool true) (by kernel_rfl) (fun _ => by kernel_rfl) ?_
              refine q_val (.bool true) (by kernel_rfl) (fun _ => by kernel_rfl) ?_
              refine q_val (.bool true) (by kernel_rfl) (fun _ => by kernel_rfl) ?_
              refine q_nil ?_
              refine fin_seq ?_
              refine ok_ret ?_
              refine fin_ret (.bool true) Try.results8 (by kernel_rfl) ?_
              exact fun w hO => ⟨rfl, hO.below⟩
        | false =>
          refine s_val (.bool true) (by kernel_rfl) (fun _ => by kernel_rfl) ?_
          refine s_val (.bool true) (by kernel_rfl) (fun _ => by kernel_rfl) ?_
          refine s_nil ?_
          refine fin_seq ?_
          refine ok_true (by kernel_rfl) ?_
          refine ok_seq ?_
          refine ok_region ?_
          refine s_call (k := 10) (args := #[]) (.bool true) (by kernel_rfl) (fun _ => by kernel_rfl) (fun w _ => awake3_any w) ?_
          refine s_val (.bool true) (by kernel_rfl) (fun _ => by kernel_rfl) ?_
          refine s_nil ?_
          refine fin_seq ?_
          refine ok_ret ?_
          refine fin_seq_ret ?_
          refine fin_ret (.bool true) Try.results8 (by kernel_rfl) ?_
          exact fun w hO => ⟨rfl, hO.below⟩
      | false =>
        refine s_val (.bool true) (by kernel_rfl) (fun _ => by kernel_rfl) ?_
        refine s_val (.bool true) (by kernel_rfl) (fun _ => by kernel_rfl) ?_
        refine s_skip (by kernel_rfl) ?_
        refine s_skip (by kernel_rfl) ?_
        refine s_skip (by kernel_rfl) ?_
        refine s_val (.bool true) (by kernel_rfl) (fun _ => by kernel_rfl) ?_
        refine s_nil ?_
        refine fin_seq ?_
        refine ok_true (by kernel_rfl) ?_
        refine ok_seq ?_
        refine ok_region ?_
        refine s_call (k := 10) (args := #[]) (.bool true) (by kernel_rfl) (fun _ => by kernel_rfl) (fun w _ => awake3_any w) ?_
        refine s_val (.bool true) (by kernel_rfl) (fun _ => by kernel_rfl) ?_
        refine s_nil ?_
        refine fin_seq ?_
        refine ok_ret ?_
        refine fin_seq_ret ?_
        refine fin_ret (.bool true) Try.results8 (by kernel_rfl) ?_
        exact fun w hO => ⟨rfl, hO.below⟩
    · skip
      refine s_dec (p := (0 : Int) < cmpC b d) false (by kernel_rfl) (fun _ => by kernel_rfl) (decide_eq_false (h2)) ?_
      refine s_nil ?_
      refine fin_seq ?_
      refine ok_false (by kernel_rfl) ?_
      refine ok_skip ?_
      refine fin_seq ?_
      refine ok_seq ?_
      refine ok_seq ?_
      refine ok_region ?_
      refine s_load 3 ⟨b1, #[.int .i64 a.e, .int .i64 a.v.maj, .int .i64 a.v.min, .int .i64 a.v.pat, .string (mkS a.v.pre), .string (mkS a.v.build), .bool a.aft, .int .i64 b.e, .int .i64 b.v.maj, .int .i64 b.v.min, .int .i64 b.v.pat, .string (mkS b.v.pre), .string (mkS b.v.build), .bool b.aft], 32⟩ (off := 0) (.agg #[.int .i64 a.e, .int .i64 a.v.maj, .int .i64 a.v.min, .int .i64 a.v.pat, .string (mkS a.v.pre), .string (mkS a.v.build), .bool a.aft, .int .i64 b.e, .int .i64 b.v.maj, .int .i64 b.v.min, .int .i64 b.v.pat, .string (mkS b.v.pre), .string (mkS b.v.build), .bool b.aft]) (by kernel_rfl) rfl (by kernel_rfl) (by kernel_rfl) (by kernel_rfl) ?_
      refine s_call (k := 17) (args := #[.agg #[.int .i64 a.e, .int .i64 a.v.maj, .int .i64 a.v.min, .int .i64 a.v.pat, .string (mkS a.v.pre), .string (mkS a.v.build), .bool a.aft, .int .i64 b.e, .int .i64 b.v.maj, .int .i64 b.v.min, .int .i64 b.v.pat, .string (mkS b.v.pre), .string (mkS b.v.build), .bool b.aft]]) (.bool ((Sp.mk a b).may)) (by kernel_rfl) (fun _ => by kernel_rfl) (fun w _ => spanMay_any (Sp.mk a b) w ⟨sa, sb⟩) ?_
      cases h8 : (Sp.mk a b).may with
      | true =>
        refine s_val (.bool false) (by kernel_rfl) (fun _ => by kernel_rfl) ?_
        refine s_val (.bool false) (by kernel_rfl) (fun _ => by kernel_rfl) ?_
        refine s_load 2 ⟨b2, #[.int .i64 c.e, .int .i64 c.v.maj, .int .i64 c.v.min, .int .i64 c.v.pat, .string (mkS c.v.pre), .string (mkS c.v.build), .bool c.aft, .int .i64 d.e, .int .i64 d.v.maj, .int .i64 d.v.min, .int .i64 d.v.pat, .string (mkS d.v.pre), .string (mkS d.v.build), .bool d.aft], 32⟩ (off := 0) (.agg #[.int .i64 c.e, .int .i64 c.v.maj, .int .i64 c.v.min, .int .i64 c.v.pat, .string (mkS c.v.pre), .string (mkS c.v.build), .bool c.aft, .int .i64 d.e, .int .i64 d.v.maj, .int .i64 d.v.min, .int .i64 d.v.pat, .string (mkS d.v.pre), .string (mkS d.v.build), .bool d.aft]) (by kernel_rfl) rfl (by kernel_rfl) (by kernel_rfl) (by kernel_rfl) ?_
        refine s_call (k := 17) (args := #[.agg #[.int .i64 c.e, .int .i64 c.v.maj, .int .i64 c.v.min, .int .i64 c.v.pat, .string (mkS c.v.pre), .string (mkS c.v.build), .bool c.aft, .int .i64 d.e, .int .i64 d.v.maj, .int .i64 d.v.min, .int .i64 d.v.pat, .string (mkS d.v.pre), .string (mkS d.v.build), .bool d.aft]]) (.bool ((Sp.mk c d).may)) (by kernel_rfl) (fun _ => by kernel_rfl) (fun w _ => spanMay_any (Sp.mk c d) w ⟨sc, sd⟩) ?_
        cases h9 : (Sp.mk c d).may with
        | true =>
          refine s_val (.bool false) (by kernel_rfl) (fun _ => by kernel_rfl) ?_
          refine s_val (.bool false) (by kernel_rfl) (fun _ => by kernel_rfl) ?_
          refine s_nil ?_
          refine fin_seq ?_
          refine ok_false (by kernel_rfl) ?_
          refine ok_skip ?_
          refine fin_seq ?_
          refine ok_seq ?_
          refine ok_draw (by kernel_rfl) (by kernel_rfl) ?_
          refine q_call (k := 10) (args := #[]) (.bool true) (by kernel_rfl) (fun _ => by kernel_rfl) (fun w _ => awake3_any w) ?_
          refine q_val (.bool true) (by kernel_rfl) (fun _ => by kernel_rfl) ?_
          refine q_load 3 ⟨b1, #[.int .i64 a.e, .int .i64 a.v.maj, .int .i64 a.v.min, .int .i64 a.v.pat, .string (mkS a.v.pre), .string (mkS a.v.build), .bool a.aft, .int .i64 b.e, .int .i64 b.v.maj, .int .i64 b.v.min, .int .i64 b.v.pat, .string (mkS b.v.pre), .string (mkS b.v.build), .bool b.aft], 32⟩ (off := 0) (.agg #[.int .i64 a.e, .int .i64 a.v.maj, .int .i64 a.v.min, .int .i64 a.v.pat, .string (mkS a.v.pre), .string (mkS a.v.build), .bool a.aft, .int .i64 b.e, .int .i64 b.v.maj, .int .i64 b.v.min, .int .i64 b.v.pat, .string (mkS b.v.pre), .string (mkS b.v.build), .bool b.aft]) (by kernel_rfl) rfl (by kernel_rfl) (by kernel_rfl) (by kernel_rfl) ?_
          refine q_load 1 ⟨b3, (verV u).cells, 23⟩ (off := 0) (verV u) (by kernel_rfl) rfl (by kernel_rfl) (by kernel_rfl) (by kernel_rfl) ?_
          refine q_call (k := 19) (args := #[.agg #[.int .i64 a.e, .int .i64 a.v.maj, .int .i64 a.v.min, .int .i64 a.v.pat, .string (mkS a.v.pre), .string (mkS a.v.build), .bool a.aft, .int .i64 b.e, .int .i64 b.v.maj, .int .i64 b.v.min, .int .i64 b.v.pat, .string (mkS b.v.pre), .string (mkS b.v.build), .bool b.aft], verV u]) (.bool (holdsC (Sp.mk a b) u)) (by kernel_rfl) (fun _ => by kernel_rfl) (fun w _ => holdsC_any (Sp.mk a b) u w ⟨sa, sb⟩ su) ?_
          refine q_val (.bool (holdsC (Sp.mk a b) u)) (by kernel_rfl) (fun _ => by kernel_rfl) ?_
          cases h10 : holdsC (Sp.mk a b) u with
          | true =>
            refine q_load 2 ⟨b2, #[.int .i64 c.e, .int .i64 c.v.maj, .int .i64 c.v.min, .int .i64 c.v.pat, .string (mkS c.v.pre), .string (mkS c.v.build), .bool c.aft, .int .i64 d.e, .int .i64 d.v.maj, .int .i64 d.v.min, .int .i64 d.v.pat, .string (mkS d.v.pre), .string (mkS d.v.build), .bool d.aft], 32⟩ (off := 0) (.agg #[.int .i64 c.e, .int .i64 c.v.maj, .int .i64 c.v.min, .int .i64 c.v.pat, .string (mkS c.v.pre), .string (mkS c.v.build), .bool c.aft, .int .i64 d.e, .int .i64 d.v.maj, .int .i64 d.v.min, .int .i64 d.v.pat, .string (mkS d.v.pre), .string (mkS d.v.build), .bool d.aft]) (by kernel_rfl) rfl (by kernel_rfl) (by kernel_rfl) (by kernel_rfl) ?_
            refine q_load 1 ⟨b3, (verV u).cells, 23⟩ (off := 0) (verV u) (by kernel_rfl) rfl (by kernel_rfl) (by kernel_rfl) (by kernel_rfl) ?_
            refine q_call (k := 19) (args := #[.agg #[.int .i64 c.e, .int .i64 c.v.maj, .int .i64 c.v.min, .int .i64 c.v.pat, .string (mkS c.v.pre), .string (mkS c.v.build), .bool c.aft, .int .i64 d.e, .int .i64 d.v.maj, .int .i64 d.v.min, .int .i64 d.v.pat, .string (mkS d.v.pre), .string (mkS d.v.build), .bool d.aft], verV u]) (.bool (holdsC (Sp.mk c d) u)) (by kernel_rfl) (fun _ => by kernel_rfl) (fun w _ => holdsC_any (Sp.mk c d) u w ⟨sc, sd⟩ su) ?_
            refine q_val (.bool (holdsC (Sp.mk c d) u)) (by kernel_rfl) (fun _ => by kernel_rfl) ?_
            refine q_load 0 ⟨b4, #[.int .i64 c.e, .int .i64 c.v.maj, .int .i64 c.v.min, .int .i64 c.v.pat, .string (mkS c.v.pre), .string (mkS c.v.build), .bool c.aft, .int .i64 b.e, .int .i64 b.v.maj, .int .i64 b.v.min, .int .i64 b.v.pat, .string (mkS b.v.pre), .string (mkS b.v.build), .bool b.aft], 32⟩ (off := 0) (.agg #[.int .i64 c.e, .int .i64 c.v.maj, .int .i64 c.v.min, .int .i64 c.v.pat, .string (mkS c.v.pre), .string (mkS c.v.build), .bool c.aft, .int .i64 b.e, .int .i64 b.v.maj, .int .i64 b.v.min, .int .i64 b.v.pat, .string (mkS b.v.pre), .string (mkS b.v.build), .bool b.aft]) (by kernel_rfl) rfl (by kernel_rfl) (by kernel_rfl) (by kernel_rfl) ?_
            refine q_load 1 ⟨b3, (verV u).cells, 23⟩ (off := 0) (verV u) (by kernel_rfl) rfl (by kernel_rfl) (by kernel_rfl) (by kernel_rfl) ?_
            refine q_call (k := 19) (args := #[.agg #[.int .i64 c.e, .int .i64 c.v.maj, .int .i64 c.v.min, .int .i64 c.v.pat, .string (mkS c.v.pre), .string (mkS c.v.build), .bool c.aft, .int .i64 b.e, .int .i64 b.v.maj, .int .i64 b.v.min, .int .i64 b.v.pat, .string (mkS b.v.pre), .string (mkS b.v.build), .bool b.aft], verV u]) (.bool (holdsC (Sp.mk c b) u)) (by kernel_rfl) (fun _ => by kernel_rfl) (fun w _ => holdsC_any (Sp.mk c b) u w ⟨sc, sb⟩ su) ?_
            cases h11 : holdsC (Sp.mk c d) u with
            | true =>
              cases h12 : holdsC (Sp.mk c b) u with
              | true =>
                refine q_val (.bool true) (by kernel_rfl) (fun _ => by kernel_rfl) ?_
                refine q_val (.bool true) (by kernel_rfl) (fun _ => by kernel_rfl) ?_
                refine q_val (.bool true) (by kernel_rfl) (fun _ => by kernel_rfl) ?_
                refine q_load 0 ⟨b4, #[.int .i64 c.e, .int .i64 c.v.maj, .int .i64 c.v.min, .int .i64 c.v.pat, .string (mkS c.v.pre), .string (mkS c.v.build), .bool c.aft, .int .i64 b.e, .int .i64 b.v.maj, .int .i64 b.v.min, .int .i64 b.v.pat, .string (mkS b.v.pre), .string (mkS b.v.build), .bool b.aft], 32⟩ (off := 0) (.agg #[.int .i64 c.e, .int .i64 c.v.maj, .int .i64 c.v.min, .int .i64 c.v.pat, .string (mkS c.v.pre), .string (mkS c.v.build), .bool c.aft, .int .i64 b.e, .int .i64 b.v.maj, .int .i64 b.v.min, .int .i64 b.v.pat, .string (mkS b.v.pre), .string (mkS b.v.build), .bool b.aft]) (by kernel_rfl) rfl (by kernel_rfl) (by kernel_rfl) (by kernel_rfl) ?_
                refine q_call (k := 17) (args := #[.agg #[.int .i64 c.e, .int .i64 c.v.maj, .int .i64 c.v.min, .int .i64 c.v.pat, .string (mkS c.v.pre), .string (mkS c.v.build), .bool c.aft, .int .i64 b.e, .int .i64 b.v.maj, .int .i64 b.v.min, .int .i64 b.v.pat, .string (mkS b.v.pre), .string (mkS b.v.build), .bool b.aft]]) (.bool ((Sp.mk c b).may)) (by kernel_rfl) (fun _ => by kernel_rfl) (fun w _ => spanMay_any (Sp.mk c b) w ⟨sc, sb⟩) ?_
                refine q_val (.bool ((Sp.mk c b).may)) (by kernel_rfl) (fun _ => by kernel_rfl) ?_
                cases h13 : (Sp.mk c b).may with
                | true =>
                  refine q_skip (by kernel_rfl) ?_
                  refine q_skip (by kernel_rfl) ?_
                  refine q_skip (by kernel_rfl) ?_
                  refine q_skip (by kernel_rfl) ?_
                  refine q_val (.bool true) (by kernel_rfl) (fun _ => by kernel_rfl) ?_
                  refine q_val (.bool true) (by kernel_rfl) (fun _ => by kernel_rfl) ?_
                  refine q_val (.bool true) (by kernel_rfl) (fun _ => by kernel_rfl) ?_
                  refine q_nil ?_
                  refine fin_seq ?_
                  refine ok_ret ?_
                  refine fin_ret (.bool true) Try.results8 (by kernel_rfl) ?_
                  exact fun w hO => ⟨rfl, hO.below⟩
                | false =>
                  refine q_load 0 ⟨b4, #[.int .i64 c.e, .int .i64 c.v.maj, .int .i64 c.v.min, .int .i64 c.v.pat, .string (mkS c.v.pre), .string (mkS c.v.build), .bool c.aft, .int .i64 b.e, .int .i64 b.v.maj, .int .i64 b.v.min, .int .i64 b.v.pat, .string (mkS b.v.pre), .string (mkS b.v.build), .bool b.aft], 32⟩ (off := 0) (.agg #[.int .i64 c.e, .int .i64 c.v.maj, .int .i64 c.v.min, .int .i64 c.v.pat, .string (mkS c.v.pre), .string (mkS c.v.build), .bool c.aft, .int .i64 b.e, .int .i64 b.v.maj, .int .i64 b.v.min, .int .i64 b.v.pat, .string (mkS b.v.pre), .string (mkS b.v.build), .bool b.aft]) (by kernel_rfl) rfl (by kernel_rfl) (by kernel_rfl) (by kernel_rfl) ?_
                  refine q_load 1 ⟨b3, (verV u).cells, 23⟩ (off := 0) (verV u) (by kernel_rfl) rfl (by kernel_rfl) (by kernel_rfl) (by kernel_rfl) ?_
                  refine q_call (k := 19) (args := #[.agg #[.int .i64 c.e, .int .i64 c.v.maj, .int .i64 c.v.min, .int .i64 c.v.pat, .string (mkS c.v.pre), .string (mkS c.v.build), .bool c.aft, .int .i64 b.e, .int .i64 b.v.maj, .int .i64 b.v.min, .int .i64 b.v.pat, .string (mkS b.v.pre), .string (mkS b.v.build), .bool b.aft], verV u]) (.bool (holdsC (Sp.mk c b) u)) (by kernel_rfl) (fun _ => by kernel_rfl) (fun w _ => holdsC_any (Sp.mk c b) u w ⟨sc, sb⟩ su) ?_
                  rw [h12]
                  refine q_val (.bool false) (by kernel_rfl) (fun _ => by kernel_rfl) ?_
                  refine q_val (.bool false) (by kernel_rfl) (fun _ => by kernel_rfl) ?_
                  refine q_val (.bool false) (by kernel_rfl) (fun _ => by kernel_rfl) ?_
                  refine q_val (.bool false) (by kernel_rfl) (fun _ => by kernel_rfl) ?_
                  refine q_nil ?_
                  refine fin_seq ?_
                  refine ok_ret ?_
                  refine fin_ret (.bool false) Try.results8 (by kernel_rfl) ?_
                  exact fun w hO => by exfalso; have := hme (by assumption) (by assumption); simp_all
              | false =>
                refine q_val (.bool false) (by kernel_rfl) (fun _ => by kernel_rfl) ?_
                refine q_val (.bool false) (by kernel_rfl) (fun _ => by kernel_rfl) ?_
                refine q_val (.bool false) (by kernel_rfl) (fun _ => by kernel_rfl) ?_
                refine q_skip (by kernel_rfl) ?_
                refine q_skip (by kernel_rfl) ?_
                refine q_skip (by kernel_rfl) ?_
                refine q_skip (by kernel_rfl) ?_
                refine q_skip (by kernel_rfl) ?_
                refine q_skip (by kernel_rfl) ?_
                refine q_skip (by kernel_rfl) ?_
                refine q_skip (by kernel_rfl) ?_
                refine q_val (.bool false) (by kernel_rfl) (fun _ => by kernel_rfl) ?_
                refine q_val (.bool false) (by kernel_rfl) (fun _ => by kernel_rfl) ?_
                refine q_nil ?_
                refine fin_seq ?_
                refine ok_ret ?_
                refine fin_ret (.bool false) Try.results8 (by kernel_rfl) ?_
                exact fun w hO => by exfalso; have := hme (by assumption) (by assumption); simp_all
            | false =>
              cases h14 : holdsC (Sp.mk c b) u with
              | true =>
                refine q_val (.bool false) (by kernel_rfl) (fun _ => by kernel_rfl) ?_
                refine q_val (.bool false) (by kernel_rfl) (fun _ => by kernel_rfl) ?_
                refine q_val (.bool false) (by kernel_rfl) (fun _ => by kernel_rfl) ?_
                refine q_skip (by kernel_rfl) ?_
                refine q_skip (by kernel_rfl) ?_
                refine q_skip (by kernel_rfl) ?_
                refine q_skip (by kernel_rfl) ?_
                refine q_skip (by kernel_rfl) ?_
                refine q_skip (by kernel_rfl) ?_
                refine q_skip (by kernel_rfl) ?_
                refine q_skip (by kernel_rfl) ?_
                refine q_val (.bool false) (by kernel_rfl) (fun _ => by kernel_rfl) ?_
                refine q_val (.bool false) (by kernel_rfl) (fun _ => by kernel_rfl) ?_
                refine q_nil ?_
                refine fin_seq ?_
                refine ok_ret ?_
                refine fin_ret (.bool false) Try.results8 (by kernel_rfl) ?_
                exact fun w hO => by exfalso; have := hme (by assumption) (by assumption); simp_all
              | false =>
                refine q_val (.bool true) (by kernel_rfl) (fun _ => by kernel_rfl) ?_
                refine q_val (.bool true) (by kernel_rfl) (fun _ => by kernel_rfl) ?_
                refine q_val (.bool true) (by kernel_rfl) (fun _ => by kernel_rfl) ?_
                refine q_load 0 ⟨b4, #[.int .i64 c.e, .int .i64 c.v.maj, .int .i64 c.v.min, .int .i64 c.v.pat, .string (mkS c.v.pre), .string (mkS c.v.build), .bool c.aft, .int .i64 b.e, .int .i64 b.v.maj, .int .i64 b.v.min, .int .i64 b.v.pat, .string (mkS b.v.pre), .string (mkS b.v.build), .bool b.aft], 32⟩ (off := 0) (.agg #[.int .i64 c.e, .int .i64 c.v.maj, .int .i64 c.v.min, .int .i64 c.v.pat, .string (mkS c.v.pre), .string (mkS c.v.build), .bool c.aft, .int .i64 b.e, .int .i64 b.v.maj, .int .i64 b.v.min, .int .i64 b.v.pat, .string (mkS b.v.pre), .string (mkS b.v.build), .bool b.aft]) (by kernel_rfl) rfl (by kernel_rfl) (by kernel_rfl) (by kernel_rfl) ?_
                refine q_call (k := 17) (args := #[.agg #[.int .i64 c.e, .int .i64 c.v.maj, .int .i64 c.v.min, .int .i64 c.v.pat, .string (mkS c.v.pre), .string (mkS c.v.build), .bool c.aft, .int .i64 b.e, .int .i64 b.v.maj, .int .i64 b.v.min, .int .i64 b.v.pat, .string (mkS b.v.pre), .string (mkS b.v.build), .bool b.aft]]) (.bool ((Sp.mk c b).may)) (by kernel_rfl) (fun _ => by kernel_rfl) (fun w _ => spanMay_any (Sp.mk c b) w ⟨sc, sb⟩) ?_
                refine q_val (.bool ((Sp.mk c b).may)) (by kernel_rfl) (fun _ => by kernel_rfl) ?_
                cases h15 : (Sp.mk c b).may with
                | true =>
                  refine q_skip (by kernel_rfl) ?_
                  refine q_skip (by kernel_rfl) ?_
                  refine q_skip (by kernel_rfl) ?_
                  refine q_skip (by kernel_rfl) ?_
                  refine q_val (.bool true) (by kernel_rfl) (fun _ => by kernel_rfl) ?_
                  refine q_val (.bool true) (by kernel_rfl) (fun _ => by kernel_rfl) ?_
                  refine q_val (.bool true) (by kernel_rfl) (fun _ => by kernel_rfl) ?_
                  refine q_nil ?_
                  refine fin_seq ?_
                  refine ok_ret ?_
                  refine fin_ret (.bool true) Try.results8 (by kernel_rfl) ?_
                  exact fun w hO => ⟨rfl, hO.below⟩
                | false =>
                  refine q_load 0 ⟨b4, #[.int .i64 c.e, .int .i64 c.v.maj, .int .i64 c.v.min, .int .i64 c.v.pat, .string (mkS c.v.pre), .string (mkS c.v.build), .bool c.aft, .int .i64 b.e, .int .i64 b.v.maj, .int .i64 b.v.min, .int .i64 b.v.pat, .string (mkS b.v.pre), .string (mkS b.v.build), .bool b.aft], 32⟩ (off := 0) (.agg #[.int .i64 c.e, .int .i64 c.v.maj, .int .i64 c.v.min, .int .i64 c.v.pat, .string (mkS c.v.pre), .string (mkS c.v.build), .bool c.aft, .int .i64 b.e, .int .i64 b.v.maj, .int .i64 b.v.min, .int .i64 b.v.pat, .string (mkS b.v.pre), .string (mkS b.v.build), .bool b.aft]) (by kernel_rfl) rfl (by kernel_rfl) (by kernel_rfl) (by kernel_rfl) ?_
                  refine q_load 1 ⟨b3, (verV u).cells, 23⟩ (off := 0) (verV u) (by kernel_rfl) rfl (by kernel_rfl) (by kernel_rfl) (by kernel_rfl) ?_
                  refine q_call (k := 19) (args := #[.agg #[.int .i64 c.e, .int .i64 c.v.maj, .int .i64 c.v.min, .int .i64 c.v.pat, .string (mkS c.v.pre), .string (mkS c.v.build), .bool c.aft, .int .i64 b.e, .int .i64 b.v.maj, .int .i64 b.v.min, .int .i64 b.v.pat, .string (mkS b.v.pre), .string (mkS b.v.build), .bool b.aft], verV u]) (.bool (holdsC (Sp.mk c b) u)) (by kernel_rfl) (fun _ => by kernel_rfl) (fun w _ => holdsC_any (Sp.mk c b) u w ⟨sc, sb⟩ su) ?_
                  rw [h14]
                  refine q_val (.bool true) (by kernel_rfl) (fun _ => by kernel_rfl) ?_
                  refine q_val (.bool true) (by kernel_rfl) (fun _ => by kernel_rfl) ?_
                  refine q_val (.bool true) (by kernel_rfl) (fun _ => by kernel_rfl) ?_
                  refine q_val (.bool true) (by kernel_rfl) (fun _ => by kernel_rfl) ?_
                  refine q_nil ?_
                  refine fin_seq ?_
                  refine ok_ret ?_
                  refine fin_ret (.bool true) Try.results8 (by kernel_rfl) ?_
                  exact fun w hO => ⟨rfl, hO.below⟩
          | false =>
            refine q_skip (by kernel_rfl) ?_
            refine q_skip (by kernel_rfl) ?_
            refine q_skip (by kernel_rfl) ?_
            refine q_val (.bool false) (by kernel_rfl) (fun _ => by kernel_rfl) ?_
            refine q_load 0 ⟨b4, #[.int .i64 c.e, .int .i64 c.v.maj, .int .i64 c.v.min, .int .i64 c.v.pat, .string (mkS c.v.pre), .string (mkS c.v.build), .bool c.aft, .int .i64 b.e, .int .i64 b.v.maj, .int .i64 b.v.min, .int .i64 b.v.pat, .string (mkS b.v.pre), .string (mkS b.v.build), .bool b.aft], 32⟩ (off := 0) (.agg #[.int .i64 c.e, .int .i64 c.v.maj, .int .i64 c.v.min, .int .i64 c.v.pat, .string (mkS c.v.pre), .string (mkS c.v.build), .bool c.aft, .int .i64 b.e, .int .i64 b.v.maj, .int .i64 b.v.min, .int .i64 b.v.pat, .string (mkS b.v.pre), .string (mkS b.v.build), .bool b.aft]) (by kernel_rfl) rfl (by kernel_rfl) (by kernel_rfl) (by kernel_rfl) ?_
            refine q_load 1 ⟨b3, (verV u).cells, 23⟩ (off := 0) (verV u) (by kernel_rfl) rfl (by kernel_rfl) (by kernel_rfl) (by kernel_rfl) ?_
            refine q_call (k := 19) (args := #[.agg #[.int .i64 c.e, .int .i64 c.v.maj, .int .i64 c.v.min, .int .i64 c.v.pat, .string (mkS c.v.pre), .string (mkS c.v.build), .bool c.aft, .int .i64 b.e, .int .i64 b.v.maj, .int .i64 b.v.min, .int .i64 b.v.pat, .string (mkS b.v.pre), .string (mkS b.v.build), .bool b.aft], verV u]) (.bool (holdsC (Sp.mk c b) u)) (by kernel_rfl) (fun _ => by kernel_rfl) (fun w _ => holdsC_any (Sp.mk c b) u w ⟨sc, sb⟩ su) ?_
            cases h16 : holdsC (Sp.mk c b) u with
            | true =>
              refine q_val (.bool false) (by kernel_rfl) (fun _ => by kernel_rfl) ?_
              refine q_val (.bool false) (by kernel_rfl) (fun _ => by kernel_rfl) ?_
              refine q_val (.bool false) (by kernel_rfl) (fun _ => by kernel_rfl) ?_
              refine q_skip (by kernel_rfl) ?_
              refine q_skip (by kernel_rfl) ?_
              refine q_skip (by kernel_rfl) ?_
              refine q_skip (by kernel_rfl) ?_
              refine q_skip (by kernel_rfl) ?_
              refine q_skip (by kernel_rfl) ?_
              refine q_skip (by kernel_rfl) ?_
              refine q_skip (by kernel_rfl) ?_
              refine q_val (.bool false) (by kernel_rfl) (fun _ => by kernel_rfl) ?_
              refine q_val (.bool false) (by kernel_rfl) (fun _ => by kernel_rfl) ?_
              refine q_nil ?_
              refine fin_seq ?_
              refine ok_ret ?_
              refine fin_ret (.bool false) Try.results8 (by kernel_rfl) ?_
              exact fun w hO => by exfalso; have := hme (by assumption) (by assumption); simp_all
            | false =>
              refine q_val (.bool true) (by kernel_rfl) (fun _ => by kernel_rfl) ?_
              refine q_val (.bool true) (by kernel_rfl) (fun _ => by kernel_rfl) ?_
              refine q_val (.bool true) (by kernel_rfl) (fun _ => by kernel_rfl) ?_
              refine q_load 0 ⟨b4, #[.int .i64 c.e, .int .i64 c.v.maj, .int .i64 c.v.min, .int .i64 c.v.pat, .string (mkS c.v.pre), .string (mkS c.v.build), .bool c.aft, .int .i64 b.e, .int .i64 b.v.maj, .int .i64 b.v.min, .int .i64 b.v.pat, .string (mkS b.v.pre), .string (mkS b.v.build), .bool b.aft], 32⟩ (off := 0) (.agg #[.int .i64 c.e, .int .i64 c.v.maj, .int .i64 c.v.min, .int .i64 c.v.pat, .string (mkS c.v.pre), .string (mkS c.v.build), .bool c.aft, .int .i64 b.e, .int .i64 b.v.maj, .int .i64 b.v.min, .int .i64 b.v.pat, .string (mkS b.v.pre), .string (mkS b.v.build), .bool b.aft]) (by kernel_rfl) rfl (by kernel_rfl) (by kernel_rfl) (by kernel_rfl) ?_
              refine q_call (k := 17) (args := #[.agg #[.int .i64 c.e, .int .i64 c.v.maj, .int .i64 c.v.min, .int .i64 c.v.pat, .string (mkS c.v.pre), .string (mkS c.v.build), .bool c.aft, .int .i64 b.e, .int .i64 b.v.maj, .int .i64 b.v.min, .int .i64 b.v.pat, .string (mkS b.v.pre), .string (mkS b.v.build), .bool b.aft]]) (.bool ((Sp.mk c b).may)) (by kernel_rfl) (fun _ => by kernel_rfl) (fun w _ => spanMay_any (Sp.mk c b) w ⟨sc, sb⟩) ?_
              refine q_val (.bool ((Sp.mk c b).may)) (by kernel_rfl) (fun _ => by kernel_rfl) ?_
              cases h17 : (Sp.mk c b).may with
              | true =>
                refine q_skip (by kernel_rfl) ?_
                refine q_skip (by kernel_rfl) ?_
                refine q_skip (by kernel_rfl) ?_
                refine q_skip (by kernel_rfl) ?_
                refine q_val (.bool true) (by kernel_rfl) (fun _ => by kernel_rfl) ?_
                refine q_val (.bool true) (by kernel_rfl) (fun _ => by kernel_rfl) ?_
                refine q_val (.bool true) (by kernel_rfl) (fun _ => by kernel_rfl) ?_
                refine q_nil ?_
                refine fin_seq ?_
                refine ok_ret ?_
                refine fin_ret (.bool true) Try.results8 (by kernel_rfl) ?_
                exact fun w hO => ⟨rfl, hO.below⟩
              | false =>
                refine q_load 0 ⟨b4, #[.int .i64 c.e, .int .i64 c.v.maj, .int .i64 c.v.min, .int .i64 c.v.pat, .string (mkS c.v.pre), .string (mkS c.v.build), .bool c.aft, .int .i64 b.e, .int .i64 b.v.maj, .int .i64 b.v.min, .int .i64 b.v.pat, .string (mkS b.v.pre), .string (mkS b.v.build), .bool b.aft], 32⟩ (off := 0) (.agg #[.int .i64 c.e, .int .i64 c.v.maj, .int .i64 c.v.min, .int .i64 c.v.pat, .string (mkS c.v.pre), .string (mkS c.v.build), .bool c.aft, .int .i64 b.e, .int .i64 b.v.maj, .int .i64 b.v.min, .int .i64 b.v.pat, .string (mkS b.v.pre), .string (mkS b.v.build), .bool b.aft]) (by kernel_rfl) rfl (by kernel_rfl) (by kernel_rfl) (by kernel_rfl) ?_
                refine q_load 1 ⟨b3, (verV u).cells, 23⟩ (off := 0) (verV u) (by kernel_rfl) rfl (by kernel_rfl) (by kernel_rfl) (by kernel_rfl) ?_
                refine q_call (k := 19) (args := #[.agg #[.int .i64 c.e, .int .i64 c.v.maj, .int .i64 c.v.min, .int .i64 c.v.pat, .string (mkS c.v.pre), .string (mkS c.v.build), .bool c.aft, .int .i64 b.e, .int .i64 b.v.maj, .int .i64 b.v.min, .int .i64 b.v.pat, .string (mkS b.v.pre), .string (mkS b.v.build), .bool b.aft], verV u]) (.bool (holdsC (Sp.mk c b) u)) (by kernel_rfl) (fun _ => by kernel_rfl) (fun w _ => holdsC_any (Sp.mk c b) u w ⟨sc, sb⟩ su) ?_
                rw [h16]
                refine q_val (.bool true) (by kernel_rfl) (fun _ => by kernel_rfl) ?_
                refine q_val (.bool true) (by kernel_rfl) (fun _ => by kernel_rfl) ?_
                refine q_val (.bool true) (by kernel_rfl) (fun _ => by kernel_rfl) ?_
                refine q_val (.bool true) (by kernel_rfl) (fun _ => by kernel_rfl) ?_
                refine q_nil ?_
                refine fin_seq ?_
                refine ok_ret ?_
                refine fin_ret (.bool true) Try.results8 (by kernel_rfl) ?_
                exact fun w hO => ⟨rfl, hO.below⟩
        | false =>
          refine s_val (.bool true) (by kernel_rfl) (fun _ => by kernel_rfl) ?_
          refine s_val (.bool true) (by kernel_rfl) (fun _ => by kernel_rfl) ?_
          refine s_nil ?_
          refine fin_seq ?_
          refine ok_true (by kernel_rfl) ?_
          refine ok_seq ?_
          refine ok_region ?_
          refine s_call (k := 10) (args := #[]) (.bool true) (by kernel_rfl) (fun _ => by kernel_rfl) (fun w _ => awake3_any w) ?_
          refine s_val (.bool true) (by kernel_rfl) (fun _ => by kernel_rfl) ?_
          refine s_nil ?_
          refine fin_seq ?_
          refine ok_ret ?_
          refine fin_seq_ret ?_
          refine fin_ret (.bool true) Try.results8 (by kernel_rfl) ?_
          exact fun w hO => ⟨rfl, hO.below⟩
      | false =>
        refine s_val (.bool true) (by kernel_rfl) (fun _ => by kernel_rfl) ?_
        refine s_val (.bool true) (by kernel_rfl) (fun _ => by kernel_rfl) ?_
        refine s_skip (by kernel_rfl) ?_
        refine s_skip (by kernel_rfl) ?_
        refine s_skip (by kernel_rfl) ?_
        refine s_val (.bool true) (by kernel_rfl) (fun _ => by kernel_rfl) ?_
        refine s_nil ?_
        refine fin_seq ?_
        refine ok_true (by kernel_rfl) ?_
        refine ok_seq ?_
        refine ok_region ?_
        refine s_call (k := 10) (args := #[]) (.bool true) (by kernel_rfl) (fun _ => by kernel_rfl) (fun w _ => awake3_any w) ?_
        refine s_val (.bool true) (by kernel_rfl) (fun _ => by kernel_rfl) ?_
        refine s_nil ?_
        refine fin_seq ?_
        refine ok_ret ?_
        refine fin_seq_ret ?_
        refine fin_ret (.bool true) Try.results8 (by kernel_rfl) ?_
        exact fun w hO => ⟨rfl, hO.below⟩
  · skip
    refine s_dec (p := (cmpC a c : Int) < 0) false (by kernel_rfl) (fun _ => by kernel_rfl) (decide_eq_false (h1)) ?_
    refine s_nil ?_
    refine fin_seq ?_
    refine ok_false (by kernel_rfl) ?_
    refine ok_skip ?_
    refine fin_seq ?_
    refine ok_seq ?_
    refine ok_seq ?_
    refine ok_region ?_
    refine s_val (.pointer (some ⟨b4, 7, none⟩)) (by kernel_rfl) (fun _ => by kernel_rfl) ?_
    refine s_load 0 ⟨b4, #[.int .i64 a.e, .int .i64 a.v.maj, .int .i64 a.v.min, .int .i64 a.v.pat, .string (mkS a.v.pre), .string (mkS a.v.build), .bool a.aft, .int .i64 b.e, .int .i64 b.v.maj, .int .i64 b.v.min, .int .i64 b.v.pat, .string (mkS b.v.pre), .string (mkS b.v.build), .bool b.aft], 32⟩ (off := 7) (.agg #[.int .i64 b.e, .int .i64 b.v.maj, .int .i64 b.v.min, .int .i64 b.v.pat, .string (mkS b.v.pre), .string (mkS b.v.build), .bool b.aft]) (by kernel_rfl) rfl (by kernel_rfl) (by kernel_rfl) (by kernel_rfl) ?_
    refine s_val (.pointer (some ⟨b2, 7, none⟩)) (by kernel_rfl) (fun _ => by kernel_rfl) ?_
    refine s_load 2 ⟨b2, #[.int .i64 c.e, .int .i64 c.v.maj, .int .i64 c.v.min, .int .i64 c.v.pat, .string (mkS c.v.pre), .string (mkS c.v.build), .bool c.aft, .int .i64 d.e, .int .i64 d.v.maj, .int .i64 d.v.min, .int .i64 d.v.pat, .string (mkS d.v.pre), .string (mkS d.v.build), .bool d.aft], 32⟩ (off := 7) (.agg #[.int .i64 d.e, .int .i64 d.v.maj, .int .i64 d.v.min, .int .i64 d.v.pat, .string (mkS d.v.pre), .string (mkS d.v.build), .bool d.aft]) (by kernel_rfl) rfl (by kernel_rfl) (by kernel_rfl) (by kernel_rfl) ?_
    refine s_call (k := 13) (args := #[.agg #[.int .i64 b.e, .int .i64 b.v.maj, .int .i64 b.v.min, .int .i64 b.v.pat, .string (mkS b.v.pre), .string (mkS b.v.build), .bool b.aft], .agg #[.int .i64 d.e, .int .i64 d.v.maj, .int .i64 d.v.min, .int .i64 d.v.pat, .string (mkS d.v.pre), .string (mkS d.v.build), .bool d.aft]]) (.int .i64 (cmpC b d)) (by kernel_rfl) (fun _ => by kernel_rfl) (fun w _ => cmpC_any b d w sb sd) ?_
    by_cases h18 : (0 : Int) < cmpC b d
    · skip
      refine s_dec (p := (0 : Int) < cmpC b d) true (by kernel_rfl) (fun _ => by kernel_rfl) (decide_eq_true (h18)) ?_
      refine s_nil ?_
      refine fin_seq ?_
      refine ok_true (by kernel_rfl) ?_
      refine ok_region ?_
      refine s_val (.pointer (some ⟨b2, 7, none⟩)) (by kernel_rfl) (fun _ => by kernel_rfl) ?_
      refine s_load 2 ⟨b2, #[.int .i64 c.e, .int .i64 c.v.maj, .int .i64 c.v.min, .int .i64 c.v.pat, .string (mkS c.v.pre), .string (mkS c.v.build), .bool c.aft, .int .i64 d.e, .int .i64 d.v.maj, .int .i64 d.v.min, .int .i64 d.v.pat, .string (mkS d.v.pre), .string (mkS d.v.build), .bool d.aft], 32⟩ (off := 7) (.agg #[.int .i64 d.e, .int .i64 d.v.maj, .int .i64 d.v.min, .int .i64 d.v.pat, .string (mkS d.v.pre), .string (mkS d.v.build), .bool d.aft]) (by kernel_rfl) rfl (by kernel_rfl) (by kernel_rfl) (by kernel_rfl) ?_
      refine s_val (.pointer (some ⟨b4, 7, none⟩)) (by kernel_rfl) (fun _ => by kernel_rfl) ?_
      refine s_store_at 0 ⟨b4, #[.int .i64 a.e, .int .i64 a.v.maj, .int .i64 a.v.min, .int .i64 a.v.pat, .string (mkS a.v.pre), .string (mkS a.v.build), .bool a.aft, .int .i64 b.e, .int .i64 b.v.maj, .int .i64 b.v.min, .int .i64 b.v.pat, .string (mkS b.v.pre), .string (mkS b.v.build), .bool b.aft], 32⟩ (off := 7) (.agg #[.int .i64 d.e, .int .i64 d.v.maj, .int .i64 d.v.min, .int .i64 d.v.pat, .string (mkS d.v.pre), .string (mkS d.v.build), .bool d.aft]) (by kernel_rfl) rfl rfl (by kernel_rfl) (by kernel_rfl) (by kernel_rfl) (by kernel_rfl) (by kernel_rfl) ?_
      refine s_nil ?_
      refine fin_seq ?_
      refine ok_seq ?_
      refine ok_seq ?_
      refine ok_region ?_
      refine s_load 3 ⟨b1, #[.int .i64 a.e, .int .i64 a.v.maj, .int .i64 a.v.min, .int .i64 a.v.pat, .string (mkS a.v.pre), .string (mkS a.v.build), .bool a.aft, .int .i64 b.e, .int .i64 b.v.maj, .int .i64 b.v.min, .int .i64 b.v.pat, .string (mkS b.v.pre), .string (mkS b.v.build), .bool b.aft], 32⟩ (off := 0) (.agg #[.int .i64 a.e, .int .i64 a.v.maj, .int .i64 a.v.min, .int .i64 a.v.pat, .string (mkS a.v.pre), .string (mkS a.v.build), .bool a.aft, .int .i64 b.e, .int .i64 b.v.maj, .int .i64 b.v.min, .int .i64 b.v.pat, .string (mkS b.v.pre), .string (mkS b.v.build), .bool b.aft]) (by kernel_rfl) rfl (by kernel_rfl) (by kernel_rfl) (by kernel_rfl) ?_
      refine s_call (k := 17) (args := #[.agg #[.int .i64 a.e, .int .i64 a.v.maj, .int .i64 a.v.min, .int .i64 a.v.pat, .string (mkS a.v.pre), .string (mkS a.v.build), .bool a.aft, .int .i64 b.e, .int .i64 b.v.maj, .int .i64 b.v.min, .int .i64 b.v.pat, .string (mkS b.v.pre), .string (mkS b.v.build), .bool b.aft]]) (.bool ((Sp.mk a b).may)) (by kernel_rfl) (fun _ => by kernel_rfl) (fun w _ => spanMay_any (Sp.mk a b) w ⟨sa, sb⟩) ?_
      cases h19 : (Sp.mk a b).may with
      | true =>
        refine s_val (.bool false) (by kernel_rfl) (fun _ => by kernel_rfl) ?_
        refine s_val (.bool false) (by kernel_rfl) (fun _ => by kernel_rfl) ?_
        refine s_load 2 ⟨b2, #[.int .i64 c.e, .int .i64 c.v.maj, .int .i64 c.v.min, .int .i64 c.v.pat, .string (mkS c.v.pre), .string (mkS c.v.build), .bool c.aft, .int .i64 d.e, .int .i64 d.v.maj, .int .i64 d.v.min, .int .i64 d.v.pat, .string (mkS d.v.pre), .string (mkS d.v.build), .bool d.aft], 32⟩ (off := 0) (.agg #[.int .i64 c.e, .int .i64 c.v.maj, .int .i64 c.v.min, .int .i64 c.v.pat, .string (mkS c.v.pre), .string (mkS c.v.build), .bool c.aft, .int .i64 d.e, .int .i64 d.v.maj, .int .i64 d.v.min, .int .i64 d.v.pat, .string (mkS d.v.pre), .string (mkS d.v.build), .bool d.aft]) (by kernel_rfl) rfl (by kernel_rfl) (by kernel_rfl) (by kernel_rfl) ?_
        refine s_call (k := 17) (args := #[.agg #[.int .i64 c.e, .int .i64 c.v.maj, .int .i64 c.v.min, .int .i64 c.v.pat, .string (mkS c.v.pre), .string (mkS c.v.build), .bool c.aft, .int .i64 d.e, .int .i64 d.v.maj, .int .i64 d.v.min, .int .i64 d.v.pat, .string (mkS d.v.pre), .string (mkS d.v.build), .bool d.aft]]) (.bool ((Sp.mk c d).may)) (by kernel_rfl) (fun _ => by kernel_rfl) (fun w _ => spanMay_any (Sp.mk c d) w ⟨sc, sd⟩) ?_
        cases h20 : (Sp.mk c d).may with
        | true =>
          refine s_val (.bool false) (by kernel_rfl) (fun _ => by kernel_rfl) ?_
          refine s_val (.bool false) (by kernel_rfl) (fun _ => by kernel_rfl) ?_
          refine s_nil ?_
          refine fin_seq ?_
          refine ok_false (by kernel_rfl) ?_
          refine ok_skip ?_
          refine fin_seq ?_
          refine ok_seq ?_
          refine ok_draw (by kernel_rfl) (by kernel_rfl) ?_
          refine q_call (k := 10) (args := #[]) (.bool true) (by kernel_rfl) (fun _ => by kernel_rfl) (fun w _ => awake3_any w) ?_
          refine q_val (.bool true) (by kernel_rfl) (fun _ => by kernel_rfl) ?_
          refine q_load 3 ⟨b1, #[.int .i64 a.e, .int .i64 a.v.maj, .int .i64 a.v.min, .int .i64 a.v.pat, .string (mkS a.v.pre), .string (mkS a.v.build), .bool a.aft, .int .i64 b.e, .int .i64 b.v.maj, .int .i64 b.v.min, .int .i64 b.v.pat, .string (mkS b.v.pre), .string (mkS b.v.build), .bool b.aft], 32⟩ (off := 0) (.agg #[.int .i64 a.e, .int .i64 a.v.maj, .int .i64 a.v.min, .int .i64 a.v.pat, .string (mkS a.v.pre), .string (mkS a.v.build), .bool a.aft, .int .i64 b.e, .int .i64 b.v.maj, .int .i64 b.v.min, .int .i64 b.v.pat, .string (mkS b.v.pre), .string (mkS b.v.build), .bool b.aft]) (by kernel_rfl) rfl (by kernel_rfl) (by kernel_rfl) (by kernel_rfl) ?_
          refine q_load 1 ⟨b3, (verV u).cells, 23⟩ (off := 0) (verV u) (by kernel_rfl) rfl (by kernel_rfl) (by kernel_rfl) (by kernel_rfl) ?_
          refine q_call (k := 19) (args := #[.agg #[.int .i64 a.e, .int .i64 a.v.maj, .int .i64 a.v.min, .int .i64 a.v.pat, .string (mkS a.v.pre), .string (mkS a.v.build), .bool a.aft, .int .i64 b.e, .int .i64 b.v.maj, .int .i64 b.v.min, .int .i64 b.v.pat, .string (mkS b.v.pre), .string (mkS b.v.build), .bool b.aft], verV u]) (.bool (holdsC (Sp.mk a b) u)) (by kernel_rfl) (fun _ => by kernel_rfl) (fun w _ => holdsC_any (Sp.mk a b) u w ⟨sa, sb⟩ su) ?_
          refine q_val (.bool (holdsC (Sp.mk a b) u)) (by kernel_rfl) (fun _ => by kernel_rfl) ?_
          cases h21 : holdsC (Sp.mk a b) u with
          | true =>
            refine q_load 2 ⟨b2, #[.int .i64 c.e, .int .i64 c.v.maj, .int .i64 c.v.min, .int .i64 c.v.pat, .string (mkS c.v.pre), .string (mkS c.v.build), .bool c.aft, .int .i64 d.e, .int .i64 d.v.maj, .int .i64 d.v.min, .int .i64 d.v.pat, .string (mkS d.v.pre), .string (mkS d.v.build), .bool d.aft], 32⟩ (off := 0) (.agg #[.int .i64 c.e, .int .i64 c.v.maj, .int .i64 c.v.min, .int .i64 c.v.pat, .string (mkS c.v.pre), .string (mkS c.v.build), .bool c.aft, .int .i64 d.e, .int .i64 d.v.maj, .int .i64 d.v.min, .int .i64 d.v.pat, .string (mkS d.v.pre), .string (mkS d.v.build), .bool d.aft]) (by kernel_rfl) rfl (by kernel_rfl) (by kernel_rfl) (by kernel_rfl) ?_
            refine q_load 1 ⟨b3, (verV u).cells, 23⟩ (off := 0) (verV u) (by kernel_rfl) rfl (by kernel_rfl) (by kernel_rfl) (by kernel_rfl) ?_
            refine q_call (k := 19) (args := #[.agg #[.int .i64 c.e, .int .i64 c.v.maj, .int .i64 c.v.min, .int .i64 c.v.pat, .string (mkS c.v.pre), .string (mkS c.v.build), .bool c.aft, .int .i64 d.e, .int .i64 d.v.maj, .int .i64 d.v.min, .int .i64 d.v.pat, .string (mkS d.v.pre), .string (mkS d.v.build), .bool d.aft], verV u]) (.bool (holdsC (Sp.mk c d) u)) (by kernel_rfl) (fun _ => by kernel_rfl) (fun w _ => holdsC_any (Sp.mk c d) u w ⟨sc, sd⟩ su) ?_
            refine q_val (.bool (holdsC (Sp.mk c d) u)) (by kernel_rfl) (fun _ => by kernel_rfl) ?_
            refine q_load 0 ⟨b4, #[.int .i64 a.e, .int .i64 a.v.maj, .int .i64 a.v.min, .int .i64 a.v.pat, .string (mkS a.v.pre), .string (mkS a.v.build), .bool a.aft, .int .i64 d.e, .int .i64 d.v.maj, .int .i64 d.v.min, .int .i64 d.v.pat, .string (mkS d.v.pre), .string (mkS d.v.build), .bool d.aft], 32⟩ (off := 0) (.agg #[.int .i64 a.e, .int .i64 a.v.maj, .int .i64 a.v.min, .int .i64 a.v.pat, .string (mkS a.v.pre), .string (mkS a.v.build), .bool a.aft, .int .i64 d.e, .int .i64 d.v.maj, .int .i64 d.v.min, .int .i64 d.v.pat, .string (mkS d.v.pre), .string (mkS d.v.build), .bool d.aft]) (by kernel_rfl) rfl (by kernel_rfl) (by kernel_rfl) (by kernel_rfl) ?_
            refine q_load 1 ⟨b3, (verV u).cells, 23⟩ (off := 0) (verV u) (by kernel_rfl) rfl (by kernel_rfl) (by kernel_rfl) (by kernel_rfl) ?_
            refine q_call (k := 19) (args := #[.agg #[.int .i64 a.e, .int .i64 a.v.maj, .int .i64 a.v.min, .int .i64 a.v.pat, .string (mkS a.v.pre), .string (mkS a.v.build), .bool a.aft, .int .i64 d.e, .int .i64 d.v.maj, .int .i64 d.v.min, .int .i64 d.v.pat, .string (mkS d.v.pre), .string (mkS d.v.build), .bool d.aft], verV u]) (.bool (holdsC (Sp.mk a d) u)) (by kernel_rfl) (fun _ => by kernel_rfl) (fun w _ => holdsC_any (Sp.mk a d) u w ⟨sa, sd⟩ su) ?_
            cases h22 : holdsC (Sp.mk c d) u with
            | true =>
              cases h23 : holdsC (Sp.mk a d) u with
              | true =>
                refine q_val (.bool true) (by kernel_rfl) (fun _ => by kernel_rfl) ?_
                refine q_val (.bool true) (by kernel_rfl) (fun _ => by kernel_rfl) ?_
                refine q_val (.bool true) (by kernel_rfl) (fun _ => by kernel_rfl) ?_
                refine q_load 0 ⟨b4, #[.int .i64 a.e, .int .i64 a.v.maj, .int .i64 a.v.min, .int .i64 a.v.pat, .string (mkS a.v.pre), .string (mkS a.v.build), .bool a.aft, .int .i64 d.e, .int .i64 d.v.maj, .int .i64 d.v.min, .int .i64 d.v.pat, .string (mkS d.v.pre), .string (mkS d.v.build), .bool d.aft], 32⟩ (off := 0) (.agg #[.int .i64 a.e, .int .i64 a.v.maj, .int .i64 a.v.min, .int .i64 a.v.pat, .string (mkS a.v.pre), .string (mkS a.v.build), .bool a.aft, .int .i64 d.e, .int .i64 d.v.maj, .int .i64 d.v.min, .int .i64 d.v.pat, .string (mkS d.v.pre), .string (mkS d.v.build), .bool d.aft]) (by kernel_rfl) rfl (by kernel_rfl) (by kernel_rfl) (by kernel_rfl) ?_
                refine q_call (k := 17) (args := #[.agg #[.int .i64 a.e, .int .i64 a.v.maj, .int .i64 a.v.min, .int .i64 a.v.pat, .string (mkS a.v.pre), .string (mkS a.v.build), .bool a.aft, .int .i64 d.e, .int .i64 d.v.maj, .int .i64 d.v.min, .int .i64 d.v.pat, .string (mkS d.v.pre), .string (mkS d.v.build), .bool d.aft]]) (.bool ((Sp.mk a d).may)) (by kernel_rfl) (fun _ => by kernel_rfl) (fun w _ => spanMay_any (Sp.mk a d) w ⟨sa, sd⟩) ?_
                refine q_val (.bool ((Sp.mk a d).may)) (by kernel_rfl) (fun _ => by kernel_rfl) ?_
                cases h24 : (Sp.mk a d).may with
                | true =>
                  refine q_skip (by kernel_rfl) ?_
                  refine q_skip (by kernel_rfl) ?_
                  refine q_skip (by kernel_rfl) ?_
                  refine q_skip (by kernel_rfl) ?_
                  refine q_val (.bool true) (by kernel_rfl) (fun _ => by kernel_rfl) ?_
                  refine q_val (.bool true) (by kernel_rfl) (fun _ => by kernel_rfl) ?_
                  refine q_val (.bool true) (by kernel_rfl) (fun _ => by kernel_rfl) ?_
                  refine q_nil ?_
                  refine fin_seq ?_
                  refine ok_ret ?_
                  refine fin_ret (.bool true) Try.results8 (by kernel_rfl) ?_
                  exact fun w hO => ⟨rfl, hO.below⟩
                | false =>
                  refine q_load 0 ⟨b4, #[.int .i64 a.e, .int .i64 a.v.maj, .int .i64 a.v.min, .int .i64 a.v.pat, .string (mkS a.v.pre), .string (mkS a.v.build), .bool a.aft, .int .i64 d.e, .int .i64 d.v.maj, .int .i64 d.v.min, .int .i64 d.v.pat, .string (mkS d.v.pre), .string (mkS d.v.build), .bool d.aft], 32⟩ (off := 0) (.agg #[.int .i64 a.e, .int .i64 a.v.maj, .int .i64 a.v.min, .int .i64 a.v.pat, .string (mkS a.v.pre), .string (mkS a.v.build), .bool a.aft, .int .i64 d.e, .int .i64 d.v.maj, .int .i64 d.v.min, .int .i64 d.v.pat, .string (mkS d.v.pre), .string (mkS d.v.build), .bool d.aft]) (by kernel_rfl) rfl (by kernel_rfl) (by kernel_rfl) (by kernel_rfl) ?_
                  refine q_load 1 ⟨b3, (verV u).cells, 23⟩ (off := 0) (verV u) (by kernel_rfl) rfl (by kernel_rfl) (by kernel_rfl) (by kernel_rfl) ?_
                  refine q_call (k := 19) (args := #[.agg #[.int .i64 a.e, .int .i64 a.v.maj, .int .i64 a.v.min, .int .i64 a.v.pat, .string (mkS a.v.pre), .string (mkS a.v.build), .bool a.aft, .int .i64 d.e, .int .i64 d.v.maj, .int .i64 d.v.min, .int .i64 d.v.pat, .string (mkS d.v.pre), .string (mkS d.v.build), .bool d.aft], verV u]) (.bool (holdsC (Sp.mk a d) u)) (by kernel_rfl) (fun _ => by kernel_rfl) (fun w _ => holdsC_any (Sp.mk a d) u w ⟨sa, sd⟩ su) ?_
                  rw [h23]
                  refine q_val (.bool false) (by kernel_rfl) (fun _ => by kernel_rfl) ?_
                  refine q_val (.bool false) (by kernel_rfl) (fun _ => by kernel_rfl) ?_
                  refine q_val (.bool false) (by kernel_rfl) (fun _ => by kernel_rfl) ?_
                  refine q_val (.bool false) (by kernel_rfl) (fun _ => by kernel_rfl) ?_
                  refine q_nil ?_
                  refine fin_seq ?_
                  refine ok_ret ?_
                  refine fin_ret (.bool false) Try.results8 (by kernel_rfl) ?_
                  exact fun w hO => by exfalso; have := hme (by assumption) (by assumption); simp_all
              | false =>
                refine q_val (.bool false) (by kernel_rfl) (fun _ => by kernel_rfl) ?_
                refine q_val (.bool false) (by kernel_rfl) (fun _ => by kernel_rfl) ?_
                refine q_val (.bool false) (by kernel_rfl) (fun _ => by kernel_rfl) ?_
                refine q_skip (by kernel_rfl) ?_
                refine q_skip (by kernel_rfl) ?_
                refine q_skip (by kernel_rfl) ?_
                refine q_skip (by kernel_rfl) ?_
                refine q_skip (by kernel_rfl) ?_
                refine q_skip (by kernel_rfl) ?_
                refine q_skip (by kernel_rfl) ?_
                refine q_skip (by kernel_rfl) ?_
                refine q_val (.bool false) (by kernel_rfl) (fun _ => by kernel_rfl) ?_
                refine q_val (.bool false) (by kernel_rfl) (fun _ => by kernel_rfl) ?_
                refine q_nil ?_
                refine fin_seq ?_
                refine ok_ret ?_
                refine fin_ret (.bool false) Try.results8 (by kernel_rfl) ?_
                exact fun w hO => by exfalso; have := hme (by assumption) (by assumption); simp_all
            | false =>
              cases h25 : holdsC (Sp.mk a d) u with
              | true =>
                refine q_val (.bool false) (by kernel_rfl) (fun _ => by kernel_rfl) ?_
                refine q_val (.bool false) (by kernel_rfl) (fun _ => by kernel_rfl) ?_
                refine q_val (.bool false) (by kernel_rfl) (fun _ => by kernel_rfl) ?_
                refine q_skip (by kernel_rfl) ?_
                refine q_skip (by kernel_rfl) ?_
                refine q_skip (by kernel_rfl) ?_
                refine q_skip (by kernel_rfl) ?_
                refine q_skip (by kernel_rfl) ?_
                refine q_skip (by kernel_rfl) ?_
                refine q_skip (by kernel_rfl) ?_
                refine q_skip (by kernel_rfl) ?_
                refine q_val (.bool false) (by kernel_rfl) (fun _ => by kernel_rfl) ?_
                refine q_val (.bool false) (by kernel_rfl) (fun _ => by kernel_rfl) ?_
                refine q_nil ?_
                refine fin_seq ?_
                refine ok_ret ?_
                refine fin_ret (.bool false) Try.results8 (by kernel_rfl) ?_
                exact fun w hO => by exfalso; have := hme (by assumption) (by assumption); simp_all
              | false =>
                refine q_val (.bool true) (by kernel_rfl) (fun _ => by kernel_rfl) ?_
                refine q_val (.bool true) (by kernel_rfl) (fun _ => by kernel_rfl) ?_
                refine q_val (.bool true) (by kernel_rfl) (fun _ => by kernel_rfl) ?_
                refine q_load 0 ⟨b4, #[.int .i64 a.e, .int .i64 a.v.maj, .int .i64 a.v.min, .int .i64 a.v.pat, .string (mkS a.v.pre), .string (mkS a.v.build), .bool a.aft, .int .i64 d.e, .int .i64 d.v.maj, .int .i64 d.v.min, .int .i64 d.v.pat, .string (mkS d.v.pre), .string (mkS d.v.build), .bool d.aft], 32⟩ (off := 0) (.agg #[.int .i64 a.e, .int .i64 a.v.maj, .int .i64 a.v.min, .int .i64 a.v.pat, .string (mkS a.v.pre), .string (mkS a.v.build), .bool a.aft, .int .i64 d.e, .int .i64 d.v.maj, .int .i64 d.v.min, .int .i64 d.v.pat, .string (mkS d.v.pre), .string (mkS d.v.build), .bool d.aft]) (by kernel_rfl) rfl (by kernel_rfl) (by kernel_rfl) (by kernel_rfl) ?_
                refine q_call (k := 17) (args := #[.agg #[.int .i64 a.e, .int .i64 a.v.maj, .int .i64 a.v.min, .int .i64 a.v.pat, .string (mkS a.v.pre), .string (mkS a.v.build), .bool a.aft, .int .i64 d.e, .int .i64 d.v.maj, .int .i64 d.v.min, .int .i64 d.v.pat, .string (mkS d.v.pre), .string (mkS d.v.build), .bool d.aft]]) (.bool ((Sp.mk a d).may)) (by kernel_rfl) (fun _ => by kernel_rfl) (fun w _ => spanMay_any (Sp.mk a d) w ⟨sa, sd⟩) ?_
                refine q_val (.bool ((Sp.mk a d).may)) (by kernel_rfl) (fun _ => by kernel_rfl) ?_
                cases h26 : (Sp.mk a d).may with
                | true =>
                  refine q_skip (by kernel_rfl) ?_
                  refine q_skip (by kernel_rfl) ?_
                  refine q_skip (by kernel_rfl) ?_
                  refine q_skip (by kernel_rfl) ?_
                  refine q_val (.bool true) (by kernel_rfl) (fun _ => by kernel_rfl) ?_
                  refine q_val (.bool true) (by kernel_rfl) (fun _ => by kernel_rfl) ?_
                  refine q_val (.bool true) (by kernel_rfl) (fun _ => by kernel_rfl) ?_
                  refine q_nil ?_
                  refine fin_seq ?_
                  refine ok_ret ?_
                  refine fin_ret (.bool true) Try.results8 (by kernel_rfl) ?_
                  exact fun w hO => ⟨rfl, hO.below⟩
                | false =>
                  refine q_load 0 ⟨b4, #[.int .i64 a.e, .int .i64 a.v.maj, .int .i64 a.v.min, .int .i64 a.v.pat, .string (mkS a.v.pre), .string (mkS a.v.build), .bool a.aft, .int .i64 d.e, .int .i64 d.v.maj, .int .i64 d.v.min, .int .i64 d.v.pat, .string (mkS d.v.pre), .string (mkS d.v.build), .bool d.aft], 32⟩ (off := 0) (.agg #[.int .i64 a.e, .int .i64 a.v.maj, .int .i64 a.v.min, .int .i64 a.v.pat, .string (mkS a.v.pre), .string (mkS a.v.build), .bool a.aft, .int .i64 d.e, .int .i64 d.v.maj, .int .i64 d.v.min, .int .i64 d.v.pat, .string (mkS d.v.pre), .string (mkS d.v.build), .bool d.aft]) (by kernel_rfl) rfl (by kernel_rfl) (by kernel_rfl) (by kernel_rfl) ?_
                  refine q_load 1 ⟨b3, (verV u).cells, 23⟩ (off := 0) (verV u) (by kernel_rfl) rfl (by kernel_rfl) (by kernel_rfl) (by kernel_rfl) ?_
                  refine q_call (k := 19) (args := #[.agg #[.int .i64 a.e, .int .i64 a.v.maj, .int .i64 a.v.min, .int .i64 a.v.pat, .string (mkS a.v.pre), .string (mkS a.v.build), .bool a.aft, .int .i64 d.e, .int .i64 d.v.maj, .int .i64 d.v.min, .int .i64 d.v.pat, .string (mkS d.v.pre), .string (mkS d.v.build), .bool d.aft], verV u]) (.bool (holdsC (Sp.mk a d) u)) (by kernel_rfl) (fun _ => by kernel_rfl) (fun w _ => holdsC_any (Sp.mk a d) u w ⟨sa, sd⟩ su) ?_
                  rw [h25]
                  refine q_val (.bool true) (by kernel_rfl) (fun _ => by kernel_rfl) ?_
                  refine q_val (.bool true) (by kernel_rfl) (fun _ => by kernel_rfl) ?_
                  refine q_val (.bool true) (by kernel_rfl) (fun _ => by kernel_rfl) ?_
                  refine q_val (.bool true) (by kernel_rfl) (fun _ => by kernel_rfl) ?_
                  refine q_nil ?_
                  refine fin_seq ?_
                  refine ok_ret ?_
                  refine fin_ret (.bool true) Try.results8 (by kernel_rfl) ?_
                  exact fun w hO => ⟨rfl, hO.below⟩
          | false =>
            refine q_skip (by kernel_rfl) ?_
            refine q_skip (by kernel_rfl) ?_
            refine q_skip (by kernel_rfl) ?_
            refine q_val (.bool false) (by kernel_rfl) (fun _ => by kernel_rfl) ?_
            refine q_load 0 ⟨b4, #[.int .i64 a.e, .int .i64 a.v.maj, .int .i64 a.v.min, .int .i64 a.v.pat, .string (mkS a.v.pre), .string (mkS a.v.build), .bool a.aft, .int .i64 d.e, .int .i64 d.v.maj, .int .i64 d.v.min, .int .i64 d.v.pat, .string (mkS d.v.pre), .string (mkS d.v.build), .bool d.aft], 32⟩ (off := 0) (.agg #[.int .i64 a.e, .int .i64 a.v.maj, .int .i64 a.v.min, .int .i64 a.v.pat, .string (mkS a.v.pre), .string (mkS a.v.build), .bool a.aft, .int .i64 d.e, .int .i64 d.v.maj, .int .i64 d.v.min, .int .i64 d.v.pat, .string (mkS d.v.pre), .string (mkS d.v.build), .bool d.aft]) (by kernel_rfl) rfl (by kernel_rfl) (by kernel_rfl) (by kernel_rfl) ?_
            refine q_load 1 ⟨b3, (verV u).cells, 23⟩ (off := 0) (verV u) (by kernel_rfl) rfl (by kernel_rfl) (by kernel_rfl) (by kernel_rfl) ?_
            refine q_call (k := 19) (args := #[.agg #[.int .i64 a.e, .int .i64 a.v.maj, .int .i64 a.v.min, .int .i64 a.v.pat, .string (mkS a.v.pre), .string (mkS a.v.build), .bool a.aft, .int .i64 d.e, .int .i64 d.v.maj, .int .i64 d.v.min, .int .i64 d.v.pat, .string (mkS d.v.pre), .string (mkS d.v.build), .bool d.aft], verV u]) (.bool (holdsC (Sp.mk a d) u)) (by kernel_rfl) (fun _ => by kernel_rfl) (fun w _ => holdsC_any (Sp.mk a d) u w ⟨sa, sd⟩ su) ?_
            cases h27 : holdsC (Sp.mk a d) u with
            | true =>
              refine q_val (.bool false) (by kernel_rfl) (fun _ => by kernel_rfl) ?_
              refine q_val (.bool false) (by kernel_rfl) (fun _ => by kernel_rfl) ?_
              refine q_val (.bool false) (by kernel_rfl) (fun _ => by kernel_rfl) ?_
              refine q_skip (by kernel_rfl) ?_
              refine q_skip (by kernel_rfl) ?_
              refine q_skip (by kernel_rfl) ?_
              refine q_skip (by kernel_rfl) ?_
              refine q_skip (by kernel_rfl) ?_
              refine q_skip (by kernel_rfl) ?_
              refine q_skip (by kernel_rfl) ?_
              refine q_skip (by kernel_rfl) ?_
              refine q_val (.bool false) (by kernel_rfl) (fun _ => by kernel_rfl) ?_
              refine q_val (.bool false) (by kernel_rfl) (fun _ => by kernel_rfl) ?_
              refine q_nil ?_
              refine fin_seq ?_
              refine ok_ret ?_
              refine fin_ret (.bool false) Try.results8 (by kernel_rfl) ?_
              exact fun w hO => by exfalso; have := hme (by assumption) (by assumption); simp_all
            | false =>
              refine q_val (.bool true) (by kernel_rfl) (fun _ => by kernel_rfl) ?_
              refine q_val (.bool true) (by kernel_rfl) (fun _ => by kernel_rfl) ?_
              refine q_val (.bool true) (by kernel_rfl) (fun _ => by kernel_rfl) ?_
              refine q_load 0 ⟨b4, #[.int .i64 a.e, .int .i64 a.v.maj, .int .i64 a.v.min, .int .i64 a.v.pat, .string (mkS a.v.pre), .string (mkS a.v.build), .bool a.aft, .int .i64 d.e, .int .i64 d.v.maj, .int .i64 d.v.min, .int .i64 d.v.pat, .string (mkS d.v.pre), .string (mkS d.v.build), .bool d.aft], 32⟩ (off := 0) (.agg #[.int .i64 a.e, .int .i64 a.v.maj, .int .i64 a.v.min, .int .i64 a.v.pat, .string (mkS a.v.pre), .string (mkS a.v.build), .bool a.aft, .int .i64 d.e, .int .i64 d.v.maj, .int .i64 d.v.min, .int .i64 d.v.pat, .string (mkS d.v.pre), .string (mkS d.v.build), .bool d.aft]) (by kernel_rfl) rfl (by kernel_rfl) (by kernel_rfl) (by kernel_rfl) ?_
              refine q_call (k := 17) (args := #[.agg #[.int .i64 a.e, .int .i64 a.v.maj, .int .i64 a.v.min, .int .i64 a.v.pat, .string (mkS a.v.pre), .string (mkS a.v.build), .bool a.aft, .int .i64 d.e, .int .i64 d.v.maj, .int .i64 d.v.min, .int .i64 d.v.pat, .string (mkS d.v.pre), .string (mkS d.v.build), .bool d.aft]]) (.bool ((Sp.mk a d).may)) (by kernel_rfl) (fun _ => by kernel_rfl) (fun w _ => spanMay_any (Sp.mk a d) w ⟨sa, sd⟩) ?_
              refine q_val (.bool ((Sp.mk a d).may)) (by kernel_rfl) (fun _ => by kernel_rfl) ?_
              cases h28 : (Sp.mk a d).may with
              | true =>
                refine q_skip (by kernel_rfl) ?_
                refine q_skip (by kernel_rfl) ?_
                refine q_skip (by kernel_rfl) ?_
                refine q_skip (by kernel_rfl) ?_
                refine q_val (.bool true) (by kernel_rfl) (fun _ => by kernel_rfl) ?_
                refine q_val (.bool true) (by kernel_rfl) (fun _ => by kernel_rfl) ?_
                refine q_val (.bool true) (by kernel_rfl) (fun _ => by kernel_rfl) ?_
                refine q_nil ?_
                refine fin_seq ?_
                refine ok_ret ?_
                refine fin_ret (.bool true) Try.results8 (by kernel_rfl) ?_
                exact fun w hO => ⟨rfl, hO.below⟩
              | false =>
                refine q_load 0 ⟨b4, #[.int .i64 a.e, .int .i64 a.v.maj, .int .i64 a.v.min, .int .i64 a.v.pat, .string (mkS a.v.pre), .string (mkS a.v.build), .bool a.aft, .int .i64 d.e, .int .i64 d.v.maj, .int .i64 d.v.min, .int .i64 d.v.pat, .string (mkS d.v.pre), .string (mkS d.v.build), .bool d.aft], 32⟩ (off := 0) (.agg #[.int .i64 a.e, .int .i64 a.v.maj, .int .i64 a.v.min, .int .i64 a.v.pat, .string (mkS a.v.pre), .string (mkS a.v.build), .bool a.aft, .int .i64 d.e, .int .i64 d.v.maj, .int .i64 d.v.min, .int .i64 d.v.pat, .string (mkS d.v.pre), .string (mkS d.v.build), .bool d.aft]) (by kernel_rfl) rfl (by kernel_rfl) (by kernel_rfl) (by kernel_rfl) ?_
                refine q_load 1 ⟨b3, (verV u).cells, 23⟩ (off := 0) (verV u) (by kernel_rfl) rfl (by kernel_rfl) (by kernel_rfl) (by kernel_rfl) ?_
                refine q_call (k := 19) (args := #[.agg #[.int .i64 a.e, .int .i64 a.v.maj, .int .i64 a.v.min, .int .i64 a.v.pat, .string (mkS a.v.pre), .string (mkS a.v.build), .bool a.aft, .int .i64 d.e, .int .i64 d.v.maj, .int .i64 d.v.min, .int .i64 d.v.pat, .string (mkS d.v.pre), .string (mkS d.v.build), .bool d.aft], verV u]) (.bool (holdsC (Sp.mk a d) u)) (by kernel_rfl) (fun _ => by kernel_rfl) (fun w _ => holdsC_any (Sp.mk a d) u w ⟨sa, sd⟩ su) ?_
                rw [h27]
                refine q_val (.bool true) (by kernel_rfl) (fun _ => by kernel_rfl) ?_
                refine q_val (.bool true) (by kernel_rfl) (fun _ => by kernel_rfl) ?_
                refine q_val (.bool true) (by kernel_rfl) (fun _ => by kernel_rfl) ?_
                refine q_val (.bool true) (by kernel_rfl) (fun _ => by kernel_rfl) ?_
                refine q_nil ?_
                refine fin_seq ?_
                refine ok_ret ?_
                refine fin_ret (.bool true) Try.results8 (by kernel_rfl) ?_
                exact fun w hO => ⟨rfl, hO.below⟩
        | false =>
          refine s_val (.bool true) (by kernel_rfl) (fun _ => by kernel_rfl) ?_
          refine s_val (.bool true) (by kernel_rfl) (fun _ => by kernel_rfl) ?_
          refine s_nil ?_
          refine fin_seq ?_
          refine ok_true (by kernel_rfl) ?_
          refine ok_seq ?_
          refine ok_region ?_
          refine s_call (k := 10) (args := #[]) (.bool true) (by kernel_rfl) (fun _ => by kernel_rfl) (fun w _ => awake3_any w) ?_
          refine s_val (.bool true) (by kernel_rfl) (fun _ => by kernel_rfl) ?_
          refine s_nil ?_
          refine fin_seq ?_
          refine ok_ret ?_
          refine fin_seq_ret ?_
          refine fin_ret (.bool true) Try.results8 (by kernel_rfl) ?_
          exact fun w hO => ⟨rfl, hO.below⟩
      | false =>
        refine s_val (.bool true) (by kernel_rfl) (fun _ => by kernel_rfl) ?_
        refine s_val (.bool true) (by kernel_rfl) (fun _ => by kernel_rfl) ?_
        refine s_skip (by kernel_rfl) ?_
        refine s_skip (by kernel_rfl) ?_
        refine s_skip (by kernel_rfl) ?_
        refine s_val (.bool true) (by kernel_rfl) (fun _ => by kernel_rfl) ?_
        refine s_nil ?_
        refine fin_seq ?_
        refine ok_true (by kernel_rfl) ?_
        refine ok_seq ?_
        refine ok_region ?_
        refine s_call (k := 10) (args := #[]) (.bool true) (by kernel_rfl) (fun _ => by kernel_rfl) (fun w _ => awake3_any w) ?_
        refine s_val (.bool true) (by kernel_rfl) (fun _ => by kernel_rfl) ?_
        refine s_nil ?_
        refine fin_seq ?_
        refine ok_ret ?_
        refine fin_seq_ret ?_
        refine fin_ret (.bool true) Try.results8 (by kernel_rfl) ?_
        exact fun w hO => ⟨rfl, hO.below⟩
    · skip
      refine s_dec (p := (0 : Int) < cmpC b d) false (by kernel_rfl) (fun _ => by kernel_rfl) (decide_eq_false (h18)) ?_
      refine s_nil ?_
      refine fin_seq ?_
      refine ok_false (by kernel_rfl) ?_
      refine ok_skip ?_
      refine fin_seq ?_
      refine ok_seq ?_
      refine ok_seq ?_
      refine ok_region ?_
      refine s_load 3 ⟨b1, #[.int .i64 a.e, .int .i64 a.v.maj, .int .i64 a.v.min, .int .i64 a.v.pat, .string (mkS a.v.pre), .string (mkS a.v.build), .bool a.aft, .int .i64 b.e, .int .i64 b.v.maj, .int .i64 b.v.min, .int .i64 b.v.pat, .string (mkS b.v.pre), .string (mkS b.v.build), .bool b.aft], 32⟩ (off := 0) (.agg #[.int .i64 a.e, .int .i64 a.v.maj, .int .i64 a.v.min, .int .i64 a.v.pat, .string (mkS a.v.pre), .string (mkS a.v.build), .bool a.aft, .int .i64 b.e, .int .i64 b.v.maj, .int .i64 b.v.min, .int .i64 b.v.pat, .string (mkS b.v.pre), .string (mkS b.v.build), .bool b.aft]) (by kernel_rfl) rfl (by kernel_rfl) (by kernel_rfl) (by kernel_rfl) ?_
      refine s_call (k := 17) (args := #[.agg #[.int .i64 a.e, .int .i64 a.v.maj, .int .i64 a.v.min, .int .i64 a.v.pat, .string (mkS a.v.pre), .string (mkS a.v.build), .bool a.aft, .int .i64 b.e, .int .i64 b.v.maj, .int .i64 b.v.min, .int .i64 b.v.pat, .string (mkS b.v.pre), .string (mkS b.v.build), .bool b.aft]]) (.bool ((Sp.mk a b).may)) (by kernel_rfl) (fun _ => by kernel_rfl) (fun w _ => spanMay_any (Sp.mk a b) w ⟨sa, sb⟩) ?_
      cases h29 : (Sp.mk a b).may with
      | true =>
        refine s_val (.bool false) (by kernel_rfl) (fun _ => by kernel_rfl) ?_
        refine s_val (.bool false) (by kernel_rfl) (fun _ => by kernel_rfl) ?_
        refine s_load 2 ⟨b2, #[.int .i64 c.e, .int .i64 c.v.maj, .int .i64 c.v.min, .int .i64 c.v.pat, .string (mkS c.v.pre), .string (mkS c.v.build), .bool c.aft, .int .i64 d.e, .int .i64 d.v.maj, .int .i64 d.v.min, .int .i64 d.v.pat, .string (mkS d.v.pre), .string (mkS d.v.build), .bool d.aft], 32⟩ (off := 0) (.agg #[.int .i64 c.e, .int .i64 c.v.maj, .int .i64 c.v.min, .int .i64 c.v.pat, .string (mkS c.v.pre), .string (mkS c.v.build), .bool c.aft, .int .i64 d.e, .int .i64 d.v.maj, .int .i64 d.v.min, .int .i64 d.v.pat, .string (mkS d.v.pre), .string (mkS d.v.build), .bool d.aft]) (by kernel_rfl) rfl (by kernel_rfl) (by kernel_rfl) (by kernel_rfl) ?_
        refine s_call (k := 17) (args := #[.agg #[.int .i64 c.e, .int .i64 c.v.maj, .int .i64 c.v.min, .int .i64 c.v.pat, .string (mkS c.v.pre), .string (mkS c.v.build), .bool c.aft, .int .i64 d.e, .int .i64 d.v.maj, .int .i64 d.v.min, .int .i64 d.v.pat, .string (mkS d.v.pre), .string (mkS d.v.build), .bool d.aft]]) (.bool ((Sp.mk c d).may)) (by kernel_rfl) (fun _ => by kernel_rfl) (fun w _ => spanMay_any (Sp.mk c d) w ⟨sc, sd⟩) ?_
        cases h30 : (Sp.mk c d).may with
        | true =>
          refine s_val (.bool false) (by kernel_rfl) (fun _ => by kernel_rfl) ?_
          refine s_val (.bool false) (by kernel_rfl) (fun _ => by kernel_rfl) ?_
          refine s_nil ?_
          refine fin_seq ?_
          refine ok_false (by kernel_rfl) ?_
          refine ok_skip ?_
          refine fin_seq ?_
          refine ok_seq ?_
          refine ok_draw (by kernel_rfl) (by kernel_rfl) ?_
          refine q_call (k := 10) (args := #[]) (.bool true) (by kernel_rfl) (fun _ => by kernel_rfl) (fun w _ => awake3_any w) ?_
          refine q_val (.bool true) (by kernel_rfl) (fun _ => by kernel_rfl) ?_
          refine q_load 3 ⟨b1, #[.int .i64 a.e, .int .i64 a.v.maj, .int .i64 a.v.min, .int .i64 a.v.pat, .string (mkS a.v.pre), .string (mkS a.v.build), .bool a.aft, .int .i64 b.e, .int .i64 b.v.maj, .int .i64 b.v.min, .int .i64 b.v.pat, .string (mkS b.v.pre), .string (mkS b.v.build), .bool b.aft], 32⟩ (off := 0) (.agg #[.int .i64 a.e, .int .i64 a.v.maj, .int .i64 a.v.min, .int .i64 a.v.pat, .string (mkS a.v.pre), .string (mkS a.v.build), .bool a.aft, .int .i64 b.e, .int .i64 b.v.maj, .int .i64 b.v.min, .int .i64 b.v.pat, .string (mkS b.v.pre), .string (mkS b.v.build), .bool b.aft]) (by kernel_rfl) rfl (by kernel_rfl) (by kernel_rfl) (by kernel_rfl) ?_
          refine q_load 1 ⟨b3, (verV u).cells, 23⟩ (off := 0) (verV u) (by kernel_rfl) rfl (by kernel_rfl) (by kernel_rfl) (by kernel_rfl) ?_
          refine q_call (k := 19) (args := #[.agg #[.int .i64 a.e, .int .i64 a.v.maj, .int .i64 a.v.min, .int .i64 a.v.pat, .string (mkS a.v.pre), .string (mkS a.v.build), .bool a.aft, .int .i64 b.e, .int .i64 b.v.maj, .int .i64 b.v.min, .int .i64 b.v.pat, .string (mkS b.v.pre), .string (mkS b.v.build), .bool b.aft], verV u]) (.bool (holdsC (Sp.mk a b) u)) (by kernel_rfl) (fun _ => by kernel_rfl) (fun w _ => holdsC_any (Sp.mk a b) u w ⟨sa, sb⟩ su) ?_
          refine q_val (.bool (holdsC (Sp.mk a b) u)) (by kernel_rfl) (fun _ => by kernel_rfl) ?_
          cases h31 : holdsC (Sp.mk a b) u with
          | true =>
            refine q_load 2 ⟨b2, #[.int .i64 c.e, .int .i64 c.v.maj, .int .i64 c.v.min, .int .i64 c.v.pat, .string (mkS c.v.pre), .string (mkS c.v.build), .bool c.aft, .int .i64 d.e, .int .i64 d.v.maj, .int .i64 d.v.min, .int .i64 d.v.pat, .string (mkS d.v.pre), .string (mkS d.v.build), .bool d.aft], 32⟩ (off := 0) (.agg #[.int .i64 c.e, .int .i64 c.v.maj, .int .i64 c.v.min, .int .i64 c.v.pat, .string (mkS c.v.pre), .string (mkS c.v.build), .bool c.aft, .int .i64 d.e, .int .i64 d.v.maj, .int .i64 d.v.min, .int .i64 d.v.pat, .string (mkS d.v.pre), .string (mkS d.v.build), .bool d.aft]) (by kernel_rfl) rfl (by kernel_rfl) (by kernel_rfl) (by kernel_rfl) ?_
            refine q_load 1 ⟨b3, (verV u).cells, 23⟩ (off := 0) (verV u) (by kernel_rfl) rfl (by kernel_rfl) (by kernel_rfl) (by kernel_rfl) ?_
            refine q_call (k := 19) (args := #[.agg #[.int .i64 c.e, .int .i64 c.v.maj, .int .i64 c.v.min, .int .i64 c.v.pat, .string (mkS c.v.pre), .string (mkS c.v.build), .bool c.aft, .int .i64 d.e, .int .i64 d.v.maj, .int .i64 d.v.min, .int .i64 d.v.pat, .string (mkS d.v.pre), .string (mkS d.v.build), .bool d.aft], verV u]) (.bool (holdsC (Sp.mk c d) u)) (by kernel_rfl) (fun _ => by kernel_rfl) (fun w _ => holdsC_any (Sp.mk c d) u w ⟨sc, sd⟩ su) ?_
            refine q_val (.bool (holdsC (Sp.mk c d) u)) (by kernel_rfl) (fun _ => by kernel_rfl) ?_
            refine q_load 0 ⟨b4, #[.int .i64 a.e, .int .i64 a.v.maj, .int .i64 a.v.min, .int .i64 a.v.pat, .string (mkS a.v.pre), .string (mkS a.v.build), .bool a.aft, .int .i64 b.e, .int .i64 b.v.maj, .int .i64 b.v.min, .int .i64 b.v.pat, .string (mkS b.v.pre), .string (mkS b.v.build), .bool b.aft], 32⟩ (off := 0) (.agg #[.int .i64 a.e, .int .i64 a.v.maj, .int .i64 a.v.min, .int .i64 a.v.pat, .string (mkS a.v.pre), .string (mkS a.v.build), .bool a.aft, .int .i64 b.e, .int .i64 b.v.maj, .int .i64 b.v.min, .int .i64 b.v.pat, .string (mkS b.v.pre), .string (mkS b.v.build), .bool b.aft]) (by kernel_rfl) rfl (by kernel_rfl) (by kernel_rfl) (by kernel_rfl) ?_
            refine q_load 1 ⟨b3, (verV u).cells, 23⟩ (off := 0) (verV u) (by kernel_rfl) rfl (by kernel_rfl) (by kernel_rfl) (by kernel_rfl) ?_
            refine q_call (k := 19) (args := #[.agg #[.int .i64 a.e, .int .i64 a.v.maj, .int .i64 a.v.min, .int .i64 a.v.pat, .string (mkS a.v.pre), .string (mkS a.v.build), .bool a.aft, .int .i64 b.e, .int .i64 b.v.maj, .int .i64 b.v.min, .int .i64 b.v.pat, .string (mkS b.v.pre), .string (mkS b.v.build), .bool b.aft], verV u]) (.bool (holdsC (Sp.mk a b) u)) (by kernel_rfl) (fun _ => by kernel_rfl) (fun w _ => holdsC_any (Sp.mk a b) u w ⟨sa, sb⟩ su) ?_
            rw [h31]
            cases h32 : holdsC (Sp.mk c d) u with
            | true =>
              refine q_val (.bool true) (by kernel_rfl) (fun _ => by kernel_rfl) ?_
              refine q_val (.bool true) (by kernel_rfl) (fun _ => by kernel_rfl) ?_
              refine q_val (.bool true) (by kernel_rfl) (fun _ => by kernel_rfl) ?_
              refine q_load 0 ⟨b4, #[.int .i64 a.e, .int .i64 a.v.maj, .int .i64 a.v.min, .int .i64 a.v.pat, .string (mkS a.v.pre), .string (mkS a.v.build), .bool a.aft, .int .i64 b.e, .int .i64 b.v.maj, .int .i64 b.v.min, .int .i64 b.v.pat, .string (mkS b.v.pre), .string (mkS b.v.build), .bool b.aft], 32⟩ (off := 0) (.agg #[.int .i64 a.e, .int .i64 a.v.maj, .int .i64 a.v.min, .int .i64 a.v.pat, .string (mkS a.v.pre), .string (mkS a.v.build), .bool a.aft, .int .i64 b.e, .int .i64 b.v.maj, .int .i64 b.v.min, .int .i64 b.v.pat, .string (mkS b.v.pre), .string (mkS b.v.build), .bool b.aft]) (by kernel_rfl) rfl (by kernel_rfl) (by kernel_rfl) (by kernel_rfl) ?_
              refine q_call (k := 17) (args := #[.agg #[.int .i64 a.e, .int .i64 a.v.maj, .int .i64 a.v.min, .int .i64 a.v.pat, .string (mkS a.v.pre), .string (mkS a.v.build), .bool a.aft, .int .i64 b.e, .int .i64 b.v.maj, .int .i64 b.v.min, .int .i64 b.v.pat, .string (mkS b.v.pre), .string (mkS b.v.build), .bool b.aft]]) (.bool ((Sp.mk a b).may)) (by kernel_rfl) (fun _ => by kernel_rfl) (fun w _ => spanMay_any (Sp.mk a b) w ⟨sa, sb⟩) ?_
              rw [h29]
              refine q_val (.bool true) (by kernel_rfl) (fun _ => by kernel_rfl) ?_
              refine q_skip (by kernel_rfl) ?_
              refine q_skip (by kernel_rfl) ?_
              refine q_skip (by kernel_rfl) ?_
              refine q_skip (by kernel_rfl) ?_
              refine q_val (.bool true) (by kernel_rfl) (fun _ => by kernel_rfl) ?_
              refine q_val (.bool true) (by kernel_rfl) (fun _ => by kernel_rfl) ?_
              refine q_val (.bool true) (by kernel_rfl) (fun _ => by kernel_rfl) ?_
              refine q_nil ?_
              refine fin_seq ?_
              refine ok_ret ?_
              refine fin_ret (.bool true) Try.results8 (by kernel_rfl) ?_
              exact fun w hO => ⟨rfl, hO.below⟩
            | false =>
              refine q_val (.bool false) (by kernel_rfl) (fun _ => by kernel_rfl) ?_
              refine q_val (.bool false) (by kernel_rfl) (fun _ => by kernel_rfl) ?_
              refine q_val (.bool false) (by kernel_rfl) (fun _ => by kernel_rfl) ?_
              refine q_skip (by kernel_rfl) ?_
              refine q_skip (by kernel_rfl) ?_
              refine q_skip (by kernel_rfl) ?_
              refine q_skip (by kernel_rfl) ?_
              refine q_skip (by kernel_rfl) ?_
              refine q_skip (by kernel_rfl) ?_
              refine q_skip (by kernel_rfl) ?_
              refine q_skip (by kernel_rfl) ?_
              refine q_val (.bool false) (by kernel_rfl) (fun _ => by kernel_rfl) ?_
              refine q_val (.bool false) (by kernel_rfl) (fun _ => by kernel_rfl) ?_
              refine q_nil ?_
              refine fin_seq ?_
              refine ok_ret ?_
              refine fin_ret (.bool false) Try.results8 (by kernel_rfl) ?_
              exact fun w hO => by exfalso; have := hme (by assumption) (by assumption); simp_all
          | false =>
            refine q_skip (by kernel_rfl) ?_
            refine q_skip (by kernel_rfl) ?_
            refine q_skip (by kernel_rfl) ?_
            refine q_val (.bool false) (by kernel_rfl) (fun _ => by kernel_rfl) ?_
            refine q_load 0 ⟨b4, #[.int .i64 a.e, .int .i64 a.v.maj, .int .i64 a.v.min, .int .i64 a.v.pat, .string (mkS a.v.pre), .string (mkS a.v.build), .bool a.aft, .int .i64 b.e, .int .i64 b.v.maj, .int .i64 b.v.min, .int .i64 b.v.pat, .string (mkS b.v.pre), .string (mkS b.v.build), .bool b.aft], 32⟩ (off := 0) (.agg #[.int .i64 a.e, .int .i64 a.v.maj, .int .i64 a.v.min, .int .i64 a.v.pat, .string (mkS a.v.pre), .string (mkS a.v.build), .bool a.aft, .int .i64 b.e, .int .i64 b.v.maj, .int .i64 b.v.min, .int .i64 b.v.pat, .string (mkS b.v.pre), .string (mkS b.v.build), .bool b.aft]) (by kernel_rfl) rfl (by kernel_rfl) (by kernel_rfl) (by kernel_rfl) ?_
            refine q_load 1 ⟨b3, (verV u).cells, 23⟩ (off := 0) (verV u) (by kernel_rfl) rfl (by kernel_rfl) (by kernel_rfl) (by kernel_rfl) ?_
            refine q_call (k := 19) (args := #[.agg #[.int .i64 a.e, .int .i64 a.v.maj, .int .i64 a.v.min, .int .i64 a.v.pat, .string (mkS a.v.pre), .string (mkS a.v.build), .bool a.aft, .int .i64 b.e, .int .i64 b.v.maj, .int .i64 b.v.min, .int .i64 b.v.pat, .string (mkS b.v.pre), .string (mkS b.v.build), .bool b.aft], verV u]) (.bool (holdsC (Sp.mk a b) u)) (by kernel_rfl) (fun _ => by kernel_rfl) (fun w _ => holdsC_any (Sp.mk a b) u w ⟨sa, sb⟩ su) ?_
            rw [h31]
            refine q_val (.bool true) (by kernel_rfl) (fun _ => by kernel_rfl) ?_
            refine q_val (.bool true) (by kernel_rfl) (fun _ => by kernel_rfl) ?_
            refine q_val (.bool true) (by kernel_rfl) (fun _ => by kernel_rfl) ?_
            refine q_load 0 ⟨b4, #[.int .i64 a.e, .int .i64 a.v.maj, .int .i64 a.v.min, .int .i64 a.v.pat, .string (mkS a.v.pre), .string (mkS a.v.build), .bool a.aft, .int .i64 b.e, .int .i64 b.v.maj, .int .i64 b.v.min, .int .i64 b.v.pat, .string (mkS b.v.pre), .string (mkS b.v.build), .bool b.aft], 32⟩ (off := 0) (.agg #[.int .i64 a.e, .int .i64 a.v.maj, .int .i64 a.v.min, .int .i64 a.v.pat, .string (mkS a.v.pre), .string (mkS a.v.build), .bool a.aft, .int .i64 b.e, .int .i64 b.v.maj, .int .i64 b.v.min, .int .i64 b.v.pat, .string (mkS b.v.pre), .string (mkS b.v.build), .bool b.aft]) (by kernel_rfl) rfl (by kernel_rfl) (by kernel_rfl) (by kernel_rfl) ?_
            refine q_call (k := 17) (args := #[.agg #[.int .i64 a.e, .int .i64 a.v.maj, .int .i64 a.v.min, .int .i64 a.v.pat, .string (mkS a.v.pre), .string (mkS a.v.build), .bool a.aft, .int .i64 b.e, .int .i64 b.v.maj, .int .i64 b.v.min, .int .i64 b.v.pat, .string (mkS b.v.pre), .string (mkS b.v.build), .bool b.aft]]) (.bool ((Sp.mk a b).may)) (by kernel_rfl) (fun _ => by kernel_rfl) (fun w _ => spanMay_any (Sp.mk a b) w ⟨sa, sb⟩) ?_
            rw [h29]
            refine q_val (.bool true) (by kernel_rfl) (fun _ => by kernel_rfl) ?_
            refine q_skip (by kernel_rfl) ?_
            refine q_skip (by kernel_rfl) ?_
            refine q_skip (by kernel_rfl) ?_
            refine q_skip (by kernel_rfl) ?_
            refine q_val (.bool true) (by kernel_rfl) (fun _ => by kernel_rfl) ?_
            refine q_val (.bool true) (by kernel_rfl) (fun _ => by kernel_rfl) ?_
            refine q_val (.bool true) (by kernel_rfl) (fun _ => by kernel_rfl) ?_
            refine q_nil ?_
            refine fin_seq ?_
            refine ok_ret ?_
            refine fin_ret (.bool true) Try.results8 (by kernel_rfl) ?_
            exact fun w hO => ⟨rfl, hO.below⟩
        | false =>
          refine s_val (.bool true) (by kernel_rfl) (fun _ => by kernel_rfl) ?_
          refine s_val (.bool true) (by kernel_rfl) (fun _ => by kernel_rfl) ?_
          refine s_nil ?_
          refine fin_seq ?_
          refine ok_true (by kernel_rfl) ?_
          refine ok_seq ?_
          refine ok_region ?_
          refine s_call (k := 10) (args := #[]) (.bool true) (by kernel_rfl) (fun _ => by kernel_rfl) (fun w _ => awake3_any w) ?_
          refine s_val (.bool true) (by kernel_rfl) (fun _ => by kernel_rfl) ?_
          refine s_nil ?_
          refine fin_seq ?_
          refine ok_ret ?_
          refine fin_seq_ret ?_
          refine fin_ret (.bool true) Try.results8 (by kernel_rfl) ?_
          exact fun w hO => ⟨rfl, hO.below⟩
      | false =>
        refine s_val (.bool true) (by kernel_rfl) (fun _ => by kernel_rfl) ?_
        refine s_val (.bool true) (by kernel_rfl) (fun _ => by kernel_rfl) ?_
        refine s_skip (by kernel_rfl) ?_
        refine s_skip (by kernel_rfl) ?_
        refine s_skip (by kernel_rfl) ?_
        refine s_val (.bool true) (by kernel_rfl) (fun _ => by kernel_rfl) ?_
        refine s_nil ?_
        refine fin_seq ?_
        refine ok_true (by kernel_rfl) ?_
        refine ok_seq ?_
        refine ok_region ?_
        refine s_call (k := 10) (args := #[]) (.bool true) (by kernel_rfl) (fun _ => by kernel_rfl) (fun w _ => awake3_any w) ?_
        refine s_val (.bool true) (by kernel_rfl) (fun _ => by kernel_rfl) ?_
        refine s_nil ?_
        refine fin_seq ?_
        refine ok_ret ?_
        refine fin_seq_ret ?_
        refine fin_ret (.bool true) Try.results8 (by kernel_rfl) ?_
        exact fun w hO => ⟨rfl, hO.below⟩
end Go.Proofs.Ytndjdmbbndcohaa
