/-
  CompOrder: for every input the call returns true, and each argument reads afterwards as it read before. Conditions: none but the row's own, that the listed package-level variables read as the program's text lays them.
-/
import Derived.Test.YtjabcbagggicaaaGreatDoorCards
import Derived.Test.YtjabcbagggicaaaGreatDoorTie
import Derived.Test.YtjabcbagggicaaaGreatDoorMD5

section
/-
  CompOrder: for any list of numbers the law returns true, and nothing that was there is changed. No condition.
-/
namespace Go.Proofs.YtjabcbagggicaaaGreatDoor
open Go.RowKit
set_option maxRecDepth 100000
set_option linter.unusedVariables false
set_option linter.unusedSimpArgs false
set_option maxHeartbeats 2000000

set_option maxHeartbeats 8000000 in
theorem compOrder.law (W : World) (x : Value) (xl : List Int) (hxl : ReadsI W W.heap.size x xl) (lxl : xl.length ≤ maxLen) (ht : HasTab W) :
    Calls Tryz.prog 7 #[x] W fun e w' => e = .returned (.bool true) ∧ Below W.heap.size W w' := by
  obtain ⟨c, ec⟩ : ∃ q, q = genCo xl 0 := ⟨_, rfl⟩
  have mc : c.may = true := ec ▸ genCo_may xl 0
  have sc : c.short := ec ▸ genCo_short xl 0
  obtain ⟨u, eu⟩ : ∃ q, q = genV xl 7 := ⟨_, rfl⟩
  have mu : u.may = true := eu ▸ gen_may xl 7
  have su : u.short := eu ▸ ⟨Nat.le_trans (gen_pre xl 7) (by decide), Nat.le_trans (gen_bld xl 7) (by decide)⟩
  refine calls_ok (n := 56) Tryz.func7 rfl (by kernel_rfl) (by kernel_rfl) ?_
  refine ok_seq ?_
  refine ok_region ?_
  refine s_val (.bool false) (by kernel_rfl) (fun _ => by kernel_rfl) ?_
  refine s_nil ?_
  refine fin_seq ?_
  refine ok_seq ?_
  refine ok_region ?_
  refine s_val (x) (by kernel_rfl) (fun _ => by kernel_rfl) ?_
  refine s_call (k := 23) (args := #[x, .int .i64 0]) (coV c) (by kernel_rfl) (fun _ => by kernel_rfl) (fun w hO => ret_v (by rw [ec]) (genCo_any x xl 0 w ((hxl.below hO.below).more hO.below.size) (by unfold maxLen at lxl; omega) (by omega))) ?_
  refine s_val (x) (by kernel_rfl) (fun _ => by kernel_rfl) ?_
  refine s_call (k := 27) (args := #[x, .int .i64 7]) (verV u) (by kernel_rfl) (fun _ => by kernel_rfl) (fun w hO => ret_v (by rw [eu]) (gen_any x xl 7 w ((hxl.below hO.below).more hO.below.size) (by unfold maxLen at lxl; omega) (by omega))) ?_
  refine s_alloc_at (.agg #[.int .i64 0, .int .i64 0, .int .i64 0, .int .i64 0, .int .i64 0, .string ⟨#[]⟩, .string ⟨#[]⟩]) (by kernel_rfl) rfl (by kernel_rfl) (fun b1 => ?_)
  refine s_alloc_at (.agg #[.int .i64 0, .int .i64 0, .int .i64 0, .string ⟨#[]⟩, .string ⟨#[]⟩]) (by kernel_rfl) rfl (by kernel_rfl) (fun b2 => ?_)
  refine s_store_at 1 ⟨b1, #[.int .i64 0, .int .i64 0, .int .i64 0, .int .i64 0, .int .i64 0, .string ⟨#[]⟩, .string ⟨#[]⟩], 26⟩ (off := 0) (coV c) (by kernel_rfl) rfl rfl (by kernel_rfl) (by kernel_rfl) (by kernel_rfl) (by kernel_rfl) (by kernel_rfl) ?_
  refine s_store_at 0 ⟨b2, #[.int .i64 0, .int .i64 0, .int .i64 0, .string ⟨#[]⟩, .string ⟨#[]⟩], 24⟩ (off := 0) (verV u) (by kernel_rfl) rfl rfl (by kernel_rfl) (by kernel_rfl) (by kernel_rfl) (by kernel_rfl) (by kernel_rfl) ?_
  refine s_nil ?_
  refine fin_seq ?_
  refine ok_seq ?_
  refine ok_region ?_
  refine s_load 0 ⟨b2, (verV u).cells, 24⟩ (off := 0) (verV u) (by kernel_rfl) rfl (by kernel_rfl) (by kernel_rfl) (by kernel_rfl) ?_
  refine s_val (.pointer (some ⟨b1, 2, none⟩)) (by kernel_rfl) (fun _ => by kernel_rfl) ?_
  refine s_load 1 ⟨b1, (coV c).cells, 26⟩ (off := 2) (.agg #[.int .i64 c.v.maj, .int .i64 c.v.min, .int .i64 c.v.pat, .string (mkS c.v.pre), .string (mkS c.v.build)]) (by kernel_rfl) rfl (by kernel_rfl) (by kernel_rfl) (by kernel_rfl) ?_
  refine s_call (k := 28) (args := #[verV u, .agg #[.int .i64 c.v.maj, .int .i64 c.v.min, .int .i64 c.v.pat, .string (mkS c.v.pre), .string (mkS c.v.build)]]) (.int .i64 (cmpR u c.v)) (by kernel_rfl) (fun _ => by kernel_rfl) (fun w _ => vcompare_any u c.v w su.1 su.2 sc.1 sc.2) ?_
  refine s_val (.int .i64 (cmpR u c.v)) (by kernel_rfl) (fun _ => by kernel_rfl) ?_
  refine s_nil ?_
  refine fin_seq ?_
  refine ok_seq ?_
  refine ok_region ?_
  refine s_val (.bool false) (by kernel_rfl) (fun _ => by kernel_rfl) ?_
  refine s_nil ?_
  refine fin_seq ?_
  refine ok_seq ?_
  refine ok_seq ?_
  refine ok_region ?_
  refine s_val (.pointer (some ⟨b1, 0, none⟩)) (by kernel_rfl) (fun _ => by kernel_rfl) ?_
  refine s_load 1 ⟨b1, (coV c).cells, 26⟩ (off := 0) (.int .i64 c.op) (by kernel_rfl) rfl (by kernel_rfl) (by kernel_rfl) (by kernel_rfl) ?_
  refine s_nil ?_
  refine fin_seq ?_
  refine ok_block ?_
  refine ok_seq ?_
  refine ok_region ?_
  by_cases h1 : (c.op : Int) = 1
  · skip
    refine s_dec (p := (c.op : Int) = 1) true (by kernel_rfl) (fun _ => by kernel_rfl) (decide_eq_true (h1)) ?_
    refine s_val (.bool true) (by kernel_rfl) (fun _ => by kernel_rfl) ?_
    refine s_nil ?_
    refine fin_seq ?_
    refine ok_true (by kernel_rfl) ?_
    refine ok_region ?_
    refine s_val (.int .i64 (cmpR u c.v)) (by kernel_rfl) (fun _ => by kernel_rfl) ?_
    by_cases h2 : (cmpR u c.v : Int) = 0
    · skip
      refine s_dec (p := (cmpR u c.v : Int) = 0) true (by kernel_rfl) (fun _ => by kernel_rfl) (decide_eq_true (h2)) ?_
      refine s_val (.bool true) (by kernel_rfl) (fun _ => by kernel_rfl) ?_
      refine s_nil ?_
      refine fin_block ?_
      refine fin_seq ?_
      refine ok_seq ?_
      refine ok_anyh (by kernel_rfl) ?_
      refine h_one 0 (by kernel_rfl) ?_
      refine hs_call [] _ (k := 11) (args := #[]) (.bool true) rfl (by kernel_rfl) (fun _ => by kernel_rfl) (fun w hO => awake6_any w (ht.on hO.below)) ?_
      refine h_take 1 [] _ (.bool true) rfl (by kernel_rfl) (by kernel_rfl) (by kernel_rfl) (pq_seq pq_body) (by kernel_rfl) (fun _ _ => by kernel_rfl) ?_
      refine h_take 2 [] _ (.pointer (some ⟨b1, 1, none⟩)) rfl (by kernel_rfl) (by kernel_rfl) (by kernel_rfl) (pq_seq pq_body) (by kernel_rfl) (fun _ _ => by kernel_rfl) ?_
      refine h_load 3 [] _ 1 ⟨b1, (coV c).cells, 26⟩ (off := 1) (.int .i64 c.parts) rfl (by kernel_rfl) (by kernel_rfl) (by kernel_rfl) (pq_seq pq_body) (by kernel_rfl) rfl (by kernel_rfl) (by kernel_rfl) (by kernel_rfl) ?_
      by_cases h3 : (c.parts : Int) < 3
      · skip
        refine h_dec 4 [] _ ((c.parts : Int) < 3) true rfl (by kernel_rfl) (by kernel_rfl) (by kernel_rfl) (pq_seq pq_body) (by kernel_rfl) (fun _ => by kernel_rfl) (decide_eq_true (h3)) ?_
        refine h_take 5 [] _ (.bool true) rfl (by kernel_rfl) (by kernel_rfl) (by kernel_rfl) (pq_seq pq_body) (by kernel_rfl) (fun _ _ => by kernel_rfl) ?_
        refine h_skip 6 [] _ rfl (by kernel_rfl) (by kernel_rfl) (by kernel_rfl) (pq_seq pq_body) (by kernel_rfl) ?_
        refine h_skip 7 [] _ rfl (by kernel_rfl) (by kernel_rfl) (by kernel_rfl) (pq_seq pq_body) (by kernel_rfl) ?_
        refine h_skip 8 [] _ rfl (by kernel_rfl) (by kernel_rfl) (by kernel_rfl) (pq_seq pq_body) (by kernel_rfl) ?_
        refine h_skip 9 [] _ rfl (by kernel_rfl) (by kernel_rfl) (by kernel_rfl) (pq_seq pq_body) (by kernel_rfl) ?_
        refine h_skip 10 [] _ rfl (by kernel_rfl) (by kernel_rfl) (by kernel_rfl) (pq_seq pq_body) (by kernel_rfl) ?_
        refine h_skip 11 [] _ rfl (by kernel_rfl) (by kernel_rfl) (by kernel_rfl) (pq_seq pq_body) (by kernel_rfl) ?_
        refine h_take 12 [] _ (.bool true) rfl (by kernel_rfl) (by kernel_rfl) (by kernel_rfl) (pq_seq pq_body) (by kernel_rfl) (fun _ _ => by kernel_rfl) ?_
        refine h_take 13 [] _ (.bool true) rfl (by kernel_rfl) (by kernel_rfl) (by kernel_rfl) (pq_seq pq_body) (by kernel_rfl) (fun _ _ => by kernel_rfl) ?_
        refine h_take 14 [] _ (.bool true) rfl (by kernel_rfl) (by kernel_rfl) (by kernel_rfl) (pq_seq pq_body) (by kernel_rfl) (fun _ _ => by kernel_rfl) ?_
        refine h_done (by kernel_rfl) ?_
        refine fin_seq ?_
        refine ok_ret ?_
        refine fin_ret (.bool true) Tryz.results7 (by kernel_rfl) ?_
        exact fun w hO => ⟨rfl, hO.below⟩
      · skip
        refine h_dec 4 [] _ ((c.parts : Int) < 3) false rfl (by kernel_rfl) (by kernel_rfl) (by kernel_rfl) (pq_seq pq_body) (by kernel_rfl) (fun _ => by kernel_rfl) (decide_eq_false (h3)) ?_
        refine h_take 5 [] _ (.bool false) rfl (by kernel_rfl) (by kernel_rfl) (by kernel_rfl) (pq_seq pq_body) (by kernel_rfl) (fun _ _ => by kernel_rfl) ?_
        refine h_load 6 [] _ 1 ⟨b1, (coV c).cells, 26⟩ (off := 0) (coV c) rfl (by kernel_rfl) (by kernel_rfl) (by kernel_rfl) (pq_seq pq_body) (by kernel_rfl) rfl (by kernel_rfl) (by kernel_rfl) (by kernel_rfl) ?_
        refine h_load 8 [] _ 0 ⟨b2, (verV u).cells, 24⟩ (off := 0) (verV u) rfl (by kernel_rfl) (by kernel_rfl) (by kernel_rfl) (pq_seq pq_body) (by kernel_rfl) rfl (by kernel_rfl) (by kernel_rfl) (by kernel_rfl) ?_
        refine h_take 10 [] _ (.bool true) rfl (by kernel_rfl) (by kernel_rfl) (by kernel_rfl) (pq_seq pq_body) (by kernel_rfl) (fun _ _ => by kernel_rfl) ?_
        refine h_one 7 (by kernel_rfl) ?_
        refine hl_callx _ (k := 19) (args := #[coV c]) (fun v' L' => ∃ ob', L' = ob' ++ ([] ++ ([⟨b2, (verV u).cells, 24⟩, ⟨b1, (coV c).cells, 26⟩])) ∧ SlS v' (c.region) ob') rfl (by kernel_rfl) (fun _ => by kernel_rfl) (fun w hO => (cRegion_any c w sc).mono fun e w' ⟨v', ob', k1, k2, k3⟩ => ⟨v', _, k1, ⟨ob', rfl, k2⟩, Own.joinN hO k3⟩) (fun v' L' ⟨ob', e, _⟩ w hO => by subst e; exact Own.sub [] (Own.sub ob' hO)) (fun v1 L2 hv2 => ?_)
        obtain ⟨o1, rfl, hr1⟩ := hv2
        obtain ⟨V1, c1, rfl⟩ := hr1.form
        refine h_cast (L' := (o1 ++ ([] : List Blk)) ++ ([⟨b2, (verV u).cells, 24⟩, ⟨b1, (coV c).cells, 26⟩])) (List.append_assoc _ _ _).symm ?_
        refine h_one 9 (by kernel_rfl) ?_
        refine hs_call (o1 ++ ([] : List Blk)) _ (k := 25) (args := #[.slice V1 ((c.region).length) c1, verV u]) (.bool true) rfl (by kernel_rfl) (fun _ => by kernel_rfl) (fun w hO => ret_b (by rw [region_order mc (by omega) (by omega) mu]; unfold ordB; simp [h1]; omega) (rrowHas_any V1 c1 c.region u w (Sl.reads hr1 rfl hO (fun x hx => by simp [hx])) (Nat.le_trans ((region_rf c)).len (by decide)) ((region_rf c)).short su)) ?_
        refine h_take 11 (o1 ++ ([] : List Blk)) _ (.bool true) rfl (by kernel_rfl) (by kernel_rfl) (by kernel_rfl) (pq_seq pq_body) (by kernel_rfl) (fun _ _ => by kernel_rfl) ?_
        refine h_take 12 (o1 ++ ([] : List Blk)) _ (.bool true) rfl (by kernel_rfl) (by kernel_rfl) (by kernel_rfl) (pq_seq pq_body) (by kernel_rfl) (fun _ _ => by kernel_rfl) ?_
        refine h_take 13 (o1 ++ ([] : List Blk)) _ (.bool true) rfl (by kernel_rfl) (by kernel_rfl) (by kernel_rfl) (pq_seq pq_body) (by kernel_rfl) (fun _ _ => by kernel_rfl) ?_
        refine h_take 14 (o1 ++ ([] : List Blk)) _ (.bool true) rfl (by kernel_rfl) (by kernel_rfl) (by kernel_rfl) (pq_seq pq_body) (by kernel_rfl) (fun _ _ => by kernel_rfl) ?_
        refine h_drop (o1 ++ ([] : List Blk)) ?_
        refine h_done (by kernel_rfl) ?_
        refine fin_seq ?_
        refine ok_ret ?_
        refine fin_ret (.bool true) Tryz.results7 (by kernel_rfl) ?_
        exact fun w hO => ⟨rfl, hO.below⟩
    · skip
      refine s_dec (p := (cmpR u c.v : Int) = 0) false (by kernel_rfl) (fun _ => by kernel_rfl) (decide_eq_false (h2)) ?_
      refine s_val (.bool false) (by kernel_rfl) (fun _ => by kernel_rfl) ?_
      refine s_nil ?_
      refine fin_block ?_
      refine fin_seq ?_
      refine ok_seq ?_
      refine ok_anyh (by kernel_rfl) ?_
      refine h_one 0 (by kernel_rfl) ?_
      refine hs_call [] _ (k := 11) (args := #[]) (.bool true) rfl (by kernel_rfl) (fun _ => by kernel_rfl) (fun w hO => awake6_any w (ht.on hO.below)) ?_
      refine h_take 1 [] _ (.bool true) rfl (by kernel_rfl) (by kernel_rfl) (by kernel_rfl) (pq_seq pq_body) (by kernel_rfl) (fun _ _ => by kernel_rfl) ?_
      refine h_take 2 [] _ (.pointer (some ⟨b1, 1, none⟩)) rfl (by kernel_rfl) (by kernel_rfl) (by kernel_rfl) (pq_seq pq_body) (by kernel_rfl) (fun _ _ => by kernel_rfl) ?_
      refine h_load 3 [] _ 1 ⟨b1, (coV c).cells, 26⟩ (off := 1) (.int .i64 c.parts) rfl (by kernel_rfl) (by kernel_rfl) (by kernel_rfl) (pq_seq pq_body) (by kernel_rfl) rfl (by kernel_rfl) (by kernel_rfl) (by kernel_rfl) ?_
      by_cases h4 : (c.parts : Int) < 3
      · skip
        refine h_dec 4 [] _ ((c.parts : Int) < 3) true rfl (by kernel_rfl) (by kernel_rfl) (by kernel_rfl) (pq_seq pq_body) (by kernel_rfl) (fun _ => by kernel_rfl) (decide_eq_true (h4)) ?_
        refine h_take 5 [] _ (.bool true) rfl (by kernel_rfl) (by kernel_rfl) (by kernel_rfl) (pq_seq pq_body) (by kernel_rfl) (fun _ _ => by kernel_rfl) ?_
        refine h_skip 6 [] _ rfl (by kernel_rfl) (by kernel_rfl) (by kernel_rfl) (pq_seq pq_body) (by kernel_rfl) ?_
        refine h_skip 7 [] _ rfl (by kernel_rfl) (by kernel_rfl) (by kernel_rfl) (pq_seq pq_body) (by kernel_rfl) ?_
        refine h_skip 8 [] _ rfl (by kernel_rfl) (by kernel_rfl) (by kernel_rfl) (pq_seq pq_body) (by kernel_rfl) ?_
        refine h_skip 9 [] _ rfl (by kernel_rfl) (by kernel_rfl) (by kernel_rfl) (pq_seq pq_body) (by kernel_rfl) ?_
        refine h_skip 10 [] _ rfl (by kernel_rfl) (by kernel_rfl) (by kernel_rfl) (pq_seq pq_body) (by kernel_rfl) ?_
        refine h_skip 11 [] _ rfl (by kernel_rfl) (by kernel_rfl) (by kernel_rfl) (pq_seq pq_body) (by kernel_rfl) ?_
        refine h_take 12 [] _ (.bool true) rfl (by kernel_rfl) (by kernel_rfl) (by kernel_rfl) (pq_seq pq_body) (by kernel_rfl) (fun _ _ => by kernel_rfl) ?_
        refine h_take 13 [] _ (.bool true) rfl (by kernel_rfl) (by kernel_rfl) (by kernel_rfl) (pq_seq pq_body) (by kernel_rfl) (fun _ _ => by kernel_rfl) ?_
        refine h_take 14 [] _ (.bool true) rfl (by kernel_rfl) (by kernel_rfl) (by kernel_rfl) (pq_seq pq_body) (by kernel_rfl) (fun _ _ => by kernel_rfl) ?_
        refine h_done (by kernel_rfl) ?_
        refine fin_seq ?_
        refine ok_ret ?_
        refine fin_ret (.bool true) Tryz.results7 (by kernel_rfl) ?_
        exact fun w hO => ⟨rfl, hO.below⟩
      · skip
        refine h_dec 4 [] _ ((c.parts : Int) < 3) false rfl (by kernel_rfl) (by kernel_rfl) (by kernel_rfl) (pq_seq pq_body) (by kernel_rfl) (fun _ => by kernel_rfl) (decide_eq_false (h4)) ?_
        refine h_take 5 [] _ (.bool false) rfl (by kernel_rfl) (by kernel_rfl) (by kernel_rfl) (pq_seq pq_body) (by kernel_rfl) (fun _ _ => by kernel_rfl) ?_
        refine h_load 6 [] _ 1 ⟨b1, (coV c).cells, 26⟩ (off := 0) (coV c) rfl (by kernel_rfl) (by kernel_rfl) (by kernel_rfl) (pq_seq pq_body) (by kernel_rfl) rfl (by kernel_rfl) (by kernel_rfl) (by kernel_rfl) ?_
        refine h_load 8 [] _ 0 ⟨b2, (verV u).cells, 24⟩ (off := 0) (verV u) rfl (by kernel_rfl) (by kernel_rfl) (by kernel_rfl) (pq_seq pq_body) (by kernel_rfl) rfl (by kernel_rfl) (by kernel_rfl) (by kernel_rfl) ?_
        refine h_take 10 [] _ (.bool false) rfl (by kernel_rfl) (by kernel_rfl) (by kernel_rfl) (pq_seq pq_body) (by kernel_rfl) (fun _ _ => by kernel_rfl) ?_
        refine h_one 7 (by kernel_rfl) ?_
        refine hl_callx _ (k := 19) (args := #[coV c]) (fun v' L' => ∃ ob', L' = ob' ++ ([] ++ ([⟨b2, (verV u).cells, 24⟩, ⟨b1, (coV c).cells, 26⟩])) ∧ SlS v' (c.region) ob') rfl (by kernel_rfl) (fun _ => by kernel_rfl) (fun w hO => (cRegion_any c w sc).mono fun e w' ⟨v', ob', k1, k2, k3⟩ => ⟨v', _, k1, ⟨ob', rfl, k2⟩, Own.joinN hO k3⟩) (fun v' L' ⟨ob', e, _⟩ w hO => by subst e; exact Own.sub [] (Own.sub ob' hO)) (fun v2 L2 hv2 => ?_)
        obtain ⟨o2, rfl, hr2⟩ := hv2
        obtain ⟨V2, c2, rfl⟩ := hr2.form
        refine h_cast (L' := (o2 ++ ([] : List Blk)) ++ ([⟨b2, (verV u).cells, 24⟩, ⟨b1, (coV c).cells, 26⟩])) (List.append_assoc _ _ _).symm ?_
        refine h_one 9 (by kernel_rfl) ?_
        refine hs_call (o2 ++ ([] : List Blk)) _ (k := 25) (args := #[.slice V2 ((c.region).length) c2, verV u]) (.bool false) rfl (by kernel_rfl) (fun _ => by kernel_rfl) (fun w hO => ret_b (by rw [region_order mc (by omega) (by omega) mu]; unfold ordB; simp [h1]; omega) (rrowHas_any V2 c2 c.region u w (Sl.reads hr2 rfl hO (fun x hx => by simp [hx])) (Nat.le_trans ((region_rf c)).len (by decide)) ((region_rf c)).short su)) ?_
        refine h_take 11 (o2 ++ ([] : List Blk)) _ (.bool true) rfl (by kernel_rfl) (by kernel_rfl) (by kernel_rfl) (pq_seq pq_body) (by kernel_rfl) (fun _ _ => by kernel_rfl) ?_
        refine h_take 12 (o2 ++ ([] : List Blk)) _ (.bool true) rfl (by kernel_rfl) (by kernel_rfl) (by kernel_rfl) (pq_seq pq_body) (by kernel_rfl) (fun _ _ => by kernel_rfl) ?_
        refine h_take 13 (o2 ++ ([] : List Blk)) _ (.bool true) rfl (by kernel_rfl) (by kernel_rfl) (by kernel_rfl) (pq_seq pq_body) (by kernel_rfl) (fun _ _ => by kernel_rfl) ?_
        refine h_take 14 (o2 ++ ([] : List Blk)) _ (.bool true) rfl (by kernel_rfl) (by kernel_rfl) (by kernel_rfl) (pq_seq pq_body) (by kernel_rfl) (fun _ _ => by kernel_rfl) ?_
        refine h_drop (o2 ++ ([] : List Blk)) ?_
        refine h_done (by kernel_rfl) ?_
        refine fin_seq ?_
        refine ok_ret ?_
        refine fin_ret (.bool true) Tryz.results7 (by kernel_rfl) ?_
        exact fun w hO => ⟨rfl, hO.below⟩
  · skip
    refine s_dec (p := (c.op : Int) = 1) false (by kernel_rfl) (fun _ => by kernel_rfl) (decide_eq_false (h1)) ?_
    refine s_val (.bool false) (by kernel_rfl) (fun _ => by kernel_rfl) ?_
    refine s_nil ?_
    refine fin_seq ?_
    refine ok_false (by kernel_rfl) ?_
    refine ok_seq ?_
    refine ok_region ?_
    by_cases h5 : (c.op : Int) = 2
    · skip
      refine s_dec (p := (c.op : Int) = 2) true (by kernel_rfl) (fun _ => by kernel_rfl) (decide_eq_true (h5)) ?_
      refine s_val (.bool true) (by kernel_rfl) (fun _ => by kernel_rfl) ?_
      refine s_nil ?_
      refine fin_seq ?_
      refine ok_true (by kernel_rfl) ?_
      refine ok_region ?_
      refine s_val (.int .i64 (cmpR u c.v)) (by kernel_rfl) (fun _ => by kernel_rfl) ?_
      by_cases h6 : (cmpR u c.v : Int) = 0
      · skip
        refine s_ndec (p := (cmpR u c.v : Int) = 0) true (by kernel_rfl) (fun _ => by kernel_rfl) (decide_eq_true (h6)) ?_
        refine s_val (.bool false) (by kernel_rfl) (fun _ => by kernel_rfl) ?_
        refine s_nil ?_
        refine fin_block ?_
        refine fin_seq ?_
        refine ok_seq ?_
        refine ok_anyh (by kernel_rfl) ?_
        refine h_one 0 (by kernel_rfl) ?_
        refine hs_call [] _ (k := 11) (args := #[]) (.bool true) rfl (by kernel_rfl) (fun _ => by kernel_rfl) (fun w hO => awake6_any w (ht.on hO.below)) ?_
        refine h_take 1 [] _ (.bool true) rfl (by kernel_rfl) (by kernel_rfl) (by kernel_rfl) (pq_seq pq_body) (by kernel_rfl) (fun _ _ => by kernel_rfl) ?_
        refine h_take 2 [] _ (.pointer (some ⟨b1, 1, none⟩)) rfl (by kernel_rfl) (by kernel_rfl) (by kernel_rfl) (pq_seq pq_body) (by kernel_rfl) (fun _ _ => by kernel_rfl) ?_
        refine h_load 3 [] _ 1 ⟨b1, (coV c).cells, 26⟩ (off := 1) (.int .i64 c.parts) rfl (by kernel_rfl) (by kernel_rfl) (by kernel_rfl) (pq_seq pq_body) (by kernel_rfl) rfl (by kernel_rfl) (by kernel_rfl) (by kernel_rfl) ?_
        by_cases h7 : (c.parts : Int) < 3
        · skip
          refine h_dec 4 [] _ ((c.parts : Int) < 3) true rfl (by kernel_rfl) (by kernel_rfl) (by kernel_rfl) (pq_seq pq_body) (by kernel_rfl) (fun _ => by kernel_rfl) (decide_eq_true (h7)) ?_
          refine h_take 5 [] _ (.bool true) rfl (by kernel_rfl) (by kernel_rfl) (by kernel_rfl) (pq_seq pq_body) (by kernel_rfl) (fun _ _ => by kernel_rfl) ?_
          refine h_skip 6 [] _ rfl (by kernel_rfl) (by kernel_rfl) (by kernel_rfl) (pq_seq pq_body) (by kernel_rfl) ?_
          refine h_skip 7 [] _ rfl (by kernel_rfl) (by kernel_rfl) (by kernel_rfl) (pq_seq pq_body) (by kernel_rfl) ?_
          refine h_skip 8 [] _ rfl (by kernel_rfl) (by kernel_rfl) (by kernel_rfl) (pq_seq pq_body) (by kernel_rfl) ?_
          refine h_skip 9 [] _ rfl (by kernel_rfl) (by kernel_rfl) (by kernel_rfl) (pq_seq pq_body) (by kernel_rfl) ?_
          refine h_skip 10 [] _ rfl (by kernel_rfl) (by kernel_rfl) (by kernel_rfl) (pq_seq pq_body) (by kernel_rfl) ?_
          refine h_skip 11 [] _ rfl (by kernel_rfl) (by kernel_rfl) (by kernel_rfl) (pq_seq pq_body) (by kernel_rfl) ?_
          refine h_take 12 [] _ (.bool true) rfl (by kernel_rfl) (by kernel_rfl) (by kernel_rfl) (pq_seq pq_body) (by kernel_rfl) (fun _ _ => by kernel_rfl) ?_
          refine h_take 13 [] _ (.bool true) rfl (by kernel_rfl) (by kernel_rfl) (by kernel_rfl) (pq_seq pq_body) (by kernel_rfl) (fun _ _ => by kernel_rfl) ?_
          refine h_take 14 [] _ (.bool true) rfl (by kernel_rfl) (by kernel_rfl) (by kernel_rfl) (pq_seq pq_body) (by kernel_rfl) (fun _ _ => by kernel_rfl) ?_
          refine h_done (by kernel_rfl) ?_
          refine fin_seq ?_
          refine ok_ret ?_
          refine fin_ret (.bool true) Tryz.results7 (by kernel_rfl) ?_
          exact fun w hO => ⟨rfl, hO.below⟩
        · skip
          refine h_dec 4 [] _ ((c.parts : Int) < 3) false rfl (by kernel_rfl) (by kernel_rfl) (by kernel_rfl) (pq_seq pq_body) (by kernel_rfl) (fun _ => by kernel_rfl) (decide_eq_false (h7)) ?_
          refine h_take 5 [] _ (.bool false) rfl (by kernel_rfl) (by kernel_rfl) (by kernel_rfl) (pq_seq pq_body) (by kernel_rfl) (fun _ _ => by kernel_rfl) ?_
          refine h_load 6 [] _ 1 ⟨b1, (coV c).cells, 26⟩ (off := 0) (coV c) rfl (by kernel_rfl) (by kernel_rfl) (by kernel_rfl) (pq_seq pq_body) (by kernel_rfl) rfl (by kernel_rfl) (by kernel_rfl) (by kernel_rfl) ?_
          refine h_load 8 [] _ 0 ⟨b2, (verV u).cells, 24⟩ (off := 0) (verV u) rfl (by kernel_rfl) (by kernel_rfl) (by kernel_rfl) (pq_seq pq_body) (by kernel_rfl) rfl (by kernel_rfl) (by kernel_rfl) (by kernel_rfl) ?_
          refine h_take 10 [] _ (.bool false) rfl (by kernel_rfl) (by kernel_rfl) (by kernel_rfl) (pq_seq pq_body) (by kernel_rfl) (fun _ _ => by kernel_rfl) ?_
          refine h_one 7 (by kernel_rfl) ?_
          refine hl_callx _ (k := 19) (args := #[coV c]) (fun v' L' => ∃ ob', L' = ob' ++ ([] ++ ([⟨b2, (verV u).cells, 24⟩, ⟨b1, (coV c).cells, 26⟩])) ∧ SlS v' (c.region) ob') rfl (by kernel_rfl) (fun _ => by kernel_rfl) (fun w hO => (cRegion_any c w sc).mono fun e w' ⟨v', ob', k1, k2, k3⟩ => ⟨v', _, k1, ⟨ob', rfl, k2⟩, Own.joinN hO k3⟩) (fun v' L' ⟨ob', e, _⟩ w hO => by subst e; exact Own.sub [] (Own.sub ob' hO)) (fun v3 L2 hv2 => ?_)
          obtain ⟨o3, rfl, hr3⟩ := hv2
          obtain ⟨V3, c3, rfl⟩ := hr3.form
          refine h_cast (L' := (o3 ++ ([] : List Blk)) ++ ([⟨b2, (verV u).cells, 24⟩, ⟨b1, (coV c).cells, 26⟩])) (List.append_assoc _ _ _).symm ?_
          refine h_one 9 (by kernel_rfl) ?_
          refine hs_call (o3 ++ ([] : List Blk)) _ (k := 25) (args := #[.slice V3 ((c.region).length) c3, verV u]) (.bool false) rfl (by kernel_rfl) (fun _ => by kernel_rfl) (fun w hO => ret_b (by rw [region_order mc (by omega) (by omega) mu]; unfold ordB; simp [h5]; omega) (rrowHas_any V3 c3 c.region u w (Sl.reads hr3 rfl hO (fun x hx => by simp [hx])) (Nat.le_trans ((region_rf c)).len (by decide)) ((region_rf c)).short su)) ?_
          refine h_take 11 (o3 ++ ([] : List Blk)) _ (.bool true) rfl (by kernel_rfl) (by kernel_rfl) (by kernel_rfl) (pq_seq pq_body) (by kernel_rfl) (fun _ _ => by kernel_rfl) ?_
          refine h_take 12 (o3 ++ ([] : List Blk)) _ (.bool true) rfl (by kernel_rfl) (by kernel_rfl) (by kernel_rfl) (pq_seq pq_body) (by kernel_rfl) (fun _ _ => by kernel_rfl) ?_
          refine h_take 13 (o3 ++ ([] : List Blk)) _ (.bool true) rfl (by kernel_rfl) (by kernel_rfl) (by kernel_rfl) (pq_seq pq_body) (by kernel_rfl) (fun _ _ => by kernel_rfl) ?_
          refine h_take 14 (o3 ++ ([] : List Blk)) _ (.bool true) rfl (by kernel_rfl) (by kernel_rfl) (by kernel_rfl) (pq_seq pq_body) (by kernel_rfl) (fun _ _ => by kernel_rfl) ?_
          refine h_drop (o3 ++ ([] : List Blk)) ?_
          refine h_done (by kernel_rfl) ?_
          refine fin_seq ?_
          refine ok_ret ?_
          refine fin_ret (.bool true) Tryz.results7 (by kernel_rfl) ?_
          exact fun w hO => ⟨rfl, hO.below⟩
      · skip
        refine s_ndec (p := (cmpR u c.v : Int) = 0) false (by kernel_rfl) (fun _ => by kernel_rfl) (decide_eq_false (h6)) ?_
        refine s_val (.bool true) (by kernel_rfl) (fun _ => by kernel_rfl) ?_
        refine s_nil ?_
        refine fin_block ?_
        refine fin_seq ?_
        refine ok_seq ?_
        refine ok_anyh (by kernel_rfl) ?_
        refine h_one 0 (by kernel_rfl) ?_
        refine hs_call [] _ (k := 11) (args := #[]) (.bool true) rfl (by kernel_rfl) (fun _ => by kernel_rfl) (fun w hO => awake6_any w (ht.on hO.below)) ?_
        refine h_take 1 [] _ (.bool true) rfl (by kernel_rfl) (by kernel_rfl) (by kernel_rfl) (pq_seq pq_body) (by kernel_rfl) (fun _ _ => by kernel_rfl) ?_
        refine h_take 2 [] _ (.pointer (some ⟨b1, 1, none⟩)) rfl (by kernel_rfl) (by kernel_rfl) (by kernel_rfl) (pq_seq pq_body) (by kernel_rfl) (fun _ _ => by kernel_rfl) ?_
        refine h_load 3 [] _ 1 ⟨b1, (coV c).cells, 26⟩ (off := 1) (.int .i64 c.parts) rfl (by kernel_rfl) (by kernel_rfl) (by kernel_rfl) (pq_seq pq_body) (by kernel_rfl) rfl (by kernel_rfl) (by kernel_rfl) (by kernel_rfl) ?_
        by_cases h8 : (c.parts : Int) < 3
        · skip
          refine h_dec 4 [] _ ((c.parts : Int) < 3) true rfl (by kernel_rfl) (by kernel_rfl) (by kernel_rfl) (pq_seq pq_body) (by kernel_rfl) (fun _ => by kernel_rfl) (decide_eq_true (h8)) ?_
          refine h_take 5 [] _ (.bool true) rfl (by kernel_rfl) (by kernel_rfl) (by kernel_rfl) (pq_seq pq_body) (by kernel_rfl) (fun _ _ => by kernel_rfl) ?_
          refine h_skip 6 [] _ rfl (by kernel_rfl) (by kernel_rfl) (by kernel_rfl) (pq_seq pq_body) (by kernel_rfl) ?_
          refine h_skip 7 [] _ rfl (by kernel_rfl) (by kernel_rfl) (by kernel_rfl) (pq_seq pq_body) (by kernel_rfl) ?_
          refine h_skip 8 [] _ rfl (by kernel_rfl) (by kernel_rfl) (by kernel_rfl) (pq_seq pq_body) (by kernel_rfl) ?_
          refine h_skip 9 [] _ rfl (by kernel_rfl) (by kernel_rfl) (by kernel_rfl) (pq_seq pq_body) (by kernel_rfl) ?_
          refine h_skip 10 [] _ rfl (by kernel_rfl) (by kernel_rfl) (by kernel_rfl) (pq_seq pq_body) (by kernel_rfl) ?_
          refine h_skip 11 [] _ rfl (by kernel_rfl) (by kernel_rfl) (by kernel_rfl) (pq_seq pq_body) (by kernel_rfl) ?_
          refine h_take 12 [] _ (.bool true) rfl (by kernel_rfl) (by kernel_rfl) (by kernel_rfl) (pq_seq pq_body) (by kernel_rfl) (fun _ _ => by kernel_rfl) ?_
          refine h_take 13 [] _ (.bool true) rfl (by kernel_rfl) (by kernel_rfl) (by kernel_rfl) (pq_seq pq_body) (by kernel_rfl) (fun _ _ => by kernel_rfl) ?_
          refine h_take 14 [] _ (.bool true) rfl (by kernel_rfl) (by kernel_rfl) (by kernel_rfl) (pq_seq pq_body) (by kernel_rfl) (fun _ _ => by kernel_rfl) ?_
          refine h_done (by kernel_rfl) ?_
          refine fin_seq ?_
          refine ok_ret ?_
          refine fin_ret (.bool true) Tryz.results7 (by kernel_rfl) ?_
          exact fun w hO => ⟨rfl, hO.below⟩
        · skip
          refine h_dec 4 [] _ ((c.parts : Int) < 3) false rfl (by kernel_rfl) (by kernel_rfl) (by kernel_rfl) (pq_seq pq_body) (by kernel_rfl) (fun _ => by kernel_rfl) (decide_eq_false (h8)) ?_
          refine h_take 5 [] _ (.bool false) rfl (by kernel_rfl) (by kernel_rfl) (by kernel_rfl) (pq_seq pq_body) (by kernel_rfl) (fun _ _ => by kernel_rfl) ?_
          refine h_load 6 [] _ 1 ⟨b1, (coV c).cells, 26⟩ (off := 0) (coV c) rfl (by kernel_rfl) (by kernel_rfl) (by kernel_rfl) (pq_seq pq_body) (by kernel_rfl) rfl (by kernel_rfl) (by kernel_rfl) (by kernel_rfl) ?_
          refine h_load 8 [] _ 0 ⟨b2, (verV u).cells, 24⟩ (off := 0) (verV u) rfl (by kernel_rfl) (by kernel_rfl) (by kernel_rfl) (pq_seq pq_body) (by kernel_rfl) rfl (by kernel_rfl) (by kernel_rfl) (by kernel_rfl) ?_
          refine h_take 10 [] _ (.bool true) rfl (by kernel_rfl) (by kernel_rfl) (by kernel_rfl) (pq_seq pq_body) (by kernel_rfl) (fun _ _ => by kernel_rfl) ?_
          refine h_one 7 (by kernel_rfl) ?_
          refine hl_callx _ (k := 19) (args := #[coV c]) (fun v' L' => ∃ ob', L' = ob' ++ ([] ++ ([⟨b2, (verV u).cells, 24⟩, ⟨b1, (coV c).cells, 26⟩])) ∧ SlS v' (c.region) ob') rfl (by kernel_rfl) (fun _ => by kernel_rfl) (fun w hO => (cRegion_any c w sc).mono fun e w' ⟨v', ob', k1, k2, k3⟩ => ⟨v', _, k1, ⟨ob', rfl, k2⟩, Own.joinN hO k3⟩) (fun v' L' ⟨ob', e, _⟩ w hO => by subst e; exact Own.sub [] (Own.sub ob' hO)) (fun v4 L2 hv2 => ?_)
          obtain ⟨o4, rfl, hr4⟩ := hv2
          obtain ⟨V4, c4, rfl⟩ := hr4.form
          refine h_cast (L' := (o4 ++ ([] : List Blk)) ++ ([⟨b2, (verV u).cells, 24⟩, ⟨b1, (coV c).cells, 26⟩])) (List.append_assoc _ _ _).symm ?_
          refine h_one 9 (by kernel_rfl) ?_
          refine hs_call (o4 ++ ([] : List Blk)) _ (k := 25) (args := #[.slice V4 ((c.region).length) c4, verV u]) (.bool true) rfl (by kernel_rfl) (fun _ => by kernel_rfl) (fun w hO => ret_b (by rw [region_order mc (by omega) (by omega) mu]; unfold ordB; simp [h5]; omega) (rrowHas_any V4 c4 c.region u w (Sl.reads hr4 rfl hO (fun x hx => by simp [hx])) (Nat.le_trans ((region_rf c)).len (by decide)) ((region_rf c)).short su)) ?_
          refine h_take 11 (o4 ++ ([] : List Blk)) _ (.bool true) rfl (by kernel_rfl) (by kernel_rfl) (by kernel_rfl) (pq_seq pq_body) (by kernel_rfl) (fun _ _ => by kernel_rfl) ?_
          refine h_take 12 (o4 ++ ([] : List Blk)) _ (.bool true) rfl (by kernel_rfl) (by kernel_rfl) (by kernel_rfl) (pq_seq pq_body) (by kernel_rfl) (fun _ _ => by kernel_rfl) ?_
          refine h_take 13 (o4 ++ ([] : List Blk)) _ (.bool true) rfl (by kernel_rfl) (by kernel_rfl) (by kernel_rfl) (pq_seq pq_body) (by kernel_rfl) (fun _ _ => by kernel_rfl) ?_
          refine h_take 14 (o4 ++ ([] : List Blk)) _ (.bool true) rfl (by kernel_rfl) (by kernel_rfl) (by kernel_rfl) (pq_seq pq_body) (by kernel_rfl) (fun _ _ => by kernel_rfl) ?_
          refine h_drop (o4 ++ ([] : List Blk)) ?_
          refine h_done (by kernel_rfl) ?_
          refine fin_seq ?_
          refine ok_ret ?_
          refine fin_ret (.bool true) Tryz.results7 (by kernel_rfl) ?_
          exact fun w hO => ⟨rfl, hO.below⟩
    · skip
      refine s_dec (p := (c.op : Int) = 2) false (by kernel_rfl) (fun _ => by kernel_rfl) (decide_eq_false (h5)) ?_
      refine s_val (.bool false) (by kernel_rfl) (fun _ => by kernel_rfl) ?_
      refine s_nil ?_
      refine fin_seq ?_
      refine ok_false (by kernel_rfl) ?_
      refine ok_seq ?_
      refine ok_region ?_
      by_cases h9 : (c.op : Int) = 3
      · skip
        refine s_dec (p := (c.op : Int) = 3) true (by kernel_rfl) (fun _ => by kernel_rfl) (decide_eq_true (h9)) ?_
        refine s_val (.bool true) (by kernel_rfl) (fun _ => by kernel_rfl) ?_
        refine s_nil ?_
        refine fin_seq ?_
        refine ok_true (by kernel_rfl) ?_
        refine ok_region ?_
        refine s_val (.int .i64 (cmpR u c.v)) (by kernel_rfl) (fun _ => by kernel_rfl) ?_
        by_cases h10 : (cmpR u c.v : Int) < 0
        · skip
          refine s_dec (p := (cmpR u c.v : Int) < 0) true (by kernel_rfl) (fun _ => by kernel_rfl) (decide_eq_true (h10)) ?_
          refine s_val (.bool true) (by kernel_rfl) (fun _ => by kernel_rfl) ?_
          refine s_nil ?_
          refine fin_block ?_
          refine fin_seq ?_
          refine ok_seq ?_
          refine ok_anyh (by kernel_rfl) ?_
          refine h_one 0 (by kernel_rfl) ?_
          refine hs_call [] _ (k := 11) (args := #[]) (.bool true) rfl (by kernel_rfl) (fun _ => by kernel_rfl) (fun w hO => awake6_any w (ht.on hO.below)) ?_
          refine h_take 1 [] _ (.bool true) rfl (by kernel_rfl) (by kernel_rfl) (by kernel_rfl) (pq_seq pq_body) (by kernel_rfl) (fun _ _ => by kernel_rfl) ?_
          refine h_take 2 [] _ (.pointer (some ⟨b1, 1, none⟩)) rfl (by kernel_rfl) (by kernel_rfl) (by kernel_rfl) (pq_seq pq_body) (by kernel_rfl) (fun _ _ => by kernel_rfl) ?_
          refine h_load 3 [] _ 1 ⟨b1, (coV c).cells, 26⟩ (off := 1) (.int .i64 c.parts) rfl (by kernel_rfl) (by kernel_rfl) (by kernel_rfl) (pq_seq pq_body) (by kernel_rfl) rfl (by kernel_rfl) (by kernel_rfl) (by kernel_rfl) ?_
          by_cases h11 : (c.parts : Int) < 3
          · skip
            refine h_dec 4 [] _ ((c.parts : Int) < 3) true rfl (by kernel_rfl) (by kernel_rfl) (by kernel_rfl) (pq_seq pq_body) (by kernel_rfl) (fun _ => by kernel_rfl) (decide_eq_true (h11)) ?_
            refine h_take 5 [] _ (.bool true) rfl (by kernel_rfl) (by kernel_rfl) (by kernel_rfl) (pq_seq pq_body) (by kernel_rfl) (fun _ _ => by kernel_rfl) ?_
            refine h_skip 6 [] _ rfl (by kernel_rfl) (by kernel_rfl) (by kernel_rfl) (pq_seq pq_body) (by kernel_rfl) ?_
            refine h_skip 7 [] _ rfl (by kernel_rfl) (by kernel_rfl) (by kernel_rfl) (pq_seq pq_body) (by kernel_rfl) ?_
            refine h_skip 8 [] _ rfl (by kernel_rfl) (by kernel_rfl) (by kernel_rfl) (pq_seq pq_body) (by kernel_rfl) ?_
            refine h_skip 9 [] _ rfl (by kernel_rfl) (by kernel_rfl) (by kernel_rfl) (pq_seq pq_body) (by kernel_rfl) ?_
            refine h_skip 10 [] _ rfl (by kernel_rfl) (by kernel_rfl) (by kernel_rfl) (pq_seq pq_body) (by kernel_rfl) ?_
            refine h_skip 11 [] _ rfl (by kernel_rfl) (by kernel_rfl) (by kernel_rfl) (pq_seq pq_body) (by kernel_rfl) ?_
            refine h_take 12 [] _ (.bool true) rfl (by kernel_rfl) (by kernel_rfl) (by kernel_rfl) (pq_seq pq_body) (by kernel_rfl) (fun _ _ => by kernel_rfl) ?_
            refine h_take 13 [] _ (.bool true) rfl (by kernel_rfl) (by kernel_rfl) (by kernel_rfl) (pq_seq pq_body) (by kernel_rfl) (fun _ _ => by kernel_rfl) ?_
            refine h_take 14 [] _ (.bool true) rfl (by kernel_rfl) (by kernel_rfl) (by kernel_rfl) (pq_seq pq_body) (by kernel_rfl) (fun _ _ => by kernel_rfl) ?_
            refine h_done (by kernel_rfl) ?_
            refine fin_seq ?_
            refine ok_ret ?_
            refine fin_ret (.bool true) Tryz.results7 (by kernel_rfl) ?_
            exact fun w hO => ⟨rfl, hO.below⟩
          · skip
            refine h_dec 4 [] _ ((c.parts : Int) < 3) false rfl (by kernel_rfl) (by kernel_rfl) (by kernel_rfl) (pq_seq pq_body) (by kernel_rfl) (fun _ => by kernel_rfl) (decide_eq_false (h11)) ?_
            refine h_take 5 [] _ (.bool false) rfl (by kernel_rfl) (by kernel_rfl) (by kernel_rfl) (pq_seq pq_body) (by kernel_rfl) (fun _ _ => by kernel_rfl) ?_
            refine h_load 6 [] _ 1 ⟨b1, (coV c).cells, 26⟩ (off := 0) (coV c) rfl (by kernel_rfl) (by kernel_rfl) (by kernel_rfl) (pq_seq pq_body) (by kernel_rfl) rfl (by kernel_rfl) (by kernel_rfl) (by kernel_rfl) ?_
            refine h_load 8 [] _ 0 ⟨b2, (verV u).cells, 24⟩ (off := 0) (verV u) rfl (by kernel_rfl) (by kernel_rfl) (by kernel_rfl) (pq_seq pq_body) (by kernel_rfl) rfl (by kernel_rfl) (by kernel_rfl) (by kernel_rfl) ?_
            refine h_take 10 [] _ (.bool true) rfl (by kernel_rfl) (by kernel_rfl) (by kernel_rfl) (pq_seq pq_body) (by kernel_rfl) (fun _ _ => by kernel_rfl) ?_
            refine h_one 7 (by kernel_rfl) ?_
            refine hl_callx _ (k := 19) (args := #[coV c]) (fun v' L' => ∃ ob', L' = ob' ++ ([] ++ ([⟨b2, (verV u).cells, 24⟩, ⟨b1, (coV c).cells, 26⟩])) ∧ SlS v' (c.region) ob') rfl (by kernel_rfl) (fun _ => by kernel_rfl) (fun w hO => (cRegion_any c w sc).mono fun e w' ⟨v', ob', k1, k2, k3⟩ => ⟨v', _, k1, ⟨ob', rfl, k2⟩, Own.joinN hO k3⟩) (fun v' L' ⟨ob', e, _⟩ w hO => by subst e; exact Own.sub [] (Own.sub ob' hO)) (fun v5 L2 hv2 => ?_)
            obtain ⟨o5, rfl, hr5⟩ := hv2
            obtain ⟨V5, c5, rfl⟩ := hr5.form
            refine h_cast (L' := (o5 ++ ([] : List Blk)) ++ ([⟨b2, (verV u).cells, 24⟩, ⟨b1, (coV c).cells, 26⟩])) (List.append_assoc _ _ _).symm ?_
            refine h_one 9 (by kernel_rfl) ?_
            refine hs_call (o5 ++ ([] : List Blk)) _ (k := 25) (args := #[.slice V5 ((c.region).length) c5, verV u]) (.bool true) rfl (by kernel_rfl) (fun _ => by kernel_rfl) (fun w hO => ret_b (by rw [region_order mc (by omega) (by omega) mu]; unfold ordB; simp [h9]; omega) (rrowHas_any V5 c5 c.region u w (Sl.reads hr5 rfl hO (fun x hx => by simp [hx])) (Nat.le_trans ((region_rf c)).len (by decide)) ((region_rf c)).short su)) ?_
            refine h_take 11 (o5 ++ ([] : List Blk)) _ (.bool true) rfl (by kernel_rfl) (by kernel_rfl) (by kernel_rfl) (pq_seq pq_body) (by kernel_rfl) (fun _ _ => by kernel_rfl) ?_
            refine h_take 12 (o5 ++ ([] : List Blk)) _ (.bool true) rfl (by kernel_rfl) (by kernel_rfl) (by kernel_rfl) (pq_seq pq_body) (by kernel_rfl) (fun _ _ => by kernel_rfl) ?_
            refine h_take 13 (o5 ++ ([] : List Blk)) _ (.bool true) rfl (by kernel_rfl) (by kernel_rfl) (by kernel_rfl) (pq_seq pq_body) (by kernel_rfl) (fun _ _ => by kernel_rfl) ?_
            refine h_take 14 (o5 ++ ([] : List Blk)) _ (.bool true) rfl (by kernel_rfl) (by kernel_rfl) (by kernel_rfl) (pq_seq pq_body) (by kernel_rfl) (fun _ _ => by kernel_rfl) ?_
            refine h_drop (o5 ++ ([] : List Blk)) ?_
            refine h_done (by kernel_rfl) ?_
            refine fin_seq ?_
            refine ok_ret ?_
            refine fin_ret (.bool true) Tryz.results7 (by kernel_rfl) ?_
            exact fun w hO => ⟨rfl, hO.below⟩
        · skip
          refine s_dec (p := (cmpR u c.v : Int) < 0) false (by kernel_rfl) (fun _ => by kernel_rfl) (decide_eq_false (h10)) ?_
          refine s_val (.bool false) (by kernel_rfl) (fun _ => by kernel_rfl) ?_
          refine s_nil ?_
          refine fin_block ?_
          refine fin_seq ?_
          refine ok_seq ?_
          refine ok_anyh (by kernel_rfl) ?_
          refine h_one 0 (by kernel_rfl) ?_
          refine hs_call [] _ (k := 11) (args := #[]) (.bool true) rfl (by kernel_rfl) (fun _ => by kernel_rfl) (fun w hO => awake6_any w (ht.on hO.below)) ?_
          refine h_take 1 [] _ (.bool true) rfl (by kernel_rfl) (by kernel_rfl) (by kernel_rfl) (pq_seq pq_body) (by kernel_rfl) (fun _ _ => by kernel_rfl) ?_
          refine h_take 2 [] _ (.pointer (some ⟨b1, 1, none⟩)) rfl (by kernel_rfl) (by kernel_rfl) (by kernel_rfl) (pq_seq pq_body) (by kernel_rfl) (fun _ _ => by kernel_rfl) ?_
          refine h_load 3 [] _ 1 ⟨b1, (coV c).cells, 26⟩ (off := 1) (.int .i64 c.parts) rfl (by kernel_rfl) (by kernel_rfl) (by kernel_rfl) (pq_seq pq_body) (by kernel_rfl) rfl (by kernel_rfl) (by kernel_rfl) (by kernel_rfl) ?_
          by_cases h12 : (c.parts : Int) < 3
          · skip
            refine h_dec 4 [] _ ((c.parts : Int) < 3) true rfl (by kernel_rfl) (by kernel_rfl) (by kernel_rfl) (pq_seq pq_body) (by kernel_rfl) (fun _ => by kernel_rfl) (decide_eq_true (h12)) ?_
            refine h_take 5 [] _ (.bool true) rfl (by kernel_rfl) (by kernel_rfl) (by kernel_rfl) (pq_seq pq_body) (by kernel_rfl) (fun _ _ => by kernel_rfl) ?_
            refine h_skip 6 [] _ rfl (by kernel_rfl) (by kernel_rfl) (by kernel_rfl) (pq_seq pq_body) (by kernel_rfl) ?_
            refine h_skip 7 [] _ rfl (by kernel_rfl) (by kernel_rfl) (by kernel_rfl) (pq_seq pq_body) (by kernel_rfl) ?_
            refine h_skip 8 [] _ rfl (by kernel_rfl) (by kernel_rfl) (by kernel_rfl) (pq_seq pq_body) (by kernel_rfl) ?_
            refine h_skip 9 [] _ rfl (by kernel_rfl) (by kernel_rfl) (by kernel_rfl) (pq_seq pq_body) (by kernel_rfl) ?_
            refine h_skip 10 [] _ rfl (by kernel_rfl) (by kernel_rfl) (by kernel_rfl) (pq_seq pq_body) (by kernel_rfl) ?_
            refine h_skip 11 [] _ rfl (by kernel_rfl) (by kernel_rfl) (by kernel_rfl) (pq_seq pq_body) (by kernel_rfl) ?_
            refine h_take 12 [] _ (.bool true) rfl (by kernel_rfl) (by kernel_rfl) (by kernel_rfl) (pq_seq pq_body) (by kernel_rfl) (fun _ _ => by kernel_rfl) ?_
            refine h_take 13 [] _ (.bool true) rfl (by kernel_rfl) (by kernel_rfl) (by kernel_rfl) (pq_seq pq_body) (by kernel_rfl) (fun _ _ => by kernel_rfl) ?_
            refine h_take 14 [] _ (.bool true) rfl (by kernel_rfl) (by kernel_rfl) (by kernel_rfl) (pq_seq pq_body) (by kernel_rfl) (fun _ _ => by kernel_rfl) ?_
            refine h_done (by kernel_rfl) ?_
            refine fin_seq ?_
            refine ok_ret ?_
            refine fin_ret (.bool true) Tryz.results7 (by kernel_rfl) ?_
            exact fun w hO => ⟨rfl, hO.below⟩
          · skip
            refine h_dec 4 [] _ ((c.parts : Int) < 3) false rfl (by kernel_rfl) (by kernel_rfl) (by kernel_rfl) (pq_seq pq_body) (by kernel_rfl) (fun _ => by kernel_rfl) (decide_eq_false (h12)) ?_
            refine h_take 5 [] _ (.bool false) rfl (by kernel_rfl) (by kernel_rfl) (by kernel_rfl) (pq_seq pq_body) (by kernel_rfl) (fun _ _ => by kernel_rfl) ?_
            refine h_load 6 [] _ 1 ⟨b1, (coV c).cells, 26⟩ (off := 0) (coV c) rfl (by kernel_rfl) (by kernel_rfl) (by kernel_rfl) (pq_seq pq_body) (by kernel_rfl) rfl (by kernel_rfl) (by kernel_rfl) (by kernel_rfl) ?_
            refine h_load 8 [] _ 0 ⟨b2, (verV u).cells, 24⟩ (off := 0) (verV u) rfl (by kernel_rfl) (by kernel_rfl) (by kernel_rfl) (pq_seq pq_body) (by kernel_rfl) rfl (by kernel_rfl) (by kernel_rfl) (by kernel_rfl) ?_
            refine h_take 10 [] _ (.bool false) rfl (by kernel_rfl) (by kernel_rfl) (by kernel_rfl) (pq_seq pq_body) (by kernel_rfl) (fun _ _ => by kernel_rfl) ?_
            refine h_one 7 (by kernel_rfl) ?_
            refine hl_callx _ (k := 19) (args := #[coV c]) (fun v' L' => ∃ ob', L' = ob' ++ ([] ++ ([⟨b2, (verV u).cells, 24⟩, ⟨b1, (coV c).cells, 26⟩])) ∧ SlS v' (c.region) ob') rfl (by kernel_rfl) (fun _ => by kernel_rfl) (fun w hO => (cRegion_any c w sc).mono fun e w' ⟨v', ob', k1, k2, k3⟩ => ⟨v', _, k1, ⟨ob', rfl, k2⟩, Own.joinN hO k3⟩) (fun v' L' ⟨ob', e, _⟩ w hO => by subst e; exact Own.sub [] (Own.sub ob' hO)) (fun v6 L2 hv2 => ?_)
            obtain ⟨o6, rfl, hr6⟩ := hv2
            obtain ⟨V6, c6, rfl⟩ := hr6.form
            refine h_cast (L' := (o6 ++ ([] : List Blk)) ++ ([⟨b2, (verV u).cells, 24⟩, ⟨b1, (coV c).cells, 26⟩])) (List.append_assoc _ _ _).symm ?_
            refine h_one 9 (by kernel_rfl) ?_
            refine hs_call (o6 ++ ([] : List Blk)) _ (k := 25) (args := #[.slice V6 ((c.region).length) c6, verV u]) (.bool false) rfl (by kernel_rfl) (fun _ => by kernel_rfl) (fun w hO => ret_b (by rw [region_order mc (by omega) (by omega) mu]; unfold ordB; simp [h9]; omega) (rrowHas_any V6 c6 c.region u w (Sl.reads hr6 rfl hO (fun x hx => by simp [hx])) (Nat.le_trans ((region_rf c)).len (by decide)) ((region_rf c)).short su)) ?_
            refine h_take 11 (o6 ++ ([] : List Blk)) _ (.bool true) rfl (by kernel_rfl) (by kernel_rfl) (by kernel_rfl) (pq_seq pq_body) (by kernel_rfl) (fun _ _ => by kernel_rfl) ?_
            refine h_take 12 (o6 ++ ([] : List Blk)) _ (.bool true) rfl (by kernel_rfl) (by kernel_rfl) (by kernel_rfl) (pq_seq pq_body) (by kernel_rfl) (fun _ _ => by kernel_rfl) ?_
            refine h_take 13 (o6 ++ ([] : List Blk)) _ (.bool true) rfl (by kernel_rfl) (by kernel_rfl) (by kernel_rfl) (pq_seq pq_body) (by kernel_rfl) (fun _ _ => by kernel_rfl) ?_
            refine h_take 14 (o6 ++ ([] : List Blk)) _ (.bool true) rfl (by kernel_rfl) (by kernel_rfl) (by kernel_rfl) (pq_seq pq_body) (by kernel_rfl) (fun _ _ => by kernel_rfl) ?_
            refine h_drop (o6 ++ ([] : List Blk)) ?_
            refine h_done (by kernel_rfl) ?_
            refine fin_seq ?_
            refine ok_ret ?_
            refine fin_ret (.bool true) Tryz.results7 (by kernel_rfl) ?_
            exact fun w hO => ⟨rfl, hO.below⟩
      · skip
        refine s_dec (p := (c.op : Int) = 3) false (by kernel_rfl) (fun _ => by kernel_rfl) (decide_eq_false (h9)) ?_
        refine s_val (.bool false) (by kernel_rfl) (fun _ => by kernel_rfl) ?_
        refine s_nil ?_
        refine fin_seq ?_
        refine ok_false (by kernel_rfl) ?_
        refine ok_seq ?_
        refine ok_region ?_
        by_cases h13 : (c.op : Int) = 4
        · skip
          refine s_dec (p := (c.op : Int) = 4) true (by kernel_rfl) (fun _ => by kernel_rfl) (decide_eq_true (h13)) ?_
          refine s_val (.bool true) (by kernel_rfl) (fun _ => by kernel_rfl) ?_
          refine s_nil ?_
          refine fin_seq ?_
          refine ok_true (by kernel_rfl) ?_
          refine ok_region ?_
          refine s_val (.int .i64 (cmpR u c.v)) (by kernel_rfl) (fun _ => by kernel_rfl) ?_
          by_cases h14 : (cmpR u c.v : Int) ≤ 0
          · skip
            refine s_dec (p := (cmpR u c.v : Int) ≤ 0) true (by kernel_rfl) (fun _ => by kernel_rfl) (decide_eq_true (h14)) ?_
            refine s_val (.bool true) (by kernel_rfl) (fun _ => by kernel_rfl) ?_
            refine s_nil ?_
            refine fin_block ?_
            refine fin_seq ?_
            refine ok_seq ?_
            refine ok_anyh (by kernel_rfl) ?_
            refine h_one 0 (by kernel_rfl) ?_
            refine hs_call [] _ (k := 11) (args := #[]) (.bool true) rfl (by kernel_rfl) (fun _ => by kernel_rfl) (fun w hO => awake6_any w (ht.on hO.below)) ?_
            refine h_take 1 [] _ (.bool true) rfl (by kernel_rfl) (by kernel_rfl) (by kernel_rfl) (pq_seq pq_body) (by kernel_rfl) (fun _ _ => by kernel_rfl) ?_
            refine h_take 2 [] _ (.pointer (some ⟨b1, 1, none⟩)) rfl (by kernel_rfl) (by kernel_rfl) (by kernel_rfl) (pq_seq pq_body) (by kernel_rfl) (fun _ _ => by kernel_rfl) ?_
            refine h_load 3 [] _ 1 ⟨b1, (coV c).cells, 26⟩ (off := 1) (.int .i64 c.parts) rfl (by kernel_rfl) (by kernel_rfl) (by kernel_rfl) (pq_seq pq_body) (by kernel_rfl) rfl (by kernel_rfl) (by kernel_rfl) (by kernel_rfl) ?_
            by_cases h15 : (c.parts : Int) < 3
            · skip
              refine h_dec 4 [] _ ((c.parts : Int) < 3) true rfl (by kernel_rfl) (by kernel_rfl) (by kernel_rfl) (pq_seq pq_body) (by kernel_rfl) (fun _ => by kernel_rfl) (decide_eq_true (h15)) ?_
              refine h_take 5 [] _ (.bool true) rfl (by kernel_rfl) (by kernel_rfl) (by kernel_rfl) (pq_seq pq_body) (by kernel_rfl) (fun _ _ => by kernel_rfl) ?_
              refine h_skip 6 [] _ rfl (by kernel_rfl) (by kernel_rfl) (by kernel_rfl) (pq_seq pq_body) (by kernel_rfl) ?_
              refine h_skip 7 [] _ rfl (by kernel_rfl) (by kernel_rfl) (by kernel_rfl) (pq_seq pq_body) (by kernel_rfl) ?_
              refine h_skip 8 [] _ rfl (by kernel_rfl) (by kernel_rfl) (by kernel_rfl) (pq_seq pq_body) (by kernel_rfl) ?_
              refine h_skip 9 [] _ rfl (by kernel_rfl) (by kernel_rfl) (by kernel_rfl) (pq_seq pq_body) (by kernel_rfl) ?_
              refine h_skip 10 [] _ rfl (by kernel_rfl) (by kernel_rfl) (by kernel_rfl) (pq_seq pq_body) (by kernel_rfl) ?_
              refine h_skip 11 [] _ rfl (by kernel_rfl) (by kernel_rfl) (by kernel_rfl) (pq_seq pq_body) (by kernel_rfl) ?_
              refine h_take 12 [] _ (.bool true) rfl (by kernel_rfl) (by kernel_rfl) (by kernel_rfl) (pq_seq pq_body) (by kernel_rfl) (fun _ _ => by kernel_rfl) ?_
              refine h_take 13 [] _ (.bool true) rfl (by kernel_rfl) (by kernel_rfl) (by kernel_rfl) (pq_seq pq_body) (by kernel_rfl) (fun _ _ => by kernel_rfl) ?_
              refine h_take 14 [] _ (.bool true) rfl (by kernel_rfl) (by kernel_rfl) (by kernel_rfl) (pq_seq pq_body) (by kernel_rfl) (fun _ _ => by kernel_rfl) ?_
              refine h_done (by kernel_rfl) ?_
              refine fin_seq ?_
              refine ok_ret ?_
              refine fin_ret (.bool true) Tryz.results7 (by kernel_rfl) ?_
              exact fun w hO => ⟨rfl, hO.below⟩
            · skip
              refine h_dec 4 [] _ ((c.parts : Int) < 3) false rfl (by kernel_rfl) (by kernel_rfl) (by kernel_rfl) (pq_seq pq_body) (by kernel_rfl) (fun _ => by kernel_rfl) (decide_eq_false (h15)) ?_
              refine h_take 5 [] _ (.bool false) rfl (by kernel_rfl) (by kernel_rfl) (by kernel_rfl) (pq_seq pq_body) (by kernel_rfl) (fun _ _ => by kernel_rfl) ?_
              refine h_load 6 [] _ 1 ⟨b1, (coV c).cells, 26⟩ (off := 0) (coV c) rfl (by kernel_rfl) (by kernel_rfl) (by kernel_rfl) (pq_seq pq_body) (by kernel_rfl) rfl (by kernel_rfl) (by kernel_rfl) (by kernel_rfl) ?_
              refine h_load 8 [] _ 0 ⟨b2, (verV u).cells, 24⟩ (off := 0) (verV u) rfl (by kernel_rfl) (by kernel_rfl) (by kernel_rfl) (pq_seq pq_body) (by kernel_rfl) rfl (by kernel_rfl) (by kernel_rfl) (by kernel_rfl) ?_
              refine h_take 10 [] _ (.bool true) rfl (by kernel_rfl) (by kernel_rfl) (by kernel_rfl) (pq_seq pq_body) (by kernel_rfl) (fun _ _ => by kernel_rfl) ?_
              refine h_one 7 (by kernel_rfl) ?_
              refine hl_callx _ (k := 19) (args := #[coV c]) (fun v' L' => ∃ ob', L' = ob' ++ ([] ++ ([⟨b2, (verV u).cells, 24⟩, ⟨b1, (coV c).cells, 26⟩])) ∧ SlS v' (c.region) ob') rfl (by kernel_rfl) (fun _ => by kernel_rfl) (fun w hO => (cRegion_any c w sc).mono fun e w' ⟨v', ob', k1, k2, k3⟩ => ⟨v', _, k1, ⟨ob', rfl, k2⟩, Own.joinN hO k3⟩) (fun v' L' ⟨ob', e, _⟩ w hO => by subst e; exact Own.sub [] (Own.sub ob' hO)) (fun v7 L2 hv2 => ?_)
              obtain ⟨o7, rfl, hr7⟩ := hv2
              obtain ⟨V7, c7, rfl⟩ := hr7.form
              refine h_cast (L' := (o7 ++ ([] : List Blk)) ++ ([⟨b2, (verV u).cells, 24⟩, ⟨b1, (coV c).cells, 26⟩])) (List.append_assoc _ _ _).symm ?_
              refine h_one 9 (by kernel_rfl) ?_
              refine hs_call (o7 ++ ([] : List Blk)) _ (k := 25) (args := #[.slice V7 ((c.region).length) c7, verV u]) (.bool true) rfl (by kernel_rfl) (fun _ => by kernel_rfl) (fun w hO => ret_b (by rw [region_order mc (by omega) (by omega) mu]; unfold ordB; simp [h13]; omega) (rrowHas_any V7 c7 c.region u w (Sl.reads hr7 rfl hO (fun x hx => by simp [hx])) (Nat.le_trans ((region_rf c)).len (by decide)) ((region_rf c)).short su)) ?_
              refine h_take 11 (o7 ++ ([] : List Blk)) _ (.bool true) rfl (by kernel_rfl) (by kernel_rfl) (by kernel_rfl) (pq_seq pq_body) (by kernel_rfl) (fun _ _ => by kernel_rfl) ?_
              refine h_take 12 (o7 ++ ([] : List Blk)) _ (.bool true) rfl (by kernel_rfl) (by kernel_rfl) (by kernel_rfl) (pq_seq pq_body) (by kernel_rfl) (fun _ _ => by kernel_rfl) ?_
              refine h_take 13 (o7 ++ ([] : List Blk)) _ (.bool true) rfl (by kernel_rfl) (by kernel_rfl) (by kernel_rfl) (pq_seq pq_body) (by kernel_rfl) (fun _ _ => by kernel_rfl) ?_
              refine h_take 14 (o7 ++ ([] : List Blk)) _ (.bool true) rfl (by kernel_rfl) (by kernel_rfl) (by kernel_rfl) (pq_seq pq_body) (by kernel_rfl) (fun _ _ => by kernel_rfl) ?_
              refine h_drop (o7 ++ ([] : List Blk)) ?_
              refine h_done (by kernel_rfl) ?_
              refine fin_seq ?_
              refine ok_ret ?_
              refine fin_ret (.bool true) Tryz.results7 (by kernel_rfl) ?_
              exact fun w hO => ⟨rfl, hO.below⟩
          · skip
            refine s_dec (p := (cmpR u c.v : Int) ≤ 0) false (by kernel_rfl) (fun _ => by kernel_rfl) (decide_eq_false (h14)) ?_
            refine s_val (.bool false) (by kernel_rfl) (fun _ => by kernel_rfl) ?_
            refine s_nil ?_
            refine fin_block ?_
            refine fin_seq ?_
            refine ok_seq ?_
            refine ok_anyh (by kernel_rfl) ?_
            refine h_one 0 (by kernel_rfl) ?_
            refine hs_call [] _ (k := 11) (args := #[]) (.bool true) rfl (by kernel_rfl) (fun _ => by kernel_rfl) (fun w hO => awake6_any w (ht.on hO.below)) ?_
            refine h_take 1 [] _ (.bool true) rfl (by kernel_rfl) (by kernel_rfl) (by kernel_rfl) (pq_seq pq_body) (by kernel_rfl) (fun _ _ => by kernel_rfl) ?_
            refine h_take 2 [] _ (.pointer (some ⟨b1, 1, none⟩)) rfl (by kernel_rfl) (by kernel_rfl) (by kernel_rfl) (pq_seq pq_body) (by kernel_rfl) (fun _ _ => by kernel_rfl) ?_
            refine h_load 3 [] _ 1 ⟨b1, (coV c).cells, 26⟩ (off := 1) (.int .i64 c.parts) rfl (by kernel_rfl) (by kernel_rfl) (by kernel_rfl) (pq_seq pq_body) (by kernel_rfl) rfl (by kernel_rfl) (by kernel_rfl) (by kernel_rfl) ?_
            by_cases h16 : (c.parts : Int) < 3
            · skip
              refine h_dec 4 [] _ ((c.parts : Int) < 3) true rfl (by kernel_rfl) (by kernel_rfl) (by kernel_rfl) (pq_seq pq_body) (by kernel_rfl) (fun _ => by kernel_rfl) (decide_eq_true (h16)) ?_
              refine h_take 5 [] _ (.bool true) rfl (by kernel_rfl) (by kernel_rfl) (by kernel_rfl) (pq_seq pq_body) (by kernel_rfl) (fun _ _ => by kernel_rfl) ?_
              refine h_skip 6 [] _ rfl (by kernel_rfl) (by kernel_rfl) (by kernel_rfl) (pq_seq pq_body) (by kernel_rfl) ?_
              refine h_skip 7 [] _ rfl (by kernel_rfl) (by kernel_rfl) (by kernel_rfl) (pq_seq pq_body) (by kernel_rfl) ?_
              refine h_skip 8 [] _ rfl (by kernel_rfl) (by kernel_rfl) (by kernel_rfl) (pq_seq pq_body) (by kernel_rfl) ?_
              refine h_skip 9 [] _ rfl (by kernel_rfl) (by kernel_rfl) (by kernel_rfl) (pq_seq pq_body) (by kernel_rfl) ?_
              refine h_skip 10 [] _ rfl (by kernel_rfl) (by kernel_rfl) (by kernel_rfl) (pq_seq pq_body) (by kernel_rfl) ?_
              refine h_skip 11 [] _ rfl (by kernel_rfl) (by kernel_rfl) (by kernel_rfl) (pq_seq pq_body) (by kernel_rfl) ?_
              refine h_take 12 [] _ (.bool true) rfl (by kernel_rfl) (by kernel_rfl) (by kernel_rfl) (pq_seq pq_body) (by kernel_rfl) (fun _ _ => by kernel_rfl) ?_
              refine h_take 13 [] _ (.bool true) rfl (by kernel_rfl) (by kernel_rfl) (by kernel_rfl) (pq_seq pq_body) (by kernel_rfl) (fun _ _ => by kernel_rfl) ?_
              refine h_take 14 [] _ (.bool true) rfl (by kernel_rfl) (by kernel_rfl) (by kernel_rfl) (pq_seq pq_body) (by kernel_rfl) (fun _ _ => by kernel_rfl) ?_
              refine h_done (by kernel_rfl) ?_
              refine fin_seq ?_
              refine ok_ret ?_
              refine fin_ret (.bool true) Tryz.results7 (by kernel_rfl) ?_
              exact fun w hO => ⟨rfl, hO.below⟩
            · skip
              refine h_dec 4 [] _ ((c.parts : Int) < 3) false rfl (by kernel_rfl) (by kernel_rfl) (by kernel_rfl) (pq_seq pq_body) (by kernel_rfl) (fun _ => by kernel_rfl) (decide_eq_false (h16)) ?_
              refine h_take 5 [] _ (.bool false) rfl (by kernel_rfl) (by kernel_rfl) (by kernel_rfl) (pq_seq pq_body) (by kernel_rfl) (fun _ _ => by kernel_rfl) ?_
              refine h_load 6 [] _ 1 ⟨b1, (coV c).cells, 26⟩ (off := 0) (coV c) rfl (by kernel_rfl) (by kernel_rfl) (by kernel_rfl) (pq_seq pq_body) (by kernel_rfl) rfl (by kernel_rfl) (by kernel_rfl) (by kernel_rfl) ?_
              refine h_load 8 [] _ 0 ⟨b2, (verV u).cells, 24⟩ (off := 0) (verV u) rfl (by kernel_rfl) (by kernel_rfl) (by kernel_rfl) (pq_seq pq_body) (by kernel_rfl) rfl (by kernel_rfl) (by kernel_rfl) (by kernel_rfl) ?_
              refine h_take 10 [] _ (.bool false) rfl (by kernel_rfl) (by kernel_rfl) (by kernel_rfl) (pq_seq pq_body) (by kernel_rfl) (fun _ _ => by kernel_rfl) ?_
              refine h_one 7 (by kernel_rfl) ?_
              refine hl_callx _ (k := 19) (args := #[coV c]) (fun v' L' => ∃ ob', L' = ob' ++ ([] ++ ([⟨b2, (verV u).cells, 24⟩, ⟨b1, (coV c).cells, 26⟩])) ∧ SlS v' (c.region) ob') rfl (by kernel_rfl) (fun _ => by kernel_rfl) (fun w hO => (cRegion_any c w sc).mono fun e w' ⟨v', ob', k1, k2, k3⟩ => ⟨v', _, k1, ⟨ob', rfl, k2⟩, Own.joinN hO k3⟩) (fun v' L' ⟨ob', e, _⟩ w hO => by subst e; exact Own.sub [] (Own.sub ob' hO)) (fun v8 L2 hv2 => ?_)
              obtain ⟨o8, rfl, hr8⟩ := hv2
              obtain ⟨V8, c8, rfl⟩ := hr8.form
              refine h_cast (L' := (o8 ++ ([] : List Blk)) ++ ([⟨b2, (verV u).cells, 24⟩, ⟨b1, (coV c).cells, 26⟩])) (List.append_assoc _ _ _).symm ?_
              refine h_one 9 (by kernel_rfl) ?_
              refine hs_call (o8 ++ ([] : List Blk)) _ (k := 25) (args := #[.slice V8 ((c.region).length) c8, verV u]) (.bool false) rfl (by kernel_rfl) (fun _ => by kernel_rfl) (fun w hO => ret_b (by rw [region_order mc (by omega) (by omega) mu]; unfold ordB; simp [h13]; omega) (rrowHas_any V8 c8 c.region u w (Sl.reads hr8 rfl hO (fun x hx => by simp [hx])) (Nat.le_trans ((region_rf c)).len (by decide)) ((region_rf c)).short su)) ?_
              refine h_take 11 (o8 ++ ([] : List Blk)) _ (.bool true) rfl (by kernel_rfl) (by kernel_rfl) (by kernel_rfl) (pq_seq pq_body) (by kernel_rfl) (fun _ _ => by kernel_rfl) ?_
              refine h_take 12 (o8 ++ ([] : List Blk)) _ (.bool true) rfl (by kernel_rfl) (by kernel_rfl) (by kernel_rfl) (pq_seq pq_body) (by kernel_rfl) (fun _ _ => by kernel_rfl) ?_
              refine h_take 13 (o8 ++ ([] : List Blk)) _ (.bool true) rfl (by kernel_rfl) (by kernel_rfl) (by kernel_rfl) (pq_seq pq_body) (by kernel_rfl) (fun _ _ => by kernel_rfl) ?_
              refine h_take 14 (o8 ++ ([] : List Blk)) _ (.bool true) rfl (by kernel_rfl) (by kernel_rfl) (by kernel_rfl) (pq_seq pq_body) (by kernel_rfl) (fun _ _ => by kernel_rfl) ?_
              refine h_drop (o8 ++ ([] : List Blk)) ?_
              refine h_done (by kernel_rfl) ?_
              refine fin_seq ?_
              refine ok_ret ?_
              refine fin_ret (.bool true) Tryz.results7 (by kernel_rfl) ?_
              exact fun w hO => ⟨rfl, hO.below⟩
        · skip
          refine s_dec (p := (c.op : Int) = 4) false (by kernel_rfl) (fun _ => by kernel_rfl) (decide_eq_false (h13)) ?_
          refine s_val (.bool false) (by kernel_rfl) (fun _ => by kernel_rfl) ?_
          refine s_nil ?_
          refine fin_seq ?_
          refine ok_false (by kernel_rfl) ?_
          refine ok_seq ?_
          refine ok_region ?_
          by_cases h17 : (c.op : Int) = 5
          · skip
            refine s_dec (p := (c.op : Int) = 5) true (by kernel_rfl) (fun _ => by kernel_rfl) (decide_eq_true (h17)) ?_
            refine s_val (.bool true) (by kernel_rfl) (fun _ => by kernel_rfl) ?_
            refine s_nil ?_
            refine fin_seq ?_
            refine ok_true (by kernel_rfl) ?_
            refine ok_region ?_
            refine s_val (.int .i64 (cmpR u c.v)) (by kernel_rfl) (fun _ => by kernel_rfl) ?_
            by_cases h18 : (0 : Int) < cmpR u c.v
            · skip
              refine s_dec (p := (0 : Int) < cmpR u c.v) true (by kernel_rfl) (fun _ => by kernel_rfl) (decide_eq_true (h18)) ?_
              refine s_val (.bool true) (by kernel_rfl) (fun _ => by kernel_rfl) ?_
              refine s_nil ?_
              refine fin_block ?_
              refine fin_seq ?_
              refine ok_seq ?_
              refine ok_anyh (by kernel_rfl) ?_
              refine h_one 0 (by kernel_rfl) ?_
              refine hs_call [] _ (k := 11) (args := #[]) (.bool true) rfl (by kernel_rfl) (fun _ => by kernel_rfl) (fun w hO => awake6_any w (ht.on hO.below)) ?_
              refine h_take 1 [] _ (.bool true) rfl (by kernel_rfl) (by kernel_rfl) (by kernel_rfl) (pq_seq pq_body) (by kernel_rfl) (fun _ _ => by kernel_rfl) ?_
              refine h_take 2 [] _ (.pointer (some ⟨b1, 1, none⟩)) rfl (by kernel_rfl) (by kernel_rfl) (by kernel_rfl) (pq_seq pq_body) (by kernel_rfl) (fun _ _ => by kernel_rfl) ?_
              refine h_load 3 [] _ 1 ⟨b1, (coV c).cells, 26⟩ (off := 1) (.int .i64 c.parts) rfl (by kernel_rfl) (by kernel_rfl) (by kernel_rfl) (pq_seq pq_body) (by kernel_rfl) rfl (by kernel_rfl) (by kernel_rfl) (by kernel_rfl) ?_
              by_cases h19 : (c.parts : Int) < 3
              · skip
                refine h_dec 4 [] _ ((c.parts : Int) < 3) true rfl (by kernel_rfl) (by kernel_rfl) (by kernel_rfl) (pq_seq pq_body) (by kernel_rfl) (fun _ => by kernel_rfl) (decide_eq_true (h19)) ?_
                refine h_take 5 [] _ (.bool true) rfl (by kernel_rfl) (by kernel_rfl) (by kernel_rfl) (pq_seq pq_body) (by kernel_rfl) (fun _ _ => by kernel_rfl) ?_
                refine h_skip 6 [] _ rfl (by kernel_rfl) (by kernel_rfl) (by kernel_rfl) (pq_seq pq_body) (by kernel_rfl) ?_
                refine h_skip 7 [] _ rfl (by kernel_rfl) (by kernel_rfl) (by kernel_rfl) (pq_seq pq_body) (by kernel_rfl) ?_
                refine h_skip 8 [] _ rfl (by kernel_rfl) (by kernel_rfl) (by kernel_rfl) (pq_seq pq_body) (by kernel_rfl) ?_
                refine h_skip 9 [] _ rfl (by kernel_rfl) (by kernel_rfl) (by kernel_rfl) (pq_seq pq_body) (by kernel_rfl) ?_
                refine h_skip 10 [] _ rfl (by kernel_rfl) (by kernel_rfl) (by kernel_rfl) (pq_seq pq_body) (by kernel_rfl) ?_
                refine h_skip 11 [] _ rfl (by kernel_rfl) (by kernel_rfl) (by kernel_rfl) (pq_seq pq_body) (by kernel_rfl) ?_
                refine h_take 12 [] _ (.bool true) rfl (by kernel_rfl) (by kernel_rfl) (by kernel_rfl) (pq_seq pq_body) (by kernel_rfl) (fun _ _ => by kernel_rfl) ?_
                refine h_take 13 [] _ (.bool true) rfl (by kernel_rfl) (by kernel_rfl) (by kernel_rfl) (pq_seq pq_body) (by kernel_rfl) (fun _ _ => by kernel_rfl) ?_
                refine h_take 14 [] _ (.bool true) rfl (by kernel_rfl) (by kernel_rfl) (by kernel_rfl) (pq_seq pq_body) (by kernel_rfl) (fun _ _ => by kernel_rfl) ?_
                refine h_done (by kernel_rfl) ?_
                refine fin_seq ?_
                refine ok_ret ?_
                refine fin_ret (.bool true) Tryz.results7 (by kernel_rfl) ?_
                exact fun w hO => ⟨rfl, hO.below⟩
              · skip
                refine h_dec 4 [] _ ((c.parts : Int) < 3) false rfl (by kernel_rfl) (by kernel_rfl) (by kernel_rfl) (pq_seq pq_body) (by kernel_rfl) (fun _ => by kernel_rfl) (decide_eq_false (h19)) ?_
                refine h_take 5 [] _ (.bool false) rfl (by kernel_rfl) (by kernel_rfl) (by kernel_rfl) (pq_seq pq_body) (by kernel_rfl) (fun _ _ => by kernel_rfl) ?_
                refine h_load 6 [] _ 1 ⟨b1, (coV c).cells, 26⟩ (off := 0) (coV c) rfl (by kernel_rfl) (by kernel_rfl) (by kernel_rfl) (pq_seq pq_body) (by kernel_rfl) rfl (by kernel_rfl) (by kernel_rfl) (by kernel_rfl) ?_
                refine h_load 8 [] _ 0 ⟨b2, (verV u).cells, 24⟩ (off := 0) (verV u) rfl (by kernel_rfl) (by kernel_rfl) (by kernel_rfl) (pq_seq pq_body) (by kernel_rfl) rfl (by kernel_rfl) (by kernel_rfl) (by kernel_rfl) ?_
                refine h_take 10 [] _ (.bool true) rfl (by kernel_rfl) (by kernel_rfl) (by kernel_rfl) (pq_seq pq_body) (by kernel_rfl) (fun _ _ => by kernel_rfl) ?_
                refine h_one 7 (by kernel_rfl) ?_
                refine hl_callx _ (k := 19) (args := #[coV c]) (fun v' L' => ∃ ob', L' = ob' ++ ([] ++ ([⟨b2, (verV u).cells, 24⟩, ⟨b1, (coV c).cells, 26⟩])) ∧ SlS v' (c.region) ob') rfl (by kernel_rfl) (fun _ => by kernel_rfl) (fun w hO => (cRegion_any c w sc).mono fun e w' ⟨v', ob', k1, k2, k3⟩ => ⟨v', _, k1, ⟨ob', rfl, k2⟩, Own.joinN hO k3⟩) (fun v' L' ⟨ob', e, _⟩ w hO => by subst e; exact Own.sub [] (Own.sub ob' hO)) (fun v9 L2 hv2 => ?_)
                obtain ⟨o9, rfl, hr9⟩ := hv2
                obtain ⟨V9, c9, rfl⟩ := hr9.form
                refine h_cast (L' := (o9 ++ ([] : List Blk)) ++ ([⟨b2, (verV u).cells, 24⟩, ⟨b1, (coV c).cells, 26⟩])) (List.append_assoc _ _ _).symm ?_
                refine h_one 9 (by kernel_rfl) ?_
                refine hs_call (o9 ++ ([] : List Blk)) _ (k := 25) (args := #[.slice V9 ((c.region).length) c9, verV u]) (.bool true) rfl (by kernel_rfl) (fun _ => by kernel_rfl) (fun w hO => ret_b (by rw [region_order mc (by omega) (by omega) mu]; unfold ordB; simp [h17]; omega) (rrowHas_any V9 c9 c.region u w (Sl.reads hr9 rfl hO (fun x hx => by simp [hx])) (Nat.le_trans ((region_rf c)).len (by decide)) ((region_rf c)).short su)) ?_
                refine h_take 11 (o9 ++ ([] : List Blk)) _ (.bool true) rfl (by kernel_rfl) (by kernel_rfl) (by kernel_rfl) (pq_seq pq_body) (by kernel_rfl) (fun _ _ => by kernel_rfl) ?_
                refine h_take 12 (o9 ++ ([] : List Blk)) _ (.bool true) rfl (by kernel_rfl) (by kernel_rfl) (by kernel_rfl) (pq_seq pq_body) (by kernel_rfl) (fun _ _ => by kernel_rfl) ?_
                refine h_take 13 (o9 ++ ([] : List Blk)) _ (.bool true) rfl (by kernel_rfl) (by kernel_rfl) (by kernel_rfl) (pq_seq pq_body) (by kernel_rfl) (fun _ _ => by kernel_rfl) ?_
                refine h_take 14 (o9 ++ ([] : List Blk)) _ (.bool true) rfl (by kernel_rfl) (by kernel_rfl) (by kernel_rfl) (pq_seq pq_body) (by kernel_rfl) (fun _ _ => by kernel_rfl) ?_
                refine h_drop (o9 ++ ([] : List Blk)) ?_
                refine h_done (by kernel_rfl) ?_
                refine fin_seq ?_
                refine ok_ret ?_
                refine fin_ret (.bool true) Tryz.results7 (by kernel_rfl) ?_
                exact fun w hO => ⟨rfl, hO.below⟩
            · skip
              refine s_dec (p := (0 : Int) < cmpR u c.v) false (by kernel_rfl) (fun _ => by kernel_rfl) (decide_eq_false (h18)) ?_
              refine s_val (.bool false) (by kernel_rfl) (fun _ => by kernel_rfl) ?_
              refine s_nil ?_
              refine fin_block ?_
              refine fin_seq ?_
              refine ok_seq ?_
              refine ok_anyh (by kernel_rfl) ?_
              refine h_one 0 (by kernel_rfl) ?_
              refine hs_call [] _ (k := 11) (args := #[]) (.bool true) rfl (by kernel_rfl) (fun _ => by kernel_rfl) (fun w hO => awake6_any w (ht.on hO.below)) ?_
              refine h_take 1 [] _ (.bool true) rfl (by kernel_rfl) (by kernel_rfl) (by kernel_rfl) (pq_seq pq_body) (by kernel_rfl) (fun _ _ => by kernel_rfl) ?_
              refine h_take 2 [] _ (.pointer (some ⟨b1, 1, none⟩)) rfl (by kernel_rfl) (by kernel_rfl) (by kernel_rfl) (pq_seq pq_body) (by kernel_rfl) (fun _ _ => by kernel_rfl) ?_
              refine h_load 3 [] _ 1 ⟨b1, (coV c).cells, 26⟩ (off := 1) (.int .i64 c.parts) rfl (by kernel_rfl) (by kernel_rfl) (by kernel_rfl) (pq_seq pq_body) (by kernel_rfl) rfl (by kernel_rfl) (by kernel_rfl) (by kernel_rfl) ?_
              by_cases h20 : (c.parts : Int) < 3
              · skip
                refine h_dec 4 [] _ ((c.parts : Int) < 3) true rfl (by kernel_rfl) (by kernel_rfl) (by kernel_rfl) (pq_seq pq_body) (by kernel_rfl) (fun _ => by kernel_rfl) (decide_eq_true (h20)) ?_
                refine h_take 5 [] _ (.bool true) rfl (by kernel_rfl) (by kernel_rfl) (by kernel_rfl) (pq_seq pq_body) (by kernel_rfl) (fun _ _ => by kernel_rfl) ?_
                refine h_skip 6 [] _ rfl (by kernel_rfl) (by kernel_rfl) (by kernel_rfl) (pq_seq pq_body) (by kernel_rfl) ?_
                refine h_skip 7 [] _ rfl (by kernel_rfl) (by kernel_rfl) (by kernel_rfl) (pq_seq pq_body) (by kernel_rfl) ?_
                refine h_skip 8 [] _ rfl (by kernel_rfl) (by kernel_rfl) (by kernel_rfl) (pq_seq pq_body) (by kernel_rfl) ?_
                refine h_skip 9 [] _ rfl (by kernel_rfl) (by kernel_rfl) (by kernel_rfl) (pq_seq pq_body) (by kernel_rfl) ?_
                refine h_skip 10 [] _ rfl (by kernel_rfl) (by kernel_rfl) (by kernel_rfl) (pq_seq pq_body) (by kernel_rfl) ?_
                refine h_skip 11 [] _ rfl (by kernel_rfl) (by kernel_rfl) (by kernel_rfl) (pq_seq pq_body) (by kernel_rfl) ?_
                refine h_take 12 [] _ (.bool true) rfl (by kernel_rfl) (by kernel_rfl) (by kernel_rfl) (pq_seq pq_body) (by kernel_rfl) (fun _ _ => by kernel_rfl) ?_
                refine h_take 13 [] _ (.bool true) rfl (by kernel_rfl) (by kernel_rfl) (by kernel_rfl) (pq_seq pq_body) (by kernel_rfl) (fun _ _ => by kernel_rfl) ?_
                refine h_take 14 [] _ (.bool true) rfl (by kernel_rfl) (by kernel_rfl) (by kernel_rfl) (pq_seq pq_body) (by kernel_rfl) (fun _ _ => by kernel_rfl) ?_
                refine h_done (by kernel_rfl) ?_
                refine fin_seq ?_
                refine ok_ret ?_
                refine fin_ret (.bool true) Tryz.results7 (by kernel_rfl) ?_
                exact fun w hO => ⟨rfl, hO.below⟩
              · skip
                refine h_dec 4 [] _ ((c.parts : Int) < 3) false rfl (by kernel_rfl) (by kernel_rfl) (by kernel_rfl) (pq_seq pq_body) (by kernel_rfl) (fun _ => by kernel_rfl) (decide_eq_false (h20)) ?_
                refine h_take 5 [] _ (.bool false) rfl (by kernel_rfl) (by kernel_rfl) (by kernel_rfl) (pq_seq pq_body) (by kernel_rfl) (fun _ _ => by kernel_rfl) ?_
                refine h_load 6 [] _ 1 ⟨b1, (coV c).cells, 26⟩ (off := 0) (coV c) rfl (by kernel_rfl) (by kernel_rfl) (by kernel_rfl) (pq_seq pq_body) (by kernel_rfl) rfl (by kernel_rfl) (by kernel_rfl) (by kernel_rfl) ?_
                refine h_load 8 [] _ 0 ⟨b2, (verV u).cells, 24⟩ (off := 0) (verV u) rfl (by kernel_rfl) (by kernel_rfl) (by kernel_rfl) (pq_seq pq_body) (by kernel_rfl) rfl (by kernel_rfl) (by kernel_rfl) (by kernel_rfl) ?_
                refine h_take 10 [] _ (.bool false) rfl (by kernel_rfl) (by kernel_rfl) (by kernel_rfl) (pq_seq pq_body) (by kernel_rfl) (fun _ _ => by kernel_rfl) ?_
                refine h_one 7 (by kernel_rfl) ?_
                refine hl_callx _ (k := 19) (args := #[coV c]) (fun v' L' => ∃ ob', L' = ob' ++ ([] ++ ([⟨b2, (verV u).cells, 24⟩, ⟨b1, (coV c).cells, 26⟩])) ∧ SlS v' (c.region) ob') rfl (by kernel_rfl) (fun _ => by kernel_rfl) (fun w hO => (cRegion_any c w sc).mono fun e w' ⟨v', ob', k1, k2, k3⟩ => ⟨v', _, k1, ⟨ob', rfl, k2⟩, Own.joinN hO k3⟩) (fun v' L' ⟨ob', e, _⟩ w hO => by subst e; exact Own.sub [] (Own.sub ob' hO)) (fun v10 L2 hv2 => ?_)
                obtain ⟨o10, rfl, hr10⟩ := hv2
                obtain ⟨V10, c10, rfl⟩ := hr10.form
                refine h_cast (L' := (o10 ++ ([] : List Blk)) ++ ([⟨b2, (verV u).cells, 24⟩, ⟨b1, (coV c).cells, 26⟩])) (List.append_assoc _ _ _).symm ?_
                refine h_one 9 (by kernel_rfl) ?_
                refine hs_call (o10 ++ ([] : List Blk)) _ (k := 25) (args := #[.slice V10 ((c.region).length) c10, verV u]) (.bool false) rfl (by kernel_rfl) (fun _ => by kernel_rfl) (fun w hO => ret_b (by rw [region_order mc (by omega) (by omega) mu]; unfold ordB; simp [h17]; omega) (rrowHas_any V10 c10 c.region u w (Sl.reads hr10 rfl hO (fun x hx => by simp [hx])) (Nat.le_trans ((region_rf c)).len (by decide)) ((region_rf c)).short su)) ?_
                refine h_take 11 (o10 ++ ([] : List Blk)) _ (.bool true) rfl (by kernel_rfl) (by kernel_rfl) (by kernel_rfl) (pq_seq pq_body) (by kernel_rfl) (fun _ _ => by kernel_rfl) ?_
                refine h_take 12 (o10 ++ ([] : List Blk)) _ (.bool true) rfl (by kernel_rfl) (by kernel_rfl) (by kernel_rfl) (pq_seq pq_body) (by kernel_rfl) (fun _ _ => by kernel_rfl) ?_
                refine h_take 13 (o10 ++ ([] : List Blk)) _ (.bool true) rfl (by kernel_rfl) (by kernel_rfl) (by kernel_rfl) (pq_seq pq_body) (by kernel_rfl) (fun _ _ => by kernel_rfl) ?_
                refine h_take 14 (o10 ++ ([] : List Blk)) _ (.bool true) rfl (by kernel_rfl) (by kernel_rfl) (by kernel_rfl) (pq_seq pq_body) (by kernel_rfl) (fun _ _ => by kernel_rfl) ?_
                refine h_drop (o10 ++ ([] : List Blk)) ?_
                refine h_done (by kernel_rfl) ?_
                refine fin_seq ?_
                refine ok_ret ?_
                refine fin_ret (.bool true) Tryz.results7 (by kernel_rfl) ?_
                exact fun w hO => ⟨rfl, hO.below⟩
          · skip
            refine s_dec (p := (c.op : Int) = 5) false (by kernel_rfl) (fun _ => by kernel_rfl) (decide_eq_false (h17)) ?_
            refine s_val (.bool false) (by kernel_rfl) (fun _ => by kernel_rfl) ?_
            refine s_nil ?_
            refine fin_seq ?_
            refine ok_false (by kernel_rfl) ?_
            refine ok_seq ?_
            refine ok_region ?_
            by_cases h21 : (c.op : Int) = 6
            · skip
              refine s_dec (p := (c.op : Int) = 6) true (by kernel_rfl) (fun _ => by kernel_rfl) (decide_eq_true (h21)) ?_
              refine s_val (.bool true) (by kernel_rfl) (fun _ => by kernel_rfl) ?_
              refine s_nil ?_
              refine fin_seq ?_
              refine ok_true (by kernel_rfl) ?_
              refine ok_region ?_
              refine s_val (.int .i64 (cmpR u c.v)) (by kernel_rfl) (fun _ => by kernel_rfl) ?_
              by_cases h22 : (0 : Int) ≤ cmpR u c.v
              · skip
                refine s_dec (p := (0 : Int) ≤ cmpR u c.v) true (by kernel_rfl) (fun _ => by kernel_rfl) (decide_eq_true (h22)) ?_
                refine s_val (.bool true) (by kernel_rfl) (fun _ => by kernel_rfl) ?_
                refine s_nil ?_
                refine fin_block ?_
                refine fin_seq ?_
                refine ok_seq ?_
                refine ok_anyh (by kernel_rfl) ?_
                refine h_one 0 (by kernel_rfl) ?_
                refine hs_call [] _ (k := 11) (args := #[]) (.bool true) rfl (by kernel_rfl) (fun _ => by kernel_rfl) (fun w hO => awake6_any w (ht.on hO.below)) ?_
                refine h_take 1 [] _ (.bool true) rfl (by kernel_rfl) (by kernel_rfl) (by kernel_rfl) (pq_seq pq_body) (by kernel_rfl) (fun _ _ => by kernel_rfl) ?_
                refine h_take 2 [] _ (.pointer (some ⟨b1, 1, none⟩)) rfl (by kernel_rfl) (by kernel_rfl) (by kernel_rfl) (pq_seq pq_body) (by kernel_rfl) (fun _ _ => by kernel_rfl) ?_
                refine h_load 3 [] _ 1 ⟨b1, (coV c).cells, 26⟩ (off := 1) (.int .i64 c.parts) rfl (by kernel_rfl) (by kernel_rfl) (by kernel_rfl) (pq_seq pq_body) (by kernel_rfl) rfl (by kernel_rfl) (by kernel_rfl) (by kernel_rfl) ?_
                by_cases h23 : (c.parts : Int) < 3
                · skip
                  refine h_dec 4 [] _ ((c.parts : Int) < 3) true rfl (by kernel_rfl) (by kernel_rfl) (by kernel_rfl) (pq_seq pq_body) (by kernel_rfl) (fun _ => by kernel_rfl) (decide_eq_true (h23)) ?_
                  refine h_take 5 [] _ (.bool true) rfl (by kernel_rfl) (by kernel_rfl) (by kernel_rfl) (pq_seq pq_body) (by kernel_rfl) (fun _ _ => by kernel_rfl) ?_
                  refine h_skip 6 [] _ rfl (by kernel_rfl) (by kernel_rfl) (by kernel_rfl) (pq_seq pq_body) (by kernel_rfl) ?_
                  refine h_skip 7 [] _ rfl (by kernel_rfl) (by kernel_rfl) (by kernel_rfl) (pq_seq pq_body) (by kernel_rfl) ?_
                  refine h_skip 8 [] _ rfl (by kernel_rfl) (by kernel_rfl) (by kernel_rfl) (pq_seq pq_body) (by kernel_rfl) ?_
                  refine h_skip 9 [] _ rfl (by kernel_rfl) (by kernel_rfl) (by kernel_rfl) (pq_seq pq_body) (by kernel_rfl) ?_
                  refine h_skip 10 [] _ rfl (by kernel_rfl) (by kernel_rfl) (by kernel_rfl) (pq_seq pq_body) (by kernel_rfl) ?_
                  refine h_skip 11 [] _ rfl (by kernel_rfl) (by kernel_rfl) (by kernel_rfl) (pq_seq pq_body) (by kernel_rfl) ?_
                  refine h_take 12 [] _ (.bool true) rfl (by kernel_rfl) (by kernel_rfl) (by kernel_rfl) (pq_seq pq_body) (by kernel_rfl) (fun _ _ => by kernel_rfl) ?_
                  refine h_take 13 [] _ (.bool true) rfl (by kernel_rfl) (by kernel_rfl) (by kernel_rfl) (pq_seq pq_body) (by kernel_rfl) (fun _ _ => by kernel_rfl) ?_
                  refine h_take 14 [] _ (.bool true) rfl (by kernel_rfl) (by kernel_rfl) (by kernel_rfl) (pq_seq pq_body) (by kernel_rfl) (fun _ _ => by kernel_rfl) ?_
                  refine h_done (by kernel_rfl) ?_
                  refine fin_seq ?_
                  refine ok_ret ?_
                  refine fin_ret (.bool true) Tryz.results7 (by kernel_rfl) ?_
                  exact fun w hO => ⟨rfl, hO.below⟩
                · skip
                  refine h_dec 4 [] _ ((c.parts : Int) < 3) false rfl (by kernel_rfl) (by kernel_rfl) (by kernel_rfl) (pq_seq pq_body) (by kernel_rfl) (fun _ => by kernel_rfl) (decide_eq_false (h23)) ?_
                  refine h_take 5 [] _ (.bool false) rfl (by kernel_rfl) (by kernel_rfl) (by kernel_rfl) (pq_seq pq_body) (by kernel_rfl) (fun _ _ => by kernel_rfl) ?_
                  refine h_load 6 [] _ 1 ⟨b1, (coV c).cells, 26⟩ (off := 0) (coV c) rfl (by kernel_rfl) (by kernel_rfl) (by kernel_rfl) (pq_seq pq_body) (by kernel_rfl) rfl (by kernel_rfl) (by kernel_rfl) (by kernel_rfl) ?_
                  refine h_load 8 [] _ 0 ⟨b2, (verV u).cells, 24⟩ (off := 0) (verV u) rfl (by kernel_rfl) (by kernel_rfl) (by kernel_rfl) (pq_seq pq_body) (by kernel_rfl) rfl (by kernel_rfl) (by kernel_rfl) (by kernel_rfl) ?_
                  refine h_take 10 [] _ (.bool true) rfl (by kernel_rfl) (by kernel_rfl) (by kernel_rfl) (pq_seq pq_body) (by kernel_rfl) (fun _ _ => by kernel_rfl) ?_
                  refine h_one 7 (by kernel_rfl) ?_
                  refine hl_callx _ (k := 19) (args := #[coV c]) (fun v' L' => ∃ ob', L' = ob' ++ ([] ++ ([⟨b2, (verV u).cells, 24⟩, ⟨b1, (coV c).cells, 26⟩])) ∧ SlS v' (c.region) ob') rfl (by kernel_rfl) (fun _ => by kernel_rfl) (fun w hO => (cRegion_any c w sc).mono fun e w' ⟨v', ob', k1, k2, k3⟩ => ⟨v', _, k1, ⟨ob', rfl, k2⟩, Own.joinN hO k3⟩) (fun v' L' ⟨ob', e, _⟩ w hO => by subst e; exact Own.sub [] (Own.sub ob' hO)) (fun v11 L2 hv2 => ?_)
                  obtain ⟨o11, rfl, hr11⟩ := hv2
                  obtain ⟨V11, c11, rfl⟩ := hr11.form
                  refine h_cast (L' := (o11 ++ ([] : List Blk)) ++ ([⟨b2, (verV u).cells, 24⟩, ⟨b1, (coV c).cells, 26⟩])) (List.append_assoc _ _ _).symm ?_
                  refine h_one 9 (by kernel_rfl) ?_
                  refine hs_call (o11 ++ ([] : List Blk)) _ (k := 25) (args := #[.slice V11 ((c.region).length) c11, verV u]) (.bool true) rfl (by kernel_rfl) (fun _ => by kernel_rfl) (fun w hO => ret_b (by rw [region_order mc (by omega) (by omega) mu]; unfold ordB; simp [h21]; omega) (rrowHas_any V11 c11 c.region u w (Sl.reads hr11 rfl hO (fun x hx => by simp [hx])) (Nat.le_trans ((region_rf c)).len (by decide)) ((region_rf c)).short su)) ?_
                  refine h_take 11 (o11 ++ ([] : List Blk)) _ (.bool true) rfl (by kernel_rfl) (by kernel_rfl) (by kernel_rfl) (pq_seq pq_body) (by kernel_rfl) (fun _ _ => by kernel_rfl) ?_
                  refine h_take 12 (o11 ++ ([] : List Blk)) _ (.bool true) rfl (by kernel_rfl) (by kernel_rfl) (by kernel_rfl) (pq_seq pq_body) (by kernel_rfl) (fun _ _ => by kernel_rfl) ?_
                  refine h_take 13 (o11 ++ ([] : List Blk)) _ (.bool true) rfl (by kernel_rfl) (by kernel_rfl) (by kernel_rfl) (pq_seq pq_body) (by kernel_rfl) (fun _ _ => by kernel_rfl) ?_
                  refine h_take 14 (o11 ++ ([] : List Blk)) _ (.bool true) rfl (by kernel_rfl) (by kernel_rfl) (by kernel_rfl) (pq_seq pq_body) (by kernel_rfl) (fun _ _ => by kernel_rfl) ?_
                  refine h_drop (o11 ++ ([] : List Blk)) ?_
                  refine h_done (by kernel_rfl) ?_
                  refine fin_seq ?_
                  refine ok_ret ?_
                  refine fin_ret (.bool true) Tryz.results7 (by kernel_rfl) ?_
                  exact fun w hO => ⟨rfl, hO.below⟩
              · skip
                refine s_dec (p := (0 : Int) ≤ cmpR u c.v) false (by kernel_rfl) (fun _ => by kernel_rfl) (decide_eq_false (h22)) ?_
                refine s_val (.bool false) (by kernel_rfl) (fun _ => by kernel_rfl) ?_
                refine s_nil ?_
                refine fin_block ?_
                refine fin_seq ?_
                refine ok_seq ?_
                refine ok_anyh (by kernel_rfl) ?_
                refine h_one 0 (by kernel_rfl) ?_
                refine hs_call [] _ (k := 11) (args := #[]) (.bool true) rfl (by kernel_rfl) (fun _ => by kernel_rfl) (fun w hO => awake6_any w (ht.on hO.below)) ?_
                refine h_take 1 [] _ (.bool true) rfl (by kernel_rfl) (by kernel_rfl) (by kernel_rfl) (pq_seq pq_body) (by kernel_rfl) (fun _ _ => by kernel_rfl) ?_
                refine h_take 2 [] _ (.pointer (some ⟨b1, 1, none⟩)) rfl (by kernel_rfl) (by kernel_rfl) (by kernel_rfl) (pq_seq pq_body) (by kernel_rfl) (fun _ _ => by kernel_rfl) ?_
                refine h_load 3 [] _ 1 ⟨b1, (coV c).cells, 26⟩ (off := 1) (.int .i64 c.parts) rfl (by kernel_rfl) (by kernel_rfl) (by kernel_rfl) (pq_seq pq_body) (by kernel_rfl) rfl (by kernel_rfl) (by kernel_rfl) (by kernel_rfl) ?_
                by_cases h24 : (c.parts : Int) < 3
                · skip
                  refine h_dec 4 [] _ ((c.parts : Int) < 3) true rfl (by kernel_rfl) (by kernel_rfl) (by kernel_rfl) (pq_seq pq_body) (by kernel_rfl) (fun _ => by kernel_rfl) (decide_eq_true (h24)) ?_
                  refine h_take 5 [] _ (.bool true) rfl (by kernel_rfl) (by kernel_rfl) (by kernel_rfl) (pq_seq pq_body) (by kernel_rfl) (fun _ _ => by kernel_rfl) ?_
                  refine h_skip 6 [] _ rfl (by kernel_rfl) (by kernel_rfl) (by kernel_rfl) (pq_seq pq_body) (by kernel_rfl) ?_
                  refine h_skip 7 [] _ rfl (by kernel_rfl) (by kernel_rfl) (by kernel_rfl) (pq_seq pq_body) (by kernel_rfl) ?_
                  refine h_skip 8 [] _ rfl (by kernel_rfl) (by kernel_rfl) (by kernel_rfl) (pq_seq pq_body) (by kernel_rfl) ?_
                  refine h_skip 9 [] _ rfl (by kernel_rfl) (by kernel_rfl) (by kernel_rfl) (pq_seq pq_body) (by kernel_rfl) ?_
                  refine h_skip 10 [] _ rfl (by kernel_rfl) (by kernel_rfl) (by kernel_rfl) (pq_seq pq_body) (by kernel_rfl) ?_
                  refine h_skip 11 [] _ rfl (by kernel_rfl) (by kernel_rfl) (by kernel_rfl) (pq_seq pq_body) (by kernel_rfl) ?_
                  refine h_take 12 [] _ (.bool true) rfl (by kernel_rfl) (by kernel_rfl) (by kernel_rfl) (pq_seq pq_body) (by kernel_rfl) (fun _ _ => by kernel_rfl) ?_
                  refine h_take 13 [] _ (.bool true) rfl (by kernel_rfl) (by kernel_rfl) (by kernel_rfl) (pq_seq pq_body) (by kernel_rfl) (fun _ _ => by kernel_rfl) ?_
                  refine h_take 14 [] _ (.bool true) rfl (by kernel_rfl) (by kernel_rfl) (by kernel_rfl) (pq_seq pq_body) (by kernel_rfl) (fun _ _ => by kernel_rfl) ?_
                  refine h_done (by kernel_rfl) ?_
                  refine fin_seq ?_
                  refine ok_ret ?_
                  refine fin_ret (.bool true) Tryz.results7 (by kernel_rfl) ?_
                  exact fun w hO => ⟨rfl, hO.below⟩
                · skip
                  refine h_dec 4 [] _ ((c.parts : Int) < 3) false rfl (by kernel_rfl) (by kernel_rfl) (by kernel_rfl) (pq_seq pq_body) (by kernel_rfl) (fun _ => by kernel_rfl) (decide_eq_false (h24)) ?_
                  refine h_take 5 [] _ (.bool false) rfl (by kernel_rfl) (by kernel_rfl) (by kernel_rfl) (pq_seq pq_body) (by kernel_rfl) (fun _ _ => by kernel_rfl) ?_
                  refine h_load 6 [] _ 1 ⟨b1, (coV c).cells, 26⟩ (off := 0) (coV c) rfl (by kernel_rfl) (by kernel_rfl) (by kernel_rfl) (pq_seq pq_body) (by kernel_rfl) rfl (by kernel_rfl) (by kernel_rfl) (by kernel_rfl) ?_
                  refine h_load 8 [] _ 0 ⟨b2, (verV u).cells, 24⟩ (off := 0) (verV u) rfl (by kernel_rfl) (by kernel_rfl) (by kernel_rfl) (pq_seq pq_body) (by kernel_rfl) rfl (by kernel_rfl) (by kernel_rfl) (by kernel_rfl) ?_
                  refine h_take 10 [] _ (.bool false) rfl (by kernel_rfl) (by kernel_rfl) (by kernel_rfl) (pq_seq pq_body) (by kernel_rfl) (fun _ _ => by kernel_rfl) ?_
                  refine h_one 7 (by kernel_rfl) ?_
                  refine hl_callx _ (k := 19) (args := #[coV c]) (fun v' L' => ∃ ob', L' = ob' ++ ([] ++ ([⟨b2, (verV u).cells, 24⟩, ⟨b1, (coV c).cells, 26⟩])) ∧ SlS v' (c.region) ob') rfl (by kernel_rfl) (fun _ => by kernel_rfl) (fun w hO => (cRegion_any c w sc).mono fun e w' ⟨v', ob', k1, k2, k3⟩ => ⟨v', _, k1, ⟨ob', rfl, k2⟩, Own.joinN hO k3⟩) (fun v' L' ⟨ob', e, _⟩ w hO => by subst e; exact Own.sub [] (Own.sub ob' hO)) (fun v12 L2 hv2 => ?_)
                  obtain ⟨o12, rfl, hr12⟩ := hv2
                  obtain ⟨V12, c12, rfl⟩ := hr12.form
                  refine h_cast (L' := (o12 ++ ([] : List Blk)) ++ ([⟨b2, (verV u).cells, 24⟩, ⟨b1, (coV c).cells, 26⟩])) (List.append_assoc _ _ _).symm ?_
                  refine h_one 9 (by kernel_rfl) ?_
                  refine hs_call (o12 ++ ([] : List Blk)) _ (k := 25) (args := #[.slice V12 ((c.region).length) c12, verV u]) (.bool false) rfl (by kernel_rfl) (fun _ => by kernel_rfl) (fun w hO => ret_b (by rw [region_order mc (by omega) (by omega) mu]; unfold ordB; simp [h21]; omega) (rrowHas_any V12 c12 c.region u w (Sl.reads hr12 rfl hO (fun x hx => by simp [hx])) (Nat.le_trans ((region_rf c)).len (by decide)) ((region_rf c)).short su)) ?_
                  refine h_take 11 (o12 ++ ([] : List Blk)) _ (.bool true) rfl (by kernel_rfl) (by kernel_rfl) (by kernel_rfl) (pq_seq pq_body) (by kernel_rfl) (fun _ _ => by kernel_rfl) ?_
                  refine h_take 12 (o12 ++ ([] : List Blk)) _ (.bool true) rfl (by kernel_rfl) (by kernel_rfl) (by kernel_rfl) (pq_seq pq_body) (by kernel_rfl) (fun _ _ => by kernel_rfl) ?_
                  refine h_take 13 (o12 ++ ([] : List Blk)) _ (.bool true) rfl (by kernel_rfl) (by kernel_rfl) (by kernel_rfl) (pq_seq pq_body) (by kernel_rfl) (fun _ _ => by kernel_rfl) ?_
                  refine h_take 14 (o12 ++ ([] : List Blk)) _ (.bool true) rfl (by kernel_rfl) (by kernel_rfl) (by kernel_rfl) (pq_seq pq_body) (by kernel_rfl) (fun _ _ => by kernel_rfl) ?_
                  refine h_drop (o12 ++ ([] : List Blk)) ?_
                  refine h_done (by kernel_rfl) ?_
                  refine fin_seq ?_
                  refine ok_ret ?_
                  refine fin_ret (.bool true) Tryz.results7 (by kernel_rfl) ?_
                  exact fun w hO => ⟨rfl, hO.below⟩
            · skip
              refine s_dec (p := (c.op : Int) = 6) false (by kernel_rfl) (fun _ => by kernel_rfl) (decide_eq_false (h21)) ?_
              refine s_val (.bool false) (by kernel_rfl) (fun _ => by kernel_rfl) ?_
              refine s_nil ?_
              refine fin_seq ?_
              refine ok_false (by kernel_rfl) ?_
              refine ok_seq ?_
              refine ok_region ?_
              refine s_call (k := 11) (args := #[]) (.bool true) (by kernel_rfl) (fun _ => by kernel_rfl) (fun w hO => awake6_any w (ht.on hO.below)) ?_
              refine s_val (.bool true) (by kernel_rfl) (fun _ => by kernel_rfl) ?_
              refine s_nil ?_
              refine fin_seq ?_
              refine ok_ret ?_
              refine fin_block_ret ?_
              refine fin_seq_ret ?_
              refine fin_ret (.bool true) Tryz.results7 (by kernel_rfl) ?_
              exact fun w hO => ⟨rfl, hO.below⟩
end Go.Proofs.YtjabcbagggicaaaGreatDoor
end

section
/-
  CompOrder: for every input the call returns true, and each argument reads afterwards as it read before. Conditions: none but the row's own, that the listed package-level variables read as the program's text lays them.
-/
namespace Go.Proofs.YtjabcbagggicaaaGreatDoor.compOrder
open Go.ChangeShapes Go.WideShapes Go.ChangeAt Go.RowKit
open Go.ChangeMaps (open_string shut_string)
set_option linter.unusedVariables false

set_option maxRecDepth 100000 in
theorem contract (H : Type) (enc : TypeId × Value → H) (W : World) (base : Nat) (args : Array Value) (ds gs : List (DataW H)) (before : List MemPlace)
    (hval : ∀ (j : Nat) t v, Tryz.f7.params[j]? = some t → args[j]? = some v → Value.okWide Tryz.prog W .any base t v)
    (hW : DataW.Whole enc Tryz.prog Tryz.f7.params.toList Rows.compOrderSpec.vars false W args.toList ds gs before) (hL : laidMetH Tryz.prog Rows.compOrderRow.laid W) :
    Calls Tryz.prog 7 args W fun e W' => ∃ v, e = .returned v ∧ Rows.compOrderSpec.post enc Tryz.prog Tryz.f7 false true false false W args v W' := by
  have ht : HasTab W := hasTab_of hL (by rfl)
  have hW' := hW
  obtain ⟨p, q, hA0, hV, rfl, hfz, hnd⟩ := hW
  have hA : DataW.TrodAll enc Tryz.prog W 0 (fun _ => true) true Tryz.f7.params.toList args.toList ds p := hA0
  rw [Tryz.params7] at hA hval
  obtain ⟨v0, vs0, d0, ds0, p0, q0, hargs, rfl, rfl, h0, r0⟩ := trodAll_cons hA
  obtain ⟨rfl, rfl, rfl⟩ := trodAll_nil r0
  obtain rfl : args = #[v0] := by cases args; simp_all
  obtain ⟨rfl, rfl⟩ := trodVars_none hV
  clear hA0
  obtain ⟨l, l_reads, l_len⟩ := open_nums (hval 0 36 v0 rfl rfl) h0
  refine (compOrder.law W v0 l l_reads l_len ht).mono fun e W' ⟨he, hb⟩ => ?_
  subst he
  exact ⟨_, rfl, law_end laidOut (fun t ht => by rw [Tryz.params7] at ht; simp at ht; subst ht; exact ⟨by kernel_rfl, of_decide_eq_true (by kernel_rfl)⟩) rfl rfl Tryz.underlying4 hW' (by rfl) hb⟩

noncomputable def laidWorld (os : Os) : World :=
  { World.holding Tryz.prog os ⟨#[], #[], []⟩ with heap := layAt (layAt (layAt (layAt (layAt ((World.holding Tryz.prog os ⟨#[], #[], []⟩).heap) 4 Rows.laid_math_bits_deBruijn32tab) 5 Rows.laid_math_bits_deBruijn64tab) 3 Rows.laid_internal_strconv_uint64pow10) 2 Rows.laid_unicode_utf8_acceptRanges) 1 Rows.laid_unicode_utf8_first }
theorem laid_met (os : Os) : laidMet Tryz.prog Rows.compOrderRow.laid ((laidWorld os).forCall (fun _ _ => 0) ⟨#[], #[.slice none 0 0], []⟩).memory :=
  laidMet_of_run' 8 (by kernel_rfl) (by kernel_rfl)
theorem reads (os : Os) {H : Type} (enc : TypeId × Value → H) : ∃ places, DataW.whole enc Tryz.prog ((laidWorld os).forCall (fun _ _ => 0) ⟨#[], #[.slice none 0 0], []⟩).memory Tryz.f7.params.toList Rows.compOrderSpec.vars false (#[.slice none 0 0] : Array Value).toList 8 = some ([.nil], [], places) :=
  ⟨[], by kernel_rfl⟩

set_option maxRecDepth 100000 in
theorem lifted (os : Os) (started : os.Started) (H : Type) (enc : TypeId × Value → H) (F : Stop.Interp) :
    ReturnsInHanded {} Tryz.checked os 7 .any ((OpenSpec.ofChange Rows.compOrderSpec).preRow enc Tryz.prog Tryz.f7 Rows.compOrderRow.domain false Rows.compOrderRow.laid) (((OpenSpec.ofChange Rows.compOrderSpec).at F).post enc Tryz.prog Tryz.f7 false true false false) := by
  obtain ⟨places, hx⟩ := reads os enc
  refine returnsInHanded_of_row (C := Tryz.checked) (s := OpenSpec.ofChange Rows.compOrderSpec) own started (by kernel_rfl) Tryz.func7
    (witness_row_at (enc := enc) (C := Tryz.checked) false (laidWorld os) #[.slice none 0 0] rfl (by kernel_rfl) (by kernel_rfl) (by kernel_rfl)
      (OpenSpec.preRow_of_cond 8 hx (by kernel_rfl) (fun k hk => by cases hk) (by kernel_rfl) (laid_met os))) ?_
  intro W base args ds gs before hval hW _ _ _ hL _ _
  exact contract H enc W base args ds gs before hval hW hL

theorem said : Rows.CompOrderSaid :=
  OpenClaim.holds_of_cond 7 Tryz.f7 rfl rfl rfl rfl rfl rfl rfl ⟨rfl, rfl, rfl, rfl, rfl⟩ rfl rfl rfl rfl rfl (by kernel_rfl) Tryz.func7 (by kernel_rfl)
    (of_decide_eq_true (by kernel_rfl)) (by unfold Func.isWrapper; first | (rw [if_pos (by decide +kernel)]; kernel_rfl) | (rw [if_neg (by decide +kernel)]; exact ⟨rfl, rfl⟩))
    (fun os started H enc _ F => by rw [OpenClaim.pre_eq_preRow]; exact lifted os started H enc F)

theorem plain (f : FuncId) (fn : Func) (hf : Tryz.pinned.checked.prog.funcNamed "linchpin/linchpinlaw6.CompOrder" = some f) (hfn : Tryz.pinned.checked.prog.funcs[f]? = some fn) :
    false = Tryz.pinned.checked.prog.looks [] ∧ ∀ (j : Nat) t, fn.params[j]? = some t → Tryz.pinned.checked.prog.wantsStandIn t = false := by
  obtain rfl : f = 7 := Option.some.inj ((show Tryz.prog.funcNamed "linchpin/linchpinlaw6.CompOrder" = some 7 by kernel_rfl).symm.trans hf) |>.symm
  obtain rfl : fn = Tryz.f7 := (Option.some.inj (Tryz.func7.symm.trans hfn)).symm
  refine ⟨by kernel_rfl, fun j t ht => ?_⟩
  rw [Tryz.params7] at ht
  have hm := Array.mem_of_getElem? ht
  simp at hm
  subst hm
  exact (show Tryz.prog.wantsStandIn 36 = false by kernel_rfl)

theorem card : Rows.CompOrderCardSaid :=
  Claim7.holds_tied_plain_at .later [] _ _ _ _ said (fun _ h => by cases h) (by kernel_rfl) (fun _ h => by cases h) compOrder_row_tie rfl ⟨rfl, rfl⟩ (by kernel_rfl) rfl plain (by kernel_rfl)

#print axioms card
end Go.Proofs.YtjabcbagggicaaaGreatDoor.compOrder
end
