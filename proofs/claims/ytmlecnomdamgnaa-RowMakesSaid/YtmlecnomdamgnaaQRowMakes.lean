/-
  RowMakes: for every input the call returns true, and each argument reads afterwards as it read before. Conditions: none but the row's own.
-/
import Derived.Test.YtmlecnomdamgnaaRows
import Derived.Test.YtmlecnomdamgnaaM5

section
/-
  RowMakes: for any list of numbers and any number the law returns true, and nothing that was there is changed. No condition.
-/
namespace Go.Proofs.Ytmlecnomdamgnaa
open Go.RowKit
set_option maxRecDepth 100000
set_option linter.unusedVariables false
set_option linter.unusedSimpArgs false
set_option maxHeartbeats 2000000

set_option maxHeartbeats 8000000 in
theorem rowMakes.law (W : World) (x : Value) (xl : List Int) (hxl : ReadsI W W.heap.size x xl) (lxl : xl.length ≤ maxLen) (at_ : Int) (_ : (Lit.int .i64 at_).wf = true) :
    Calls Try.prog 4 #[x, .int .i64 at_] W fun e w' => e = .returned (.bool true) ∧ Below W.heap.size W w' := by
  obtain ⟨q, eq⟩ : ∃ q, q = spansG xl 0 (plc (atL xl 0) (5 + 1 : Nat)).toNat := ⟨_, rfl⟩
  have hqm : ∀ s ∈ q, s.may = true := eq ▸ spansG_may xl 0 _
  have hqs : ShortL q := eq ▸ spansG_short xl 0 _
  have hqa : allMay q = true := allMay_mem.2 hqm
  have hqn : q.length ≤ 5 := by rw [eq]; have := spansG_len xl 0 (plc (atL xl 0) (5 + 1 : Nat)).toNat; have := plc_in (atL xl 0) (5 + 1 : Nat) (by omega); omega
  obtain ⟨u, eu⟩ : ∃ q, q = genV xl 61 := ⟨_, rfl⟩
  have mu : u.may = true := eu ▸ gen_may xl 61
  have su : u.short := eu ▸ ⟨Nat.le_trans (gen_pre xl 61) (by decide), Nat.le_trans (gen_bld xl 61) (by decide)⟩
  have htm := tmod_in at_ 100 (by omega)
  refine calls_ok (n := 84) Try.func4 rfl (by kernel_rfl) (by kernel_rfl) ?_
  refine ok_seq ?_
  refine ok_region ?_
  refine s_val (.bool false) (by kernel_rfl) (fun _ => by kernel_rfl) ?_
  refine s_nil ?_
  refine fin_seq ?_
  refine ok_seq ?_
  refine ok_region ?_
  refine s_val (x) (by kernel_rfl) (fun _ => by kernel_rfl) ?_
  refine s_callo (k := 14) (args := #[x, .int .i64 0, .int .i64 5]) (fun v' L' => ∃ ob', L' = ob' ++ ([]) ∧ SlS v' (q) ob') (by kernel_rfl) (fun _ => by kernel_rfl) (fun w hO => (spans_any x xl 0 5 w ((hxl.below hO.below).more hO.below.size) (by unfold maxLen at lxl; omega) (by omega) (by omega)).mono fun e w' ⟨v', ob', k1, k2, k3⟩ => ⟨v', _, k1, ⟨ob', rfl, by rw [← eq] at k2; exact k2⟩, Own.joinN hO k3⟩) (fun v1 L1 hv1 => ?_)
  obtain ⟨o1, rfl, hr1⟩ := hv1
  refine s_cast (L' := o1) (List.append_nil _) ?_
  obtain ⟨V1, c1, rfl⟩ := hr1.form
  refine s_val (x) (by kernel_rfl) (fun _ => by kernel_rfl) ?_
  refine s_call (k := 15) (args := #[x, .int .i64 61]) (verV u) (by kernel_rfl) (fun _ => by kernel_rfl) (fun w hO => ret_v (by rw [eu]) (gen_any x xl 61 w ((hxl.below hO.below).more hO.below.size) (by unfold maxLen at lxl; omega) (by omega))) ?_
  refine s_alloc_at (.agg #[.int .i64 0, .int .i64 0, .int .i64 0, .string ⟨#[]⟩, .string ⟨#[]⟩]) (by kernel_rfl) rfl (by kernel_rfl) (fun b1 => ?_)
  refine s_val (.slice V1 ((q).length) c1) (by kernel_rfl) (fun _ => by kernel_rfl) ?_
  refine s_store_at 0 ⟨b1, #[.int .i64 0, .int .i64 0, .int .i64 0, .string ⟨#[]⟩, .string ⟨#[]⟩], 24⟩ (off := 0) (verV u) (by kernel_rfl) rfl rfl (by kernel_rfl) (by kernel_rfl) (by kernel_rfl) (by kernel_rfl) (by kernel_rfl) ?_
  refine s_nil ?_
  refine fin_seq ?_
  refine ok_seq ?_
  refine ok_region ?_
  refine s_val (.slice none 0 0) (by kernel_rfl) (fun _ => by kernel_rfl) ?_
  refine s_nil ?_
  refine fin_seq ?_
  refine ok_seq ?_
  refine ok_region ?_
  refine s_val (.bool false) (by kernel_rfl) (fun _ => by kernel_rfl) ?_
  refine s_nil ?_
  refine fin_seq ?_
  refine ok_seq ?_
  refine ok_seq ?_
  refine ok_region ?_
  refine s_val (.int .i64 0) (by kernel_rfl) (fun _ => by kernel_rfl) ?_
  refine s_nil ?_
  refine fin_seq ?_
  refine ok_block ?_
  refine ok_cast (L' := [] ++ (⟨b1, (verV u).cells, 24⟩ :: (o1))) rfl ?_
  refine ok_loop (fun L f m => ∃ (k : Nat) (V : Option Addr) (q2 : Nat) (cv : Nat) (t : List Sp) (hb : Bool) (ob : List Blk) (j : Nat → Value), (q2 = t.length ∧ k ≤ q.length ∧ SlS (.slice V q2 cv) t ob ∧ (∀ x ∈ t, x ∈ q) ∧ t.length ≤ k ∧ hb = (q.take k).any (holdsC · u)) ∧ L = ob ++ (⟨b1, (verV u).cells, 24⟩ :: (o1)) ∧ f = upds j [(1, .int .i64 at_), (5, .slice V1 q.length c1), (6, .pointer (some ⟨b1, 0, none⟩)), (7, .slice V q2 cv), (8, .bool hb), (9, .int .i64 (k : Int))] ∧ m = q.length - k) (q.length - 0) ⟨0, none, 0, 0, [], false, [], _, ⟨rfl, Nat.zero_le _, Sl.nil _ _, fun x hx => by simp at hx, Nat.le_refl _, by rw [List.take_zero]; rfl⟩, rfl, upds_self _ ⟨by kernel_rfl, by kernel_rfl, by kernel_rfl, by kernel_rfl, by kernel_rfl, by kernel_rfl, trivial⟩, rfl⟩ ?_
  rintro L f m ⟨k, V, q2, cv, t, hb, ob, j, hrel, rfl, rfl, rfl⟩
  obtain ⟨hq2, hkl, hsl, htq0, htl, hhb⟩ := hrel; subst hq2; unfold SlS at hsl
  refine ok_seq ?_
  refine ok_seq ?_
  refine ok_region ?_
  refine s_val (.int .i64 (k : Int)) (by kernel_rfl) (fun _ => by kernel_rfl) ?_
  refine s_val (.slice V1 q.length c1) (by kernel_rfl) (fun _ => by kernel_rfl) ?_
  refine s_val (.int .i64 (q.length : Int)) (by kernel_rfl) (fun _ => by kernel_rfl) ?_
  by_cases h1 : (k : Int) < (q.length : Int)
  · skip
    have hk : k < q.length := by omega
    obtain ⟨g1, cur1, hA1, _, hcap1, hmax1, _, _⟩ := Sl.block hr1 (by omega)
    obtain ⟨s, hs⟩ : ∃ s, q[k] = s := ⟨_, rfl⟩
    have hsk : s.short := hs ▸ hqs _ (List.getElem_mem hk)
    obtain ⟨p, hp, hpl⟩ := plc_nat' (at_.tmod 100 + (q.length : Int) - (k : Int)) q.length (by omega)
    obtain ⟨s2, hs2⟩ : ∃ s, q[p] = s := ⟨_, rfl⟩
    have hsq : s2 ∈ q := hs2 ▸ List.getElem_mem hpl
    refine s_dec (p := (k : Int) < (q.length : Int)) true (by kernel_rfl) (fun _ => by kernel_rfl) (decide_eq_true (h1)) ?_
    refine s_nil ?_
    refine fin_seq ?_
    refine ok_true (by kernel_rfl) ?_
    refine ok_skip ?_
    refine fin_seq ?_
    refine ok_seq ?_
    refine ok_block ?_
    refine ok_seq ?_
    refine ok_region ?_
    refine s_val (.slice V t.length cv) (by kernel_rfl) (fun _ => by kernel_rfl) ?_
    refine s_val (.slice V1 q.length c1) (by kernel_rfl) (fun _ => by kernel_rfl) ?_
    refine s_val (.int .i64 at_) (by kernel_rfl) (fun _ => by kernel_rfl) ?_
    refine s_val (.int .i64 (at_.tmod 100)) (by kernel_rfl) (fun _ => by kernel_rfl) ?_
    refine s_val (.slice V1 q.length c1) (by kernel_rfl) (fun _ => by kernel_rfl) ?_
    refine s_val (.int .i64 (q.length : Int)) (by kernel_rfl) (fun _ => by kernel_rfl) ?_
    refine s_sum (k := .i64) (at_.tmod 100 + (q.length : Int)) (by kernel_rfl) (fun _ => by kernel_rfl) (IntWalk.i64_in _ (by omega)) ?_
    refine s_val (.int .i64 (k : Int)) (by kernel_rfl) (fun _ => by kernel_rfl) ?_
    refine s_sum (k := .i64) (at_.tmod 100 + (q.length : Int) - (k : Int)) (by kernel_rfl) (fun _ => by kernel_rfl) (IntWalk.i64_in _ (by omega)) ?_
    refine s_val (.slice V1 q.length c1) (by kernel_rfl) (fun _ => by kernel_rfl) ?_
    refine s_val (.int .i64 (q.length : Int)) (by kernel_rfl) (fun _ => by kernel_rfl) ?_
    refine s_call (k := 16) (args := #[.int .i64 (at_.tmod 100 + (q.length : Int) - (k : Int)), .int .i64 (q.length : Int)]) (.int .i64 (p : Int)) (by kernel_rfl) (fun _ => by kernel_rfl) (fun w hO => ret_v (by rw [hp]) ((place_any (at_.tmod 100 + (q.length : Int) - (k : Int)) (q.length : Int) w (by omega) (by omega)).mono fun e w' ⟨h1, h2⟩ => ⟨h1, h2 ▸ Below.refl _ _⟩)) ?_
    refine s_val (.pointer (some ⟨g1, 0 + p * 14, none⟩)) (by kernel_rfl) (run_ixA (b := g1) (off := 0) (c := c1) (n := q.length) (k := .i64) (j := (p : Int)) (e := 37) (sz := 14) rfl (by kernel_rfl) hA1 (by kernel_rfl) (by kernel_rfl) (by kernel_rfl) (by omega) (by omega) (by omega)) ?_
    refine s_old (spanV s2) (a := ⟨g1, 0 + p * 14, none⟩) (by kernel_rfl) rfl (by kernel_rfl) (fun w hO => Reads.load spanC_len (Sl.reads hr1 rfl hO (fun x hx => by simp [hx])) hA1 p 0 hpl (by omega) _ (by rw [hs2]; kernel_rfl)) ?_
    refine s_lit 37 #[.int .i64 s2.lo.e, .int .i64 s2.lo.v.maj, .int .i64 s2.lo.v.min, .int .i64 s2.lo.v.pat, .string (mkS s2.lo.v.pre), .string (mkS s2.lo.v.build), .bool s2.lo.aft, .int .i64 s2.hi.e, .int .i64 s2.hi.v.maj, .int .i64 s2.hi.v.min, .int .i64 s2.hi.v.pat, .string (mkS s2.hi.v.pre), .string (mkS s2.hi.v.build), .bool s2.hi.aft] (by kernel_rfl) rfl (fun _ => by kernel_rfl) (fun b2 => ?_)
    obtain ⟨i, z, e1, e2, e3, e4, e5⟩ := span_info
    refine s_cast (L' := [⟨b2, #[.int .i64 s2.lo.e, .int .i64 s2.lo.v.maj, .int .i64 s2.lo.v.min, .int .i64 s2.lo.v.pat, .string (mkS s2.lo.v.pre), .string (mkS s2.lo.v.build), .bool s2.lo.aft, .int .i64 s2.hi.e, .int .i64 s2.hi.v.maj, .int .i64 s2.hi.v.min, .int .i64 s2.hi.v.pat, .string (mkS s2.hi.v.pre), .string (mkS s2.hi.v.build), .bool s2.hi.aft], 37⟩] ++ ob ++ (⟨b1, (verV u).cells, 24⟩ :: (o1))) rfl ?_
    refine s_append (E := [⟨b2, #[.int .i64 s2.lo.e, .int .i64 s2.lo.v.maj, .int .i64 s2.lo.v.min, .int .i64 s2.lo.v.pat, .string (mkS s2.lo.v.pre), .string (mkS s2.lo.v.build), .bool s2.lo.aft, .int .i64 s2.hi.e, .int .i64 s2.hi.v.maj, .int .i64 s2.hi.v.min, .int .i64 s2.hi.v.pat, .string (mkS s2.hi.v.pre), .string (mkS s2.hi.v.build), .bool s2.hi.aft], 37⟩]) (ob := ob) (L0 := ⟨b1, (verV u).cells, 24⟩ :: (o1)) (sz := 14) (by kernel_rfl) rfl Try.underlying22 e1 e2 e3 e4 (by kernel_rfl) hsl (a := ⟨b2, 0, none⟩) (m := 1) (c := 1) (news := spanC s2) (by kernel_rfl) rfl (fun w hO j u hj => ?_) (span_cells _) (by unfold maxLen; omega) (by rw [e5]; omega) (fun v2 ob2 hv2 => ?_)
    · rw [add_off, cell_of_row w b2 (0 + j) (spanC s2).toArray 37 _ (hO.held ⟨b2, (spanC s2).toArray, 37⟩ (List.mem_append_left _ (List.mem_append_left _ (List.mem_cons_self ..))))]; simpa using hj
    have hv3 : SlS v2 (t ++ [s2]) ob2 := hv2.to (by simp) (by simp)
    obtain ⟨V2, c2, rfl⟩ := hv3.form
    refine s_cast (L' := [⟨b2, #[.int .i64 s2.lo.e, .int .i64 s2.lo.v.maj, .int .i64 s2.lo.v.min, .int .i64 s2.lo.v.pat, .string (mkS s2.lo.v.pre), .string (mkS s2.lo.v.build), .bool s2.lo.aft, .int .i64 s2.hi.e, .int .i64 s2.hi.v.maj, .int .i64 s2.hi.v.min, .int .i64 s2.hi.v.pat, .string (mkS s2.hi.v.pre), .string (mkS s2.hi.v.build), .bool s2.hi.aft], 37⟩] ++ (ob2 ++ (⟨b1, (verV u).cells, 24⟩ :: (o1)))) rfl ?_
    refine s_val (.slice V2 ((t ++ [s2]).length) c2) (by kernel_rfl) (fun _ => by kernel_rfl) ?_
    refine s_nil ?_
    refine fin_seq ?_
    refine ok_draw (by kernel_rfl) (by kernel_rfl) ?_
    refine q_val (.bool hb) (by kernel_rfl) (fun _ => by kernel_rfl) ?_
    refine q_val (.bool hb) (by kernel_rfl) (fun _ => by kernel_rfl) ?_
    cases h2 : hb with
    | true =>
      refine q_skip (by kernel_rfl) ?_
      refine q_skip (by kernel_rfl) ?_
      refine q_skip (by kernel_rfl) ?_
      refine q_skip (by kernel_rfl) ?_
      refine q_skip (by kernel_rfl) ?_
      refine q_skip (by kernel_rfl) ?_
      refine q_val (.bool true) (by kernel_rfl) (fun _ => by kernel_rfl) ?_
      refine q_val (.bool true) (by kernel_rfl) (fun _ => by kernel_rfl) ?_
      refine q_nil ?_
      refine fin_block ?_
      refine fin_seq ?_
      refine ok_region ?_
      refine s_val (.int .i64 (k : Int)) (by kernel_rfl) (fun _ => by kernel_rfl) ?_
      refine s_sum (k := .i64) (((k + 1 : Nat) : Int)) (by kernel_rfl) (fun _ => by kernel_rfl) (IntWalk.i64_in _ (by omega)) ?_
      refine s_val (.int .i64 ((k + 1 : Nat) : Int)) (by kernel_rfl) (fun _ => by kernel_rfl) ?_
      refine s_nil ?_
      refine fin_take (L' := ob2 ++ (⟨b1, (verV u).cells, 24⟩ :: (o1))) (fun w hO => Own.sub [⟨b2, #[.int .i64 s2.lo.e, .int .i64 s2.lo.v.maj, .int .i64 s2.lo.v.min, .int .i64 s2.lo.v.pat, .string (mkS s2.lo.v.pre), .string (mkS s2.lo.v.build), .bool s2.lo.aft, .int .i64 s2.hi.e, .int .i64 s2.hi.v.maj, .int .i64 s2.hi.v.min, .int .i64 s2.hi.v.pat, .string (mkS s2.hi.v.pre), .string (mkS s2.hi.v.build), .bool s2.hi.aft], 37⟩] hO) ?_
      exact fin_round (m' := q.length - (k + 1)) (by omega) ⟨k + 1, V2, (t ++ [s2]).length, c2, t ++ [s2], true, ob2, _, ⟨rfl, by omega, hv3, fun x hx => (List.mem_append.1 hx).elim (fun h => htq0 x h) (fun h => (List.mem_singleton.1 h).symm ▸ hsq), by rw [List.length_append]; simp; omega, by rw [List.take_succ_eq_append_getElem hk, List.any_append, ← hhb, hs]; simp [h2]⟩, rfl, upds_self _ ⟨by kernel_rfl, by kernel_rfl, by kernel_rfl, by kernel_rfl, by kernel_rfl, by kernel_rfl, trivial⟩, rfl⟩
    | false =>
      refine q_val (.slice V1 q.length c1) (by kernel_rfl) (fun _ => by kernel_rfl) ?_
      refine q_val (.int .i64 (k : Int)) (by kernel_rfl) (fun _ => by kernel_rfl) ?_
      refine q_val (.pointer (some ⟨g1, 0 + k * 14, none⟩)) (by kernel_rfl) (run_ixA (b := g1) (off := 0) (c := c1) (n := q.length) (k := .i64) (j := (k : Int)) (e := 37) (sz := 14) rfl (by kernel_rfl) hA1 (by kernel_rfl) (by kernel_rfl) (by kernel_rfl) (by omega) (by omega) (by omega)) ?_
      refine q_old (spanV s) (a := ⟨g1, 0 + k * 14, none⟩) (by kernel_rfl) rfl (by kernel_rfl) (fun w hO => Reads.load spanC_len (Sl.reads hr1 rfl hO (fun x hx => by simp [hx])) hA1 k 0 hk (by omega) _ (by rw [hs]; kernel_rfl)) ?_
      refine q_loadm ⟨b1, (verV u).cells, 24⟩ (off := 0) (verV u) (by kernel_rfl) rfl (by simp) (by kernel_rfl) (by kernel_rfl) ?_
      refine q_call (k := 17) (args := #[spanV s, verV u]) (.bool (holdsC s u)) (by kernel_rfl) (fun _ => by kernel_rfl) (fun w hO => rholdsC_any s u w hsk su) ?_
      refine q_val (.bool (holdsC s u)) (by kernel_rfl) (fun _ => by kernel_rfl) ?_
      refine q_val (.bool (holdsC s u)) (by kernel_rfl) (fun _ => by kernel_rfl) ?_
      refine q_nil ?_
      refine fin_block ?_
      refine fin_seq ?_
      refine ok_region ?_
      refine s_val (.int .i64 (k : Int)) (by kernel_rfl) (fun _ => by kernel_rfl) ?_
      refine s_sum (k := .i64) (((k + 1 : Nat) : Int)) (by kernel_rfl) (fun _ => by kernel_rfl) (IntWalk.i64_in _ (by omega)) ?_
      refine s_val (.int .i64 ((k + 1 : Nat) : Int)) (by kernel_rfl) (fun _ => by kernel_rfl) ?_
      refine s_nil ?_
      refine fin_take (L' := ob2 ++ (⟨b1, (verV u).cells, 24⟩ :: (o1))) (fun w hO => Own.sub [⟨b2, #[.int .i64 s2.lo.e, .int .i64 s2.lo.v.maj, .int .i64 s2.lo.v.min, .int .i64 s2.lo.v.pat, .string (mkS s2.lo.v.pre), .string (mkS s2.lo.v.build), .bool s2.lo.aft, .int .i64 s2.hi.e, .int .i64 s2.hi.v.maj, .int .i64 s2.hi.v.min, .int .i64 s2.hi.v.pat, .string (mkS s2.hi.v.pre), .string (mkS s2.hi.v.build), .bool s2.hi.aft], 37⟩] hO) ?_
      exact fin_round (m' := q.length - (k + 1)) (by omega) ⟨k + 1, V2, (t ++ [s2]).length, c2, t ++ [s2], (holdsC s u), ob2, _, ⟨rfl, by omega, hv3, fun x hx => (List.mem_append.1 hx).elim (fun h => htq0 x h) (fun h => (List.mem_singleton.1 h).symm ▸ hsq), by rw [List.length_append]; simp; omega, by rw [List.take_succ_eq_append_getElem hk, List.any_append, ← hhb, hs]; simp [h2]⟩, rfl, upds_self _ ⟨by kernel_rfl, by kernel_rfl, by kernel_rfl, by kernel_rfl, by kernel_rfl, by kernel_rfl, trivial⟩, rfl⟩
  · skip
    have hend : q.any (holdsC · u) = hb := by rw [hhb, List.take_of_length_le (by omega)]
    have htq : (t ++ q).length ≤ 10 := by rw [List.length_append]; omega
    have htqm : ∀ s, s ∈ t ++ q ↔ s ∈ q := fun s => ⟨fun h => (List.mem_append.1 h).elim (fun h => htq0 s h) id, fun h => List.mem_append_right _ h⟩
    have htqa : allMay (t ++ q) = true := allMay_mem.2 fun s h => hqm s ((htqm s).1 h)
    have htqs : ShortL (t ++ q) := fun s h => hqs s ((htqm s).1 h)
    refine s_dec (p := (k : Int) < (q.length : Int)) false (by kernel_rfl) (fun _ => by kernel_rfl) (decide_eq_false (h1)) ?_
    refine s_nil ?_
    refine fin_seq ?_
    refine ok_false (by kernel_rfl) ?_
    refine ok_exit ?_
    refine fin_seq_exit ?_
    refine fin_round_exit ?_
    refine fin_block_exit ?_
    refine fin_seq ?_
    refine ok_seq ?_
    refine ok_region ?_
    refine s_val (.slice V1 q.length c1) (by kernel_rfl) (fun _ => by kernel_rfl) ?_
    refine s_callo (k := 7) (args := #[.slice V1 q.length c1]) (fun v' L' => ∃ mv ob', v' = .tuple #[mv, .bool true] ∧ L' = ob' ++ (ob ++ (⟨b1, (verV u).cells, 24⟩ :: (o1))) ∧ SlS mv (makeL q) ob') (by kernel_rfl) (fun _ => by kernel_rfl) (fun w hO => (make4_any V1 c1 q w (Sl.reads hr1 rfl hO (fun x hx => by simp [hx])) (Nat.le_trans hqn (by decide)) hqs).mono fun e w' ⟨v', ob', k1, k2, k3⟩ => ⟨_, _, k1, ⟨v', ob', by rw [hqa], rfl, by rw [if_pos hqa] at k2; exact k2⟩, Own.joinN hO k3⟩) (fun tv2 L2 hv2 => ?_)
    obtain ⟨v2, o2, rfl, rfl, hr2⟩ := hv2
    obtain ⟨V2, c2, rfl⟩ := hr2.form
    refine s_val (.tuple #[.slice V2 ((makeL q).length) c2, .bool true]) (by kernel_rfl) (fun _ => by kernel_rfl) ?_
    refine s_val (.slice V2 ((makeL q).length) c2) (by kernel_rfl) (fun _ => by kernel_rfl) ?_
    refine s_val (.bool true) (by kernel_rfl) (fun _ => by kernel_rfl) ?_
    refine s_val (.slice V2 ((makeL q).length) c2) (by kernel_rfl) (fun _ => by kernel_rfl) ?_
    refine s_val (.bool true) (by kernel_rfl) (fun _ => by kernel_rfl) ?_
    refine s_nil ?_
    refine fin_seq ?_
    refine ok_seq ?_
    refine ok_region ?_
    refine s_val (.slice V t.length cv) (by kernel_rfl) (fun _ => by kernel_rfl) ?_
    refine s_val (.slice V1 q.length c1) (by kernel_rfl) (fun _ => by kernel_rfl) ?_
    obtain ⟨i, z, e1, e2, e3, e4, e5⟩ := span_info
    refine s_cast (L' := o2 ++ ob ++ (⟨b1, (verV u).cells, 24⟩ :: (o1))) (by simp) ?_
    refine s_appendR (E := o2) (ob := ob) (L0 := ⟨b1, (verV u).cells, 24⟩ :: (o1)) (sz := 14) (l := q) (A := V1) (c := c1) spanC_len (by kernel_rfl) rfl Try.underlying22 e1 e2 e3 e4 (by kernel_rfl) hsl (by kernel_rfl) (fun w hO => (Sl.reads hr1 rfl hO (fun x hx => by simp [hx]))) span_cells (by unfold maxLen; omega) (by rw [e5]; omega) (fun va oa hva => ?_)
    have hva2 : SlS va (t ++ q) oa := hva.to (by simp) (by simp)
    obtain ⟨VA, cva, rfl⟩ := hva2.form
    refine s_cast (L' := o2 ++ (oa ++ (⟨b1, (verV u).cells, 24⟩ :: (o1)))) (by simp) ?_
    refine s_callo (k := 7) (args := #[.slice VA ((t ++ q).length) cva]) (fun v' L' => ∃ mv ob', v' = .tuple #[mv, .bool true] ∧ L' = ob' ++ (o2 ++ (oa ++ (⟨b1, (verV u).cells, 24⟩ :: (o1)))) ∧ SlS mv (makeL (t ++ q)) ob') (by kernel_rfl) (fun _ => by kernel_rfl) (fun w hO => (make4_any VA cva (t ++ q) w (Sl.reads hva2 rfl hO (fun x hx => by simp [hx])) (Nat.le_trans htq (by decide)) htqs).mono fun e w' ⟨v', ob', k1, k2, k3⟩ => ⟨_, _, k1, ⟨v', ob', by rw [htqa], rfl, by rw [if_pos htqa] at k2; exact k2⟩, Own.joinN hO k3⟩) (fun tv3 L3 hv3 => ?_)
    obtain ⟨v3, o3, rfl, rfl, hr3⟩ := hv3
    obtain ⟨V3, c3, rfl⟩ := hr3.form
    refine s_val (.tuple #[.slice V3 ((makeL (t ++ q)).length) c3, .bool true]) (by kernel_rfl) (fun _ => by kernel_rfl) ?_
    refine s_val (.slice V3 ((makeL (t ++ q)).length) c3) (by kernel_rfl) (fun _ => by kernel_rfl) ?_
    refine s_val (.bool true) (by kernel_rfl) (fun _ => by kernel_rfl) ?_
    refine s_val (.slice V3 ((makeL (t ++ q)).length) c3) (by kernel_rfl) (fun _ => by kernel_rfl) ?_
    refine s_val (.bool true) (by kernel_rfl) (fun _ => by kernel_rfl) ?_
    refine s_nil ?_
    refine fin_seq ?_
    refine ok_seq ?_
    refine ok_region ?_
    refine s_call (k := 6) (args := #[]) (.bool true) (by kernel_rfl) (fun _ => by kernel_rfl) (fun w _ => awake4_any w) ?_
    refine s_val (.bool true) (by kernel_rfl) (fun _ => by kernel_rfl) ?_
    refine s_val (.bool true) (by kernel_rfl) (fun _ => by kernel_rfl) ?_
    refine s_val (.bool true) (by kernel_rfl) (fun _ => by kernel_rfl) ?_
    refine s_val (.bool true) (by kernel_rfl) (fun _ => by kernel_rfl) ?_
    refine s_val (.bool true) (by kernel_rfl) (fun _ => by kernel_rfl) ?_
    refine s_val (.bool true) (by kernel_rfl) (fun _ => by kernel_rfl) ?_
    refine s_val (.bool true) (by kernel_rfl) (fun _ => by kernel_rfl) ?_
    refine s_val (.slice V2 ((makeL q).length) c2) (by kernel_rfl) (fun _ => by kernel_rfl) ?_
    refine s_val (.slice V3 ((makeL (t ++ q)).length) c3) (by kernel_rfl) (fun _ => by kernel_rfl) ?_
    refine s_call (k := 13) (args := #[.slice V2 ((makeL q).length) c2, .slice V3 ((makeL (t ++ q)).length) c3]) (.bool true) (by kernel_rfl) (fun _ => by kernel_rfl) (fun w hO => ret_b (decide_eq_true ((make_same hqm htqm).symm)) (rsame_any V2 V3 c2 c3 (makeL q) (makeL (t ++ q)) w (Sl.reads hr2 rfl hO (fun x hx => by simp [hx])) (Sl.reads hr3 rfl hO (fun x hx => by simp [hx])) (Nat.le_trans (((RF.make (allMay_mem.1 hqa) hqn)).len) (by decide)) (Nat.le_trans (((RF.make (allMay_mem.1 htqa) htq)).len) (by decide)))) ?_
    refine s_val (.bool true) (by kernel_rfl) (fun _ => by kernel_rfl) ?_
    refine s_val (.bool true) (by kernel_rfl) (fun _ => by kernel_rfl) ?_
    refine s_val (.slice V2 ((makeL q).length) c2) (by kernel_rfl) (fun _ => by kernel_rfl) ?_
    refine s_call (k := 9) (args := #[.slice V2 ((makeL q).length) c2]) (.bool true) (by kernel_rfl) (fun _ => by kernel_rfl) (fun w hO => ret_b ((RF.make (allMay_mem.1 hqa) hqn)).may (may4_any V2 c2 (makeL q) w (Sl.reads hr2 rfl hO (fun x hx => by simp [hx])) (Nat.le_trans (((RF.make (allMay_mem.1 hqa) hqn)).len) (by decide)) ((RF.make (allMay_mem.1 hqa) hqn)).short)) ?_
    refine s_val (.bool true) (by kernel_rfl) (fun _ => by kernel_rfl) ?_
    refine s_val (.bool true) (by kernel_rfl) (fun _ => by kernel_rfl) ?_
    refine s_val (.slice V2 ((makeL q).length) c2) (by kernel_rfl) (fun _ => by kernel_rfl) ?_
    refine s_loadm ⟨b1, (verV u).cells, 24⟩ (off := 0) (verV u) (by kernel_rfl) rfl (by simp) (by kernel_rfl) (by kernel_rfl) ?_
    refine s_call (k := 11) (args := #[.slice V2 ((makeL q).length) c2, verV u]) (.bool hb) (by kernel_rfl) (fun _ => by kernel_rfl) (fun w hO => ret_b (by rw [has_make4 hqm mu, hend]) (has4_any V2 c2 (makeL q) u w (Sl.reads hr2 rfl hO (fun x hx => by simp [hx])) (Nat.le_trans (((RF.make (allMay_mem.1 hqa) hqn)).len) (by decide)) ((RF.make (allMay_mem.1 hqa) hqn)).short su)) ?_
    refine s_val (.bool hb) (by kernel_rfl) (fun _ => by kernel_rfl) ?_
    cases h3 : hb with
    | true =>
      refine s_val (.bool true) (by kernel_rfl) (fun _ => by kernel_rfl) ?_
      refine s_val (.bool true) (by kernel_rfl) (fun _ => by kernel_rfl) ?_
      refine s_val (.bool true) (by kernel_rfl) (fun _ => by kernel_rfl) ?_
      refine s_nil ?_
      refine fin_seq ?_
      refine ok_ret ?_
      refine fin_ret (.bool true) Try.results4 (by kernel_rfl) ?_
      exact fun w hO => ⟨rfl, hO.below⟩
    | false =>
      refine s_val (.bool true) (by kernel_rfl) (fun _ => by kernel_rfl) ?_
      refine s_val (.bool true) (by kernel_rfl) (fun _ => by kernel_rfl) ?_
      refine s_val (.bool true) (by kernel_rfl) (fun _ => by kernel_rfl) ?_
      refine s_nil ?_
      refine fin_seq ?_
      refine ok_ret ?_
      refine fin_ret (.bool true) Try.results4 (by kernel_rfl) ?_
      exact fun w hO => ⟨rfl, hO.below⟩
end Go.Proofs.Ytmlecnomdamgnaa
end

section
/-
  RowMakes: for every input the call returns true, and each argument reads afterwards as it read before. Conditions: none but the row's own.
-/
namespace Go.Proofs.Ytmlecnomdamgnaa.rowMakes
open Go.ChangeShapes Go.WideShapes Go.ChangeAt Go.RowKit
open Go.ChangeMaps (open_string shut_string)
set_option linter.unusedVariables false

set_option maxRecDepth 100000 in
theorem contract (H : Type) (enc : TypeId × Value → H) (W : World) (base : Nat) (args : Array Value) (ds gs : List (DataW H)) (before : List MemPlace)
    (hval : ∀ (j : Nat) t v, Try.f4.params[j]? = some t → args[j]? = some v → Value.okWide Try.prog W .any base t v)
    (hW : DataW.Whole enc Try.prog Try.f4.params.toList Rows.rowMakesSpec.vars false W args.toList ds gs before) (hL : laidMetH Try.prog Rows.rowMakesRow.laid W) :
    Calls Try.prog 4 args W fun e W' => ∃ v, e = .returned v ∧ Rows.rowMakesSpec.post enc Try.prog Try.f4 false true false false W args v W' := by
  have hW' := hW
  obtain ⟨p, q, hA0, hV, rfl, hfz, hnd⟩ := hW
  have hA : DataW.TrodAll enc Try.prog W 0 (fun _ => true) true Try.f4.params.toList args.toList ds p := hA0
  rw [Try.params4] at hA hval
  obtain ⟨v0, vs0, d0, ds0, p0, q0, hargs, rfl, rfl, h0, r0⟩ := trodAll_cons hA
  obtain ⟨v1, vs1, d1, ds1, p1, q1, rfl, rfl, rfl, h1, r1⟩ := trodAll_cons r0
  obtain ⟨rfl, rfl, rfl⟩ := trodAll_nil r1
  obtain rfl : args = #[v0, v1] := by cases args; simp_all
  obtain ⟨rfl, rfl⟩ := trodVars_none hV
  obtain ⟨p, rfl, rfl, rfl, w1⟩ := open_int Try.underlying3 (hval 1 3 v1 rfl rfl) h1
  clear hA0
  obtain ⟨l, l_reads, l_len⟩ := open_nums (hval 0 31 v0 rfl rfl) h0
  refine (rowMakes.law W v0 l l_reads l_len p w1 ).mono fun e W' ⟨he, hb⟩ => ?_
  subst he
  exact ⟨_, rfl, law_end laidOut (fun t ht => by rw [Try.params4] at ht; simp at ht; rcases ht with rfl | rfl <;> exact ⟨by kernel_rfl, of_decide_eq_true (by kernel_rfl)⟩) rfl rfl Try.underlying4 hW' (by rfl) hb⟩

noncomputable def laidWorld (os : Os) : World :=
  { World.holding Try.prog os ⟨#[], #[], []⟩ with heap := (World.holding Try.prog os ⟨#[], #[], []⟩).heap }
theorem laid_met (os : Os) : laidMet Try.prog Rows.rowMakesRow.laid ((laidWorld os).forCall (fun _ _ => 0) ⟨#[], #[.slice none 0 0, .int .i64 0], []⟩).memory :=
  laidMet_of_run' 8 (by kernel_rfl) (by kernel_rfl)
theorem reads (os : Os) {H : Type} (enc : TypeId × Value → H) : ∃ places, DataW.whole enc Try.prog ((laidWorld os).forCall (fun _ _ => 0) ⟨#[], #[.slice none 0 0, .int .i64 0], []⟩).memory Try.f4.params.toList Rows.rowMakesSpec.vars false (#[.slice none 0 0, .int .i64 0] : Array Value).toList 8 = some ([.nil, .lit (.int .i64 0)], [], places) :=
  ⟨[], by kernel_rfl⟩

set_option maxRecDepth 100000 in
theorem lifted (os : Os) (started : os.Started) (H : Type) (enc : TypeId × Value → H) (F : Stop.Interp) :
    ReturnsInHanded {} Try.checked os 4 .any ((OpenSpec.ofChange Rows.rowMakesSpec).preRow enc Try.prog Try.f4 Rows.rowMakesRow.domain false Rows.rowMakesRow.laid) (((OpenSpec.ofChange Rows.rowMakesSpec).at F).post enc Try.prog Try.f4 false true false false) := by
  obtain ⟨places, hx⟩ := reads os enc
  refine returnsInHanded_of_row (C := Try.checked) (s := OpenSpec.ofChange Rows.rowMakesSpec) own started (by kernel_rfl) Try.func4
    (witness_row_at (enc := enc) (C := Try.checked) false (laidWorld os) #[.slice none 0 0, .int .i64 0] rfl (by kernel_rfl) (by kernel_rfl) (by kernel_rfl)
      (OpenSpec.preRow_of_cond 8 hx (by kernel_rfl) (fun k hk => by cases hk) (by kernel_rfl) (laid_met os))) ?_
  intro W base args ds gs before hval hW _ _ _ hL _ _
  exact contract H enc W base args ds gs before hval hW hL

theorem said : Rows.RowMakesSaid :=
  OpenClaim.holds_of_cond 4 Try.f4 rfl rfl rfl rfl rfl rfl rfl ⟨rfl, rfl, rfl, rfl, rfl⟩ rfl rfl rfl rfl rfl (by kernel_rfl) Try.func4 (by kernel_rfl)
    (of_decide_eq_true (by kernel_rfl)) (by unfold Func.isWrapper; first | (rw [if_pos (by decide +kernel)]; kernel_rfl) | (rw [if_neg (by decide +kernel)]; exact ⟨rfl, rfl⟩))
    (fun os started H enc _ F => by rw [OpenClaim.pre_eq_preRow]; exact lifted os started H enc F)

#print axioms said
end Go.Proofs.Ytmlecnomdamgnaa.rowMakes
end
