/-
  What the statements' proofs lean on, part 5: each part begins with a remark that says what it proves and on what conditions.
-/
import Derived.Below
import Derived.ChangeSame
import Derived.ProofKit
import Derived.OpenShut
import Derived.LaidSub
import Derived.Carry
import Derived.SliceStrings
import Derived.Lib.LaidTab
import Derived.Deep.DeepHandedRow
import Derived.ChangeSlices
import Derived.Test.YtjabcbagggicaaaGreatDoorMD4

section
/-
  Package comp's bounds, between, Region, Zone: what they return for comparators whose strings have at most a million bytes; nothing that was there is changed.
-/
namespace Go.Proofs.YtjabcbagggicaaaGreatDoor
open Go.RowKit
set_option maxRecDepth 100000
set_option linter.unusedVariables false
set_option linter.unusedSimpArgs false
set_option maxHeartbeats 2000000

theorem parts_in {c : Co} (h : c.may = true) : (0 ≤ c.parts ∧ c.parts ≤ 3) ∧ (¬ c.op = 9 → 1 ≤ c.parts) ∧ (c.op = 9 → c.parts ≤ 2) ∧ (leadK c = 0 ∨ leadK c = 1 ∨ leadK c = 2 ∨ c.op = 9) := by
  obtain ⟨_, _, _, h9, hn, _⟩ := Co.facts h
  refine ⟨?_, fun e => (hn e).1, fun e => (h9 e).2, ?_⟩
  · by_cases e : c.op = 9
    · have := h9 e; omega
    · have := hn e; omega
  · by_cases e : c.op = 9
    · exact .inr (.inr (.inr e))
    · have := hn e
      unfold leadK
      repeat' split
      all_goals omega
set_option maxHeartbeats 4000000 in
theorem cbounds_any (c : Co) (W : World) (hc : c.short) (ho : 1 ≤ c.op ∧ c.op ≤ 9) (hq : (0 ≤ c.parts ∧ c.parts ≤ 3) ∧ (¬ c.op = 9 → 1 ≤ c.parts) ∧ (c.op = 9 → c.parts ≤ 2) ∧ (leadK c = 0 ∨ leadK c = 1 ∨ leadK c = 2 ∨ c.op = 9)) : Calls Tryz.prog 53 #[coV c] W fun e w' => e = .returned (.tuple #[cutV (boundC c).1, cutV (boundC c).2]) ∧ Below W.heap.size W w' := by
  obtain ⟨hp, hn1, h92, hlk⟩ := hq
  refine calls_ok (n := 58) Tryz.func53 rfl (by kernel_rfl) (by kernel_rfl) ?_
  refine ok_seq ?_
  refine ok_region ?_
  refine s_box (coV c) (by kernel_rfl) rfl (by kernel_rfl) (fun b1 => ?_)
  refine s_alloc_at (.agg #[.int .i64 0, .int .i64 0, .int .i64 0, .int .i64 0, .string ⟨#[]⟩, .string ⟨#[]⟩, .bool false]) (by kernel_rfl) rfl (by kernel_rfl) (fun b2 => ?_)
  refine s_alloc_at (.agg #[.int .i64 0, .int .i64 0, .int .i64 0, .int .i64 0, .string ⟨#[]⟩, .string ⟨#[]⟩, .bool false]) (by kernel_rfl) rfl (by kernel_rfl) (fun b3 => ?_)
  refine s_nil ?_
  refine fin_seq ?_
  refine ok_seq ?_
  refine ok_region ?_
  refine s_val (.agg #[.int .i64 (-1), .int .i64 0, .int .i64 0, .int .i64 0, .string ⟨#[]⟩, .string ⟨#[]⟩, .bool false]) (by kernel_rfl) (fun _ => by kernel_rfl) ?_
  refine s_val (.agg #[.int .i64 1, .int .i64 0, .int .i64 0, .int .i64 0, .string ⟨#[]⟩, .string ⟨#[]⟩, .bool false]) (by kernel_rfl) (fun _ => by kernel_rfl) ?_
  refine s_alloc_at (.agg #[.int .i64 0, .int .i64 0, .int .i64 0, .int .i64 0, .string ⟨#[]⟩, .string ⟨#[]⟩, .bool false]) (by kernel_rfl) rfl (by kernel_rfl) (fun b4 => ?_)
  refine s_alloc_at (.agg #[.int .i64 0, .int .i64 0, .int .i64 0, .int .i64 0, .string ⟨#[]⟩, .string ⟨#[]⟩, .bool false]) (by kernel_rfl) rfl (by kernel_rfl) (fun b5 => ?_)
  refine s_store_at 1 ⟨b4, #[.int .i64 0, .int .i64 0, .int .i64 0, .int .i64 0, .string ⟨#[]⟩, .string ⟨#[]⟩, .bool false], 48⟩ (off := 0) (.agg #[.int .i64 (-1), .int .i64 0, .int .i64 0, .int .i64 0, .string ⟨#[]⟩, .string ⟨#[]⟩, .bool false]) (by kernel_rfl) rfl rfl (by kernel_rfl) (by kernel_rfl) (by kernel_rfl) (by kernel_rfl) (by kernel_rfl) ?_
  refine s_store_at 0 ⟨b5, #[.int .i64 0, .int .i64 0, .int .i64 0, .int .i64 0, .string ⟨#[]⟩, .string ⟨#[]⟩, .bool false], 48⟩ (off := 0) (.agg #[.int .i64 1, .int .i64 0, .int .i64 0, .int .i64 0, .string ⟨#[]⟩, .string ⟨#[]⟩, .bool false]) (by kernel_rfl) rfl rfl (by kernel_rfl) (by kernel_rfl) (by kernel_rfl) (by kernel_rfl) (by kernel_rfl) ?_
  refine s_take (L' := [⟨b3, #[.int .i64 0, .int .i64 0, .int .i64 0, .int .i64 0, .string ⟨#[]⟩, .string ⟨#[]⟩, .bool false], 48⟩, ⟨b2, #[.int .i64 0, .int .i64 0, .int .i64 0, .int .i64 0, .string ⟨#[]⟩, .string ⟨#[]⟩, .bool false], 48⟩, ⟨b5, #[.int .i64 1, .int .i64 0, .int .i64 0, .int .i64 0, .string ⟨#[]⟩, .string ⟨#[]⟩, .bool false], 48⟩, ⟨b4, #[.int .i64 (-1), .int .i64 0, .int .i64 0, .int .i64 0, .string ⟨#[]⟩, .string ⟨#[]⟩, .bool false], 48⟩, ⟨b1, (coV c).cells, 26⟩]) (fun w hO => hO.perm ((List.perm_append_comm (l₁ := [_, _]) (l₂ := [_, _])).append_right [_])) ?_
  refine s_nil ?_
  refine fin_seq ?_
  refine ok_seq ?_
  refine ok_join (fun L f => ∃ (p6 p7 : Nat) (j : Nat → Value), L = [⟨p7, (cutV (behC c)).cells, 48⟩, ⟨p6, (cutV ⟨0, c.v, false⟩).cells, 48⟩, ⟨b3, #[.int .i64 0, .int .i64 0, .int .i64 0, .int .i64 0, .string ⟨#[]⟩, .string ⟨#[]⟩, .bool false], 48⟩, ⟨b2, #[.int .i64 0, .int .i64 0, .int .i64 0, .int .i64 0, .string ⟨#[]⟩, .string ⟨#[]⟩, .bool false], 48⟩, ⟨b5, #[.int .i64 1, .int .i64 0, .int .i64 0, .int .i64 0, .string ⟨#[]⟩, .string ⟨#[]⟩, .bool false], 48⟩, ⟨b4, #[.int .i64 (-1), .int .i64 0, .int .i64 0, .int .i64 0, .string ⟨#[]⟩, .string ⟨#[]⟩, .bool false], 48⟩, ⟨b1, (coV c).cells, 26⟩] ∧ f = upds j [(1, .pointer (some ⟨b1, 0, none⟩)), (2, .pointer (some ⟨b2, 0, none⟩)), (3, .pointer (some ⟨b3, 0, none⟩)), (4, .pointer (some ⟨b4, 0, none⟩)), (5, .pointer (some ⟨b5, 0, none⟩)), (6, .pointer (some ⟨p6, 0, none⟩)), (7, .pointer (some ⟨p7, 0, none⟩))]) ?_ ?_
  · skip
    refine ok_anyh (by kernel_rfl) ?_
    refine h_take 0 [] _ (.pointer (some ⟨b1, 2, none⟩)) rfl (by kernel_rfl) (by kernel_rfl) (by kernel_rfl) pq_join (by kernel_rfl) (fun _ _ => by kernel_rfl) ?_
    refine h_load 1 [] _ 4 ⟨b1, (coV c).cells, 26⟩ (off := 2) (.agg #[.int .i64 c.v.maj, .int .i64 c.v.min, .int .i64 c.v.pat, .string (mkS c.v.pre), .string (mkS c.v.build)]) rfl (by kernel_rfl) (by kernel_rfl) (by kernel_rfl) pq_join (by kernel_rfl) rfl (by kernel_rfl) (by kernel_rfl) (by kernel_rfl) ?_
    refine h_take 2 [] _ (.agg #[.int .i64 0, .int .i64 c.v.maj, .int .i64 c.v.min, .int .i64 c.v.pat, .string (mkS c.v.pre), .string (mkS c.v.build), .bool false]) rfl (by kernel_rfl) (by kernel_rfl) (by kernel_rfl) pq_join (by kernel_rfl) (fun _ _ => by kernel_rfl) ?_
    refine h_load 3 [] _ 4 ⟨b1, (coV c).cells, 26⟩ (off := 0) (coV c) rfl (by kernel_rfl) (by kernel_rfl) (by kernel_rfl) pq_join (by kernel_rfl) rfl (by kernel_rfl) (by kernel_rfl) (by kernel_rfl) ?_
    refine h_three 4 5 6 (by kernel_rfl) ?_ ?_ ?_
    · skip
      refine hs_call [] _ (k := 87) (args := #[coV c]) (cutV (behC c)) rfl (by kernel_rfl) (fun _ => by kernel_rfl) (fun w _ => cbehind_any c w hc hp) ?_
      refine h_two 5 6 (by kernel_rfl) ?_ ?_
      · skip
        refine hs_alloc [] _ (.agg #[.int .i64 0, .int .i64 0, .int .i64 0, .int .i64 0, .string ⟨#[]⟩, .string ⟨#[]⟩, .bool false]) rfl (by kernel_rfl) rfl (by kernel_rfl) (fun b6 => ?_)
        refine h_one 6 (by kernel_rfl) ?_
        refine hs_alloc [⟨b6, #[.int .i64 0, .int .i64 0, .int .i64 0, .int .i64 0, .string ⟨#[]⟩, .string ⟨#[]⟩, .bool false], 48⟩] _ (.agg #[.int .i64 0, .int .i64 0, .int .i64 0, .int .i64 0, .string ⟨#[]⟩, .string ⟨#[]⟩, .bool false]) rfl (by kernel_rfl) rfl (by kernel_rfl) (fun b7 => ?_)
        refine h_one 7 (by kernel_rfl) ?_
        refine hs_store [⟨b7, #[.int .i64 0, .int .i64 0, .int .i64 0, .int .i64 0, .string ⟨#[]⟩, .string ⟨#[]⟩, .bool false], 48⟩, ⟨b6, #[.int .i64 0, .int .i64 0, .int .i64 0, .int .i64 0, .string ⟨#[]⟩, .string ⟨#[]⟩, .bool false], 48⟩] _ 1 ⟨b6, #[.int .i64 0, .int .i64 0, .int .i64 0, .int .i64 0, .string ⟨#[]⟩, .string ⟨#[]⟩, .bool false], 48⟩ (off := 0) (.agg #[.int .i64 0, .int .i64 c.v.maj, .int .i64 c.v.min, .int .i64 c.v.pat, .string (mkS c.v.pre), .string (mkS c.v.build), .bool false]) rfl (by kernel_rfl) rfl rfl (by kernel_rfl) (by kernel_rfl) (by kernel_rfl) (by kernel_rfl) (by kernel_rfl) ?_
        refine h_one 8 (by kernel_rfl) ?_
        refine hs_store [⟨b7, #[.int .i64 0, .int .i64 0, .int .i64 0, .int .i64 0, .string ⟨#[]⟩, .string ⟨#[]⟩, .bool false], 48⟩, ⟨b6, #[.int .i64 0, .int .i64 c.v.maj, .int .i64 c.v.min, .int .i64 c.v.pat, .string (mkS c.v.pre), .string (mkS c.v.build), .bool false], 48⟩] _ 0 ⟨b7, #[.int .i64 0, .int .i64 0, .int .i64 0, .int .i64 0, .string ⟨#[]⟩, .string ⟨#[]⟩, .bool false], 48⟩ (off := 0) (cutV (behC c)) rfl (by kernel_rfl) rfl rfl (by kernel_rfl) (by kernel_rfl) (by kernel_rfl) (by kernel_rfl) (by kernel_rfl) ?_
        refine h_done (by kernel_rfl) ?_
        exact fin_join ⟨b6, b7, _, rfl, upds_self _ ⟨by kernel_rfl, by kernel_rfl, by kernel_rfl, by kernel_rfl, by kernel_rfl, by kernel_rfl, by kernel_rfl, trivial⟩⟩
      · skip
        refine hs_alloc [] _ (.agg #[.int .i64 0, .int .i64 0, .int .i64 0, .int .i64 0, .string ⟨#[]⟩, .string ⟨#[]⟩, .bool false]) rfl (by kernel_rfl) rfl (by kernel_rfl) (fun b6 => ?_)
        refine h_one 5 (by kernel_rfl) ?_
        refine hs_alloc [⟨b6, #[.int .i64 0, .int .i64 0, .int .i64 0, .int .i64 0, .string ⟨#[]⟩, .string ⟨#[]⟩, .bool false], 48⟩] _ (.agg #[.int .i64 0, .int .i64 0, .int .i64 0, .int .i64 0, .string ⟨#[]⟩, .string ⟨#[]⟩, .bool false]) rfl (by kernel_rfl) rfl (by kernel_rfl) (fun b7 => ?_)
        refine h_one 7 (by kernel_rfl) ?_
        refine hs_store [⟨b7, #[.int .i64 0, .int .i64 0, .int .i64 0, .int .i64 0, .string ⟨#[]⟩, .string ⟨#[]⟩, .bool false], 48⟩, ⟨b6, #[.int .i64 0, .int .i64 0, .int .i64 0, .int .i64 0, .string ⟨#[]⟩, .string ⟨#[]⟩, .bool false], 48⟩] _ 0 ⟨b7, #[.int .i64 0, .int .i64 0, .int .i64 0, .int .i64 0, .string ⟨#[]⟩, .string ⟨#[]⟩, .bool false], 48⟩ (off := 0) (.agg #[.int .i64 0, .int .i64 c.v.maj, .int .i64 c.v.min, .int .i64 c.v.pat, .string (mkS c.v.pre), .string (mkS c.v.build), .bool false]) rfl (by kernel_rfl) rfl rfl (by kernel_rfl) (by kernel_rfl) (by kernel_rfl) (by kernel_rfl) (by kernel_rfl) ?_
        refine h_one 8 (by kernel_rfl) ?_
        refine hs_store [⟨b7, #[.int .i64 0, .int .i64 c.v.maj, .int .i64 c.v.min, .int .i64 c.v.pat, .string (mkS c.v.pre), .string (mkS c.v.build), .bool false], 48⟩, ⟨b6, #[.int .i64 0, .int .i64 0, .int .i64 0, .int .i64 0, .string ⟨#[]⟩, .string ⟨#[]⟩, .bool false], 48⟩] _ 1 ⟨b6, #[.int .i64 0, .int .i64 0, .int .i64 0, .int .i64 0, .string ⟨#[]⟩, .string ⟨#[]⟩, .bool false], 48⟩ (off := 0) (cutV (behC c)) rfl (by kernel_rfl) rfl rfl (by kernel_rfl) (by kernel_rfl) (by kernel_rfl) (by kernel_rfl) (by kernel_rfl) ?_
        refine h_done (by kernel_rfl) ?_
        refine fin_swap ?_
        exact fin_join ⟨b7, b6, _, rfl, upds_self _ ⟨by kernel_rfl, by kernel_rfl, by kernel_rfl, by kernel_rfl, by kernel_rfl, by kernel_rfl, by kernel_rfl, trivial⟩⟩
    · skip
      refine hs_alloc [] _ (.agg #[.int .i64 0, .int .i64 0, .int .i64 0, .int .i64 0, .string ⟨#[]⟩, .string ⟨#[]⟩, .bool false]) rfl (by kernel_rfl) rfl (by kernel_rfl) (fun b6 => ?_)
      refine h_two 4 6 (by kernel_rfl) ?_ ?_
      · skip
        refine hs_call [⟨b6, #[.int .i64 0, .int .i64 0, .int .i64 0, .int .i64 0, .string ⟨#[]⟩, .string ⟨#[]⟩, .bool false], 48⟩] _ (k := 87) (args := #[coV c]) (cutV (behC c)) rfl (by kernel_rfl) (fun _ => by kernel_rfl) (fun w _ => cbehind_any c w hc hp) ?_
        refine h_one 6 (by kernel_rfl) ?_
        refine hs_alloc [⟨b6, #[.int .i64 0, .int .i64 0, .int .i64 0, .int .i64 0, .string ⟨#[]⟩, .string ⟨#[]⟩, .bool false], 48⟩] _ (.agg #[.int .i64 0, .int .i64 0, .int .i64 0, .int .i64 0, .string ⟨#[]⟩, .string ⟨#[]⟩, .bool false]) rfl (by kernel_rfl) rfl (by kernel_rfl) (fun b7 => ?_)
        refine h_one 7 (by kernel_rfl) ?_
        refine hs_store [⟨b7, #[.int .i64 0, .int .i64 0, .int .i64 0, .int .i64 0, .string ⟨#[]⟩, .string ⟨#[]⟩, .bool false], 48⟩, ⟨b6, #[.int .i64 0, .int .i64 0, .int .i64 0, .int .i64 0, .string ⟨#[]⟩, .string ⟨#[]⟩, .bool false], 48⟩] _ 1 ⟨b6, #[.int .i64 0, .int .i64 0, .int .i64 0, .int .i64 0, .string ⟨#[]⟩, .string ⟨#[]⟩, .bool false], 48⟩ (off := 0) (.agg #[.int .i64 0, .int .i64 c.v.maj, .int .i64 c.v.min, .int .i64 c.v.pat, .string (mkS c.v.pre), .string (mkS c.v.build), .bool false]) rfl (by kernel_rfl) rfl rfl (by kernel_rfl) (by kernel_rfl) (by kernel_rfl) (by kernel_rfl) (by kernel_rfl) ?_
        refine h_one 8 (by kernel_rfl) ?_
        refine hs_store [⟨b7, #[.int .i64 0, .int .i64 0, .int .i64 0, .int .i64 0, .string ⟨#[]⟩, .string ⟨#[]⟩, .bool false], 48⟩, ⟨b6, #[.int .i64 0, .int .i64 c.v.maj, .int .i64 c.v.min, .int .i64 c.v.pat, .string (mkS c.v.pre), .string (mkS c.v.build), .bool false], 48⟩] _ 0 ⟨b7, #[.int .i64 0, .int .i64 0, .int .i64 0, .int .i64 0, .string ⟨#[]⟩, .string ⟨#[]⟩, .bool false], 48⟩ (off := 0) (cutV (behC c)) rfl (by kernel_rfl) rfl rfl (by kernel_rfl) (by kernel_rfl) (by kernel_rfl) (by kernel_rfl) (by kernel_rfl) ?_
        refine h_done (by kernel_rfl) ?_
        exact fin_join ⟨b6, b7, _, rfl, upds_self _ ⟨by kernel_rfl, by kernel_rfl, by kernel_rfl, by kernel_rfl, by kernel_rfl, by kernel_rfl, by kernel_rfl, trivial⟩⟩
      · skip
        refine hs_alloc [⟨b6, #[.int .i64 0, .int .i64 0, .int .i64 0, .int .i64 0, .string ⟨#[]⟩, .string ⟨#[]⟩, .bool false], 48⟩] _ (.agg #[.int .i64 0, .int .i64 0, .int .i64 0, .int .i64 0, .string ⟨#[]⟩, .string ⟨#[]⟩, .bool false]) rfl (by kernel_rfl) rfl (by kernel_rfl) (fun b7 => ?_)
        refine h_one 4 (by kernel_rfl) ?_
        refine hs_call [⟨b7, #[.int .i64 0, .int .i64 0, .int .i64 0, .int .i64 0, .string ⟨#[]⟩, .string ⟨#[]⟩, .bool false], 48⟩, ⟨b6, #[.int .i64 0, .int .i64 0, .int .i64 0, .int .i64 0, .string ⟨#[]⟩, .string ⟨#[]⟩, .bool false], 48⟩] _ (k := 87) (args := #[coV c]) (cutV (behC c)) rfl (by kernel_rfl) (fun _ => by kernel_rfl) (fun w _ => cbehind_any c w hc hp) ?_
        refine h_one 7 (by kernel_rfl) ?_
        refine hs_store [⟨b7, #[.int .i64 0, .int .i64 0, .int .i64 0, .int .i64 0, .string ⟨#[]⟩, .string ⟨#[]⟩, .bool false], 48⟩, ⟨b6, #[.int .i64 0, .int .i64 0, .int .i64 0, .int .i64 0, .string ⟨#[]⟩, .string ⟨#[]⟩, .bool false], 48⟩] _ 1 ⟨b6, #[.int .i64 0, .int .i64 0, .int .i64 0, .int .i64 0, .string ⟨#[]⟩, .string ⟨#[]⟩, .bool false], 48⟩ (off := 0) (.agg #[.int .i64 0, .int .i64 c.v.maj, .int .i64 c.v.min, .int .i64 c.v.pat, .string (mkS c.v.pre), .string (mkS c.v.build), .bool false]) rfl (by kernel_rfl) rfl rfl (by kernel_rfl) (by kernel_rfl) (by kernel_rfl) (by kernel_rfl) (by kernel_rfl) ?_
        refine h_one 8 (by kernel_rfl) ?_
        refine hs_store [⟨b7, #[.int .i64 0, .int .i64 0, .int .i64 0, .int .i64 0, .string ⟨#[]⟩, .string ⟨#[]⟩, .bool false], 48⟩, ⟨b6, #[.int .i64 0, .int .i64 c.v.maj, .int .i64 c.v.min, .int .i64 c.v.pat, .string (mkS c.v.pre), .string (mkS c.v.build), .bool false], 48⟩] _ 0 ⟨b7, #[.int .i64 0, .int .i64 0, .int .i64 0, .int .i64 0, .string ⟨#[]⟩, .string ⟨#[]⟩, .bool false], 48⟩ (off := 0) (cutV (behC c)) rfl (by kernel_rfl) rfl rfl (by kernel_rfl) (by kernel_rfl) (by kernel_rfl) (by kernel_rfl) (by kernel_rfl) ?_
        refine h_done (by kernel_rfl) ?_
        exact fin_join ⟨b6, b7, _, rfl, upds_self _ ⟨by kernel_rfl, by kernel_rfl, by kernel_rfl, by kernel_rfl, by kernel_rfl, by kernel_rfl, by kernel_rfl, trivial⟩⟩
    · skip
      refine hs_alloc [] _ (.agg #[.int .i64 0, .int .i64 0, .int .i64 0, .int .i64 0, .string ⟨#[]⟩, .string ⟨#[]⟩, .bool false]) rfl (by kernel_rfl) rfl (by kernel_rfl) (fun b6 => ?_)
      refine h_two 4 5 (by kernel_rfl) ?_ ?_
      · skip
        refine hs_call [⟨b6, #[.int .i64 0, .int .i64 0, .int .i64 0, .int .i64 0, .string ⟨#[]⟩, .string ⟨#[]⟩, .bool false], 48⟩] _ (k := 87) (args := #[coV c]) (cutV (behC c)) rfl (by kernel_rfl) (fun _ => by kernel_rfl) (fun w _ => cbehind_any c w hc hp) ?_
        refine h_one 5 (by kernel_rfl) ?_
        refine hs_alloc [⟨b6, #[.int .i64 0, .int .i64 0, .int .i64 0, .int .i64 0, .string ⟨#[]⟩, .string ⟨#[]⟩, .bool false], 48⟩] _ (.agg #[.int .i64 0, .int .i64 0, .int .i64 0, .int .i64 0, .string ⟨#[]⟩, .string ⟨#[]⟩, .bool false]) rfl (by kernel_rfl) rfl (by kernel_rfl) (fun b7 => ?_)
        refine h_one 7 (by kernel_rfl) ?_
        refine hs_store [⟨b7, #[.int .i64 0, .int .i64 0, .int .i64 0, .int .i64 0, .string ⟨#[]⟩, .string ⟨#[]⟩, .bool false], 48⟩, ⟨b6, #[.int .i64 0, .int .i64 0, .int .i64 0, .int .i64 0, .string ⟨#[]⟩, .string ⟨#[]⟩, .bool false], 48⟩] _ 0 ⟨b7, #[.int .i64 0, .int .i64 0, .int .i64 0, .int .i64 0, .string ⟨#[]⟩, .string ⟨#[]⟩, .bool false], 48⟩ (off := 0) (.agg #[.int .i64 0, .int .i64 c.v.maj, .int .i64 c.v.min, .int .i64 c.v.pat, .string (mkS c.v.pre), .string (mkS c.v.build), .bool false]) rfl (by kernel_rfl) rfl rfl (by kernel_rfl) (by kernel_rfl) (by kernel_rfl) (by kernel_rfl) (by kernel_rfl) ?_
        refine h_one 8 (by kernel_rfl) ?_
        refine hs_store [⟨b7, #[.int .i64 0, .int .i64 c.v.maj, .int .i64 c.v.min, .int .i64 c.v.pat, .string (mkS c.v.pre), .string (mkS c.v.build), .bool false], 48⟩, ⟨b6, #[.int .i64 0, .int .i64 0, .int .i64 0, .int .i64 0, .string ⟨#[]⟩, .string ⟨#[]⟩, .bool false], 48⟩] _ 1 ⟨b6, #[.int .i64 0, .int .i64 0, .int .i64 0, .int .i64 0, .string ⟨#[]⟩, .string ⟨#[]⟩, .bool false], 48⟩ (off := 0) (cutV (behC c)) rfl (by kernel_rfl) rfl rfl (by kernel_rfl) (by kernel_rfl) (by kernel_rfl) (by kernel_rfl) (by kernel_rfl) ?_
        refine h_done (by kernel_rfl) ?_
        refine fin_swap ?_
        exact fin_join ⟨b7, b6, _, rfl, upds_self _ ⟨by kernel_rfl, by kernel_rfl, by kernel_rfl, by kernel_rfl, by kernel_rfl, by kernel_rfl, by kernel_rfl, trivial⟩⟩
      · skip
        refine hs_alloc [⟨b6, #[.int .i64 0, .int .i64 0, .int .i64 0, .int .i64 0, .string ⟨#[]⟩, .string ⟨#[]⟩, .bool false], 48⟩] _ (.agg #[.int .i64 0, .int .i64 0, .int .i64 0, .int .i64 0, .string ⟨#[]⟩, .string ⟨#[]⟩, .bool false]) rfl (by kernel_rfl) rfl (by kernel_rfl) (fun b7 => ?_)
        refine h_one 4 (by kernel_rfl) ?_
        refine hs_call [⟨b7, #[.int .i64 0, .int .i64 0, .int .i64 0, .int .i64 0, .string ⟨#[]⟩, .string ⟨#[]⟩, .bool false], 48⟩, ⟨b6, #[.int .i64 0, .int .i64 0, .int .i64 0, .int .i64 0, .string ⟨#[]⟩, .string ⟨#[]⟩, .bool false], 48⟩] _ (k := 87) (args := #[coV c]) (cutV (behC c)) rfl (by kernel_rfl) (fun _ => by kernel_rfl) (fun w _ => cbehind_any c w hc hp) ?_
        refine h_one 7 (by kernel_rfl) ?_
        refine hs_store [⟨b7, #[.int .i64 0, .int .i64 0, .int .i64 0, .int .i64 0, .string ⟨#[]⟩, .string ⟨#[]⟩, .bool false], 48⟩, ⟨b6, #[.int .i64 0, .int .i64 0, .int .i64 0, .int .i64 0, .string ⟨#[]⟩, .string ⟨#[]⟩, .bool false], 48⟩] _ 0 ⟨b7, #[.int .i64 0, .int .i64 0, .int .i64 0, .int .i64 0, .string ⟨#[]⟩, .string ⟨#[]⟩, .bool false], 48⟩ (off := 0) (.agg #[.int .i64 0, .int .i64 c.v.maj, .int .i64 c.v.min, .int .i64 c.v.pat, .string (mkS c.v.pre), .string (mkS c.v.build), .bool false]) rfl (by kernel_rfl) rfl rfl (by kernel_rfl) (by kernel_rfl) (by kernel_rfl) (by kernel_rfl) (by kernel_rfl) ?_
        refine h_one 8 (by kernel_rfl) ?_
        refine hs_store [⟨b7, #[.int .i64 0, .int .i64 c.v.maj, .int .i64 c.v.min, .int .i64 c.v.pat, .string (mkS c.v.pre), .string (mkS c.v.build), .bool false], 48⟩, ⟨b6, #[.int .i64 0, .int .i64 0, .int .i64 0, .int .i64 0, .string ⟨#[]⟩, .string ⟨#[]⟩, .bool false], 48⟩] _ 1 ⟨b6, #[.int .i64 0, .int .i64 0, .int .i64 0, .int .i64 0, .string ⟨#[]⟩, .string ⟨#[]⟩, .bool false], 48⟩ (off := 0) (cutV (behC c)) rfl (by kernel_rfl) rfl rfl (by kernel_rfl) (by kernel_rfl) (by kernel_rfl) (by kernel_rfl) (by kernel_rfl) ?_
        refine h_done (by kernel_rfl) ?_
        refine fin_swap ?_
        exact fin_join ⟨b7, b6, _, rfl, upds_self _ ⟨by kernel_rfl, by kernel_rfl, by kernel_rfl, by kernel_rfl, by kernel_rfl, by kernel_rfl, by kernel_rfl, trivial⟩⟩
  · rintro L f ⟨p6, p7, j, rfl, rfl⟩
    refine fin_take (L' := [⟨b3, #[.int .i64 0, .int .i64 0, .int .i64 0, .int .i64 0, .string ⟨#[]⟩, .string ⟨#[]⟩, .bool false], 48⟩, ⟨b2, #[.int .i64 0, .int .i64 0, .int .i64 0, .int .i64 0, .string ⟨#[]⟩, .string ⟨#[]⟩, .bool false], 48⟩, ⟨p7, (cutV (behC c)).cells, 48⟩, ⟨p6, (cutV ⟨0, c.v, false⟩).cells, 48⟩, ⟨b5, #[.int .i64 1, .int .i64 0, .int .i64 0, .int .i64 0, .string ⟨#[]⟩, .string ⟨#[]⟩, .bool false], 48⟩, ⟨b4, #[.int .i64 (-1), .int .i64 0, .int .i64 0, .int .i64 0, .string ⟨#[]⟩, .string ⟨#[]⟩, .bool false], 48⟩, ⟨b1, (coV c).cells, 26⟩]) (fun w hO => hO.perm ((List.perm_append_comm (l₁ := [_, _]) (l₂ := [_, _])).append_right [_, _, _])) ?_
    refine fin_seq ?_
    refine ok_seq ?_
    refine ok_seq ?_
    refine ok_region ?_
    refine s_val (.pointer (some ⟨b1, 0, none⟩)) (by kernel_rfl) (fun _ => by kernel_rfl) ?_
    refine s_load 6 ⟨b1, (coV c).cells, 26⟩ (off := 0) (.int .i64 c.op) (by kernel_rfl) rfl (by kernel_rfl) (by kernel_rfl) (by kernel_rfl) ?_
    refine s_nil ?_
    refine fin_seq ?_
    refine ok_block ?_
    refine ok_seq ?_
    refine ok_region ?_
    by_cases h1 : (c.op : Int) = 3
    · skip
      refine s_dec (p := (c.op : Int) = 3) true (by kernel_rfl) (fun _ => by kernel_rfl) (decide_eq_true (h1)) ?_
      refine s_val (.bool true) (by kernel_rfl) (fun _ => by kernel_rfl) ?_
      refine s_nil ?_
      refine fin_seq ?_
      refine ok_true (by kernel_rfl) ?_
      refine ok_seq ?_
      refine ok_anyhL ([⟨p7, (cutV (behC c)).cells, 48⟩, ⟨p6, (cutV ⟨0, c.v, false⟩).cells, 48⟩, ⟨b5, #[.int .i64 1, .int .i64 0, .int .i64 0, .int .i64 0, .string ⟨#[]⟩, .string ⟨#[]⟩, .bool false], 48⟩, ⟨b4, #[.int .i64 (-1), .int .i64 0, .int .i64 0, .int .i64 0, .string ⟨#[]⟩, .string ⟨#[]⟩, .bool false], 48⟩, ⟨b1, (coV c).cells, 26⟩]) (by kernel_rfl) (fun w hO => Own.sub [⟨b3, #[.int .i64 0, .int .i64 0, .int .i64 0, .int .i64 0, .string ⟨#[]⟩, .string ⟨#[]⟩, .bool false], 48⟩, ⟨b2, #[.int .i64 0, .int .i64 0, .int .i64 0, .int .i64 0, .string ⟨#[]⟩, .string ⟨#[]⟩, .bool false], 48⟩] hO) ?_
      refine h_load 0 [⟨b3, #[.int .i64 0, .int .i64 0, .int .i64 0, .int .i64 0, .string ⟨#[]⟩, .string ⟨#[]⟩, .bool false], 48⟩, ⟨b2, #[.int .i64 0, .int .i64 0, .int .i64 0, .int .i64 0, .string ⟨#[]⟩, .string ⟨#[]⟩, .bool false], 48⟩] _ 3 ⟨b4, #[.int .i64 (-1), .int .i64 0, .int .i64 0, .int .i64 0, .string ⟨#[]⟩, .string ⟨#[]⟩, .bool false], 48⟩ (off := 0) (.agg #[.int .i64 (-1), .int .i64 0, .int .i64 0, .int .i64 0, .string ⟨#[]⟩, .string ⟨#[]⟩, .bool false]) rfl (by kernel_rfl) (by kernel_rfl) (by kernel_rfl) (pq_seq (pq_block (pq_seq pq_body))) (by kernel_rfl) rfl (by kernel_rfl) (by kernel_rfl) (by kernel_rfl) ?_
      refine h_load 1 [⟨b3, #[.int .i64 0, .int .i64 0, .int .i64 0, .int .i64 0, .string ⟨#[]⟩, .string ⟨#[]⟩, .bool false], 48⟩, ⟨b2, #[.int .i64 0, .int .i64 0, .int .i64 0, .int .i64 0, .string ⟨#[]⟩, .string ⟨#[]⟩, .bool false], 48⟩] _ 1 ⟨p6, (cutV ⟨0, c.v, false⟩).cells, 48⟩ (off := 0) (cutV ⟨0, c.v, false⟩) rfl (by kernel_rfl) (by kernel_rfl) (by kernel_rfl) (pq_seq (pq_block (pq_seq pq_body))) (by kernel_rfl) rfl (by kernel_rfl) (by kernel_rfl) (by kernel_rfl) ?_
      refine h_one 2 (by kernel_rfl) ?_
      refine hs_store [⟨b3, #[.int .i64 0, .int .i64 0, .int .i64 0, .int .i64 0, .string ⟨#[]⟩, .string ⟨#[]⟩, .bool false], 48⟩, ⟨b2, #[.int .i64 0, .int .i64 0, .int .i64 0, .int .i64 0, .string ⟨#[]⟩, .string ⟨#[]⟩, .bool false], 48⟩] _ 1 ⟨b2, #[.int .i64 0, .int .i64 0, .int .i64 0, .int .i64 0, .string ⟨#[]⟩, .string ⟨#[]⟩, .bool false], 48⟩ (off := 0) (.agg #[.int .i64 (-1), .int .i64 0, .int .i64 0, .int .i64 0, .string ⟨#[]⟩, .string ⟨#[]⟩, .bool false]) rfl (by kernel_rfl) rfl rfl (by kernel_rfl) (by kernel_rfl) (by kernel_rfl) (by kernel_rfl) (by kernel_rfl) ?_
      refine h_one 3 (by kernel_rfl) ?_
      refine hs_store [⟨b3, #[.int .i64 0, .int .i64 0, .int .i64 0, .int .i64 0, .string ⟨#[]⟩, .string ⟨#[]⟩, .bool false], 48⟩, ⟨b2, #[.int .i64 (-1), .int .i64 0, .int .i64 0, .int .i64 0, .string ⟨#[]⟩, .string ⟨#[]⟩, .bool false], 48⟩] _ 0 ⟨b3, #[.int .i64 0, .int .i64 0, .int .i64 0, .int .i64 0, .string ⟨#[]⟩, .string ⟨#[]⟩, .bool false], 48⟩ (off := 0) (cutV ⟨0, c.v, false⟩) rfl (by kernel_rfl) rfl rfl (by kernel_rfl) (by kernel_rfl) (by kernel_rfl) (by kernel_rfl) (by kernel_rfl) ?_
      refine h_done (by kernel_rfl) ?_
      refine fin_seq ?_
      refine ok_ret ?_
      refine fin_block_ret ?_
      refine fin_seq_ret ?_
      refine fin_cc 1 0 ⟨b2, #[.int .i64 (-1), .int .i64 0, .int .i64 0, .int .i64 0, .string ⟨#[]⟩, .string ⟨#[]⟩, .bool false], 48⟩ ⟨b3, (cutV ⟨0, c.v, false⟩).cells, 48⟩ (off := 0) (oft := 0) (.agg #[.int .i64 (-1), .int .i64 0, .int .i64 0, .int .i64 0, .string ⟨#[]⟩, .string ⟨#[]⟩, .bool false]) (cutV ⟨0, c.v, false⟩) Tryz.results53 (by kernel_rfl) (by kernel_rfl) (by kernel_rfl) (by kernel_rfl) (by kernel_rfl) (by kernel_rfl) ?_
      exact fun w hO => ⟨by rw [show boundC c = ((endC (-1)), ⟨0, c.v, false⟩) from by unfold boundC; simp [h1]]; try rfl, hO.below⟩
    · skip
      refine s_dec (p := (c.op : Int) = 3) false (by kernel_rfl) (fun _ => by kernel_rfl) (decide_eq_false (h1)) ?_
      refine s_val (.bool false) (by kernel_rfl) (fun _ => by kernel_rfl) ?_
      refine s_nil ?_
      refine fin_seq ?_
      refine ok_false (by kernel_rfl) ?_
      refine ok_seq ?_
      refine ok_region ?_
      by_cases h2 : (c.op : Int) = 4
      · skip
        refine s_dec (p := (c.op : Int) = 4) true (by kernel_rfl) (fun _ => by kernel_rfl) (decide_eq_true (h2)) ?_
        refine s_val (.bool true) (by kernel_rfl) (fun _ => by kernel_rfl) ?_
        refine s_nil ?_
        refine fin_seq ?_
        refine ok_true (by kernel_rfl) ?_
        refine ok_seq ?_
        refine ok_anyhL ([⟨p7, (cutV (behC c)).cells, 48⟩, ⟨p6, (cutV ⟨0, c.v, false⟩).cells, 48⟩, ⟨b5, #[.int .i64 1, .int .i64 0, .int .i64 0, .int .i64 0, .string ⟨#[]⟩, .string ⟨#[]⟩, .bool false], 48⟩, ⟨b4, #[.int .i64 (-1), .int .i64 0, .int .i64 0, .int .i64 0, .string ⟨#[]⟩, .string ⟨#[]⟩, .bool false], 48⟩, ⟨b1, (coV c).cells, 26⟩]) (by kernel_rfl) (fun w hO => Own.sub [⟨b3, #[.int .i64 0, .int .i64 0, .int .i64 0, .int .i64 0, .string ⟨#[]⟩, .string ⟨#[]⟩, .bool false], 48⟩, ⟨b2, #[.int .i64 0, .int .i64 0, .int .i64 0, .int .i64 0, .string ⟨#[]⟩, .string ⟨#[]⟩, .bool false], 48⟩] hO) ?_
        refine h_load 0 [⟨b3, #[.int .i64 0, .int .i64 0, .int .i64 0, .int .i64 0, .string ⟨#[]⟩, .string ⟨#[]⟩, .bool false], 48⟩, ⟨b2, #[.int .i64 0, .int .i64 0, .int .i64 0, .int .i64 0, .string ⟨#[]⟩, .string ⟨#[]⟩, .bool false], 48⟩] _ 3 ⟨b4, #[.int .i64 (-1), .int .i64 0, .int .i64 0, .int .i64 0, .string ⟨#[]⟩, .string ⟨#[]⟩, .bool false], 48⟩ (off := 0) (.agg #[.int .i64 (-1), .int .i64 0, .int .i64 0, .int .i64 0, .string ⟨#[]⟩, .string ⟨#[]⟩, .bool false]) rfl (by kernel_rfl) (by kernel_rfl) (by kernel_rfl) (pq_seq (pq_block (pq_seq pq_body))) (by kernel_rfl) rfl (by kernel_rfl) (by kernel_rfl) (by kernel_rfl) ?_
        refine h_load 1 [⟨b3, #[.int .i64 0, .int .i64 0, .int .i64 0, .int .i64 0, .string ⟨#[]⟩, .string ⟨#[]⟩, .bool false], 48⟩, ⟨b2, #[.int .i64 0, .int .i64 0, .int .i64 0, .int .i64 0, .string ⟨#[]⟩, .string ⟨#[]⟩, .bool false], 48⟩] _ 0 ⟨p7, (cutV (behC c)).cells, 48⟩ (off := 0) (cutV (behC c)) rfl (by kernel_rfl) (by kernel_rfl) (by kernel_rfl) (pq_seq (pq_block (pq_seq pq_body))) (by kernel_rfl) rfl (by kernel_rfl) (by kernel_rfl) (by kernel_rfl) ?_
        refine h_one 2 (by kernel_rfl) ?_
        refine hs_store [⟨b3, #[.int .i64 0, .int .i64 0, .int .i64 0, .int .i64 0, .string ⟨#[]⟩, .string ⟨#[]⟩, .bool false], 48⟩, ⟨b2, #[.int .i64 0, .int .i64 0, .int .i64 0, .int .i64 0, .string ⟨#[]⟩, .string ⟨#[]⟩, .bool false], 48⟩] _ 1 ⟨b2, #[.int .i64 0, .int .i64 0, .int .i64 0, .int .i64 0, .string ⟨#[]⟩, .string ⟨#[]⟩, .bool false], 48⟩ (off := 0) (.agg #[.int .i64 (-1), .int .i64 0, .int .i64 0, .int .i64 0, .string ⟨#[]⟩, .string ⟨#[]⟩, .bool false]) rfl (by kernel_rfl) rfl rfl (by kernel_rfl) (by kernel_rfl) (by kernel_rfl) (by kernel_rfl) (by kernel_rfl) ?_
        refine h_one 3 (by kernel_rfl) ?_
        refine hs_store [⟨b3, #[.int .i64 0, .int .i64 0, .int .i64 0, .int .i64 0, .string ⟨#[]⟩, .string ⟨#[]⟩, .bool false], 48⟩, ⟨b2, #[.int .i64 (-1), .int .i64 0, .int .i64 0, .int .i64 0, .string ⟨#[]⟩, .string ⟨#[]⟩, .bool false], 48⟩] _ 0 ⟨b3, #[.int .i64 0, .int .i64 0, .int .i64 0, .int .i64 0, .string ⟨#[]⟩, .string ⟨#[]⟩, .bool false], 48⟩ (off := 0) (cutV (behC c)) rfl (by kernel_rfl) rfl rfl (by kernel_rfl) (by kernel_rfl) (by kernel_rfl) (by kernel_rfl) (by kernel_rfl) ?_
        refine h_done (by kernel_rfl) ?_
        refine fin_seq ?_
        refine ok_ret ?_
        refine fin_block_ret ?_
        refine fin_seq_ret ?_
        refine fin_cc 1 0 ⟨b2, #[.int .i64 (-1), .int .i64 0, .int .i64 0, .int .i64 0, .string ⟨#[]⟩, .string ⟨#[]⟩, .bool false], 48⟩ ⟨b3, (cutV (behC c)).cells, 48⟩ (off := 0) (oft := 0) (.agg #[.int .i64 (-1), .int .i64 0, .int .i64 0, .int .i64 0, .string ⟨#[]⟩, .string ⟨#[]⟩, .bool false]) (cutV (behC c)) Tryz.results53 (by kernel_rfl) (by kernel_rfl) (by kernel_rfl) (by kernel_rfl) (by kernel_rfl) (by kernel_rfl) ?_
        exact fun w hO => ⟨by rw [show boundC c = ((endC (-1)), (behC c)) from by unfold boundC; simp [h1, h2]]; try rfl, hO.below⟩
      · skip
        refine s_dec (p := (c.op : Int) = 4) false (by kernel_rfl) (fun _ => by kernel_rfl) (decide_eq_false (h2)) ?_
        refine s_val (.bool false) (by kernel_rfl) (fun _ => by kernel_rfl) ?_
        refine s_nil ?_
        refine fin_seq ?_
        refine ok_false (by kernel_rfl) ?_
        refine ok_seq ?_
        refine ok_region ?_
        by_cases h3 : (c.op : Int) = 5
        · skip
          refine s_dec (p := (c.op : Int) = 5) true (by kernel_rfl) (fun _ => by kernel_rfl) (decide_eq_true (h3)) ?_
          refine s_val (.bool true) (by kernel_rfl) (fun _ => by kernel_rfl) ?_
          refine s_nil ?_
          refine fin_seq ?_
          refine ok_true (by kernel_rfl) ?_
          refine ok_seq ?_
          refine ok_anyhL ([⟨p7, (cutV (behC c)).cells, 48⟩, ⟨p6, (cutV ⟨0, c.v, false⟩).cells, 48⟩, ⟨b5, #[.int .i64 1, .int .i64 0, .int .i64 0, .int .i64 0, .string ⟨#[]⟩, .string ⟨#[]⟩, .bool false], 48⟩, ⟨b4, #[.int .i64 (-1), .int .i64 0, .int .i64 0, .int .i64 0, .string ⟨#[]⟩, .string ⟨#[]⟩, .bool false], 48⟩, ⟨b1, (coV c).cells, 26⟩]) (by kernel_rfl) (fun w hO => Own.sub [⟨b3, #[.int .i64 0, .int .i64 0, .int .i64 0, .int .i64 0, .string ⟨#[]⟩, .string ⟨#[]⟩, .bool false], 48⟩, ⟨b2, #[.int .i64 0, .int .i64 0, .int .i64 0, .int .i64 0, .string ⟨#[]⟩, .string ⟨#[]⟩, .bool false], 48⟩] hO) ?_
          refine h_load 0 [⟨b3, #[.int .i64 0, .int .i64 0, .int .i64 0, .int .i64 0, .string ⟨#[]⟩, .string ⟨#[]⟩, .bool false], 48⟩, ⟨b2, #[.int .i64 0, .int .i64 0, .int .i64 0, .int .i64 0, .string ⟨#[]⟩, .string ⟨#[]⟩, .bool false], 48⟩] _ 0 ⟨p7, (cutV (behC c)).cells, 48⟩ (off := 0) (cutV (behC c)) rfl (by kernel_rfl) (by kernel_rfl) (by kernel_rfl) (pq_seq (pq_block (pq_seq pq_body))) (by kernel_rfl) rfl (by kernel_rfl) (by kernel_rfl) (by kernel_rfl) ?_
          refine h_load 1 [⟨b3, #[.int .i64 0, .int .i64 0, .int .i64 0, .int .i64 0, .string ⟨#[]⟩, .string ⟨#[]⟩, .bool false], 48⟩, ⟨b2, #[.int .i64 0, .int .i64 0, .int .i64 0, .int .i64 0, .string ⟨#[]⟩, .string ⟨#[]⟩, .bool false], 48⟩] _ 2 ⟨b5, #[.int .i64 1, .int .i64 0, .int .i64 0, .int .i64 0, .string ⟨#[]⟩, .string ⟨#[]⟩, .bool false], 48⟩ (off := 0) (.agg #[.int .i64 1, .int .i64 0, .int .i64 0, .int .i64 0, .string ⟨#[]⟩, .string ⟨#[]⟩, .bool false]) rfl (by kernel_rfl) (by kernel_rfl) (by kernel_rfl) (pq_seq (pq_block (pq_seq pq_body))) (by kernel_rfl) rfl (by kernel_rfl) (by kernel_rfl) (by kernel_rfl) ?_
          refine h_one 2 (by kernel_rfl) ?_
          refine hs_store [⟨b3, #[.int .i64 0, .int .i64 0, .int .i64 0, .int .i64 0, .string ⟨#[]⟩, .string ⟨#[]⟩, .bool false], 48⟩, ⟨b2, #[.int .i64 0, .int .i64 0, .int .i64 0, .int .i64 0, .string ⟨#[]⟩, .string ⟨#[]⟩, .bool false], 48⟩] _ 1 ⟨b2, #[.int .i64 0, .int .i64 0, .int .i64 0, .int .i64 0, .string ⟨#[]⟩, .string ⟨#[]⟩, .bool false], 48⟩ (off := 0) (cutV (behC c)) rfl (by kernel_rfl) rfl rfl (by kernel_rfl) (by kernel_rfl) (by kernel_rfl) (by kernel_rfl) (by kernel_rfl) ?_
          refine h_one 3 (by kernel_rfl) ?_
          refine hs_store [⟨b3, #[.int .i64 0, .int .i64 0, .int .i64 0, .int .i64 0, .string ⟨#[]⟩, .string ⟨#[]⟩, .bool false], 48⟩, ⟨b2, (cutV (behC c)).cells, 48⟩] _ 0 ⟨b3, #[.int .i64 0, .int .i64 0, .int .i64 0, .int .i64 0, .string ⟨#[]⟩, .string ⟨#[]⟩, .bool false], 48⟩ (off := 0) (.agg #[.int .i64 1, .int .i64 0, .int .i64 0, .int .i64 0, .string ⟨#[]⟩, .string ⟨#[]⟩, .bool false]) rfl (by kernel_rfl) rfl rfl (by kernel_rfl) (by kernel_rfl) (by kernel_rfl) (by kernel_rfl) (by kernel_rfl) ?_
          refine h_done (by kernel_rfl) ?_
          refine fin_seq ?_
          refine ok_ret ?_
          refine fin_block_ret ?_
          refine fin_seq_ret ?_
          refine fin_cc 1 0 ⟨b2, (cutV (behC c)).cells, 48⟩ ⟨b3, #[.int .i64 1, .int .i64 0, .int .i64 0, .int .i64 0, .string ⟨#[]⟩, .string ⟨#[]⟩, .bool false], 48⟩ (off := 0) (oft := 0) (cutV (behC c)) (.agg #[.int .i64 1, .int .i64 0, .int .i64 0, .int .i64 0, .string ⟨#[]⟩, .string ⟨#[]⟩, .bool false]) Tryz.results53 (by kernel_rfl) (by kernel_rfl) (by kernel_rfl) (by kernel_rfl) (by kernel_rfl) (by kernel_rfl) ?_
          exact fun w hO => ⟨by rw [show boundC c = ((behC c), (endC 1)) from by unfold boundC; simp [h1, h2, h3]]; try rfl, hO.below⟩
        · skip
          refine s_dec (p := (c.op : Int) = 5) false (by kernel_rfl) (fun _ => by kernel_rfl) (decide_eq_false (h3)) ?_
          refine s_val (.bool false) (by kernel_rfl) (fun _ => by kernel_rfl) ?_
          refine s_nil ?_
          refine fin_seq ?_
          refine ok_false (by kernel_rfl) ?_
          refine ok_seq ?_
          refine ok_region ?_
          by_cases h4 : (c.op : Int) = 6
          · skip
            refine s_dec (p := (c.op : Int) = 6) true (by kernel_rfl) (fun _ => by kernel_rfl) (decide_eq_true (h4)) ?_
            refine s_val (.bool true) (by kernel_rfl) (fun _ => by kernel_rfl) ?_
            refine s_nil ?_
            refine fin_seq ?_
            refine ok_true (by kernel_rfl) ?_
            refine ok_seq ?_
            refine ok_anyhL ([⟨p7, (cutV (behC c)).cells, 48⟩, ⟨p6, (cutV ⟨0, c.v, false⟩).cells, 48⟩, ⟨b5, #[.int .i64 1, .int .i64 0, .int .i64 0, .int .i64 0, .string ⟨#[]⟩, .string ⟨#[]⟩, .bool false], 48⟩, ⟨b4, #[.int .i64 (-1), .int .i64 0, .int .i64 0, .int .i64 0, .string ⟨#[]⟩, .string ⟨#[]⟩, .bool false], 48⟩, ⟨b1, (coV c).cells, 26⟩]) (by kernel_rfl) (fun w hO => Own.sub [⟨b3, #[.int .i64 0, .int .i64 0, .int .i64 0, .int .i64 0, .string ⟨#[]⟩, .string ⟨#[]⟩, .bool false], 48⟩, ⟨b2, #[.int .i64 0, .int .i64 0, .int .i64 0, .int .i64 0, .string ⟨#[]⟩, .string ⟨#[]⟩, .bool false], 48⟩] hO) ?_
            refine h_load 0 [⟨b3, #[.int .i64 0, .int .i64 0, .int .i64 0, .int .i64 0, .string ⟨#[]⟩, .string ⟨#[]⟩, .bool false], 48⟩, ⟨b2, #[.int .i64 0, .int .i64 0, .int .i64 0, .int .i64 0, .string ⟨#[]⟩, .string ⟨#[]⟩, .bool false], 48⟩] _ 1 ⟨p6, (cutV ⟨0, c.v, false⟩).cells, 48⟩ (off := 0) (cutV ⟨0, c.v, false⟩) rfl (by kernel_rfl) (by kernel_rfl) (by kernel_rfl) (pq_seq (pq_block (pq_seq pq_body))) (by kernel_rfl) rfl (by kernel_rfl) (by kernel_rfl) (by kernel_rfl) ?_
            refine h_load 1 [⟨b3, #[.int .i64 0, .int .i64 0, .int .i64 0, .int .i64 0, .string ⟨#[]⟩, .string ⟨#[]⟩, .bool false], 48⟩, ⟨b2, #[.int .i64 0, .int .i64 0, .int .i64 0, .int .i64 0, .string ⟨#[]⟩, .string ⟨#[]⟩, .bool false], 48⟩] _ 2 ⟨b5, #[.int .i64 1, .int .i64 0, .int .i64 0, .int .i64 0, .string ⟨#[]⟩, .string ⟨#[]⟩, .bool false], 48⟩ (off := 0) (.agg #[.int .i64 1, .int .i64 0, .int .i64 0, .int .i64 0, .string ⟨#[]⟩, .string ⟨#[]⟩, .bool false]) rfl (by kernel_rfl) (by kernel_rfl) (by kernel_rfl) (pq_seq (pq_block (pq_seq pq_body))) (by kernel_rfl) rfl (by kernel_rfl) (by kernel_rfl) (by kernel_rfl) ?_
            refine h_one 2 (by kernel_rfl) ?_
            refine hs_store [⟨b3, #[.int .i64 0, .int .i64 0, .int .i64 0, .int .i64 0, .string ⟨#[]⟩, .string ⟨#[]⟩, .bool false], 48⟩, ⟨b2, #[.int .i64 0, .int .i64 0, .int .i64 0, .int .i64 0, .string ⟨#[]⟩, .string ⟨#[]⟩, .bool false], 48⟩] _ 1 ⟨b2, #[.int .i64 0, .int .i64 0, .int .i64 0, .int .i64 0, .string ⟨#[]⟩, .string ⟨#[]⟩, .bool false], 48⟩ (off := 0) (cutV ⟨0, c.v, false⟩) rfl (by kernel_rfl) rfl rfl (by kernel_rfl) (by kernel_rfl) (by kernel_rfl) (by kernel_rfl) (by kernel_rfl) ?_
            refine h_one 3 (by kernel_rfl) ?_
            refine hs_store [⟨b3, #[.int .i64 0, .int .i64 0, .int .i64 0, .int .i64 0, .string ⟨#[]⟩, .string ⟨#[]⟩, .bool false], 48⟩, ⟨b2, (cutV ⟨0, c.v, false⟩).cells, 48⟩] _ 0 ⟨b3, #[.int .i64 0, .int .i64 0, .int .i64 0, .int .i64 0, .string ⟨#[]⟩, .string ⟨#[]⟩, .bool false], 48⟩ (off := 0) (.agg #[.int .i64 1, .int .i64 0, .int .i64 0, .int .i64 0, .string ⟨#[]⟩, .string ⟨#[]⟩, .bool false]) rfl (by kernel_rfl) rfl rfl (by kernel_rfl) (by kernel_rfl) (by kernel_rfl) (by kernel_rfl) (by kernel_rfl) ?_
            refine h_done (by kernel_rfl) ?_
            refine fin_seq ?_
            refine ok_ret ?_
            refine fin_block_ret ?_
            refine fin_seq_ret ?_
            refine fin_cc 1 0 ⟨b2, (cutV ⟨0, c.v, false⟩).cells, 48⟩ ⟨b3, #[.int .i64 1, .int .i64 0, .int .i64 0, .int .i64 0, .string ⟨#[]⟩, .string ⟨#[]⟩, .bool false], 48⟩ (off := 0) (oft := 0) (cutV ⟨0, c.v, false⟩) (.agg #[.int .i64 1, .int .i64 0, .int .i64 0, .int .i64 0, .string ⟨#[]⟩, .string ⟨#[]⟩, .bool false]) Tryz.results53 (by kernel_rfl) (by kernel_rfl) (by kernel_rfl) (by kernel_rfl) (by kernel_rfl) (by kernel_rfl) ?_
            exact fun w hO => ⟨by rw [show boundC c = (⟨0, c.v, false⟩, (endC 1)) from by unfold boundC; simp [h1, h2, h3, h4]]; try rfl, hO.below⟩
          · skip
            refine s_dec (p := (c.op : Int) = 6) false (by kernel_rfl) (fun _ => by kernel_rfl) (decide_eq_false (h4)) ?_
            refine s_val (.bool false) (by kernel_rfl) (fun _ => by kernel_rfl) ?_
            refine s_nil ?_
            refine fin_seq ?_
            refine ok_false (by kernel_rfl) ?_
            refine ok_seq ?_
            refine ok_region ?_
            by_cases h5 : (c.op : Int) = 7
            · skip
              refine s_dec (p := (c.op : Int) = 7) true (by kernel_rfl) (fun _ => by kernel_rfl) (decide_eq_true (h5)) ?_
              refine s_val (.bool true) (by kernel_rfl) (fun _ => by kernel_rfl) ?_
              refine s_nil ?_
              refine fin_seq ?_
              refine ok_true (by kernel_rfl) ?_
              refine ok_seq ?_
              refine ok_anyhL ([⟨p7, (cutV (behC c)).cells, 48⟩, ⟨p6, (cutV ⟨0, c.v, false⟩).cells, 48⟩, ⟨b5, #[.int .i64 1, .int .i64 0, .int .i64 0, .int .i64 0, .string ⟨#[]⟩, .string ⟨#[]⟩, .bool false], 48⟩, ⟨b4, #[.int .i64 (-1), .int .i64 0, .int .i64 0, .int .i64 0, .string ⟨#[]⟩, .string ⟨#[]⟩, .bool false], 48⟩, ⟨b1, (coV c).cells, 26⟩]) (by kernel_rfl) (fun w hO => Own.sub [⟨b3, #[.int .i64 0, .int .i64 0, .int .i64 0, .int .i64 0, .string ⟨#[]⟩, .string ⟨#[]⟩, .bool false], 48⟩, ⟨b2, #[.int .i64 0, .int .i64 0, .int .i64 0, .int .i64 0, .string ⟨#[]⟩, .string ⟨#[]⟩, .bool false], 48⟩] hO) ?_
              refine h_load 0 [⟨b3, #[.int .i64 0, .int .i64 0, .int .i64 0, .int .i64 0, .string ⟨#[]⟩, .string ⟨#[]⟩, .bool false], 48⟩, ⟨b2, #[.int .i64 0, .int .i64 0, .int .i64 0, .int .i64 0, .string ⟨#[]⟩, .string ⟨#[]⟩, .bool false], 48⟩] _ 1 ⟨p6, (cutV ⟨0, c.v, false⟩).cells, 48⟩ (off := 0) (cutV ⟨0, c.v, false⟩) rfl (by kernel_rfl) (by kernel_rfl) (by kernel_rfl) (pq_seq (pq_block (pq_seq pq_body))) (by kernel_rfl) rfl (by kernel_rfl) (by kernel_rfl) (by kernel_rfl) ?_
              refine h_take 1 [⟨b3, #[.int .i64 0, .int .i64 0, .int .i64 0, .int .i64 0, .string ⟨#[]⟩, .string ⟨#[]⟩, .bool false], 48⟩, ⟨b2, #[.int .i64 0, .int .i64 0, .int .i64 0, .int .i64 0, .string ⟨#[]⟩, .string ⟨#[]⟩, .bool false], 48⟩] _ (.pointer (some ⟨b1, 2, none⟩)) rfl (by kernel_rfl) (by kernel_rfl) (by kernel_rfl) (pq_seq (pq_block (pq_seq pq_body))) (by kernel_rfl) (fun _ _ => by kernel_rfl) ?_
              refine h_load 2 [⟨b3, #[.int .i64 0, .int .i64 0, .int .i64 0, .int .i64 0, .string ⟨#[]⟩, .string ⟨#[]⟩, .bool false], 48⟩, ⟨b2, #[.int .i64 0, .int .i64 0, .int .i64 0, .int .i64 0, .string ⟨#[]⟩, .string ⟨#[]⟩, .bool false], 48⟩] _ 4 ⟨b1, (coV c).cells, 26⟩ (off := 2) (.agg #[.int .i64 c.v.maj, .int .i64 c.v.min, .int .i64 c.v.pat, .string (mkS c.v.pre), .string (mkS c.v.build)]) rfl (by kernel_rfl) (by kernel_rfl) (by kernel_rfl) (pq_seq (pq_block (pq_seq pq_body))) (by kernel_rfl) rfl (by kernel_rfl) (by kernel_rfl) (by kernel_rfl) ?_
              refine h_load 3 [⟨b3, #[.int .i64 0, .int .i64 0, .int .i64 0, .int .i64 0, .string ⟨#[]⟩, .string ⟨#[]⟩, .bool false], 48⟩, ⟨b2, #[.int .i64 0, .int .i64 0, .int .i64 0, .int .i64 0, .string ⟨#[]⟩, .string ⟨#[]⟩, .bool false], 48⟩] _ 4 ⟨b1, (coV c).cells, 26⟩ (off := 0) (coV c) rfl (by kernel_rfl) (by kernel_rfl) (by kernel_rfl) (pq_seq (pq_block (pq_seq pq_body))) (by kernel_rfl) rfl (by kernel_rfl) (by kernel_rfl) (by kernel_rfl) ?_
              refine h_one 4 (by kernel_rfl) ?_
              refine hs_call [⟨b3, #[.int .i64 0, .int .i64 0, .int .i64 0, .int .i64 0, .string ⟨#[]⟩, .string ⟨#[]⟩, .bool false], 48⟩, ⟨b2, #[.int .i64 0, .int .i64 0, .int .i64 0, .int .i64 0, .string ⟨#[]⟩, .string ⟨#[]⟩, .bool false], 48⟩] _ (k := 89) (args := #[coV c]) (.int .i64 (leadK c)) rfl (by kernel_rfl) (fun _ => by kernel_rfl) (fun w _ => clead_any c w hc hp) ?_
              refine h_one 5 (by kernel_rfl) ?_
              refine hs_call [⟨b3, #[.int .i64 0, .int .i64 0, .int .i64 0, .int .i64 0, .string ⟨#[]⟩, .string ⟨#[]⟩, .bool false], 48⟩, ⟨b2, #[.int .i64 0, .int .i64 0, .int .i64 0, .int .i64 0, .string ⟨#[]⟩, .string ⟨#[]⟩, .bool false], 48⟩] _ (k := 88) (args := #[.agg #[.int .i64 c.v.maj, .int .i64 c.v.min, .int .i64 c.v.pat, .string (mkS c.v.pre), .string (mkS c.v.build)], .int .i64 (leadK c)]) (cutV (highC c.v (leadK c).toNat)) rfl (by kernel_rfl) (fun _ => by kernel_rfl) (fun w _ => ret_v (by unfold highZ; rw [if_neg (by omega)]) (chigh_any c.v (leadK c) w hc (by omega))) ?_
              refine h_one 6 (by kernel_rfl) ?_
              refine hs_store [⟨b3, #[.int .i64 0, .int .i64 0, .int .i64 0, .int .i64 0, .string ⟨#[]⟩, .string ⟨#[]⟩, .bool false], 48⟩, ⟨b2, #[.int .i64 0, .int .i64 0, .int .i64 0, .int .i64 0, .string ⟨#[]⟩, .string ⟨#[]⟩, .bool false], 48⟩] _ 1 ⟨b2, #[.int .i64 0, .int .i64 0, .int .i64 0, .int .i64 0, .string ⟨#[]⟩, .string ⟨#[]⟩, .bool false], 48⟩ (off := 0) (cutV ⟨0, c.v, false⟩) rfl (by kernel_rfl) rfl rfl (by kernel_rfl) (by kernel_rfl) (by kernel_rfl) (by kernel_rfl) (by kernel_rfl) ?_
              refine h_one 7 (by kernel_rfl) ?_
              refine hs_store [⟨b3, #[.int .i64 0, .int .i64 0, .int .i64 0, .int .i64 0, .string ⟨#[]⟩, .string ⟨#[]⟩, .bool false], 48⟩, ⟨b2, (cutV ⟨0, c.v, false⟩).cells, 48⟩] _ 0 ⟨b3, #[.int .i64 0, .int .i64 0, .int .i64 0, .int .i64 0, .string ⟨#[]⟩, .string ⟨#[]⟩, .bool false], 48⟩ (off := 0) (cutV (highC c.v (leadK c).toNat)) rfl (by kernel_rfl) rfl rfl (by kernel_rfl) (by kernel_rfl) (by kernel_rfl) (by kernel_rfl) (by kernel_rfl) ?_
              refine h_done (by kernel_rfl) ?_
              refine fin_seq ?_
              refine ok_ret ?_
              refine fin_block_ret ?_
              refine fin_seq_ret ?_
              refine fin_cc 1 0 ⟨b2, (cutV ⟨0, c.v, false⟩).cells, 48⟩ ⟨b3, (cutV (highC c.v (leadK c).toNat)).cells, 48⟩ (off := 0) (oft := 0) (cutV ⟨0, c.v, false⟩) (cutV (highC c.v (leadK c).toNat)) Tryz.results53 (by kernel_rfl) (by kernel_rfl) (by kernel_rfl) (by kernel_rfl) (by kernel_rfl) (by kernel_rfl) ?_
              exact fun w hO => ⟨by rw [show boundC c = (⟨0, c.v, false⟩, (highC c.v (leadK c).toNat)) from by unfold boundC; simp [h1, h2, h3, h4, h5]]; try rfl, hO.below⟩
            · skip
              refine s_dec (p := (c.op : Int) = 7) false (by kernel_rfl) (fun _ => by kernel_rfl) (decide_eq_false (h5)) ?_
              refine s_val (.bool false) (by kernel_rfl) (fun _ => by kernel_rfl) ?_
              refine s_nil ?_
              refine fin_seq ?_
              refine ok_false (by kernel_rfl) ?_
              refine ok_seq ?_
              refine ok_region ?_
              by_cases h6 : (c.op : Int) = 8
              · skip
                refine s_dec (p := (c.op : Int) = 8) true (by kernel_rfl) (fun _ => by kernel_rfl) (decide_eq_true (h6)) ?_
                refine s_val (.bool true) (by kernel_rfl) (fun _ => by kernel_rfl) ?_
                refine s_nil ?_
                refine fin_seq ?_
                refine ok_true (by kernel_rfl) ?_
                refine ok_seq ?_
                refine ok_anyhL ([⟨p7, (cutV (behC c)).cells, 48⟩, ⟨p6, (cutV ⟨0, c.v, false⟩).cells, 48⟩, ⟨b5, #[.int .i64 1, .int .i64 0, .int .i64 0, .int .i64 0, .string ⟨#[]⟩, .string ⟨#[]⟩, .bool false], 48⟩, ⟨b4, #[.int .i64 (-1), .int .i64 0, .int .i64 0, .int .i64 0, .string ⟨#[]⟩, .string ⟨#[]⟩, .bool false], 48⟩, ⟨b1, (coV c).cells, 26⟩]) (by kernel_rfl) (fun w hO => Own.sub [⟨b3, #[.int .i64 0, .int .i64 0, .int .i64 0, .int .i64 0, .string ⟨#[]⟩, .string ⟨#[]⟩, .bool false], 48⟩, ⟨b2, #[.int .i64 0, .int .i64 0, .int .i64 0, .int .i64 0, .string ⟨#[]⟩, .string ⟨#[]⟩, .bool false], 48⟩] hO) ?_
                refine h_load 0 [⟨b3, #[.int .i64 0, .int .i64 0, .int .i64 0, .int .i64 0, .string ⟨#[]⟩, .string ⟨#[]⟩, .bool false], 48⟩, ⟨b2, #[.int .i64 0, .int .i64 0, .int .i64 0, .int .i64 0, .string ⟨#[]⟩, .string ⟨#[]⟩, .bool false], 48⟩] _ 1 ⟨p6, (cutV ⟨0, c.v, false⟩).cells, 48⟩ (off := 0) (cutV ⟨0, c.v, false⟩) rfl (by kernel_rfl) (by kernel_rfl) (by kernel_rfl) (pq_seq (pq_block (pq_seq pq_body))) (by kernel_rfl) rfl (by kernel_rfl) (by kernel_rfl) (by kernel_rfl) ?_
                refine h_take 1 [⟨b3, #[.int .i64 0, .int .i64 0, .int .i64 0, .int .i64 0, .string ⟨#[]⟩, .string ⟨#[]⟩, .bool false], 48⟩, ⟨b2, #[.int .i64 0, .int .i64 0, .int .i64 0, .int .i64 0, .string ⟨#[]⟩, .string ⟨#[]⟩, .bool false], 48⟩] _ (.pointer (some ⟨b1, 2, none⟩)) rfl (by kernel_rfl) (by kernel_rfl) (by kernel_rfl) (pq_seq (pq_block (pq_seq pq_body))) (by kernel_rfl) (fun _ _ => by kernel_rfl) ?_
                refine h_load 2 [⟨b3, #[.int .i64 0, .int .i64 0, .int .i64 0, .int .i64 0, .string ⟨#[]⟩, .string ⟨#[]⟩, .bool false], 48⟩, ⟨b2, #[.int .i64 0, .int .i64 0, .int .i64 0, .int .i64 0, .string ⟨#[]⟩, .string ⟨#[]⟩, .bool false], 48⟩] _ 4 ⟨b1, (coV c).cells, 26⟩ (off := 2) (.agg #[.int .i64 c.v.maj, .int .i64 c.v.min, .int .i64 c.v.pat, .string (mkS c.v.pre), .string (mkS c.v.build)]) rfl (by kernel_rfl) (by kernel_rfl) (by kernel_rfl) (pq_seq (pq_block (pq_seq pq_body))) (by kernel_rfl) rfl (by kernel_rfl) (by kernel_rfl) (by kernel_rfl) ?_
                refine h_take 3 [⟨b3, #[.int .i64 0, .int .i64 0, .int .i64 0, .int .i64 0, .string ⟨#[]⟩, .string ⟨#[]⟩, .bool false], 48⟩, ⟨b2, #[.int .i64 0, .int .i64 0, .int .i64 0, .int .i64 0, .string ⟨#[]⟩, .string ⟨#[]⟩, .bool false], 48⟩] _ (.pointer (some ⟨b1, 1, none⟩)) rfl (by kernel_rfl) (by kernel_rfl) (by kernel_rfl) (pq_seq (pq_block (pq_seq pq_body))) (by kernel_rfl) (fun _ _ => by kernel_rfl) ?_
                refine h_load 4 [⟨b3, #[.int .i64 0, .int .i64 0, .int .i64 0, .int .i64 0, .string ⟨#[]⟩, .string ⟨#[]⟩, .bool false], 48⟩, ⟨b2, #[.int .i64 0, .int .i64 0, .int .i64 0, .int .i64 0, .string ⟨#[]⟩, .string ⟨#[]⟩, .bool false], 48⟩] _ 4 ⟨b1, (coV c).cells, 26⟩ (off := 1) (.int .i64 c.parts) rfl (by kernel_rfl) (by kernel_rfl) (by kernel_rfl) (pq_seq (pq_block (pq_seq pq_body))) (by kernel_rfl) rfl (by kernel_rfl) (by kernel_rfl) (by kernel_rfl) ?_
                refine hl_sum (k := .i64) 5 _ ((c.parts : Int) - 1) rfl (by kernel_rfl) (by kernel_rfl) (by kernel_rfl) (pq_seq (pq_block (pq_seq pq_body))) (fun w hO => Own.sub [⟨b3, #[.int .i64 0, .int .i64 0, .int .i64 0, .int .i64 0, .string ⟨#[]⟩, .string ⟨#[]⟩, .bool false], 48⟩, ⟨b2, #[.int .i64 0, .int .i64 0, .int .i64 0, .int .i64 0, .string ⟨#[]⟩, .string ⟨#[]⟩, .bool false], 48⟩] hO) (by kernel_rfl) (fun _ => by kernel_rfl) (IntWalk.i64_in _ (by omega)) ?_
                refine h_take 6 [⟨b3, #[.int .i64 0, .int .i64 0, .int .i64 0, .int .i64 0, .string ⟨#[]⟩, .string ⟨#[]⟩, .bool false], 48⟩, ⟨b2, #[.int .i64 0, .int .i64 0, .int .i64 0, .int .i64 0, .string ⟨#[]⟩, .string ⟨#[]⟩, .bool false], 48⟩] _ (.int .i64 (min ((c.parts : Int) - 1) (1 : Int))) rfl (by kernel_rfl) (by kernel_rfl) (by kernel_rfl) (pq_seq (pq_block (pq_seq pq_body))) (by kernel_rfl) (fun w _ => run_min2 (k := .i64) (q := .i64) (i := (c.parts : Int) - 1) (j := 1) rfl (by kernel_rfl) (by kernel_rfl) w) ?_
                refine h_one 7 (by kernel_rfl) ?_
                refine hs_call [⟨b3, #[.int .i64 0, .int .i64 0, .int .i64 0, .int .i64 0, .string ⟨#[]⟩, .string ⟨#[]⟩, .bool false], 48⟩, ⟨b2, #[.int .i64 0, .int .i64 0, .int .i64 0, .int .i64 0, .string ⟨#[]⟩, .string ⟨#[]⟩, .bool false], 48⟩] _ (k := 88) (args := #[.agg #[.int .i64 c.v.maj, .int .i64 c.v.min, .int .i64 c.v.pat, .string (mkS c.v.pre), .string (mkS c.v.build)], .int .i64 (min ((c.parts : Int) - 1) (1 : Int))]) (cutV (highC c.v (min (c.parts - 1) 1).toNat)) rfl (by kernel_rfl) (fun _ => by kernel_rfl) (fun w _ => ret_v (by unfold highZ; rw [if_neg (by omega)]) (chigh_any c.v (min ((c.parts : Int) - 1) (1 : Int)) w hc (by omega))) ?_
                refine h_one 8 (by kernel_rfl) ?_
                refine hs_store [⟨b3, #[.int .i64 0, .int .i64 0, .int .i64 0, .int .i64 0, .string ⟨#[]⟩, .string ⟨#[]⟩, .bool false], 48⟩, ⟨b2, #[.int .i64 0, .int .i64 0, .int .i64 0, .int .i64 0, .string ⟨#[]⟩, .string ⟨#[]⟩, .bool false], 48⟩] _ 1 ⟨b2, #[.int .i64 0, .int .i64 0, .int .i64 0, .int .i64 0, .string ⟨#[]⟩, .string ⟨#[]⟩, .bool false], 48⟩ (off := 0) (cutV ⟨0, c.v, false⟩) rfl (by kernel_rfl) rfl rfl (by kernel_rfl) (by kernel_rfl) (by kernel_rfl) (by kernel_rfl) (by kernel_rfl) ?_
                refine h_one 9 (by kernel_rfl) ?_
                refine hs_store [⟨b3, #[.int .i64 0, .int .i64 0, .int .i64 0, .int .i64 0, .string ⟨#[]⟩, .string ⟨#[]⟩, .bool false], 48⟩, ⟨b2, (cutV ⟨0, c.v, false⟩).cells, 48⟩] _ 0 ⟨b3, #[.int .i64 0, .int .i64 0, .int .i64 0, .int .i64 0, .string ⟨#[]⟩, .string ⟨#[]⟩, .bool false], 48⟩ (off := 0) (cutV (highC c.v (min (c.parts - 1) 1).toNat)) rfl (by kernel_rfl) rfl rfl (by kernel_rfl) (by kernel_rfl) (by kernel_rfl) (by kernel_rfl) (by kernel_rfl) ?_
                refine h_done (by kernel_rfl) ?_
                refine fin_seq ?_
                refine ok_ret ?_
                refine fin_block_ret ?_
                refine fin_seq_ret ?_
                refine fin_cc 1 0 ⟨b2, (cutV ⟨0, c.v, false⟩).cells, 48⟩ ⟨b3, (cutV (highC c.v (min (c.parts - 1) 1).toNat)).cells, 48⟩ (off := 0) (oft := 0) (cutV ⟨0, c.v, false⟩) (cutV (highC c.v (min (c.parts - 1) 1).toNat)) Tryz.results53 (by kernel_rfl) (by kernel_rfl) (by kernel_rfl) (by kernel_rfl) (by kernel_rfl) (by kernel_rfl) ?_
                exact fun w hO => ⟨by rw [show boundC c = (⟨0, c.v, false⟩, (highC c.v (min (c.parts - 1) 1).toNat)) from by unfold boundC; simp [h1, h2, h3, h4, h5, h6]]; try rfl, hO.below⟩
              · skip
                refine s_dec (p := (c.op : Int) = 8) false (by kernel_rfl) (fun _ => by kernel_rfl) (decide_eq_false (h6)) ?_
                refine s_val (.bool false) (by kernel_rfl) (fun _ => by kernel_rfl) ?_
                refine s_nil ?_
                refine fin_seq ?_
                refine ok_false (by kernel_rfl) ?_
                refine ok_skip ?_
                refine fin_block ?_
                refine fin_seq ?_
                refine ok_seq ?_
                refine ok_seq ?_
                refine ok_region ?_
                refine s_val (.pointer (some ⟨b1, 1, none⟩)) (by kernel_rfl) (fun _ => by kernel_rfl) ?_
                refine s_load 6 ⟨b1, (coV c).cells, 26⟩ (off := 1) (.int .i64 c.parts) (by kernel_rfl) rfl (by kernel_rfl) (by kernel_rfl) (by kernel_rfl) ?_
                by_cases h7 : (c.parts : Int) = 0
                · skip
                  refine s_dec (p := (c.parts : Int) = 0) true (by kernel_rfl) (fun _ => by kernel_rfl) (decide_eq_true (h7)) ?_
                  refine s_nil ?_
                  refine fin_seq ?_
                  refine ok_true (by kernel_rfl) ?_
                  refine ok_seq ?_
                  refine ok_anyhL ([⟨p7, (cutV (behC c)).cells, 48⟩, ⟨p6, (cutV ⟨0, c.v, false⟩).cells, 48⟩, ⟨b5, #[.int .i64 1, .int .i64 0, .int .i64 0, .int .i64 0, .string ⟨#[]⟩, .string ⟨#[]⟩, .bool false], 48⟩, ⟨b4, #[.int .i64 (-1), .int .i64 0, .int .i64 0, .int .i64 0, .string ⟨#[]⟩, .string ⟨#[]⟩, .bool false], 48⟩, ⟨b1, (coV c).cells, 26⟩]) (by kernel_rfl) (fun w hO => Own.sub [⟨b3, #[.int .i64 0, .int .i64 0, .int .i64 0, .int .i64 0, .string ⟨#[]⟩, .string ⟨#[]⟩, .bool false], 48⟩, ⟨b2, #[.int .i64 0, .int .i64 0, .int .i64 0, .int .i64 0, .string ⟨#[]⟩, .string ⟨#[]⟩, .bool false], 48⟩] hO) ?_
                  refine h_load 0 [⟨b3, #[.int .i64 0, .int .i64 0, .int .i64 0, .int .i64 0, .string ⟨#[]⟩, .string ⟨#[]⟩, .bool false], 48⟩, ⟨b2, #[.int .i64 0, .int .i64 0, .int .i64 0, .int .i64 0, .string ⟨#[]⟩, .string ⟨#[]⟩, .bool false], 48⟩] _ 3 ⟨b4, #[.int .i64 (-1), .int .i64 0, .int .i64 0, .int .i64 0, .string ⟨#[]⟩, .string ⟨#[]⟩, .bool false], 48⟩ (off := 0) (.agg #[.int .i64 (-1), .int .i64 0, .int .i64 0, .int .i64 0, .string ⟨#[]⟩, .string ⟨#[]⟩, .bool false]) rfl (by kernel_rfl) (by kernel_rfl) (by kernel_rfl) (pq_seq (pq_seq pq_body)) (by kernel_rfl) rfl (by kernel_rfl) (by kernel_rfl) (by kernel_rfl) ?_
                  refine h_load 1 [⟨b3, #[.int .i64 0, .int .i64 0, .int .i64 0, .int .i64 0, .string ⟨#[]⟩, .string ⟨#[]⟩, .bool false], 48⟩, ⟨b2, #[.int .i64 0, .int .i64 0, .int .i64 0, .int .i64 0, .string ⟨#[]⟩, .string ⟨#[]⟩, .bool false], 48⟩] _ 2 ⟨b5, #[.int .i64 1, .int .i64 0, .int .i64 0, .int .i64 0, .string ⟨#[]⟩, .string ⟨#[]⟩, .bool false], 48⟩ (off := 0) (.agg #[.int .i64 1, .int .i64 0, .int .i64 0, .int .i64 0, .string ⟨#[]⟩, .string ⟨#[]⟩, .bool false]) rfl (by kernel_rfl) (by kernel_rfl) (by kernel_rfl) (pq_seq (pq_seq pq_body)) (by kernel_rfl) rfl (by kernel_rfl) (by kernel_rfl) (by kernel_rfl) ?_
                  refine h_one 2 (by kernel_rfl) ?_
                  refine hs_store [⟨b3, #[.int .i64 0, .int .i64 0, .int .i64 0, .int .i64 0, .string ⟨#[]⟩, .string ⟨#[]⟩, .bool false], 48⟩, ⟨b2, #[.int .i64 0, .int .i64 0, .int .i64 0, .int .i64 0, .string ⟨#[]⟩, .string ⟨#[]⟩, .bool false], 48⟩] _ 1 ⟨b2, #[.int .i64 0, .int .i64 0, .int .i64 0, .int .i64 0, .string ⟨#[]⟩, .string ⟨#[]⟩, .bool false], 48⟩ (off := 0) (.agg #[.int .i64 (-1), .int .i64 0, .int .i64 0, .int .i64 0, .string ⟨#[]⟩, .string ⟨#[]⟩, .bool false]) rfl (by kernel_rfl) rfl rfl (by kernel_rfl) (by kernel_rfl) (by kernel_rfl) (by kernel_rfl) (by kernel_rfl) ?_
                  refine h_one 3 (by kernel_rfl) ?_
                  refine hs_store [⟨b3, #[.int .i64 0, .int .i64 0, .int .i64 0, .int .i64 0, .string ⟨#[]⟩, .string ⟨#[]⟩, .bool false], 48⟩, ⟨b2, #[.int .i64 (-1), .int .i64 0, .int .i64 0, .int .i64 0, .string ⟨#[]⟩, .string ⟨#[]⟩, .bool false], 48⟩] _ 0 ⟨b3, #[.int .i64 0, .int .i64 0, .int .i64 0, .int .i64 0, .string ⟨#[]⟩, .string ⟨#[]⟩, .bool false], 48⟩ (off := 0) (.agg #[.int .i64 1, .int .i64 0, .int .i64 0, .int .i64 0, .string ⟨#[]⟩, .string ⟨#[]⟩, .bool false]) rfl (by kernel_rfl) rfl rfl (by kernel_rfl) (by kernel_rfl) (by kernel_rfl) (by kernel_rfl) (by kernel_rfl) ?_
                  refine h_done (by kernel_rfl) ?_
                  refine fin_seq ?_
                  refine ok_ret ?_
                  refine fin_seq_ret ?_
                  refine fin_cc 1 0 ⟨b2, #[.int .i64 (-1), .int .i64 0, .int .i64 0, .int .i64 0, .string ⟨#[]⟩, .string ⟨#[]⟩, .bool false], 48⟩ ⟨b3, #[.int .i64 1, .int .i64 0, .int .i64 0, .int .i64 0, .string ⟨#[]⟩, .string ⟨#[]⟩, .bool false], 48⟩ (off := 0) (oft := 0) (.agg #[.int .i64 (-1), .int .i64 0, .int .i64 0, .int .i64 0, .string ⟨#[]⟩, .string ⟨#[]⟩, .bool false]) (.agg #[.int .i64 1, .int .i64 0, .int .i64 0, .int .i64 0, .string ⟨#[]⟩, .string ⟨#[]⟩, .bool false]) Tryz.results53 (by kernel_rfl) (by kernel_rfl) (by kernel_rfl) (by kernel_rfl) (by kernel_rfl) (by kernel_rfl) ?_
                  exact fun w hO => ⟨by rw [show boundC c = ((endC (-1)), (endC 1)) from by unfold boundC; simp [h1, h2, h3, h4, h5, h6, h7]]; try rfl, hO.below⟩
                · skip
                  refine s_dec (p := (c.parts : Int) = 0) false (by kernel_rfl) (fun _ => by kernel_rfl) (decide_eq_false (h7)) ?_
                  refine s_nil ?_
                  refine fin_seq ?_
                  refine ok_false (by kernel_rfl) ?_
                  refine ok_skip ?_
                  refine fin_seq ?_
                  refine ok_seq ?_
                  refine ok_anyhL ([⟨p7, (cutV (behC c)).cells, 48⟩, ⟨p6, (cutV ⟨0, c.v, false⟩).cells, 48⟩, ⟨b5, #[.int .i64 1, .int .i64 0, .int .i64 0, .int .i64 0, .string ⟨#[]⟩, .string ⟨#[]⟩, .bool false], 48⟩, ⟨b4, #[.int .i64 (-1), .int .i64 0, .int .i64 0, .int .i64 0, .string ⟨#[]⟩, .string ⟨#[]⟩, .bool false], 48⟩, ⟨b1, (coV c).cells, 26⟩]) (by kernel_rfl) (fun w hO => Own.sub [⟨b3, #[.int .i64 0, .int .i64 0, .int .i64 0, .int .i64 0, .string ⟨#[]⟩, .string ⟨#[]⟩, .bool false], 48⟩, ⟨b2, #[.int .i64 0, .int .i64 0, .int .i64 0, .int .i64 0, .string ⟨#[]⟩, .string ⟨#[]⟩, .bool false], 48⟩] hO) ?_
                  refine h_load 0 [⟨b3, #[.int .i64 0, .int .i64 0, .int .i64 0, .int .i64 0, .string ⟨#[]⟩, .string ⟨#[]⟩, .bool false], 48⟩, ⟨b2, #[.int .i64 0, .int .i64 0, .int .i64 0, .int .i64 0, .string ⟨#[]⟩, .string ⟨#[]⟩, .bool false], 48⟩] _ 1 ⟨p6, (cutV ⟨0, c.v, false⟩).cells, 48⟩ (off := 0) (cutV ⟨0, c.v, false⟩) rfl (by kernel_rfl) (by kernel_rfl) (by kernel_rfl) (pq_seq pq_body) (by kernel_rfl) rfl (by kernel_rfl) (by kernel_rfl) (by kernel_rfl) ?_
                  refine h_load 1 [⟨b3, #[.int .i64 0, .int .i64 0, .int .i64 0, .int .i64 0, .string ⟨#[]⟩, .string ⟨#[]⟩, .bool false], 48⟩, ⟨b2, #[.int .i64 0, .int .i64 0, .int .i64 0, .int .i64 0, .string ⟨#[]⟩, .string ⟨#[]⟩, .bool false], 48⟩] _ 0 ⟨p7, (cutV (behC c)).cells, 48⟩ (off := 0) (cutV (behC c)) rfl (by kernel_rfl) (by kernel_rfl) (by kernel_rfl) (pq_seq pq_body) (by kernel_rfl) rfl (by kernel_rfl) (by kernel_rfl) (by kernel_rfl) ?_
                  refine h_one 2 (by kernel_rfl) ?_
                  refine hs_store [⟨b3, #[.int .i64 0, .int .i64 0, .int .i64 0, .int .i64 0, .string ⟨#[]⟩, .string ⟨#[]⟩, .bool false], 48⟩, ⟨b2, #[.int .i64 0, .int .i64 0, .int .i64 0, .int .i64 0, .string ⟨#[]⟩, .string ⟨#[]⟩, .bool false], 48⟩] _ 1 ⟨b2, #[.int .i64 0, .int .i64 0, .int .i64 0, .int .i64 0, .string ⟨#[]⟩, .string ⟨#[]⟩, .bool false], 48⟩ (off := 0) (cutV ⟨0, c.v, false⟩) rfl (by kernel_rfl) rfl rfl (by kernel_rfl) (by kernel_rfl) (by kernel_rfl) (by kernel_rfl) (by kernel_rfl) ?_
                  refine h_one 3 (by kernel_rfl) ?_
                  refine hs_store [⟨b3, #[.int .i64 0, .int .i64 0, .int .i64 0, .int .i64 0, .string ⟨#[]⟩, .string ⟨#[]⟩, .bool false], 48⟩, ⟨b2, (cutV ⟨0, c.v, false⟩).cells, 48⟩] _ 0 ⟨b3, #[.int .i64 0, .int .i64 0, .int .i64 0, .int .i64 0, .string ⟨#[]⟩, .string ⟨#[]⟩, .bool false], 48⟩ (off := 0) (cutV (behC c)) rfl (by kernel_rfl) rfl rfl (by kernel_rfl) (by kernel_rfl) (by kernel_rfl) (by kernel_rfl) (by kernel_rfl) ?_
                  refine h_done (by kernel_rfl) ?_
                  refine fin_seq ?_
                  refine ok_ret ?_
                  refine fin_cc 1 0 ⟨b2, (cutV ⟨0, c.v, false⟩).cells, 48⟩ ⟨b3, (cutV (behC c)).cells, 48⟩ (off := 0) (oft := 0) (cutV ⟨0, c.v, false⟩) (cutV (behC c)) Tryz.results53 (by kernel_rfl) (by kernel_rfl) (by kernel_rfl) (by kernel_rfl) (by kernel_rfl) (by kernel_rfl) ?_
                  exact fun w hO => ⟨by rw [show boundC c = (⟨0, c.v, false⟩, (behC c)) from by unfold boundC; simp [h1, h2, h3, h4, h5, h6, h7]]; try rfl, hO.below⟩
theorem one_row {lo hi : Cu} : (if allMay [⟨lo, hi⟩] then makeL [⟨lo, hi⟩] else []) = oneRow lo hi := by
  rw [oneRow_cases]
  by_cases h : cmpC lo hi < 0
  · have hm := sp_may_of h
    rw [if_pos h, if_pos (show allMay [⟨lo, hi⟩] = true from allMay_mem.2 fun s hs => by rw [List.mem_singleton.1 hs]; exact hm)]
    exact make_self (show rowMay [⟨lo, hi⟩] = true from hm)
  · rw [if_neg h, if_neg (fun q => h (sp_lt (allMay_mem.1 q _ (List.mem_singleton.2 rfl))))]
theorem cbetween_any (lo hi : Cu) (W : World) (hl : lo.short) (hh : hi.short) : Calls Tryz.prog 52 #[cutV lo, cutV hi] W fun e w' => ∃ v' ob', e = .returned v' ∧ SlS v' (oneRow lo hi) ob' ∧ Own [] W w' ob' := by
  refine calls_ok (n := 16) Tryz.func52 rfl (by kernel_rfl) (by kernel_rfl) ?_
  refine ok_seq ?_
  refine ok_region ?_
  refine s_box (cutV lo) (by kernel_rfl) rfl (by kernel_rfl) (fun b1 => ?_)
  refine s_box (cutV hi) (by kernel_rfl) rfl (by kernel_rfl) (fun b2 => ?_)
  refine s_val (.slice none 0 0) (by kernel_rfl) (fun _ => by kernel_rfl) ?_
  refine s_nil ?_
  refine fin_seq ?_
  refine ok_seq ?_
  refine ok_region ?_
  refine s_load 1 ⟨b1, (cutV lo).cells, 48⟩ (off := 0) (cutV lo) (by kernel_rfl) rfl (by kernel_rfl) (by kernel_rfl) (by kernel_rfl) ?_
  refine s_load 0 ⟨b2, (cutV hi).cells, 48⟩ (off := 0) (cutV hi) (by kernel_rfl) rfl (by kernel_rfl) (by kernel_rfl) (by kernel_rfl) ?_
  refine s_val (.agg #[.int .i64 lo.e, .int .i64 lo.v.maj, .int .i64 lo.v.min, .int .i64 lo.v.pat, .string (mkS lo.v.pre), .string (mkS lo.v.build), .bool lo.aft, .int .i64 hi.e, .int .i64 hi.v.maj, .int .i64 hi.v.min, .int .i64 hi.v.pat, .string (mkS hi.v.pre), .string (mkS hi.v.build), .bool hi.aft]) (by kernel_rfl) (fun _ => by kernel_rfl) ?_
  refine s_lit 50 #[.int .i64 lo.e, .int .i64 lo.v.maj, .int .i64 lo.v.min, .int .i64 lo.v.pat, .string (mkS lo.v.pre), .string (mkS lo.v.build), .bool lo.aft, .int .i64 hi.e, .int .i64 hi.v.maj, .int .i64 hi.v.min, .int .i64 hi.v.pat, .string (mkS hi.v.pre), .string (mkS hi.v.build), .bool hi.aft] (by kernel_rfl) rfl (fun _ => by kernel_rfl) (fun b3 => ?_)
  refine s_callo (k := 86) (args := #[.slice (some ⟨b3, 0, none⟩) 1 1]) (fun v' L' => ∃ mv ob', v' = .tuple #[mv, .bool (allMay [⟨lo, hi⟩])] ∧ L' = ob' ++ ([⟨b3, #[.int .i64 lo.e, .int .i64 lo.v.maj, .int .i64 lo.v.min, .int .i64 lo.v.pat, .string (mkS lo.v.pre), .string (mkS lo.v.build), .bool lo.aft, .int .i64 hi.e, .int .i64 hi.v.maj, .int .i64 hi.v.min, .int .i64 hi.v.pat, .string (mkS hi.v.pre), .string (mkS hi.v.build), .bool hi.aft], 50⟩, ⟨b2, (cutV hi).cells, 48⟩, ⟨b1, (cutV lo).cells, 48⟩]) ∧ SlS mv (oneRow lo hi) ob') (by kernel_rfl) (fun _ => by kernel_rfl) (fun w hO => (make4_any (some ⟨b3, 0, none⟩) 1 [⟨lo, hi⟩] w (Sl.reads (slit6 ⟨lo, hi⟩ b3 #[.int .i64 lo.e, .int .i64 lo.v.maj, .int .i64 lo.v.min, .int .i64 lo.v.pat, .string (mkS lo.v.pre), .string (mkS lo.v.build), .bool lo.aft, .int .i64 hi.e, .int .i64 hi.v.maj, .int .i64 hi.v.min, .int .i64 hi.v.pat, .string (mkS hi.v.pre), .string (mkS hi.v.build), .bool hi.aft] (by kernel_rfl)) rfl hO (fun x hx => by rw [List.mem_singleton.1 hx]; exact List.mem_cons_self)) (by show 1 ≤ _; decide) (fun s hs => by rw [List.mem_singleton.1 hs]; exact ⟨hl, hh⟩)).mono fun e w' ⟨v', ob', k1, k2, k3⟩ => ⟨_, _, k1, ⟨v', ob', rfl, rfl, by rw [one_row] at k2; exact k2⟩, Own.joinN hO k3⟩) (fun tv L2 hv2 => ?_)
  obtain ⟨v2, o2, rfl, rfl, hr2⟩ := hv2
  refine s_val (.tuple #[v2, .bool (allMay [⟨lo, hi⟩])]) (by kernel_rfl) (fun _ => by kernel_rfl) ?_
  refine s_val (v2) (by kernel_rfl) (fun _ => by kernel_rfl) ?_
  refine s_val (.bool (allMay [⟨lo, hi⟩])) (by kernel_rfl) (fun _ => by kernel_rfl) ?_
  refine s_val (v2) (by kernel_rfl) (fun _ => by kernel_rfl) ?_
  refine s_val (.bool (allMay [⟨lo, hi⟩])) (by kernel_rfl) (fun _ => by kernel_rfl) ?_
  refine s_nil ?_
  refine fin_seq ?_
  refine ok_seq ?_
  refine ok_region ?_
  refine s_val (v2) (by kernel_rfl) (fun _ => by kernel_rfl) ?_
  refine s_val (v2) (by kernel_rfl) (fun _ => by kernel_rfl) ?_
  refine s_nil ?_
  refine fin_seq ?_
  refine ok_ret ?_
  refine fin_ret (v2) Tryz.results52 (by kernel_rfl) ?_
  exact fun w hO => ⟨v2, o2, rfl, hr2, hO.sublist (List.sublist_append_left _ _)⟩
theorem oneRow_len6 (lo hi : Cu) : (oneRow lo hi).length ≤ 1 := by have := add_len [] lo hi; simpa [oneRow] using this
theorem oneRow_short6 {lo hi : Cu} (hl : lo.short) (hh : hi.short) : ShortL (oneRow lo hi) := fun s hs => by
  rw [oneRow_cases] at hs
  split at hs
  · rw [List.mem_singleton.1 hs]; exact ⟨hl, hh⟩
  · cases hs
theorem cRegion_any (c : Co) (W : World) (hc : c.short) : Calls Tryz.prog 19 #[coV c] W fun e w' => ∃ v' ob', e = .returned v' ∧ SlS v' c.region ob' ∧ Own [] W w' ob' := by
  have hs1 := (span_short hc).1
  have hs2 := (span_short hc).2
  refine calls_ok (n := 18) Tryz.func19 rfl (by kernel_rfl) (by kernel_rfl) ?_
  refine ok_seq ?_
  refine ok_region ?_
  refine s_box (coV c) (by kernel_rfl) rfl (by kernel_rfl) (fun b1 => ?_)
  refine s_val (.slice none 0 0) (by kernel_rfl) (fun _ => by kernel_rfl) ?_
  refine s_nil ?_
  refine fin_seq ?_
  refine ok_seq ?_
  refine ok_seq ?_
  refine ok_region ?_
  refine s_load 0 ⟨b1, (coV c).cells, 26⟩ (off := 0) (coV c) (by kernel_rfl) rfl (by kernel_rfl) (by kernel_rfl) (by kernel_rfl) ?_
  refine s_call (k := 15) (args := #[coV c]) (.bool c.may) (by kernel_rfl) (fun _ => by kernel_rfl) (fun w _ => cMay_any c w hc) ?_
  cases h1 : c.may with
  | true =>
    refine s_val (.bool false) (by kernel_rfl) (fun _ => by kernel_rfl) ?_
    refine s_nil ?_
    refine fin_seq ?_
    refine ok_false (by kernel_rfl) ?_
    refine ok_skip ?_
    refine fin_seq ?_
    refine ok_seq ?_
    refine ok_region ?_
    refine s_load 0 ⟨b1, (coV c).cells, 26⟩ (off := 0) (coV c) (by kernel_rfl) rfl (by kernel_rfl) (by kernel_rfl) (by kernel_rfl) ?_
    refine s_call (k := 53) (args := #[coV c]) (.tuple #[cutV c.span.1, cutV c.span.2]) (by kernel_rfl) (fun _ => by kernel_rfl) (fun w _ => ret_v (by rw [bound_span h1]) (cbounds_any c w hc (Co.facts h1).1 (parts_in h1))) ?_
    refine s_val (cutV c.span.1) (by kernel_rfl) (fun _ => by kernel_rfl) ?_
    refine s_val (cutV c.span.2) (by kernel_rfl) (fun _ => by kernel_rfl) ?_
    refine s_callo (k := 52) (args := #[cutV c.span.1, cutV c.span.2]) (fun v' L' => ∃ ob', L' = ob' ++ ([⟨b1, (coV c).cells, 26⟩]) ∧ SlS v' (oneRow c.span.1 c.span.2) ob') (by kernel_rfl) (fun _ => by kernel_rfl) (fun w hO => (cbetween_any c.span.1 c.span.2 w hs1 hs2).mono fun e w' ⟨v', ob', k1, k2, k3⟩ => ⟨v', _, k1, ⟨ob', rfl, k2⟩, Own.joinN hO k3⟩) (fun v1 L1 hv1 => ?_)
    obtain ⟨o1, rfl, hr1⟩ := hv1
    obtain ⟨V1, c1, rfl⟩ := hr1.form
    refine s_val (.slice V1 ((oneRow c.span.1 c.span.2).length) c1) (by kernel_rfl) (fun _ => by kernel_rfl) ?_
    refine s_nil ?_
    refine fin_seq ?_
    refine ok_seq ?_
    refine ok_seq ?_
    refine ok_region ?_
    refine s_val (.pointer (some ⟨b1, 0, none⟩)) (by kernel_rfl) (fun _ => by kernel_rfl) ?_
    refine s_loadm ⟨b1, (coV c).cells, 26⟩ (off := 0) (.int .i64 c.op) (by kernel_rfl) rfl (by simp) (by kernel_rfl) (by kernel_rfl) ?_
    by_cases h2 : (c.op : Int) = 2
    · skip
      refine s_dec (p := (c.op : Int) = 2) true (by kernel_rfl) (fun _ => by kernel_rfl) (decide_eq_true (h2)) ?_
      refine s_nil ?_
      refine fin_seq ?_
      refine ok_true (by kernel_rfl) ?_
      refine ok_seq ?_
      refine ok_region ?_
      refine s_val (.slice V1 ((oneRow c.span.1 c.span.2).length) c1) (by kernel_rfl) (fun _ => by kernel_rfl) ?_
      refine s_callo (k := 54) (args := #[.slice V1 (oneRow c.span.1 c.span.2).length c1]) (fun v' L' => ∃ ob', L' = ob' ++ (o1 ++ ([⟨b1, (coV c).cells, 26⟩])) ∧ SlS v' (notL (oneRow c.span.1 c.span.2)) ob') (by kernel_rfl) (fun _ => by kernel_rfl) (fun w hO => (not4_any V1 c1 (oneRow c.span.1 c.span.2) w (Sl.reads hr1 rfl hO (fun x hx => by simp [hx])) (Nat.le_trans (oneRow_len6 _ _) (by decide)) (oneRow_short6 hs1 hs2)).mono fun e w' ⟨v', ob', k1, k2, k3⟩ => ⟨v', _, k1, ⟨ob', rfl, by rw [if_pos (oneRow_may _ _)] at k2; exact k2⟩, Own.joinN hO k3⟩) (fun v3 L3 hv3 => ?_)
      obtain ⟨o3, rfl, hr3⟩ := hv3
      refine s_val (v3) (by kernel_rfl) (fun _ => by kernel_rfl) ?_
      refine s_nil ?_
      refine fin_seq ?_
      refine ok_ret ?_
      refine fin_seq_ret ?_
      refine fin_ret (v3) Tryz.results19 (by kernel_rfl) ?_
      exact fun w hO => ⟨v3, o3, rfl, by rw [show c.region = notL (oneRow c.span.1 c.span.2) from by unfold Co.region; rw [if_pos (by assumption), if_pos h2]]; exact hr3, hO.sublist (List.sublist_append_left _ _)⟩
    · skip
      refine s_dec (p := (c.op : Int) = 2) false (by kernel_rfl) (fun _ => by kernel_rfl) (decide_eq_false (h2)) ?_
      refine s_nil ?_
      refine fin_seq ?_
      refine ok_false (by kernel_rfl) ?_
      refine ok_skip ?_
      refine fin_seq ?_
      refine ok_seq ?_
      refine ok_region ?_
      refine s_val (.slice V1 ((oneRow c.span.1 c.span.2).length) c1) (by kernel_rfl) (fun _ => by kernel_rfl) ?_
      refine s_val (.slice V1 ((oneRow c.span.1 c.span.2).length) c1) (by kernel_rfl) (fun _ => by kernel_rfl) ?_
      refine s_nil ?_
      refine fin_seq ?_
      refine ok_ret ?_
      refine fin_ret (.slice V1 ((oneRow c.span.1 c.span.2).length) c1) Tryz.results19 (by kernel_rfl) ?_
      exact fun w hO => ⟨_, o1, rfl, by rw [show c.region = oneRow c.span.1 c.span.2 from by unfold Co.region; rw [if_pos (by assumption), if_neg h2]]; exact hr1, hO.sublist (List.sublist_append_left _ _)⟩
  | false =>
    refine s_val (.bool true) (by kernel_rfl) (fun _ => by kernel_rfl) ?_
    refine s_nil ?_
    refine fin_seq ?_
    refine ok_true (by kernel_rfl) ?_
    refine ok_seq ?_
    refine ok_region ?_
    refine s_val (.slice none 0 0) (by kernel_rfl) (fun _ => by kernel_rfl) ?_
    refine s_nil ?_
    refine fin_seq ?_
    refine ok_ret ?_
    refine fin_seq_ret ?_
    refine fin_ret (.slice none 0 0) Tryz.results19 (by kernel_rfl) ?_
    exact fun w hO => ⟨_, [], rfl, by rw [show c.region = [] from by unfold Co.region; simp [h1]]; exact Sl.nil _ _, own_nil hO⟩
end Go.Proofs.YtjabcbagggicaaaGreatDoor
end

section
/-
  Package comp's Parse: what it returns for strings of at most a million bytes; nothing that was there is changed. Condition: the library's table of powers of ten reads as it is laid.
-/
namespace Go.Proofs.YtjabcbagggicaaaGreatDoor
open Go.RowKit
set_option maxRecDepth 100000
set_option linter.unusedVariables false
set_option linter.unusedSimpArgs false
set_option maxHeartbeats 2000000

theorem last_pl {l : List (List UInt8)} (h : 1 ≤ l.length) {x : List UInt8} (hx : tg l (l.length - 1) = x) : l.getLast? = some x := by
  rw [List.getLast?_eq_getElem?, List.getElem?_eq_getElem (by omega), tgi_get (by omega), hx]
theorem guess_is {s r ah tl : List UInt8} {op : Int} {pl : List (List UInt8)} (h1 : (sgo s 8).1 = op) (h2 : (sgo s 8).2 = r) (h3 : (cutAt 45 r).1 = ah) (h4 : (cutAt 45 r).2.1 = tl) (h5 : pcsK 2 ah = pl) {x : List UInt8} (hx : tg pl (pl.length - 1) = x) (hl : 1 ≤ pl.length) :
    guessP s = if x = [42] then (⟨9, ((pl.length : Int) - 1), ⟨numD (tg pl 0), numD (tg pl 1), numD (tg pl 2), tl, []⟩⟩ : Co) else (⟨op, (pl.length : Int), ⟨numD (tg pl 0), numD (tg pl 1), numD (tg pl 2), tl, []⟩⟩ : Co) := by
  have hp : piecesP s = pl := by unfold piecesP; rw [h2, h3, h5]
  unfold guessP starP
  rw [hp, h2, h4, h1, last_pl hl hx]
  by_cases q : x = [42]
  · rw [if_pos q, q, decide_eq_true rfl]; rfl
  · rw [if_neg q, decide_eq_false (fun e => q (Option.some.inj e))]; rfl
theorem fit_or {s pt : List UInt8} {c : Co} (hg : guessP s = c) (hp : c.print = pt) (h : pt = s ∨ pt = [94] ++ s) : pcV s = c ∧ pcE s = 0 := by
  have h2 := prog_some (s := s) (by rw [hg, hp]; exact h)
  rw [hg] at h2
  exact pc_some h2
theorem fit_no {s pt : List UInt8} {c : Co} (hg : guessP s = c) (hp : c.print = pt) (h1 : ¬ pt = s) (h2 : ¬ pt = [94] ++ s) : pcV s = ⟨0, 0, Ver.zero⟩ ∧ pcE s = 6 :=
  pc_none (prog_none (by rw [hg, hp]; exact fun q => q.elim h1 h2))
set_option maxHeartbeats 4000000 in
theorem cParse_any (s : List UInt8) (W : World) (hs : s.length ≤ 1000000) (ht : HasTab W) : Calls Tryz.prog 12 #[.string (mkS s)] W fun e w' => e = .returned (.tuple #[coV (pcV s), .int .i64 (pcE s)]) ∧ Below W.heap.size W w' := by
  obtain ⟨op, hop⟩ : ∃ x, (sgo s 8).1 = x := ⟨_, rfl⟩
  obtain ⟨r, hr⟩ : ∃ x, (sgo s 8).2 = x := ⟨_, rfl⟩
  obtain ⟨ah, hah⟩ : ∃ x, (cutAt 45 r).1 = x := ⟨_, rfl⟩
  obtain ⟨tl, htl⟩ : ∃ x, (cutAt 45 r).2.1 = x := ⟨_, rfl⟩
  obtain ⟨fd, hfd⟩ : ∃ x, (cutAt 45 r).2.2 = x := ⟨_, rfl⟩
  obtain ⟨pl, hpl⟩ : ∃ x, pcsK 2 ah = x := ⟨_, rfl⟩
  have hrl : r.length ≤ s.length := hr ▸ sgo_le s 8
  have hal : ah.length + tl.length ≤ r.length := by rw [← hah, ← htl]; exact cutAt_le 45 r
  obtain ⟨hp1, hp3⟩ : 1 ≤ pl.length ∧ pl.length ≤ 3 := hpl ▸ pcsK_len 2 ah
  have htp : ∀ i, (tg pl i).length ≤ 1000000 := fun i => tg_short (fun x hx => by rw [← hpl] at hx; exact Nat.le_trans (pcsK_mem 2 ah x hx) (by omega)) i
  refine calls_ok (n := 84) Tryz.func12 rfl (by kernel_rfl) (by kernel_rfl) ?_
  refine ok_seq ?_
  refine ok_region ?_
  refine s_alloc_at (.agg #[.int .i64 0, .int .i64 0, .int .i64 0, .int .i64 0, .int .i64 0, .string ⟨#[]⟩, .string ⟨#[]⟩]) (by kernel_rfl) rfl (by kernel_rfl) (fun b1 => ?_)
  refine s_val (.int .i64 0) (by kernel_rfl) (fun _ => by kernel_rfl) ?_
  refine s_nil ?_
  refine fin_seq ?_
  refine ok_seq ?_
  refine ok_region ?_
  refine s_val (.string (mkS s)) (by kernel_rfl) (fun _ => by kernel_rfl) ?_
  refine s_call (k := 34) (args := #[.string (mkS s)]) (.tuple #[.int .i64 op, .string (mkS r)]) (by kernel_rfl) (fun _ => by kernel_rfl) (fun w _ => ret_v (by rw [hop, hr]) (ccut_any s w hs)) ?_
  refine s_val (.tuple #[.int .i64 op, .string (mkS r)]) (by kernel_rfl) (fun _ => by kernel_rfl) ?_
  refine s_val (.int .i64 op) (by kernel_rfl) (fun _ => by kernel_rfl) ?_
  refine s_val (.string (mkS r)) (by kernel_rfl) (fun _ => by kernel_rfl) ?_
  refine s_val (.int .i64 op) (by kernel_rfl) (fun _ => by kernel_rfl) ?_
  refine s_val (.string (mkS r)) (by kernel_rfl) (fun _ => by kernel_rfl) ?_
  refine s_nil ?_
  refine fin_seq ?_
  refine ok_seq ?_
  refine ok_region ?_
  refine s_val (.string (mkS r)) (by kernel_rfl) (fun _ => by kernel_rfl) ?_
  refine s_call (k := 35) (args := #[.string (mkS r), .string ⟨#[45]⟩]) (.tuple #[.string (mkS ah), .string (mkS tl), .bool fd]) (by kernel_rfl) (fun _ => by kernel_rfl) (fun w _ => ret_v (by rw [hah, htl, hfd]) (cutb_any r 45 w (by omega))) ?_
  refine s_val (.tuple #[.string (mkS ah), .string (mkS tl), .bool fd]) (by kernel_rfl) (fun _ => by kernel_rfl) ?_
  refine s_val (.string (mkS ah)) (by kernel_rfl) (fun _ => by kernel_rfl) ?_
  refine s_val (.string (mkS tl)) (by kernel_rfl) (fun _ => by kernel_rfl) ?_
  refine s_val (.bool fd) (by kernel_rfl) (fun _ => by kernel_rfl) ?_
  refine s_val (.string (mkS ah)) (by kernel_rfl) (fun _ => by kernel_rfl) ?_
  refine s_val (.string (mkS tl)) (by kernel_rfl) (fun _ => by kernel_rfl) ?_
  refine s_val (.bool fd) (by kernel_rfl) (fun _ => by kernel_rfl) ?_
  refine s_nil ?_
  refine fin_seq ?_
  refine ok_seq ?_
  refine ok_region ?_
  refine s_alloc_at (.agg #[.int .i64 0, .int .i64 0, .int .i64 0]) (by kernel_rfl) rfl (by kernel_rfl) (fun b2 => ?_)
  refine s_nil ?_
  refine fin_seq ?_
  refine ok_seq ?_
  refine ok_region ?_
  refine s_val (.string (mkS ah)) (by kernel_rfl) (fun _ => by kernel_rfl) ?_
  refine s_callo (k := 36) (args := #[.string (mkS ah), .string ⟨#[46]⟩, .int .i64 3]) (fun v' L' => ∃ ob', L' = ob' ++ ([⟨b2, #[.int .i64 0, .int .i64 0, .int .i64 0], 55⟩, ⟨b1, #[.int .i64 0, .int .i64 0, .int .i64 0, .int .i64 0, .int .i64 0, .string ⟨#[]⟩, .string ⟨#[]⟩], 26⟩]) ∧ SlT v' pl ob') (by kernel_rfl) (fun _ => by kernel_rfl) (fun w hO => (splitn_any ah w (by omega)).mono fun e w' ⟨v', ob', k1, k2, k3⟩ => ⟨v', _, k1, ⟨ob', rfl, by rw [hpl] at k2; exact k2⟩, Own.joinN hO k3⟩) (fun v1 L1 hv1 => ?_)
  obtain ⟨o1, rfl, hsl⟩ := hv1
  obtain ⟨A1, c1, rfl⟩ := hsl.form
  obtain ⟨g1, cur1, rfl, rfl, hc1, hm1, hz1, ht1⟩ := Sl.block hsl (by omega)
  rw [strV_flat] at ht1
  refine s_val (.slice (some ⟨g1, 0, none⟩) pl.length c1) (by kernel_rfl) (fun _ => by kernel_rfl) ?_
  refine s_nil ?_
  refine fin_seq ?_
  refine ok_seq ?_
  refine ok_seq ?_
  refine ok_region ?_
  refine s_val (.slice (some ⟨g1, 0, none⟩) pl.length c1) (by kernel_rfl) (fun _ => by kernel_rfl) ?_
  refine s_val (.int .i64 (pl.length : Int)) (by kernel_rfl) (fun _ => by kernel_rfl) ?_
  refine s_val (.int .i64 0) (by kernel_rfl) (fun _ => by kernel_rfl) ?_
  refine s_nil ?_
  refine fin_seq ?_
  refine ok_join (fun L f => ∃ (j : Nat → Value), L = [⟨g1, cur1, 9⟩, ⟨b2, #[.int .i64 (numD (tg pl 0)), .int .i64 (numD (tg pl 1)), .int .i64 (numD (tg pl 2))], 55⟩, ⟨b1, #[.int .i64 0, .int .i64 0, .int .i64 0, .int .i64 0, .int .i64 0, .string ⟨#[]⟩, .string ⟨#[]⟩], 26⟩] ∧ f = upds j [(0, .string (mkS s)), (2, .pointer (some ⟨b1, 0, none⟩)), (4, .int .i64 op), (6, .string (mkS tl)), (8, .pointer (some ⟨b2, 0, none⟩)), (9, .slice (some ⟨g1, 0, none⟩) pl.length c1)]) ?_ ?_
  · skip
    refine ok_block ?_
    refine ok_loop (fun L f m => (∃  (j : Nat → Value), (0 ≤ pl.length) ∧ L = [⟨g1, cur1, 9⟩, ⟨b2, #[.int .i64 0, .int .i64 0, .int .i64 0], 55⟩, ⟨b1, #[.int .i64 0, .int .i64 0, .int .i64 0, .int .i64 0, .int .i64 0, .string ⟨#[]⟩, .string ⟨#[]⟩], 26⟩] ∧ f = upds j [(0, .string (mkS s)), (2, .pointer (some ⟨b1, 0, none⟩)), (4, .int .i64 op), (6, .string (mkS tl)), (8, .pointer (some ⟨b2, 0, none⟩)), (9, .slice (some ⟨g1, 0, none⟩) pl.length c1), (27, .slice (some ⟨g1, 0, none⟩) pl.length c1), (28, .int .i64 (pl.length : Int)), (29, .int .i64 0)] ∧ m = 4) ∨ (∃  (j : Nat → Value), (1 ≤ pl.length) ∧ L = [⟨g1, cur1, 9⟩, ⟨b2, #[.int .i64 (numD (tg pl 0)), .int .i64 0, .int .i64 0], 55⟩, ⟨b1, #[.int .i64 0, .int .i64 0, .int .i64 0, .int .i64 0, .int .i64 0, .string ⟨#[]⟩, .string ⟨#[]⟩], 26⟩] ∧ f = upds j [(0, .string (mkS s)), (2, .pointer (some ⟨b1, 0, none⟩)), (4, .int .i64 op), (6, .string (mkS tl)), (8, .pointer (some ⟨b2, 0, none⟩)), (9, .slice (some ⟨g1, 0, none⟩) pl.length c1), (27, .slice (some ⟨g1, 0, none⟩) pl.length c1), (28, .int .i64 (pl.length : Int)), (29, .int .i64 1)] ∧ m = 3) ∨ (∃  (j : Nat → Value), (2 ≤ pl.length) ∧ L = [⟨g1, cur1, 9⟩, ⟨b2, #[.int .i64 (numD (tg pl 0)), .int .i64 (numD (tg pl 1)), .int .i64 0], 55⟩, ⟨b1, #[.int .i64 0, .int .i64 0, .int .i64 0, .int .i64 0, .int .i64 0, .string ⟨#[]⟩, .string ⟨#[]⟩], 26⟩] ∧ f = upds j [(0, .string (mkS s)), (2, .pointer (some ⟨b1, 0, none⟩)), (4, .int .i64 op), (6, .string (mkS tl)), (8, .pointer (some ⟨b2, 0, none⟩)), (9, .slice (some ⟨g1, 0, none⟩) pl.length c1), (27, .slice (some ⟨g1, 0, none⟩) pl.length c1), (28, .int .i64 (pl.length : Int)), (29, .int .i64 2)] ∧ m = 2) ∨ (∃  (j : Nat → Value), (3 ≤ pl.length) ∧ L = [⟨g1, cur1, 9⟩, ⟨b2, #[.int .i64 (numD (tg pl 0)), .int .i64 (numD (tg pl 1)), .int .i64 (numD (tg pl 2))], 55⟩, ⟨b1, #[.int .i64 0, .int .i64 0, .int .i64 0, .int .i64 0, .int .i64 0, .string ⟨#[]⟩, .string ⟨#[]⟩], 26⟩] ∧ f = upds j [(0, .string (mkS s)), (2, .pointer (some ⟨b1, 0, none⟩)), (4, .int .i64 op), (6, .string (mkS tl)), (8, .pointer (some ⟨b2, 0, none⟩)), (9, .slice (some ⟨g1, 0, none⟩) pl.length c1), (27, .slice (some ⟨g1, 0, none⟩) pl.length c1), (28, .int .i64 (pl.length : Int)), (29, .int .i64 3)] ∧ m = 1)) 4 (.inl ⟨_, Nat.zero_le _, rfl, upds_self _ ⟨by kernel_rfl, by kernel_rfl, by kernel_rfl, by kernel_rfl, by kernel_rfl, by kernel_rfl, by kernel_rfl, by kernel_rfl, by kernel_rfl, trivial⟩, rfl⟩) ?_
    rintro L f m (⟨j, hrel, rfl, rfl, rfl⟩ | ⟨j, hrel, rfl, rfl, rfl⟩ | ⟨j, hrel, rfl, rfl, rfl⟩ | ⟨j, hrel, rfl, rfl, rfl⟩)
    · skip
      have qn := hrel
      refine ok_seq ?_
      refine ok_region ?_
      refine s_dec (p := (0 : Int) < (pl.length : Int)) true (by kernel_rfl) (fun _ => by kernel_rfl) (decide_eq_true (by omega)) ?_
      refine s_nil ?_
      refine fin_seq ?_
      refine ok_seq ?_
      refine ok_true (by kernel_rfl) ?_
      refine ok_skip ?_
      refine fin_seq ?_
      refine ok_seq ?_
      refine ok_block ?_
      refine ok_seq ?_
      refine ok_region ?_
      refine s_val (.int .i64 0) (by kernel_rfl) (fun _ => by kernel_rfl) ?_
      refine s_val (.pointer (some ⟨g1, 0 * 1 + 0, none⟩)) (by kernel_rfl) (run_ixsl (b := g1) (off := 0) (n := pl.length) (c := c1) (k := .i64) (j := 0) (e := 9) (sz := 1) rfl (by kernel_rfl) (by kernel_rfl) (by kernel_rfl) (by kernel_rfl) (by omega) (by omega) (by rfl)) ?_
      refine s_load 0 ⟨g1, cur1, 9⟩ (off := 0 * 1 + 0) (.string (mkS (tg pl 0))) (by kernel_rfl) rfl (by kernel_rfl) (by kernel_rfl) (read_part strC_len ht1 0 0 (by omega) (by omega) _ (by rw [tgi_get (by omega)]; kernel_rfl)) ?_
      refine s_val (.int .i64 0) (by kernel_rfl) (fun _ => by kernel_rfl) ?_
      refine s_val (.string (mkS (tg pl 0))) (by kernel_rfl) (fun _ => by kernel_rfl) ?_
      refine s_nil ?_
      refine fin_seq ?_
      refine ok_region ?_
      refine s_val (.int .i64 0) (by kernel_rfl) (fun _ => by kernel_rfl) ?_
      refine s_val (.string (mkS (tg pl 0))) (by kernel_rfl) (fun _ => by kernel_rfl) ?_
      refine s_call (k := 37) (args := #[.string (mkS (tg pl 0))]) (.tuple #[.int .i64 (numD (tg pl 0)), .bool (numI (tg pl 0))]) (by kernel_rfl) (fun _ => by kernel_rfl) (fun w _ => number_mk (tg pl 0) _ rfl w (Nat.le_trans (htp 0) (by decide))) ?_
      refine s_val (.tuple #[.int .i64 (numD (tg pl 0)), .bool (numI (tg pl 0))]) (by kernel_rfl) (fun _ => by kernel_rfl) ?_
      refine s_val (.int .i64 (numD (tg pl 0))) (by kernel_rfl) (fun _ => by kernel_rfl) ?_
      refine s_val (.bool (numI (tg pl 0))) (by kernel_rfl) (fun _ => by kernel_rfl) ?_
      refine s_val (.pointer (some ⟨b2, 0, none⟩)) (by kernel_rfl) (fun _ => by kernel_rfl) ?_
      refine s_store_at 1 ⟨b2, #[.int .i64 0, .int .i64 0, .int .i64 0], 55⟩ (off := 0) (.int .i64 (numD (tg pl 0))) (by kernel_rfl) rfl rfl (by kernel_rfl) (by kernel_rfl) (by kernel_rfl) (by kernel_rfl) (by kernel_rfl) ?_
      refine s_nil ?_
      refine fin_block ?_
      refine fin_seq ?_
      refine ok_region ?_
      refine s_val (.int .i64 1) (by kernel_rfl) (fun _ => by kernel_rfl) ?_
      refine s_val (.int .i64 1) (by kernel_rfl) (fun _ => by kernel_rfl) ?_
      refine s_nil ?_
      exact fin_round (m' := 3) (by decide) (.inr (.inl ⟨_, (by omega : 1 ≤ pl.length), rfl, upds_self _ ⟨by kernel_rfl, by kernel_rfl, by kernel_rfl, by kernel_rfl, by kernel_rfl, by kernel_rfl, by kernel_rfl, by kernel_rfl, by kernel_rfl, trivial⟩, rfl⟩))
    · skip
      have qn := hrel
      refine ok_seq ?_
      refine ok_region ?_
      by_cases h1 : (1 : Int) < (pl.length : Int)
      · skip
        have hk : 1 < pl.length := by omega
        refine s_dec (p := (1 : Int) < (pl.length : Int)) true (by kernel_rfl) (fun _ => by kernel_rfl) (decide_eq_true (h1)) ?_
        refine s_nil ?_
        refine fin_seq ?_
        refine ok_seq ?_
        refine ok_true (by kernel_rfl) ?_
        refine ok_skip ?_
        refine fin_seq ?_
        refine ok_seq ?_
        refine ok_block ?_
        refine ok_seq ?_
        refine ok_region ?_
        refine s_val (.int .i64 1) (by kernel_rfl) (fun _ => by kernel_rfl) ?_
        refine s_val (.pointer (some ⟨g1, 1 * 1 + 0, none⟩)) (by kernel_rfl) (run_ixsl (b := g1) (off := 0) (n := pl.length) (c := c1) (k := .i64) (j := 1) (e := 9) (sz := 1) rfl (by kernel_rfl) (by kernel_rfl) (by kernel_rfl) (by kernel_rfl) (by omega) (by omega) (by rfl)) ?_
        refine s_load 0 ⟨g1, cur1, 9⟩ (off := 1 * 1 + 0) (.string (mkS (tg pl 1))) (by kernel_rfl) rfl (by kernel_rfl) (by kernel_rfl) (read_part strC_len ht1 1 0 (by omega) (by omega) _ (by rw [tgi_get (by omega)]; kernel_rfl)) ?_
        refine s_val (.int .i64 1) (by kernel_rfl) (fun _ => by kernel_rfl) ?_
        refine s_val (.string (mkS (tg pl 1))) (by kernel_rfl) (fun _ => by kernel_rfl) ?_
        refine s_nil ?_
        refine fin_seq ?_
        refine ok_region ?_
        refine s_val (.int .i64 1) (by kernel_rfl) (fun _ => by kernel_rfl) ?_
        refine s_val (.string (mkS (tg pl 1))) (by kernel_rfl) (fun _ => by kernel_rfl) ?_
        refine s_call (k := 37) (args := #[.string (mkS (tg pl 1))]) (.tuple #[.int .i64 (numD (tg pl 1)), .bool (numI (tg pl 1))]) (by kernel_rfl) (fun _ => by kernel_rfl) (fun w _ => number_mk (tg pl 1) _ rfl w (Nat.le_trans (htp 1) (by decide))) ?_
        refine s_val (.tuple #[.int .i64 (numD (tg pl 1)), .bool (numI (tg pl 1))]) (by kernel_rfl) (fun _ => by kernel_rfl) ?_
        refine s_val (.int .i64 (numD (tg pl 1))) (by kernel_rfl) (fun _ => by kernel_rfl) ?_
        refine s_val (.bool (numI (tg pl 1))) (by kernel_rfl) (fun _ => by kernel_rfl) ?_
        refine s_val (.pointer (some ⟨b2, 1, none⟩)) (by kernel_rfl) (fun _ => by kernel_rfl) ?_
        refine s_store_at 1 ⟨b2, #[.int .i64 (numD (tg pl 0)), .int .i64 0, .int .i64 0], 55⟩ (off := 1) (.int .i64 (numD (tg pl 1))) (by kernel_rfl) rfl rfl (by kernel_rfl) (by kernel_rfl) (by kernel_rfl) (by kernel_rfl) (by kernel_rfl) ?_
        refine s_nil ?_
        refine fin_block ?_
        refine fin_seq ?_
        refine ok_region ?_
        refine s_val (.int .i64 2) (by kernel_rfl) (fun _ => by kernel_rfl) ?_
        refine s_val (.int .i64 2) (by kernel_rfl) (fun _ => by kernel_rfl) ?_
        refine s_nil ?_
        exact fin_round (m' := 2) (by decide) (.inr (.inr (.inl ⟨_, (by omega : 2 ≤ pl.length), rfl, upds_self _ ⟨by kernel_rfl, by kernel_rfl, by kernel_rfl, by kernel_rfl, by kernel_rfl, by kernel_rfl, by kernel_rfl, by kernel_rfl, by kernel_rfl, trivial⟩, rfl⟩)))
      · skip
        refine s_dec (p := (1 : Int) < (pl.length : Int)) false (by kernel_rfl) (fun _ => by kernel_rfl) (decide_eq_false (h1)) ?_
        refine s_nil ?_
        refine fin_seq ?_
        refine ok_seq ?_
        refine ok_false (by kernel_rfl) ?_
        refine ok_exit ?_
        refine fin_seq_exit ?_
        refine fin_round_exit ?_
        refine fin_block_exit ?_
        exact fin_join ⟨_, by rw [tgi_out (l := pl) (i := 1) (by omega), tgi_out (l := pl) (i := 2) (by omega)], upds_self _ ⟨by kernel_rfl, by kernel_rfl, by kernel_rfl, by kernel_rfl, by kernel_rfl, by kernel_rfl, trivial⟩⟩
    · skip
      have qn := hrel
      refine ok_seq ?_
      refine ok_region ?_
      by_cases h2 : (2 : Int) < (pl.length : Int)
      · skip
        have hk : 2 < pl.length := by omega
        refine s_dec (p := (2 : Int) < (pl.length : Int)) true (by kernel_rfl) (fun _ => by kernel_rfl) (decide_eq_true (h2)) ?_
        refine s_nil ?_
        refine fin_seq ?_
        refine ok_seq ?_
        refine ok_true (by kernel_rfl) ?_
        refine ok_skip ?_
        refine fin_seq ?_
        refine ok_seq ?_
        refine ok_block ?_
        refine ok_seq ?_
        refine ok_region ?_
        refine s_val (.int .i64 2) (by kernel_rfl) (fun _ => by kernel_rfl) ?_
        refine s_val (.pointer (some ⟨g1, 2 * 1 + 0, none⟩)) (by kernel_rfl) (run_ixsl (b := g1) (off := 0) (n := pl.length) (c := c1) (k := .i64) (j := 2) (e := 9) (sz := 1) rfl (by kernel_rfl) (by kernel_rfl) (by kernel_rfl) (by kernel_rfl) (by omega) (by omega) (by rfl)) ?_
        refine s_load 0 ⟨g1, cur1, 9⟩ (off := 2 * 1 + 0) (.string (mkS (tg pl 2))) (by kernel_rfl) rfl (by kernel_rfl) (by kernel_rfl) (read_part strC_len ht1 2 0 (by omega) (by omega) _ (by rw [tgi_get (by omega)]; kernel_rfl)) ?_
        refine s_val (.int .i64 2) (by kernel_rfl) (fun _ => by kernel_rfl) ?_
        refine s_val (.string (mkS (tg pl 2))) (by kernel_rfl) (fun _ => by kernel_rfl) ?_
        refine s_nil ?_
        refine fin_seq ?_
        refine ok_region ?_
        refine s_val (.int .i64 2) (by kernel_rfl) (fun _ => by kernel_rfl) ?_
        refine s_val (.string (mkS (tg pl 2))) (by kernel_rfl) (fun _ => by kernel_rfl) ?_
        refine s_call (k := 37) (args := #[.string (mkS (tg pl 2))]) (.tuple #[.int .i64 (numD (tg pl 2)), .bool (numI (tg pl 2))]) (by kernel_rfl) (fun _ => by kernel_rfl) (fun w _ => number_mk (tg pl 2) _ rfl w (Nat.le_trans (htp 2) (by decide))) ?_
        refine s_val (.tuple #[.int .i64 (numD (tg pl 2)), .bool (numI (tg pl 2))]) (by kernel_rfl) (fun _ => by kernel_rfl) ?_
        refine s_val (.int .i64 (numD (tg pl 2))) (by kernel_rfl) (fun _ => by kernel_rfl) ?_
        refine s_val (.bool (numI (tg pl 2))) (by kernel_rfl) (fun _ => by kernel_rfl) ?_
        refine s_val (.pointer (some ⟨b2, 2, none⟩)) (by kernel_rfl) (fun _ => by kernel_rfl) ?_
        refine s_store_at 1 ⟨b2, #[.int .i64 (numD (tg pl 0)), .int .i64 (numD (tg pl 1)), .int .i64 0], 55⟩ (off := 2) (.int .i64 (numD (tg pl 2))) (by kernel_rfl) rfl rfl (by kernel_rfl) (by kernel_rfl) (by kernel_rfl) (by kernel_rfl) (by kernel_rfl) ?_
        refine s_nil ?_
        refine fin_block ?_
        refine fin_seq ?_
        refine ok_region ?_
        refine s_val (.int .i64 3) (by kernel_rfl) (fun _ => by kernel_rfl) ?_
        refine s_val (.int .i64 3) (by kernel_rfl) (fun _ => by kernel_rfl) ?_
        refine s_nil ?_
        exact fin_round (m' := 1) (by decide) (.inr (.inr (.inr (⟨_, (by omega : 3 ≤ pl.length), rfl, upds_self _ ⟨by kernel_rfl, by kernel_rfl, by kernel_rfl, by kernel_rfl, by kernel_rfl, by kernel_rfl, by kernel_rfl, by kernel_rfl, by kernel_rfl, trivial⟩, rfl⟩))))
      · skip
        refine s_dec (p := (2 : Int) < (pl.length : Int)) false (by kernel_rfl) (fun _ => by kernel_rfl) (decide_eq_false (h2)) ?_
        refine s_nil ?_
        refine fin_seq ?_
        refine ok_seq ?_
        refine ok_false (by kernel_rfl) ?_
        refine ok_exit ?_
        refine fin_seq_exit ?_
        refine fin_round_exit ?_
        refine fin_block_exit ?_
        exact fin_join ⟨_, by rw [tgi_out (l := pl) (i := 2) (by omega)], upds_self _ ⟨by kernel_rfl, by kernel_rfl, by kernel_rfl, by kernel_rfl, by kernel_rfl, by kernel_rfl, trivial⟩⟩
    · skip
      have qn := hrel
      refine ok_seq ?_
      refine ok_region ?_
      refine s_dec (p := (3 : Int) < (pl.length : Int)) false (by kernel_rfl) (fun _ => by kernel_rfl) (decide_eq_false (by omega)) ?_
      refine s_nil ?_
      refine fin_seq ?_
      refine ok_seq ?_
      refine ok_false (by kernel_rfl) ?_
      refine ok_exit ?_
      refine fin_seq_exit ?_
      refine fin_round_exit ?_
      refine fin_block_exit ?_
      exact fin_join ⟨_, rfl, upds_self _ ⟨by kernel_rfl, by kernel_rfl, by kernel_rfl, by kernel_rfl, by kernel_rfl, by kernel_rfl, trivial⟩⟩
  · rintro L f ⟨j, rfl, rfl⟩
    obtain ⟨la, hla⟩ : ∃ x, tg pl (pl.length - 1) = x := ⟨_, rfl⟩
    have hgu := guess_is hop hr hah htl hpl hla (by omega)
    refine fin_seq ?_
    refine ok_seq ?_
    refine ok_region ?_
    refine s_val (.int .i64 op) (by kernel_rfl) (fun _ => by kernel_rfl) ?_
    refine s_val (.slice (some ⟨g1, 0, none⟩) pl.length c1) (by kernel_rfl) (fun _ => by kernel_rfl) ?_
    refine s_val (.int .i64 (pl.length : Int)) (by kernel_rfl) (fun _ => by kernel_rfl) ?_
    refine s_val (.agg #[.int .i64 op, .int .i64 (pl.length : Int), .int .i64 0, .int .i64 0, .int .i64 0, .string ⟨#[]⟩, .string ⟨#[]⟩]) (by kernel_rfl) (fun _ => by kernel_rfl) ?_
    refine s_alloc_at (.agg #[.int .i64 0, .int .i64 0, .int .i64 0, .int .i64 0, .int .i64 0, .string ⟨#[]⟩, .string ⟨#[]⟩]) (by kernel_rfl) rfl (by kernel_rfl) (fun b3 => ?_)
    refine s_store_at 0 ⟨b3, #[.int .i64 0, .int .i64 0, .int .i64 0, .int .i64 0, .int .i64 0, .string ⟨#[]⟩, .string ⟨#[]⟩], 26⟩ (off := 0) (.agg #[.int .i64 op, .int .i64 (pl.length : Int), .int .i64 0, .int .i64 0, .int .i64 0, .string ⟨#[]⟩, .string ⟨#[]⟩]) (by kernel_rfl) rfl rfl (by kernel_rfl) (by kernel_rfl) (by kernel_rfl) (by kernel_rfl) (by kernel_rfl) ?_
    refine s_nil ?_
    refine fin_seq ?_
    refine ok_seq ?_
    refine ok_seq ?_
    refine ok_region ?_
    refine s_val (.slice (some ⟨g1, 0, none⟩) pl.length c1) (by kernel_rfl) (fun _ => by kernel_rfl) ?_
    refine s_val (.slice (some ⟨g1, 0, none⟩) pl.length c1) (by kernel_rfl) (fun _ => by kernel_rfl) ?_
    refine s_val (.int .i64 (pl.length : Int)) (by kernel_rfl) (fun _ => by kernel_rfl) ?_
    refine s_sum (k := .i64) (((pl.length : Int) : Int) - 1) (by kernel_rfl) (fun _ => by kernel_rfl) (IntWalk.i64_in _ (by omega)) ?_
    refine s_val (.pointer (some ⟨g1, (pl.length - 1) * 1 + 0, none⟩)) (by kernel_rfl) (run_ixsl (b := g1) (off := 0) (n := pl.length) (c := c1) (k := .i64) (j := ((pl.length : Int) - 1)) (e := 9) (sz := 1) rfl (by kernel_rfl) (by kernel_rfl) (by kernel_rfl) (by kernel_rfl) (by omega) (by omega) (by omega)) ?_
    refine s_load 1 ⟨g1, cur1, 9⟩ (off := (pl.length - 1) * 1 + 0) (.string (mkS la)) (by kernel_rfl) rfl (by kernel_rfl) (by kernel_rfl) (read_part strC_len ht1 (pl.length - 1) 0 (by omega) (by omega) _ (by rw [tgi_get (by omega), hla]; kernel_rfl)) ?_
    by_cases h3 : (la : List UInt8) = [42]
    · skip
      refine s_val (.bool true) (by kernel_rfl) (run_streql (a := la) (b := ([42])) rfl (by kernel_rfl) (by kernel_rfl) (decide_eq_true (h3))) ?_
      refine s_nil ?_
      refine fin_seq ?_
      refine ok_true (by kernel_rfl) ?_
      refine ok_seq ?_
      refine ok_region ?_
      refine s_val (.pointer (some ⟨b3, 0, none⟩)) (by kernel_rfl) (fun _ => by kernel_rfl) ?_
      refine s_store_at 0 ⟨b3, #[.int .i64 op, .int .i64 (pl.length : Int), .int .i64 0, .int .i64 0, .int .i64 0, .string ⟨#[]⟩, .string ⟨#[]⟩], 26⟩ (off := 0) (.int .i64 9) (by kernel_rfl) rfl rfl (by kernel_rfl) (by kernel_rfl) (by kernel_rfl) (by kernel_rfl) (by kernel_rfl) ?_
      refine s_nil ?_
      refine fin_seq ?_
      refine ok_region ?_
      refine s_val (.pointer (some ⟨b3, 1, none⟩)) (by kernel_rfl) (fun _ => by kernel_rfl) ?_
      refine s_load 0 ⟨b3, #[.int .i64 9, .int .i64 (pl.length : Int), .int .i64 0, .int .i64 0, .int .i64 0, .string ⟨#[]⟩, .string ⟨#[]⟩], 26⟩ (off := 1) (.int .i64 (pl.length : Int)) (by kernel_rfl) rfl (by kernel_rfl) (by kernel_rfl) (by kernel_rfl) ?_
      refine s_sum (k := .i64) (((pl.length : Int) : Int) - 1) (by kernel_rfl) (fun _ => by kernel_rfl) (IntWalk.i64_in _ (by omega)) ?_
      refine s_val (.pointer (some ⟨b3, 1, none⟩)) (by kernel_rfl) (fun _ => by kernel_rfl) ?_
      refine s_store_at 0 ⟨b3, #[.int .i64 9, .int .i64 (pl.length : Int), .int .i64 0, .int .i64 0, .int .i64 0, .string ⟨#[]⟩, .string ⟨#[]⟩], 26⟩ (off := 1) (.int .i64 (((pl.length : Int) : Int) - 1)) (by kernel_rfl) rfl rfl (by kernel_rfl) (by kernel_rfl) (by kernel_rfl) (by kernel_rfl) (by kernel_rfl) ?_
      refine s_nil ?_
      refine fin_seq ?_
      refine ok_seq ?_
      refine ok_region ?_
      refine s_val (.pointer (some ⟨b2, 0, none⟩)) (by kernel_rfl) (fun _ => by kernel_rfl) ?_
      refine s_load 2 ⟨b2, #[.int .i64 (numD (tg pl 0)), .int .i64 (numD (tg pl 1)), .int .i64 (numD (tg pl 2))], 55⟩ (off := 0) (.int .i64 (numD (tg pl 0))) (by kernel_rfl) rfl (by kernel_rfl) (by kernel_rfl) (by kernel_rfl) ?_
      refine s_val (.pointer (some ⟨b2, 1, none⟩)) (by kernel_rfl) (fun _ => by kernel_rfl) ?_
      refine s_load 2 ⟨b2, #[.int .i64 (numD (tg pl 0)), .int .i64 (numD (tg pl 1)), .int .i64 (numD (tg pl 2))], 55⟩ (off := 1) (.int .i64 (numD (tg pl 1))) (by kernel_rfl) rfl (by kernel_rfl) (by kernel_rfl) (by kernel_rfl) ?_
      refine s_val (.pointer (some ⟨b2, 2, none⟩)) (by kernel_rfl) (fun _ => by kernel_rfl) ?_
      refine s_load 2 ⟨b2, #[.int .i64 (numD (tg pl 0)), .int .i64 (numD (tg pl 1)), .int .i64 (numD (tg pl 2))], 55⟩ (off := 2) (.int .i64 (numD (tg pl 2))) (by kernel_rfl) rfl (by kernel_rfl) (by kernel_rfl) (by kernel_rfl) ?_
      refine s_val (.string (mkS tl)) (by kernel_rfl) (fun _ => by kernel_rfl) ?_
      refine s_val (.agg #[.int .i64 (numD (tg pl 0)), .int .i64 (numD (tg pl 1)), .int .i64 (numD (tg pl 2)), .string (mkS tl), .string ⟨#[]⟩]) (by kernel_rfl) (fun _ => by kernel_rfl) ?_
      refine s_val (.pointer (some ⟨b3, 2, none⟩)) (by kernel_rfl) (fun _ => by kernel_rfl) ?_
      refine s_store_at 0 ⟨b3, #[.int .i64 9, .int .i64 (((pl.length : Int) : Int) - 1), .int .i64 0, .int .i64 0, .int .i64 0, .string ⟨#[]⟩, .string ⟨#[]⟩], 26⟩ (off := 2) (.agg #[.int .i64 (numD (tg pl 0)), .int .i64 (numD (tg pl 1)), .int .i64 (numD (tg pl 2)), .string (mkS tl), .string ⟨#[]⟩]) (by kernel_rfl) rfl rfl (by kernel_rfl) (by kernel_rfl) (by kernel_rfl) (by kernel_rfl) (by kernel_rfl) ?_
      refine s_nil ?_
      refine fin_seq ?_
      refine ok_seq ?_
      refine ok_seq ?_
      refine ok_region ?_
      refine s_load 0 ⟨b3, #[.int .i64 9, .int .i64 (((pl.length : Int) : Int) - 1), .int .i64 (numD (tg pl 0)), .int .i64 (numD (tg pl 1)), .int .i64 (numD (tg pl 2)), .string (mkS tl), .string ⟨#[]⟩], 26⟩ (off := 0) (.agg #[.int .i64 9, .int .i64 (((pl.length : Int) : Int) - 1), .int .i64 (numD (tg pl 0)), .int .i64 (numD (tg pl 1)), .int .i64 (numD (tg pl 2)), .string (mkS tl), .string ⟨#[]⟩]) (by kernel_rfl) rfl (by kernel_rfl) (by kernel_rfl) (by kernel_rfl) ?_
      have hcs : ((⟨9, ((pl.length : Int) - 1), ⟨numD (tg pl 0), numD (tg pl 1), numD (tg pl 2), tl, []⟩⟩ : Co)).short := ⟨by show tl.length ≤ _; omega, Nat.zero_le _⟩
      obtain ⟨pt, hpt⟩ : ∃ x, Co.print (⟨9, ((pl.length : Int) - 1), ⟨numD (tg pl 0), numD (tg pl 1), numD (tg pl 2), tl, []⟩⟩ : Co) = x := ⟨_, rfl⟩
      refine s_call (k := 14) (args := #[.agg #[.int .i64 9, .int .i64 (((pl.length : Int) : Int) - 1), .int .i64 (numD (tg pl 0)), .int .i64 (numD (tg pl 1)), .int .i64 (numD (tg pl 2)), .string (mkS tl), .string ⟨#[]⟩]]) (.string (mkS pt)) (by kernel_rfl) (fun _ => by kernel_rfl) (fun w hO => ret_v (by rw [← hpt]) (cPrint_any (⟨9, ((pl.length : Int) - 1), ⟨numD (tg pl 0), numD (tg pl 1), numD (tg pl 2), tl, []⟩⟩ : Co) w hcs (ht.on hO.below))) ?_
      refine s_val (.string (mkS pt)) (by kernel_rfl) (fun _ => by kernel_rfl) ?_
      refine s_nil ?_
      refine fin_seq ?_
      refine ok_seq ?_
      refine ok_region ?_
      refine s_val (.string (mkS pt)) (by kernel_rfl) (fun _ => by kernel_rfl) ?_
      refine s_val (.string (mkS s)) (by kernel_rfl) (fun _ => by kernel_rfl) ?_
      by_cases h4 : (pt : List UInt8) = s
      · skip
        refine s_val (.bool false) (by kernel_rfl) (run_strneq (a := pt) (b := s) rfl (by kernel_rfl) (by kernel_rfl) (decide_eq_true (h4))) ?_
        refine s_val (.bool false) (by kernel_rfl) (fun _ => by kernel_rfl) ?_
        refine s_skip (by kernel_rfl) ?_
        refine s_skip (by kernel_rfl) ?_
        refine s_skip (by kernel_rfl) ?_
        refine s_skip (by kernel_rfl) ?_
        refine s_val (.bool false) (by kernel_rfl) (fun _ => by kernel_rfl) ?_
        refine s_nil ?_
        refine fin_seq ?_
        refine ok_false (by kernel_rfl) ?_
        refine ok_skip ?_
        refine fin_seq ?_
        refine ok_seq ?_
        refine ok_region ?_
        refine s_val (.string (mkS tl)) (by kernel_rfl) (fun _ => by kernel_rfl) ?_
        refine s_call (k := 38) (args := #[.string (mkS tl)]) (.string (mkS tl)) (by kernel_rfl) (fun _ => by kernel_rfl) (fun w _ => clone_any (mkS tl) w (by rw [mkS_sz]; omega)) ?_
        refine s_val (.pointer (some ⟨b3, 2, none⟩)) (by kernel_rfl) (fun _ => by kernel_rfl) ?_
        refine s_val (.pointer (some ⟨b3, 5, none⟩)) (by kernel_rfl) (fun _ => by kernel_rfl) ?_
        refine s_store_at 0 ⟨b3, #[.int .i64 9, .int .i64 (((pl.length : Int) : Int) - 1), .int .i64 (numD (tg pl 0)), .int .i64 (numD (tg pl 1)), .int .i64 (numD (tg pl 2)), .string (mkS tl), .string ⟨#[]⟩], 26⟩ (off := 5) (.string (mkS tl)) (by kernel_rfl) rfl rfl (by kernel_rfl) (by kernel_rfl) (by kernel_rfl) (by kernel_rfl) (by kernel_rfl) ?_
        refine s_nil ?_
        refine fin_seq ?_
        refine ok_seq ?_
        refine ok_region ?_
        refine s_load 0 ⟨b3, #[.int .i64 9, .int .i64 (((pl.length : Int) : Int) - 1), .int .i64 (numD (tg pl 0)), .int .i64 (numD (tg pl 1)), .int .i64 (numD (tg pl 2)), .string (mkS tl), .string ⟨#[]⟩], 26⟩ (off := 0) (.agg #[.int .i64 9, .int .i64 (((pl.length : Int) : Int) - 1), .int .i64 (numD (tg pl 0)), .int .i64 (numD (tg pl 1)), .int .i64 (numD (tg pl 2)), .string (mkS tl), .string ⟨#[]⟩]) (by kernel_rfl) rfl (by kernel_rfl) (by kernel_rfl) (by kernel_rfl) ?_
        refine s_store_at 3 ⟨b1, #[.int .i64 0, .int .i64 0, .int .i64 0, .int .i64 0, .int .i64 0, .string ⟨#[]⟩, .string ⟨#[]⟩], 26⟩ (off := 0) (.agg #[.int .i64 9, .int .i64 (((pl.length : Int) : Int) - 1), .int .i64 (numD (tg pl 0)), .int .i64 (numD (tg pl 1)), .int .i64 (numD (tg pl 2)), .string (mkS tl), .string ⟨#[]⟩]) (by kernel_rfl) rfl rfl (by kernel_rfl) (by kernel_rfl) (by kernel_rfl) (by kernel_rfl) (by kernel_rfl) ?_
        refine s_val (.int .i64 0) (by kernel_rfl) (fun _ => by kernel_rfl) ?_
        refine s_nil ?_
        refine fin_seq ?_
        refine ok_ret ?_
        refine fin_cell2 3 ⟨b1, #[.int .i64 9, .int .i64 (((pl.length : Int) : Int) - 1), .int .i64 (numD (tg pl 0)), .int .i64 (numD (tg pl 1)), .int .i64 (numD (tg pl 2)), .string (mkS tl), .string ⟨#[]⟩], 26⟩ (off := 0) (.agg #[.int .i64 9, .int .i64 (((pl.length : Int) : Int) - 1), .int .i64 (numD (tg pl 0)), .int .i64 (numD (tg pl 1)), .int .i64 (numD (tg pl 2)), .string (mkS tl), .string ⟨#[]⟩]) (.int .i64 0) Tryz.results12 (by kernel_rfl) (by kernel_rfl) (by kernel_rfl) (by kernel_rfl) ?_
        exact fun w hO => ⟨by have q := fit_or (c := (⟨9, ((pl.length : Int) - 1), ⟨numD (tg pl 0), numD (tg pl 1), numD (tg pl 2), tl, []⟩⟩ : Co)) (hgu.trans (if_pos h3)) hpt (.inl h4); rw [q.1, q.2]; rfl, hO.below⟩
      · skip
        refine s_val (.bool true) (by kernel_rfl) (run_strneq (a := pt) (b := s) rfl (by kernel_rfl) (by kernel_rfl) (decide_eq_false (h4))) ?_
        refine s_val (.bool true) (by kernel_rfl) (fun _ => by kernel_rfl) ?_
        refine s_val (.string (mkS pt)) (by kernel_rfl) (fun _ => by kernel_rfl) ?_
        refine s_val (.string (mkS s)) (by kernel_rfl) (fun _ => by kernel_rfl) ?_
        refine s_val (.string (mkS ([94] ++ s))) (by kernel_rfl) (run_stradd (a := [94]) (b := s) rfl (by kernel_rfl) (by kernel_rfl) (by simp only [List.length_append, List.length_cons, List.length_nil]; omega)) ?_
        by_cases h5 : (pt : List UInt8) = ([94] ++ s)
        · skip
          refine s_val (.bool false) (by kernel_rfl) (run_strneq (a := pt) (b := ([94] ++ s)) rfl (by kernel_rfl) (by kernel_rfl) (decide_eq_true (h5))) ?_
          refine s_val (.bool false) (by kernel_rfl) (fun _ => by kernel_rfl) ?_
          refine s_nil ?_
          refine fin_seq ?_
          refine ok_false (by kernel_rfl) ?_
          refine ok_skip ?_
          refine fin_seq ?_
          refine ok_seq ?_
          refine ok_region ?_
          refine s_val (.string (mkS tl)) (by kernel_rfl) (fun _ => by kernel_rfl) ?_
          refine s_call (k := 38) (args := #[.string (mkS tl)]) (.string (mkS tl)) (by kernel_rfl) (fun _ => by kernel_rfl) (fun w _ => clone_any (mkS tl) w (by rw [mkS_sz]; omega)) ?_
          refine s_val (.pointer (some ⟨b3, 2, none⟩)) (by kernel_rfl) (fun _ => by kernel_rfl) ?_
          refine s_val (.pointer (some ⟨b3, 5, none⟩)) (by kernel_rfl) (fun _ => by kernel_rfl) ?_
          refine s_store_at 0 ⟨b3, #[.int .i64 9, .int .i64 (((pl.length : Int) : Int) - 1), .int .i64 (numD (tg pl 0)), .int .i64 (numD (tg pl 1)), .int .i64 (numD (tg pl 2)), .string (mkS tl), .string ⟨#[]⟩], 26⟩ (off := 5) (.string (mkS tl)) (by kernel_rfl) rfl rfl (by kernel_rfl) (by kernel_rfl) (by kernel_rfl) (by kernel_rfl) (by kernel_rfl) ?_
          refine s_nil ?_
          refine fin_seq ?_
          refine ok_seq ?_
          refine ok_region ?_
          refine s_load 0 ⟨b3, #[.int .i64 9, .int .i64 (((pl.length : Int) : Int) - 1), .int .i64 (numD (tg pl 0)), .int .i64 (numD (tg pl 1)), .int .i64 (numD (tg pl 2)), .string (mkS tl), .string ⟨#[]⟩], 26⟩ (off := 0) (.agg #[.int .i64 9, .int .i64 (((pl.length : Int) : Int) - 1), .int .i64 (numD (tg pl 0)), .int .i64 (numD (tg pl 1)), .int .i64 (numD (tg pl 2)), .string (mkS tl), .string ⟨#[]⟩]) (by kernel_rfl) rfl (by kernel_rfl) (by kernel_rfl) (by kernel_rfl) ?_
          refine s_store_at 3 ⟨b1, #[.int .i64 0, .int .i64 0, .int .i64 0, .int .i64 0, .int .i64 0, .string ⟨#[]⟩, .string ⟨#[]⟩], 26⟩ (off := 0) (.agg #[.int .i64 9, .int .i64 (((pl.length : Int) : Int) - 1), .int .i64 (numD (tg pl 0)), .int .i64 (numD (tg pl 1)), .int .i64 (numD (tg pl 2)), .string (mkS tl), .string ⟨#[]⟩]) (by kernel_rfl) rfl rfl (by kernel_rfl) (by kernel_rfl) (by kernel_rfl) (by kernel_rfl) (by kernel_rfl) ?_
          refine s_val (.int .i64 0) (by kernel_rfl) (fun _ => by kernel_rfl) ?_
          refine s_nil ?_
          refine fin_seq ?_
          refine ok_ret ?_
          refine fin_cell2 3 ⟨b1, #[.int .i64 9, .int .i64 (((pl.length : Int) : Int) - 1), .int .i64 (numD (tg pl 0)), .int .i64 (numD (tg pl 1)), .int .i64 (numD (tg pl 2)), .string (mkS tl), .string ⟨#[]⟩], 26⟩ (off := 0) (.agg #[.int .i64 9, .int .i64 (((pl.length : Int) : Int) - 1), .int .i64 (numD (tg pl 0)), .int .i64 (numD (tg pl 1)), .int .i64 (numD (tg pl 2)), .string (mkS tl), .string ⟨#[]⟩]) (.int .i64 0) Tryz.results12 (by kernel_rfl) (by kernel_rfl) (by kernel_rfl) (by kernel_rfl) ?_
          exact fun w hO => ⟨by have q := fit_or (c := (⟨9, ((pl.length : Int) - 1), ⟨numD (tg pl 0), numD (tg pl 1), numD (tg pl 2), tl, []⟩⟩ : Co)) (hgu.trans (if_pos h3)) hpt (.inr h5); rw [q.1, q.2]; rfl, hO.below⟩
        · skip
          refine s_val (.bool true) (by kernel_rfl) (run_strneq (a := pt) (b := ([94] ++ s)) rfl (by kernel_rfl) (by kernel_rfl) (decide_eq_false (h5))) ?_
          refine s_val (.bool true) (by kernel_rfl) (fun _ => by kernel_rfl) ?_
          refine s_nil ?_
          refine fin_seq ?_
          refine ok_true (by kernel_rfl) ?_
          refine ok_seq ?_
          refine ok_region ?_
          refine s_val (.agg #[.int .i64 0, .int .i64 0, .int .i64 0, .int .i64 0, .int .i64 0, .string ⟨#[]⟩, .string ⟨#[]⟩]) (by kernel_rfl) (fun _ => by kernel_rfl) ?_
          refine s_store_at 3 ⟨b1, #[.int .i64 0, .int .i64 0, .int .i64 0, .int .i64 0, .int .i64 0, .string ⟨#[]⟩, .string ⟨#[]⟩], 26⟩ (off := 0) (.agg #[.int .i64 0, .int .i64 0, .int .i64 0, .int .i64 0, .int .i64 0, .string ⟨#[]⟩, .string ⟨#[]⟩]) (by kernel_rfl) rfl rfl (by kernel_rfl) (by kernel_rfl) (by kernel_rfl) (by kernel_rfl) (by kernel_rfl) ?_
          refine s_val (.int .i64 6) (by kernel_rfl) (fun _ => by kernel_rfl) ?_
          refine s_nil ?_
          refine fin_seq ?_
          refine ok_ret ?_
          refine fin_seq_ret ?_
          refine fin_cell2 3 ⟨b1, #[.int .i64 0, .int .i64 0, .int .i64 0, .int .i64 0, .int .i64 0, .string ⟨#[]⟩, .string ⟨#[]⟩], 26⟩ (off := 0) (.agg #[.int .i64 0, .int .i64 0, .int .i64 0, .int .i64 0, .int .i64 0, .string ⟨#[]⟩, .string ⟨#[]⟩]) (.int .i64 6) Tryz.results12 (by kernel_rfl) (by kernel_rfl) (by kernel_rfl) (by kernel_rfl) ?_
          exact fun w hO => ⟨by have q := fit_no (c := (⟨9, ((pl.length : Int) - 1), ⟨numD (tg pl 0), numD (tg pl 1), numD (tg pl 2), tl, []⟩⟩ : Co)) (hgu.trans (if_pos h3)) hpt h4 h5; rw [q.1, q.2]; rfl, hO.below⟩
    · skip
      refine s_val (.bool false) (by kernel_rfl) (run_streql (a := la) (b := ([42])) rfl (by kernel_rfl) (by kernel_rfl) (decide_eq_false (h3))) ?_
      refine s_nil ?_
      refine fin_seq ?_
      refine ok_false (by kernel_rfl) ?_
      refine ok_skip ?_
      refine fin_seq ?_
      refine ok_seq ?_
      refine ok_region ?_
      refine s_val (.pointer (some ⟨b2, 0, none⟩)) (by kernel_rfl) (fun _ => by kernel_rfl) ?_
      refine s_load 2 ⟨b2, #[.int .i64 (numD (tg pl 0)), .int .i64 (numD (tg pl 1)), .int .i64 (numD (tg pl 2))], 55⟩ (off := 0) (.int .i64 (numD (tg pl 0))) (by kernel_rfl) rfl (by kernel_rfl) (by kernel_rfl) (by kernel_rfl) ?_
      refine s_val (.pointer (some ⟨b2, 1, none⟩)) (by kernel_rfl) (fun _ => by kernel_rfl) ?_
      refine s_load 2 ⟨b2, #[.int .i64 (numD (tg pl 0)), .int .i64 (numD (tg pl 1)), .int .i64 (numD (tg pl 2))], 55⟩ (off := 1) (.int .i64 (numD (tg pl 1))) (by kernel_rfl) rfl (by kernel_rfl) (by kernel_rfl) (by kernel_rfl) ?_
      refine s_val (.pointer (some ⟨b2, 2, none⟩)) (by kernel_rfl) (fun _ => by kernel_rfl) ?_
      refine s_load 2 ⟨b2, #[.int .i64 (numD (tg pl 0)), .int .i64 (numD (tg pl 1)), .int .i64 (numD (tg pl 2))], 55⟩ (off := 2) (.int .i64 (numD (tg pl 2))) (by kernel_rfl) rfl (by kernel_rfl) (by kernel_rfl) (by kernel_rfl) ?_
      refine s_val (.string (mkS tl)) (by kernel_rfl) (fun _ => by kernel_rfl) ?_
      refine s_val (.agg #[.int .i64 (numD (tg pl 0)), .int .i64 (numD (tg pl 1)), .int .i64 (numD (tg pl 2)), .string (mkS tl), .string ⟨#[]⟩]) (by kernel_rfl) (fun _ => by kernel_rfl) ?_
      refine s_val (.pointer (some ⟨b3, 2, none⟩)) (by kernel_rfl) (fun _ => by kernel_rfl) ?_
      refine s_store_at 0 ⟨b3, #[.int .i64 op, .int .i64 (pl.length : Int), .int .i64 0, .int .i64 0, .int .i64 0, .string ⟨#[]⟩, .string ⟨#[]⟩], 26⟩ (off := 2) (.agg #[.int .i64 (numD (tg pl 0)), .int .i64 (numD (tg pl 1)), .int .i64 (numD (tg pl 2)), .string (mkS tl), .string ⟨#[]⟩]) (by kernel_rfl) rfl rfl (by kernel_rfl) (by kernel_rfl) (by kernel_rfl) (by kernel_rfl) (by kernel_rfl) ?_
      refine s_nil ?_
      refine fin_seq ?_
      refine ok_seq ?_
      refine ok_seq ?_
      refine ok_region ?_
      refine s_load 0 ⟨b3, #[.int .i64 op, .int .i64 (pl.length : Int), .int .i64 (numD (tg pl 0)), .int .i64 (numD (tg pl 1)), .int .i64 (numD (tg pl 2)), .string (mkS tl), .string ⟨#[]⟩], 26⟩ (off := 0) (.agg #[.int .i64 op, .int .i64 (pl.length : Int), .int .i64 (numD (tg pl 0)), .int .i64 (numD (tg pl 1)), .int .i64 (numD (tg pl 2)), .string (mkS tl), .string ⟨#[]⟩]) (by kernel_rfl) rfl (by kernel_rfl) (by kernel_rfl) (by kernel_rfl) ?_
      have hcs : ((⟨op, (pl.length : Int), ⟨numD (tg pl 0), numD (tg pl 1), numD (tg pl 2), tl, []⟩⟩ : Co)).short := ⟨by show tl.length ≤ _; omega, Nat.zero_le _⟩
      obtain ⟨pt, hpt⟩ : ∃ x, Co.print (⟨op, (pl.length : Int), ⟨numD (tg pl 0), numD (tg pl 1), numD (tg pl 2), tl, []⟩⟩ : Co) = x := ⟨_, rfl⟩
      refine s_call (k := 14) (args := #[.agg #[.int .i64 op, .int .i64 (pl.length : Int), .int .i64 (numD (tg pl 0)), .int .i64 (numD (tg pl 1)), .int .i64 (numD (tg pl 2)), .string (mkS tl), .string ⟨#[]⟩]]) (.string (mkS pt)) (by kernel_rfl) (fun _ => by kernel_rfl) (fun w hO => ret_v (by rw [← hpt]) (cPrint_any (⟨op, (pl.length : Int), ⟨numD (tg pl 0), numD (tg pl 1), numD (tg pl 2), tl, []⟩⟩ : Co) w hcs (ht.on hO.below))) ?_
      refine s_val (.string (mkS pt)) (by kernel_rfl) (fun _ => by kernel_rfl) ?_
      refine s_nil ?_
      refine fin_seq ?_
      refine ok_seq ?_
      refine ok_region ?_
      refine s_val (.string (mkS pt)) (by kernel_rfl) (fun _ => by kernel_rfl) ?_
      refine s_val (.string (mkS s)) (by kernel_rfl) (fun _ => by kernel_rfl) ?_
      by_cases h6 : (pt : List UInt8) = s
      · skip
        refine s_val (.bool false) (by kernel_rfl) (run_strneq (a := pt) (b := s) rfl (by kernel_rfl) (by kernel_rfl) (decide_eq_true (h6))) ?_
        refine s_val (.bool false) (by kernel_rfl) (fun _ => by kernel_rfl) ?_
        refine s_skip (by kernel_rfl) ?_
        refine s_skip (by kernel_rfl) ?_
        refine s_skip (by kernel_rfl) ?_
        refine s_skip (by kernel_rfl) ?_
        refine s_val (.bool false) (by kernel_rfl) (fun _ => by kernel_rfl) ?_
        refine s_nil ?_
        refine fin_seq ?_
        refine ok_false (by kernel_rfl) ?_
        refine ok_skip ?_
        refine fin_seq ?_
        refine ok_seq ?_
        refine ok_region ?_
        refine s_val (.string (mkS tl)) (by kernel_rfl) (fun _ => by kernel_rfl) ?_
        refine s_call (k := 38) (args := #[.string (mkS tl)]) (.string (mkS tl)) (by kernel_rfl) (fun _ => by kernel_rfl) (fun w _ => clone_any (mkS tl) w (by rw [mkS_sz]; omega)) ?_
        refine s_val (.pointer (some ⟨b3, 2, none⟩)) (by kernel_rfl) (fun _ => by kernel_rfl) ?_
        refine s_val (.pointer (some ⟨b3, 5, none⟩)) (by kernel_rfl) (fun _ => by kernel_rfl) ?_
        refine s_store_at 0 ⟨b3, #[.int .i64 op, .int .i64 (pl.length : Int), .int .i64 (numD (tg pl 0)), .int .i64 (numD (tg pl 1)), .int .i64 (numD (tg pl 2)), .string (mkS tl), .string ⟨#[]⟩], 26⟩ (off := 5) (.string (mkS tl)) (by kernel_rfl) rfl rfl (by kernel_rfl) (by kernel_rfl) (by kernel_rfl) (by kernel_rfl) (by kernel_rfl) ?_
        refine s_nil ?_
        refine fin_seq ?_
        refine ok_seq ?_
        refine ok_region ?_
        refine s_load 0 ⟨b3, #[.int .i64 op, .int .i64 (pl.length : Int), .int .i64 (numD (tg pl 0)), .int .i64 (numD (tg pl 1)), .int .i64 (numD (tg pl 2)), .string (mkS tl), .string ⟨#[]⟩], 26⟩ (off := 0) (.agg #[.int .i64 op, .int .i64 (pl.length : Int), .int .i64 (numD (tg pl 0)), .int .i64 (numD (tg pl 1)), .int .i64 (numD (tg pl 2)), .string (mkS tl), .string ⟨#[]⟩]) (by kernel_rfl) rfl (by kernel_rfl) (by kernel_rfl) (by kernel_rfl) ?_
        refine s_store_at 3 ⟨b1, #[.int .i64 0, .int .i64 0, .int .i64 0, .int .i64 0, .int .i64 0, .string ⟨#[]⟩, .string ⟨#[]⟩], 26⟩ (off := 0) (.agg #[.int .i64 op, .int .i64 (pl.length : Int), .int .i64 (numD (tg pl 0)), .int .i64 (numD (tg pl 1)), .int .i64 (numD (tg pl 2)), .string (mkS tl), .string ⟨#[]⟩]) (by kernel_rfl) rfl rfl (by kernel_rfl) (by kernel_rfl) (by kernel_rfl) (by kernel_rfl) (by kernel_rfl) ?_
        refine s_val (.int .i64 0) (by kernel_rfl) (fun _ => by kernel_rfl) ?_
        refine s_nil ?_
        refine fin_seq ?_
        refine ok_ret ?_
        refine fin_cell2 3 ⟨b1, #[.int .i64 op, .int .i64 (pl.length : Int), .int .i64 (numD (tg pl 0)), .int .i64 (numD (tg pl 1)), .int .i64 (numD (tg pl 2)), .string (mkS tl), .string ⟨#[]⟩], 26⟩ (off := 0) (.agg #[.int .i64 op, .int .i64 (pl.length : Int), .int .i64 (numD (tg pl 0)), .int .i64 (numD (tg pl 1)), .int .i64 (numD (tg pl 2)), .string (mkS tl), .string ⟨#[]⟩]) (.int .i64 0) Tryz.results12 (by kernel_rfl) (by kernel_rfl) (by kernel_rfl) (by kernel_rfl) ?_
        exact fun w hO => ⟨by have q := fit_or (c := (⟨op, (pl.length : Int), ⟨numD (tg pl 0), numD (tg pl 1), numD (tg pl 2), tl, []⟩⟩ : Co)) (hgu.trans (if_neg h3)) hpt (.inl h6); rw [q.1, q.2]; rfl, hO.below⟩
      · skip
        refine s_val (.bool true) (by kernel_rfl) (run_strneq (a := pt) (b := s) rfl (by kernel_rfl) (by kernel_rfl) (decide_eq_false (h6))) ?_
        refine s_val (.bool true) (by kernel_rfl) (fun _ => by kernel_rfl) ?_
        refine s_val (.string (mkS pt)) (by kernel_rfl) (fun _ => by kernel_rfl) ?_
        refine s_val (.string (mkS s)) (by kernel_rfl) (fun _ => by kernel_rfl) ?_
        refine s_val (.string (mkS ([94] ++ s))) (by kernel_rfl) (run_stradd (a := [94]) (b := s) rfl (by kernel_rfl) (by kernel_rfl) (by simp only [List.length_append, List.length_cons, List.length_nil]; omega)) ?_
        by_cases h7 : (pt : List UInt8) = ([94] ++ s)
        · skip
          refine s_val (.bool false) (by kernel_rfl) (run_strneq (a := pt) (b := ([94] ++ s)) rfl (by kernel_rfl) (by kernel_rfl) (decide_eq_true (h7))) ?_
          refine s_val (.bool false) (by kernel_rfl) (fun _ => by kernel_rfl) ?_
          refine s_nil ?_
          refine fin_seq ?_
          refine ok_false (by kernel_rfl) ?_
          refine ok_skip ?_
          refine fin_seq ?_
          refine ok_seq ?_
          refine ok_region ?_
          refine s_val (.string (mkS tl)) (by kernel_rfl) (fun _ => by kernel_rfl) ?_
          refine s_call (k := 38) (args := #[.string (mkS tl)]) (.string (mkS tl)) (by kernel_rfl) (fun _ => by kernel_rfl) (fun w _ => clone_any (mkS tl) w (by rw [mkS_sz]; omega)) ?_
          refine s_val (.pointer (some ⟨b3, 2, none⟩)) (by kernel_rfl) (fun _ => by kernel_rfl) ?_
          refine s_val (.pointer (some ⟨b3, 5, none⟩)) (by kernel_rfl) (fun _ => by kernel_rfl) ?_
          refine s_store_at 0 ⟨b3, #[.int .i64 op, .int .i64 (pl.length : Int), .int .i64 (numD (tg pl 0)), .int .i64 (numD (tg pl 1)), .int .i64 (numD (tg pl 2)), .string (mkS tl), .string ⟨#[]⟩], 26⟩ (off := 5) (.string (mkS tl)) (by kernel_rfl) rfl rfl (by kernel_rfl) (by kernel_rfl) (by kernel_rfl) (by kernel_rfl) (by kernel_rfl) ?_
          refine s_nil ?_
          refine fin_seq ?_
          refine ok_seq ?_
          refine ok_region ?_
          refine s_load 0 ⟨b3, #[.int .i64 op, .int .i64 (pl.length : Int), .int .i64 (numD (tg pl 0)), .int .i64 (numD (tg pl 1)), .int .i64 (numD (tg pl 2)), .string (mkS tl), .string ⟨#[]⟩], 26⟩ (off := 0) (.agg #[.int .i64 op, .int .i64 (pl.length : Int), .int .i64 (numD (tg pl 0)), .int .i64 (numD (tg pl 1)), .int .i64 (numD (tg pl 2)), .string (mkS tl), .string ⟨#[]⟩]) (by kernel_rfl) rfl (by kernel_rfl) (by kernel_rfl) (by kernel_rfl) ?_
          refine s_store_at 3 ⟨b1, #[.int .i64 0, .int .i64 0, .int .i64 0, .int .i64 0, .int .i64 0, .string ⟨#[]⟩, .string ⟨#[]⟩], 26⟩ (off := 0) (.agg #[.int .i64 op, .int .i64 (pl.length : Int), .int .i64 (numD (tg pl 0)), .int .i64 (numD (tg pl 1)), .int .i64 (numD (tg pl 2)), .string (mkS tl), .string ⟨#[]⟩]) (by kernel_rfl) rfl rfl (by kernel_rfl) (by kernel_rfl) (by kernel_rfl) (by kernel_rfl) (by kernel_rfl) ?_
          refine s_val (.int .i64 0) (by kernel_rfl) (fun _ => by kernel_rfl) ?_
          refine s_nil ?_
          refine fin_seq ?_
          refine ok_ret ?_
          refine fin_cell2 3 ⟨b1, #[.int .i64 op, .int .i64 (pl.length : Int), .int .i64 (numD (tg pl 0)), .int .i64 (numD (tg pl 1)), .int .i64 (numD (tg pl 2)), .string (mkS tl), .string ⟨#[]⟩], 26⟩ (off := 0) (.agg #[.int .i64 op, .int .i64 (pl.length : Int), .int .i64 (numD (tg pl 0)), .int .i64 (numD (tg pl 1)), .int .i64 (numD (tg pl 2)), .string (mkS tl), .string ⟨#[]⟩]) (.int .i64 0) Tryz.results12 (by kernel_rfl) (by kernel_rfl) (by kernel_rfl) (by kernel_rfl) ?_
          exact fun w hO => ⟨by have q := fit_or (c := (⟨op, (pl.length : Int), ⟨numD (tg pl 0), numD (tg pl 1), numD (tg pl 2), tl, []⟩⟩ : Co)) (hgu.trans (if_neg h3)) hpt (.inr h7); rw [q.1, q.2]; rfl, hO.below⟩
        · skip
          refine s_val (.bool true) (by kernel_rfl) (run_strneq (a := pt) (b := ([94] ++ s)) rfl (by kernel_rfl) (by kernel_rfl) (decide_eq_false (h7))) ?_
          refine s_val (.bool true) (by kernel_rfl) (fun _ => by kernel_rfl) ?_
          refine s_nil ?_
          refine fin_seq ?_
          refine ok_true (by kernel_rfl) ?_
          refine ok_seq ?_
          refine ok_region ?_
          refine s_val (.agg #[.int .i64 0, .int .i64 0, .int .i64 0, .int .i64 0, .int .i64 0, .string ⟨#[]⟩, .string ⟨#[]⟩]) (by kernel_rfl) (fun _ => by kernel_rfl) ?_
          refine s_store_at 3 ⟨b1, #[.int .i64 0, .int .i64 0, .int .i64 0, .int .i64 0, .int .i64 0, .string ⟨#[]⟩, .string ⟨#[]⟩], 26⟩ (off := 0) (.agg #[.int .i64 0, .int .i64 0, .int .i64 0, .int .i64 0, .int .i64 0, .string ⟨#[]⟩, .string ⟨#[]⟩]) (by kernel_rfl) rfl rfl (by kernel_rfl) (by kernel_rfl) (by kernel_rfl) (by kernel_rfl) (by kernel_rfl) ?_
          refine s_val (.int .i64 6) (by kernel_rfl) (fun _ => by kernel_rfl) ?_
          refine s_nil ?_
          refine fin_seq ?_
          refine ok_ret ?_
          refine fin_seq_ret ?_
          refine fin_cell2 3 ⟨b1, #[.int .i64 0, .int .i64 0, .int .i64 0, .int .i64 0, .int .i64 0, .string ⟨#[]⟩, .string ⟨#[]⟩], 26⟩ (off := 0) (.agg #[.int .i64 0, .int .i64 0, .int .i64 0, .int .i64 0, .int .i64 0, .string ⟨#[]⟩, .string ⟨#[]⟩]) (.int .i64 6) Tryz.results12 (by kernel_rfl) (by kernel_rfl) (by kernel_rfl) (by kernel_rfl) ?_
          exact fun w hO => ⟨by have q := fit_no (c := (⟨op, (pl.length : Int), ⟨numD (tg pl 0), numD (tg pl 1), numD (tg pl 2), tl, []⟩⟩ : Co)) (hgu.trans (if_neg h3)) hpt h6 h7; rw [q.1, q.2]; rfl, hO.below⟩
end Go.Proofs.YtjabcbagggicaaaGreatDoor
end

section
/-
  linchpinlaw0's Comp; linchpinlaw6's with, begins, over, says: what they return; nothing that was there is changed.
-/
namespace Go.Proofs.YtjabcbagggicaaaGreatDoor
open Go.RowKit
set_option maxRecDepth 100000
set_option linter.unusedVariables false
set_option linter.unusedSimpArgs false
set_option maxHeartbeats 2000000

theorem genCo_any (v : Value) (l : List Int) (i : Nat) (W : World) (hv : ReadsI W W.heap.size v l) (hl : l.length ≤ 9223372036854775807) (hi : i ≤ 100000) :
    Calls Tryz.prog 23 #[v, .int .i64 (i : Int)] W fun e w' => e = .returned (coV (genCo l i)) ∧ Below W.heap.size W w' := by
  obtain ⟨k5, e5, q5⟩ := plc_nat' (atL l (i + 5)) 9 (by omega)
  have f5 := from_in hv hl (i + 5) 9 (by omega) (by omega) (by omega) e5
  obtain ⟨k6, e6, q6⟩ := plc_nat' (atL l (i + 6)) 3 (by omega)
  have f6 := from_in hv hl (i + 6) 3 (by omega) (by omega) (by omega) e6
  have hk6 : k6 = 0 ∨ k6 = 1 ∨ k6 = 2 := by omega
  rcases hk6 with rfl | rfl | rfl
  · skip
    refine calls_ok (n := 47) Tryz.func23 rfl (by kernel_rfl) (by kernel_rfl) ?_
    refine ok_seq ?_
    refine ok_region ?_
    refine s_alloc_at (.agg #[.int .i64 0, .int .i64 0, .int .i64 0, .int .i64 0, .int .i64 0, .string ⟨#[]⟩, .string ⟨#[]⟩]) (by kernel_rfl) rfl (by kernel_rfl) (fun b1 => ?_)
    refine s_nil ?_
    refine fin_seq ?_
    refine ok_seq ?_
    refine ok_region ?_
    refine s_val (v) (by kernel_rfl) (fun _ => by kernel_rfl) ?_
    refine s_val (.int .i64 ((i : Nat) : Int)) (by kernel_rfl) (fun _ => by kernel_rfl) ?_
    refine s_sum (k := .i64) (((i + 5 : Nat) : Int)) (by kernel_rfl) (fun _ => by kernel_rfl) (IntWalk.i64_in _ (by omega)) ?_
    refine s_call (k := 58) (args := #[v, .int .i64 ((i + 5 : Nat) : Int), .int .i64 9]) (.int .i64 (k5 : Int)) (by kernel_rfl) (fun _ => by kernel_rfl) (fun w hO => f5 w hO.below) ?_
    refine s_sum (k := .i64) ((1 : Int) + (k5 : Int)) (by kernel_rfl) (fun _ => by kernel_rfl) (IntWalk.i64_in _ (by omega)) ?_
    refine s_val (v) (by kernel_rfl) (fun _ => by kernel_rfl) ?_
    refine s_val (.int .i64 ((i : Nat) : Int)) (by kernel_rfl) (fun _ => by kernel_rfl) ?_
    refine s_sum (k := .i64) (((i + 6 : Nat) : Int)) (by kernel_rfl) (fun _ => by kernel_rfl) (IntWalk.i64_in _ (by omega)) ?_
    refine s_call (k := 58) (args := #[v, .int .i64 ((i + 6 : Nat) : Int), .int .i64 3]) (.int .i64 0) (by kernel_rfl) (fun _ => by kernel_rfl) (fun w hO => f6 w hO.below) ?_
    refine s_val (.int .i64 1) (by kernel_rfl) (fun _ => by kernel_rfl) ?_
    refine s_val (v) (by kernel_rfl) (fun _ => by kernel_rfl) ?_
    refine s_val (.int .i64 ((i : Nat) : Int)) (by kernel_rfl) (fun _ => by kernel_rfl) ?_
    refine s_call (k := 27) (args := #[v, .int .i64 ((i : Nat) : Int)]) (verV (genV l i)) (by kernel_rfl) (fun _ => by kernel_rfl) (fun w hO => gen_any v l i w ((hv.below hO.below).more hO.below.size) hl (by omega)) ?_
    refine s_val (.agg #[.int .i64 ((1 : Int) + (k5 : Int)), .int .i64 1, .int .i64 ((genV l i).maj), .int .i64 ((genV l i).min), .int .i64 ((genV l i).pat), .string (mkS (genV l i).pre), .string (mkS (genV l i).build)]) (by kernel_rfl) (fun _ => by kernel_rfl) ?_
    refine s_alloc_at (.agg #[.int .i64 0, .int .i64 0, .int .i64 0, .int .i64 0, .int .i64 0, .string ⟨#[]⟩, .string ⟨#[]⟩]) (by kernel_rfl) rfl (by kernel_rfl) (fun b2 => ?_)
    refine s_store_at 0 ⟨b2, #[.int .i64 0, .int .i64 0, .int .i64 0, .int .i64 0, .int .i64 0, .string ⟨#[]⟩, .string ⟨#[]⟩], 26⟩ (off := 0) (.agg #[.int .i64 ((1 : Int) + (k5 : Int)), .int .i64 1, .int .i64 ((genV l i).maj), .int .i64 ((genV l i).min), .int .i64 ((genV l i).pat), .string (mkS (genV l i).pre), .string (mkS (genV l i).build)]) (by kernel_rfl) rfl rfl (by kernel_rfl) (by kernel_rfl) (by kernel_rfl) (by kernel_rfl) (by kernel_rfl) ?_
    refine s_nil ?_
    refine fin_seq ?_
    refine ok_seq ?_
    refine ok_seq ?_
    refine ok_region ?_
    refine s_val (.pointer (some ⟨b2, 0, none⟩)) (by kernel_rfl) (fun _ => by kernel_rfl) ?_
    refine s_load 0 ⟨b2, #[.int .i64 ((1 : Int) + (k5 : Int)), .int .i64 1, .int .i64 ((genV l i).maj), .int .i64 ((genV l i).min), .int .i64 ((genV l i).pat), .string (mkS (genV l i).pre), .string (mkS (genV l i).build)], 26⟩ (off := 0) (.int .i64 ((1 : Int) + (k5 : Int))) (by kernel_rfl) rfl (by kernel_rfl) (by kernel_rfl) (by kernel_rfl) ?_
    by_cases h1 : ((1 : Int) + (k5 : Int) : Int) = 9
    · skip
      refine s_dec (p := ((1 : Int) + (k5 : Int) : Int) = 9) true (by kernel_rfl) (fun _ => by kernel_rfl) (decide_eq_true (h1)) ?_
      refine s_nil ?_
      refine fin_seq ?_
      refine ok_true (by kernel_rfl) ?_
      refine ok_region ?_
      refine s_val (.pointer (some ⟨b2, 1, none⟩)) (by kernel_rfl) (fun _ => by kernel_rfl) ?_
      refine s_load 0 ⟨b2, #[.int .i64 ((1 : Int) + (k5 : Int)), .int .i64 1, .int .i64 ((genV l i).maj), .int .i64 ((genV l i).min), .int .i64 ((genV l i).pat), .string (mkS (genV l i).pre), .string (mkS (genV l i).build)], 26⟩ (off := 1) (.int .i64 1) (by kernel_rfl) rfl (by kernel_rfl) (by kernel_rfl) (by kernel_rfl) ?_
      refine s_val (.int .i64 0) (by kernel_rfl) (fun _ => by kernel_rfl) ?_
      refine s_val (.pointer (some ⟨b2, 1, none⟩)) (by kernel_rfl) (fun _ => by kernel_rfl) ?_
      refine s_store_at 0 ⟨b2, #[.int .i64 ((1 : Int) + (k5 : Int)), .int .i64 1, .int .i64 ((genV l i).maj), .int .i64 ((genV l i).min), .int .i64 ((genV l i).pat), .string (mkS (genV l i).pre), .string (mkS (genV l i).build)], 26⟩ (off := 1) (.int .i64 0) (by kernel_rfl) rfl rfl (by kernel_rfl) (by kernel_rfl) (by kernel_rfl) (by kernel_rfl) (by kernel_rfl) ?_
      refine s_nil ?_
      refine fin_seq ?_
      refine ok_seq ?_
      refine ok_region ?_
      refine s_val (.pointer (some ⟨b2, 2, none⟩)) (by kernel_rfl) (fun _ => by kernel_rfl) ?_
      refine s_val (.pointer (some ⟨b2, 6, none⟩)) (by kernel_rfl) (fun _ => by kernel_rfl) ?_
      refine s_store_at 0 ⟨b2, #[.int .i64 ((1 : Int) + (k5 : Int)), .int .i64 0, .int .i64 ((genV l i).maj), .int .i64 ((genV l i).min), .int .i64 ((genV l i).pat), .string (mkS (genV l i).pre), .string (mkS (genV l i).build)], 26⟩ (off := 6) (.string ⟨#[]⟩) (by kernel_rfl) rfl rfl (by kernel_rfl) (by kernel_rfl) (by kernel_rfl) (by kernel_rfl) (by kernel_rfl) ?_
      refine s_nil ?_
      refine fin_seq ?_
      refine ok_seq ?_
      refine ok_seq ?_
      refine ok_region ?_
      refine s_val (.pointer (some ⟨b2, 1, none⟩)) (by kernel_rfl) (fun _ => by kernel_rfl) ?_
      refine s_load 0 ⟨b2, #[.int .i64 ((1 : Int) + (k5 : Int)), .int .i64 0, .int .i64 ((genV l i).maj), .int .i64 ((genV l i).min), .int .i64 ((genV l i).pat), .string (mkS (genV l i).pre), .string ⟨#[]⟩], 26⟩ (off := 1) (.int .i64 0) (by kernel_rfl) rfl (by kernel_rfl) (by kernel_rfl) (by kernel_rfl) ?_
      refine s_val (.bool true) (by kernel_rfl) (fun _ => by kernel_rfl) ?_
      refine s_nil ?_
      refine fin_seq ?_
      refine ok_true (by kernel_rfl) ?_
      refine ok_seq ?_
      refine ok_region ?_
      refine s_val (.pointer (some ⟨b2, 2, none⟩)) (by kernel_rfl) (fun _ => by kernel_rfl) ?_
      refine s_val (.pointer (some ⟨b2, 5, none⟩)) (by kernel_rfl) (fun _ => by kernel_rfl) ?_
      refine s_store_at 0 ⟨b2, #[.int .i64 ((1 : Int) + (k5 : Int)), .int .i64 0, .int .i64 ((genV l i).maj), .int .i64 ((genV l i).min), .int .i64 ((genV l i).pat), .string (mkS (genV l i).pre), .string ⟨#[]⟩], 26⟩ (off := 5) (.string ⟨#[]⟩) (by kernel_rfl) rfl rfl (by kernel_rfl) (by kernel_rfl) (by kernel_rfl) (by kernel_rfl) (by kernel_rfl) ?_
      refine s_nil ?_
      refine fin_seq ?_
      refine ok_region ?_
      refine s_val (.pointer (some ⟨b2, 2, none⟩)) (by kernel_rfl) (fun _ => by kernel_rfl) ?_
      refine s_val (.pointer (some ⟨b2, 4, none⟩)) (by kernel_rfl) (fun _ => by kernel_rfl) ?_
      refine s_store_at 0 ⟨b2, #[.int .i64 ((1 : Int) + (k5 : Int)), .int .i64 0, .int .i64 ((genV l i).maj), .int .i64 ((genV l i).min), .int .i64 ((genV l i).pat), .string ⟨#[]⟩, .string ⟨#[]⟩], 26⟩ (off := 4) (.int .i64 0) (by kernel_rfl) rfl rfl (by kernel_rfl) (by kernel_rfl) (by kernel_rfl) (by kernel_rfl) (by kernel_rfl) ?_
      refine s_nil ?_
      refine fin_seq ?_
      refine ok_seq ?_
      refine ok_seq ?_
      refine ok_region ?_
      refine s_val (.pointer (some ⟨b2, 1, none⟩)) (by kernel_rfl) (fun _ => by kernel_rfl) ?_
      refine s_load 0 ⟨b2, #[.int .i64 ((1 : Int) + (k5 : Int)), .int .i64 0, .int .i64 ((genV l i).maj), .int .i64 ((genV l i).min), .int .i64 0, .string ⟨#[]⟩, .string ⟨#[]⟩], 26⟩ (off := 1) (.int .i64 0) (by kernel_rfl) rfl (by kernel_rfl) (by kernel_rfl) (by kernel_rfl) ?_
      refine s_val (.bool true) (by kernel_rfl) (fun _ => by kernel_rfl) ?_
      refine s_nil ?_
      refine fin_seq ?_
      refine ok_true (by kernel_rfl) ?_
      refine ok_region ?_
      refine s_val (.pointer (some ⟨b2, 2, none⟩)) (by kernel_rfl) (fun _ => by kernel_rfl) ?_
      refine s_val (.pointer (some ⟨b2, 3, none⟩)) (by kernel_rfl) (fun _ => by kernel_rfl) ?_
      refine s_store_at 0 ⟨b2, #[.int .i64 ((1 : Int) + (k5 : Int)), .int .i64 0, .int .i64 ((genV l i).maj), .int .i64 ((genV l i).min), .int .i64 0, .string ⟨#[]⟩, .string ⟨#[]⟩], 26⟩ (off := 3) (.int .i64 0) (by kernel_rfl) rfl rfl (by kernel_rfl) (by kernel_rfl) (by kernel_rfl) (by kernel_rfl) (by kernel_rfl) ?_
      refine s_nil ?_
      refine fin_seq ?_
      refine ok_seq ?_
      refine ok_seq ?_
      refine ok_region ?_
      refine s_val (.pointer (some ⟨b2, 1, none⟩)) (by kernel_rfl) (fun _ => by kernel_rfl) ?_
      refine s_load 0 ⟨b2, #[.int .i64 ((1 : Int) + (k5 : Int)), .int .i64 0, .int .i64 ((genV l i).maj), .int .i64 0, .int .i64 0, .string ⟨#[]⟩, .string ⟨#[]⟩], 26⟩ (off := 1) (.int .i64 0) (by kernel_rfl) rfl (by kernel_rfl) (by kernel_rfl) (by kernel_rfl) ?_
      refine s_val (.bool true) (by kernel_rfl) (fun _ => by kernel_rfl) ?_
      refine s_nil ?_
      refine fin_seq ?_
      refine ok_true (by kernel_rfl) ?_
      refine ok_region ?_
      refine s_val (.pointer (some ⟨b2, 2, none⟩)) (by kernel_rfl) (fun _ => by kernel_rfl) ?_
      refine s_val (.pointer (some ⟨b2, 2, none⟩)) (by kernel_rfl) (fun _ => by kernel_rfl) ?_
      refine s_store_at 0 ⟨b2, #[.int .i64 ((1 : Int) + (k5 : Int)), .int .i64 0, .int .i64 ((genV l i).maj), .int .i64 0, .int .i64 0, .string ⟨#[]⟩, .string ⟨#[]⟩], 26⟩ (off := 2) (.int .i64 0) (by kernel_rfl) rfl rfl (by kernel_rfl) (by kernel_rfl) (by kernel_rfl) (by kernel_rfl) (by kernel_rfl) ?_
      refine s_nil ?_
      refine fin_seq ?_
      refine ok_seq ?_
      refine ok_region ?_
      refine s_load 0 ⟨b2, #[.int .i64 ((1 : Int) + (k5 : Int)), .int .i64 0, .int .i64 0, .int .i64 0, .int .i64 0, .string ⟨#[]⟩, .string ⟨#[]⟩], 26⟩ (off := 0) (.agg #[.int .i64 ((1 : Int) + (k5 : Int)), .int .i64 0, .int .i64 0, .int .i64 0, .int .i64 0, .string ⟨#[]⟩, .string ⟨#[]⟩]) (by kernel_rfl) rfl (by kernel_rfl) (by kernel_rfl) (by kernel_rfl) ?_
      refine s_store_at 1 ⟨b1, #[.int .i64 0, .int .i64 0, .int .i64 0, .int .i64 0, .int .i64 0, .string ⟨#[]⟩, .string ⟨#[]⟩], 26⟩ (off := 0) (.agg #[.int .i64 ((1 : Int) + (k5 : Int)), .int .i64 0, .int .i64 0, .int .i64 0, .int .i64 0, .string ⟨#[]⟩, .string ⟨#[]⟩]) (by kernel_rfl) rfl rfl (by kernel_rfl) (by kernel_rfl) (by kernel_rfl) (by kernel_rfl) (by kernel_rfl) ?_
      refine s_nil ?_
      refine fin_seq ?_
      refine ok_ret ?_
      refine fin_cell 1 ⟨b1, #[.int .i64 ((1 : Int) + (k5 : Int)), .int .i64 0, .int .i64 0, .int .i64 0, .int .i64 0, .string ⟨#[]⟩, .string ⟨#[]⟩], 26⟩ (off := 0) (.agg #[.int .i64 ((1 : Int) + (k5 : Int)), .int .i64 0, .int .i64 0, .int .i64 0, .int .i64 0, .string ⟨#[]⟩, .string ⟨#[]⟩]) Tryz.results23 (by kernel_rfl) (by kernel_rfl) (by kernel_rfl) ?_
      exact fun w hO => ⟨by rw [show coV (genCo l i) = .agg #[.int .i64 ((1 : Int) + (k5 : Int)), .int .i64 0, .int .i64 0, .int .i64 0, .int .i64 0, .string ⟨#[]⟩, .string ⟨#[]⟩] from by unfold genCo toldV coV; rw [show plc (atL l (i + 5)) 9 = _ from e5, show plc (atL l (i + 6)) 3 = _ from e6]; simp [h1]; try rfl], hO.below⟩
    · skip
      refine s_dec (p := ((1 : Int) + (k5 : Int) : Int) = 9) false (by kernel_rfl) (fun _ => by kernel_rfl) (decide_eq_false (h1)) ?_
      refine s_nil ?_
      refine fin_seq ?_
      refine ok_false (by kernel_rfl) ?_
      refine ok_skip ?_
      refine fin_seq ?_
      refine ok_seq ?_
      refine ok_region ?_
      refine s_val (.pointer (some ⟨b2, 2, none⟩)) (by kernel_rfl) (fun _ => by kernel_rfl) ?_
      refine s_val (.pointer (some ⟨b2, 6, none⟩)) (by kernel_rfl) (fun _ => by kernel_rfl) ?_
      refine s_store_at 0 ⟨b2, #[.int .i64 ((1 : Int) + (k5 : Int)), .int .i64 1, .int .i64 ((genV l i).maj), .int .i64 ((genV l i).min), .int .i64 ((genV l i).pat), .string (mkS (genV l i).pre), .string (mkS (genV l i).build)], 26⟩ (off := 6) (.string ⟨#[]⟩) (by kernel_rfl) rfl rfl (by kernel_rfl) (by kernel_rfl) (by kernel_rfl) (by kernel_rfl) (by kernel_rfl) ?_
      refine s_nil ?_
      refine fin_seq ?_
      refine ok_seq ?_
      refine ok_seq ?_
      refine ok_region ?_
      refine s_val (.pointer (some ⟨b2, 1, none⟩)) (by kernel_rfl) (fun _ => by kernel_rfl) ?_
      refine s_load 0 ⟨b2, #[.int .i64 ((1 : Int) + (k5 : Int)), .int .i64 1, .int .i64 ((genV l i).maj), .int .i64 ((genV l i).min), .int .i64 ((genV l i).pat), .string (mkS (genV l i).pre), .string ⟨#[]⟩], 26⟩ (off := 1) (.int .i64 1) (by kernel_rfl) rfl (by kernel_rfl) (by kernel_rfl) (by kernel_rfl) ?_
      refine s_val (.bool true) (by kernel_rfl) (fun _ => by kernel_rfl) ?_
      refine s_nil ?_
      refine fin_seq ?_
      refine ok_true (by kernel_rfl) ?_
      refine ok_seq ?_
      refine ok_region ?_
      refine s_val (.pointer (some ⟨b2, 2, none⟩)) (by kernel_rfl) (fun _ => by kernel_rfl) ?_
      refine s_val (.pointer (some ⟨b2, 5, none⟩)) (by kernel_rfl) (fun _ => by kernel_rfl) ?_
      refine s_store_at 0 ⟨b2, #[.int .i64 ((1 : Int) + (k5 : Int)), .int .i64 1, .int .i64 ((genV l i).maj), .int .i64 ((genV l i).min), .int .i64 ((genV l i).pat), .string (mkS (genV l i).pre), .string ⟨#[]⟩], 26⟩ (off := 5) (.string ⟨#[]⟩) (by kernel_rfl) rfl rfl (by kernel_rfl) (by kernel_rfl) (by kernel_rfl) (by kernel_rfl) (by kernel_rfl) ?_
      refine s_nil ?_
      refine fin_seq ?_
      refine ok_region ?_
      refine s_val (.pointer (some ⟨b2, 2, none⟩)) (by kernel_rfl) (fun _ => by kernel_rfl) ?_
      refine s_val (.pointer (some ⟨b2, 4, none⟩)) (by kernel_rfl) (fun _ => by kernel_rfl) ?_
      refine s_store_at 0 ⟨b2, #[.int .i64 ((1 : Int) + (k5 : Int)), .int .i64 1, .int .i64 ((genV l i).maj), .int .i64 ((genV l i).min), .int .i64 ((genV l i).pat), .string ⟨#[]⟩, .string ⟨#[]⟩], 26⟩ (off := 4) (.int .i64 0) (by kernel_rfl) rfl rfl (by kernel_rfl) (by kernel_rfl) (by kernel_rfl) (by kernel_rfl) (by kernel_rfl) ?_
      refine s_nil ?_
      refine fin_seq ?_
      refine ok_seq ?_
      refine ok_seq ?_
      refine ok_region ?_
      refine s_val (.pointer (some ⟨b2, 1, none⟩)) (by kernel_rfl) (fun _ => by kernel_rfl) ?_
      refine s_load 0 ⟨b2, #[.int .i64 ((1 : Int) + (k5 : Int)), .int .i64 1, .int .i64 ((genV l i).maj), .int .i64 ((genV l i).min), .int .i64 0, .string ⟨#[]⟩, .string ⟨#[]⟩], 26⟩ (off := 1) (.int .i64 1) (by kernel_rfl) rfl (by kernel_rfl) (by kernel_rfl) (by kernel_rfl) ?_
      refine s_val (.bool true) (by kernel_rfl) (fun _ => by kernel_rfl) ?_
      refine s_nil ?_
      refine fin_seq ?_
      refine ok_true (by kernel_rfl) ?_
      refine ok_region ?_
      refine s_val (.pointer (some ⟨b2, 2, none⟩)) (by kernel_rfl) (fun _ => by kernel_rfl) ?_
      refine s_val (.pointer (some ⟨b2, 3, none⟩)) (by kernel_rfl) (fun _ => by kernel_rfl) ?_
      refine s_store_at 0 ⟨b2, #[.int .i64 ((1 : Int) + (k5 : Int)), .int .i64 1, .int .i64 ((genV l i).maj), .int .i64 ((genV l i).min), .int .i64 0, .string ⟨#[]⟩, .string ⟨#[]⟩], 26⟩ (off := 3) (.int .i64 0) (by kernel_rfl) rfl rfl (by kernel_rfl) (by kernel_rfl) (by kernel_rfl) (by kernel_rfl) (by kernel_rfl) ?_
      refine s_nil ?_
      refine fin_seq ?_
      refine ok_seq ?_
      refine ok_seq ?_
      refine ok_region ?_
      refine s_val (.pointer (some ⟨b2, 1, none⟩)) (by kernel_rfl) (fun _ => by kernel_rfl) ?_
      refine s_load 0 ⟨b2, #[.int .i64 ((1 : Int) + (k5 : Int)), .int .i64 1, .int .i64 ((genV l i).maj), .int .i64 0, .int .i64 0, .string ⟨#[]⟩, .string ⟨#[]⟩], 26⟩ (off := 1) (.int .i64 1) (by kernel_rfl) rfl (by kernel_rfl) (by kernel_rfl) (by kernel_rfl) ?_
      refine s_val (.bool false) (by kernel_rfl) (fun _ => by kernel_rfl) ?_
      refine s_nil ?_
      refine fin_seq ?_
      refine ok_false (by kernel_rfl) ?_
      refine ok_skip ?_
      refine fin_seq ?_
      refine ok_seq ?_
      refine ok_region ?_
      refine s_load 0 ⟨b2, #[.int .i64 ((1 : Int) + (k5 : Int)), .int .i64 1, .int .i64 ((genV l i).maj), .int .i64 0, .int .i64 0, .string ⟨#[]⟩, .string ⟨#[]⟩], 26⟩ (off := 0) (.agg #[.int .i64 ((1 : Int) + (k5 : Int)), .int .i64 1, .int .i64 ((genV l i).maj), .int .i64 0, .int .i64 0, .string ⟨#[]⟩, .string ⟨#[]⟩]) (by kernel_rfl) rfl (by kernel_rfl) (by kernel_rfl) (by kernel_rfl) ?_
      refine s_store_at 1 ⟨b1, #[.int .i64 0, .int .i64 0, .int .i64 0, .int .i64 0, .int .i64 0, .string ⟨#[]⟩, .string ⟨#[]⟩], 26⟩ (off := 0) (.agg #[.int .i64 ((1 : Int) + (k5 : Int)), .int .i64 1, .int .i64 ((genV l i).maj), .int .i64 0, .int .i64 0, .string ⟨#[]⟩, .string ⟨#[]⟩]) (by kernel_rfl) rfl rfl (by kernel_rfl) (by kernel_rfl) (by kernel_rfl) (by kernel_rfl) (by kernel_rfl) ?_
      refine s_nil ?_
      refine fin_seq ?_
      refine ok_ret ?_
      refine fin_cell 1 ⟨b1, #[.int .i64 ((1 : Int) + (k5 : Int)), .int .i64 1, .int .i64 ((genV l i).maj), .int .i64 0, .int .i64 0, .string ⟨#[]⟩, .string ⟨#[]⟩], 26⟩ (off := 0) (.agg #[.int .i64 ((1 : Int) + (k5 : Int)), .int .i64 1, .int .i64 ((genV l i).maj), .int .i64 0, .int .i64 0, .string ⟨#[]⟩, .string ⟨#[]⟩]) Tryz.results23 (by kernel_rfl) (by kernel_rfl) (by kernel_rfl) ?_
      exact fun w hO => ⟨by rw [show coV (genCo l i) = .agg #[.int .i64 ((1 : Int) + (k5 : Int)), .int .i64 1, .int .i64 ((genV l i).maj), .int .i64 0, .int .i64 0, .string ⟨#[]⟩, .string ⟨#[]⟩] from by unfold genCo toldV coV; rw [show plc (atL l (i + 5)) 9 = _ from e5, show plc (atL l (i + 6)) 3 = _ from e6]; simp [h1]; try rfl], hO.below⟩
  · skip
    refine calls_ok (n := 47) Tryz.func23 rfl (by kernel_rfl) (by kernel_rfl) ?_
    refine ok_seq ?_
    refine ok_region ?_
    refine s_alloc_at (.agg #[.int .i64 0, .int .i64 0, .int .i64 0, .int .i64 0, .int .i64 0, .string ⟨#[]⟩, .string ⟨#[]⟩]) (by kernel_rfl) rfl (by kernel_rfl) (fun b1 => ?_)
    refine s_nil ?_
    refine fin_seq ?_
    refine ok_seq ?_
    refine ok_region ?_
    refine s_val (v) (by kernel_rfl) (fun _ => by kernel_rfl) ?_
    refine s_val (.int .i64 ((i : Nat) : Int)) (by kernel_rfl) (fun _ => by kernel_rfl) ?_
    refine s_sum (k := .i64) (((i + 5 : Nat) : Int)) (by kernel_rfl) (fun _ => by kernel_rfl) (IntWalk.i64_in _ (by omega)) ?_
    refine s_call (k := 58) (args := #[v, .int .i64 ((i + 5 : Nat) : Int), .int .i64 9]) (.int .i64 (k5 : Int)) (by kernel_rfl) (fun _ => by kernel_rfl) (fun w hO => f5 w hO.below) ?_
    refine s_sum (k := .i64) ((1 : Int) + (k5 : Int)) (by kernel_rfl) (fun _ => by kernel_rfl) (IntWalk.i64_in _ (by omega)) ?_
    refine s_val (v) (by kernel_rfl) (fun _ => by kernel_rfl) ?_
    refine s_val (.int .i64 ((i : Nat) : Int)) (by kernel_rfl) (fun _ => by kernel_rfl) ?_
    refine s_sum (k := .i64) (((i + 6 : Nat) : Int)) (by kernel_rfl) (fun _ => by kernel_rfl) (IntWalk.i64_in _ (by omega)) ?_
    refine s_call (k := 58) (args := #[v, .int .i64 ((i + 6 : Nat) : Int), .int .i64 3]) (.int .i64 1) (by kernel_rfl) (fun _ => by kernel_rfl) (fun w hO => f6 w hO.below) ?_
    refine s_val (.int .i64 2) (by kernel_rfl) (fun _ => by kernel_rfl) ?_
    refine s_val (v) (by kernel_rfl) (fun _ => by kernel_rfl) ?_
    refine s_val (.int .i64 ((i : Nat) : Int)) (by kernel_rfl) (fun _ => by kernel_rfl) ?_
    refine s_call (k := 27) (args := #[v, .int .i64 ((i : Nat) : Int)]) (verV (genV l i)) (by kernel_rfl) (fun _ => by kernel_rfl) (fun w hO => gen_any v l i w ((hv.below hO.below).more hO.below.size) hl (by omega)) ?_
    refine s_val (.agg #[.int .i64 ((1 : Int) + (k5 : Int)), .int .i64 2, .int .i64 ((genV l i).maj), .int .i64 ((genV l i).min), .int .i64 ((genV l i).pat), .string (mkS (genV l i).pre), .string (mkS (genV l i).build)]) (by kernel_rfl) (fun _ => by kernel_rfl) ?_
    refine s_alloc_at (.agg #[.int .i64 0, .int .i64 0, .int .i64 0, .int .i64 0, .int .i64 0, .string ⟨#[]⟩, .string ⟨#[]⟩]) (by kernel_rfl) rfl (by kernel_rfl) (fun b2 => ?_)
    refine s_store_at 0 ⟨b2, #[.int .i64 0, .int .i64 0, .int .i64 0, .int .i64 0, .int .i64 0, .string ⟨#[]⟩, .string ⟨#[]⟩], 26⟩ (off := 0) (.agg #[.int .i64 ((1 : Int) + (k5 : Int)), .int .i64 2, .int .i64 ((genV l i).maj), .int .i64 ((genV l i).min), .int .i64 ((genV l i).pat), .string (mkS (genV l i).pre), .string (mkS (genV l i).build)]) (by kernel_rfl) rfl rfl (by kernel_rfl) (by kernel_rfl) (by kernel_rfl) (by kernel_rfl) (by kernel_rfl) ?_
    refine s_nil ?_
    refine fin_seq ?_
    refine ok_seq ?_
    refine ok_seq ?_
    refine ok_region ?_
    refine s_val (.pointer (some ⟨b2, 0, none⟩)) (by kernel_rfl) (fun _ => by kernel_rfl) ?_
    refine s_load 0 ⟨b2, #[.int .i64 ((1 : Int) + (k5 : Int)), .int .i64 2, .int .i64 ((genV l i).maj), .int .i64 ((genV l i).min), .int .i64 ((genV l i).pat), .string (mkS (genV l i).pre), .string (mkS (genV l i).build)], 26⟩ (off := 0) (.int .i64 ((1 : Int) + (k5 : Int))) (by kernel_rfl) rfl (by kernel_rfl) (by kernel_rfl) (by kernel_rfl) ?_
    by_cases h1 : ((1 : Int) + (k5 : Int) : Int) = 9
    · skip
      refine s_dec (p := ((1 : Int) + (k5 : Int) : Int) = 9) true (by kernel_rfl) (fun _ => by kernel_rfl) (decide_eq_true (h1)) ?_
      refine s_nil ?_
      refine fin_seq ?_
      refine ok_true (by kernel_rfl) ?_
      refine ok_region ?_
      refine s_val (.pointer (some ⟨b2, 1, none⟩)) (by kernel_rfl) (fun _ => by kernel_rfl) ?_
      refine s_load 0 ⟨b2, #[.int .i64 ((1 : Int) + (k5 : Int)), .int .i64 2, .int .i64 ((genV l i).maj), .int .i64 ((genV l i).min), .int .i64 ((genV l i).pat), .string (mkS (genV l i).pre), .string (mkS (genV l i).build)], 26⟩ (off := 1) (.int .i64 2) (by kernel_rfl) rfl (by kernel_rfl) (by kernel_rfl) (by kernel_rfl) ?_
      refine s_val (.int .i64 1) (by kernel_rfl) (fun _ => by kernel_rfl) ?_
      refine s_val (.pointer (some ⟨b2, 1, none⟩)) (by kernel_rfl) (fun _ => by kernel_rfl) ?_
      refine s_store_at 0 ⟨b2, #[.int .i64 ((1 : Int) + (k5 : Int)), .int .i64 2, .int .i64 ((genV l i).maj), .int .i64 ((genV l i).min), .int .i64 ((genV l i).pat), .string (mkS (genV l i).pre), .string (mkS (genV l i).build)], 26⟩ (off := 1) (.int .i64 1) (by kernel_rfl) rfl rfl (by kernel_rfl) (by kernel_rfl) (by kernel_rfl) (by kernel_rfl) (by kernel_rfl) ?_
      refine s_nil ?_
      refine fin_seq ?_
      refine ok_seq ?_
      refine ok_region ?_
      refine s_val (.pointer (some ⟨b2, 2, none⟩)) (by kernel_rfl) (fun _ => by kernel_rfl) ?_
      refine s_val (.pointer (some ⟨b2, 6, none⟩)) (by kernel_rfl) (fun _ => by kernel_rfl) ?_
      refine s_store_at 0 ⟨b2, #[.int .i64 ((1 : Int) + (k5 : Int)), .int .i64 1, .int .i64 ((genV l i).maj), .int .i64 ((genV l i).min), .int .i64 ((genV l i).pat), .string (mkS (genV l i).pre), .string (mkS (genV l i).build)], 26⟩ (off := 6) (.string ⟨#[]⟩) (by kernel_rfl) rfl rfl (by kernel_rfl) (by kernel_rfl) (by kernel_rfl) (by kernel_rfl) (by kernel_rfl) ?_
      refine s_nil ?_
      refine fin_seq ?_
      refine ok_seq ?_
      refine ok_seq ?_
      refine ok_region ?_
      refine s_val (.pointer (some ⟨b2, 1, none⟩)) (by kernel_rfl) (fun _ => by kernel_rfl) ?_
      refine s_load 0 ⟨b2, #[.int .i64 ((1 : Int) + (k5 : Int)), .int .i64 1, .int .i64 ((genV l i).maj), .int .i64 ((genV l i).min), .int .i64 ((genV l i).pat), .string (mkS (genV l i).pre), .string ⟨#[]⟩], 26⟩ (off := 1) (.int .i64 1) (by kernel_rfl) rfl (by kernel_rfl) (by kernel_rfl) (by kernel_rfl) ?_
      refine s_val (.bool true) (by kernel_rfl) (fun _ => by kernel_rfl) ?_
      refine s_nil ?_
      refine fin_seq ?_
      refine ok_true (by kernel_rfl) ?_
      refine ok_seq ?_
      refine ok_region ?_
      refine s_val (.pointer (some ⟨b2, 2, none⟩)) (by kernel_rfl) (fun _ => by kernel_rfl) ?_
      refine s_val (.pointer (some ⟨b2, 5, none⟩)) (by kernel_rfl) (fun _ => by kernel_rfl) ?_
      refine s_store_at 0 ⟨b2, #[.int .i64 ((1 : Int) + (k5 : Int)), .int .i64 1, .int .i64 ((genV l i).maj), .int .i64 ((genV l i).min), .int .i64 ((genV l i).pat), .string (mkS (genV l i).pre), .string ⟨#[]⟩], 26⟩ (off := 5) (.string ⟨#[]⟩) (by kernel_rfl) rfl rfl (by kernel_rfl) (by kernel_rfl) (by kernel_rfl) (by kernel_rfl) (by kernel_rfl) ?_
      refine s_nil ?_
      refine fin_seq ?_
      refine ok_region ?_
      refine s_val (.pointer (some ⟨b2, 2, none⟩)) (by kernel_rfl) (fun _ => by kernel_rfl) ?_
      refine s_val (.pointer (some ⟨b2, 4, none⟩)) (by kernel_rfl) (fun _ => by kernel_rfl) ?_
      refine s_store_at 0 ⟨b2, #[.int .i64 ((1 : Int) + (k5 : Int)), .int .i64 1, .int .i64 ((genV l i).maj), .int .i64 ((genV l i).min), .int .i64 ((genV l i).pat), .string ⟨#[]⟩, .string ⟨#[]⟩], 26⟩ (off := 4) (.int .i64 0) (by kernel_rfl) rfl rfl (by kernel_rfl) (by kernel_rfl) (by kernel_rfl) (by kernel_rfl) (by kernel_rfl) ?_
      refine s_nil ?_
      refine fin_seq ?_
      refine ok_seq ?_
      refine ok_seq ?_
      refine ok_region ?_
      refine s_val (.pointer (some ⟨b2, 1, none⟩)) (by kernel_rfl) (fun _ => by kernel_rfl) ?_
      refine s_load 0 ⟨b2, #[.int .i64 ((1 : Int) + (k5 : Int)), .int .i64 1, .int .i64 ((genV l i).maj), .int .i64 ((genV l i).min), .int .i64 0, .string ⟨#[]⟩, .string ⟨#[]⟩], 26⟩ (off := 1) (.int .i64 1) (by kernel_rfl) rfl (by kernel_rfl) (by kernel_rfl) (by kernel_rfl) ?_
      refine s_val (.bool true) (by kernel_rfl) (fun _ => by kernel_rfl) ?_
      refine s_nil ?_
      refine fin_seq ?_
      refine ok_true (by kernel_rfl) ?_
      refine ok_region ?_
      refine s_val (.pointer (some ⟨b2, 2, none⟩)) (by kernel_rfl) (fun _ => by kernel_rfl) ?_
      refine s_val (.pointer (some ⟨b2, 3, none⟩)) (by kernel_rfl) (fun _ => by kernel_rfl) ?_
      refine s_store_at 0 ⟨b2, #[.int .i64 ((1 : Int) + (k5 : Int)), .int .i64 1, .int .i64 ((genV l i).maj), .int .i64 ((genV l i).min), .int .i64 0, .string ⟨#[]⟩, .string ⟨#[]⟩], 26⟩ (off := 3) (.int .i64 0) (by kernel_rfl) rfl rfl (by kernel_rfl) (by kernel_rfl) (by kernel_rfl) (by kernel_rfl) (by kernel_rfl) ?_
      refine s_nil ?_
      refine fin_seq ?_
      refine ok_seq ?_
      refine ok_seq ?_
      refine ok_region ?_
      refine s_val (.pointer (some ⟨b2, 1, none⟩)) (by kernel_rfl) (fun _ => by kernel_rfl) ?_
      refine s_load 0 ⟨b2, #[.int .i64 ((1 : Int) + (k5 : Int)), .int .i64 1, .int .i64 ((genV l i).maj), .int .i64 0, .int .i64 0, .string ⟨#[]⟩, .string ⟨#[]⟩], 26⟩ (off := 1) (.int .i64 1) (by kernel_rfl) rfl (by kernel_rfl) (by kernel_rfl) (by kernel_rfl) ?_
      refine s_val (.bool false) (by kernel_rfl) (fun _ => by kernel_rfl) ?_
      refine s_nil ?_
      refine fin_seq ?_
      refine ok_false (by kernel_rfl) ?_
      refine ok_skip ?_
      refine fin_seq ?_
      refine ok_seq ?_
      refine ok_region ?_
      refine s_load 0 ⟨b2, #[.int .i64 ((1 : Int) + (k5 : Int)), .int .i64 1, .int .i64 ((genV l i).maj), .int .i64 0, .int .i64 0, .string ⟨#[]⟩, .string ⟨#[]⟩], 26⟩ (off := 0) (.agg #[.int .i64 ((1 : Int) + (k5 : Int)), .int .i64 1, .int .i64 ((genV l i).maj), .int .i64 0, .int .i64 0, .string ⟨#[]⟩, .string ⟨#[]⟩]) (by kernel_rfl) rfl (by kernel_rfl) (by kernel_rfl) (by kernel_rfl) ?_
      refine s_store_at 1 ⟨b1, #[.int .i64 0, .int .i64 0, .int .i64 0, .int .i64 0, .int .i64 0, .string ⟨#[]⟩, .string ⟨#[]⟩], 26⟩ (off := 0) (.agg #[.int .i64 ((1 : Int) + (k5 : Int)), .int .i64 1, .int .i64 ((genV l i).maj), .int .i64 0, .int .i64 0, .string ⟨#[]⟩, .string ⟨#[]⟩]) (by kernel_rfl) rfl rfl (by kernel_rfl) (by kernel_rfl) (by kernel_rfl) (by kernel_rfl) (by kernel_rfl) ?_
      refine s_nil ?_
      refine fin_seq ?_
      refine ok_ret ?_
      refine fin_cell 1 ⟨b1, #[.int .i64 ((1 : Int) + (k5 : Int)), .int .i64 1, .int .i64 ((genV l i).maj), .int .i64 0, .int .i64 0, .string ⟨#[]⟩, .string ⟨#[]⟩], 26⟩ (off := 0) (.agg #[.int .i64 ((1 : Int) + (k5 : Int)), .int .i64 1, .int .i64 ((genV l i).maj), .int .i64 0, .int .i64 0, .string ⟨#[]⟩, .string ⟨#[]⟩]) Tryz.results23 (by kernel_rfl) (by kernel_rfl) (by kernel_rfl) ?_
      exact fun w hO => ⟨by rw [show coV (genCo l i) = .agg #[.int .i64 ((1 : Int) + (k5 : Int)), .int .i64 1, .int .i64 ((genV l i).maj), .int .i64 0, .int .i64 0, .string ⟨#[]⟩, .string ⟨#[]⟩] from by unfold genCo toldV coV; rw [show plc (atL l (i + 5)) 9 = _ from e5, show plc (atL l (i + 6)) 3 = _ from e6]; simp [h1]; try rfl], hO.below⟩
    · skip
      refine s_dec (p := ((1 : Int) + (k5 : Int) : Int) = 9) false (by kernel_rfl) (fun _ => by kernel_rfl) (decide_eq_false (h1)) ?_
      refine s_nil ?_
      refine fin_seq ?_
      refine ok_false (by kernel_rfl) ?_
      refine ok_skip ?_
      refine fin_seq ?_
      refine ok_seq ?_
      refine ok_region ?_
      refine s_val (.pointer (some ⟨b2, 2, none⟩)) (by kernel_rfl) (fun _ => by kernel_rfl) ?_
      refine s_val (.pointer (some ⟨b2, 6, none⟩)) (by kernel_rfl) (fun _ => by kernel_rfl) ?_
      refine s_store_at 0 ⟨b2, #[.int .i64 ((1 : Int) + (k5 : Int)), .int .i64 2, .int .i64 ((genV l i).maj), .int .i64 ((genV l i).min), .int .i64 ((genV l i).pat), .string (mkS (genV l i).pre), .string (mkS (genV l i).build)], 26⟩ (off := 6) (.string ⟨#[]⟩) (by kernel_rfl) rfl rfl (by kernel_rfl) (by kernel_rfl) (by kernel_rfl) (by kernel_rfl) (by kernel_rfl) ?_
      refine s_nil ?_
      refine fin_seq ?_
      refine ok_seq ?_
      refine ok_seq ?_
      refine ok_region ?_
      refine s_val (.pointer (some ⟨b2, 1, none⟩)) (by kernel_rfl) (fun _ => by kernel_rfl) ?_
      refine s_load 0 ⟨b2, #[.int .i64 ((1 : Int) + (k5 : Int)), .int .i64 2, .int .i64 ((genV l i).maj), .int .i64 ((genV l i).min), .int .i64 ((genV l i).pat), .string (mkS (genV l i).pre), .string ⟨#[]⟩], 26⟩ (off := 1) (.int .i64 2) (by kernel_rfl) rfl (by kernel_rfl) (by kernel_rfl) (by kernel_rfl) ?_
      refine s_val (.bool true) (by kernel_rfl) (fun _ => by kernel_rfl) ?_
      refine s_nil ?_
      refine fin_seq ?_
      refine ok_true (by kernel_rfl) ?_
      refine ok_seq ?_
      refine ok_region ?_
      refine s_val (.pointer (some ⟨b2, 2, none⟩)) (by kernel_rfl) (fun _ => by kernel_rfl) ?_
      refine s_val (.pointer (some ⟨b2, 5, none⟩)) (by kernel_rfl) (fun _ => by kernel_rfl) ?_
      refine s_store_at 0 ⟨b2, #[.int .i64 ((1 : Int) + (k5 : Int)), .int .i64 2, .int .i64 ((genV l i).maj), .int .i64 ((genV l i).min), .int .i64 ((genV l i).pat), .string (mkS (genV l i).pre), .string ⟨#[]⟩], 26⟩ (off := 5) (.string ⟨#[]⟩) (by kernel_rfl) rfl rfl (by kernel_rfl) (by kernel_rfl) (by kernel_rfl) (by kernel_rfl) (by kernel_rfl) ?_
      refine s_nil ?_
      refine fin_seq ?_
      refine ok_region ?_
      refine s_val (.pointer (some ⟨b2, 2, none⟩)) (by kernel_rfl) (fun _ => by kernel_rfl) ?_
      refine s_val (.pointer (some ⟨b2, 4, none⟩)) (by kernel_rfl) (fun _ => by kernel_rfl) ?_
      refine s_store_at 0 ⟨b2, #[.int .i64 ((1 : Int) + (k5 : Int)), .int .i64 2, .int .i64 ((genV l i).maj), .int .i64 ((genV l i).min), .int .i64 ((genV l i).pat), .string ⟨#[]⟩, .string ⟨#[]⟩], 26⟩ (off := 4) (.int .i64 0) (by kernel_rfl) rfl rfl (by kernel_rfl) (by kernel_rfl) (by kernel_rfl) (by kernel_rfl) (by kernel_rfl) ?_
      refine s_nil ?_
      refine fin_seq ?_
      refine ok_seq ?_
      refine ok_seq ?_
      refine ok_region ?_
      refine s_val (.pointer (some ⟨b2, 1, none⟩)) (by kernel_rfl) (fun _ => by kernel_rfl) ?_
      refine s_load 0 ⟨b2, #[.int .i64 ((1 : Int) + (k5 : Int)), .int .i64 2, .int .i64 ((genV l i).maj), .int .i64 ((genV l i).min), .int .i64 0, .string ⟨#[]⟩, .string ⟨#[]⟩], 26⟩ (off := 1) (.int .i64 2) (by kernel_rfl) rfl (by kernel_rfl) (by kernel_rfl) (by kernel_rfl) ?_
      refine s_val (.bool false) (by kernel_rfl) (fun _ => by kernel_rfl) ?_
      refine s_nil ?_
      refine fin_seq ?_
      refine ok_false (by kernel_rfl) ?_
      refine ok_skip ?_
      refine fin_seq ?_
      refine ok_seq ?_
      refine ok_seq ?_
      refine ok_region ?_
      refine s_val (.pointer (some ⟨b2, 1, none⟩)) (by kernel_rfl) (fun _ => by kernel_rfl) ?_
      refine s_load 0 ⟨b2, #[.int .i64 ((1 : Int) + (k5 : Int)), .int .i64 2, .int .i64 ((genV l i).maj), .int .i64 ((genV l i).min), .int .i64 0, .string ⟨#[]⟩, .string ⟨#[]⟩], 26⟩ (off := 1) (.int .i64 2) (by kernel_rfl) rfl (by kernel_rfl) (by kernel_rfl) (by kernel_rfl) ?_
      refine s_val (.bool false) (by kernel_rfl) (fun _ => by kernel_rfl) ?_
      refine s_nil ?_
      refine fin_seq ?_
      refine ok_false (by kernel_rfl) ?_
      refine ok_skip ?_
      refine fin_seq ?_
      refine ok_seq ?_
      refine ok_region ?_
      refine s_load 0 ⟨b2, #[.int .i64 ((1 : Int) + (k5 : Int)), .int .i64 2, .int .i64 ((genV l i).maj), .int .i64 ((genV l i).min), .int .i64 0, .string ⟨#[]⟩, .string ⟨#[]⟩], 26⟩ (off := 0) (.agg #[.int .i64 ((1 : Int) + (k5 : Int)), .int .i64 2, .int .i64 ((genV l i).maj), .int .i64 ((genV l i).min), .int .i64 0, .string ⟨#[]⟩, .string ⟨#[]⟩]) (by kernel_rfl) rfl (by kernel_rfl) (by kernel_rfl) (by kernel_rfl) ?_
      refine s_store_at 1 ⟨b1, #[.int .i64 0, .int .i64 0, .int .i64 0, .int .i64 0, .int .i64 0, .string ⟨#[]⟩, .string ⟨#[]⟩], 26⟩ (off := 0) (.agg #[.int .i64 ((1 : Int) + (k5 : Int)), .int .i64 2, .int .i64 ((genV l i).maj), .int .i64 ((genV l i).min), .int .i64 0, .string ⟨#[]⟩, .string ⟨#[]⟩]) (by kernel_rfl) rfl rfl (by kernel_rfl) (by kernel_rfl) (by kernel_rfl) (by kernel_rfl) (by kernel_rfl) ?_
      refine s_nil ?_
      refine fin_seq ?_
      refine ok_ret ?_
      refine fin_cell 1 ⟨b1, #[.int .i64 ((1 : Int) + (k5 : Int)), .int .i64 2, .int .i64 ((genV l i).maj), .int .i64 ((genV l i).min), .int .i64 0, .string ⟨#[]⟩, .string ⟨#[]⟩], 26⟩ (off := 0) (.agg #[.int .i64 ((1 : Int) + (k5 : Int)), .int .i64 2, .int .i64 ((genV l i).maj), .int .i64 ((genV l i).min), .int .i64 0, .string ⟨#[]⟩, .string ⟨#[]⟩]) Tryz.results23 (by kernel_rfl) (by kernel_rfl) (by kernel_rfl) ?_
      exact fun w hO => ⟨by rw [show coV (genCo l i) = .agg #[.int .i64 ((1 : Int) + (k5 : Int)), .int .i64 2, .int .i64 ((genV l i).maj), .int .i64 ((genV l i).min), .int .i64 0, .string ⟨#[]⟩, .string ⟨#[]⟩] from by unfold genCo toldV coV; rw [show plc (atL l (i + 5)) 9 = _ from e5, show plc (atL l (i + 6)) 3 = _ from e6]; simp [h1]; try rfl], hO.below⟩
  · skip
    refine calls_ok (n := 47) Tryz.func23 rfl (by kernel_rfl) (by kernel_rfl) ?_
    refine ok_seq ?_
    refine ok_region ?_
    refine s_alloc_at (.agg #[.int .i64 0, .int .i64 0, .int .i64 0, .int .i64 0, .int .i64 0, .string ⟨#[]⟩, .string ⟨#[]⟩]) (by kernel_rfl) rfl (by kernel_rfl) (fun b1 => ?_)
    refine s_nil ?_
    refine fin_seq ?_
    refine ok_seq ?_
    refine ok_region ?_
    refine s_val (v) (by kernel_rfl) (fun _ => by kernel_rfl) ?_
    refine s_val (.int .i64 ((i : Nat) : Int)) (by kernel_rfl) (fun _ => by kernel_rfl) ?_
    refine s_sum (k := .i64) (((i + 5 : Nat) : Int)) (by kernel_rfl) (fun _ => by kernel_rfl) (IntWalk.i64_in _ (by omega)) ?_
    refine s_call (k := 58) (args := #[v, .int .i64 ((i + 5 : Nat) : Int), .int .i64 9]) (.int .i64 (k5 : Int)) (by kernel_rfl) (fun _ => by kernel_rfl) (fun w hO => f5 w hO.below) ?_
    refine s_sum (k := .i64) ((1 : Int) + (k5 : Int)) (by kernel_rfl) (fun _ => by kernel_rfl) (IntWalk.i64_in _ (by omega)) ?_
    refine s_val (v) (by kernel_rfl) (fun _ => by kernel_rfl) ?_
    refine s_val (.int .i64 ((i : Nat) : Int)) (by kernel_rfl) (fun _ => by kernel_rfl) ?_
    refine s_sum (k := .i64) (((i + 6 : Nat) : Int)) (by kernel_rfl) (fun _ => by kernel_rfl) (IntWalk.i64_in _ (by omega)) ?_
    refine s_call (k := 58) (args := #[v, .int .i64 ((i + 6 : Nat) : Int), .int .i64 3]) (.int .i64 2) (by kernel_rfl) (fun _ => by kernel_rfl) (fun w hO => f6 w hO.below) ?_
    refine s_val (.int .i64 3) (by kernel_rfl) (fun _ => by kernel_rfl) ?_
    refine s_val (v) (by kernel_rfl) (fun _ => by kernel_rfl) ?_
    refine s_val (.int .i64 ((i : Nat) : Int)) (by kernel_rfl) (fun _ => by kernel_rfl) ?_
    refine s_call (k := 27) (args := #[v, .int .i64 ((i : Nat) : Int)]) (verV (genV l i)) (by kernel_rfl) (fun _ => by kernel_rfl) (fun w hO => gen_any v l i w ((hv.below hO.below).more hO.below.size) hl (by omega)) ?_
    refine s_val (.agg #[.int .i64 ((1 : Int) + (k5 : Int)), .int .i64 3, .int .i64 ((genV l i).maj), .int .i64 ((genV l i).min), .int .i64 ((genV l i).pat), .string (mkS (genV l i).pre), .string (mkS (genV l i).build)]) (by kernel_rfl) (fun _ => by kernel_rfl) ?_
    refine s_alloc_at (.agg #[.int .i64 0, .int .i64 0, .int .i64 0, .int .i64 0, .int .i64 0, .string ⟨#[]⟩, .string ⟨#[]⟩]) (by kernel_rfl) rfl (by kernel_rfl) (fun b2 => ?_)
    refine s_store_at 0 ⟨b2, #[.int .i64 0, .int .i64 0, .int .i64 0, .int .i64 0, .int .i64 0, .string ⟨#[]⟩, .string ⟨#[]⟩], 26⟩ (off := 0) (.agg #[.int .i64 ((1 : Int) + (k5 : Int)), .int .i64 3, .int .i64 ((genV l i).maj), .int .i64 ((genV l i).min), .int .i64 ((genV l i).pat), .string (mkS (genV l i).pre), .string (mkS (genV l i).build)]) (by kernel_rfl) rfl rfl (by kernel_rfl) (by kernel_rfl) (by kernel_rfl) (by kernel_rfl) (by kernel_rfl) ?_
    refine s_nil ?_
    refine fin_seq ?_
    refine ok_seq ?_
    refine ok_seq ?_
    refine ok_region ?_
    refine s_val (.pointer (some ⟨b2, 0, none⟩)) (by kernel_rfl) (fun _ => by kernel_rfl) ?_
    refine s_load 0 ⟨b2, #[.int .i64 ((1 : Int) + (k5 : Int)), .int .i64 3, .int .i64 ((genV l i).maj), .int .i64 ((genV l i).min), .int .i64 ((genV l i).pat), .string (mkS (genV l i).pre), .string (mkS (genV l i).build)], 26⟩ (off := 0) (.int .i64 ((1 : Int) + (k5 : Int))) (by kernel_rfl) rfl (by kernel_rfl) (by kernel_rfl) (by kernel_rfl) ?_
    by_cases h1 : ((1 : Int) + (k5 : Int) : Int) = 9
    · skip
      refine s_dec (p := ((1 : Int) + (k5 : Int) : Int) = 9) true (by kernel_rfl) (fun _ => by kernel_rfl) (decide_eq_true (h1)) ?_
      refine s_nil ?_
      refine fin_seq ?_
      refine ok_true (by kernel_rfl) ?_
      refine ok_region ?_
      refine s_val (.pointer (some ⟨b2, 1, none⟩)) (by kernel_rfl) (fun _ => by kernel_rfl) ?_
      refine s_load 0 ⟨b2, #[.int .i64 ((1 : Int) + (k5 : Int)), .int .i64 3, .int .i64 ((genV l i).maj), .int .i64 ((genV l i).min), .int .i64 ((genV l i).pat), .string (mkS (genV l i).pre), .string (mkS (genV l i).build)], 26⟩ (off := 1) (.int .i64 3) (by kernel_rfl) rfl (by kernel_rfl) (by kernel_rfl) (by kernel_rfl) ?_
      refine s_val (.int .i64 2) (by kernel_rfl) (fun _ => by kernel_rfl) ?_
      refine s_val (.pointer (some ⟨b2, 1, none⟩)) (by kernel_rfl) (fun _ => by kernel_rfl) ?_
      refine s_store_at 0 ⟨b2, #[.int .i64 ((1 : Int) + (k5 : Int)), .int .i64 3, .int .i64 ((genV l i).maj), .int .i64 ((genV l i).min), .int .i64 ((genV l i).pat), .string (mkS (genV l i).pre), .string (mkS (genV l i).build)], 26⟩ (off := 1) (.int .i64 2) (by kernel_rfl) rfl rfl (by kernel_rfl) (by kernel_rfl) (by kernel_rfl) (by kernel_rfl) (by kernel_rfl) ?_
      refine s_nil ?_
      refine fin_seq ?_
      refine ok_seq ?_
      refine ok_region ?_
      refine s_val (.pointer (some ⟨b2, 2, none⟩)) (by kernel_rfl) (fun _ => by kernel_rfl) ?_
      refine s_val (.pointer (some ⟨b2, 6, none⟩)) (by kernel_rfl) (fun _ => by kernel_rfl) ?_
      refine s_store_at 0 ⟨b2, #[.int .i64 ((1 : Int) + (k5 : Int)), .int .i64 2, .int .i64 ((genV l i).maj), .int .i64 ((genV l i).min), .int .i64 ((genV l i).pat), .string (mkS (genV l i).pre), .string (mkS (genV l i).build)], 26⟩ (off := 6) (.string ⟨#[]⟩) (by kernel_rfl) rfl rfl (by kernel_rfl) (by kernel_rfl) (by kernel_rfl) (by kernel_rfl) (by kernel_rfl) ?_
      refine s_nil ?_
      refine fin_seq ?_
      refine ok_seq ?_
      refine ok_seq ?_
      refine ok_region ?_
      refine s_val (.pointer (some ⟨b2, 1, none⟩)) (by kernel_rfl) (fun _ => by kernel_rfl) ?_
      refine s_load 0 ⟨b2, #[.int .i64 ((1 : Int) + (k5 : Int)), .int .i64 2, .int .i64 ((genV l i).maj), .int .i64 ((genV l i).min), .int .i64 ((genV l i).pat), .string (mkS (genV l i).pre), .string ⟨#[]⟩], 26⟩ (off := 1) (.int .i64 2) (by kernel_rfl) rfl (by kernel_rfl) (by kernel_rfl) (by kernel_rfl) ?_
      refine s_val (.bool true) (by kernel_rfl) (fun _ => by kernel_rfl) ?_
      refine s_nil ?_
      refine fin_seq ?_
      refine ok_true (by kernel_rfl) ?_
      refine ok_seq ?_
      refine ok_region ?_
      refine s_val (.pointer (some ⟨b2, 2, none⟩)) (by kernel_rfl) (fun _ => by kernel_rfl) ?_
      refine s_val (.pointer (some ⟨b2, 5, none⟩)) (by kernel_rfl) (fun _ => by kernel_rfl) ?_
      refine s_store_at 0 ⟨b2, #[.int .i64 ((1 : Int) + (k5 : Int)), .int .i64 2, .int .i64 ((genV l i).maj), .int .i64 ((genV l i).min), .int .i64 ((genV l i).pat), .string (mkS (genV l i).pre), .string ⟨#[]⟩], 26⟩ (off := 5) (.string ⟨#[]⟩) (by kernel_rfl) rfl rfl (by kernel_rfl) (by kernel_rfl) (by kernel_rfl) (by kernel_rfl) (by kernel_rfl) ?_
      refine s_nil ?_
      refine fin_seq ?_
      refine ok_region ?_
      refine s_val (.pointer (some ⟨b2, 2, none⟩)) (by kernel_rfl) (fun _ => by kernel_rfl) ?_
      refine s_val (.pointer (some ⟨b2, 4, none⟩)) (by kernel_rfl) (fun _ => by kernel_rfl) ?_
      refine s_store_at 0 ⟨b2, #[.int .i64 ((1 : Int) + (k5 : Int)), .int .i64 2, .int .i64 ((genV l i).maj), .int .i64 ((genV l i).min), .int .i64 ((genV l i).pat), .string ⟨#[]⟩, .string ⟨#[]⟩], 26⟩ (off := 4) (.int .i64 0) (by kernel_rfl) rfl rfl (by kernel_rfl) (by kernel_rfl) (by kernel_rfl) (by kernel_rfl) (by kernel_rfl) ?_
      refine s_nil ?_
      refine fin_seq ?_
      refine ok_seq ?_
      refine ok_seq ?_
      refine ok_region ?_
      refine s_val (.pointer (some ⟨b2, 1, none⟩)) (by kernel_rfl) (fun _ => by kernel_rfl) ?_
      refine s_load 0 ⟨b2, #[.int .i64 ((1 : Int) + (k5 : Int)), .int .i64 2, .int .i64 ((genV l i).maj), .int .i64 ((genV l i).min), .int .i64 0, .string ⟨#[]⟩, .string ⟨#[]⟩], 26⟩ (off := 1) (.int .i64 2) (by kernel_rfl) rfl (by kernel_rfl) (by kernel_rfl) (by kernel_rfl) ?_
      refine s_val (.bool false) (by kernel_rfl) (fun _ => by kernel_rfl) ?_
      refine s_nil ?_
      refine fin_seq ?_
      refine ok_false (by kernel_rfl) ?_
      refine ok_skip ?_
      refine fin_seq ?_
      refine ok_seq ?_
      refine ok_seq ?_
      refine ok_region ?_
      refine s_val (.pointer (some ⟨b2, 1, none⟩)) (by kernel_rfl) (fun _ => by kernel_rfl) ?_
      refine s_load 0 ⟨b2, #[.int .i64 ((1 : Int) + (k5 : Int)), .int .i64 2, .int .i64 ((genV l i).maj), .int .i64 ((genV l i).min), .int .i64 0, .string ⟨#[]⟩, .string ⟨#[]⟩], 26⟩ (off := 1) (.int .i64 2) (by kernel_rfl) rfl (by kernel_rfl) (by kernel_rfl) (by kernel_rfl) ?_
      refine s_val (.bool false) (by kernel_rfl) (fun _ => by kernel_rfl) ?_
      refine s_nil ?_
      refine fin_seq ?_
      refine ok_false (by kernel_rfl) ?_
      refine ok_skip ?_
      refine fin_seq ?_
      refine ok_seq ?_
      refine ok_region ?_
      refine s_load 0 ⟨b2, #[.int .i64 ((1 : Int) + (k5 : Int)), .int .i64 2, .int .i64 ((genV l i).maj), .int .i64 ((genV l i).min), .int .i64 0, .string ⟨#[]⟩, .string ⟨#[]⟩], 26⟩ (off := 0) (.agg #[.int .i64 ((1 : Int) + (k5 : Int)), .int .i64 2, .int .i64 ((genV l i).maj), .int .i64 ((genV l i).min), .int .i64 0, .string ⟨#[]⟩, .string ⟨#[]⟩]) (by kernel_rfl) rfl (by kernel_rfl) (by kernel_rfl) (by kernel_rfl) ?_
      refine s_store_at 1 ⟨b1, #[.int .i64 0, .int .i64 0, .int .i64 0, .int .i64 0, .int .i64 0, .string ⟨#[]⟩, .string ⟨#[]⟩], 26⟩ (off := 0) (.agg #[.int .i64 ((1 : Int) + (k5 : Int)), .int .i64 2, .int .i64 ((genV l i).maj), .int .i64 ((genV l i).min), .int .i64 0, .string ⟨#[]⟩, .string ⟨#[]⟩]) (by kernel_rfl) rfl rfl (by kernel_rfl) (by kernel_rfl) (by kernel_rfl) (by kernel_rfl) (by kernel_rfl) ?_
      refine s_nil ?_
      refine fin_seq ?_
      refine ok_ret ?_
      refine fin_cell 1 ⟨b1, #[.int .i64 ((1 : Int) + (k5 : Int)), .int .i64 2, .int .i64 ((genV l i).maj), .int .i64 ((genV l i).min), .int .i64 0, .string ⟨#[]⟩, .string ⟨#[]⟩], 26⟩ (off := 0) (.agg #[.int .i64 ((1 : Int) + (k5 : Int)), .int .i64 2, .int .i64 ((genV l i).maj), .int .i64 ((genV l i).min), .int .i64 0, .string ⟨#[]⟩, .string ⟨#[]⟩]) Tryz.results23 (by kernel_rfl) (by kernel_rfl) (by kernel_rfl) ?_
      exact fun w hO => ⟨by rw [show coV (genCo l i) = .agg #[.int .i64 ((1 : Int) + (k5 : Int)), .int .i64 2, .int .i64 ((genV l i).maj), .int .i64 ((genV l i).min), .int .i64 0, .string ⟨#[]⟩, .string ⟨#[]⟩] from by unfold genCo toldV coV; rw [show plc (atL l (i + 5)) 9 = _ from e5, show plc (atL l (i + 6)) 3 = _ from e6]; simp [h1]; try rfl], hO.below⟩
    · skip
      refine s_dec (p := ((1 : Int) + (k5 : Int) : Int) = 9) false (by kernel_rfl) (fun _ => by kernel_rfl) (decide_eq_false (h1)) ?_
      refine s_nil ?_
      refine fin_seq ?_
      refine ok_false (by kernel_rfl) ?_
      refine ok_skip ?_
      refine fin_seq ?_
      refine ok_seq ?_
      refine ok_region ?_
      refine s_val (.pointer (some ⟨b2, 2, none⟩)) (by kernel_rfl) (fun _ => by kernel_rfl) ?_
      refine s_val (.pointer (some ⟨b2, 6, none⟩)) (by kernel_rfl) (fun _ => by kernel_rfl) ?_
      refine s_store_at 0 ⟨b2, #[.int .i64 ((1 : Int) + (k5 : Int)), .int .i64 3, .int .i64 ((genV l i).maj), .int .i64 ((genV l i).min), .int .i64 ((genV l i).pat), .string (mkS (genV l i).pre), .string (mkS (genV l i).build)], 26⟩ (off := 6) (.string ⟨#[]⟩) (by kernel_rfl) rfl rfl (by kernel_rfl) (by kernel_rfl) (by kernel_rfl) (by kernel_rfl) (by kernel_rfl) ?_
      refine s_nil ?_
      refine fin_seq ?_
      refine ok_seq ?_
      refine ok_seq ?_
      refine ok_region ?_
      refine s_val (.pointer (some ⟨b2, 1, none⟩)) (by kernel_rfl) (fun _ => by kernel_rfl) ?_
      refine s_load 0 ⟨b2, #[.int .i64 ((1 : Int) + (k5 : Int)), .int .i64 3, .int .i64 ((genV l i).maj), .int .i64 ((genV l i).min), .int .i64 ((genV l i).pat), .string (mkS (genV l i).pre), .string ⟨#[]⟩], 26⟩ (off := 1) (.int .i64 3) (by kernel_rfl) rfl (by kernel_rfl) (by kernel_rfl) (by kernel_rfl) ?_
      refine s_val (.bool false) (by kernel_rfl) (fun _ => by kernel_rfl) ?_
      refine s_nil ?_
      refine fin_seq ?_
      refine ok_false (by kernel_rfl) ?_
      refine ok_skip ?_
      refine fin_seq ?_
      refine ok_seq ?_
      refine ok_seq ?_
      refine ok_region ?_
      refine s_val (.pointer (some ⟨b2, 1, none⟩)) (by kernel_rfl) (fun _ => by kernel_rfl) ?_
      refine s_load 0 ⟨b2, #[.int .i64 ((1 : Int) + (k5 : Int)), .int .i64 3, .int .i64 ((genV l i).maj), .int .i64 ((genV l i).min), .int .i64 ((genV l i).pat), .string (mkS (genV l i).pre), .string ⟨#[]⟩], 26⟩ (off := 1) (.int .i64 3) (by kernel_rfl) rfl (by kernel_rfl) (by kernel_rfl) (by kernel_rfl) ?_
      refine s_val (.bool false) (by kernel_rfl) (fun _ => by kernel_rfl) ?_
      refine s_nil ?_
      refine fin_seq ?_
      refine ok_false (by kernel_rfl) ?_
      refine ok_skip ?_
      refine fin_seq ?_
      refine ok_seq ?_
      refine ok_seq ?_
      refine ok_region ?_
      refine s_val (.pointer (some ⟨b2, 1, none⟩)) (by kernel_rfl) (fun _ => by kernel_rfl) ?_
      refine s_load 0 ⟨b2, #[.int .i64 ((1 : Int) + (k5 : Int)), .int .i64 3, .int .i64 ((genV l i).maj), .int .i64 ((genV l i).min), .int .i64 ((genV l i).pat), .string (mkS (genV l i).pre), .string ⟨#[]⟩], 26⟩ (off := 1) (.int .i64 3) (by kernel_rfl) rfl (by kernel_rfl) (by kernel_rfl) (by kernel_rfl) ?_
      refine s_val (.bool false) (by kernel_rfl) (fun _ => by kernel_rfl) ?_
      refine s_nil ?_
      refine fin_seq ?_
      refine ok_false (by kernel_rfl) ?_
      refine ok_skip ?_
      refine fin_seq ?_
      refine ok_seq ?_
      refine ok_region ?_
      refine s_load 0 ⟨b2, #[.int .i64 ((1 : Int) + (k5 : Int)), .int .i64 3, .int .i64 ((genV l i).maj), .int .i64 ((genV l i).min), .int .i64 ((genV l i).pat), .string (mkS (genV l i).pre), .string ⟨#[]⟩], 26⟩ (off := 0) (.agg #[.int .i64 ((1 : Int) + (k5 : Int)), .int .i64 3, .int .i64 ((genV l i).maj), .int .i64 ((genV l i).min), .int .i64 ((genV l i).pat), .string (mkS (genV l i).pre), .string ⟨#[]⟩]) (by kernel_rfl) rfl (by kernel_rfl) (by kernel_rfl) (by kernel_rfl) ?_
      refine s_store_at 1 ⟨b1, #[.int .i64 0, .int .i64 0, .int .i64 0, .int .i64 0, .int .i64 0, .string ⟨#[]⟩, .string ⟨#[]⟩], 26⟩ (off := 0) (.agg #[.int .i64 ((1 : Int) + (k5 : Int)), .int .i64 3, .int .i64 ((genV l i).maj), .int .i64 ((genV l i).min), .int .i64 ((genV l i).pat), .string (mkS (genV l i).pre), .string ⟨#[]⟩]) (by kernel_rfl) rfl rfl (by kernel_rfl) (by kernel_rfl) (by kernel_rfl) (by kernel_rfl) (by kernel_rfl) ?_
      refine s_nil ?_
      refine fin_seq ?_
      refine ok_ret ?_
      refine fin_cell 1 ⟨b1, #[.int .i64 ((1 : Int) + (k5 : Int)), .int .i64 3, .int .i64 ((genV l i).maj), .int .i64 ((genV l i).min), .int .i64 ((genV l i).pat), .string (mkS (genV l i).pre), .string ⟨#[]⟩], 26⟩ (off := 0) (.agg #[.int .i64 ((1 : Int) + (k5 : Int)), .int .i64 3, .int .i64 ((genV l i).maj), .int .i64 ((genV l i).min), .int .i64 ((genV l i).pat), .string (mkS (genV l i).pre), .string ⟨#[]⟩]) Tryz.results23 (by kernel_rfl) (by kernel_rfl) (by kernel_rfl) ?_
      exact fun w hO => ⟨by rw [show coV (genCo l i) = .agg #[.int .i64 ((1 : Int) + (k5 : Int)), .int .i64 3, .int .i64 ((genV l i).maj), .int .i64 ((genV l i).min), .int .i64 ((genV l i).pat), .string (mkS (genV l i).pre), .string ⟨#[]⟩] from by unfold genCo toldV coV; rw [show plc (atL l (i + 5)) 9 = _ from e5, show plc (atL l (i + 6)) 3 = _ from e6]; simp [h1]; try rfl], hO.below⟩
theorem with6_any (c : Co) (o : Int) (W : World) : Calls Tryz.prog 30 #[coV c, .int .i64 o] W fun e w' => e = .returned (coV (withO c o)) ∧ Below W.heap.size W w' := by
  refine calls_ok (n := 8) Tryz.func30 rfl (by kernel_rfl) (by kernel_rfl) ?_
  refine ok_seq ?_
  refine ok_region ?_
  refine s_box (coV c) (by kernel_rfl) rfl (by kernel_rfl) (fun b1 => ?_)
  refine s_alloc_at (.agg #[.int .i64 0, .int .i64 0, .int .i64 0, .int .i64 0, .int .i64 0, .string ⟨#[]⟩, .string ⟨#[]⟩]) (by kernel_rfl) rfl (by kernel_rfl) (fun b2 => ?_)
  refine s_nil ?_
  refine fin_seq ?_
  refine ok_seq ?_
  refine ok_region ?_
  refine s_val (.int .i64 o) (by kernel_rfl) (fun _ => by kernel_rfl) ?_
  refine s_val (.pointer (some ⟨b1, 0, none⟩)) (by kernel_rfl) (fun _ => by kernel_rfl) ?_
  refine s_store_at 1 ⟨b1, (coV c).cells, 26⟩ (off := 0) (.int .i64 o) (by kernel_rfl) rfl rfl (by kernel_rfl) (by kernel_rfl) (by kernel_rfl) (by kernel_rfl) (by kernel_rfl) ?_
  refine s_nil ?_
  refine fin_seq ?_
  refine ok_seq ?_
  refine ok_region ?_
  refine s_load 1 ⟨b1, #[.int .i64 o, .int .i64 c.parts, .int .i64 c.v.maj, .int .i64 c.v.min, .int .i64 c.v.pat, .string (mkS c.v.pre), .string (mkS c.v.build)], 26⟩ (off := 0) (.agg #[.int .i64 o, .int .i64 c.parts, .int .i64 c.v.maj, .int .i64 c.v.min, .int .i64 c.v.pat, .string (mkS c.v.pre), .string (mkS c.v.build)]) (by kernel_rfl) rfl (by kernel_rfl) (by kernel_rfl) (by kernel_rfl) ?_
  refine s_store_at 0 ⟨b2, #[.int .i64 0, .int .i64 0, .int .i64 0, .int .i64 0, .int .i64 0, .string ⟨#[]⟩, .string ⟨#[]⟩], 26⟩ (off := 0) (.agg #[.int .i64 o, .int .i64 c.parts, .int .i64 c.v.maj, .int .i64 c.v.min, .int .i64 c.v.pat, .string (mkS c.v.pre), .string (mkS c.v.build)]) (by kernel_rfl) rfl rfl (by kernel_rfl) (by kernel_rfl) (by kernel_rfl) (by kernel_rfl) (by kernel_rfl) ?_
  refine s_nil ?_
  refine fin_seq ?_
  refine ok_ret ?_
  refine fin_cell 0 ⟨b2, #[.int .i64 o, .int .i64 c.parts, .int .i64 c.v.maj, .int .i64 c.v.min, .int .i64 c.v.pat, .string (mkS c.v.pre), .string (mkS c.v.build)], 26⟩ (off := 0) (.agg #[.int .i64 o, .int .i64 c.parts, .int .i64 c.v.maj, .int .i64 c.v.min, .int .i64 c.v.pat, .string (mkS c.v.pre), .string (mkS c.v.build)]) Tryz.results30 (by kernel_rfl) (by kernel_rfl) (by kernel_rfl) ?_
  exact fun w hO => ⟨rfl, hO.below⟩
end Go.Proofs.YtjabcbagggicaaaGreatDoor
end

section
/-
  linchpinlaw0's Release; linchpinlaw6's awake: what they return; nothing that was there is changed.
-/
namespace Go.Proofs.YtjabcbagggicaaaGreatDoor
open Go.RowKit
set_option maxRecDepth 100000
set_option linter.unusedVariables false
set_option linter.unusedSimpArgs false
set_option maxHeartbeats 2000000

theorem oneRow_len (lo hi : Cu) : (oneRow lo hi).length ≤ 1 := by have := add_len [] lo hi; simpa [oneRow] using this
theorem region_rf (c : Co) : RF c.region 4 := by
  refine ⟨region_may c, ?_⟩
  unfold Co.region
  split
  · split
    · exact (RF.not ⟨oneRow_may _ _, oneRow_len _ _⟩).len
    · exact Nat.le_trans (oneRow_len _ _) (by decide)
  · exact Nat.zero_le _
def aCo : Co := ⟨7, 2, ⟨1, 2, 0, [], []⟩⟩
theorem aCo_may : aCo.may = true := by decide +kernel
theorem aCo_text : aCo.text = [94, 49, 46, 50] := by decide +kernel
theorem aP1 : pcV [94, 49, 46, 50] = aCo ∧ pcE [94, 49, 46, 50] = 0 := pc_some ((parseC_iff _ _).2 ⟨aCo_may, .inl aCo_text⟩)
theorem aP2 : pcV [49, 46, 50] = aCo ∧ pcE [49, 46, 50] = 0 := pc_some ((parseC_iff _ _).2 ⟨aCo_may, .inr aCo_text⟩)
theorem aP3 : pcE [94, 49, 46, 50, 46, 51, 46, 52] = 6 := (pc_none (by decide +kernel)).2
theorem aPr : aCo.print = [94, 49, 46, 50] := by rw [co_print aCo_may, aCo_text]
theorem aRg : aCo.region = [⟨⟨0, ⟨1, 2, 0, [], []⟩, false⟩, ⟨0, ⟨2, 0, 0, [], []⟩, false⟩⟩] := by decide +kernel
theorem aCo_short : aCo.short := ⟨by decide, by decide⟩
theorem awake6_any (W : World) (ht : HasTab W) : Calls Tryz.prog 11 #[] W fun e w' => e = .returned (.bool true) ∧ Below W.heap.size W w' := by
  refine calls_ok (n := 65) Tryz.func11 rfl (by kernel_rfl) (by kernel_rfl) ?_
  refine ok_seq ?_
  refine ok_region ?_
  refine s_val (.bool false) (by kernel_rfl) (fun _ => by kernel_rfl) ?_
  refine s_nil ?_
  refine fin_seq ?_
  refine ok_seq ?_
  refine ok_region ?_
  refine s_call (k := 12) (args := #[.string ⟨#[94, 49, 46, 50]⟩]) (.tuple #[coV aCo, .int .i64 0]) (by kernel_rfl) (fun _ => by kernel_rfl) (fun w hO => ret_v (by rw [aP1.1, aP1.2]) (cParse_any [94, 49, 46, 50] w (by decide) (ht.on hO.below))) ?_
  refine s_val (.tuple #[coV aCo, .int .i64 0]) (by kernel_rfl) (fun _ => by kernel_rfl) ?_
  refine s_val (coV aCo) (by kernel_rfl) (fun _ => by kernel_rfl) ?_
  refine s_val (.int .i64 0) (by kernel_rfl) (fun _ => by kernel_rfl) ?_
  refine s_alloc_at (.agg #[.int .i64 0, .int .i64 0, .int .i64 0, .int .i64 0, .int .i64 0, .string ⟨#[]⟩, .string ⟨#[]⟩]) (by kernel_rfl) rfl (by kernel_rfl) (fun b1 => ?_)
  refine s_store_at 0 ⟨b1, #[.int .i64 0, .int .i64 0, .int .i64 0, .int .i64 0, .int .i64 0, .string ⟨#[]⟩, .string ⟨#[]⟩], 26⟩ (off := 0) (coV aCo) (by kernel_rfl) rfl rfl (by kernel_rfl) (by kernel_rfl) (by kernel_rfl) (by kernel_rfl) (by kernel_rfl) ?_
  refine s_val (.int .i64 0) (by kernel_rfl) (fun _ => by kernel_rfl) ?_
  refine s_nil ?_
  refine fin_seq ?_
  refine ok_seq ?_
  refine ok_region ?_
  refine s_call (k := 12) (args := #[.string ⟨#[49, 46, 50]⟩]) (.tuple #[coV aCo, .int .i64 0]) (by kernel_rfl) (fun _ => by kernel_rfl) (fun w hO => ret_v (by rw [aP2.1, aP2.2]) (cParse_any [49, 46, 50] w (by decide) (ht.on hO.below))) ?_
  refine s_val (.tuple #[coV aCo, .int .i64 0]) (by kernel_rfl) (fun _ => by kernel_rfl) ?_
  refine s_val (coV aCo) (by kernel_rfl) (fun _ => by kernel_rfl) ?_
  refine s_val (.int .i64 0) (by kernel_rfl) (fun _ => by kernel_rfl) ?_
  refine s_alloc_at (.agg #[.int .i64 0, .int .i64 0, .int .i64 0, .int .i64 0, .int .i64 0, .string ⟨#[]⟩, .string ⟨#[]⟩]) (by kernel_rfl) rfl (by kernel_rfl) (fun b2 => ?_)
  refine s_store_at 0 ⟨b2, #[.int .i64 0, .int .i64 0, .int .i64 0, .int .i64 0, .int .i64 0, .string ⟨#[]⟩, .string ⟨#[]⟩], 26⟩ (off := 0) (coV aCo) (by kernel_rfl) rfl rfl (by kernel_rfl) (by kernel_rfl) (by kernel_rfl) (by kernel_rfl) (by kernel_rfl) ?_
  refine s_val (.int .i64 0) (by kernel_rfl) (fun _ => by kernel_rfl) ?_
  refine s_nil ?_
  refine fin_seq ?_
  refine ok_seq ?_
  refine ok_region ?_
  refine s_call (k := 12) (args := #[.string ⟨#[94, 49, 46, 50, 46, 51, 46, 52]⟩]) (.tuple #[coV (pcV [94, 49, 46, 50, 46, 51, 46, 52]), .int .i64 6]) (by kernel_rfl) (fun _ => by kernel_rfl) (fun w hO => ret_v (by rw [aP3]) (cParse_any [94, 49, 46, 50, 46, 51, 46, 52] w (by decide) (ht.on hO.below))) ?_
  refine s_val (.tuple #[coV (pcV [94, 49, 46, 50, 46, 51, 46, 52]), .int .i64 6]) (by kernel_rfl) (fun _ => by kernel_rfl) ?_
  refine s_val (coV (pcV [94, 49, 46, 50, 46, 51, 46, 52])) (by kernel_rfl) (fun _ => by kernel_rfl) ?_
  refine s_val (.int .i64 6) (by kernel_rfl) (fun _ => by kernel_rfl) ?_
  refine s_alloc_at (.agg #[.int .i64 0, .int .i64 0, .int .i64 0, .int .i64 0, .int .i64 0, .string ⟨#[]⟩, .string ⟨#[]⟩]) (by kernel_rfl) rfl (by kernel_rfl) (fun b3 => ?_)
  refine s_store_at 0 ⟨b3, #[.int .i64 0, .int .i64 0, .int .i64 0, .int .i64 0, .int .i64 0, .string ⟨#[]⟩, .string ⟨#[]⟩], 26⟩ (off := 0) (coV (pcV [94, 49, 46, 50, 46, 51, 46, 52])) (by kernel_rfl) rfl rfl (by kernel_rfl) (by kernel_rfl) (by kernel_rfl) (by kernel_rfl) (by kernel_rfl) ?_
  refine s_val (.int .i64 6) (by kernel_rfl) (fun _ => by kernel_rfl) ?_
  refine s_nil ?_
  refine fin_seq ?_
  refine ok_seq ?_
  refine ok_region ?_
  refine s_load 2 ⟨b1, (coV aCo).cells, 26⟩ (off := 0) (coV aCo) (by kernel_rfl) rfl (by kernel_rfl) (by kernel_rfl) (by kernel_rfl) ?_
  refine s_callo (k := 19) (args := #[coV aCo]) (fun v' L' => ∃ ob', L' = ob' ++ ([⟨b3, (coV (pcV [94, 49, 46, 50, 46, 51, 46, 52])).cells, 26⟩, ⟨b2, (coV aCo).cells, 26⟩, ⟨b1, (coV aCo).cells, 26⟩]) ∧ SlS v' [⟨⟨0, ⟨1, 2, 0, [], []⟩, false⟩, ⟨0, ⟨2, 0, 0, [], []⟩, false⟩⟩] ob') (by kernel_rfl) (fun _ => by kernel_rfl) (fun w hO => (cRegion_any aCo w aCo_short).mono fun e w' ⟨v', ob', k1, k2, k3⟩ => ⟨v', _, k1, ⟨ob', rfl, by rw [aRg] at k2; exact k2⟩, Own.joinN hO k3⟩) (fun v1 L1 hv1 => ?_)
  obtain ⟨o1, rfl, hr1⟩ := hv1
  obtain ⟨V1, c1, rfl⟩ := hr1.form
  obtain ⟨g1, cur1, rfl, _, _, _, _, _⟩ := Sl.block hr1 (by decide)
  refine s_val (.slice (some ⟨g1, 0, none⟩) 1 c1) (by kernel_rfl) (fun _ => by kernel_rfl) ?_
  refine s_nil ?_
  refine fin_seq ?_
  refine ok_seq ?_
  refine ok_region ?_
  refine s_val (.int .i64 0) (by kernel_rfl) (fun _ => by kernel_rfl) ?_
  refine s_val (.bool true) (by kernel_rfl) (fun _ => by kernel_rfl) ?_
  refine s_val (.bool true) (by kernel_rfl) (fun _ => by kernel_rfl) ?_
  refine s_val (.int .i64 0) (by kernel_rfl) (fun _ => by kernel_rfl) ?_
  refine s_val (.bool true) (by kernel_rfl) (fun _ => by kernel_rfl) ?_
  refine s_val (.bool true) (by kernel_rfl) (fun _ => by kernel_rfl) ?_
  refine s_val (.bool true) (by kernel_rfl) (fun _ => by kernel_rfl) ?_
  refine s_loadm ⟨b1, (coV aCo).cells, 26⟩ (off := 0) (coV aCo) (by kernel_rfl) rfl (by simp) (by kernel_rfl) (by kernel_rfl) ?_
  refine s_loadm ⟨b2, (coV aCo).cells, 26⟩ (off := 0) (coV aCo) (by kernel_rfl) rfl (by simp) (by kernel_rfl) (by kernel_rfl) ?_
  refine s_val (.bool true) (by kernel_rfl) (op_eq_co (u := aCo) (v := aCo) rfl (by kernel_rfl) (by kernel_rfl) (decide_eq_true (rfl))) ?_
  refine s_val (.bool true) (by kernel_rfl) (fun _ => by kernel_rfl) ?_
  refine s_val (.bool true) (by kernel_rfl) (fun _ => by kernel_rfl) ?_
  refine s_loadm ⟨b1, (coV aCo).cells, 26⟩ (off := 0) (coV aCo) (by kernel_rfl) rfl (by simp) (by kernel_rfl) (by kernel_rfl) ?_
  refine s_call (k := 14) (args := #[coV aCo]) (.string (mkS [94, 49, 46, 50])) (by kernel_rfl) (fun _ => by kernel_rfl) (fun w hO => ret_v (by rw [aPr]) (cPrint_any aCo w aCo_short (ht.on hO.below))) ?_
  refine s_val (.bool true) (by kernel_rfl) (run_streql (a := ([94, 49, 46, 50])) (b := ([94, 49, 46, 50])) rfl (by kernel_rfl) (by kernel_rfl) (decide_eq_true (rfl))) ?_
  refine s_val (.bool true) (by kernel_rfl) (fun _ => by kernel_rfl) ?_
  refine s_val (.bool true) (by kernel_rfl) (fun _ => by kernel_rfl) ?_
  refine s_val (.int .i64 6) (by kernel_rfl) (fun _ => by kernel_rfl) ?_
  refine s_val (.bool true) (by kernel_rfl) (fun _ => by kernel_rfl) ?_
  refine s_val (.bool true) (by kernel_rfl) (fun _ => by kernel_rfl) ?_
  refine s_val (.bool true) (by kernel_rfl) (fun _ => by kernel_rfl) ?_
  refine s_val (.slice (some ⟨g1, 0, none⟩) 1 c1) (by kernel_rfl) (fun _ => by kernel_rfl) ?_
  refine s_val (.int .i64 (1 : Int)) (by kernel_rfl) (fun _ => by kernel_rfl) ?_
  refine s_val (.bool true) (by kernel_rfl) (fun _ => by kernel_rfl) ?_
  refine s_val (.bool true) (by kernel_rfl) (fun _ => by kernel_rfl) ?_
  refine s_val (.bool true) (by kernel_rfl) (fun _ => by kernel_rfl) ?_
  refine s_val (.slice (some ⟨g1, 0, none⟩) 1 c1) (by kernel_rfl) (fun _ => by kernel_rfl) ?_
  refine s_val (.pointer (some ⟨g1, 0 + 0 * 14, none⟩)) (by kernel_rfl) (run_ixA (b := g1) (off := 0) (c := c1) (n := 1) (k := .i64) (j := 0) (e := 50) (sz := 14) rfl (by kernel_rfl) rfl (by kernel_rfl) (by kernel_rfl) (by kernel_rfl) (by omega) (by omega) (by rfl)) ?_
  refine s_val (.pointer (some ⟨g1, 0 + 0 * 14 + 0, none⟩)) (by kernel_rfl) (fun _ => by kernel_rfl) ?_
  refine s_val (.pointer (some ⟨g1, 0 + 0 * 14 + 1, none⟩)) (by kernel_rfl) (fun _ => by kernel_rfl) ?_
  refine s_old (verV ⟨1, 2, 0, [], []⟩) (a := ⟨g1, 0 + 0 * 14 + 1, none⟩) (by kernel_rfl) rfl (by kernel_rfl) (fun w hO => Reads.load spanC_len (Sl.reads hr1 rfl hO (fun x hx => by simp [hx])) rfl 0 1 (by decide) (by omega) _ (by kernel_rfl)) ?_
  refine s_val (.agg #[.int .i64 1, .int .i64 2, .int .i64 0, .string ⟨#[]⟩, .string ⟨#[]⟩]) (by kernel_rfl) (fun _ => by kernel_rfl) ?_
  refine s_val (.bool true) (by kernel_rfl) (op_eq_ver (u := (⟨1, 2, 0, [], []⟩ : Ver)) (v := (⟨1, 2, 0, [], []⟩ : Ver)) rfl (by kernel_rfl) (by kernel_rfl) (decide_eq_true (rfl))) ?_
  refine s_val (.bool true) (by kernel_rfl) (fun _ => by kernel_rfl) ?_
  refine s_val (.bool true) (by kernel_rfl) (fun _ => by kernel_rfl) ?_
  refine s_val (.slice (some ⟨g1, 0, none⟩) 1 c1) (by kernel_rfl) (fun _ => by kernel_rfl) ?_
  refine s_val (.pointer (some ⟨g1, 0 + 0 * 14, none⟩)) (by kernel_rfl) (run_ixA (b := g1) (off := 0) (c := c1) (n := 1) (k := .i64) (j := 0) (e := 50) (sz := 14) rfl (by kernel_rfl) rfl (by kernel_rfl) (by kernel_rfl) (by kernel_rfl) (by omega) (by omega) (by rfl)) ?_
  refine s_val (.pointer (some ⟨g1, 0 + 0 * 14 + 7, none⟩)) (by kernel_rfl) (fun _ => by kernel_rfl) ?_
  refine s_val (.pointer (some ⟨g1, 0 + 0 * 14 + 8, none⟩)) (by kernel_rfl) (fun _ => by kernel_rfl) ?_
  refine s_old (verV ⟨2, 0, 0, [], []⟩) (a := ⟨g1, 0 + 0 * 14 + 8, none⟩) (by kernel_rfl) rfl (by kernel_rfl) (fun w hO => Reads.load spanC_len (Sl.reads hr1 rfl hO (fun x hx => by simp [hx])) rfl 0 8 (by decide) (by omega) _ (by kernel_rfl)) ?_
  refine s_val (.agg #[.int .i64 2, .int .i64 0, .int .i64 0, .string ⟨#[]⟩, .string ⟨#[]⟩]) (by kernel_rfl) (fun _ => by kernel_rfl) ?_
  refine s_val (.bool true) (by kernel_rfl) (op_eq_ver (u := (⟨2, 0, 0, [], []⟩ : Ver)) (v := (⟨2, 0, 0, [], []⟩ : Ver)) rfl (by kernel_rfl) (by kernel_rfl) (decide_eq_true (rfl))) ?_
  refine s_val (.bool true) (by kernel_rfl) (fun _ => by kernel_rfl) ?_
  refine s_val (.bool true) (by kernel_rfl) (fun _ => by kernel_rfl) ?_
  refine s_nil ?_
  refine fin_seq ?_
  refine ok_ret ?_
  refine fin_ret (.bool true) Tryz.results11 (by kernel_rfl) ?_
  exact fun w hO => ⟨rfl, hO.below⟩
end Go.Proofs.YtjabcbagggicaaaGreatDoor
end

section
/-
  What every statement of this seat's proof leans on at its end: from 'the call returns true and below the heap's old end nothing has changed' to the row's own words; the table that the row lists, read as a walk needs it. Conditions: none of its own.
-/
namespace Go.Proofs.YtjabcbagggicaaaGreatDoor
open Go.ChangeShapes Go.WideShapes Go.ChangeAt Go.RowKit

theorem own : ownKnob Tryz.prog.godebug = none := by kernel_rfl

theorem trodAll_stays {H : Type} {enc : TypeId × Value → H} {P : Program} (hl : laidOutB P = true) {W W' : World} (hb : Below W.heap.size W W') :
    ∀ (ts : List TypeId), (∀ t ∈ ts, P.readableRec t = true ∧ t < P.types.size) → ∀ (vs : List Value) (ds : List (DataW H)) (ps : List MemPlace), DataW.TrodAll enc P W 0 (fun _ => true) true ts vs ds ps → (∀ p ∈ ps, p.block < W.heap.size) →
      DataW.TrodAll enc P W' 0 (fun b => decide (b < W.heap.size)) true ts vs ds ps
  | [], _, vs, ds, ps, h, _ => by
    obtain ⟨rfl, rfl, rfl⟩ := trodAll_nil h
    exact trodAll_mk0
  | t :: ts, hr, vs, ds, ps, h, hlt => by
    obtain ⟨v, vs', d, ds', p, q, rfl, rfl, rfl, hd, hrest⟩ := trodAll_cons h
    exact ⟨p, q, Go.RowKit.Below.trod hl (hr t (by simp)).1 (hr t (by simp)).2 hd hb.old (fun x hx => hlt x (by simp [hx])), trodAll_stays hl hb ts (fun t' ht' => hr t' (by simp [ht'])) vs' ds' q hrest (fun x hx => hlt x (by simp [hx])), rfl⟩

/-- The end of a statement's row: the call has returned true, and below the heap's old end nothing has changed. -/
theorem law_end {H : Type} {enc : TypeId × Value → H} {P : Program} {f : Func} {s : ChangeSpec} {W W' : World} {args : Array Value} {ds gs : List (DataW H)} {before : List MemPlace} {T : TypeId}
    (hl : laidOutB P = true) (hr : ∀ t ∈ f.params.toList, P.readableRec t = true ∧ t < P.types.size) (hv : s.vars = []) (hT : f.resultTypes = #[T]) (hB : P.underlying T = some .bool)
    (hW : DataW.Whole enc P f.params.toList s.vars false W args.toList ds gs before) (hf : s.fn H (ds ++ gs) = { results := [.lit (.bool true)], args := ds }) (hb : Below W.heap.size W W') :
    s.post enc P f false true false false W args (.bool true) W' := by
  have hlt : ∀ p ∈ before, p.block < W.heap.size := fun p hp => hW.lt p hp
  have hW' := hW
  obtain ⟨p, q, hA, hV, rfl, _, _⟩ := hW
  rw [hv] at hV
  obtain ⟨rfl, rfl⟩ := trodVars_none hV
  have h2 := trodAll_stays hl hb _ hr _ _ _ hA (fun x hx => hlt x (by simp [hx]))
  refine ⟨ds, [], p ++ [], [], p, [], hW', ?_, ?_, ?_, World.keptBut_mono (fun x hx => ⟨hx, Or.inr (Or.inl (by simpa using hx))⟩) (hb.frame (· ∈ p ++ [])), fun h => by cases h⟩
  · rw [hf, hT]
    exact trodAll_cons_mk (shut_bool hB true) trodAll_mk0
  · rw [hf]; exact h2
  · rw [hf, hv]; rfl
theorem laidOut : laidOutB Tryz.prog = true := by kernel_rfl

theorem cell_lt {W : World} {a : Addr} {v : Value} (h : W.cell? a = some v) : a.block < W.heap.size := by
  rcases Nat.lt_or_ge a.block W.heap.size with h1 | h1
  · exact h1
  · unfold World.cell? at h
    rw [Array.getElem?_eq_none h1] at h
    simp at h
/-- The cells that a table of integers lays. -/
def litCells : DataW Unit → List Value
  | .lit (.int k n) => [Value.int k n]
  | .agg l => l.flatMap fun d => match d with | .lit (.int k n) => [Value.int k n] | _ => []
  | _ => []
def tabCells : DataW Unit → Array Value
  | .agg l => (l.flatMap litCells).toArray
  | _ => #[]
def layAt (h : Array Obj) (g : Nat) (d : DataW Unit) : Array Obj := h.modify g fun
  | .cells _ t frozen => .cells (tabCells d) t frozen
  | o => o

theorem powType : (Tryz.prog.globals[3]?).map (·.type) = some 168 := by kernel_rfl
theorem powNamed : Tryz.prog.globalNamed "internal/strconv.uint64pow10" = some 3 := by kernel_rfl
theorem powCells : Tryz.prog.cellsOf 168 = 20 := by kernel_rfl
theorem u64Cells : Tryz.prog.cellsOf 128 = 1 := by kernel_rfl
theorem hasTab_of {W : World} {l : List (String × DataW Unit)} (h : laidMetH Tryz.prog l W) (e : (l.filter fun x => x.1 == "internal/strconv.uint64pow10") = [("internal/strconv.uint64pow10", Lib.tabData .u64 Lib.pow10Tab)]) : HasTab W := by
  have h2 := h.filter (fun x => x.1 == "internal/strconv.uint64pow10")
  rw [e] at h2
  exact Lib.tabBelow_of_tabIs (Lib.tabIs_of_head (rest := []) powNamed powType Tryz.underlying168 Tryz.underlying128 u64Cells powCells h2)
end Go.Proofs.YtjabcbagggicaaaGreatDoor
end

section
/-
  A parameter that is a slice of ints: it reads as a list, out of the row's own conditions.
-/
namespace Go.Proofs.YtjabcbagggicaaaGreatDoor
open Go.ChangeShapes Go.WideShapes Go.ChangeAt Go.RowKit

set_option maxRecDepth 100000 in
theorem open_nums {H : Type} {enc : TypeId × Value → H} {W : World} {base : Nat} {v : Value} {d : DataW H} {ps : List MemPlace} (hval : Value.okWide Tryz.prog W .any base 36 v)
    (h : DataW.Trod enc Tryz.prog W 0 (fun _ => true) true 36 v d ps) : ∃ l : List Int, ReadsI W W.heap.size v l ∧ l.length ≤ maxLen := by
  obtain ⟨A, len, cap, rfl⟩ := okWide_slice Tryz.underlying36 hval
  obtain ⟨fuel, hf⟩ := h
  rcases open_ints Tryz.underlying36 Tryz.underlying3 (by kernel_rfl) hf with ⟨hcs, _⟩ | ⟨a, len', cap', zs, hcs, _, hl, hm, hz, _, hcell, _⟩
  · simp [Value.cells] at hcs
    obtain ⟨rfl, rfl, rfl⟩ := hcs
    exact ⟨[], ⟨none, 0, rfl, fun h => by cases h⟩, by simp⟩
  · simp [Value.cells] at hcs
    obtain ⟨rfl, rfl, rfl⟩ := hcs
    simp only [if_true] at hz
    have hlen : (zs.take len).length = len := by rw [List.length_take]; omega
    refine ⟨zs.take len, ⟨some a, cap, by rw [hlen], fun h0 => ⟨a, rfl, ?_, fun j hj => ?_⟩⟩, by rw [hlen]; omega⟩
    · have := cell_lt (hcell 0 (by omega))
      rwa [add_block] at this
    · have hj2 : j < zs.length := by omega
      rw [hcell j hj2, List.getElem_take]
      simp only [List.getD, List.getElem?_eq_getElem hj2, Option.getD_some]
end Go.Proofs.YtjabcbagggicaaaGreatDoor
end
