/-
  What the statements' proofs lean on, part 5: each part begins with a remark that says what it proves and on what conditions.
-/
import Derived.Below
import Derived.ChangeSame
import Derived.ProofKit
import Derived.OpenShut
import Derived.LaidSub
import Derived.Carry
import Derived.SliceStrings
import Derived.Lib.LaidTab
import Derived.Deep.DeepHandedRow
import Derived.ChangeArms
import Derived.Deep.Fields
import Derived.DataReads
import Derived.ChangeOld
import Derived.ChangeSlices
import Derived.Test.YtmlecnomdamgnaaGreatM4

section
/-
  Package row's And, Within.
-/
namespace Go.Proofs.YtmlecnomdamgnaaGreat
open Go.RowKit
set_option maxRecDepth 100000
set_option linter.unusedVariables false
set_option linter.unusedSimpArgs false
set_option maxHeartbeats 2000000


/-- The state of And's loop: what is left of both rows, what has been found. -/
structure BothB (a b : List Sp) (W : World) (A1 B1 : Option Addr) (c1 c2 n : Nat) (a1 b1 : List Sp) (v : Value) (out : List Sp) (ob : List Blk) : Prop where
  ra : Reads spanC W W.heap.size A1 a1
  rb : Reads spanC W W.heap.size B1 b1
  ca : a1.length ≤ c1
  cb : b1.length ≤ c2
  sa : ShortL a1
  sb : ShortL b1
  sl : SlS v out ob
  so : ShortL out
  len : out.length + n ≤ a.length + b.length
  fuel : a1.length + b1.length ≤ n
  eq : andG (a.length + b.length) [] a b = andG n out a1 b1
theorem andG_end {n : Nat} {out a b : List Sp} (h : ¬ (0 < a.length ∧ 0 < b.length)) : andG n out a b = out := by
  cases n with
  | zero => cases a <;> cases b <;> rfl
  | succ n =>
    cases a with
    | nil => rfl
    | cons s a =>
      cases b with
      | nil => rfl
      | cons u b => exact absurd ⟨by simp, by simp⟩ h
theorem drop1_short {l : List Sp} (h : ShortL l) : ShortL (l.drop 1) := fun s hs => h s (List.mem_of_mem_drop hs)
theorem BothB.stepA {a b : List Sp} {W : World} {A1 B1 : Option Addr} {c1 c2 n o b0 : Nat} {a1 b1 : List Sp} {v v2 : Value} {out : List Sp} {ob ob2 : List Blk} (h : BothB a b W A1 B1 c1 c2 n a1 b1 v out ob) (ha : 0 < a1.length) (hb : 0 < b1.length) {s u : Sp} (hs : a1[0] = s) (hu : b1[0] = u) (hA : A1 = some ⟨b0, o, none⟩)
    (he : s.hi = minC s.hi u.hi) (h2 : SlS v2 (addL out (maxC s.lo u.lo) (minC s.hi u.hi)) ob2) : BothB a b W (some ⟨b0, o + (if c1 = (1 : Int).toNat then 0 else (1 : Int).toNat * 14), none⟩) B1 (c1 - (1 : Int).toNat) c2 (n - 1) (a1.drop 1) b1 v2 (addL out (maxC s.lo u.lo) (minC s.hi u.hi)) ob2 := by
  have hss : s.short := hs ▸ h.sa _ (List.getElem_mem ha)
  have hus : u.short := hu ▸ h.sb _ (List.getElem_mem hb)
  have hf := h.fuel
  have h1 : (1 : Int).toNat = 1 := rfl
  refine ⟨h.ra.drop1 spanC_len hA h.ca, h.rb, by rw [List.length_drop, h1]; have := h.ca; omega, h.cb, drop1_short h.sa, h.sb, h2, add_short h.so (maxC_short hss.1 hus.1) (minC_short hss.2 hus.2), by have := h.len; have := add_len out (maxC s.lo u.lo) (minC s.hi u.hi); omega, by rw [List.length_drop]; omega, ?_⟩
  rw [h.eq]
  obtain ⟨m, rfl⟩ : ∃ m, n = m + 1 := ⟨n - 1, by omega⟩
  match a1, b1, ha, hb, hs, hu with
  | x :: a2, y :: b2, _, _, hs, hu =>
    obtain rfl : x = s := hs
    obtain rfl : y = u := hu
    conv => lhs; unfold andG
    rw [if_pos he]; rfl
theorem BothB.stepB {a b : List Sp} {W : World} {A1 B1 : Option Addr} {c1 c2 n o b0 : Nat} {a1 b1 : List Sp} {v v2 : Value} {out : List Sp} {ob ob2 : List Blk} (h : BothB a b W A1 B1 c1 c2 n a1 b1 v out ob) (ha : 0 < a1.length) (hb : 0 < b1.length) {s u : Sp} (hs : a1[0] = s) (hu : b1[0] = u) (hB : B1 = some ⟨b0, o, none⟩)
    (he : ¬ s.hi = minC s.hi u.hi) (h2 : SlS v2 (addL out (maxC s.lo u.lo) (minC s.hi u.hi)) ob2) : BothB a b W A1 (some ⟨b0, o + (if c2 = (1 : Int).toNat then 0 else (1 : Int).toNat * 14), none⟩) c1 (c2 - (1 : Int).toNat) (n - 1) a1 (b1.drop 1) v2 (addL out (maxC s.lo u.lo) (minC s.hi u.hi)) ob2 := by
  have hss : s.short := hs ▸ h.sa _ (List.getElem_mem ha)
  have hus : u.short := hu ▸ h.sb _ (List.getElem_mem hb)
  have hf := h.fuel
  have h1 : (1 : Int).toNat = 1 := rfl
  refine ⟨h.ra, h.rb.drop1 spanC_len hB h.cb, h.ca, by rw [List.length_drop, h1]; have := h.cb; omega, h.sa, drop1_short h.sb, h2, add_short h.so (maxC_short hss.1 hus.1) (minC_short hss.2 hus.2), by have := h.len; have := add_len out (maxC s.lo u.lo) (minC s.hi u.hi); omega, by rw [List.length_drop]; omega, ?_⟩
  rw [h.eq]
  obtain ⟨m, rfl⟩ : ∃ m, n = m + 1 := ⟨n - 1, by omega⟩
  match a1, b1, ha, hb, hs, hu with
  | x :: a2, y :: b2, _, _, hs, hu =>
    obtain rfl : x = s := hs
    obtain rfl : y = u := hu
    conv => lhs; unfold andG
    rw [if_neg he]; rfl
set_option maxHeartbeats 4000000 in
theorem and4_any (A B : Option Addr) (cap capb : Nat) (a b : List Sp) (W : World) (hv : Reads spanC W W.heap.size A a) (hu : Reads spanC W W.heap.size B b) (hn : a.length ≤ 100000) (hm : b.length ≤ 100000) (ha : ShortL a) (hb : ShortL b) (hca : a.length ≤ cap) (hcb : b.length ≤ capb) :
    Calls Tryz.prog 16 #[.slice A a.length cap, .slice B b.length capb] W fun e w' => ∃ v' ob', e = .returned v' ∧ SlS v' (if rowMay a && rowMay b then andL a b else []) ob' ∧ Own [] W w' ob' := by
  refine calls_ok (n := 66) Tryz.func16 rfl (by kernel_rfl) (by kernel_rfl) ?_
  refine ok_seq ?_
  refine ok_region ?_
  refine s_val (.slice none 0 0) (by kernel_rfl) (fun _ => by kernel_rfl) ?_
  refine s_nil ?_
  refine fin_seq ?_
  refine ok_seq ?_
  refine ok_seq ?_
  refine ok_region ?_
  refine s_val (.slice A a.length cap) (by kernel_rfl) (fun _ => by kernel_rfl) ?_
  refine s_call (k := 23) (args := #[.slice A a.length cap]) (.bool (rowMay a)) (by kernel_rfl) (fun _ => by kernel_rfl) (fun w hO => may4_any A cap a w (hv.on hO.below hO.size) (by omega) ha) ?_
  cases h1 : rowMay a with
  | true =>
    refine s_val (.bool false) (by kernel_rfl) (fun _ => by kernel_rfl) ?_
    refine s_val (.bool false) (by kernel_rfl) (fun _ => by kernel_rfl) ?_
    refine s_val (.slice B b.length capb) (by kernel_rfl) (fun _ => by kernel_rfl) ?_
    refine s_call (k := 23) (args := #[.slice B b.length capb]) (.bool (rowMay b)) (by kernel_rfl) (fun _ => by kernel_rfl) (fun w hO => may4_any B capb b w (hu.on hO.below hO.size) (by omega) hb) ?_
    cases h2 : rowMay b with
    | true =>
      refine s_val (.bool false) (by kernel_rfl) (fun _ => by kernel_rfl) ?_
      refine s_val (.bool false) (by kernel_rfl) (fun _ => by kernel_rfl) ?_
      refine s_nil ?_
      refine fin_seq ?_
      refine ok_false (by kernel_rfl) ?_
      refine ok_skip ?_
      refine fin_seq ?_
      refine ok_seq ?_
      refine ok_region ?_
      refine s_val (.slice none 0 0) (by kernel_rfl) (fun _ => by kernel_rfl) ?_
      refine s_nil ?_
      refine fin_seq ?_
      refine ok_seq ?_
      refine ok_block ?_
      refine ok_cast (L' := [] ++ []) rfl ?_
      refine ok_loop (fun L f m => ∃ (A1 : Option Addr) (B1 : Option Addr) (q1 : Nat) (q2 : Nat) (c1 : Nat) (c2 : Nat) (n : Nat) (a1 : List Sp) (b1 : List Sp) (v : Value) (out : List Sp) (ob : List Blk) (j : Nat → Value), (q1 = a1.length ∧ q2 = b1.length ∧ BothB a b W A1 B1 c1 c2 n a1 b1 v out ob) ∧ L = ob ++ [] ∧ f = upds j [(0, .slice A1 q1 c1), (1, .slice B1 q2 c2), (5, v)] ∧ m = a1.length + b1.length) (a.length + b.length) ⟨A, B, a.length, b.length, cap, capb, a.length + b.length, a, b, _, [], [], _, ⟨rfl, rfl, ⟨hv, hu, hca, hcb, ha, hb, Sl.nil _ _, fun s hs => by simp at hs, by simp, Nat.le_refl _, rfl⟩⟩, rfl, upds_self _ ⟨by kernel_rfl, by kernel_rfl, by kernel_rfl, trivial⟩, rfl⟩ ?_
      rintro L f m ⟨A1, B1, q1, q2, c1, c2, n, a1, b1, v, out, ob, j, hrel, rfl, rfl, rfl⟩
      obtain ⟨hq1, hq2, hrel⟩ := hrel; subst hq1; subst hq2; have hlen := hrel.len; have hfuel := hrel.fuel; refine ok_cast (L' := ob) (List.append_nil ob) ?_
      refine ok_seq ?_
      refine ok_seq ?_
      refine ok_region ?_
      refine s_val (.slice A1 a1.length c1) (by kernel_rfl) (fun _ => by kernel_rfl) ?_
      refine s_val (.int .i64 (a1.length : Int)) (by kernel_rfl) (fun _ => by kernel_rfl) ?_
      by_cases h3 : (0 : Int) < (a1.length : Int)
      · skip
        have hka : 0 < a1.length := by omega
        obtain ⟨ba, offa, hA, hlta, hcela⟩ := hrel.ra hka
        obtain ⟨s, hs⟩ : ∃ s, a1[0] = s := ⟨_, rfl⟩
        have hsk : s.short := hs ▸ hrel.sa _ (List.getElem_mem hka)
        refine s_dec (p := (0 : Int) < (a1.length : Int)) true (by kernel_rfl) (fun _ => by kernel_rfl) (decide_eq_true (h3)) ?_
        refine s_val (.bool true) (by kernel_rfl) (fun _ => by kernel_rfl) ?_
        refine s_val (.slice B1 b1.length c2) (by kernel_rfl) (fun _ => by kernel_rfl) ?_
        refine s_val (.int .i64 (b1.length : Int)) (by kernel_rfl) (fun _ => by kernel_rfl) ?_
        by_cases h4 : (0 : Int) < (b1.length : Int)
        · skip
          have hkb : 0 < b1.length := by omega
          obtain ⟨bb, offb, hB, hltb, hcelb⟩ := hrel.rb hkb
          obtain ⟨u, hu1⟩ : ∃ u, b1[0] = u := ⟨_, rfl⟩
          have huk : u.short := hu1 ▸ hrel.sb _ (List.getElem_mem hkb)
          refine s_dec (p := (0 : Int) < (b1.length : Int)) true (by kernel_rfl) (fun _ => by kernel_rfl) (decide_eq_true (h4)) ?_
          refine s_val (.bool true) (by kernel_rfl) (fun _ => by kernel_rfl) ?_
          refine s_nil ?_
          refine fin_seq ?_
          refine ok_true (by kernel_rfl) ?_
          refine ok_skip ?_
          refine fin_seq ?_
          refine ok_block ?_
          refine ok_seq ?_
          refine ok_join (fun L f => ∃ (p6 p7 : Nat) (j : Nat → Value), L = ⟨p7, (cutV (maxC s.lo u.lo)).cells, 41⟩ :: (⟨p6, (cutV (minC s.lo u.lo)).cells, 41⟩ :: (ob)) ∧ f = upds j [(0, .slice A1 a1.length c1), (1, .slice B1 b1.length c2), (5, v), (6, .pointer (some ⟨p6, 0, none⟩)), (7, .pointer (some ⟨p7, 0, none⟩))]) ?_ ?_
          · skip
            refine ok_anyh (by kernel_rfl) ?_
            refine h_take 0 [] _ (.slice A1 a1.length c1) rfl (by kernel_rfl) (by kernel_rfl) (by kernel_rfl) pq_join (by kernel_rfl) (fun _ _ => by kernel_rfl) ?_
            refine h_take 1 [] _ (.pointer (some ⟨ba, offa + 0 * 14, none⟩)) rfl (by kernel_rfl) (by kernel_rfl) (by kernel_rfl) pq_join (by kernel_rfl) (fun w _ => run_ixA (b := ba) (off := offa) (c := c1) (n := a1.length) (k := .i64) (j := 0) (e := 43) (sz := 14) rfl (by kernel_rfl) hA (by kernel_rfl) (by kernel_rfl) (by kernel_rfl) (by omega) (by omega) (by omega) w) ?_
            refine h_take 2 [] _ (.pointer (some ⟨ba, offa + 0 * 14 + 0, none⟩)) rfl (by kernel_rfl) (by kernel_rfl) (by kernel_rfl) pq_join (by kernel_rfl) (fun _ _ => by kernel_rfl) ?_
            refine hl_old 3 _ (a := ⟨ba, offa + 0 * 14 + 0, none⟩) (cutV s.lo) rfl (by kernel_rfl) (by kernel_rfl) (by kernel_rfl) pq_join (fun w hO => Own.sub [] hO) (by kernel_rfl) rfl (by kernel_rfl) (fun w hO => elem_load spanC_len (fun j u h => (hO.below.cell (p := ⟨ba, offa + j, none⟩) hlta).trans (hcela j u h)) 0 0 hka (by omega) _ (by rw [hs]; kernel_rfl)) ?_
            refine h_take 4 [] _ (.slice B1 b1.length c2) rfl (by kernel_rfl) (by kernel_rfl) (by kernel_rfl) pq_join (by kernel_rfl) (fun _ _ => by kernel_rfl) ?_
            refine h_take 5 [] _ (.pointer (some ⟨bb, offb + 0 * 14, none⟩)) rfl (by kernel_rfl) (by kernel_rfl) (by kernel_rfl) pq_join (by kernel_rfl) (fun w _ => run_ixA (b := bb) (off := offb) (c := c2) (n := b1.length) (k := .i64) (j := 0) (e := 43) (sz := 14) rfl (by kernel_rfl) hB (by kernel_rfl) (by kernel_rfl) (by kernel_rfl) (by omega) (by omega) (by omega) w) ?_
            refine h_take 6 [] _ (.pointer (some ⟨bb, offb + 0 * 14 + 0, none⟩)) rfl (by kernel_rfl) (by kernel_rfl) (by kernel_rfl) pq_join (by kernel_rfl) (fun _ _ => by kernel_rfl) ?_
            refine hl_old 7 _ (a := ⟨bb, offb + 0 * 14 + 0, none⟩) (cutV u.lo) rfl (by kernel_rfl) (by kernel_rfl) (by kernel_rfl) pq_join (fun w hO => Own.sub [] hO) (by kernel_rfl) rfl (by kernel_rfl) (fun w hO => elem_load spanC_len (fun j u h => (hO.below.cell (p := ⟨bb, offb + j, none⟩) hltb).trans (hcelb j u h)) 0 0 hkb (by omega) _ (by rw [hu1]; kernel_rfl)) ?_
            refine h_three 8 12 13 (by kernel_rfl) ?_ ?_ ?_
            · skip
              refine hs_call [] _ (k := 33) (args := #[cutV s.lo, cutV u.lo]) (.tuple #[cutV (minC s.lo u.lo), cutV (maxC s.lo u.lo)]) rfl (by kernel_rfl) (fun _ => by kernel_rfl) (fun w _ => order_any s.lo u.lo w hsk.1 huk.1) ?_
              refine h_take 9 [] _ (.tuple #[cutV (minC s.lo u.lo), cutV (maxC s.lo u.lo)]) rfl (by kernel_rfl) (by kernel_rfl) (by kernel_rfl) pq_join (by kernel_rfl) (fun _ _ => by kernel_rfl) ?_
              refine h_take 10 [] _ (cutV (minC s.lo u.lo)) rfl (by kernel_rfl) (by kernel_rfl) (by kernel_rfl) pq_join (by kernel_rfl) (fun _ _ => by kernel_rfl) ?_
              refine h_take 11 [] _ (cutV (maxC s.lo u.lo)) rfl (by kernel_rfl) (by kernel_rfl) (by kernel_rfl) pq_join (by kernel_rfl) (fun _ _ => by kernel_rfl) ?_
              refine h_two 12 13 (by kernel_rfl) ?_ ?_
              · skip
                refine hs_alloc [] _ (.agg #[.int .i64 0, .int .i64 0, .int .i64 0, .int .i64 0, .string ⟨#[]⟩, .string ⟨#[]⟩, .bool false]) rfl (by kernel_rfl) rfl (by kernel_rfl) (fun b1 => ?_)
                refine h_one 13 (by kernel_rfl) ?_
                refine hs_alloc [⟨b1, #[.int .i64 0, .int .i64 0, .int .i64 0, .int .i64 0, .string ⟨#[]⟩, .string ⟨#[]⟩, .bool false], 41⟩] _ (.agg #[.int .i64 0, .int .i64 0, .int .i64 0, .int .i64 0, .string ⟨#[]⟩, .string ⟨#[]⟩, .bool false]) rfl (by kernel_rfl) rfl (by kernel_rfl) (fun b2 => ?_)
                refine h_one 14 (by kernel_rfl) ?_
                refine hs_store [⟨b2, #[.int .i64 0, .int .i64 0, .int .i64 0, .int .i64 0, .string ⟨#[]⟩, .string ⟨#[]⟩, .bool false], 41⟩, ⟨b1, #[.int .i64 0, .int .i64 0, .int .i64 0, .int .i64 0, .string ⟨#[]⟩, .string ⟨#[]⟩, .bool false], 41⟩] _ 1 ⟨b1, #[.int .i64 0, .int .i64 0, .int .i64 0, .int .i64 0, .string ⟨#[]⟩, .string ⟨#[]⟩, .bool false], 41⟩ (off := 0) (cutV (minC s.lo u.lo)) rfl (by kernel_rfl) rfl rfl (by kernel_rfl) (by kernel_rfl) (by kernel_rfl) (by kernel_rfl) (by kernel_rfl) ?_
                refine h_one 15 (by kernel_rfl) ?_
                refine hs_store [⟨b2, #[.int .i64 0, .int .i64 0, .int .i64 0, .int .i64 0, .string ⟨#[]⟩, .string ⟨#[]⟩, .bool false], 41⟩, ⟨b1, (cutV (minC s.lo u.lo)).cells, 41⟩] _ 0 ⟨b2, #[.int .i64 0, .int .i64 0, .int .i64 0, .int .i64 0, .string ⟨#[]⟩, .string ⟨#[]⟩, .bool false], 41⟩ (off := 0) (cutV (maxC s.lo u.lo)) rfl (by kernel_rfl) rfl rfl (by kernel_rfl) (by kernel_rfl) (by kernel_rfl) (by kernel_rfl) (by kernel_rfl) ?_
                refine h_done (by kernel_rfl) ?_
                exact fin_join ⟨b1, b2, _, rfl, upds_self _ ⟨by kernel_rfl, by kernel_rfl, by kernel_rfl, by kernel_rfl, by kernel_rfl, trivial⟩⟩
              · skip
                refine hs_alloc [] _ (.agg #[.int .i64 0, .int .i64 0, .int .i64 0, .int .i64 0, .string ⟨#[]⟩, .string ⟨#[]⟩, .bool false]) rfl (by kernel_rfl) rfl (by kernel_rfl) (fun b1 => ?_)
                refine h_one 12 (by kernel_rfl) ?_
                refine hs_alloc [⟨b1, #[.int .i64 0, .int .i64 0, .int .i64 0, .int .i64 0, .string ⟨#[]⟩, .string ⟨#[]⟩, .bool false], 41⟩] _ (.agg #[.int .i64 0, .int .i64 0, .int .i64 0, .int .i64 0, .string ⟨#[]⟩, .string ⟨#[]⟩, .bool false]) rfl (by kernel_rfl) rfl (by kernel_rfl) (fun b2 => ?_)
                refine h_one 14 (by kernel_rfl) ?_
                refine hs_store [⟨b2, #[.int .i64 0, .int .i64 0, .int .i64 0, .int .i64 0, .string ⟨#[]⟩, .string ⟨#[]⟩, .bool false], 41⟩, ⟨b1, #[.int .i64 0, .int .i64 0, .int .i64 0, .int .i64 0, .string ⟨#[]⟩, .string ⟨#[]⟩, .bool false], 41⟩] _ 0 ⟨b2, #[.int .i64 0, .int .i64 0, .int .i64 0, .int .i64 0, .string ⟨#[]⟩, .string ⟨#[]⟩, .bool false], 41⟩ (off := 0) (cutV (minC s.lo u.lo)) rfl (by kernel_rfl) rfl rfl (by kernel_rfl) (by kernel_rfl) (by kernel_rfl) (by kernel_rfl) (by kernel_rfl) ?_
                refine h_one 15 (by kernel_rfl) ?_
                refine hs_store [⟨b2, (cutV (minC s.lo u.lo)).cells, 41⟩, ⟨b1, #[.int .i64 0, .int .i64 0, .int .i64 0, .int .i64 0, .string ⟨#[]⟩, .string ⟨#[]⟩, .bool false], 41⟩] _ 1 ⟨b1, #[.int .i64 0, .int .i64 0, .int .i64 0, .int .i64 0, .string ⟨#[]⟩, .string ⟨#[]⟩, .bool false], 41⟩ (off := 0) (cutV (maxC s.lo u.lo)) rfl (by kernel_rfl) rfl rfl (by kernel_rfl) (by kernel_rfl) (by kernel_rfl) (by kernel_rfl) (by kernel_rfl) ?_
                refine h_done (by kernel_rfl) ?_
                refine fin_swap ?_
                exact fin_join ⟨b2, b1, _, rfl, upds_self _ ⟨by kernel_rfl, by kernel_rfl, by kernel_rfl, by kernel_rfl, by kernel_rfl, trivial⟩⟩
            · skip
              refine hs_alloc [] _ (.agg #[.int .i64 0, .int .i64 0, .int .i64 0, .int .i64 0, .string ⟨#[]⟩, .string ⟨#[]⟩, .bool false]) rfl (by kernel_rfl) rfl (by kernel_rfl) (fun b1 => ?_)
              refine h_two 8 13 (by kernel_rfl) ?_ ?_
              · skip
                refine hs_call [⟨b1, #[.int .i64 0, .int .i64 0, .int .i64 0, .int .i64 0, .string ⟨#[]⟩, .string ⟨#[]⟩, .bool false], 41⟩] _ (k := 33) (args := #[cutV s.lo, cutV u.lo]) (.tuple #[cutV (minC s.lo u.lo), cutV (maxC s.lo u.lo)]) rfl (by kernel_rfl) (fun _ => by kernel_rfl) (fun w _ => order_any s.lo u.lo w hsk.1 huk.1) ?_
                refine h_take 9 [⟨b1, #[.int .i64 0, .int .i64 0, .int .i64 0, .int .i64 0, .string ⟨#[]⟩, .string ⟨#[]⟩, .bool false], 41⟩] _ (.tuple #[cutV (minC s.lo u.lo), cutV (maxC s.lo u.lo)]) rfl (by kernel_rfl) (by kernel_rfl) (by kernel_rfl) pq_join (by kernel_rfl) (fun _ _ => by kernel_rfl) ?_
                refine h_take 10 [⟨b1, #[.int .i64 0, .int .i64 0, .int .i64 0, .int .i64 0, .string ⟨#[]⟩, .string ⟨#[]⟩, .bool false], 41⟩] _ (cutV (minC s.lo u.lo)) rfl (by kernel_rfl) (by kernel_rfl) (by kernel_rfl) pq_join (by kernel_rfl) (fun _ _ => by kernel_rfl) ?_
                refine h_take 11 [⟨b1, #[.int .i64 0, .int .i64 0, .int .i64 0, .int .i64 0, .string ⟨#[]⟩, .string ⟨#[]⟩, .bool false], 41⟩] _ (cutV (maxC s.lo u.lo)) rfl (by kernel_rfl) (by kernel_rfl) (by kernel_rfl) pq_join (by kernel_rfl) (fun _ _ => by kernel_rfl) ?_
                refine h_one 13 (by kernel_rfl) ?_
                refine hs_alloc [⟨b1, #[.int .i64 0, .int .i64 0, .int .i64 0, .int .i64 0, .string ⟨#[]⟩, .string ⟨#[]⟩, .bool false], 41⟩] _ (.agg #[.int .i64 0, .int .i64 0, .int .i64 0, .int .i64 0, .string ⟨#[]⟩, .string ⟨#[]⟩, .bool false]) rfl (by kernel_rfl) rfl (by kernel_rfl) (fun b2 => ?_)
                refine h_one 14 (by kernel_rfl) ?_
                refine hs_store [⟨b2, #[.int .i64 0, .int .i64 0, .int .i64 0, .int .i64 0, .string ⟨#[]⟩, .string ⟨#[]⟩, .bool false], 41⟩, ⟨b1, #[.int .i64 0, .int .i64 0, .int .i64 0, .int .i64 0, .string ⟨#[]⟩, .string ⟨#[]⟩, .bool false], 41⟩] _ 1 ⟨b1, #[.int .i64 0, .int .i64 0, .int .i64 0, .int .i64 0, .string ⟨#[]⟩, .string ⟨#[]⟩, .bool false], 41⟩ (off := 0) (cutV (minC s.lo u.lo)) rfl (by kernel_rfl) rfl rfl (by kernel_rfl) (by kernel_rfl) (by kernel_rfl) (by kernel_rfl) (by kernel_rfl) ?_
                refine h_one 15 (by kernel_rfl) ?_
                refine hs_store [⟨b2, #[.int .i64 0, .int .i64 0, .int .i64 0, .int .i64 0, .string ⟨#[]⟩, .string ⟨#[]⟩, .bool false], 41⟩, ⟨b1, (cutV (minC s.lo u.lo)).cells, 41⟩] _ 0 ⟨b2, #[.int .i64 0, .int .i64 0, .int .i64 0, .int .i64 0, .string ⟨#[]⟩, .string ⟨#[]⟩, .bool false], 41⟩ (off := 0) (cutV (maxC s.lo u.lo)) rfl (by kernel_rfl) rfl rfl (by kernel_rfl) (by kernel_rfl) (by kernel_rfl) (by kernel_rfl) (by kernel_rfl) ?_
                refine h_done (by kernel_rfl) ?_
                exact fin_join ⟨b1, b2, _, rfl, upds_self _ ⟨by kernel_rfl, by kernel_rfl, by kernel_rfl, by kernel_rfl, by kernel_rfl, trivial⟩⟩
              · skip
                refine hs_alloc [⟨b1, #[.int .i64 0, .int .i64 0, .int .i64 0, .int .i64 0, .string ⟨#[]⟩, .string ⟨#[]⟩, .bool false], 41⟩] _ (.agg #[.int .i64 0, .int .i64 0, .int .i64 0, .int .i64 0, .string ⟨#[]⟩, .string ⟨#[]⟩, .bool false]) rfl (by kernel_rfl) rfl (by kernel_rfl) (fun b2 => ?_)
                refine h_one 8 (by kernel_rfl) ?_
                refine hs_call [⟨b2, #[.int .i64 0, .int .i64 0, .int .i64 0, .int .i64 0, .string ⟨#[]⟩, .string ⟨#[]⟩, .bool false], 41⟩, ⟨b1, #[.int .i64 0, .int .i64 0, .int .i64 0, .int .i64 0, .string ⟨#[]⟩, .string ⟨#[]⟩, .bool false], 41⟩] _ (k := 33) (args := #[cutV s.lo, cutV u.lo]) (.tuple #[cutV (minC s.lo u.lo), cutV (maxC s.lo u.lo)]) rfl (by kernel_rfl) (fun _ => by kernel_rfl) (fun w _ => order_any s.lo u.lo w hsk.1 huk.1) ?_
                refine h_take 9 [⟨b2, #[.int .i64 0, .int .i64 0, .int .i64 0, .int .i64 0, .string ⟨#[]⟩, .string ⟨#[]⟩, .bool false], 41⟩, ⟨b1, #[.int .i64 0, .int .i64 0, .int .i64 0, .int .i64 0, .string ⟨#[]⟩, .string ⟨#[]⟩, .bool false], 41⟩] _ (.tuple #[cutV (minC s.lo u.lo), cutV (maxC s.lo u.lo)]) rfl (by kernel_rfl) (by kernel_rfl) (by kernel_rfl) pq_join (by kernel_rfl) (fun _ _ => by kernel_rfl) ?_
                refine h_take 10 [⟨b2, #[.int .i64 0, .int .i64 0, .int .i64 0, .int .i64 0, .string ⟨#[]⟩, .string ⟨#[]⟩, .bool false], 41⟩, ⟨b1, #[.int .i64 0, .int .i64 0, .int .i64 0, .int .i64 0, .string ⟨#[]⟩, .string ⟨#[]⟩, .bool false], 41⟩] _ (cutV (minC s.lo u.lo)) rfl (by kernel_rfl) (by kernel_rfl) (by kernel_rfl) pq_join (by kernel_rfl) (fun _ _ => by kernel_rfl) ?_
                refine h_take 11 [⟨b2, #[.int .i64 0, .int .i64 0, .int .i64 0, .int .i64 0, .string ⟨#[]⟩, .string ⟨#[]⟩, .bool false], 41⟩, ⟨b1, #[.int .i64 0, .int .i64 0, .int .i64 0, .int .i64 0, .string ⟨#[]⟩, .string ⟨#[]⟩, .bool false], 41⟩] _ (cutV (maxC s.lo u.lo)) rfl (by kernel_rfl) (by kernel_rfl) (by kernel_rfl) pq_join (by kernel_rfl) (fun _ _ => by kernel_rfl) ?_
                refine h_one 14 (by kernel_rfl) ?_
                refine hs_store [⟨b2, #[.int .i64 0, .int .i64 0, .int .i64 0, .int .i64 0, .string ⟨#[]⟩, .string ⟨#[]⟩, .bool false], 41⟩, ⟨b1, #[.int .i64 0, .int .i64 0, .int .i64 0, .int .i64 0, .string ⟨#[]⟩, .string ⟨#[]⟩, .bool false], 41⟩] _ 1 ⟨b1, #[.int .i64 0, .int .i64 0, .int .i64 0, .int .i64 0, .string ⟨#[]⟩, .string ⟨#[]⟩, .bool false], 41⟩ (off := 0) (cutV (minC s.lo u.lo)) rfl (by kernel_rfl) rfl rfl (by kernel_rfl) (by kernel_rfl) (by kernel_rfl) (by kernel_rfl) (by kernel_rfl) ?_
                refine h_one 15 (by kernel_rfl) ?_
                refine hs_store [⟨b2, #[.int .i64 0, .int .i64 0, .int .i64 0, .int .i64 0, .string ⟨#[]⟩, .string ⟨#[]⟩, .bool false], 41⟩, ⟨b1, (cutV (minC s.lo u.lo)).cells, 41⟩] _ 0 ⟨b2, #[.int .i64 0, .int .i64 0, .int .i64 0, .int .i64 0, .string ⟨#[]⟩, .string ⟨#[]⟩, .bool false], 41⟩ (off := 0) (cutV (maxC s.lo u.lo)) rfl (by kernel_rfl) rfl rfl (by kernel_rfl) (by kernel_rfl) (by kernel_rfl) (by kernel_rfl) (by kernel_rfl) ?_
                refine h_done (by kernel_rfl) ?_
                exact fin_join ⟨b1, b2, _, rfl, upds_self _ ⟨by kernel_rfl, by kernel_rfl, by kernel_rfl, by kernel_rfl, by kernel_rfl, trivial⟩⟩
            · skip
              refine hs_alloc [] _ (.agg #[.int .i64 0, .int .i64 0, .int .i64 0, .int .i64 0, .string ⟨#[]⟩, .string ⟨#[]⟩, .bool false]) rfl (by kernel_rfl) rfl (by kernel_rfl) (fun b1 => ?_)
              refine h_two 8 12 (by kernel_rfl) ?_ ?_
              · skip
                refine hs_call [⟨b1, #[.int .i64 0, .int .i64 0, .int .i64 0, .int .i64 0, .string ⟨#[]⟩, .string ⟨#[]⟩, .bool false], 41⟩] _ (k := 33) (args := #[cutV s.lo, cutV u.lo]) (.tuple #[cutV (minC s.lo u.lo), cutV (maxC s.lo u.lo)]) rfl (by kernel_rfl) (fun _ => by kernel_rfl) (fun w _ => order_any s.lo u.lo w hsk.1 huk.1) ?_
                refine h_take 9 [⟨b1, #[.int .i64 0, .int .i64 0, .int .i64 0, .int .i64 0, .string ⟨#[]⟩, .string ⟨#[]⟩, .bool false], 41⟩] _ (.tuple #[cutV (minC s.lo u.lo), cutV (maxC s.lo u.lo)]) rfl (by kernel_rfl) (by kernel_rfl) (by kernel_rfl) pq_join (by kernel_rfl) (fun _ _ => by kernel_rfl) ?_
                refine h_take 10 [⟨b1, #[.int .i64 0, .int .i64 0, .int .i64 0, .int .i64 0, .string ⟨#[]⟩, .string ⟨#[]⟩, .bool false], 41⟩] _ (cutV (minC s.lo u.lo)) rfl (by kernel_rfl) (by kernel_rfl) (by kernel_rfl) pq_join (by kernel_rfl) (fun _ _ => by kernel_rfl) ?_
                refine h_take 11 [⟨b1, #[.int .i64 0, .int .i64 0, .int .i64 0, .int .i64 0, .string ⟨#[]⟩, .string ⟨#[]⟩, .bool false], 41⟩] _ (cutV (maxC s.lo u.lo)) rfl (by kernel_rfl) (by kernel_rfl) (by kernel_rfl) pq_join (by kernel_rfl) (fun _ _ => by kernel_rfl) ?_
                refine h_one 12 (by kernel_rfl) ?_
                refine hs_alloc [⟨b1, #[.int .i64 0, .int .i64 0, .int .i64 0, .int .i64 0, .string ⟨#[]⟩, .string ⟨#[]⟩, .bool false], 41⟩] _ (.agg #[.int .i64 0, .int .i64 0, .int .i64 0, .int .i64 0, .string ⟨#[]⟩, .string ⟨#[]⟩, .bool false]) rfl (by kernel_rfl) rfl (by kernel_rfl) (fun b2 => ?_)
                refine h_one 14 (by kernel_rfl) ?_
                refine hs_store [⟨b2, #[.int .i64 0, .int .i64 0, .int .i64 0, .int .i64 0, .string ⟨#[]⟩, .string ⟨#[]⟩, .bool false], 41⟩, ⟨b1, #[.int .i64 0, .int .i64 0, .int .i64 0, .int .i64 0, .string ⟨#[]⟩, .string ⟨#[]⟩, .bool false], 41⟩] _ 0 ⟨b2, #[.int .i64 0, .int .i64 0, .int .i64 0, .int .i64 0, .string ⟨#[]⟩, .string ⟨#[]⟩, .bool false], 41⟩ (off := 0) (cutV (minC s.lo u.lo)) rfl (by kernel_rfl) rfl rfl (by kernel_rfl) (by kernel_rfl) (by kernel_rfl) (by kernel_rfl) (by kernel_rfl) ?_
                refine h_one 15 (by kernel_rfl) ?_
                refine hs_store [⟨b2, (cutV (minC s.lo u.lo)).cells, 41⟩, ⟨b1, #[.int .i64 0, .int .i64 0, .int .i64 0, .int .i64 0, .string ⟨#[]⟩, .string ⟨#[]⟩, .bool false], 41⟩] _ 1 ⟨b1, #[.int .i64 0, .int .i64 0, .int .i64 0, .int .i64 0, .string ⟨#[]⟩, .string ⟨#[]⟩, .bool false], 41⟩ (off := 0) (cutV (maxC s.lo u.lo)) rfl (by kernel_rfl) rfl rfl (by kernel_rfl) (by kernel_rfl) (by kernel_rfl) (by kernel_rfl) (by kernel_rfl) ?_
                refine h_done (by kernel_rfl) ?_
                refine fin_swap ?_
                exact fin_join ⟨b2, b1, _, rfl, upds_self _ ⟨by kernel_rfl, by kernel_rfl, by kernel_rfl, by kernel_rfl, by kernel_rfl, trivial⟩⟩
              · skip
                refine hs_alloc [⟨b1, #[.int .i64 0, .int .i64 0, .int .i64 0, .int .i64 0, .string ⟨#[]⟩, .string ⟨#[]⟩, .bool false], 41⟩] _ (.agg #[.int .i64 0, .int .i64 0, .int .i64 0, .int .i64 0, .string ⟨#[]⟩, .string ⟨#[]⟩, .bool false]) rfl (by kernel_rfl) rfl (by kernel_rfl) (fun b2 => ?_)
                refine h_one 8 (by kernel_rfl) ?_
                refine hs_call [⟨b2, #[.int .i64 0, .int .i64 0, .int .i64 0, .int .i64 0, .string ⟨#[]⟩, .string ⟨#[]⟩, .bool false], 41⟩, ⟨b1, #[.int .i64 0, .int .i64 0, .int .i64 0, .int .i64 0, .string ⟨#[]⟩, .string ⟨#[]⟩, .bool false], 41⟩] _ (k := 33) (args := #[cutV s.lo, cutV u.lo]) (.tuple #[cutV (minC s.lo u.lo), cutV (maxC s.lo u.lo)]) rfl (by kernel_rfl) (fun _ => by kernel_rfl) (fun w _ => order_any s.lo u.lo w hsk.1 huk.1) ?_
                refine h_take 9 [⟨b2, #[.int .i64 0, .int .i64 0, .int .i64 0, .int .i64 0, .string ⟨#[]⟩, .string ⟨#[]⟩, .bool false], 41⟩, ⟨b1, #[.int .i64 0, .int .i64 0, .int .i64 0, .int .i64 0, .string ⟨#[]⟩, .string ⟨#[]⟩, .bool false], 41⟩] _ (.tuple #[cutV (minC s.lo u.lo), cutV (maxC s.lo u.lo)]) rfl (by kernel_rfl) (by kernel_rfl) (by kernel_rfl) pq_join (by kernel_rfl) (fun _ _ => by kernel_rfl) ?_
                refine h_take 10 [⟨b2, #[.int .i64 0, .int .i64 0, .int .i64 0, .int .i64 0, .string ⟨#[]⟩, .string ⟨#[]⟩, .bool false], 41⟩, ⟨b1, #[.int .i64 0, .int .i64 0, .int .i64 0, .int .i64 0, .string ⟨#[]⟩, .string ⟨#[]⟩, .bool false], 41⟩] _ (cutV (minC s.lo u.lo)) rfl (by kernel_rfl) (by kernel_rfl) (by kernel_rfl) pq_join (by kernel_rfl) (fun _ _ => by kernel_rfl) ?_
                refine h_take 11 [⟨b2, #[.int .i64 0, .int .i64 0, .int .i64 0, .int .i64 0, .string ⟨#[]⟩, .string ⟨#[]⟩, .bool false], 41⟩, ⟨b1, #[.int .i64 0, .int .i64 0, .int .i64 0, .int .i64 0, .string ⟨#[]⟩, .string ⟨#[]⟩, .bool false], 41⟩] _ (cutV (maxC s.lo u.lo)) rfl (by kernel_rfl) (by kernel_rfl) (by kernel_rfl) pq_join (by kernel_rfl) (fun _ _ => by kernel_rfl) ?_
                refine h_one 14 (by kernel_rfl) ?_
                refine hs_store [⟨b2, #[.int .i64 0, .int .i64 0, .int .i64 0, .int .i64 0, .string ⟨#[]⟩, .string ⟨#[]⟩, .bool false], 41⟩, ⟨b1, #[.int .i64 0, .int .i64 0, .int .i64 0, .int .i64 0, .string ⟨#[]⟩, .string ⟨#[]⟩, .bool false], 41⟩] _ 0 ⟨b2, #[.int .i64 0, .int .i64 0, .int .i64 0, .int .i64 0, .string ⟨#[]⟩, .string ⟨#[]⟩, .bool false], 41⟩ (off := 0) (cutV (minC s.lo u.lo)) rfl (by kernel_rfl) rfl rfl (by kernel_rfl) (by kernel_rfl) (by kernel_rfl) (by kernel_rfl) (by kernel_rfl) ?_
                refine h_one 15 (by kernel_rfl) ?_
                refine hs_store [⟨b2, (cutV (minC s.lo u.lo)).cells, 41⟩, ⟨b1, #[.int .i64 0, .int .i64 0, .int .i64 0, .int .i64 0, .string ⟨#[]⟩, .string ⟨#[]⟩, .bool false], 41⟩] _ 1 ⟨b1, #[.int .i64 0, .int .i64 0, .int .i64 0, .int .i64 0, .string ⟨#[]⟩, .string ⟨#[]⟩, .bool false], 41⟩ (off := 0) (cutV (maxC s.lo u.lo)) rfl (by kernel_rfl) rfl rfl (by kernel_rfl) (by kernel_rfl) (by kernel_rfl) (by kernel_rfl) (by kernel_rfl) ?_
                refine h_done (by kernel_rfl) ?_
                refine fin_swap ?_
                exact fin_join ⟨b2, b1, _, rfl, upds_self _ ⟨by kernel_rfl, by kernel_rfl, by kernel_rfl, by kernel_rfl, by kernel_rfl, trivial⟩⟩
          · rintro L f ⟨p6, p7, j, rfl, rfl⟩
            refine fin_seq ?_
            refine ok_seq ?_
            refine ok_join (fun L f => ∃ (p8 p9 : Nat) (j : Nat → Value), L = ⟨p9, (cutV (maxC s.hi u.hi)).cells, 41⟩ :: (⟨p8, (cutV (minC s.hi u.hi)).cells, 41⟩ :: (⟨p7, (cutV (maxC s.lo u.lo)).cells, 41⟩ :: (⟨p6, (cutV (minC s.lo u.lo)).cells, 41⟩ :: (ob)))) ∧ f = upds j [(0, .slice A1 a1.length c1), (1, .slice B1 b1.length c2), (5, v), (6, .pointer (some ⟨p6, 0, none⟩)), (7, .pointer (some ⟨p7, 0, none⟩)), (8, .pointer (some ⟨p8, 0, none⟩)), (9, .pointer (some ⟨p9, 0, none⟩))]) ?_ ?_
            · skip
              refine ok_anyh (by kernel_rfl) ?_
              refine h_take 0 [] _ (.slice A1 a1.length c1) rfl (by kernel_rfl) (by kernel_rfl) (by kernel_rfl) pq_join (by kernel_rfl) (fun _ _ => by kernel_rfl) ?_
              refine h_take 1 [] _ (.pointer (some ⟨ba, offa + 0 * 14, none⟩)) rfl (by kernel_rfl) (by kernel_rfl) (by kernel_rfl) pq_join (by kernel_rfl) (fun w _ => run_ixA (b := ba) (off := offa) (c := c1) (n := a1.length) (k := .i64) (j := 0) (e := 43) (sz := 14) rfl (by kernel_rfl) hA (by kernel_rfl) (by kernel_rfl) (by kernel_rfl) (by omega) (by omega) (by omega) w) ?_
              refine h_take 2 [] _ (.pointer (some ⟨ba, offa + 0 * 14 + 7, none⟩)) rfl (by kernel_rfl) (by kernel_rfl) (by kernel_rfl) pq_join (by kernel_rfl) (fun _ _ => by kernel_rfl) ?_
              refine hl_old 3 _ (a := ⟨ba, offa + 0 * 14 + 7, none⟩) (cutV s.hi) rfl (by kernel_rfl) (by kernel_rfl) (by kernel_rfl) pq_join (fun w hO => Own.sub [] hO) (by kernel_rfl) rfl (by kernel_rfl) (fun w hO => elem_load spanC_len (fun j u h => (hO.below.cell (p := ⟨ba, offa + j, none⟩) hlta).trans (hcela j u h)) 0 7 hka (by omega) _ (by rw [hs]; kernel_rfl)) ?_
              refine h_take 4 [] _ (.slice B1 b1.length c2) rfl (by kernel_rfl) (by kernel_rfl) (by kernel_rfl) pq_join (by kernel_rfl) (fun _ _ => by kernel_rfl) ?_
              refine h_take 5 [] _ (.pointer (some ⟨bb, offb + 0 * 14, none⟩)) rfl (by kernel_rfl) (by kernel_rfl) (by kernel_rfl) pq_join (by kernel_rfl) (fun w _ => run_ixA (b := bb) (off := offb) (c := c2) (n := b1.length) (k := .i64) (j := 0) (e := 43) (sz := 14) rfl (by kernel_rfl) hB (by kernel_rfl) (by kernel_rfl) (by kernel_rfl) (by omega) (by omega) (by omega) w) ?_
              refine h_take 6 [] _ (.pointer (some ⟨bb, offb + 0 * 14 + 7, none⟩)) rfl (by kernel_rfl) (by kernel_rfl) (by kernel_rfl) pq_join (by kernel_rfl) (fun _ _ => by kernel_rfl) ?_
              refine hl_old 7 _ (a := ⟨bb, offb + 0 * 14 + 7, none⟩) (cutV u.hi) rfl (by kernel_rfl) (by kernel_rfl) (by kernel_rfl) pq_join (fun w hO => Own.sub [] hO) (by kernel_rfl) rfl (by kernel_rfl) (fun w hO => elem_load spanC_len (fun j u h => (hO.below.cell (p := ⟨bb, offb + j, none⟩) hltb).trans (hcelb j u h)) 0 7 hkb (by omega) _ (by rw [hu1]; kernel_rfl)) ?_
              refine h_three 8 12 13 (by kernel_rfl) ?_ ?_ ?_
              · skip
                refine hs_call [] _ (k := 33) (args := #[cutV s.hi, cutV u.hi]) (.tuple #[cutV (minC s.hi u.hi), cutV (maxC s.hi u.hi)]) rfl (by kernel_rfl) (fun _ => by kernel_rfl) (fun w _ => order_any s.hi u.hi w hsk.2 huk.2) ?_
                refine h_take 9 [] _ (.tuple #[cutV (minC s.hi u.hi), cutV (maxC s.hi u.hi)]) rfl (by kernel_rfl) (by kernel_rfl) (by kernel_rfl) pq_join (by kernel_rfl) (fun _ _ => by kernel_rfl) ?_
                refine h_take 10 [] _ (cutV (minC s.hi u.hi)) rfl (by kernel_rfl) (by kernel_rfl) (by kernel_rfl) pq_join (by kernel_rfl) (fun _ _ => by kernel_rfl) ?_
                refine h_take 11 [] _ (cutV (maxC s.hi u.hi)) rfl (by kernel_rfl) (by kernel_rfl) (by kernel_rfl) pq_join (by kernel_rfl) (fun _ _ => by kernel_rfl) ?_
                refine h_two 12 13 (by kernel_rfl) ?_ ?_
                · skip
                  refine hs_alloc [] _ (.agg #[.int .i64 0, .int .i64 0, .int .i64 0, .int .i64 0, .string ⟨#[]⟩, .string ⟨#[]⟩, .bool false]) rfl (by kernel_rfl) rfl (by kernel_rfl) (fun b3 => ?_)
                  refine h_one 13 (by kernel_rfl) ?_
                  refine hs_alloc [⟨b3, #[.int .i64 0, .int .i64 0, .int .i64 0, .int .i64 0, .string ⟨#[]⟩, .string ⟨#[]⟩, .bool false], 41⟩] _ (.agg #[.int .i64 0, .int .i64 0, .int .i64 0, .int .i64 0, .string ⟨#[]⟩, .string ⟨#[]⟩, .bool false]) rfl (by kernel_rfl) rfl (by kernel_rfl) (fun b4 => ?_)
                  refine h_one 14 (by kernel_rfl) ?_
                  refine hs_store [⟨b4, #[.int .i64 0, .int .i64 0, .int .i64 0, .int .i64 0, .string ⟨#[]⟩, .string ⟨#[]⟩, .bool false], 41⟩, ⟨b3, #[.int .i64 0, .int .i64 0, .int .i64 0, .int .i64 0, .string ⟨#[]⟩, .string ⟨#[]⟩, .bool false], 41⟩] _ 1 ⟨b3, #[.int .i64 0, .int .i64 0, .int .i64 0, .int .i64 0, .string ⟨#[]⟩, .string ⟨#[]⟩, .bool false], 41⟩ (off := 0) (cutV (minC s.hi u.hi)) rfl (by kernel_rfl) rfl rfl (by kernel_rfl) (by kernel_rfl) (by kernel_rfl) (by kernel_rfl) (by kernel_rfl) ?_
                  refine h_one 15 (by kernel_rfl) ?_
                  refine hs_store [⟨b4, #[.int .i64 0, .int .i64 0, .int .i64 0, .int .i64 0, .string ⟨#[]⟩, .string ⟨#[]⟩, .bool false], 41⟩, ⟨b3, (cutV (minC s.hi u.hi)).cells, 41⟩] _ 0 ⟨b4, #[.int .i64 0, .int .i64 0, .int .i64 0, .int .i64 0, .string ⟨#[]⟩, .string ⟨#[]⟩, .bool false], 41⟩ (off := 0) (cutV (maxC s.hi u.hi)) rfl (by kernel_rfl) rfl rfl (by kernel_rfl) (by kernel_rfl) (by kernel_rfl) (by kernel_rfl) (by kernel_rfl) ?_
                  refine h_done (by kernel_rfl) ?_
                  exact fin_join ⟨b3, b4, _, rfl, upds_self _ ⟨by kernel_rfl, by kernel_rfl, by kernel_rfl, by kernel_rfl, by kernel_rfl, by kernel_rfl, by kernel_rfl, trivial⟩⟩
                · skip
                  refine hs_alloc [] _ (.agg #[.int .i64 0, .int .i64 0, .int .i64 0, .int .i64 0, .string ⟨#[]⟩, .string ⟨#[]⟩, .bool false]) rfl (by kernel_rfl) rfl (by kernel_rfl) (fun b3 => ?_)
                  refine h_one 12 (by kernel_rfl) ?_
                  refine hs_alloc [⟨b3, #[.int .i64 0, .int .i64 0, .int .i64 0, .int .i64 0, .string ⟨#[]⟩, .string ⟨#[]⟩, .bool false], 41⟩] _ (.agg #[.int .i64 0, .int .i64 0, .int .i64 0, .int .i64 0, .string ⟨#[]⟩, .string ⟨#[]⟩, .bool false]) rfl (by kernel_rfl) rfl (by kernel_rfl) (fun b4 => ?_)
                  refine h_one 14 (by kernel_rfl) ?_
                  refine hs_store [⟨b4, #[.int .i64 0, .int .i64 0, .int .i64 0, .int .i64 0, .string ⟨#[]⟩, .string ⟨#[]⟩, .bool false], 41⟩, ⟨b3, #[.int .i64 0, .int .i64 0, .int .i64 0, .int .i64 0, .string ⟨#[]⟩, .string ⟨#[]⟩, .bool false], 41⟩] _ 0 ⟨b4, #[.int .i64 0, .int .i64 0, .int .i64 0, .int .i64 0, .string ⟨#[]⟩, .string ⟨#[]⟩, .bool false], 41⟩ (off := 0) (cutV (minC s.hi u.hi)) rfl (by kernel_rfl) rfl rfl (by kernel_rfl) (by kernel_rfl) (by kernel_rfl) (by kernel_rfl) (by kernel_rfl) ?_
                  refine h_one 15 (by kernel_rfl) ?_
                  refine hs_store [⟨b4, (cutV (minC s.hi u.hi)).cells, 41⟩, ⟨b3, #[.int .i64 0, .int .i64 0, .int .i64 0, .int .i64 0, .string ⟨#[]⟩, .string ⟨#[]⟩, .bool false], 41⟩] _ 1 ⟨b3, #[.int .i64 0, .int .i64 0, .int .i64 0, .int .i64 0, .string ⟨#[]⟩, .string ⟨#[]⟩, .bool false], 41⟩ (off := 0) (cutV (maxC s.hi u.hi)) rfl (by kernel_rfl) rfl rfl (by kernel_rfl) (by kernel_rfl) (by kernel_rfl) (by kernel_rfl) (by kernel_rfl) ?_
                  refine h_done (by kernel_rfl) ?_
                  refine fin_swap ?_
                  exact fin_join ⟨b4, b3, _, rfl, upds_self _ ⟨by kernel_rfl, by kernel_rfl, by kernel_rfl, by kernel_rfl, by kernel_rfl, by kernel_rfl, by kernel_rfl, trivial⟩⟩
              · skip
                refine hs_alloc [] _ (.agg #[.int .i64 0, .int .i64 0, .int .i64 0, .int .i64 0, .string ⟨#[]⟩, .string ⟨#[]⟩, .bool false]) rfl (by kernel_rfl) rfl (by kernel_rfl) (fun b3 => ?_)
                refine h_two 8 13 (by kernel_rfl) ?_ ?_
                · skip
                  refine hs_call [⟨b3, #[.int .i64 0, .int .i64 0, .int .i64 0, .int .i64 0, .string ⟨#[]⟩, .string ⟨#[]⟩, .bool false], 41⟩] _ (k := 33) (args := #[cutV s.hi, cutV u.hi]) (.tuple #[cutV (minC s.hi u.hi), cutV (maxC s.hi u.hi)]) rfl (by kernel_rfl) (fun _ => by kernel_rfl) (fun w _ => order_any s.hi u.hi w hsk.2 huk.2) ?_
                  refine h_take 9 [⟨b3, #[.int .i64 0, .int .i64 0, .int .i64 0, .int .i64 0, .string ⟨#[]⟩, .string ⟨#[]⟩, .bool false], 41⟩] _ (.tuple #[cutV (minC s.hi u.hi), cutV (maxC s.hi u.hi)]) rfl (by kernel_rfl) (by kernel_rfl) (by kernel_rfl) pq_join (by kernel_rfl) (fun _ _ => by kernel_rfl) ?_
                  refine h_take 10 [⟨b3, #[.int .i64 0, .int .i64 0, .int .i64 0, .int .i64 0, .string ⟨#[]⟩, .string ⟨#[]⟩, .bool false], 41⟩] _ (cutV (minC s.hi u.hi)) rfl (by kernel_rfl) (by kernel_rfl) (by kernel_rfl) pq_join (by kernel_rfl) (fun _ _ => by kernel_rfl) ?_
                  refine h_take 11 [⟨b3, #[.int .i64 0, .int .i64 0, .int .i64 0, .int .i64 0, .string ⟨#[]⟩, .string ⟨#[]⟩, .bool false], 41⟩] _ (cutV (maxC s.hi u.hi)) rfl (by kernel_rfl) (by kernel_rfl) (by kernel_rfl) pq_join (by kernel_rfl) (fun _ _ => by kernel_rfl) ?_
                  refine h_one 13 (by kernel_rfl) ?_
                  refine hs_alloc [⟨b3, #[.int .i64 0, .int .i64 0, .int .i64 0, .int .i64 0, .string ⟨#[]⟩, .string ⟨#[]⟩, .bool false], 41⟩] _ (.agg #[.int .i64 0, .int .i64 0, .int .i64 0, .int .i64 0, .string ⟨#[]⟩, .string ⟨#[]⟩, .bool false]) rfl (by kernel_rfl) rfl (by kernel_rfl) (fun b4 => ?_)
                  refine h_one 14 (by kernel_rfl) ?_
                  refine hs_store [⟨b4, #[.int .i64 0, .int .i64 0, .int .i64 0, .int .i64 0, .string ⟨#[]⟩, .string ⟨#[]⟩, .bool false], 41⟩, ⟨b3, #[.int .i64 0, .int .i64 0, .int .i64 0, .int .i64 0, .string ⟨#[]⟩, .string ⟨#[]⟩, .bool false], 41⟩] _ 1 ⟨b3, #[.int .i64 0, .int .i64 0, .int .i64 0, .int .i64 0, .string ⟨#[]⟩, .string ⟨#[]⟩, .bool false], 41⟩ (off := 0) (cutV (minC s.hi u.hi)) rfl (by kernel_rfl) rfl rfl (by kernel_rfl) (by kernel_rfl) (by kernel_rfl) (by kernel_rfl) (by kernel_rfl) ?_
                  refine h_one 15 (by kernel_rfl) ?_
                  refine hs_store [⟨b4, #[.int .i64 0, .int .i64 0, .int .i64 0, .int .i64 0, .string ⟨#[]⟩, .string ⟨#[]⟩, .bool false], 41⟩, ⟨b3, (cutV (minC s.hi u.hi)).cells, 41⟩] _ 0 ⟨b4, #[.int .i64 0, .int .i64 0, .int .i64 0, .int .i64 0, .string ⟨#[]⟩, .string ⟨#[]⟩, .bool false], 41⟩ (off := 0) (cutV (maxC s.hi u.hi)) rfl (by kernel_rfl) rfl rfl (by kernel_rfl) (by kernel_rfl) (by kernel_rfl) (by kernel_rfl) (by kernel_rfl) ?_
                  refine h_done (by kernel_rfl) ?_
                  exact fin_join ⟨b3, b4, _, rfl, upds_self _ ⟨by kernel_rfl, by kernel_rfl, by kernel_rfl, by kernel_rfl, by kernel_rfl, by kernel_rfl, by kernel_rfl, trivial⟩⟩
                · skip
                  refine hs_alloc [⟨b3, #[.int .i64 0, .int .i64 0, .int .i64 0, .int .i64 0, .string ⟨#[]⟩, .string ⟨#[]⟩, .bool false], 41⟩] _ (.agg #[.int .i64 0, .int .i64 0, .int .i64 0, .int .i64 0, .string ⟨#[]⟩, .string ⟨#[]⟩, .bool false]) rfl (by kernel_rfl) rfl (by kernel_rfl) (fun b4 => ?_)
                  refine h_one 8 (by kernel_rfl) ?_
                  refine hs_call [⟨b4, #[.int .i64 0, .int .i64 0, .int .i64 0, .int .i64 0, .string ⟨#[]⟩, .string ⟨#[]⟩, .bool false], 41⟩, ⟨b3, #[.int .i64 0, .int .i64 0, .int .i64 0, .int .i64 0, .string ⟨#[]⟩, .string ⟨#[]⟩, .bool false], 41⟩] _ (k := 33) (args := #[cutV s.hi, cutV u.hi]) (.tuple #[cutV (minC s.hi u.hi), cutV (maxC s.hi u.hi)]) rfl (by kernel_rfl) (fun _ => by kernel_rfl) (fun w _ => order_any s.hi u.hi w hsk.2 huk.2) ?_
                  refine h_take 9 [⟨b4, #[.int .i64 0, .int .i64 0, .int .i64 0, .int .i64 0, .string ⟨#[]⟩, .string ⟨#[]⟩, .bool false], 41⟩, ⟨b3, #[.int .i64 0, .int .i64 0, .int .i64 0, .int .i64 0, .string ⟨#[]⟩, .string ⟨#[]⟩, .bool false], 41⟩] _ (.tuple #[cutV (minC s.hi u.hi), cutV (maxC s.hi u.hi)]) rfl (by kernel_rfl) (by kernel_rfl) (by kernel_rfl) pq_join (by kernel_rfl) (fun _ _ => by kernel_rfl) ?_
                  refine h_take 10 [⟨b4, #[.int .i64 0, .int .i64 0, .int .i64 0, .int .i64 0, .string ⟨#[]⟩, .string ⟨#[]⟩, .bool false], 41⟩, ⟨b3, #[.int .i64 0, .int .i64 0, .int .i64 0, .int .i64 0, .string ⟨#[]⟩, .string ⟨#[]⟩, .bool false], 41⟩] _ (cutV (minC s.hi u.hi)) rfl (by kernel_rfl) (by kernel_rfl) (by kernel_rfl) pq_join (by kernel_rfl) (fun _ _ => by kernel_rfl) ?_
                  refine h_take 11 [⟨b4, #[.int .i64 0, .int .i64 0, .int .i64 0, .int .i64 0, .string ⟨#[]⟩, .string ⟨#[]⟩, .bool false], 41⟩, ⟨b3, #[.int .i64 0, .int .i64 0, .int .i64 0, .int .i64 0, .string ⟨#[]⟩, .string ⟨#[]⟩, .bool false], 41⟩] _ (cutV (maxC s.hi u.hi)) rfl (by kernel_rfl) (by kernel_rfl) (by kernel_rfl) pq_join (by kernel_rfl) (fun _ _ => by kernel_rfl) ?_
                  refine h_one 14 (by kernel_rfl) ?_
                  refine hs_store [⟨b4, #[.int .i64 0, .int .i64 0, .int .i64 0, .int .i64 0, .string ⟨#[]⟩, .string ⟨#[]⟩, .bool false], 41⟩, ⟨b3, #[.int .i64 0, .int .i64 0, .int .i64 0, .int .i64 0, .string ⟨#[]⟩, .string ⟨#[]⟩, .bool false], 41⟩] _ 1 ⟨b3, #[.int .i64 0, .int .i64 0, .int .i64 0, .int .i64 0, .string ⟨#[]⟩, .string ⟨#[]⟩, .bool false], 41⟩ (off := 0) (cutV (minC s.hi u.hi)) rfl (by kernel_rfl) rfl rfl (by kernel_rfl) (by kernel_rfl) (by kernel_rfl) (by kernel_rfl) (by kernel_rfl) ?_
                  refine h_one 15 (by kernel_rfl) ?_
                  refine hs_store [⟨b4, #[.int .i64 0, .int .i64 0, .int .i64 0, .int .i64 0, .string ⟨#[]⟩, .string ⟨#[]⟩, .bool false], 41⟩, ⟨b3, (cutV (minC s.hi u.hi)).cells, 41⟩] _ 0 ⟨b4, #[.int .i64 0, .int .i64 0, .int .i64 0, .int .i64 0, .string ⟨#[]⟩, .string ⟨#[]⟩, .bool false], 41⟩ (off := 0) (cutV (maxC s.hi u.hi)) rfl (by kernel_rfl) rfl rfl (by kernel_rfl) (by kernel_rfl) (by kernel_rfl) (by kernel_rfl) (by kernel_rfl) ?_
                  refine h_done (by kernel_rfl) ?_
                  exact fin_join ⟨b3, b4, _, rfl, upds_self _ ⟨by kernel_rfl, by kernel_rfl, by kernel_rfl, by kernel_rfl, by kernel_rfl, by kernel_rfl, by kernel_rfl, trivial⟩⟩
              · skip
                refine hs_alloc [] _ (.agg #[.int .i64 0, .int .i64 0, .int .i64 0, .int .i64 0, .string ⟨#[]⟩, .string ⟨#[]⟩, .bool false]) rfl (by kernel_rfl) rfl (by kernel_rfl) (fun b3 => ?_)
                refine h_two 8 12 (by kernel_rfl) ?_ ?_
                · skip
                  refine hs_call [⟨b3, #[.int .i64 0, .int .i64 0, .int .i64 0, .int .i64 0, .string ⟨#[]⟩, .string ⟨#[]⟩, .bool false], 41⟩] _ (k := 33) (args := #[cutV s.hi, cutV u.hi]) (.tuple #[cutV (minC s.hi u.hi), cutV (maxC s.hi u.hi)]) rfl (by kernel_rfl) (fun _ => by kernel_rfl) (fun w _ => order_any s.hi u.hi w hsk.2 huk.2) ?_
                  refine h_take 9 [⟨b3, #[.int .i64 0, .int .i64 0, .int .i64 0, .int .i64 0, .string ⟨#[]⟩, .string ⟨#[]⟩, .bool false], 41⟩] _ (.tuple #[cutV (minC s.hi u.hi), cutV (maxC s.hi u.hi)]) rfl (by kernel_rfl) (by kernel_rfl) (by kernel_rfl) pq_join (by kernel_rfl) (fun _ _ => by kernel_rfl) ?_
                  refine h_take 10 [⟨b3, #[.int .i64 0, .int .i64 0, .int .i64 0, .int .i64 0, .string ⟨#[]⟩, .string ⟨#[]⟩, .bool false], 41⟩] _ (cutV (minC s.hi u.hi)) rfl (by kernel_rfl) (by kernel_rfl) (by kernel_rfl) pq_join (by kernel_rfl) (fun _ _ => by kernel_rfl) ?_
                  refine h_take 11 [⟨b3, #[.int .i64 0, .int .i64 0, .int .i64 0, .int .i64 0, .string ⟨#[]⟩, .string ⟨#[]⟩, .bool false], 41⟩] _ (cutV (maxC s.hi u.hi)) rfl (by kernel_rfl) (by kernel_rfl) (by kernel_rfl) pq_join (by kernel_rfl) (fun _ _ => by kernel_rfl) ?_
                  refine h_one 12 (by kernel_rfl) ?_
                  refine hs_alloc [⟨b3, #[.int .i64 0, .int .i64 0, .int .i64 0, .int .i64 0, .string ⟨#[]⟩, .string ⟨#[]⟩, .bool false], 41⟩] _ (.agg #[.int .i64 0, .int .i64 0, .int .i64 0, .int .i64 0, .string ⟨#[]⟩, .string ⟨#[]⟩, .bool false]) rfl (by kernel_rfl) rfl (by kernel_rfl) (fun b4 => ?_)
                  refine h_one 14 (by kernel_rfl) ?_
                  refine hs_store [⟨b4, #[.int .i64 0, .int .i64 0, .int .i64 0, .int .i64 0, .string ⟨#[]⟩, .string ⟨#[]⟩, .bool false], 41⟩, ⟨b3, #[.int .i64 0, .int .i64 0, .int .i64 0, .int .i64 0, .string ⟨#[]⟩, .string ⟨#[]⟩, .bool false], 41⟩] _ 0 ⟨b4, #[.int .i64 0, .int .i64 0, .int .i64 0, .int .i64 0, .string ⟨#[]⟩, .string ⟨#[]⟩, .bool false], 41⟩ (off := 0) (cutV (minC s.hi u.hi)) rfl (by kernel_rfl) rfl rfl (by kernel_rfl) (by kernel_rfl) (by kernel_rfl) (by kernel_rfl) (by kernel_rfl) ?_
                  refine h_one 15 (by kernel_rfl) ?_
                  refine hs_store [⟨b4, (cutV (minC s.hi u.hi)).cells, 41⟩, ⟨b3, #[.int .i64 0, .int .i64 0, .int .i64 0, .int .i64 0, .string ⟨#[]⟩, .string ⟨#[]⟩, .bool false], 41⟩] _ 1 ⟨b3, #[.int .i64 0, .int .i64 0, .int .i64 0, .int .i64 0, .string ⟨#[]⟩, .string ⟨#[]⟩, .bool false], 41⟩ (off := 0) (cutV (maxC s.hi u.hi)) rfl (by kernel_rfl) rfl rfl (by kernel_rfl) (by kernel_rfl) (by kernel_rfl) (by kernel_rfl) (by kernel_rfl) ?_
                  refine h_done (by kernel_rfl) ?_
                  refine fin_swap ?_
                  exact fin_join ⟨b4, b3, _, rfl, upds_self _ ⟨by kernel_rfl, by kernel_rfl, by kernel_rfl, by kernel_rfl, by kernel_rfl, by kernel_rfl, by kernel_rfl, trivial⟩⟩
                · skip
                  refine hs_alloc [⟨b3, #[.int .i64 0, .int .i64 0, .int .i64 0, .int .i64 0, .string ⟨#[]⟩, .string ⟨#[]⟩, .bool false], 41⟩] _ (.agg #[.int .i64 0, .int .i64 0, .int .i64 0, .int .i64 0, .string ⟨#[]⟩, .string ⟨#[]⟩, .bool false]) rfl (by kernel_rfl) rfl (by kernel_rfl) (fun b4 => ?_)
                  refine h_one 8 (by kernel_rfl) ?_
                  refine hs_call [⟨b4, #[.int .i64 0, .int .i64 0, .int .i64 0, .int .i64 0, .string ⟨#[]⟩, .string ⟨#[]⟩, .bool false], 41⟩, ⟨b3, #[.int .i64 0, .int .i64 0, .int .i64 0, .int .i64 0, .string ⟨#[]⟩, .string ⟨#[]⟩, .bool false], 41⟩] _ (k := 33) (args := #[cutV s.hi, cutV u.hi]) (.tuple #[cutV (minC s.hi u.hi), cutV (maxC s.hi u.hi)]) rfl (by kernel_rfl) (fun _ => by kernel_rfl) (fun w _ => order_any s.hi u.hi w hsk.2 huk.2) ?_
                  refine h_take 9 [⟨b4, #[.int .i64 0, .int .i64 0, .int .i64 0, .int .i64 0, .string ⟨#[]⟩, .string ⟨#[]⟩, .bool false], 41⟩, ⟨b3, #[.int .i64 0, .int .i64 0, .int .i64 0, .int .i64 0, .string ⟨#[]⟩, .string ⟨#[]⟩, .bool false], 41⟩] _ (.tuple #[cutV (minC s.hi u.hi), cutV (maxC s.hi u.hi)]) rfl (by kernel_rfl) (by kernel_rfl) (by kernel_rfl) pq_join (by kernel_rfl) (fun _ _ => by kernel_rfl) ?_
                  refine h_take 10 [⟨b4, #[.int .i64 0, .int .i64 0, .int .i64 0, .int .i64 0, .string ⟨#[]⟩, .string ⟨#[]⟩, .bool false], 41⟩, ⟨b3, #[.int .i64 0, .int .i64 0, .int .i64 0, .int .i64 0, .string ⟨#[]⟩, .string ⟨#[]⟩, .bool false], 41⟩] _ (cutV (minC s.hi u.hi)) rfl (by kernel_rfl) (by kernel_rfl) (by kernel_rfl) pq_join (by kernel_rfl) (fun _ _ => by kernel_rfl) ?_
                  refine h_take 11 [⟨b4, #[.int .i64 0, .int .i64 0, .int .i64 0, .int .i64 0, .string ⟨#[]⟩, .string ⟨#[]⟩, .bool false], 41⟩, ⟨b3, #[.int .i64 0, .int .i64 0, .int .i64 0, .int .i64 0, .string ⟨#[]⟩, .string ⟨#[]⟩, .bool false], 41⟩] _ (cutV (maxC s.hi u.hi)) rfl (by kernel_rfl) (by kernel_rfl) (by kernel_rfl) pq_join (by kernel_rfl) (fun _ _ => by kernel_rfl) ?_
                  refine h_one 14 (by kernel_rfl) ?_
                  refine hs_store [⟨b4, #[.int .i64 0, .int .i64 0, .int .i64 0, .int .i64 0, .string ⟨#[]⟩, .string ⟨#[]⟩, .bool false], 41⟩, ⟨b3, #[.int .i64 0, .int .i64 0, .int .i64 0, .int .i64 0, .string ⟨#[]⟩, .string ⟨#[]⟩, .bool false], 41⟩] _ 0 ⟨b4, #[.int .i64 0, .int .i64 0, .int .i64 0, .int .i64 0, .string ⟨#[]⟩, .string ⟨#[]⟩, .bool false], 41⟩ (off := 0) (cutV (minC s.hi u.hi)) rfl (by kernel_rfl) rfl rfl (by kernel_rfl) (by kernel_rfl) (by kernel_rfl) (by kernel_rfl) (by kernel_rfl) ?_
                  refine h_one 15 (by kernel_rfl) ?_
                  refine hs_store [⟨b4, (cutV (minC s.hi u.hi)).cells, 41⟩, ⟨b3, #[.int .i64 0, .int .i64 0, .int .i64 0, .int .i64 0, .string ⟨#[]⟩, .string ⟨#[]⟩, .bool false], 41⟩] _ 1 ⟨b3, #[.int .i64 0, .int .i64 0, .int .i64 0, .int .i64 0, .string ⟨#[]⟩, .string ⟨#[]⟩, .bool false], 41⟩ (off := 0) (cutV (maxC s.hi u.hi)) rfl (by kernel_rfl) rfl rfl (by kernel_rfl) (by kernel_rfl) (by kernel_rfl) (by kernel_rfl) (by kernel_rfl) ?_
                  refine h_done (by kernel_rfl) ?_
                  refine fin_swap ?_
                  exact fin_join ⟨b4, b3, _, rfl, upds_self _ ⟨by kernel_rfl, by kernel_rfl, by kernel_rfl, by kernel_rfl, by kernel_rfl, by kernel_rfl, by kernel_rfl, trivial⟩⟩
            · rintro L f ⟨p8, p9, j, rfl, rfl⟩
              refine fin_seq ?_
              refine ok_seq ?_
              refine ok_region ?_
              refine s_val (v) (by kernel_rfl) (fun _ => by kernel_rfl) ?_
              refine s_load 2 ⟨p7, (cutV (maxC s.lo u.lo)).cells, 41⟩ (off := 0) (cutV (maxC s.lo u.lo)) (by kernel_rfl) rfl (by kernel_rfl) (by kernel_rfl) (by kernel_rfl) ?_
              refine s_load 1 ⟨p8, (cutV (minC s.hi u.hi)).cells, 41⟩ (off := 0) (cutV (minC s.hi u.hi)) (by kernel_rfl) rfl (by kernel_rfl) (by kernel_rfl) (by kernel_rfl) ?_
              refine s_callo (k := 34) (args := #[v, cutV (maxC s.lo u.lo), cutV (minC s.hi u.hi)]) (fun v' L' => ∃ ob', L' = [⟨p9, (cutV (maxC s.hi u.hi)).cells, 41⟩, ⟨p8, (cutV (minC s.hi u.hi)).cells, 41⟩, ⟨p7, (cutV (maxC s.lo u.lo)).cells, 41⟩, ⟨p6, (cutV (minC s.lo u.lo)).cells, 41⟩] ++ ob' ∧ SlS v' (addL out (maxC s.lo u.lo) (minC s.hi u.hi)) ob') (by kernel_rfl) (fun _ => by kernel_rfl) (fun w hO => add_call (E := [⟨p9, (cutV (maxC s.hi u.hi)).cells, 41⟩, ⟨p8, (cutV (minC s.hi u.hi)).cells, 41⟩, ⟨p7, (cutV (maxC s.lo u.lo)).cells, 41⟩, ⟨p6, (cutV (minC s.lo u.lo)).cells, 41⟩]) (maxC s.lo u.lo) (minC s.hi u.hi) hO hrel.sl (by omega) hrel.so (maxC_short hsk.1 huk.1) (minC_short hsk.2 huk.2)) (fun v2 L2 hv2 => ?_)
              obtain ⟨ob2, rfl, hs2⟩ := hv2
              refine s_val (v2) (by kernel_rfl) (fun _ => by kernel_rfl) ?_
              refine s_nil ?_
              refine fin_seq ?_
              refine ok_seq ?_
              refine ok_draw (by kernel_rfl) (by kernel_rfl) ?_
              refine q_val (.slice A1 a1.length c1) (by kernel_rfl) (fun _ => by kernel_rfl) ?_
              refine q_val (.pointer (some ⟨ba, offa + 0 * 14, none⟩)) (by kernel_rfl) (run_ixA (b := ba) (off := offa) (c := c1) (n := a1.length) (k := .i64) (j := 0) (e := 43) (sz := 14) rfl (by kernel_rfl) hA (by kernel_rfl) (by kernel_rfl) (by kernel_rfl) (by omega) (by omega) (by omega)) ?_
              refine q_val (.pointer (some ⟨ba, offa + 0 * 14 + 7, none⟩)) (by kernel_rfl) (fun _ => by kernel_rfl) ?_
              refine q_old (cutV s.hi) (a := ⟨ba, offa + 0 * 14 + 7, none⟩) (by kernel_rfl) rfl (by kernel_rfl) (fun w hO => elem_load spanC_len (fun j u h => (hO.below.cell (p := ⟨ba, offa + j, none⟩) hlta).trans (hcela j u h)) 0 7 hka (by omega) _ (by rw [hs]; kernel_rfl)) ?_
              refine q_load 1 ⟨p8, (cutV (minC s.hi u.hi)).cells, 41⟩ (off := 0) (cutV (minC s.hi u.hi)) (by kernel_rfl) rfl (by kernel_rfl) (by kernel_rfl) (by kernel_rfl) ?_
              by_cases h5 : s.hi = minC s.hi u.hi
              · skip
                refine q_val (.bool true) (by kernel_rfl) (op_eq_cut (u := s.hi) (v := minC s.hi u.hi) rfl (by kernel_rfl) (by kernel_rfl) (decide_eq_true (h5))) ?_
                refine q_nil ?_
                refine fin_seq ?_
                refine ok_true (by kernel_rfl) ?_
                refine ok_region ?_
                refine s_val (.slice A1 a1.length c1) (by kernel_rfl) (fun _ => by kernel_rfl) ?_
                refine s_val (.slice (some ⟨ba, offa + (if c1 = (1 : Int).toNat then 0 else (1 : Int).toNat * 14), none⟩) (a1.length - (1 : Int).toNat) (c1 - (1 : Int).toNat)) (by kernel_rfl) (run_sllA (n := a1.length) (c := c1) (k := .i64) (j := 1) (e := 43) (sz := 14) rfl (by kernel_rfl) hA (by kernel_rfl) (by kernel_rfl) (by kernel_rfl) (by omega) (by omega)) ?_
                refine s_val (.slice (some ⟨ba, offa + (if c1 = (1 : Int).toNat then 0 else (1 : Int).toNat * 14), none⟩) (a1.length - (1 : Int).toNat) (c1 - (1 : Int).toNat)) (by kernel_rfl) (fun _ => by kernel_rfl) ?_
                refine s_nil ?_
                refine fin_block ?_
                refine fin_take (L' := ob2 ++ []) (fun w hO => by rw [List.append_nil]; exact Own.sub [_, _, _, _] hO) ?_
                have hd1 : (a1.drop 1).length = a1.length - 1 := List.length_drop
                exact fin_round (m' := (a1.drop 1).length + b1.length) (by omega) ⟨some ⟨ba, offa + (if c1 = (1 : Int).toNat then 0 else (1 : Int).toNat * 14), none⟩, B1, a1.length - (1 : Int).toNat, b1.length, c1 - (1 : Int).toNat, c2, n - 1, a1.drop 1, b1, v2, addL out (maxC s.lo u.lo) (minC s.hi u.hi), ob2, _, ⟨by rw [List.length_drop]; rfl, rfl, hrel.stepA hka hkb hs hu1 hA (by assumption) hs2⟩, rfl, upds_self _ ⟨by kernel_rfl, by kernel_rfl, by kernel_rfl, trivial⟩, rfl⟩
              · skip
                refine q_val (.bool false) (by kernel_rfl) (op_eq_cut (u := s.hi) (v := minC s.hi u.hi) rfl (by kernel_rfl) (by kernel_rfl) (decide_eq_false (h5))) ?_
                refine q_nil ?_
                refine fin_seq ?_
                refine ok_false (by kernel_rfl) ?_
                refine ok_region ?_
                refine s_val (.slice B1 b1.length c2) (by kernel_rfl) (fun _ => by kernel_rfl) ?_
                refine s_val (.slice (some ⟨bb, offb + (if c2 = (1 : Int).toNat then 0 else (1 : Int).toNat * 14), none⟩) (b1.length - (1 : Int).toNat) (c2 - (1 : Int).toNat)) (by kernel_rfl) (run_sllA (n := b1.length) (c := c2) (k := .i64) (j := 1) (e := 43) (sz := 14) rfl (by kernel_rfl) hB (by kernel_rfl) (by kernel_rfl) (by kernel_rfl) (by omega) (by omega)) ?_
                refine s_val (.slice (some ⟨bb, offb + (if c2 = (1 : Int).toNat then 0 else (1 : Int).toNat * 14), none⟩) (b1.length - (1 : Int).toNat) (c2 - (1 : Int).toNat)) (by kernel_rfl) (fun _ => by kernel_rfl) ?_
                refine s_nil ?_
                refine fin_block ?_
                refine fin_take (L' := ob2 ++ []) (fun w hO => by rw [List.append_nil]; exact Own.sub [_, _, _, _] hO) ?_
                have hd1 : (b1.drop 1).length = b1.length - 1 := List.length_drop
                exact fin_round (m' := a1.length + (b1.drop 1).length) (by omega) ⟨A1, some ⟨bb, offb + (if c2 = (1 : Int).toNat then 0 else (1 : Int).toNat * 14), none⟩, a1.length, b1.length - (1 : Int).toNat, c1, c2 - (1 : Int).toNat, n - 1, a1, b1.drop 1, v2, addL out (maxC s.lo u.lo) (minC s.hi u.hi), ob2, _, ⟨rfl, by rw [List.length_drop]; rfl, hrel.stepB hka hkb hs hu1 hB (by assumption) hs2⟩, rfl, upds_self _ ⟨by kernel_rfl, by kernel_rfl, by kernel_rfl, trivial⟩, rfl⟩
        · skip
          refine s_dec (p := (0 : Int) < (b1.length : Int)) false (by kernel_rfl) (fun _ => by kernel_rfl) (decide_eq_false (h4)) ?_
          refine s_val (.bool false) (by kernel_rfl) (fun _ => by kernel_rfl) ?_
          refine s_nil ?_
          refine fin_seq ?_
          refine ok_false (by kernel_rfl) ?_
          refine ok_exit ?_
          refine fin_seq_exit ?_
          refine fin_round_exit ?_
          refine fin_block_exit ?_
          refine fin_seq ?_
          refine ok_seq ?_
          refine ok_region ?_
          refine s_val (v) (by kernel_rfl) (fun _ => by kernel_rfl) ?_
          refine s_callo (k := 35) (args := #[v]) (fun v' L' => SlS v' out L') (by kernel_rfl) (fun _ => by kernel_rfl) (fun w hO => (unshare_call (E := []) hO hrel.sl (by omega) hrel.so).mono fun e w' ⟨v', L', k1, ⟨ob', k2, k3⟩, k4⟩ => ⟨v', L', k1, by subst k2; exact k3, k4⟩) (fun v4 ob4 hs4 => ?_)
          refine s_val (v4) (by kernel_rfl) (fun _ => by kernel_rfl) ?_
          refine s_nil ?_
          refine fin_seq ?_
          refine ok_ret ?_
          refine fin_ret (v4) Tryz.results16 (by kernel_rfl) ?_
          exact fun w hO => ⟨v4, ob4, rfl, by rw [if_pos (by simp), ← andG_eq (by assumption) (by assumption), hrel.eq, andG_end (by omega)]; exact hs4, hO⟩
      · skip
        refine s_dec (p := (0 : Int) < (a1.length : Int)) false (by kernel_rfl) (fun _ => by kernel_rfl) (decide_eq_false (h3)) ?_
        refine s_val (.bool false) (by kernel_rfl) (fun _ => by kernel_rfl) ?_
        refine s_skip (by kernel_rfl) ?_
        refine s_skip (by kernel_rfl) ?_
        refine s_skip (by kernel_rfl) ?_
        refine s_val (.bool false) (by kernel_rfl) (fun _ => by kernel_rfl) ?_
        refine s_nil ?_
        refine fin_seq ?_
        refine ok_false (by kernel_rfl) ?_
        refine ok_exit ?_
        refine fin_seq_exit ?_
        refine fin_round_exit ?_
        refine fin_block_exit ?_
        refine fin_seq ?_
        refine ok_seq ?_
        refine ok_region ?_
        refine s_val (v) (by kernel_rfl) (fun _ => by kernel_rfl) ?_
        refine s_callo (k := 35) (args := #[v]) (fun v' L' => SlS v' out L') (by kernel_rfl) (fun _ => by kernel_rfl) (fun w hO => (unshare_call (E := []) hO hrel.sl (by omega) hrel.so).mono fun e w' ⟨v', L', k1, ⟨ob', k2, k3⟩, k4⟩ => ⟨v', L', k1, by subst k2; exact k3, k4⟩) (fun v4 ob4 hs4 => ?_)
        refine s_val (v4) (by kernel_rfl) (fun _ => by kernel_rfl) ?_
        refine s_nil ?_
        refine fin_seq ?_
        refine ok_ret ?_
        refine fin_ret (v4) Tryz.results16 (by kernel_rfl) ?_
        exact fun w hO => ⟨v4, ob4, rfl, by rw [if_pos (by simp), ← andG_eq (by assumption) (by assumption), hrel.eq, andG_end (by omega)]; exact hs4, hO⟩
    | false =>
      refine s_val (.bool true) (by kernel_rfl) (fun _ => by kernel_rfl) ?_
      refine s_val (.bool true) (by kernel_rfl) (fun _ => by kernel_rfl) ?_
      refine s_nil ?_
      refine fin_seq ?_
      refine ok_true (by kernel_rfl) ?_
      refine ok_seq ?_
      refine ok_region ?_
      refine s_val (.slice none 0 0) (by kernel_rfl) (fun _ => by kernel_rfl) ?_
      refine s_nil ?_
      refine fin_seq ?_
      refine ok_ret ?_
      refine fin_seq_ret ?_
      refine fin_ret (.slice none 0 0) Tryz.results16 (by kernel_rfl) ?_
      exact fun w hO => ⟨_, [], rfl, by rw [if_neg (by simp)]; exact Sl.nil _ _, by simpa using hO⟩
  | false =>
    refine s_val (.bool true) (by kernel_rfl) (fun _ => by kernel_rfl) ?_
    refine s_val (.bool true) (by kernel_rfl) (fun _ => by kernel_rfl) ?_
    refine s_skip (by kernel_rfl) ?_
    refine s_skip (by kernel_rfl) ?_
    refine s_skip (by kernel_rfl) ?_
    refine s_val (.bool true) (by kernel_rfl) (fun _ => by kernel_rfl) ?_
    refine s_nil ?_
    refine fin_seq ?_
    refine ok_true (by kernel_rfl) ?_
    refine ok_seq ?_
    refine ok_region ?_
    refine s_val (.slice none 0 0) (by kernel_rfl) (fun _ => by kernel_rfl) ?_
    refine s_nil ?_
    refine fin_seq ?_
    refine ok_ret ?_
    refine fin_seq_ret ?_
    refine fin_ret (.slice none 0 0) Tryz.results16 (by kernel_rfl) ?_
    exact fun w hO => ⟨_, [], rfl, by rw [if_neg (by simp)]; exact Sl.nil _ _, by simpa using hO⟩
theorem andG_grow : ∀ (n : Nat) (out a b : List Sp), (andG n out a b).length ≤ out.length + n
  | 0, out, a, b => by cases a <;> cases b <;> exact Nat.le_refl _
  | n + 1, out, [], b => by show out.length ≤ _; omega
  | n + 1, out, s :: a, [] => by show out.length ≤ _; omega
  | n + 1, out, s :: a, u :: b => by
    unfold andG
    have := add_len out (maxC s.lo u.lo) (minC s.hi u.hi)
    split
    · have := andG_grow n (addL out (maxC s.lo u.lo) (minC s.hi u.hi)) a (u :: b); omega
    · have := andG_grow n (addL out (maxC s.lo u.lo) (minC s.hi u.hi)) (s :: a) b; omega
theorem andG_len {n : Nat} {a b : List Sp} (h : n ≤ 200000) : (andG n [] a b).length ≤ 200000 := by
  have := andG_grow n [] a b
  simp at this; omega
theorem within4_any (A B : Option Addr) (cap capb : Nat) (a b : List Sp) (W : World) (hv : Reads spanC W W.heap.size A a) (hu : Reads spanC W W.heap.size B b) (hn : a.length ≤ 100000) (hm : b.length ≤ 100000) (ha : ShortL a) (hb : ShortL b) (hca : a.length ≤ cap) (hcb : b.length ≤ capb) :
    Calls Tryz.prog 18 #[.slice A a.length cap, .slice B b.length capb] W fun e w' => e = .returned (.bool (rowMay a && rowMay b && decide (andL a b = a))) ∧ Below W.heap.size W w' := by
  refine calls_ok (n := 18) Tryz.func18 rfl (by kernel_rfl) (by kernel_rfl) ?_
  refine ok_seq ?_
  refine ok_region ?_
  refine s_val (.bool false) (by kernel_rfl) (fun _ => by kernel_rfl) ?_
  refine s_nil ?_
  refine fin_seq ?_
  refine ok_seq ?_
  refine ok_region ?_
  refine s_val (.slice A a.length cap) (by kernel_rfl) (fun _ => by kernel_rfl) ?_
  refine s_call (k := 23) (args := #[.slice A a.length cap]) (.bool (rowMay a)) (by kernel_rfl) (fun _ => by kernel_rfl) (fun w hO => may4_any A cap a w (hv.on hO.below hO.size) (by omega) ha) ?_
  refine s_val (.bool (rowMay a)) (by kernel_rfl) (fun _ => by kernel_rfl) ?_
  cases h1 : rowMay a with
  | true =>
    refine s_val (.slice B b.length capb) (by kernel_rfl) (fun _ => by kernel_rfl) ?_
    refine s_call (k := 23) (args := #[.slice B b.length capb]) (.bool (rowMay b)) (by kernel_rfl) (fun _ => by kernel_rfl) (fun w hO => may4_any B capb b w (hu.on hO.below hO.size) (by omega) hb) ?_
    refine s_val (.bool (rowMay b)) (by kernel_rfl) (fun _ => by kernel_rfl) ?_
    refine s_val (.bool (rowMay b)) (by kernel_rfl) (fun _ => by kernel_rfl) ?_
    cases h2 : rowMay b with
    | true =>
      refine s_val (.slice A a.length cap) (by kernel_rfl) (fun _ => by kernel_rfl) ?_
      refine s_val (.slice B b.length capb) (by kernel_rfl) (fun _ => by kernel_rfl) ?_
      refine s_callo (k := 16) (args := #[.slice A a.length cap, .slice B b.length capb]) (fun v' L' => SlS v' (if rowMay a && rowMay b then andL a b else []) L') (by kernel_rfl) (fun _ => by kernel_rfl) (fun w hO => (and4_any A B cap capb a b w (hv.on hO.below hO.size) (hu.on hO.below hO.size) hn hm ha hb hca hcb).mono fun e w' ⟨v', ob', h1, h2, h3⟩ => ⟨v', ob', h1, h2, by simpa using Own.joinN hO h3⟩) (fun cv oc hcv => ?_)
      rw [if_pos (by simp [*])] at hcv
      obtain ⟨C, capc, rfl⟩ := hcv.form
      have hlen : (andL a b).length ≤ 200000 := by rw [← andG_eq (by assumption) (by assumption)]; exact andG_len (by omega)
      refine s_val (.slice A a.length cap) (by kernel_rfl) (fun _ => by kernel_rfl) ?_
      refine s_call (k := 36) (args := #[.slice C ((andL a b).length) capc, .slice A a.length cap]) (.bool (decide (andL a b = a))) (by kernel_rfl) (fun _ => by kernel_rfl) (fun w hO => equal4_any C A capc cap (andL a b) a w (Sl.reads hcv rfl hO (fun x hx => hx)) (hv.on hO.below hO.size) (by omega) (by omega)) ?_
      refine s_val (.bool (decide (andL a b = a))) (by kernel_rfl) (fun _ => by kernel_rfl) ?_
      refine s_val (.bool (decide (andL a b = a))) (by kernel_rfl) (fun _ => by kernel_rfl) ?_
      refine s_nil ?_
      refine fin_seq ?_
      refine ok_ret ?_
      refine fin_ret (.bool (decide (andL a b = a))) Tryz.results18 (by kernel_rfl) ?_
      exact fun w hO => ⟨by simp [*], hO.below⟩
    | false =>
      refine s_skip (by kernel_rfl) ?_
      refine s_skip (by kernel_rfl) ?_
      refine s_skip (by kernel_rfl) ?_
      refine s_skip (by kernel_rfl) ?_
      refine s_skip (by kernel_rfl) ?_
      refine s_val (.bool false) (by kernel_rfl) (fun _ => by kernel_rfl) ?_
      refine s_val (.bool false) (by kernel_rfl) (fun _ => by kernel_rfl) ?_
      refine s_nil ?_
      refine fin_seq ?_
      refine ok_ret ?_
      refine fin_ret (.bool false) Tryz.results18 (by kernel_rfl) ?_
      exact fun w hO => ⟨by simp [*], hO.below⟩
  | false =>
    refine s_skip (by kernel_rfl) ?_
    refine s_skip (by kernel_rfl) ?_
    refine s_val (.bool false) (by kernel_rfl) (fun _ => by kernel_rfl) ?_
    refine s_val (.bool false) (by kernel_rfl) (fun _ => by kernel_rfl) ?_
    refine s_skip (by kernel_rfl) ?_
    refine s_skip (by kernel_rfl) ?_
    refine s_skip (by kernel_rfl) ?_
    refine s_skip (by kernel_rfl) ?_
    refine s_skip (by kernel_rfl) ?_
    refine s_val (.bool false) (by kernel_rfl) (fun _ => by kernel_rfl) ?_
    refine s_val (.bool false) (by kernel_rfl) (fun _ => by kernel_rfl) ?_
    refine s_nil ?_
    refine fin_seq ?_
    refine ok_ret ?_
    refine fin_ret (.bool false) Tryz.results18 (by kernel_rfl) ?_
    exact fun w hO => ⟨by simp [*], hO.below⟩
end Go.Proofs.YtmlecnomdamgnaaGreat
end

section
/-
  Plain mathematics: the laws of rows; a valid version's Pre is short. No condition of their own.
-/
namespace Go.Proofs.YtmlecnomdamgnaaGreat
set_option linter.unusedVariables false
set_option linter.unusedSimpArgs false

theorem cutAt_len (c : UInt8) : ∀ s : List UInt8, s.length = (cutAt c s).1.length + (if (cutAt c s).2.2 then 1 + (cutAt c s).2.1.length else 0)
  | [] => rfl
  | b :: r => by
    unfold cutAt
    have ih := cutAt_len c r
    by_cases h : b = c
    · first | (simp [h]; done) | (subst h; simp; omega) | (simp [h]; omega)
    · first | (simp [h] at ih ⊢; omega) | (simp [h, Ne.symm h] at ih ⊢; omega)
theorem cutGo_short : ∀ (n : Nat) (s : List UInt8), (cutGo n s).2 = true → s.length ≤ 9 * n
  | 0, s, h => by simp [cutGo] at h
  | n + 1, s, h => by
    have hl := cutAt_len 46 s
    cases ht : tagOk (cutAt 46 s).1 with
    | false => rw [cutGo_bad n s ht] at h; cases h
    | true =>
      have h8 : (cutAt 46 s).1.length ≤ 8 := Nat.le_of_not_lt fun h2 => by rw [tagOk_long h2] at ht; cases ht
      cases hm : (cutAt 46 s).2.2 with
      | false => rw [hm] at hl; simp at hl; omega
      | true =>
        rw [cutGo_on n s ht hm] at h
        have ih := cutGo_short n _ h
        rw [hm] at hl; simp at hl; omega
theorem preOk_short {s : List UInt8} (h : preOk s = true) : s.length ≤ 36 := by
  rw [preOk_lst, Bool.and_eq_true] at h
  have h1 := h.1
  unfold lst at h1
  split at h1
  · rename_i h0
    have : s = [] := by simpa using h0
    subst this; exact Nat.zero_le _
  · have := cutGo_short _ _ h1; omega
theorem may_short {v : Ver} (h : v.may = true) (hb : v.build = []) : v.short := ⟨by have := preOk_short (may_pre h); omega, by rw [hb]; exact Nat.zero_le _⟩
theorem cu_short {c : Cu} (h : c.may = true) : c.short := may_short (may_v h) (may_build h)
theorem sp_short {s : Sp} (h : s.may = true) : s.short := ⟨cu_short (span_mays h).1, cu_short (span_mays h).2⟩
/-- A valid row of at most n spans. -/
structure RF (l : List Sp) (n : Nat) : Prop where
  may : rowMay l = true
  len : l.length ≤ n
theorem RF.short {l : List Sp} {n : Nat} (h : RF l n) : ShortL l := fun s hs => sp_short (row_mem h.may s hs)
theorem cuts_len {l : List Sp} (hl : ∀ s ∈ l, s.may = true) : (cutsL l).length ≤ 2 + 2 * l.length := by
  have h := (cuts_size l (fun s hs => sp_short (hl s hs)) l.length (Nat.le_refl _)).1
  rwa [List.take_length] at h
theorem RF.make {l : List Sp} {n : Nat} (hl : ∀ s ∈ l, s.may = true) (hn : l.length ≤ n) : RF (makeL l) (2 + 2 * n) := ⟨(make_ok hl).1, by
  have h1 := build_len (inL l) (cutsL l) []
  have h2 := cuts_len hl
  unfold makeL
  rw [List.length_nil] at h1
  omega⟩
theorem RF.or {a b : List Sp} {n m : Nat} (ha : RF a n) (hb : RF b m) : RF (orL a b) (2 + 2 * (n + m)) := RF.make (both_may ha.may hb.may) (by rw [List.length_append]; have := ha.len; have := hb.len; omega)
theorem RF.and {a b : List Sp} {n m : Nat} (ha : RF a n) (hb : RF b m) : RF (andL a b) (2 + 2 * (n + m)) := ⟨(and_ok ha.may hb.may).1, by
  have h1 := build_len (fun c d => inL a c d && inL b c d) (cutsL (a ++ b)) []
  have h2 := cuts_len (both_may ha.may hb.may)
  have := ha.len; have := hb.len
  unfold andL
  rw [List.length_append] at h2
  rw [List.length_nil] at h1
  omega⟩
theorem RF.not {a : List Sp} {n : Nat} (ha : RF a n) : RF (notL a) (2 + 2 * n) := ⟨(not_ok ha.may).1, by
  have h1 := build_len (fun c d => !inL a c d) (cutsL a) []
  have h2 := cuts_len (row_mem ha.may)
  have := ha.len
  unfold notL
  rw [List.length_nil] at h1
  omega⟩
section
variable {a b c : List Sp} (ha : rowMay a = true) (hb : rowMay b = true) (hc : rowMay c = true)
include ha in
theorem not_not4 : notL (notL a) = a := row_ext _ _ (not_ok (not_ok ha).1).1 ha fun x hx he => by
  rw [(not_ok (not_ok ha).1).2 x hx he, (not_ok ha).2 x hx he, Bool.not_not]
include ha hb in
theorem de_morgan4 : notL (orL a b) = andL (notL a) (notL b) := row_ext _ _ (not_ok (or_ok ha hb).1).1 (and_ok (not_ok ha).1 (not_ok hb).1).1 fun x hx he => by
  rw [(not_ok (or_ok ha hb).1).2 x hx he, (or_ok ha hb).2 x hx he, (and_ok (not_ok ha).1 (not_ok hb).1).2 x hx he, (not_ok ha).2 x hx he, (not_ok hb).2 x hx he, Bool.not_or]
include ha hb in
theorem or_comm4 : orL a b = orL b a := row_ext _ _ (or_ok ha hb).1 (or_ok hb ha).1 fun x hx he => by rw [(or_ok ha hb).2 x hx he, (or_ok hb ha).2 x hx he, Bool.or_comm]
include ha hb in
theorem and_comm4 : andL a b = andL b a := row_ext _ _ (and_ok ha hb).1 (and_ok hb ha).1 fun x hx he => by rw [(and_ok ha hb).2 x hx he, (and_ok hb ha).2 x hx he, Bool.and_comm]
include ha hb hc in
theorem dist4 : andL a (orL b c) = orL (andL a b) (andL a c) := row_ext _ _ (and_ok ha (or_ok hb hc).1).1 (or_ok (and_ok ha hb).1 (and_ok ha hc).1).1 fun x hx he => by
  rw [(and_ok ha (or_ok hb hc).1).2 x hx he, (or_ok hb hc).2 x hx he, (or_ok (and_ok ha hb).1 (and_ok ha hc).1).2 x hx he, (and_ok ha hb).2 x hx he, (and_ok ha hc).2 x hx he, Bool.and_or_distrib_left]
include ha hb in
theorem and_in4 : andL (andL a b) a = andL a b := row_ext _ _ (and_ok (and_ok ha hb).1 ha).1 (and_ok ha hb).1 fun x hx he => by
  rw [(and_ok (and_ok ha hb).1 ha).2 x hx he, (and_ok ha hb).2 x hx he]
  cases den a x <;> cases den b x <;> rfl
include ha hb in
theorem or_in4 : andL a (orL a b) = a := row_ext _ _ (and_ok ha (or_ok ha hb).1).1 ha fun x hx he => by
  rw [(and_ok ha (or_ok ha hb).1).2 x hx he, (or_ok ha hb).2 x hx he]
  cases den a x <;> cases den b x <;> rfl
include ha hb in
theorem in_or4 : orL a (andL a b) = a := row_ext _ _ (or_ok ha (and_ok ha hb).1).1 ha fun x hx he => by
  rw [(or_ok ha (and_ok ha hb).1).2 x hx he, (and_ok ha hb).2 x hx he]
  cases den a x <;> cases den b x <;> rfl
include ha hb hc in
theorem and_assoc4 : andL (andL a b) c = andL a (andL b c) := row_ext _ _ (and_ok (and_ok ha hb).1 hc).1 (and_ok ha (and_ok hb hc).1).1 fun x hx he => by
  rw [(and_ok (and_ok ha hb).1 hc).2 x hx he, (and_ok ha hb).2 x hx he, (and_ok ha (and_ok hb hc).1).2 x hx he, (and_ok hb hc).2 x hx he, Bool.and_assoc]
include ha hb hc in
theorem or_assoc4 : orL (orL a b) c = orL a (orL b c) := row_ext _ _ (or_ok (or_ok ha hb).1 hc).1 (or_ok ha (or_ok hb hc).1).1 fun x hx he => by
  rw [(or_ok (or_ok ha hb).1 hc).2 x hx he, (or_ok ha hb).2 x hx he, (or_ok ha (or_ok hb hc).1).2 x hx he, (or_ok hb hc).2 x hx he, Bool.or_assoc]
include ha hb in
theorem within_iff4 : andL a b = a ↔ andL a (notL b) = [] := by
  have h1 := and_ok ha hb
  have h2 := and_ok ha (not_ok hb).1
  constructor
  · intro e
    refine row_ext _ _ h2.1 rfl fun x hx he => ?_
    have h3 := h1.2 x hx he
    rw [e] at h3
    rw [h2.2 x hx he, (not_ok hb).2 x hx he]
    show _ = false
    cases h4 : den a x with
    | false => rfl
    | true => rw [h4] at h3; simp at h3; rw [h3]; rfl
  · intro e
    refine row_ext _ _ h1.1 ha fun x hx he => ?_
    have h3 := h2.2 x hx he
    rw [e, (not_ok hb).2 x hx he] at h3
    rw [h1.2 x hx he]
    have h5 : den [] x = false := rfl
    rw [h5] at h3
    cases h4 : den a x with
    | false => rfl
    | true => rw [h4] at h3; simp at h3; rw [h3]; rfl
end
theorem pos_lt_end {v : Ver} (hv : v.may = true) : cmpC (posC v) (endC 1) < 0 := by
  have h1 := le_last (posC_may hv)
  have h2 : cmpC (posC v) (endC 1) ≠ 0 := fun e => by
    have := (cut_eq (posC_may hv) last_may).1 e
    have h3 := congrArg Cu.e this
    simp [posC, endC] at h3
  omega
theorem has_or4 {a b : List Sp} {v : Ver} (ha : rowMay a = true) (hb : rowMay b = true) (hv : v.may = true) : rowHas (orL a b) v = (rowHas a v || rowHas b v) := by
  rw [has_den (or_ok ha hb).1 hv, has_den ha hv, has_den hb hv, (or_ok ha hb).2 _ (posC_may hv) (pos_lt_end hv)]
theorem has_and4 {a b : List Sp} {v : Ver} (ha : rowMay a = true) (hb : rowMay b = true) (hv : v.may = true) : rowHas (andL a b) v = (rowHas a v && rowHas b v) := by
  rw [has_den (and_ok ha hb).1 hv, has_den ha hv, has_den hb hv, (and_ok ha hb).2 _ (posC_may hv) (pos_lt_end hv)]
theorem has_not4 {a : List Sp} {v : Ver} (ha : rowMay a = true) (hv : v.may = true) : rowHas (notL a) v = !rowHas a v := by
  rw [has_den (not_ok ha).1 hv, has_den ha hv, (not_ok ha).2 _ (posC_may hv) (pos_lt_end hv)]
theorem has_make4 {l : List Sp} {v : Ver} (hl : ∀ s ∈ l, s.may = true) (hv : v.may = true) : rowHas (makeL l) v = l.any (holdsC · v) := by
  rw [has_den (make_ok hl).1 hv, (make_ok hl).2 _ (posC_may hv) (pos_lt_end hv)]
  unfold den
  rw [Bool.eq_iff_iff, List.any_eq_true, List.any_eq_true]
  constructor
  · rintro ⟨s, hs, h⟩; exact ⟨s, hs, by rw [holds_in (hl s hs) hv]; exact h⟩
  · rintro ⟨s, hs, h⟩; exact ⟨s, hs, by rw [← holds_in (hl s hs) hv]; exact h⟩
theorem make_same {l m : List Sp} (hl : ∀ s ∈ l, s.may = true) (h : ∀ s, s ∈ m ↔ s ∈ l) : makeL m = makeL l := by
  have hm : ∀ s ∈ m, s.may = true := fun s hs => hl s ((h s).1 hs)
  refine row_ext _ _ (make_ok hm).1 (make_ok hl).1 fun x hx he => ?_
  rw [(make_ok hm).2 x hx he, (make_ok hl).2 x hx he]
  unfold den
  rw [Bool.eq_iff_iff, List.any_eq_true, List.any_eq_true]
  constructor
  · rintro ⟨s, hs, h2⟩; exact ⟨s, (h s).1 hs, h2⟩
  · rintro ⟨s, hs, h2⟩; exact ⟨s, (h s).2 hs, h2⟩
end Go.Proofs.YtmlecnomdamgnaaGreat
end

section
/-
  linchpinlaw4's few and awake: few tells whether spans are at most twelve with strings of at most 60 bytes; awake returns true; nothing that was there is changed.
-/
namespace Go.Proofs.YtmlecnomdamgnaaGreat
open Go.RowKit
set_option maxRecDepth 100000
set_option linter.unusedVariables false
set_option linter.unusedSimpArgs false
set_option maxHeartbeats 2000000


def few60 (s : Sp) : Bool := decide (s.lo.v.pre.length ≤ 60) && decide (s.lo.v.build.length ≤ 60) && decide (s.hi.v.pre.length ≤ 60) && decide (s.hi.v.build.length ≤ 60)
def fewL (l : List Sp) : Bool := decide (l.length ≤ 12) && l.all few60
theorem few_short {l : List Sp} (h : fewL l = true) : ShortL l ∧ l.length ≤ 12 := by
  unfold fewL at h
  rw [Bool.and_eq_true, decide_eq_true_eq, List.all_eq_true] at h
  refine ⟨fun s hs => ?_, h.1⟩
  have := h.2 s hs
  unfold few60 at this
  simp only [Bool.and_eq_true, decide_eq_true_eq] at this
  exact ⟨⟨by omega, by omega⟩, ⟨by omega, by omega⟩⟩
theorem few_end {l : List Sp} {k : Nat} (hk : k ≤ 12) (hl : l.length ≤ k) (h : (l.take k).all few60 = true) : fewL l = true := by
  unfold fewL
  rw [List.take_of_length_le hl] at h
  rw [h, decide_eq_true (by omega)]; rfl
theorem few_long {l : List Sp} (h : ¬ l.length ≤ 12) : fewL l = false := by unfold fewL; rw [decide_eq_false h]; rfl
theorem few_bad {l : List Sp} {k : Nat} (hk : k < l.length) (h : few60 l[k] = false) : fewL l = false := by
  unfold fewL
  cases h2 : l.all few60 with
  | false => simp
  | true => rw [List.all_eq_true.1 h2 _ (List.getElem_mem hk)] at h; cases h
theorem few_step {l : List Sp} {k : Nat} (hk : k < l.length) (h : (l.take k).all few60 = true) (h2 : few60 l[k] = true) : (l.take (k + 1)).all few60 = true := by
  rw [List.take_succ_eq_append_getElem hk, List.all_append, h]
  simp [h2]
theorem few4_any (A : Option Addr) (cap : Nat) (l : List Sp) (W : World) (hv : Reads spanC W W.heap.size A l) :
    Calls Tryz.prog 9 #[.slice A l.length cap] W fun e w' => e = .returned (.bool (fewL l)) ∧ Below W.heap.size W w' := by
  refine calls_ok (n := 56) Tryz.func9 rfl (by kernel_rfl) (by kernel_rfl) ?_
  refine ok_seq ?_
  refine ok_region ?_
  refine s_val (.bool false) (by kernel_rfl) (fun _ => by kernel_rfl) ?_
  refine s_nil ?_
  refine fin_seq ?_
  refine ok_seq ?_
  refine ok_seq ?_
  refine ok_region ?_
  refine s_val (.int .i64 0) (by kernel_rfl) (fun _ => by kernel_rfl) ?_
  refine s_nil ?_
  refine fin_seq ?_
  refine ok_block ?_
  refine ok_loop (fun L f m => ∃ (k : Nat) (j : Nat → Value), (k ≤ l.length ∧ k ≤ 12 ∧ (l.take k).all few60 = true) ∧ L = [] ∧ f = upds j [(0, .slice A l.length cap), (3, .int .i64 (k : Int))] ∧ m = l.length - k) (l.length - 0) ⟨0, _, ⟨Nat.zero_le _, Nat.zero_le _, by rw [List.take_zero]; rfl⟩, rfl, upds_self _ ⟨by kernel_rfl, by kernel_rfl, trivial⟩, rfl⟩ ?_
  rintro L f m ⟨k, j, hrel, rfl, rfl, rfl⟩
  have hkl := hrel.1; have hk12 := hrel.2.1
  refine ok_seq ?_
  refine ok_seq ?_
  refine ok_region ?_
  refine s_val (.int .i64 (k : Int)) (by kernel_rfl) (fun _ => by kernel_rfl) ?_
  refine s_val (.slice A l.length cap) (by kernel_rfl) (fun _ => by kernel_rfl) ?_
  refine s_val (.int .i64 (l.length : Int)) (by kernel_rfl) (fun _ => by kernel_rfl) ?_
  by_cases h1 : (k : Int) < (l.length : Int)
  · skip
    have hk : k < l.length := by omega
    obtain ⟨b, off, hA, hlt, hcell⟩ := hv (by omega)
    obtain ⟨s, hs⟩ : ∃ s, l[k] = s := ⟨_, rfl⟩
    have z0 : ((mkS s.lo.v.pre).size : Int) = s.lo.v.pre.length := by rw [mkS_sz]
    have z1 : ((mkS s.lo.v.build).size : Int) = s.lo.v.build.length := by rw [mkS_sz]
    have z2 : ((mkS s.hi.v.pre).size : Int) = s.hi.v.pre.length := by rw [mkS_sz]
    have z3 : ((mkS s.hi.v.build).size : Int) = s.hi.v.build.length := by rw [mkS_sz]
    refine s_dec (p := (k : Int) < (l.length : Int)) true (by kernel_rfl) (fun _ => by kernel_rfl) (decide_eq_true (h1)) ?_
    refine s_nil ?_
    refine fin_seq ?_
    refine ok_true (by kernel_rfl) ?_
    refine ok_skip ?_
    refine fin_seq ?_
    refine ok_seq ?_
    refine ok_block ?_
    refine ok_seq ?_
    refine ok_region ?_
    refine s_val (.int .i64 (k : Int)) (by kernel_rfl) (fun _ => by kernel_rfl) ?_
    by_cases h2 : (11 : Int) < (k : Int)
    · skip
      refine s_dec (p := (11 : Int) < (k : Int)) true (by kernel_rfl) (fun _ => by kernel_rfl) (decide_eq_true (h2)) ?_
      refine s_val (.bool true) (by kernel_rfl) (fun _ => by kernel_rfl) ?_
      refine s_skip (by kernel_rfl) ?_
      refine s_skip (by kernel_rfl) ?_
      refine s_skip (by kernel_rfl) ?_
      refine s_skip (by kernel_rfl) ?_
      refine s_skip (by kernel_rfl) ?_
      refine s_skip (by kernel_rfl) ?_
      refine s_skip (by kernel_rfl) ?_
      refine s_skip (by kernel_rfl) ?_
      refine s_skip (by kernel_rfl) ?_
      refine s_val (.bool true) (by kernel_rfl) (fun _ => by kernel_rfl) ?_
      refine s_val (.bool true) (by kernel_rfl) (fun _ => by kernel_rfl) ?_
      refine s_skip (by kernel_rfl) ?_
      refine s_skip (by kernel_rfl) ?_
      refine s_skip (by kernel_rfl) ?_
      refine s_skip (by kernel_rfl) ?_
      refine s_skip (by kernel_rfl) ?_
      refine s_skip (by kernel_rfl) ?_
      refine s_skip (by kernel_rfl) ?_
      refine s_skip (by kernel_rfl) ?_
      refine s_skip (by kernel_rfl) ?_
      refine s_val (.bool true) (by kernel_rfl) (fun _ => by kernel_rfl) ?_
      refine s_val (.bool true) (by kernel_rfl) (fun _ => by kernel_rfl) ?_
      refine s_skip (by kernel_rfl) ?_
      refine s_skip (by kernel_rfl) ?_
      refine s_skip (by kernel_rfl) ?_
      refine s_skip (by kernel_rfl) ?_
      refine s_skip (by kernel_rfl) ?_
      refine s_skip (by kernel_rfl) ?_
      refine s_skip (by kernel_rfl) ?_
      refine s_skip (by kernel_rfl) ?_
      refine s_skip (by kernel_rfl) ?_
      refine s_val (.bool true) (by kernel_rfl) (fun _ => by kernel_rfl) ?_
      refine s_val (.bool true) (by kernel_rfl) (fun _ => by kernel_rfl) ?_
      refine s_skip (by kernel_rfl) ?_
      refine s_skip (by kernel_rfl) ?_
      refine s_skip (by kernel_rfl) ?_
      refine s_skip (by kernel_rfl) ?_
      refine s_skip (by kernel_rfl) ?_
      refine s_skip (by kernel_rfl) ?_
      refine s_skip (by kernel_rfl) ?_
      refine s_skip (by kernel_rfl) ?_
      refine s_skip (by kernel_rfl) ?_
      refine s_val (.bool true) (by kernel_rfl) (fun _ => by kernel_rfl) ?_
      refine s_nil ?_
      refine fin_seq ?_
      refine ok_true (by kernel_rfl) ?_
      refine ok_seq ?_
      refine ok_region ?_
      refine s_val (.bool false) (by kernel_rfl) (fun _ => by kernel_rfl) ?_
      refine s_nil ?_
      refine fin_seq ?_
      refine ok_ret ?_
      refine fin_block_ret ?_
      refine fin_seq_ret ?_
      refine fin_round_ret ?_
      refine fin_block_ret ?_
      refine fin_seq_ret ?_
      refine fin_ret (.bool false) Tryz.results9 (by kernel_rfl) ?_
      exact fun w hO => ⟨by rw [few_long (by omega)], hO.below⟩
    · skip
      refine s_dec (p := (11 : Int) < (k : Int)) false (by kernel_rfl) (fun _ => by kernel_rfl) (decide_eq_false (h2)) ?_
      refine s_val (.bool false) (by kernel_rfl) (fun _ => by kernel_rfl) ?_
      refine s_val (.slice A l.length cap) (by kernel_rfl) (fun _ => by kernel_rfl) ?_
      refine s_val (.int .i64 (k : Int)) (by kernel_rfl) (fun _ => by kernel_rfl) ?_
      refine s_val (.pointer (some ⟨b, off + k * 14, none⟩)) (by kernel_rfl) (run_ixA (b := b) (off := off) (c := cap) (n := l.length) (k := .i64) (j := (k : Int)) (e := 43) (sz := 14) rfl (by kernel_rfl) hA (by kernel_rfl) (by kernel_rfl) (by kernel_rfl) (by omega) (by omega) (by omega)) ?_
      refine s_val (.pointer (some ⟨b, off + k * 14 + 0, none⟩)) (by kernel_rfl) (fun _ => by kernel_rfl) ?_
      refine s_val (.pointer (some ⟨b, off + k * 14 + 1, none⟩)) (by kernel_rfl) (fun _ => by kernel_rfl) ?_
      refine s_val (.pointer (some ⟨b, off + k * 14 + 4, none⟩)) (by kernel_rfl) (fun _ => by kernel_rfl) ?_
      refine s_old (.string (mkS s.lo.v.pre)) (a := ⟨b, off + k * 14 + 4, none⟩) (by kernel_rfl) rfl (by kernel_rfl) (fun w hO => elem_load spanC_len (fun j u h => (hO.below.cell (p := ⟨b, off + j, none⟩) hlt).trans (hcell j u h)) k 4 hk (by omega) _ (by rw [hs]; kernel_rfl)) ?_
      refine s_val (.int .i64 ((mkS s.lo.v.pre).size)) (by kernel_rfl) (fun _ => by kernel_rfl) ?_
      by_cases h3 : (60 : Int) < (mkS s.lo.v.pre).size
      · skip
        refine s_dec (p := (60 : Int) < (mkS s.lo.v.pre).size) true (by kernel_rfl) (fun _ => by kernel_rfl) (decide_eq_true (h3)) ?_
        refine s_val (.bool true) (by kernel_rfl) (fun _ => by kernel_rfl) ?_
        refine s_val (.bool true) (by kernel_rfl) (fun _ => by kernel_rfl) ?_
        refine s_skip (by kernel_rfl) ?_
        refine s_skip (by kernel_rfl) ?_
        refine s_skip (by kernel_rfl) ?_
        refine s_skip (by kernel_rfl) ?_
        refine s_skip (by kernel_rfl) ?_
        refine s_skip (by kernel_rfl) ?_
        refine s_skip (by kernel_rfl) ?_
        refine s_skip (by kernel_rfl) ?_
        refine s_skip (by kernel_rfl) ?_
        refine s_val (.bool true) (by kernel_rfl) (fun _ => by kernel_rfl) ?_
        refine s_val (.bool true) (by kernel_rfl) (fun _ => by kernel_rfl) ?_
        refine s_skip (by kernel_rfl) ?_
        refine s_skip (by kernel_rfl) ?_
        refine s_skip (by kernel_rfl) ?_
        refine s_skip (by kernel_rfl) ?_
        refine s_skip (by kernel_rfl) ?_
        refine s_skip (by kernel_rfl) ?_
        refine s_skip (by kernel_rfl) ?_
        refine s_skip (by kernel_rfl) ?_
        refine s_skip (by kernel_rfl) ?_
        refine s_val (.bool true) (by kernel_rfl) (fun _ => by kernel_rfl) ?_
        refine s_val (.bool true) (by kernel_rfl) (fun _ => by kernel_rfl) ?_
        refine s_skip (by kernel_rfl) ?_
        refine s_skip (by kernel_rfl) ?_
        refine s_skip (by kernel_rfl) ?_
        refine s_skip (by kernel_rfl) ?_
        refine s_skip (by kernel_rfl) ?_
        refine s_skip (by kernel_rfl) ?_
        refine s_skip (by kernel_rfl) ?_
        refine s_skip (by kernel_rfl) ?_
        refine s_skip (by kernel_rfl) ?_
        refine s_val (.bool true) (by kernel_rfl) (fun _ => by kernel_rfl) ?_
        refine s_nil ?_
        refine fin_seq ?_
        refine ok_true (by kernel_rfl) ?_
        refine ok_seq ?_
        refine ok_region ?_
        refine s_val (.bool false) (by kernel_rfl) (fun _ => by kernel_rfl) ?_
        refine s_nil ?_
        refine fin_seq ?_
        refine ok_ret ?_
        refine fin_block_ret ?_
        refine fin_seq_ret ?_
        refine fin_round_ret ?_
        refine fin_block_ret ?_
        refine fin_seq_ret ?_
        refine fin_ret (.bool false) Tryz.results9 (by kernel_rfl) ?_
        exact fun w hO => ⟨by rw [few_bad hk (by rw [hs]; unfold few60; simp; omega)], hO.below⟩
      · skip
        refine s_dec (p := (60 : Int) < (mkS s.lo.v.pre).size) false (by kernel_rfl) (fun _ => by kernel_rfl) (decide_eq_false (h3)) ?_
        refine s_val (.bool false) (by kernel_rfl) (fun _ => by kernel_rfl) ?_
        refine s_val (.bool false) (by kernel_rfl) (fun _ => by kernel_rfl) ?_
        refine s_val (.slice A l.length cap) (by kernel_rfl) (fun _ => by kernel_rfl) ?_
        refine s_val (.int .i64 (k : Int)) (by kernel_rfl) (fun _ => by kernel_rfl) ?_
        refine s_val (.pointer (some ⟨b, off + k * 14, none⟩)) (by kernel_rfl) (run_ixA (b := b) (off := off) (c := cap) (n := l.length) (k := .i64) (j := (k : Int)) (e := 43) (sz := 14) rfl (by kernel_rfl) hA (by kernel_rfl) (by kernel_rfl) (by kernel_rfl) (by omega) (by omega) (by omega)) ?_
        refine s_val (.pointer (some ⟨b, off + k * 14 + 0, none⟩)) (by kernel_rfl) (fun _ => by kernel_rfl) ?_
        refine s_val (.pointer (some ⟨b, off + k * 14 + 1, none⟩)) (by kernel_rfl) (fun _ => by kernel_rfl) ?_
        refine s_val (.pointer (some ⟨b, off + k * 14 + 5, none⟩)) (by kernel_rfl) (fun _ => by kernel_rfl) ?_
        refine s_old (.string (mkS s.lo.v.build)) (a := ⟨b, off + k * 14 + 5, none⟩) (by kernel_rfl) rfl (by kernel_rfl) (fun w hO => elem_load spanC_len (fun j u h => (hO.below.cell (p := ⟨b, off + j, none⟩) hlt).trans (hcell j u h)) k 5 hk (by omega) _ (by rw [hs]; kernel_rfl)) ?_
        refine s_val (.int .i64 ((mkS s.lo.v.build).size)) (by kernel_rfl) (fun _ => by kernel_rfl) ?_
        by_cases h4 : (60 : Int) < (mkS s.lo.v.build).size
        · skip
          refine s_dec (p := (60 : Int) < (mkS s.lo.v.build).size) true (by kernel_rfl) (fun _ => by kernel_rfl) (decide_eq_true (h4)) ?_
          refine s_val (.bool true) (by kernel_rfl) (fun _ => by kernel_rfl) ?_
          refine s_val (.bool true) (by kernel_rfl) (fun _ => by kernel_rfl) ?_
          refine s_skip (by kernel_rfl) ?_
          refine s_skip (by kernel_rfl) ?_
          refine s_skip (by kernel_rfl) ?_
          refine s_skip (by kernel_rfl) ?_
          refine s_skip (by kernel_rfl) ?_
          refine s_skip (by kernel_rfl) ?_
          refine s_skip (by kernel_rfl) ?_
          refine s_skip (by kernel_rfl) ?_
          refine s_skip (by kernel_rfl) ?_
          refine s_val (.bool true) (by kernel_rfl) (fun _ => by kernel_rfl) ?_
          refine s_val (.bool true) (by kernel_rfl) (fun _ => by kernel_rfl) ?_
          refine s_skip (by kernel_rfl) ?_
          refine s_skip (by kernel_rfl) ?_
          refine s_skip (by kernel_rfl) ?_
          refine s_skip (by kernel_rfl) ?_
          refine s_skip (by kernel_rfl) ?_
          refine s_skip (by kernel_rfl) ?_
          refine s_skip (by kernel_rfl) ?_
          refine s_skip (by kernel_rfl) ?_
          refine s_skip (by kernel_rfl) ?_
          refine s_val (.bool true) (by kernel_rfl) (fun _ => by kernel_rfl) ?_
          refine s_nil ?_
          refine fin_seq ?_
          refine ok_true (by kernel_rfl) ?_
          refine ok_seq ?_
          refine ok_region ?_
          refine s_val (.bool false) (by kernel_rfl) (fun _ => by kernel_rfl) ?_
          refine s_nil ?_
          refine fin_seq ?_
          refine ok_ret ?_
          refine fin_block_ret ?_
          refine fin_seq_ret ?_
          refine fin_round_ret ?_
          refine fin_block_ret ?_
          refine fin_seq_ret ?_
          refine fin_ret (.bool false) Tryz.results9 (by kernel_rfl) ?_
          exact fun w hO => ⟨by rw [few_bad hk (by rw [hs]; unfold few60; simp; omega)], hO.below⟩
        · skip
          refine s_dec (p := (60 : Int) < (mkS s.lo.v.build).size) false (by kernel_rfl) (fun _ => by kernel_rfl) (decide_eq_false (h4)) ?_
          refine s_val (.bool false) (by kernel_rfl) (fun _ => by kernel_rfl) ?_
          refine s_val (.bool false) (by kernel_rfl) (fun _ => by kernel_rfl) ?_
          refine s_val (.slice A l.length cap) (by kernel_rfl) (fun _ => by kernel_rfl) ?_
          refine s_val (.int .i64 (k : Int)) (by kernel_rfl) (fun _ => by kernel_rfl) ?_
          refine s_val (.pointer (some ⟨b, off + k * 14, none⟩)) (by kernel_rfl) (run_ixA (b := b) (off := off) (c := cap) (n := l.length) (k := .i64) (j := (k : Int)) (e := 43) (sz := 14) rfl (by kernel_rfl) hA (by kernel_rfl) (by kernel_rfl) (by kernel_rfl) (by omega) (by omega) (by omega)) ?_
          refine s_val (.pointer (some ⟨b, off + k * 14 + 7, none⟩)) (by kernel_rfl) (fun _ => by kernel_rfl) ?_
          refine s_val (.pointer (some ⟨b, off + k * 14 + 8, none⟩)) (by kernel_rfl) (fun _ => by kernel_rfl) ?_
          refine s_val (.pointer (some ⟨b, off + k * 14 + 11, none⟩)) (by kernel_rfl) (fun _ => by kernel_rfl) ?_
          refine s_old (.string (mkS s.hi.v.pre)) (a := ⟨b, off + k * 14 + 11, none⟩) (by kernel_rfl) rfl (by kernel_rfl) (fun w hO => elem_load spanC_len (fun j u h => (hO.below.cell (p := ⟨b, off + j, none⟩) hlt).trans (hcell j u h)) k 11 hk (by omega) _ (by rw [hs]; kernel_rfl)) ?_
          refine s_val (.int .i64 ((mkS s.hi.v.pre).size)) (by kernel_rfl) (fun _ => by kernel_rfl) ?_
          by_cases h5 : (60 : Int) < (mkS s.hi.v.pre).size
          · skip
            refine s_dec (p := (60 : Int) < (mkS s.hi.v.pre).size) true (by kernel_rfl) (fun _ => by kernel_rfl) (decide_eq_true (h5)) ?_
            refine s_val (.bool true) (by kernel_rfl) (fun _ => by kernel_rfl) ?_
            refine s_val (.bool true) (by kernel_rfl) (fun _ => by kernel_rfl) ?_
            refine s_skip (by kernel_rfl) ?_
            refine s_skip (by kernel_rfl) ?_
            refine s_skip (by kernel_rfl) ?_
            refine s_skip (by kernel_rfl) ?_
            refine s_skip (by kernel_rfl) ?_
            refine s_skip (by kernel_rfl) ?_
            refine s_skip (by kernel_rfl) ?_
            refine s_skip (by kernel_rfl) ?_
            refine s_skip (by kernel_rfl) ?_
            refine s_val (.bool true) (by kernel_rfl) (fun _ => by kernel_rfl) ?_
            refine s_nil ?_
            refine fin_seq ?_
            refine ok_true (by kernel_rfl) ?_
            refine ok_seq ?_
            refine ok_region ?_
            refine s_val (.bool false) (by kernel_rfl) (fun _ => by kernel_rfl) ?_
            refine s_nil ?_
            refine fin_seq ?_
            refine ok_ret ?_
            refine fin_block_ret ?_
            refine fin_seq_ret ?_
            refine fin_round_ret ?_
            refine fin_block_ret ?_
            refine fin_seq_ret ?_
            refine fin_ret (.bool false) Tryz.results9 (by kernel_rfl) ?_
            exact fun w hO => ⟨by rw [few_bad hk (by rw [hs]; unfold few60; simp; omega)], hO.below⟩
          · skip
            refine s_dec (p := (60 : Int) < (mkS s.hi.v.pre).size) false (by kernel_rfl) (fun _ => by kernel_rfl) (decide_eq_false (h5)) ?_
            refine s_val (.bool false) (by kernel_rfl) (fun _ => by kernel_rfl) ?_
            refine s_val (.bool false) (by kernel_rfl) (fun _ => by kernel_rfl) ?_
            refine s_val (.slice A l.length cap) (by kernel_rfl) (fun _ => by kernel_rfl) ?_
            refine s_val (.int .i64 (k : Int)) (by kernel_rfl) (fun _ => by kernel_rfl) ?_
            refine s_val (.pointer (some ⟨b, off + k * 14, none⟩)) (by kernel_rfl) (run_ixA (b := b) (off := off) (c := cap) (n := l.length) (k := .i64) (j := (k : Int)) (e := 43) (sz := 14) rfl (by kernel_rfl) hA (by kernel_rfl) (by kernel_rfl) (by kernel_rfl) (by omega) (by omega) (by omega)) ?_
            refine s_val (.pointer (some ⟨b, off + k * 14 + 7, none⟩)) (by kernel_rfl) (fun _ => by kernel_rfl) ?_
            refine s_val (.pointer (some ⟨b, off + k * 14 + 8, none⟩)) (by kernel_rfl) (fun _ => by kernel_rfl) ?_
            refine s_val (.pointer (some ⟨b, off + k * 14 + 12, none⟩)) (by kernel_rfl) (fun _ => by kernel_rfl) ?_
            refine s_old (.string (mkS s.hi.v.build)) (a := ⟨b, off + k * 14 + 12, none⟩) (by kernel_rfl) rfl (by kernel_rfl) (fun w hO => elem_load spanC_len (fun j u h => (hO.below.cell (p := ⟨b, off + j, none⟩) hlt).trans (hcell j u h)) k 12 hk (by omega) _ (by rw [hs]; kernel_rfl)) ?_
            refine s_val (.int .i64 ((mkS s.hi.v.build).size)) (by kernel_rfl) (fun _ => by kernel_rfl) ?_
            by_cases h6 : (60 : Int) < (mkS s.hi.v.build).size
            · skip
              refine s_dec (p := (60 : Int) < (mkS s.hi.v.build).size) true (by kernel_rfl) (fun _ => by kernel_rfl) (decide_eq_true (h6)) ?_
              refine s_val (.bool true) (by kernel_rfl) (fun _ => by kernel_rfl) ?_
              refine s_nil ?_
              refine fin_seq ?_
              refine ok_true (by kernel_rfl) ?_
              refine ok_seq ?_
              refine ok_region ?_
              refine s_val (.bool false) (by kernel_rfl) (fun _ => by kernel_rfl) ?_
              refine s_nil ?_
              refine fin_seq ?_
              refine ok_ret ?_
              refine fin_block_ret ?_
              refine fin_seq_ret ?_
              refine fin_round_ret ?_
              refine fin_block_ret ?_
              refine fin_seq_ret ?_
              refine fin_ret (.bool false) Tryz.results9 (by kernel_rfl) ?_
              exact fun w hO => ⟨by rw [few_bad hk (by rw [hs]; unfold few60; simp; omega)], hO.below⟩
            · skip
              refine s_dec (p := (60 : Int) < (mkS s.hi.v.build).size) false (by kernel_rfl) (fun _ => by kernel_rfl) (decide_eq_false (h6)) ?_
              refine s_val (.bool false) (by kernel_rfl) (fun _ => by kernel_rfl) ?_
              refine s_nil ?_
              refine fin_seq ?_
              refine ok_false (by kernel_rfl) ?_
              refine ok_skip ?_
              refine fin_block ?_
              refine fin_seq ?_
              refine ok_region ?_
              refine s_val (.int .i64 (k : Int)) (by kernel_rfl) (fun _ => by kernel_rfl) ?_
              refine s_sum (k := .i64) (((k + 1 : Nat) : Int)) (by kernel_rfl) (fun _ => by kernel_rfl) (IntWalk.i64_in _ (by omega)) ?_
              refine s_val (.int .i64 ((k + 1 : Nat) : Int)) (by kernel_rfl) (fun _ => by kernel_rfl) ?_
              refine s_nil ?_
              exact fin_round (m' := l.length - (k + 1)) (by omega) ⟨k + 1, _, ⟨by omega, by omega, few_step hk hrel.2.2 (by rw [hs]; unfold few60; simp; omega)⟩, rfl, upds_self _ ⟨by kernel_rfl, by kernel_rfl, trivial⟩, rfl⟩
  · skip
    refine s_dec (p := (k : Int) < (l.length : Int)) false (by kernel_rfl) (fun _ => by kernel_rfl) (decide_eq_false (h1)) ?_
    refine s_nil ?_
    refine fin_seq ?_
    refine ok_false (by kernel_rfl) ?_
    refine ok_exit ?_
    refine fin_seq_exit ?_
    refine fin_round_exit ?_
    refine fin_block_exit ?_
    refine fin_seq ?_
    refine ok_seq ?_
    refine ok_region ?_
    refine s_val (.bool true) (by kernel_rfl) (fun _ => by kernel_rfl) ?_
    refine s_nil ?_
    refine fin_seq ?_
    refine ok_ret ?_
    refine fin_ret (.bool true) Tryz.results9 (by kernel_rfl) ?_
    exact fun w hO => ⟨by rw [few_end hk12 (by omega) hrel.2.2], hO.below⟩
def aV4 : Ver := Ver.rel 1 0 0
def aS4 : Sp := ⟨⟨0, aV4, false⟩, ⟨0, aV4, true⟩⟩
theorem aV4_may : aV4.may = true := by decide +kernel
theorem aV4_short : aV4.short := ⟨Nat.zero_le 1000000, Nat.zero_le 1000000⟩
theorem aS4_may : aS4.may = true := by decide +kernel
theorem aR4 : rowMay [aS4] = true := by decide +kernel
theorem aF4 : RF [aS4] 1 := ⟨aR4, Nat.le_refl _⟩
theorem aN4 : RF (notL []) 2 := RF.not (n := 0) ⟨rfl, Nat.le_refl _⟩
theorem aHas4 : rowHas [aS4] aV4 = true := by decide +kernel
theorem aNot4 : rowHas (notL [aS4]) aV4 = false := by rw [has_not4 aR4 aV4_may, aHas4]; rfl
theorem aIn4 : andL [aS4] (notL []) = [aS4] := (within_iff4 aR4 aN4.may).2 (by
  rw [not_not4 rfl]
  exact row_ext _ _ (and_ok aR4 rfl).1 rfl fun x hx he => by rw [(and_ok aR4 rfl).2 x hx he]; simp [den])
theorem aAnd4 : andL [aS4] (notL [aS4]) = [] := row_ext _ _ (and_ok aR4 (not_ok aR4).1).1 rfl fun x hx he => by
  rw [(and_ok aR4 (not_ok aR4).1).2 x hx he, (not_ok aR4).2 x hx he]
  show _ = false
  cases den [aS4] x <;> rfl
theorem SlS.cap {A : Option Addr} {n c : Nat} {l : List Sp} {ob : List Blk} (h : SlS (.slice A n c) l ob) : l.length ≤ c := by
  rcases h.2 with ⟨h1, h2, _⟩ | ⟨g, c', cur, h1, _, h3, _⟩
  · rw [h2]; exact Nat.zero_le _
  · simp only [Value.slice.injEq] at h1
    rw [h1.2.2]; exact h3
theorem awake4_any (W : World) : Calls Tryz.prog 10 #[] W fun e w' => e = .returned (.bool true) ∧ Below W.heap.size W w' := by
  refine calls_ok (n := 41) Tryz.func10 rfl (by kernel_rfl) (by kernel_rfl) ?_
  refine ok_seq ?_
  refine ok_region ?_
  refine s_val (.bool false) (by kernel_rfl) (fun _ => by kernel_rfl) ?_
  refine s_nil ?_
  refine fin_seq ?_
  refine ok_seq ?_
  refine ok_region ?_
  refine s_val (.agg #[.int .i64 1, .int .i64 0, .int .i64 0, .string ⟨#[]⟩, .string ⟨#[]⟩]) (by kernel_rfl) (fun _ => by kernel_rfl) ?_
  refine s_alloc_at (.agg #[.int .i64 0, .int .i64 0, .int .i64 0, .string ⟨#[]⟩, .string ⟨#[]⟩]) (by kernel_rfl) rfl (by kernel_rfl) (fun b1 => ?_)
  refine s_store_at 0 ⟨b1, #[.int .i64 0, .int .i64 0, .int .i64 0, .string ⟨#[]⟩, .string ⟨#[]⟩], 31⟩ (off := 0) (.agg #[.int .i64 1, .int .i64 0, .int .i64 0, .string ⟨#[]⟩, .string ⟨#[]⟩]) (by kernel_rfl) rfl rfl (by kernel_rfl) (by kernel_rfl) (by kernel_rfl) (by kernel_rfl) (by kernel_rfl) ?_
  refine s_nil ?_
  refine fin_seq ?_
  refine ok_seq ?_
  refine ok_region ?_
  refine s_load 0 ⟨b1, #[.int .i64 1, .int .i64 0, .int .i64 0, .string ⟨#[]⟩, .string ⟨#[]⟩], 31⟩ (off := 0) (.agg #[.int .i64 1, .int .i64 0, .int .i64 0, .string ⟨#[]⟩, .string ⟨#[]⟩]) (by kernel_rfl) rfl (by kernel_rfl) (by kernel_rfl) (by kernel_rfl) ?_
  refine s_val (.agg #[.int .i64 0, .int .i64 1, .int .i64 0, .int .i64 0, .string ⟨#[]⟩, .string ⟨#[]⟩, .bool false]) (by kernel_rfl) (fun _ => by kernel_rfl) ?_
  refine s_load 0 ⟨b1, #[.int .i64 1, .int .i64 0, .int .i64 0, .string ⟨#[]⟩, .string ⟨#[]⟩], 31⟩ (off := 0) (.agg #[.int .i64 1, .int .i64 0, .int .i64 0, .string ⟨#[]⟩, .string ⟨#[]⟩]) (by kernel_rfl) rfl (by kernel_rfl) (by kernel_rfl) (by kernel_rfl) ?_
  refine s_val (.agg #[.int .i64 0, .int .i64 1, .int .i64 0, .int .i64 0, .string ⟨#[]⟩, .string ⟨#[]⟩, .bool true]) (by kernel_rfl) (fun _ => by kernel_rfl) ?_
  refine s_val (.agg #[.int .i64 0, .int .i64 1, .int .i64 0, .int .i64 0, .string ⟨#[]⟩, .string ⟨#[]⟩, .bool false, .int .i64 0, .int .i64 1, .int .i64 0, .int .i64 0, .string ⟨#[]⟩, .string ⟨#[]⟩, .bool true]) (by kernel_rfl) (fun _ => by kernel_rfl) ?_
  refine s_lit 43 #[.int .i64 0, .int .i64 1, .int .i64 0, .int .i64 0, .string ⟨#[]⟩, .string ⟨#[]⟩, .bool false, .int .i64 0, .int .i64 1, .int .i64 0, .int .i64 0, .string ⟨#[]⟩, .string ⟨#[]⟩, .bool true] (by kernel_rfl) rfl (fun _ => by kernel_rfl) (fun b2 => ?_)
  refine s_cast (L' := [⟨b2, #[.int .i64 0, .int .i64 1, .int .i64 0, .int .i64 0, .string ⟨#[]⟩, .string ⟨#[]⟩, .bool false, .int .i64 0, .int .i64 1, .int .i64 0, .int .i64 0, .string ⟨#[]⟩, .string ⟨#[]⟩, .bool true], 43⟩, ⟨b1, #[.int .i64 1, .int .i64 0, .int .i64 0, .string ⟨#[]⟩, .string ⟨#[]⟩], 31⟩]) rfl ?_
  refine s_callo (k := 26) (args := #[.slice (some ⟨b2, 0, none⟩) 1 1]) (fun v' L' => ∃ mv om, v' = .tuple #[mv, .bool true] ∧ SlS mv [aS4] om ∧ L' = ⟨b1, #[.int .i64 1, .int .i64 0, .int .i64 0, .string ⟨#[]⟩, .string ⟨#[]⟩], 31⟩ :: om) (by kernel_rfl) (fun _ => by kernel_rfl) (fun w hO => (make4_any (some ⟨b2, 0, none⟩) 1 [aS4] w (Sl.reads (T := 43) (sz := 14) (n := 1) (ob := [⟨b2, #[.int .i64 0, .int .i64 1, .int .i64 0, .int .i64 0, .string ⟨#[]⟩, .string ⟨#[]⟩, .bool false, .int .i64 0, .int .i64 1, .int .i64 0, .int .i64 0, .string ⟨#[]⟩, .string ⟨#[]⟩, .bool true], 43⟩]) ⟨rfl, .inr ⟨b2, 1, (spanC aS4).toArray, rfl, rfl, Nat.le_refl _, by decide, rfl, rfl⟩⟩ rfl hO (fun x hx => by simp at hx; subst hx; exact List.mem_cons_self)) (by decide) aF4.short).mono fun e w' ⟨v', ob', h1, h2, h3⟩ => ⟨_, ⟨b1, #[.int .i64 1, .int .i64 0, .int .i64 0, .string ⟨#[]⟩, .string ⟨#[]⟩], 31⟩ :: ob', h1, ⟨v', ob', by rw [show allMay [aS4] = true from by decide +kernel], by rw [show allMay [aS4] = true from by decide +kernel, if_pos rfl, make_self aR4] at h2; exact h2, rfl⟩, ?_⟩) (fun tv L2 htv => ?_)
  · exact Own.sub [_] ((Own.joinN hO h3).perm (List.perm_append_comm (l₁ := ob') (l₂ := [_, _])))
  obtain ⟨mv, om, rfl, hm, rfl⟩ := htv
  obtain ⟨D, cd, rfl⟩ := hm.form
  have hm2 : Sl 43 14 (.slice D 1 cd) 1 (spanC aS4) om := hm.to rfl (by simp)
  obtain ⟨g, cur, rfl, rfl, hgc, hgm, hgs, hgt⟩ := hm2.block (by decide)
  refine s_val (.tuple #[.slice (some ⟨g, 0, none⟩) 1 cd, .bool true]) (by kernel_rfl) (fun _ => by kernel_rfl) ?_
  refine s_val (.slice (some ⟨g, 0, none⟩) 1 cd) (by kernel_rfl) (fun _ => by kernel_rfl) ?_
  refine s_val (.bool true) (by kernel_rfl) (fun _ => by kernel_rfl) ?_
  refine s_val (.slice (some ⟨g, 0, none⟩) 1 cd) (by kernel_rfl) (fun _ => by kernel_rfl) ?_
  refine s_val (.bool true) (by kernel_rfl) (fun _ => by kernel_rfl) ?_
  refine s_nil ?_
  refine fin_seq ?_
  refine ok_seq ?_
  refine ok_anyh (by kernel_rfl) ?_
  refine h_take 0 [] _ (.bool true) rfl (by kernel_rfl) (by kernel_rfl) (by kernel_rfl) (pq_seq pq_body) (by kernel_rfl) (fun _ _ => by kernel_rfl) ?_
  refine h_take 1 [] _ (.bool true) rfl (by kernel_rfl) (by kernel_rfl) (by kernel_rfl) (pq_seq pq_body) (by kernel_rfl) (fun _ _ => by kernel_rfl) ?_
  refine h_take 2 [] _ (.slice (some ⟨g, 0, none⟩) 1 cd) rfl (by kernel_rfl) (by kernel_rfl) (by kernel_rfl) (pq_seq pq_body) (by kernel_rfl) (fun _ _ => by kernel_rfl) ?_
  refine h_load 3 [] _ 0 ⟨b1, #[.int .i64 1, .int .i64 0, .int .i64 0, .string ⟨#[]⟩, .string ⟨#[]⟩], 31⟩ (off := 0) (.agg #[.int .i64 1, .int .i64 0, .int .i64 0, .string ⟨#[]⟩, .string ⟨#[]⟩]) rfl (by kernel_rfl) (by kernel_rfl) (by kernel_rfl) (pq_seq pq_body) (by kernel_rfl) rfl (by kernel_rfl) (by kernel_rfl) (by kernel_rfl) ?_
  refine h_one 4 (by kernel_rfl) ?_
  refine hs_call [] _ (k := 22) (args := #[.slice (some ⟨g, 0, none⟩) 1 cd, .agg #[.int .i64 1, .int .i64 0, .int .i64 0, .string ⟨#[]⟩, .string ⟨#[]⟩]]) (.bool true) rfl (by kernel_rfl) (fun _ => by kernel_rfl) (fun w hO => ret_b aHas4 (has4_any _ _ ([aS4]) aV4 w (Sl.reads hm rfl hO (fun x hx => by simp at hx; subst hx; simp)) (by have := aF4.len; omega) aF4.short aV4_short)) ?_
  refine h_take 5 [] _ (.bool true) rfl (by kernel_rfl) (by kernel_rfl) (by kernel_rfl) (pq_seq pq_body) (by kernel_rfl) (fun _ _ => by kernel_rfl) ?_
  refine h_take 6 [] _ (.bool true) rfl (by kernel_rfl) (by kernel_rfl) (by kernel_rfl) (pq_seq pq_body) (by kernel_rfl) (fun _ _ => by kernel_rfl) ?_
  refine h_take 7 [] _ (.slice (some ⟨g, 0, none⟩) 1 cd) rfl (by kernel_rfl) (by kernel_rfl) (by kernel_rfl) (pq_seq pq_body) (by kernel_rfl) (fun _ _ => by kernel_rfl) ?_
  refine h_load 9 [] _ 0 ⟨b1, #[.int .i64 1, .int .i64 0, .int .i64 0, .string ⟨#[]⟩, .string ⟨#[]⟩], 31⟩ (off := 0) (.agg #[.int .i64 1, .int .i64 0, .int .i64 0, .string ⟨#[]⟩, .string ⟨#[]⟩]) rfl (by kernel_rfl) (by kernel_rfl) (by kernel_rfl) (pq_seq pq_body) (by kernel_rfl) rfl (by kernel_rfl) (by kernel_rfl) (by kernel_rfl) ?_
  refine h_one 8 (by kernel_rfl) ?_
  refine hl_callx _ (k := 17) (args := #[.slice (some ⟨g, 0, none⟩) 1 cd]) (fun v' L' => ∃ ob', L' = ob' ++ ([] ++ [⟨b1, #[.int .i64 1, .int .i64 0, .int .i64 0, .string ⟨#[]⟩, .string ⟨#[]⟩], 31⟩, ⟨g, cur, 43⟩]) ∧ SlS v' (notL [aS4]) ob') rfl (by kernel_rfl) (fun _ => by kernel_rfl) (fun w hO => (not4_any _ _ [aS4] w (Sl.reads hm rfl hO (fun x hx => by simp at hx; subst hx; simp)) (by decide) aF4.short).mono fun e w' ⟨v', ob', k1, k2, k3⟩ => ⟨v', _, k1, ⟨ob', rfl, by rw [if_pos (by first | exact aR4 | rfl)] at k2; exact k2⟩, Own.joinN hO k3⟩) (fun v' L' ⟨ob', e, _⟩ w hO => by subst e; exact Own.sub [] (Own.sub ob' hO)) (fun v1 L2 hv2 => ?_)
  obtain ⟨o1, rfl, h1x⟩ := hv2
  obtain ⟨V1, c1, rfl⟩ := h1x.form
  refine h_cast (L' := (o1 ++ []) ++ [⟨b1, #[.int .i64 1, .int .i64 0, .int .i64 0, .string ⟨#[]⟩, .string ⟨#[]⟩], 31⟩, ⟨g, cur, 43⟩]) (List.append_assoc _ _ _).symm ?_
  refine h_one 10 (by kernel_rfl) ?_
  refine hs_call (o1 ++ []) _ (k := 22) (args := #[.slice V1 ((notL [aS4]).length) c1, .agg #[.int .i64 1, .int .i64 0, .int .i64 0, .string ⟨#[]⟩, .string ⟨#[]⟩]]) (.bool false) rfl (by kernel_rfl) (fun _ => by kernel_rfl) (fun w hO => ret_b aNot4 (has4_any _ _ (notL [aS4]) aV4 w (Sl.reads h1x rfl hO (fun x hx => by simp [hx])) (by have := aF4.not.len; omega) aF4.not.short aV4_short)) ?_
  refine h_take 11 (o1 ++ []) _ (.bool true) rfl (by kernel_rfl) (by kernel_rfl) (by kernel_rfl) (pq_seq pq_body) (by kernel_rfl) (fun _ _ => by kernel_rfl) ?_
  refine h_take 12 (o1 ++ []) _ (.bool true) rfl (by kernel_rfl) (by kernel_rfl) (by kernel_rfl) (pq_seq pq_body) (by kernel_rfl) (fun _ _ => by kernel_rfl) ?_
  refine h_take 13 (o1 ++ []) _ (.bool true) rfl (by kernel_rfl) (by kernel_rfl) (by kernel_rfl) (pq_seq pq_body) (by kernel_rfl) (fun _ _ => by kernel_rfl) ?_
  refine h_take 14 (o1 ++ []) _ (.slice (some ⟨g, 0, none⟩) 1 cd) rfl (by kernel_rfl) (by kernel_rfl) (by kernel_rfl) (pq_seq pq_body) (by kernel_rfl) (fun _ _ => by kernel_rfl) ?_
  refine h_one 15 (by kernel_rfl) ?_
  refine hl_callx _ (k := 17) (args := #[.slice none 0 0]) (fun v' L' => ∃ ob', L' = ob' ++ ((o1 ++ []) ++ [⟨b1, #[.int .i64 1, .int .i64 0, .int .i64 0, .string ⟨#[]⟩, .string ⟨#[]⟩], 31⟩, ⟨g, cur, 43⟩]) ∧ SlS v' (notL []) ob') rfl (by kernel_rfl) (fun _ => by kernel_rfl) (fun w hO => (not4_any _ _ ([] : List Sp) w (fun h0 => absurd h0 (Nat.lt_irrefl 0)) (by decide) (fun s hs => by simp at hs)).mono fun e w' ⟨v', ob', k1, k2, k3⟩ => ⟨v', _, k1, ⟨ob', rfl, by rw [if_pos (by first | exact aR4 | rfl)] at k2; exact k2⟩, Own.joinN hO k3⟩) (fun v' L' ⟨ob', e, _⟩ w hO => by subst e; exact Own.sub (o1 ++ []) (Own.sub ob' hO)) (fun v2 L2 hv2 => ?_)
  obtain ⟨o2, rfl, h2x⟩ := hv2
  obtain ⟨V2, c2, rfl⟩ := h2x.form
  refine h_cast (L' := (o2 ++ (o1 ++ [])) ++ [⟨b1, #[.int .i64 1, .int .i64 0, .int .i64 0, .string ⟨#[]⟩, .string ⟨#[]⟩], 31⟩, ⟨g, cur, 43⟩]) (List.append_assoc _ _ _).symm ?_
  refine h_one 16 (by kernel_rfl) ?_
  refine hs_call (o2 ++ (o1 ++ [])) _ (k := 18) (args := #[.slice (some ⟨g, 0, none⟩) 1 cd, .slice V2 ((notL []).length) c2]) (.bool true) rfl (by kernel_rfl) (fun _ => by kernel_rfl) (fun w hO => ret_b (by rw [aR4, aN4.may, decide_eq_true aIn4]; rfl) (within4_any _ _ _ _ [aS4] (notL []) w (Sl.reads hm rfl hO (fun x hx => by simp at hx; subst hx; simp)) (Sl.reads h2x rfl hO (fun x hx => by simp [hx])) (by decide) (by have := aN4.len; omega) aF4.short aN4.short hgc (SlS.cap h2x))) ?_
  refine h_take 17 (o2 ++ (o1 ++ [])) _ (.bool true) rfl (by kernel_rfl) (by kernel_rfl) (by kernel_rfl) (pq_seq pq_body) (by kernel_rfl) (fun _ _ => by kernel_rfl) ?_
  refine h_take 18 (o2 ++ (o1 ++ [])) _ (.bool true) rfl (by kernel_rfl) (by kernel_rfl) (by kernel_rfl) (pq_seq pq_body) (by kernel_rfl) (fun _ _ => by kernel_rfl) ?_
  refine h_take 19 (o2 ++ (o1 ++ [])) _ (.slice (some ⟨g, 0, none⟩) 1 cd) rfl (by kernel_rfl) (by kernel_rfl) (by kernel_rfl) (pq_seq pq_body) (by kernel_rfl) (fun _ _ => by kernel_rfl) ?_
  refine h_take 20 (o2 ++ (o1 ++ [])) _ (.slice (some ⟨g, 0, none⟩) 1 cd) rfl (by kernel_rfl) (by kernel_rfl) (by kernel_rfl) (pq_seq pq_body) (by kernel_rfl) (fun _ _ => by kernel_rfl) ?_
  refine h_one 21 (by kernel_rfl) ?_
  refine hl_callx _ (k := 17) (args := #[.slice (some ⟨g, 0, none⟩) 1 cd]) (fun v' L' => ∃ ob', L' = ob' ++ ((o2 ++ (o1 ++ [])) ++ [⟨b1, #[.int .i64 1, .int .i64 0, .int .i64 0, .string ⟨#[]⟩, .string ⟨#[]⟩], 31⟩, ⟨g, cur, 43⟩]) ∧ SlS v' (notL [aS4]) ob') rfl (by kernel_rfl) (fun _ => by kernel_rfl) (fun w hO => (not4_any _ _ [aS4] w (Sl.reads hm rfl hO (fun x hx => by simp at hx; subst hx; simp)) (by decide) aF4.short).mono fun e w' ⟨v', ob', k1, k2, k3⟩ => ⟨v', _, k1, ⟨ob', rfl, by rw [if_pos (by first | exact aR4 | rfl)] at k2; exact k2⟩, Own.joinN hO k3⟩) (fun v' L' ⟨ob', e, _⟩ w hO => by subst e; exact Own.sub (o2 ++ (o1 ++ [])) (Own.sub ob' hO)) (fun v3 L2 hv2 => ?_)
  obtain ⟨o3, rfl, h3x⟩ := hv2
  obtain ⟨V3, c3, rfl⟩ := h3x.form
  refine h_cast (L' := (o3 ++ (o2 ++ (o1 ++ []))) ++ [⟨b1, #[.int .i64 1, .int .i64 0, .int .i64 0, .string ⟨#[]⟩, .string ⟨#[]⟩], 31⟩, ⟨g, cur, 43⟩]) (List.append_assoc _ _ _).symm ?_
  refine h_one 22 (by kernel_rfl) ?_
  refine hl_callx _ (k := 16) (args := #[.slice (some ⟨g, 0, none⟩) 1 cd, .slice V3 ((notL [aS4]).length) c3]) (fun v' L' => ∃ ob', L' = ob' ++ ((o3 ++ (o2 ++ (o1 ++ []))) ++ [⟨b1, #[.int .i64 1, .int .i64 0, .int .i64 0, .string ⟨#[]⟩, .string ⟨#[]⟩], 31⟩, ⟨g, cur, 43⟩]) ∧ SlS v' [] ob') rfl (by kernel_rfl) (fun _ => by kernel_rfl) (fun w hO => (and4_any _ _ _ _ [aS4] (notL [aS4]) w (Sl.reads hm rfl hO (fun x hx => by simp at hx; subst hx; simp)) (Sl.reads h3x rfl hO (fun x hx => by simp [hx])) (by decide) (by have := aF4.not.len; omega) aF4.short aF4.not.short hgc (SlS.cap h3x)).mono fun e w' ⟨v', ob', k1, k2, k3⟩ => ⟨v', _, k1, ⟨ob', rfl, by rw [if_pos (by rw [aR4, aF4.not.may]; rfl), aAnd4] at k2; exact k2⟩, Own.joinN hO k3⟩) (fun v' L' ⟨ob', e, _⟩ w hO => by subst e; exact Own.sub (o3 ++ (o2 ++ (o1 ++ []))) (Own.sub ob' hO)) (fun v4 L2 hv2 => ?_)
  obtain ⟨o4, rfl, h4x⟩ := hv2
  obtain ⟨V4, c4, rfl⟩ := h4x.form
  refine h_cast (L' := (o4 ++ (o3 ++ (o2 ++ (o1 ++ [])))) ++ [⟨b1, #[.int .i64 1, .int .i64 0, .int .i64 0, .string ⟨#[]⟩, .string ⟨#[]⟩], 31⟩, ⟨g, cur, 43⟩]) (List.append_assoc _ _ _).symm ?_
  refine h_take 23 (o4 ++ (o3 ++ (o2 ++ (o1 ++ [])))) _ (.int .i64 (0 : Int)) rfl (by kernel_rfl) (by kernel_rfl) (by kernel_rfl) (pq_seq pq_body) (by kernel_rfl) (fun _ _ => by kernel_rfl) ?_
  refine h_take 24 (o4 ++ (o3 ++ (o2 ++ (o1 ++ [])))) _ (.bool true) rfl (by kernel_rfl) (by kernel_rfl) (by kernel_rfl) (pq_seq pq_body) (by kernel_rfl) (fun _ _ => by kernel_rfl) ?_
  refine h_take 25 (o4 ++ (o3 ++ (o2 ++ (o1 ++ [])))) _ (.bool true) rfl (by kernel_rfl) (by kernel_rfl) (by kernel_rfl) (pq_seq pq_body) (by kernel_rfl) (fun _ _ => by kernel_rfl) ?_
  refine h_take 26 (o4 ++ (o3 ++ (o2 ++ (o1 ++ [])))) _ (.bool true) rfl (by kernel_rfl) (by kernel_rfl) (by kernel_rfl) (pq_seq pq_body) (by kernel_rfl) (fun _ _ => by kernel_rfl) ?_
  refine h_done (by kernel_rfl) ?_
  refine fin_seq ?_
  refine ok_ret ?_
  refine fin_ret (.bool true) Tryz.results10 (by kernel_rfl) ?_
  exact fun w hO => ⟨rfl, hO.below⟩
end Go.Proofs.YtmlecnomdamgnaaGreat
end

section
/-
  linchpinlaw0.CopyRow.
-/
namespace Go.Proofs.YtmlecnomdamgnaaGreat
open Go.RowKit
set_option maxRecDepth 100000
set_option linter.unusedVariables false
set_option linter.unusedSimpArgs false
set_option maxHeartbeats 2000000

theorem copyrow_any (A : Option Addr) (cap : Nat) (l : List Sp) (W : World) (hv : Reads spanC W W.heap.size A l) (hn : l.length ≤ 1000000) :
    Calls Tryz.prog 25 #[.slice A l.length cap] W fun e w' => ∃ v' ob', e = .returned v' ∧ SlS v' l ob' ∧ Own [] W w' ob' := by
  refine calls_ok (n := 5) Tryz.func25 rfl (by kernel_rfl) (by kernel_rfl) ?_
  refine ok_seq ?_
  refine ok_region ?_
  refine s_val (.slice none 0 0) (by kernel_rfl) (fun _ => by kernel_rfl) ?_
  refine s_nil ?_
  refine fin_seq ?_
  refine ok_seq ?_
  refine ok_region ?_
  refine s_val (.slice A l.length cap) (by kernel_rfl) (fun _ => by kernel_rfl) ?_
  obtain ⟨i, z, e1, e2, e3, e4, e5⟩ := span_info
  refine s_cast (L' := [] ++ [] ++ []) rfl ?_
  refine s_appendR (E := []) (ob := []) (L0 := []) (sz := 14) (l := l) (A := A) (c := cap) spanC_len (by kernel_rfl) rfl Tryz.underlying22 e1 e2 e3 e4 (by kernel_rfl) (Sl.nil 43 14) (by kernel_rfl) (fun w hO => hv.on hO.below hO.size) span_cells (by unfold maxLen; omega) (by rw [e5]; omega) (fun v ob hvb => ?_)
  refine s_val (v) (by kernel_rfl) (fun _ => by kernel_rfl) ?_
  refine s_nil ?_
  refine fin_seq ?_
  refine ok_ret ?_
  refine fin_ret (v) Tryz.results25 (by kernel_rfl) ?_
  exact fun w hO => ⟨v, ob, rfl, hvb.to (by simp) (by simp), by simpa using hO⟩
end Go.Proofs.YtmlecnomdamgnaaGreat
end

section
/-
  linchpinlaw0's Version and Cut at any place: the version, the cut that the list's numbers name.
-/
namespace Go.Proofs.YtmlecnomdamgnaaGreat
open Go.RowKit
set_option linter.unusedSimpArgs false
set_option maxRecDepth 100000
set_option linter.unusedVariables false
set_option maxHeartbeats 2000000

theorem from_in {W : World} {v : Value} {l : List Int} (hv : ReadsI W W.heap.size v l) (hl : l.length ≤ 9223372036854775807) (i : Nat) (n : Int) (hi : i ≤ 1000000) (hn : 0 < n) (hn2 : n ≤ 1000000) {k : Int} (hk : plc (atL l i) n = k) :
    ∀ w, Below W.heap.size W w → Calls Tryz.prog 37 #[v, .int .i64 i, .int .i64 n] w fun e w' => e = .returned (.int .i64 k) ∧ Below w.heap.size w w' := fun w hb => by
  have h := from_any v l i n w ((hv.below hb).more hb.size) hl hi hn hn2
  rw [hk] at h
  exact h.mono fun _ _ ⟨e1, e2⟩ => ⟨e1, e2 ▸ Below.refl _ _⟩
theorem plc_nat' (v : Int) (n : Nat) (hn : 0 < n) : ∃ k : Nat, plc v n = (k : Int) ∧ k < n := by
  have h := plc_in v n (by omega)
  exact ⟨(plc v n).toNat, (Int.toNat_of_nonneg h.1).symm, by omega⟩
theorem rd_num : ∀ (k : Nat), k < 8 → readAt Tryz.prog 3 #[.int .i64 0, .int .i64 1, .int .i64 2, .int .i64 3, .int .i64 0, .int .i64 1, .int .i64 10, .int .i64 9999] k = some (.int .i64 (numT k))
  | 0, _ => by kernel_rfl
  | 1, _ => by kernel_rfl
  | 2, _ => by kernel_rfl
  | 3, _ => by kernel_rfl
  | 4, _ => by kernel_rfl
  | 5, _ => by kernel_rfl
  | 6, _ => by kernel_rfl
  | 7, _ => by kernel_rfl
theorem rd_pre : ∀ (k : Nat), k < 14 → readAt Tryz.prog 9 #[.string ⟨#[]⟩, .string ⟨#[]⟩, .string ⟨#[]⟩, .string ⟨#[]⟩, .string ⟨#[48]⟩, .string ⟨#[49]⟩, .string ⟨#[50]⟩, .string ⟨#[49, 49]⟩, .string ⟨#[97]⟩, .string ⟨#[97, 46, 49]⟩, .string ⟨#[97, 46, 98]⟩, .string ⟨#[98]⟩, .string ⟨#[48, 46, 48]⟩, .string ⟨#[114, 99, 46, 49]⟩] k = some (.string (mkS (preT14 k)))
  | 0, _ => by kernel_rfl
  | 1, _ => by kernel_rfl
  | 2, _ => by kernel_rfl
  | 3, _ => by kernel_rfl
  | 4, _ => by kernel_rfl
  | 5, _ => by kernel_rfl
  | 6, _ => by kernel_rfl
  | 7, _ => by kernel_rfl
  | 8, _ => by kernel_rfl
  | 9, _ => by kernel_rfl
  | 10, _ => by kernel_rfl
  | 11, _ => by kernel_rfl
  | 12, _ => by kernel_rfl
  | 13, _ => by kernel_rfl
theorem rd_bld : ∀ (k : Nat), k < 6 → readAt Tryz.prog 9 #[.string ⟨#[]⟩, .string ⟨#[]⟩, .string ⟨#[]⟩, .string ⟨#[]⟩, .string ⟨#[48, 48, 55]⟩, .string ⟨#[120, 46, 49]⟩] k = some (.string (mkS (bldT k)))
  | 0, _ => by kernel_rfl
  | 1, _ => by kernel_rfl
  | 2, _ => by kernel_rfl
  | 3, _ => by kernel_rfl
  | 4, _ => by kernel_rfl
  | 5, _ => by kernel_rfl

theorem gen_any (v : Value) (l : List Int) (i : Nat) (W : World) (hv : ReadsI W W.heap.size v l) (hl : l.length ≤ 9223372036854775807) (hi : i ≤ 100000) :
    Calls Tryz.prog 21 #[v, .int .i64 (i : Int)] W fun e w' => e = .returned (verV (genV l i)) ∧ Below W.heap.size W w' := by
  obtain ⟨k0, e0, q0⟩ := plc_nat' (atL l i) 8 (by omega)
  have f0 := from_in hv hl i 8 (by omega) (by omega) (by omega) e0
  obtain ⟨k1, e1, q1⟩ := plc_nat' (atL l (i + 1)) 8 (by omega)
  have f1 := from_in hv hl (i + 1) 8 (by omega) (by omega) (by omega) e1
  obtain ⟨k2, e2, q2⟩ := plc_nat' (atL l (i + 2)) 8 (by omega)
  have f2 := from_in hv hl (i + 2) 8 (by omega) (by omega) (by omega) e2
  obtain ⟨k3, e3, q3⟩ := plc_nat' (atL l (i + 3)) 14 (by omega)
  have f3 := from_in hv hl (i + 3) 14 (by omega) (by omega) (by omega) e3
  obtain ⟨k4, e4, q4⟩ := plc_nat' (atL l (i + 4)) 6 (by omega)
  have f4 := from_in hv hl (i + 4) 6 (by omega) (by omega) (by omega) e4
  have hg : genV l i = ⟨numT k0, numT k1, numT k2, preT14 k3, bldT k4⟩ := by unfold genV; rw [show plc (atL l i) 8 = _ from e0, show plc (atL l (i + 1)) 8 = _ from e1, show plc (atL l (i + 2)) 8 = _ from e2, show plc (atL l (i + 3)) 14 = _ from e3, show plc (atL l (i + 4)) 6 = _ from e4]; rfl
  rw [hg]
  refine calls_ok (n := 41) Tryz.func21 rfl (by kernel_rfl) (by kernel_rfl) ?_
  refine ok_seq ?_
  refine ok_region ?_
  refine s_alloc_at (.agg #[.int .i64 0, .int .i64 0, .int .i64 0, .string ⟨#[]⟩, .string ⟨#[]⟩]) (by kernel_rfl) rfl (by kernel_rfl) (fun b1 => ?_)
  refine s_nil ?_
  refine fin_seq ?_
  refine ok_seq ?_
  refine ok_region ?_
  refine s_val (.agg #[.int .i64 0, .int .i64 1, .int .i64 2, .int .i64 3, .int .i64 0, .int .i64 1, .int .i64 10, .int .i64 9999]) (by kernel_rfl) (fun _ => by kernel_rfl) ?_
  refine s_alloc_at (.agg #[.int .i64 0, .int .i64 0, .int .i64 0, .int .i64 0, .int .i64 0, .int .i64 0, .int .i64 0, .int .i64 0]) (by kernel_rfl) rfl (by kernel_rfl) (fun b2 => ?_)
  refine s_store_at 0 ⟨b2, #[.int .i64 0, .int .i64 0, .int .i64 0, .int .i64 0, .int .i64 0, .int .i64 0, .int .i64 0, .int .i64 0], 51⟩ (off := 0) (.agg #[.int .i64 0, .int .i64 1, .int .i64 2, .int .i64 3, .int .i64 0, .int .i64 1, .int .i64 10, .int .i64 9999]) (by kernel_rfl) rfl rfl (by kernel_rfl) (by kernel_rfl) (by kernel_rfl) (by kernel_rfl) (by kernel_rfl) ?_
  refine s_nil ?_
  refine fin_seq ?_
  refine ok_seq ?_
  refine ok_region ?_
  refine s_val (.agg #[.string ⟨#[]⟩, .string ⟨#[]⟩, .string ⟨#[]⟩, .string ⟨#[]⟩, .string ⟨#[48]⟩, .string ⟨#[49]⟩, .string ⟨#[50]⟩, .string ⟨#[49, 49]⟩, .string ⟨#[97]⟩, .string ⟨#[97, 46, 49]⟩, .string ⟨#[97, 46, 98]⟩, .string ⟨#[98]⟩, .string ⟨#[48, 46, 48]⟩, .string ⟨#[114, 99, 46, 49]⟩]) (by kernel_rfl) (fun _ => by kernel_rfl) ?_
  refine s_alloc_at (.agg #[.string ⟨#[]⟩, .string ⟨#[]⟩, .string ⟨#[]⟩, .string ⟨#[]⟩, .string ⟨#[]⟩, .string ⟨#[]⟩, .string ⟨#[]⟩, .string ⟨#[]⟩, .string ⟨#[]⟩, .string ⟨#[]⟩, .string ⟨#[]⟩, .string ⟨#[]⟩, .string ⟨#[]⟩, .string ⟨#[]⟩]) (by kernel_rfl) rfl (by kernel_rfl) (fun b3 => ?_)
  refine s_store_at 0 ⟨b3, #[.string ⟨#[]⟩, .string ⟨#[]⟩, .string ⟨#[]⟩, .string ⟨#[]⟩, .string ⟨#[]⟩, .string ⟨#[]⟩, .string ⟨#[]⟩, .string ⟨#[]⟩, .string ⟨#[]⟩, .string ⟨#[]⟩, .string ⟨#[]⟩, .string ⟨#[]⟩, .string ⟨#[]⟩, .string ⟨#[]⟩], 52⟩ (off := 0) (.agg #[.string ⟨#[]⟩, .string ⟨#[]⟩, .string ⟨#[]⟩, .string ⟨#[]⟩, .string ⟨#[48]⟩, .string ⟨#[49]⟩, .string ⟨#[50]⟩, .string ⟨#[49, 49]⟩, .string ⟨#[97]⟩, .string ⟨#[97, 46, 49]⟩, .string ⟨#[97, 46, 98]⟩, .string ⟨#[98]⟩, .string ⟨#[48, 46, 48]⟩, .string ⟨#[114, 99, 46, 49]⟩]) (by kernel_rfl) rfl rfl (by kernel_rfl) (by kernel_rfl) (by kernel_rfl) (by kernel_rfl) (by kernel_rfl) ?_
  refine s_nil ?_
  refine fin_seq ?_
  refine ok_seq ?_
  refine ok_region ?_
  refine s_val (.agg #[.string ⟨#[]⟩, .string ⟨#[]⟩, .string ⟨#[]⟩, .string ⟨#[]⟩, .string ⟨#[48, 48, 55]⟩, .string ⟨#[120, 46, 49]⟩]) (by kernel_rfl) (fun _ => by kernel_rfl) ?_
  refine s_alloc_at (.agg #[.string ⟨#[]⟩, .string ⟨#[]⟩, .string ⟨#[]⟩, .string ⟨#[]⟩, .string ⟨#[]⟩, .string ⟨#[]⟩]) (by kernel_rfl) rfl (by kernel_rfl) (fun b4 => ?_)
  refine s_store_at 0 ⟨b4, #[.string ⟨#[]⟩, .string ⟨#[]⟩, .string ⟨#[]⟩, .string ⟨#[]⟩, .string ⟨#[]⟩, .string ⟨#[]⟩], 53⟩ (off := 0) (.agg #[.string ⟨#[]⟩, .string ⟨#[]⟩, .string ⟨#[]⟩, .string ⟨#[]⟩, .string ⟨#[48, 48, 55]⟩, .string ⟨#[120, 46, 49]⟩]) (by kernel_rfl) rfl rfl (by kernel_rfl) (by kernel_rfl) (by kernel_rfl) (by kernel_rfl) (by kernel_rfl) ?_
  refine s_nil ?_
  refine fin_seq ?_
  refine ok_seq ?_
  refine ok_drawt 30 (by kernel_rfl) (by kernel_rfl) (by kernel_rfl) ?_
  simp only [List.take_succ_cons, List.take_zero, List.drop_succ_cons, List.drop_zero]
  refine q_val (v) (by kernel_rfl) (fun _ => by kernel_rfl) ?_
  refine q_val (.int .i64 ((i : Nat) : Int)) (by kernel_rfl) (fun _ => by kernel_rfl) ?_
  refine q_call (k := 37) (args := #[v, .int .i64 ((i : Nat) : Int), .int .i64 8]) (.int .i64 (k0 : Int)) (by kernel_rfl) (fun _ => by kernel_rfl) (fun w hO => f0 w hO.below) ?_
  refine q_val (.pointer (some ⟨b2, k0, none⟩)) (by kernel_rfl) (run_ixarr (b := b2) (off := 0) (k := .i64) (j := (k0 : Int)) (n := 8) (e := 3) (sz := 1) rfl (by kernel_rfl) (by kernel_rfl) (by kernel_rfl) (by kernel_rfl) (by omega) (by omega) (by omega)) ?_
  refine q_load 2 ⟨b2, #[.int .i64 0, .int .i64 1, .int .i64 2, .int .i64 3, .int .i64 0, .int .i64 1, .int .i64 10, .int .i64 9999], 51⟩ (off := k0) (.int .i64 (numT k0)) (by kernel_rfl) rfl (by kernel_rfl) (by kernel_rfl) (rd_num k0 q0) ?_
  refine q_val (v) (by kernel_rfl) (fun _ => by kernel_rfl) ?_
  refine q_val (.int .i64 ((i : Nat) : Int)) (by kernel_rfl) (fun _ => by kernel_rfl) ?_
  refine q_sum (k := .i64) (((i + 1 : Nat) : Int)) (by kernel_rfl) (fun _ => by kernel_rfl) (IntWalk.i64_in _ (by omega)) ?_
  refine q_call (k := 37) (args := #[v, .int .i64 ((i + 1 : Nat) : Int), .int .i64 8]) (.int .i64 (k1 : Int)) (by kernel_rfl) (fun _ => by kernel_rfl) (fun w hO => f1 w hO.below) ?_
  refine q_val (.pointer (some ⟨b2, k1, none⟩)) (by kernel_rfl) (run_ixarr (b := b2) (off := 0) (k := .i64) (j := (k1 : Int)) (n := 8) (e := 3) (sz := 1) rfl (by kernel_rfl) (by kernel_rfl) (by kernel_rfl) (by kernel_rfl) (by omega) (by omega) (by omega)) ?_
  refine q_load 2 ⟨b2, #[.int .i64 0, .int .i64 1, .int .i64 2, .int .i64 3, .int .i64 0, .int .i64 1, .int .i64 10, .int .i64 9999], 51⟩ (off := k1) (.int .i64 (numT k1)) (by kernel_rfl) rfl (by kernel_rfl) (by kernel_rfl) (rd_num k1 q1) ?_
  refine q_val (v) (by kernel_rfl) (fun _ => by kernel_rfl) ?_
  refine q_val (.int .i64 ((i : Nat) : Int)) (by kernel_rfl) (fun _ => by kernel_rfl) ?_
  refine q_sum (k := .i64) (((i + 2 : Nat) : Int)) (by kernel_rfl) (fun _ => by kernel_rfl) (IntWalk.i64_in _ (by omega)) ?_
  refine q_call (k := 37) (args := #[v, .int .i64 ((i + 2 : Nat) : Int), .int .i64 8]) (.int .i64 (k2 : Int)) (by kernel_rfl) (fun _ => by kernel_rfl) (fun w hO => f2 w hO.below) ?_
  refine q_val (.pointer (some ⟨b2, k2, none⟩)) (by kernel_rfl) (run_ixarr (b := b2) (off := 0) (k := .i64) (j := (k2 : Int)) (n := 8) (e := 3) (sz := 1) rfl (by kernel_rfl) (by kernel_rfl) (by kernel_rfl) (by kernel_rfl) (by omega) (by omega) (by omega)) ?_
  refine q_load 2 ⟨b2, #[.int .i64 0, .int .i64 1, .int .i64 2, .int .i64 3, .int .i64 0, .int .i64 1, .int .i64 10, .int .i64 9999], 51⟩ (off := k2) (.int .i64 (numT k2)) (by kernel_rfl) rfl (by kernel_rfl) (by kernel_rfl) (rd_num k2 q2) ?_
  refine q_val (v) (by kernel_rfl) (fun _ => by kernel_rfl) ?_
  refine q_val (.int .i64 ((i : Nat) : Int)) (by kernel_rfl) (fun _ => by kernel_rfl) ?_
  refine q_sum (k := .i64) (((i + 3 : Nat) : Int)) (by kernel_rfl) (fun _ => by kernel_rfl) (IntWalk.i64_in _ (by omega)) ?_
  refine q_call (k := 37) (args := #[v, .int .i64 ((i + 3 : Nat) : Int), .int .i64 14]) (.int .i64 (k3 : Int)) (by kernel_rfl) (fun _ => by kernel_rfl) (fun w hO => f3 w hO.below) ?_
  refine q_val (.pointer (some ⟨b3, k3, none⟩)) (by kernel_rfl) (run_ixarr (b := b3) (off := 0) (k := .i64) (j := (k3 : Int)) (n := 14) (e := 9) (sz := 1) rfl (by kernel_rfl) (by kernel_rfl) (by kernel_rfl) (by kernel_rfl) (by omega) (by omega) (by omega)) ?_
  refine q_load 1 ⟨b3, #[.string ⟨#[]⟩, .string ⟨#[]⟩, .string ⟨#[]⟩, .string ⟨#[]⟩, .string ⟨#[48]⟩, .string ⟨#[49]⟩, .string ⟨#[50]⟩, .string ⟨#[49, 49]⟩, .string ⟨#[97]⟩, .string ⟨#[97, 46, 49]⟩, .string ⟨#[97, 46, 98]⟩, .string ⟨#[98]⟩, .string ⟨#[48, 46, 48]⟩, .string ⟨#[114, 99, 46, 49]⟩], 52⟩ (off := k3) (.string (mkS (preT14 k3))) (by kernel_rfl) rfl (by kernel_rfl) (by kernel_rfl) (rd_pre k3 q3) ?_
  refine q_val (v) (by kernel_rfl) (fun _ => by kernel_rfl) ?_
  refine q_val (.int .i64 ((i : Nat) : Int)) (by kernel_rfl) (fun _ => by kernel_rfl) ?_
  refine q_sum (k := .i64) (((i + 4 : Nat) : Int)) (by kernel_rfl) (fun _ => by kernel_rfl) (IntWalk.i64_in _ (by omega)) ?_
  refine q_call (k := 37) (args := #[v, .int .i64 ((i + 4 : Nat) : Int), .int .i64 6]) (.int .i64 (k4 : Int)) (by kernel_rfl) (fun _ => by kernel_rfl) (fun w hO => f4 w hO.below) ?_
  refine q_val (.pointer (some ⟨b4, k4, none⟩)) (by kernel_rfl) (run_ixarr (b := b4) (off := 0) (k := .i64) (j := (k4 : Int)) (n := 6) (e := 9) (sz := 1) rfl (by kernel_rfl) (by kernel_rfl) (by kernel_rfl) (by kernel_rfl) (by omega) (by omega) (by omega)) ?_
  refine q_load 0 ⟨b4, #[.string ⟨#[]⟩, .string ⟨#[]⟩, .string ⟨#[]⟩, .string ⟨#[]⟩, .string ⟨#[48, 48, 55]⟩, .string ⟨#[120, 46, 49]⟩], 53⟩ (off := k4) (.string (mkS (bldT k4))) (by kernel_rfl) rfl (by kernel_rfl) (by kernel_rfl) (rd_bld k4 q4) ?_
  refine q_val (.agg #[.int .i64 (numT k0), .int .i64 (numT k1), .int .i64 (numT k2), .string (mkS (preT14 k3)), .string (mkS (bldT k4))]) (by kernel_rfl) (fun _ => by kernel_rfl) ?_
  refine q_nil ?_
  refine s_store_at 3 ⟨b1, #[.int .i64 0, .int .i64 0, .int .i64 0, .string ⟨#[]⟩, .string ⟨#[]⟩], 31⟩ (off := 0) (.agg #[.int .i64 (numT k0), .int .i64 (numT k1), .int .i64 (numT k2), .string (mkS (preT14 k3)), .string (mkS (bldT k4))]) (by kernel_rfl) rfl rfl (by kernel_rfl) (by kernel_rfl) (by kernel_rfl) (by kernel_rfl) (by kernel_rfl) ?_
  refine s_nil ?_
  refine fin_seq ?_
  refine ok_ret ?_
  refine fin_cell 3 ⟨b1, #[.int .i64 (numT k0), .int .i64 (numT k1), .int .i64 (numT k2), .string (mkS (preT14 k3)), .string (mkS (bldT k4))], 31⟩ (off := 0) (.agg #[.int .i64 (numT k0), .int .i64 (numT k1), .int .i64 (numT k2), .string (mkS (preT14 k3)), .string (mkS (bldT k4))]) Tryz.results21 (by kernel_rfl) (by kernel_rfl) (by kernel_rfl) ?_
  exact fun w hO => ⟨rfl, hO.below⟩
theorem genC_any (v : Value) (l : List Int) (i : Nat) (W : World) (hv : ReadsI W W.heap.size v l) (hl : l.length ≤ 9223372036854775807) (hi : i ≤ 100000) :
    Calls Tryz.prog 43 #[v, .int .i64 (i : Int)] W fun e w' => e = .returned (cutV (genC l i)) ∧ Below W.heap.size W w' := by
  obtain ⟨k0, e0, q0⟩ := plc_nat' (atL l (i + 5)) 9 (by omega)
  have f0 := from_in hv hl (i + 5) 9 (by omega) (by omega) (by omega) e0
  obtain ⟨k1, e1, q1⟩ := plc_nat' (atL l (i + 5)) 2 (by omega)
  have f1 := from_in hv hl (i + 5) 2 (by omega) (by omega) (by omega) e1
  refine calls_ok (n := 28) Tryz.func43 rfl (by kernel_rfl) (by kernel_rfl) ?_
  refine ok_seq ?_
  refine ok_region ?_
  refine s_alloc_at (.agg #[.int .i64 0, .int .i64 0, .int .i64 0, .int .i64 0, .string ⟨#[]⟩, .string ⟨#[]⟩, .bool false]) (by kernel_rfl) rfl (by kernel_rfl) (fun b1 => ?_)
  refine s_nil ?_
  refine fin_seq ?_
  refine ok_seq ?_
  refine ok_seq ?_
  refine ok_region ?_
  refine s_val (v) (by kernel_rfl) (fun _ => by kernel_rfl) ?_
  refine s_val (.int .i64 ((i : Nat) : Int)) (by kernel_rfl) (fun _ => by kernel_rfl) ?_
  refine s_sum (k := .i64) (((i + 5 : Nat) : Int)) (by kernel_rfl) (fun _ => by kernel_rfl) (IntWalk.i64_in _ (by omega)) ?_
  refine s_call (k := 37) (args := #[v, .int .i64 ((i + 5 : Nat) : Int), .int .i64 9]) (.int .i64 (k0 : Int)) (by kernel_rfl) (fun _ => by kernel_rfl) (fun w hO => f0 w hO.below) ?_
  refine s_val (.int .i64 (k0 : Int)) (by kernel_rfl) (fun _ => by kernel_rfl) ?_
  refine s_nil ?_
  refine fin_seq ?_
  refine ok_seq ?_
  refine ok_region ?_
  refine s_val (.int .i64 (k0 : Int)) (by kernel_rfl) (fun _ => by kernel_rfl) ?_
  by_cases h1 : ((k0 : Int) : Int) < 2
  · skip
    refine s_dec (p := ((k0 : Int) : Int) < 2) true (by kernel_rfl) (fun _ => by kernel_rfl) (decide_eq_true (h1)) ?_
    refine s_nil ?_
    refine fin_seq ?_
    refine ok_true (by kernel_rfl) ?_
    refine ok_seq ?_
    refine ok_region ?_
    refine s_val (.int .i64 (k0 : Int)) (by kernel_rfl) (fun _ => by kernel_rfl) ?_
    refine s_sum (k := .i64) ((2 : Int) * (k0 : Int)) (by kernel_rfl) (fun _ => by kernel_rfl) (IntWalk.i64_in _ (by omega)) ?_
    refine s_sum (k := .i64) ((((2 : Int) * (k0 : Int)) : Int) - 1) (by kernel_rfl) (fun _ => by kernel_rfl) (IntWalk.i64_in _ (by omega)) ?_
    refine s_val (.agg #[.int .i64 ((((2 : Int) * (k0 : Int)) : Int) - 1), .int .i64 0, .int .i64 0, .int .i64 0, .string ⟨#[]⟩, .string ⟨#[]⟩, .bool false]) (by kernel_rfl) (fun _ => by kernel_rfl) ?_
    refine s_store_at 0 ⟨b1, #[.int .i64 0, .int .i64 0, .int .i64 0, .int .i64 0, .string ⟨#[]⟩, .string ⟨#[]⟩, .bool false], 41⟩ (off := 0) (.agg #[.int .i64 ((((2 : Int) * (k0 : Int)) : Int) - 1), .int .i64 0, .int .i64 0, .int .i64 0, .string ⟨#[]⟩, .string ⟨#[]⟩, .bool false]) (by kernel_rfl) rfl rfl (by kernel_rfl) (by kernel_rfl) (by kernel_rfl) (by kernel_rfl) (by kernel_rfl) ?_
    refine s_nil ?_
    refine fin_seq ?_
    refine ok_ret ?_
    refine fin_seq_ret ?_
    refine fin_cell 0 ⟨b1, #[.int .i64 ((((2 : Int) * (k0 : Int)) : Int) - 1), .int .i64 0, .int .i64 0, .int .i64 0, .string ⟨#[]⟩, .string ⟨#[]⟩, .bool false], 41⟩ (off := 0) (.agg #[.int .i64 ((((2 : Int) * (k0 : Int)) : Int) - 1), .int .i64 0, .int .i64 0, .int .i64 0, .string ⟨#[]⟩, .string ⟨#[]⟩, .bool false]) Tryz.results43 (by kernel_rfl) (by kernel_rfl) (by kernel_rfl) ?_
    exact fun w hO => ⟨by rw [show cutV (genC l i) = .agg #[.int .i64 ((((2 : Int) * (k0 : Int)) : Int) - 1), .int .i64 0, .int .i64 0, .int .i64 0, .string ⟨#[]⟩, .string ⟨#[]⟩, .bool false] from by unfold genC; rw [show plc (atL l (i + 5)) 9 = _ from e0, show plc (atL l (i + 5)) 2 = _ from e1]; simp [h1]; rfl], hO.below⟩
  · skip
    refine s_dec (p := ((k0 : Int) : Int) < 2) false (by kernel_rfl) (fun _ => by kernel_rfl) (decide_eq_false (h1)) ?_
    refine s_nil ?_
    refine fin_seq ?_
    refine ok_false (by kernel_rfl) ?_
    refine ok_skip ?_
    refine fin_seq ?_
    refine ok_seq ?_
    refine ok_region ?_
    refine s_val (v) (by kernel_rfl) (fun _ => by kernel_rfl) ?_
    refine s_val (.int .i64 ((i : Nat) : Int)) (by kernel_rfl) (fun _ => by kernel_rfl) ?_
    refine s_call (k := 21) (args := #[v, .int .i64 ((i : Nat) : Int)]) (verV (genV l i)) (by kernel_rfl) (fun _ => by kernel_rfl) (fun w hO => gen_any v l i w ((hv.below hO.below).more hO.below.size) hl (by omega)) ?_
    refine s_alloc_at (.agg #[.int .i64 0, .int .i64 0, .int .i64 0, .string ⟨#[]⟩, .string ⟨#[]⟩]) (by kernel_rfl) rfl (by kernel_rfl) (fun b2 => ?_)
    refine s_store_at 0 ⟨b2, #[.int .i64 0, .int .i64 0, .int .i64 0, .string ⟨#[]⟩, .string ⟨#[]⟩], 31⟩ (off := 0) (verV (genV l i)) (by kernel_rfl) rfl rfl (by kernel_rfl) (by kernel_rfl) (by kernel_rfl) (by kernel_rfl) (by kernel_rfl) ?_
    refine s_nil ?_
    refine fin_seq ?_
    refine ok_seq ?_
    refine ok_region ?_
    refine s_val (.pointer (some ⟨b2, 4, none⟩)) (by kernel_rfl) (fun _ => by kernel_rfl) ?_
    refine s_store_at 0 ⟨b2, (verV (genV l i)).cells, 31⟩ (off := 4) (.string ⟨#[]⟩) (by kernel_rfl) rfl rfl (by kernel_rfl) (by kernel_rfl) (by kernel_rfl) (by kernel_rfl) (by kernel_rfl) ?_
    refine s_nil ?_
    refine fin_seq ?_
    refine ok_seq ?_
    refine ok_drawt 7 (by kernel_rfl) (by kernel_rfl) (by kernel_rfl) ?_
    simp only [List.take_succ_cons, List.take_zero, List.drop_succ_cons, List.drop_zero]
    refine q_load 0 ⟨b2, #[.int .i64 ((genV l i).maj), .int .i64 ((genV l i).min), .int .i64 ((genV l i).pat), .string (mkS (genV l i).pre), .string ⟨#[]⟩], 31⟩ (off := 0) (.agg #[.int .i64 ((genV l i).maj), .int .i64 ((genV l i).min), .int .i64 ((genV l i).pat), .string (mkS (genV l i).pre), .string ⟨#[]⟩]) (by kernel_rfl) rfl (by kernel_rfl) (by kernel_rfl) (by kernel_rfl) ?_
    refine q_val (v) (by kernel_rfl) (fun _ => by kernel_rfl) ?_
    refine q_val (.int .i64 ((i : Nat) : Int)) (by kernel_rfl) (fun _ => by kernel_rfl) ?_
    refine q_sum (k := .i64) (((i + 5 : Nat) : Int)) (by kernel_rfl) (fun _ => by kernel_rfl) (IntWalk.i64_in _ (by omega)) ?_
    refine q_call (k := 37) (args := #[v, .int .i64 ((i + 5 : Nat) : Int), .int .i64 2]) (.int .i64 (k1 : Int)) (by kernel_rfl) (fun _ => by kernel_rfl) (fun w hO => f1 w hO.below) ?_
    by_cases h2 : ((k1 : Int) : Int) = 1
    · skip
      refine q_dec (p := ((k1 : Int) : Int) = 1) true (by kernel_rfl) (fun _ => by kernel_rfl) (decide_eq_true (h2)) ?_
      refine q_val (.agg #[.int .i64 0, .int .i64 ((genV l i).maj), .int .i64 ((genV l i).min), .int .i64 ((genV l i).pat), .string (mkS (genV l i).pre), .string ⟨#[]⟩, .bool true]) (by kernel_rfl) (fun _ => by kernel_rfl) ?_
      refine q_nil ?_
      refine s_store_at 1 ⟨b1, #[.int .i64 0, .int .i64 0, .int .i64 0, .int .i64 0, .string ⟨#[]⟩, .string ⟨#[]⟩, .bool false], 41⟩ (off := 0) (.agg #[.int .i64 0, .int .i64 ((genV l i).maj), .int .i64 ((genV l i).min), .int .i64 ((genV l i).pat), .string (mkS (genV l i).pre), .string ⟨#[]⟩, .bool true]) (by kernel_rfl) rfl rfl (by kernel_rfl) (by kernel_rfl) (by kernel_rfl) (by kernel_rfl) (by kernel_rfl) ?_
      refine s_nil ?_
      refine fin_seq ?_
      refine ok_ret ?_
      refine fin_cell 1 ⟨b1, #[.int .i64 0, .int .i64 ((genV l i).maj), .int .i64 ((genV l i).min), .int .i64 ((genV l i).pat), .string (mkS (genV l i).pre), .string ⟨#[]⟩, .bool true], 41⟩ (off := 0) (.agg #[.int .i64 0, .int .i64 ((genV l i).maj), .int .i64 ((genV l i).min), .int .i64 ((genV l i).pat), .string (mkS (genV l i).pre), .string ⟨#[]⟩, .bool true]) Tryz.results43 (by kernel_rfl) (by kernel_rfl) (by kernel_rfl) ?_
      exact fun w hO => ⟨by rw [show cutV (genC l i) = .agg #[.int .i64 0, .int .i64 ((genV l i).maj), .int .i64 ((genV l i).min), .int .i64 ((genV l i).pat), .string (mkS (genV l i).pre), .string ⟨#[]⟩, .bool true] from by unfold genC; rw [show plc (atL l (i + 5)) 9 = _ from e0, show plc (atL l (i + 5)) 2 = _ from e1]; simp [h1, h2]; rfl], hO.below⟩
    · skip
      refine q_dec (p := ((k1 : Int) : Int) = 1) false (by kernel_rfl) (fun _ => by kernel_rfl) (decide_eq_false (h2)) ?_
      refine q_val (.agg #[.int .i64 0, .int .i64 ((genV l i).maj), .int .i64 ((genV l i).min), .int .i64 ((genV l i).pat), .string (mkS (genV l i).pre), .string ⟨#[]⟩, .bool false]) (by kernel_rfl) (fun _ => by kernel_rfl) ?_
      refine q_nil ?_
      refine s_store_at 1 ⟨b1, #[.int .i64 0, .int .i64 0, .int .i64 0, .int .i64 0, .string ⟨#[]⟩, .string ⟨#[]⟩, .bool false], 41⟩ (off := 0) (.agg #[.int .i64 0, .int .i64 ((genV l i).maj), .int .i64 ((genV l i).min), .int .i64 ((genV l i).pat), .string (mkS (genV l i).pre), .string ⟨#[]⟩, .bool false]) (by kernel_rfl) rfl rfl (by kernel_rfl) (by kernel_rfl) (by kernel_rfl) (by kernel_rfl) (by kernel_rfl) ?_
      refine s_nil ?_
      refine fin_seq ?_
      refine ok_ret ?_
      refine fin_cell 1 ⟨b1, #[.int .i64 0, .int .i64 ((genV l i).maj), .int .i64 ((genV l i).min), .int .i64 ((genV l i).pat), .string (mkS (genV l i).pre), .string ⟨#[]⟩, .bool false], 41⟩ (off := 0) (.agg #[.int .i64 0, .int .i64 ((genV l i).maj), .int .i64 ((genV l i).min), .int .i64 ((genV l i).pat), .string (mkS (genV l i).pre), .string ⟨#[]⟩, .bool false]) Tryz.results43 (by kernel_rfl) (by kernel_rfl) (by kernel_rfl) ?_
      exact fun w hO => ⟨by rw [show cutV (genC l i) = .agg #[.int .i64 0, .int .i64 ((genV l i).maj), .int .i64 ((genV l i).min), .int .i64 ((genV l i).pat), .string (mkS (genV l i).pre), .string ⟨#[]⟩, .bool false] from by unfold genC; rw [show plc (atL l (i + 5)) 9 = _ from e0, show plc (atL l (i + 5)) 2 = _ from e1]; simp [h1, h2]; rfl], hO.below⟩
end Go.Proofs.YtmlecnomdamgnaaGreat
end

section
/-
  linchpinlaw0.Spans, Row: the spans, the row that the list's numbers name.
-/
namespace Go.Proofs.YtmlecnomdamgnaaGreat
open Go.RowKit
set_option maxRecDepth 100000
set_option linter.unusedVariables false
set_option linter.unusedSimpArgs false
set_option maxHeartbeats 2000000

theorem Own.mid {M : List Nat} {W w : World} {E ob : List Blk} (h : Own M W w (E ++ ob ++ [])) : Own M W w (ob ++ []) := Own.sub E (by rw [← List.append_assoc]; exact h)
def ordSp (c d : Cu) : Sp := if 0 < cmpC c d then ⟨d, c⟩ else ⟨c, d⟩
def spG (l : List Int) (i n : Nat) : Sp := ordSp (genC l (i + 12 * n - 11)) (genC l (i + 12 * n - 5))
def spansG (l : List Int) (i : Nat) : Nat → List Sp
  | 0 => []
  | n + 1 => (if (spG l i (n + 1)).may then [spG l i (n + 1)] else []) ++ spansG l i n
theorem genC_short (l : List Int) (i : Nat) : (genC l i).short := ⟨by have := genC_pre l i; omega, by have := genC_bld l i; omega⟩
theorem spansG_may (l : List Int) (i : Nat) : ∀ n, ∀ s ∈ spansG l i n, s.may = true
  | 0, s, hs => by simp [spansG] at hs
  | n + 1, s, hs => by
    unfold spansG at hs
    rcases List.mem_append.1 hs with h | h
    · split at h
      · rename_i hm
        obtain rfl : s = _ := by simpa using h
        exact hm
      · simp at h
    · exact spansG_may l i n s h
theorem spansG_len (l : List Int) (i : Nat) : ∀ n, (spansG l i n).length ≤ n
  | 0 => by simp [spansG]
  | n + 1 => by
    have ih := spansG_len l i n
    unfold spansG
    split
    · simp; omega
    · simp; omega
structure SpI (l : List Int) (i N n : Nat) (z : Int) (u : Value) (acc : List Sp) (ob : List Blk) : Prop where
  z : z = (n : Int)
  sl : SlS u acc ob
  len : acc.length + n ≤ N
  eq : acc ++ spansG l i n = spansG l i N
theorem SpI.keep {l : List Int} {i N n : Nat} {z : Int} {u : Value} {acc : List Sp} {ob : List Blk} (h : SpI l i N n z u acc ob) (h0 : 0 < n) {s : Sp} (hs : spG l i n = s) (hm : s.may = false) : SpI l i N (n - 1) (z - 1) u acc ob :=
  ⟨by have := h.z; omega, h.sl, by have := h.len; omega, by
    obtain ⟨m, rfl⟩ : ∃ m, n = m + 1 := ⟨n - 1, by omega⟩
    have e := h.eq
    rw [show spansG l i (m + 1) = (if (spG l i (m + 1)).may then [spG l i (m + 1)] else []) ++ spansG l i m from rfl, hs, hm] at e
    simpa using e⟩
theorem SpI.grow {l : List Int} {i N n : Nat} {z : Int} {u u2 : Value} {acc : List Sp} {ob ob2 : List Blk} (h : SpI l i N n z u acc ob) (h0 : 0 < n) {s : Sp} (hs : spG l i n = s) (hm : s.may = true) (h2 : Sl 43 14 u2 (acc.length + 1) (acc.flatMap spanC ++ spanC s) ob2) : SpI l i N (n - 1) (z - 1) u2 (acc ++ [s]) ob2 :=
  ⟨by have := h.z; omega, h2.to (by simp) (by simp), by have := h.len; simp; omega, by
    obtain ⟨m, rfl⟩ : ∃ m, n = m + 1 := ⟨n - 1, by omega⟩
    have e := h.eq
    rw [show spansG l i (m + 1) = (if (spG l i (m + 1)).may then [spG l i (m + 1)] else []) ++ spansG l i m from rfl, hs, hm] at e
    simpa using e⟩

theorem spans_any (v : Value) (l : List Int) (i most : Nat) (W : World) (hv : ReadsI W W.heap.size v l) (hl : l.length ≤ 9223372036854775807) (hi : i ≤ 50000) (hm : most ≤ 1000) :
    Calls Tryz.prog 24 #[v, .int .i64 (i : Int), .int .i64 (most : Int)] W fun e w' => ∃ v' ob', e = .returned v' ∧ SlS v' (spansG l i (plc (atL l i) (most + 1 : Nat)).toNat) ob' ∧ Own [] W w' ob' := by
  obtain ⟨N, e0, q0⟩ := plc_nat' (atL l i) (most + 1) (by omega)
  have f0 := from_in hv hl i (most + 1 : Nat) (by omega) (by omega) (by omega) e0
  rw [e0, Int.toNat_natCast]
  refine calls_ok (n := 53) Tryz.func24 rfl (by kernel_rfl) (by kernel_rfl) ?_
  refine ok_seq ?_
  refine ok_region ?_
  refine s_val (.slice none 0 0) (by kernel_rfl) (fun _ => by kernel_rfl) ?_
  refine s_nil ?_
  refine fin_seq ?_
  refine ok_seq ?_
  refine ok_region ?_
  refine s_val (.slice none 0 0) (by kernel_rfl) (fun _ => by kernel_rfl) ?_
  refine s_nil ?_
  refine fin_seq ?_
  refine ok_seq ?_
  refine ok_seq ?_
  refine ok_region ?_
  refine s_val (v) (by kernel_rfl) (fun _ => by kernel_rfl) ?_
  refine s_val (.int .i64 (i : Int)) (by kernel_rfl) (fun _ => by kernel_rfl) ?_
  refine s_val (.int .i64 (most : Int)) (by kernel_rfl) (fun _ => by kernel_rfl) ?_
  refine s_sum (k := .i64) (((most + 1 : Nat) : Int)) (by kernel_rfl) (fun _ => by kernel_rfl) (IntWalk.i64_in _ (by omega)) ?_
  refine s_call (k := 37) (args := #[v, .int .i64 (i : Int), .int .i64 ((most + 1 : Nat) : Int)]) (.int .i64 (N : Int)) (by kernel_rfl) (fun _ => by kernel_rfl) (fun w hO => f0 w hO.below) ?_
  refine s_val (.int .i64 (N : Int)) (by kernel_rfl) (fun _ => by kernel_rfl) ?_
  refine s_nil ?_
  refine fin_seq ?_
  refine ok_block ?_
  refine ok_cast (L' := [] ++ []) rfl ?_
  refine ok_loop (fun L f m => ∃ (n : Nat) (z : Int) (u : Value) (acc : List Sp) (ob : List Blk) (j : Nat → Value), (SpI l i N n z u acc ob) ∧ L = ob ++ [] ∧ f = upds j [(0, v), (1, .int .i64 (i : Int)), (7, u), (8, .int .i64 z)] ∧ m = z.toNat) ((N : Int).toNat) ⟨N, _, _, [], [], _, ⟨rfl, Sl.nil _ _, by simp, rfl⟩, rfl, upds_self _ ⟨by kernel_rfl, by kernel_rfl, by kernel_rfl, by kernel_rfl, trivial⟩, rfl⟩ ?_
  rintro L f m ⟨n, z, u, acc, ob, j, hrel, rfl, rfl, rfl⟩
  refine ok_seq ?_
  refine ok_seq ?_
  refine ok_region ?_
  refine s_val (.int .i64 z) (by kernel_rfl) (fun _ => by kernel_rfl) ?_
  by_cases h1 : (0 : Int) < z
  · skip
    have hz := hrel.z
    have hlen := hrel.len
    obtain ⟨c, hc⟩ : ∃ c, genC l (i + 12 * n - 11) = c := ⟨_, rfl⟩
    obtain ⟨d, hd⟩ : ∃ d, genC l (i + 12 * n - 5) = d := ⟨_, rfl⟩
    have hcS : c.short := hc ▸ genC_short l _
    have hdS : d.short := hd ▸ genC_short l _
    have hsp : spG l i n = ordSp c d := by unfold spG; rw [hc, hd]
    refine s_dec (p := (0 : Int) < z) true (by kernel_rfl) (fun _ => by kernel_rfl) (decide_eq_true (h1)) ?_
    refine s_nil ?_
    refine fin_seq ?_
    refine ok_true (by kernel_rfl) ?_
    refine ok_skip ?_
    refine fin_seq ?_
    refine ok_seq ?_
    refine ok_block ?_
    refine ok_seq ?_
    refine ok_region ?_
    refine s_val (v) (by kernel_rfl) (fun _ => by kernel_rfl) ?_
    refine s_val (.int .i64 (i : Int)) (by kernel_rfl) (fun _ => by kernel_rfl) ?_
    refine s_val (.int .i64 z) (by kernel_rfl) (fun _ => by kernel_rfl) ?_
    refine s_sum (k := .i64) ((12 : Int) * z) (by kernel_rfl) (fun _ => by kernel_rfl) (IntWalk.i64_in _ (by omega)) ?_
    refine s_sum (k := .i64) (((i : Int) : Int) + ((12 : Int) * z)) (by kernel_rfl) (fun _ => by kernel_rfl) (IntWalk.i64_in _ (by omega)) ?_
    refine s_sum (k := .i64) (((((i : Int) : Int) + ((12 : Int) * z)) : Int) - 11) (by kernel_rfl) (fun _ => by kernel_rfl) (IntWalk.i64_in _ (by omega)) ?_
    refine s_call (k := 43) (args := #[v, .int .i64 (((((i : Int) : Int) + ((12 : Int) * z)) : Int) - 11)]) (cutV c) (by kernel_rfl) (fun _ => by kernel_rfl) (fun w hO => by rw [show ((((i : Int) : Int) + ((12 : Int) * z)) : Int) - 11 = ((i + 12 * n - 11 : Nat) : Int) from by omega, ← hc]; exact genC_any v l (i + 12 * n - 11) w ((hv.below hO.below).more hO.below.size) hl (by omega)) ?_
    refine s_val (v) (by kernel_rfl) (fun _ => by kernel_rfl) ?_
    refine s_val (.int .i64 (i : Int)) (by kernel_rfl) (fun _ => by kernel_rfl) ?_
    refine s_val (.int .i64 z) (by kernel_rfl) (fun _ => by kernel_rfl) ?_
    refine s_sum (k := .i64) ((12 : Int) * z) (by kernel_rfl) (fun _ => by kernel_rfl) (IntWalk.i64_in _ (by omega)) ?_
    refine s_sum (k := .i64) (((i : Int) : Int) + ((12 : Int) * z)) (by kernel_rfl) (fun _ => by kernel_rfl) (IntWalk.i64_in _ (by omega)) ?_
    refine s_sum (k := .i64) (((((i : Int) : Int) + ((12 : Int) * z)) : Int) - 5) (by kernel_rfl) (fun _ => by kernel_rfl) (IntWalk.i64_in _ (by omega)) ?_
    refine s_call (k := 43) (args := #[v, .int .i64 (((((i : Int) : Int) + ((12 : Int) * z)) : Int) - 5)]) (cutV d) (by kernel_rfl) (fun _ => by kernel_rfl) (fun w hO => by rw [show ((((i : Int) : Int) + ((12 : Int) * z)) : Int) - 5 = ((i + 12 * n - 5 : Nat) : Int) from by omega, ← hd]; exact genC_any v l (i + 12 * n - 5) w ((hv.below hO.below).more hO.below.size) hl (by omega)) ?_
    refine s_val (.agg #[.int .i64 c.e, .int .i64 c.v.maj, .int .i64 c.v.min, .int .i64 c.v.pat, .string (mkS c.v.pre), .string (mkS c.v.build), .bool c.aft, .int .i64 d.e, .int .i64 d.v.maj, .int .i64 d.v.min, .int .i64 d.v.pat, .string (mkS d.v.pre), .string (mkS d.v.build), .bool d.aft]) (by kernel_rfl) (fun _ => by kernel_rfl) ?_
    refine s_alloc_at (.agg #[.int .i64 0, .int .i64 0, .int .i64 0, .int .i64 0, .string ⟨#[]⟩, .string ⟨#[]⟩, .bool false, .int .i64 0, .int .i64 0, .int .i64 0, .int .i64 0, .string ⟨#[]⟩, .string ⟨#[]⟩, .bool false]) (by kernel_rfl) rfl (by kernel_rfl) (fun b1 => ?_)
    refine s_store_at 0 ⟨b1, #[.int .i64 0, .int .i64 0, .int .i64 0, .int .i64 0, .string ⟨#[]⟩, .string ⟨#[]⟩, .bool false, .int .i64 0, .int .i64 0, .int .i64 0, .int .i64 0, .string ⟨#[]⟩, .string ⟨#[]⟩, .bool false], 43⟩ (off := 0) (.agg #[.int .i64 c.e, .int .i64 c.v.maj, .int .i64 c.v.min, .int .i64 c.v.pat, .string (mkS c.v.pre), .string (mkS c.v.build), .bool c.aft, .int .i64 d.e, .int .i64 d.v.maj, .int .i64 d.v.min, .int .i64 d.v.pat, .string (mkS d.v.pre), .string (mkS d.v.build), .bool d.aft]) (by kernel_rfl) rfl rfl (by kernel_rfl) (by kernel_rfl) (by kernel_rfl) (by kernel_rfl) (by kernel_rfl) ?_
    refine s_nil ?_
    refine fin_seq ?_
    refine ok_seq ?_
    refine ok_seq ?_
    refine ok_region ?_
    refine s_val (.pointer (some ⟨b1, 0, none⟩)) (by kernel_rfl) (fun _ => by kernel_rfl) ?_
    refine s_load 0 ⟨b1, #[.int .i64 c.e, .int .i64 c.v.maj, .int .i64 c.v.min, .int .i64 c.v.pat, .string (mkS c.v.pre), .string (mkS c.v.build), .bool c.aft, .int .i64 d.e, .int .i64 d.v.maj, .int .i64 d.v.min, .int .i64 d.v.pat, .string (mkS d.v.pre), .string (mkS d.v.build), .bool d.aft], 43⟩ (off := 0) (.agg #[.int .i64 c.e, .int .i64 c.v.maj, .int .i64 c.v.min, .int .i64 c.v.pat, .string (mkS c.v.pre), .string (mkS c.v.build), .bool c.aft]) (by kernel_rfl) rfl (by kernel_rfl) (by kernel_rfl) (by kernel_rfl) ?_
    refine s_val (.pointer (some ⟨b1, 7, none⟩)) (by kernel_rfl) (fun _ => by kernel_rfl) ?_
    refine s_load 0 ⟨b1, #[.int .i64 c.e, .int .i64 c.v.maj, .int .i64 c.v.min, .int .i64 c.v.pat, .string (mkS c.v.pre), .string (mkS c.v.build), .bool c.aft, .int .i64 d.e, .int .i64 d.v.maj, .int .i64 d.v.min, .int .i64 d.v.pat, .string (mkS d.v.pre), .string (mkS d.v.build), .bool d.aft], 43⟩ (off := 7) (.agg #[.int .i64 d.e, .int .i64 d.v.maj, .int .i64 d.v.min, .int .i64 d.v.pat, .string (mkS d.v.pre), .string (mkS d.v.build), .bool d.aft]) (by kernel_rfl) rfl (by kernel_rfl) (by kernel_rfl) (by kernel_rfl) ?_
    refine s_call (k := 44) (args := #[.agg #[.int .i64 c.e, .int .i64 c.v.maj, .int .i64 c.v.min, .int .i64 c.v.pat, .string (mkS c.v.pre), .string (mkS c.v.build), .bool c.aft], .agg #[.int .i64 d.e, .int .i64 d.v.maj, .int .i64 d.v.min, .int .i64 d.v.pat, .string (mkS d.v.pre), .string (mkS d.v.build), .bool d.aft]]) (.int .i64 (cmpC c d)) (by kernel_rfl) (fun _ => by kernel_rfl) (fun w _ => rcmpC_any c d w hcS hdS) ?_
    by_cases h2 : (0 : Int) < cmpC c d
    · skip
      rw [show ordSp c d = ⟨d, c⟩ from if_pos h2] at hsp
      refine s_dec (p := (0 : Int) < cmpC c d) true (by kernel_rfl) (fun _ => by kernel_rfl) (decide_eq_true (h2)) ?_
      refine s_nil ?_
      refine fin_seq ?_
      refine ok_true (by kernel_rfl) ?_
      refine ok_region ?_
      refine s_val (.pointer (some ⟨b1, 7, none⟩)) (by kernel_rfl) (fun _ => by kernel_rfl) ?_
      refine s_load 0 ⟨b1, #[.int .i64 c.e, .int .i64 c.v.maj, .int .i64 c.v.min, .int .i64 c.v.pat, .string (mkS c.v.pre), .string (mkS c.v.build), .bool c.aft, .int .i64 d.e, .int .i64 d.v.maj, .int .i64 d.v.min, .int .i64 d.v.pat, .string (mkS d.v.pre), .string (mkS d.v.build), .bool d.aft], 43⟩ (off := 7) (.agg #[.int .i64 d.e, .int .i64 d.v.maj, .int .i64 d.v.min, .int .i64 d.v.pat, .string (mkS d.v.pre), .string (mkS d.v.build), .bool d.aft]) (by kernel_rfl) rfl (by kernel_rfl) (by kernel_rfl) (by kernel_rfl) ?_
      refine s_val (.pointer (some ⟨b1, 0, none⟩)) (by kernel_rfl) (fun _ => by kernel_rfl) ?_
      refine s_load 0 ⟨b1, #[.int .i64 c.e, .int .i64 c.v.maj, .int .i64 c.v.min, .int .i64 c.v.pat, .string (mkS c.v.pre), .string (mkS c.v.build), .bool c.aft, .int .i64 d.e, .int .i64 d.v.maj, .int .i64 d.v.min, .int .i64 d.v.pat, .string (mkS d.v.pre), .string (mkS d.v.build), .bool d.aft], 43⟩ (off := 0) (.agg #[.int .i64 c.e, .int .i64 c.v.maj, .int .i64 c.v.min, .int .i64 c.v.pat, .string (mkS c.v.pre), .string (mkS c.v.build), .bool c.aft]) (by kernel_rfl) rfl (by kernel_rfl) (by kernel_rfl) (by kernel_rfl) ?_
      refine s_val (.pointer (some ⟨b1, 0, none⟩)) (by kernel_rfl) (fun _ => by kernel_rfl) ?_
      refine s_store_at 0 ⟨b1, #[.int .i64 c.e, .int .i64 c.v.maj, .int .i64 c.v.min, .int .i64 c.v.pat, .string (mkS c.v.pre), .string (mkS c.v.build), .bool c.aft, .int .i64 d.e, .int .i64 d.v.maj, .int .i64 d.v.min, .int .i64 d.v.pat, .string (mkS d.v.pre), .string (mkS d.v.build), .bool d.aft], 43⟩ (off := 0) (.agg #[.int .i64 d.e, .int .i64 d.v.maj, .int .i64 d.v.min, .int .i64 d.v.pat, .string (mkS d.v.pre), .string (mkS d.v.build), .bool d.aft]) (by kernel_rfl) rfl rfl (by kernel_rfl) (by kernel_rfl) (by kernel_rfl) (by kernel_rfl) (by kernel_rfl) ?_
      refine s_val (.pointer (some ⟨b1, 7, none⟩)) (by kernel_rfl) (fun _ => by kernel_rfl) ?_
      refine s_store_at 0 ⟨b1, #[.int .i64 d.e, .int .i64 d.v.maj, .int .i64 d.v.min, .int .i64 d.v.pat, .string (mkS d.v.pre), .string (mkS d.v.build), .bool d.aft, .int .i64 d.e, .int .i64 d.v.maj, .int .i64 d.v.min, .int .i64 d.v.pat, .string (mkS d.v.pre), .string (mkS d.v.build), .bool d.aft], 43⟩ (off := 7) (.agg #[.int .i64 c.e, .int .i64 c.v.maj, .int .i64 c.v.min, .int .i64 c.v.pat, .string (mkS c.v.pre), .string (mkS c.v.build), .bool c.aft]) (by kernel_rfl) rfl rfl (by kernel_rfl) (by kernel_rfl) (by kernel_rfl) (by kernel_rfl) (by kernel_rfl) ?_
      refine s_nil ?_
      refine fin_seq ?_
      refine ok_seq ?_
      refine ok_region ?_
      refine s_load 0 ⟨b1, #[.int .i64 d.e, .int .i64 d.v.maj, .int .i64 d.v.min, .int .i64 d.v.pat, .string (mkS d.v.pre), .string (mkS d.v.build), .bool d.aft, .int .i64 c.e, .int .i64 c.v.maj, .int .i64 c.v.min, .int .i64 c.v.pat, .string (mkS c.v.pre), .string (mkS c.v.build), .bool c.aft], 43⟩ (off := 0) (.agg #[.int .i64 d.e, .int .i64 d.v.maj, .int .i64 d.v.min, .int .i64 d.v.pat, .string (mkS d.v.pre), .string (mkS d.v.build), .bool d.aft, .int .i64 c.e, .int .i64 c.v.maj, .int .i64 c.v.min, .int .i64 c.v.pat, .string (mkS c.v.pre), .string (mkS c.v.build), .bool c.aft]) (by kernel_rfl) rfl (by kernel_rfl) (by kernel_rfl) (by kernel_rfl) ?_
      refine s_call (k := 45) (args := #[.agg #[.int .i64 d.e, .int .i64 d.v.maj, .int .i64 d.v.min, .int .i64 d.v.pat, .string (mkS d.v.pre), .string (mkS d.v.build), .bool d.aft, .int .i64 c.e, .int .i64 c.v.maj, .int .i64 c.v.min, .int .i64 c.v.pat, .string (mkS c.v.pre), .string (mkS c.v.build), .bool c.aft]]) (.bool ((⟨d, c⟩ : Sp).may)) (by kernel_rfl) (fun _ => by kernel_rfl) (fun w _ => rspanMay_any ⟨d, c⟩ w ⟨hdS, hcS⟩) ?_
      refine s_nil ?_
      refine fin_seq ?_
      cases h3 : (⟨d, c⟩ : Sp).may with
      | true =>
        refine ok_true (by kernel_rfl) ?_
        refine ok_region ?_
        refine s_val (u) (by kernel_rfl) (fun _ => by kernel_rfl) ?_
        refine s_load 0 ⟨b1, #[.int .i64 d.e, .int .i64 d.v.maj, .int .i64 d.v.min, .int .i64 d.v.pat, .string (mkS d.v.pre), .string (mkS d.v.build), .bool d.aft, .int .i64 c.e, .int .i64 c.v.maj, .int .i64 c.v.min, .int .i64 c.v.pat, .string (mkS c.v.pre), .string (mkS c.v.build), .bool c.aft], 43⟩ (off := 0) (.agg #[.int .i64 d.e, .int .i64 d.v.maj, .int .i64 d.v.min, .int .i64 d.v.pat, .string (mkS d.v.pre), .string (mkS d.v.build), .bool d.aft, .int .i64 c.e, .int .i64 c.v.maj, .int .i64 c.v.min, .int .i64 c.v.pat, .string (mkS c.v.pre), .string (mkS c.v.build), .bool c.aft]) (by kernel_rfl) rfl (by kernel_rfl) (by kernel_rfl) (by kernel_rfl) ?_
        refine s_lit 43 #[.int .i64 d.e, .int .i64 d.v.maj, .int .i64 d.v.min, .int .i64 d.v.pat, .string (mkS d.v.pre), .string (mkS d.v.build), .bool d.aft, .int .i64 c.e, .int .i64 c.v.maj, .int .i64 c.v.min, .int .i64 c.v.pat, .string (mkS c.v.pre), .string (mkS c.v.build), .bool c.aft] (by kernel_rfl) rfl (fun _ => by kernel_rfl) (fun b2 => ?_)
        obtain ⟨i0, z0, e1, e2, e3, e4, e5⟩ := span_info
        refine s_cast (L' := [⟨b2, #[.int .i64 d.e, .int .i64 d.v.maj, .int .i64 d.v.min, .int .i64 d.v.pat, .string (mkS d.v.pre), .string (mkS d.v.build), .bool d.aft, .int .i64 c.e, .int .i64 c.v.maj, .int .i64 c.v.min, .int .i64 c.v.pat, .string (mkS c.v.pre), .string (mkS c.v.build), .bool c.aft], 43⟩, ⟨b1, #[.int .i64 d.e, .int .i64 d.v.maj, .int .i64 d.v.min, .int .i64 d.v.pat, .string (mkS d.v.pre), .string (mkS d.v.build), .bool d.aft, .int .i64 c.e, .int .i64 c.v.maj, .int .i64 c.v.min, .int .i64 c.v.pat, .string (mkS c.v.pre), .string (mkS c.v.build), .bool c.aft], 43⟩] ++ ob ++ []) (by rw [List.append_assoc]; kernel_rfl) ?_
        refine s_append (sz := 14) (by kernel_rfl) rfl Tryz.underlying22 e1 e2 e3 e4 (by kernel_rfl) hrel.sl (a := ⟨b2, 0, none⟩) (m := 1) (c := 1) (news := spanC ⟨d, c⟩) (by kernel_rfl) rfl (fun w hO j u hj => ?_) (span_cells _) (by unfold maxLen; omega) (by rw [e5]; omega) (fun u2 ob2 hu2 => ?_)
        · rw [add_off, cell_of_row w b2 (0 + j) (spanC ⟨d, c⟩).toArray 43 _ (hO.held ⟨b2, (spanC ⟨d, c⟩).toArray, 43⟩ (List.mem_append_left _ (List.mem_append_left _ (List.mem_cons_self ..))))]; simpa using hj
        refine s_val (u2) (by kernel_rfl) (fun _ => by kernel_rfl) ?_
        refine s_nil ?_
        refine fin_block ?_
        refine fin_seq ?_
        refine ok_region ?_
        refine s_val (.int .i64 z) (by kernel_rfl) (fun _ => by kernel_rfl) ?_
        refine s_sum (k := .i64) ((z : Int) - 1) (by kernel_rfl) (fun _ => by kernel_rfl) (IntWalk.i64_in _ (by omega)) ?_
        refine s_val (.int .i64 ((z : Int) - 1)) (by kernel_rfl) (fun _ => by kernel_rfl) ?_
        refine s_nil ?_
        refine fin_take (L' := ob2 ++ []) (fun w hO => Own.mid hO) ?_
        exact fin_round (m' := (z - 1).toNat) (by omega) ⟨n - 1, z - 1, u2, _, ob2, _, hrel.grow (by omega) hsp (by assumption) hu2, rfl, upds_self _ ⟨by kernel_rfl, by kernel_rfl, by kernel_rfl, by kernel_rfl, trivial⟩, rfl⟩
      | false =>
        refine ok_false (by kernel_rfl) ?_
        refine ok_skip ?_
        refine fin_block ?_
        refine fin_seq ?_
        refine ok_region ?_
        refine s_val (.int .i64 z) (by kernel_rfl) (fun _ => by kernel_rfl) ?_
        refine s_sum (k := .i64) ((z : Int) - 1) (by kernel_rfl) (fun _ => by kernel_rfl) (IntWalk.i64_in _ (by omega)) ?_
        refine s_val (.int .i64 ((z : Int) - 1)) (by kernel_rfl) (fun _ => by kernel_rfl) ?_
        refine s_nil ?_
        refine fin_take (L' := ob ++ []) (fun w hO => Own.sub [_] hO) ?_
        exact fin_round (m' := (z - 1).toNat) (by omega) ⟨n - 1, z - 1, u, acc, ob, _, hrel.keep (by omega) hsp (by assumption), rfl, upds_self _ ⟨by kernel_rfl, by kernel_rfl, by kernel_rfl, by kernel_rfl, trivial⟩, rfl⟩
    · skip
      rw [show ordSp c d = ⟨c, d⟩ from if_neg h2] at hsp
      refine s_dec (p := (0 : Int) < cmpC c d) false (by kernel_rfl) (fun _ => by kernel_rfl) (decide_eq_false (h2)) ?_
      refine s_nil ?_
      refine fin_seq ?_
      refine ok_false (by kernel_rfl) ?_
      refine ok_skip ?_
      refine fin_seq ?_
      refine ok_seq ?_
      refine ok_region ?_
      refine s_load 0 ⟨b1, #[.int .i64 c.e, .int .i64 c.v.maj, .int .i64 c.v.min, .int .i64 c.v.pat, .string (mkS c.v.pre), .string (mkS c.v.build), .bool c.aft, .int .i64 d.e, .int .i64 d.v.maj, .int .i64 d.v.min, .int .i64 d.v.pat, .string (mkS d.v.pre), .string (mkS d.v.build), .bool d.aft], 43⟩ (off := 0) (.agg #[.int .i64 c.e, .int .i64 c.v.maj, .int .i64 c.v.min, .int .i64 c.v.pat, .string (mkS c.v.pre), .string (mkS c.v.build), .bool c.aft, .int .i64 d.e, .int .i64 d.v.maj, .int .i64 d.v.min, .int .i64 d.v.pat, .string (mkS d.v.pre), .string (mkS d.v.build), .bool d.aft]) (by kernel_rfl) rfl (by kernel_rfl) (by kernel_rfl) (by kernel_rfl) ?_
      refine s_call (k := 45) (args := #[.agg #[.int .i64 c.e, .int .i64 c.v.maj, .int .i64 c.v.min, .int .i64 c.v.pat, .string (mkS c.v.pre), .string (mkS c.v.build), .bool c.aft, .int .i64 d.e, .int .i64 d.v.maj, .int .i64 d.v.min, .int .i64 d.v.pat, .string (mkS d.v.pre), .string (mkS d.v.build), .bool d.aft]]) (.bool ((⟨c, d⟩ : Sp).may)) (by kernel_rfl) (fun _ => by kernel_rfl) (fun w _ => rspanMay_any ⟨c, d⟩ w ⟨hcS, hdS⟩) ?_
      refine s_nil ?_
      refine fin_seq ?_
      cases h4 : (⟨c, d⟩ : Sp).may with
      | true =>
        refine ok_true (by kernel_rfl) ?_
        refine ok_region ?_
        refine s_val (u) (by kernel_rfl) (fun _ => by kernel_rfl) ?_
        refine s_load 0 ⟨b1, #[.int .i64 c.e, .int .i64 c.v.maj, .int .i64 c.v.min, .int .i64 c.v.pat, .string (mkS c.v.pre), .string (mkS c.v.build), .bool c.aft, .int .i64 d.e, .int .i64 d.v.maj, .int .i64 d.v.min, .int .i64 d.v.pat, .string (mkS d.v.pre), .string (mkS d.v.build), .bool d.aft], 43⟩ (off := 0) (.agg #[.int .i64 c.e, .int .i64 c.v.maj, .int .i64 c.v.min, .int .i64 c.v.pat, .string (mkS c.v.pre), .string (mkS c.v.build), .bool c.aft, .int .i64 d.e, .int .i64 d.v.maj, .int .i64 d.v.min, .int .i64 d.v.pat, .string (mkS d.v.pre), .string (mkS d.v.build), .bool d.aft]) (by kernel_rfl) rfl (by kernel_rfl) (by kernel_rfl) (by kernel_rfl) ?_
        refine s_lit 43 #[.int .i64 c.e, .int .i64 c.v.maj, .int .i64 c.v.min, .int .i64 c.v.pat, .string (mkS c.v.pre), .string (mkS c.v.build), .bool c.aft, .int .i64 d.e, .int .i64 d.v.maj, .int .i64 d.v.min, .int .i64 d.v.pat, .string (mkS d.v.pre), .string (mkS d.v.build), .bool d.aft] (by kernel_rfl) rfl (fun _ => by kernel_rfl) (fun b2 => ?_)
        obtain ⟨i0, z0, e1, e2, e3, e4, e5⟩ := span_info
        refine s_cast (L' := [⟨b2, #[.int .i64 c.e, .int .i64 c.v.maj, .int .i64 c.v.min, .int .i64 c.v.pat, .string (mkS c.v.pre), .string (mkS c.v.build), .bool c.aft, .int .i64 d.e, .int .i64 d.v.maj, .int .i64 d.v.min, .int .i64 d.v.pat, .string (mkS d.v.pre), .string (mkS d.v.build), .bool d.aft], 43⟩, ⟨b1, #[.int .i64 c.e, .int .i64 c.v.maj, .int .i64 c.v.min, .int .i64 c.v.pat, .string (mkS c.v.pre), .string (mkS c.v.build), .bool c.aft, .int .i64 d.e, .int .i64 d.v.maj, .int .i64 d.v.min, .int .i64 d.v.pat, .string (mkS d.v.pre), .string (mkS d.v.build), .bool d.aft], 43⟩] ++ ob ++ []) (by rw [List.append_assoc]; kernel_rfl) ?_
        refine s_append (sz := 14) (by kernel_rfl) rfl Tryz.underlying22 e1 e2 e3 e4 (by kernel_rfl) hrel.sl (a := ⟨b2, 0, none⟩) (m := 1) (c := 1) (news := spanC ⟨c, d⟩) (by kernel_rfl) rfl (fun w hO j u hj => ?_) (span_cells _) (by unfold maxLen; omega) (by rw [e5]; omega) (fun u2 ob2 hu2 => ?_)
        · rw [add_off, cell_of_row w b2 (0 + j) (spanC ⟨c, d⟩).toArray 43 _ (hO.held ⟨b2, (spanC ⟨c, d⟩).toArray, 43⟩ (List.mem_append_left _ (List.mem_append_left _ (List.mem_cons_self ..))))]; simpa using hj
        refine s_val (u2) (by kernel_rfl) (fun _ => by kernel_rfl) ?_
        refine s_nil ?_
        refine fin_block ?_
        refine fin_seq ?_
        refine ok_region ?_
        refine s_val (.int .i64 z) (by kernel_rfl) (fun _ => by kernel_rfl) ?_
        refine s_sum (k := .i64) ((z : Int) - 1) (by kernel_rfl) (fun _ => by kernel_rfl) (IntWalk.i64_in _ (by omega)) ?_
        refine s_val (.int .i64 ((z : Int) - 1)) (by kernel_rfl) (fun _ => by kernel_rfl) ?_
        refine s_nil ?_
        refine fin_take (L' := ob2 ++ []) (fun w hO => Own.mid hO) ?_
        exact fin_round (m' := (z - 1).toNat) (by omega) ⟨n - 1, z - 1, u2, _, ob2, _, hrel.grow (by omega) hsp (by assumption) hu2, rfl, upds_self _ ⟨by kernel_rfl, by kernel_rfl, by kernel_rfl, by kernel_rfl, trivial⟩, rfl⟩
      | false =>
        refine ok_false (by kernel_rfl) ?_
        refine ok_skip ?_
        refine fin_block ?_
        refine fin_seq ?_
        refine ok_region ?_
        refine s_val (.int .i64 z) (by kernel_rfl) (fun _ => by kernel_rfl) ?_
        refine s_sum (k := .i64) ((z : Int) - 1) (by kernel_rfl) (fun _ => by kernel_rfl) (IntWalk.i64_in _ (by omega)) ?_
        refine s_val (.int .i64 ((z : Int) - 1)) (by kernel_rfl) (fun _ => by kernel_rfl) ?_
        refine s_nil ?_
        refine fin_take (L' := ob ++ []) (fun w hO => Own.sub [_] hO) ?_
        exact fin_round (m' := (z - 1).toNat) (by omega) ⟨n - 1, z - 1, u, acc, ob, _, hrel.keep (by omega) hsp (by assumption), rfl, upds_self _ ⟨by kernel_rfl, by kernel_rfl, by kernel_rfl, by kernel_rfl, trivial⟩, rfl⟩
  · skip
    have hz := hrel.z
    have hlen := hrel.len
    refine s_dec (p := (0 : Int) < z) false (by kernel_rfl) (fun _ => by kernel_rfl) (decide_eq_false (h1)) ?_
    refine s_nil ?_
    refine fin_seq ?_
    refine ok_false (by kernel_rfl) ?_
    refine ok_exit ?_
    refine fin_seq_exit ?_
    refine fin_round_exit ?_
    refine fin_block_exit ?_
    refine fin_seq ?_
    refine ok_seq ?_
    refine ok_region ?_
    refine s_val (u) (by kernel_rfl) (fun _ => by kernel_rfl) ?_
    refine s_val (u) (by kernel_rfl) (fun _ => by kernel_rfl) ?_
    refine s_nil ?_
    refine fin_seq ?_
    refine ok_ret ?_
    refine fin_ret (u) Tryz.results24 (by kernel_rfl) ?_
    exact fun w hO => ⟨u, ob, rfl, by have e := hrel.eq; rw [show n = 0 from by omega, show spansG l i 0 = [] from rfl, List.append_nil] at e; rw [← e]; exact hrel.sl, by simpa using hO⟩
end Go.Proofs.YtmlecnomdamgnaaGreat
end

section
/-
  linchpinlaw0.Row: the row that the list's numbers name.
-/
namespace Go.Proofs.YtmlecnomdamgnaaGreat
open Go.RowKit
set_option maxRecDepth 100000
set_option linter.unusedVariables false
set_option linter.unusedSimpArgs false
set_option maxHeartbeats 2000000

theorem spG_short (l : List Int) (i n : Nat) : (spG l i n).short := by
  unfold spG ordSp
  split
  · exact ⟨genC_short l _, genC_short l _⟩
  · exact ⟨genC_short l _, genC_short l _⟩
theorem spansG_short (l : List Int) (i : Nat) : ∀ n, ShortL (spansG l i n)
  | 0 => fun s hs => by simp [spansG] at hs
  | n + 1 => fun s hs => by
    rw [show spansG l i (n + 1) = (if (spG l i (n + 1)).may then [spG l i (n + 1)] else []) ++ spansG l i n from rfl] at hs
    rcases List.mem_append.1 hs with h | h
    · split at h
      · obtain rfl : s = _ := by simpa using h
        exact spG_short l i _
      · simp at h
    · exact spansG_short l i n s h
def rowG (l : List Int) (i : Nat) : List Sp := makeL (spansG l i (plc (atL l i) (4 + 1 : Nat)).toNat)
theorem rowG_may (l : List Int) (i : Nat) : rowMay (rowG l i) = true := (make_ok (spansG_may l i _)).1

theorem row_any (v : Value) (l : List Int) (i : Nat) (W : World) (hv : ReadsI W W.heap.size v l) (hl : l.length ≤ 9223372036854775807) (hi : i ≤ 50000) :
    Calls Tryz.prog 20 #[v, .int .i64 (i : Int)] W fun e w' => ∃ v' ob', e = .returned v' ∧ SlS v' (rowG l i) ob' ∧ Own [] W w' ob' := by
  refine calls_ok (n := 15) Tryz.func20 rfl (by kernel_rfl) (by kernel_rfl) ?_
  refine ok_seq ?_
  refine ok_region ?_
  refine s_val (.slice none 0 0) (by kernel_rfl) (fun _ => by kernel_rfl) ?_
  refine s_nil ?_
  refine fin_seq ?_
  refine ok_seq ?_
  refine ok_region ?_
  refine s_val (v) (by kernel_rfl) (fun _ => by kernel_rfl) ?_
  refine s_val (.int .i64 (i : Int)) (by kernel_rfl) (fun _ => by kernel_rfl) ?_
  obtain ⟨q, hq⟩ : ∃ q, spansG l i (plc (atL l i) (4 + 1 : Nat)).toNat = q := ⟨_, rfl⟩
  have hqm : ∀ s ∈ q, s.may = true := hq ▸ spansG_may l i _
  have hqs : ShortL q := hq ▸ spansG_short l i _
  have hqn : q.length ≤ 300000 := by rw [← hq]; have := spansG_len l i (plc (atL l i) (4 + 1 : Nat)).toNat; have := plc_in (atL l i) (4 + 1 : Nat) (by omega); omega
  refine s_callo (k := 24) (args := #[v, .int .i64 (i : Int), .int .i64 4]) (fun v' L' => SlS v' q L') (by kernel_rfl) (fun _ => by kernel_rfl) (fun w hO => (spans_any v l i 4 w ((hv.below hO.below).more hO.below.size) hl (by omega) (by omega)).mono fun e w' ⟨v', ob', h1, h2, h3⟩ => ⟨v', ob', h1, by rw [hq] at h2; exact h2, by simpa using Own.joinN hO h3⟩) (fun sv os hsv => ?_)
  obtain ⟨C, capc, rfl⟩ := hsv.form
  refine s_callo (k := 28) (args := #[.slice C q.length capc]) (fun v' L' => ∃ mv, v' = .tuple #[mv, .bool (allMay q)] ∧ SlS mv (if allMay q then makeL q else []) L') (by kernel_rfl) (fun _ => by kernel_rfl) (fun w hO => (rmake_any C capc q w (Sl.reads hsv rfl hO (fun x hx => hx)) hqn hqs).mono fun e w' ⟨v', ob', h1, h2, h3⟩ => ⟨_, ob', h1, ⟨v', rfl, h2⟩, Own.take (Own.joinN hO h3) (fun x hx => List.mem_append_left _ hx) h3.apart⟩) (fun tv om htv => ?_)
  obtain ⟨mv, rfl, hmv⟩ := htv
  refine s_val (.tuple #[mv, .bool (allMay q)]) (by kernel_rfl) (fun _ => by kernel_rfl) ?_
  refine s_val (mv) (by kernel_rfl) (fun _ => by kernel_rfl) ?_
  refine s_val (.bool (allMay q)) (by kernel_rfl) (fun _ => by kernel_rfl) ?_
  refine s_val (mv) (by kernel_rfl) (fun _ => by kernel_rfl) ?_
  refine s_val (.bool (allMay q)) (by kernel_rfl) (fun _ => by kernel_rfl) ?_
  refine s_nil ?_
  refine fin_seq ?_
  refine ok_seq ?_
  refine ok_region ?_
  refine s_val (mv) (by kernel_rfl) (fun _ => by kernel_rfl) ?_
  refine s_val (mv) (by kernel_rfl) (fun _ => by kernel_rfl) ?_
  refine s_nil ?_
  refine fin_seq ?_
  refine ok_ret ?_
  refine fin_ret (mv) Tryz.results20 (by kernel_rfl) ?_
  exact fun w hO => ⟨mv, om, rfl, by have hall : allMay q = true := allMay_mem.2 hqm; rw [hall, if_pos rfl] at hmv; unfold rowG; rw [hq]; exact hmv, hO⟩
end Go.Proofs.YtmlecnomdamgnaaGreat
end

section
/-
  Steps: a load out of a block that is somewhere in the list. No condition of their own.
-/
namespace Go.Proofs.YtmlecnomdamgnaaGreat
open Go.RowKit
set_option linter.unusedVariables false
section
variable {M : List Nat} {P : Program} {n : Nat} {ops : Array Oper} {W : World} {Q : Exit → Act → World → Prop} {rest : List Oper} {o : Oper} {L : List Blk} {f : Nat → Value} {Qe : List Blk → (Nat → Value) → Prop}
theorem s_loadm (x : Blk) {ty : TypeId} {p : Operand} {off : Nat} (v : Value) (hw : want ops n f o = true) (ho : o.op = .load ty p) (hL : x ∈ L) (hp : ev n f p = .pointer (some ⟨x.b, off, none⟩)) (hv : readAt P ty x.cs off = some v)
    (h : Seg M P n ops W Q rest L (upd f o.dst v)) : Seg M P n ops W Q (o :: rest) L f :=
  s_read v hw (fun _ hO => run_load_op ho hp (run_readAt hv (hO.held x hL))) h
theorem q_loadm (x : Blk) {ty : TypeId} {p : Operand} {off : Nat} (v : Value) (hw : want ops n f o = true) (ho : o.op = .load ty p) (hL : x ∈ L) (hp : ev n f p = .pointer (some ⟨x.b, off, none⟩)) (hv : readAt P ty x.cs off = some v)
    (h : QSeg M P n ops W Qe rest L (upd f o.dst v)) : QSeg M P n ops W Qe (o :: rest) L f :=
  q_read v hw (fun _ hO => run_load_op ho hp (run_readAt hv (hO.held x hL))) h
end
end Go.Proofs.YtmlecnomdamgnaaGreat
end

section
/-
  What every statement of this seat's proof leans on at its end: from 'the call returns true and below the heap's old end nothing has changed' to the row's own words; the table that the row lists, read as a walk needs it. Conditions: none of its own.
-/
namespace Go.Proofs.YtmlecnomdamgnaaGreat
open Go.ChangeShapes Go.WideShapes Go.ChangeAt Go.RowKit

theorem own : ownKnob Tryz.prog.godebug = none := by kernel_rfl

theorem trodAll_stays {H : Type} {enc : TypeId × Value → H} {P : Program} (hl : laidOutB P = true) {W W' : World} (hb : Below W.heap.size W W') :
    ∀ (ts : List TypeId), (∀ t ∈ ts, P.readableRec t = true ∧ t < P.types.size) → ∀ (vs : List Value) (ds : List (DataW H)) (ps : List MemPlace), DataW.TrodAll enc P W 0 (fun _ => true) true ts vs ds ps → (∀ p ∈ ps, p.block < W.heap.size) →
      DataW.TrodAll enc P W' 0 (fun b => decide (b < W.heap.size)) true ts vs ds ps
  | [], _, vs, ds, ps, h, _ => by
    obtain ⟨rfl, rfl, rfl⟩ := trodAll_nil h
    exact trodAll_mk0
  | t :: ts, hr, vs, ds, ps, h, hlt => by
    obtain ⟨v, vs', d, ds', p, q, rfl, rfl, rfl, hd, hrest⟩ := trodAll_cons h
    exact ⟨p, q, Go.RowKit.Below.trod hl (hr t (by simp)).1 (hr t (by simp)).2 hd hb.old (fun x hx => hlt x (by simp [hx])), trodAll_stays hl hb ts (fun t' ht' => hr t' (by simp [ht'])) vs' ds' q hrest (fun x hx => hlt x (by simp [hx])), rfl⟩

/-- The end of a statement's row: the call has returned true, and below the heap's old end nothing has changed. -/
theorem law_end {H : Type} {enc : TypeId × Value → H} {P : Program} {f : Func} {s : ChangeSpec} {W W' : World} {args : Array Value} {ds gs : List (DataW H)} {before : List MemPlace} {T : TypeId}
    (hl : laidOutB P = true) (hr : ∀ t ∈ f.params.toList, P.readableRec t = true ∧ t < P.types.size) (hv : s.vars = []) (hT : f.resultTypes = #[T]) (hB : P.underlying T = some .bool)
    (hW : DataW.Whole enc P f.params.toList s.vars false W args.toList ds gs before) (hf : s.fn H (ds ++ gs) = { results := [.lit (.bool true)], args := ds }) (hb : Below W.heap.size W W') :
    s.post enc P f false true false false W args (.bool true) W' := by
  have hlt : ∀ p ∈ before, p.block < W.heap.size := fun p hp => hW.lt p hp
  have hW' := hW
  obtain ⟨p, q, hA, hV, rfl, _, _⟩ := hW
  rw [hv] at hV
  obtain ⟨rfl, rfl⟩ := trodVars_none hV
  have h2 := trodAll_stays hl hb _ hr _ _ _ hA (fun x hx => hlt x (by simp [hx]))
  refine ⟨ds, [], p ++ [], [], p, [], hW', ?_, ?_, ?_, World.keptBut_mono (fun x hx => ⟨hx, Or.inr (Or.inl (by simpa using hx))⟩) (hb.frame (· ∈ p ++ [])), fun h => by cases h⟩
  · rw [hf, hT]
    exact trodAll_cons_mk (shut_bool hB true) trodAll_mk0
  · rw [hf]; exact h2
  · rw [hf, hv]; rfl
theorem laidOut : laidOutB Tryz.prog = true := by kernel_rfl

theorem cell_lt {W : World} {a : Addr} {v : Value} (h : W.cell? a = some v) : a.block < W.heap.size := by
  rcases Nat.lt_or_ge a.block W.heap.size with h1 | h1
  · exact h1
  · unfold World.cell? at h
    rw [Array.getElem?_eq_none h1] at h
    simp at h
theorem strCells1 : Tryz.prog.cellsOf 9 = 1 := by kernel_rfl
set_option maxRecDepth 100000 in
/-- A slice of strings that came in reads as a list of byte lists. -/
theorem open_texts {H : Type} {enc : TypeId × Value → H} {W : World} {base : Nat} {v : Value} {d : DataW H} {ps : List MemPlace} (hval : Value.okWide Tryz.prog W .any base 105 v)
    (h : DataW.Trod enc Tryz.prog W 0 (fun _ => true) true 105 v d ps) : ∃ l : List (List UInt8), ReadsT W W.heap.size v l ∧ l.length ≤ maxLen ∧ ∀ x ∈ l, x.length ≤ maxLen := by
  obtain ⟨A, len, cap, rfl⟩ := okWide_slice Tryz.underlying105 hval
  obtain ⟨fuel, hf⟩ := h
  rcases open_strings Tryz.underlying105 Tryz.underlying9 strCells1 hf with ⟨hcs, _⟩ | ⟨a, len', cap', ss, hcs, _, hl, hm, hz, _, hcell, hws⟩
  · simp [Value.cells] at hcs
    obtain ⟨rfl, rfl, rfl⟩ := hcs
    exact ⟨[], ⟨none, 0, rfl, fun h => by cases h⟩, by simp, by simp⟩
  · simp [Value.cells] at hcs
    obtain ⟨rfl, rfl, rfl⟩ := hcs
    simp only [if_true] at hz
    have hlen : ((ss.take len).map (·.data.toList)).length = len := by rw [List.length_map, List.length_take]; omega
    refine ⟨(ss.take len).map (·.data.toList), ⟨some a, cap, by rw [hlen], fun h0 => ⟨a, rfl, ?_, fun j hj => ?_⟩⟩, by rw [hlen]; omega, fun x hx => ?_⟩
    · have := cell_lt (hcell 0 (by omega))
      rwa [addr_block] at this
    · have hj2 : j < ss.length := by omega
      rw [hcell j hj2, List.getElem_map, List.getElem_take]
      simp only [List.getD, List.getElem?_eq_getElem hj2, Option.getD_some]
      rfl
    · obtain ⟨s, hs, rfl⟩ := List.mem_map.1 hx
      have := hws s (List.mem_of_mem_take hs)
      rw [len_data]; exact this

/-- The cells that a table of integers lays. -/
def tabCells : DataW Unit → Array Value
  | .agg l => (l.map fun d => match d with | .lit (.int k n) => Value.int k n | _ => Value.int .i64 0).toArray
  | _ => #[]
def layAt (h : Array Obj) (g : Nat) (d : DataW Unit) : Array Obj := h.modify g fun
  | .cells _ t frozen => .cells (tabCells d) t frozen
  | o => o

theorem u64Cells : Tryz.prog.cellsOf 91 = 1 := by kernel_rfl
end Go.Proofs.YtmlecnomdamgnaaGreat
end

section
/-
  Parameters that are versions, cuts or spans: what they are, out of the row's own conditions.
-/
namespace Go.Proofs.YtmlecnomdamgnaaGreat
open Go.ChangeShapes Go.WideShapes Go.ChangeAt Go.RowKit Go.Deep
set_option maxRecDepth 100000
set_option linter.unusedVariables false
set_option linter.unusedSimpArgs false

theorem mk_self (p : ByteArray) : mkS p.data.toList = p := by unfold mkS; simp
def Ver.wide (v : Ver) : Prop := v.pre.length ≤ maxLen ∧ v.build.length ≤ maxLen
def Ver.i64 (v : Ver) : Prop := ((-9223372036854775808 ≤ v.maj ∧ v.maj ≤ 9223372036854775807) ∧ (-9223372036854775808 ≤ v.min ∧ v.min ≤ 9223372036854775807)) ∧ (-9223372036854775808 ≤ v.pat ∧ v.pat ≤ 9223372036854775807)
theorem wf_i64 {a : Int} (h : (Lit.int .i64 a).wf = true) : -9223372036854775808 ≤ a ∧ a ≤ 9223372036854775807 := bounds_i64 h
section
variable {H : Type} {enc : TypeId × Value → H} {W : World}
theorem cells_int {fuel : Nat} {cs : List Value} {x : DataW H × List MemPlace} (h : DataW.trod enc Tryz.prog W 0 (fun _ => true) true fuel 3 cs = some x) : ∃ a, cs = [.int .i64 a] ∧ (-9223372036854775808 ≤ a ∧ a ≤ 9223372036854775807) := by
  obtain ⟨a, e, _, hw⟩ := DataW.trod_int Tryz.underlying3 h
  exact ⟨a, e, wf_i64 hw⟩
theorem cells_str {fuel : Nat} {cs : List Value} {x : DataW H × List MemPlace} (h : DataW.trod enc Tryz.prog W 0 (fun _ => true) true fuel 9 cs = some x) : ∃ p : List UInt8, cs = [.string (mkS p)] ∧ p.length ≤ maxLen := by
  obtain ⟨p, e, _, hw⟩ := DataW.trod_string Tryz.underlying9 h
  exact ⟨p.data.toList, by rw [mk_self]; exact e, by rw [len_data]; exact hw⟩
theorem cells_bool {fuel : Nat} {cs : List Value} {x : DataW H × List MemPlace} (h : DataW.trod enc Tryz.prog W 0 (fun _ => true) true fuel 4 cs = some x) : ∃ a, cs = [.bool a] := by
  obtain ⟨a, e, _⟩ := DataW.trod_bool Tryz.underlying4 h
  exact ⟨a, e⟩
theorem size_int : Tryz.prog.cellsOf 3 = 1 := by kernel_rfl
theorem size_str : Tryz.prog.cellsOf 9 = 1 := by kernel_rfl
theorem size_bool : Tryz.prog.cellsOf 4 = 1 := by kernel_rfl
theorem size_ver : Tryz.prog.cellsOf 31 = 5 := by kernel_rfl
theorem size_cut : Tryz.prog.cellsOf 41 = 7 := by kernel_rfl
theorem size_span : Tryz.prog.cellsOf 43 = 14 := by kernel_rfl
set_option maxRecDepth 100000 in
theorem cells_ver {fuel : Nat} {cs : List Value} {x : DataW H × List MemPlace} (h : DataW.trod enc Tryz.prog W 0 (fun _ => true) true fuel 31 cs = some x) : ∃ v : Ver, cs = (verV v).cells.toList ∧ v.wide ∧ v.i64 := by
  obtain ⟨xs, n, _, _, hl, hxl, hg⟩ := DataW.trod_struct Tryz.underlying31 h
  rw [size_ver] at hl
  match cs, hl with
  | [c0, c1, c2, c3, c4], _ =>
    have g : ∀ i, i < 5 → ∃ y, xs[i]? = some y := fun i hi => ⟨_, List.getElem?_eq_getElem (by rw [hxl]; exact hi)⟩
    obtain ⟨y0, e0⟩ := g 0 (by omega)
    obtain ⟨y1, e1⟩ := g 1 (by omega)
    obtain ⟨y2, e2⟩ := g 2 (by omega)
    obtain ⟨y3, e3⟩ := g 3 (by omega)
    obtain ⟨y4, e4⟩ := g 4 (by omega)
    obtain ⟨a, ha, wa⟩ := cells_int ((hg 0 _ rfl).trans e0)
    obtain ⟨b, hb, wb⟩ := cells_int ((hg 1 _ rfl).trans e1)
    obtain ⟨c, hc, wc⟩ := cells_int ((hg 2 _ rfl).trans e2)
    obtain ⟨p, hp, wp⟩ := cells_str ((hg 3 _ rfl).trans e3)
    obtain ⟨q, hq, wq⟩ := cells_str ((hg 4 _ rfl).trans e4)
    have ha2 : List.take (Tryz.prog.cellsOf 3) (List.drop 0 [c0, c1, c2, c3, c4]) = _ := ha
    have hb2 : List.take (Tryz.prog.cellsOf 3) (List.drop 1 [c0, c1, c2, c3, c4]) = _ := hb
    have hc2 : List.take (Tryz.prog.cellsOf 3) (List.drop 2 [c0, c1, c2, c3, c4]) = _ := hc
    have hp2 : List.take (Tryz.prog.cellsOf 9) (List.drop 3 [c0, c1, c2, c3, c4]) = _ := hp
    have hq2 : List.take (Tryz.prog.cellsOf 9) (List.drop 4 [c0, c1, c2, c3, c4]) = _ := hq
    rw [size_int] at ha2 hb2 hc2
    rw [size_str] at hp2 hq2
    obtain rfl : c0 = _ := List.singleton_inj.1 ha2
    obtain rfl : c1 = _ := List.singleton_inj.1 hb2
    obtain rfl : c2 = _ := List.singleton_inj.1 hc2
    obtain rfl : c3 = _ := List.singleton_inj.1 hp2
    obtain rfl : c4 = _ := List.singleton_inj.1 hq2
    exact ⟨⟨a, b, c, p, q⟩, rfl, ⟨wp, wq⟩, ⟨⟨wa, wb⟩, wc⟩⟩
def Cu.wide (c : Cu) : Prop := c.v.wide ∧ c.v.i64 ∧ (-9223372036854775808 ≤ c.e ∧ c.e ≤ 9223372036854775807)
set_option maxRecDepth 100000 in
theorem cells_cut {fuel : Nat} {cs : List Value} {x : DataW H × List MemPlace} (h : DataW.trod enc Tryz.prog W 0 (fun _ => true) true fuel 41 cs = some x) : ∃ c : Cu, cs = (cutV c).cells.toList ∧ c.wide := by
  obtain ⟨xs, n, _, _, hl, hxl, hg⟩ := DataW.trod_struct Tryz.underlying41 h
  rw [size_cut] at hl
  match cs, hl with
  | [c0, c1, c2, c3, c4, c5, c6], _ =>
    have g : ∀ i, i < 3 → ∃ y, xs[i]? = some y := fun i hi => ⟨_, List.getElem?_eq_getElem (by rw [hxl]; exact hi)⟩
    obtain ⟨y0, e0⟩ := g 0 (by omega)
    obtain ⟨y1, e1⟩ := g 1 (by omega)
    obtain ⟨y2, e2⟩ := g 2 (by omega)
    obtain ⟨a, ha, wa⟩ := cells_int ((hg 0 _ rfl).trans e0)
    obtain ⟨v, hv, w1, w2⟩ := cells_ver ((hg 1 _ rfl).trans e1)
    obtain ⟨b, hb⟩ := cells_bool ((hg 2 _ rfl).trans e2)
    have ha2 : List.take (Tryz.prog.cellsOf 3) (List.drop 0 [c0, c1, c2, c3, c4, c5, c6]) = _ := ha
    have hv2 : List.take (Tryz.prog.cellsOf 31) (List.drop 1 [c0, c1, c2, c3, c4, c5, c6]) = _ := hv
    have hb2 : List.take (Tryz.prog.cellsOf 4) (List.drop 6 [c0, c1, c2, c3, c4, c5, c6]) = _ := hb
    rw [size_int] at ha2
    rw [size_ver] at hv2
    rw [size_bool] at hb2
    obtain rfl : c0 = _ := List.singleton_inj.1 ha2
    obtain rfl : c6 = _ := List.singleton_inj.1 hb2
    have hv3 : [c1, c2, c3, c4, c5] = (verV v).cells.toList := hv2
    refine ⟨⟨a, v, b⟩, ?_, w1, w2, wa⟩
    show .int .i64 a :: ([c1, c2, c3, c4, c5] ++ [.bool b]) = _
    rw [hv3]; rfl
def Sp.wide (s : Sp) : Prop := s.lo.wide ∧ s.hi.wide
set_option maxRecDepth 100000 in
theorem cells_span {fuel : Nat} {cs : List Value} {x : DataW H × List MemPlace} (h : DataW.trod enc Tryz.prog W 0 (fun _ => true) true fuel 43 cs = some x) : ∃ s : Sp, cs = (spanV s).cells.toList ∧ s.wide := by
  obtain ⟨xs, n, _, _, hl, hxl, hg⟩ := DataW.trod_struct Tryz.underlying43 h
  rw [size_span] at hl
  have g : ∀ i, i < 2 → ∃ y, xs[i]? = some y := fun i hi => ⟨_, List.getElem?_eq_getElem (by rw [hxl]; exact hi)⟩
  obtain ⟨y0, e0⟩ := g 0 (by omega)
  obtain ⟨y1, e1⟩ := g 1 (by omega)
  obtain ⟨a, ha, wa⟩ := cells_cut ((hg 0 _ rfl).trans e0)
  obtain ⟨b, hb, wb⟩ := cells_cut ((hg 1 _ rfl).trans e1)
  have ha2 : List.take (Tryz.prog.cellsOf 41) (List.drop 0 cs) = _ := ha
  have hb2 : List.take (Tryz.prog.cellsOf 41) (List.drop 7 cs) = _ := hb
  rw [size_cut] at ha2 hb2
  refine ⟨⟨a, b⟩, ?_, wa, wb⟩
  have e : cs = List.take 7 (List.drop 0 cs) ++ List.take 7 (List.drop 7 cs) := by
    rw [List.drop_zero, List.take_of_length_le (show (List.drop 7 cs).length ≤ 7 by rw [List.length_drop, hl]; decide), List.take_append_drop]
  rw [e, ha2, hb2]; rfl
theorem cells_back {v : Value} {cs : Array Value} {l : List Value} (h : v = .agg cs) (e : v.cells.toList = l) : v = .agg l.toArray := by
  subst h
  have : cs.toList = l := e
  rw [← this]
theorem open_verV {base : Nat} {v : Value} {d : DataW H} {ps : List MemPlace} (hval : Value.okWide Tryz.prog W .any base 31 v) (h : DataW.Trod enc Tryz.prog W 0 (fun _ => true) true 31 v d ps) : ∃ u : Ver, v = verV u ∧ u.wide ∧ u.i64 := by
  obtain ⟨cs, hc, _⟩ := okWide_struct Tryz.underlying31 hval
  obtain ⟨fuel, hf⟩ := h
  obtain ⟨u, e, w1, w2⟩ := cells_ver hf
  exact ⟨u, (cells_back hc e).trans rfl, w1, w2⟩
theorem open_cutV {base : Nat} {v : Value} {d : DataW H} {ps : List MemPlace} (hval : Value.okWide Tryz.prog W .any base 41 v) (h : DataW.Trod enc Tryz.prog W 0 (fun _ => true) true 41 v d ps) : ∃ u : Cu, v = cutV u ∧ u.wide := by
  obtain ⟨cs, hc, _⟩ := okWide_struct Tryz.underlying41 hval
  obtain ⟨fuel, hf⟩ := h
  obtain ⟨u, e, w1⟩ := cells_cut hf
  exact ⟨u, (cells_back hc e).trans rfl, w1⟩
theorem open_spanV {base : Nat} {v : Value} {d : DataW H} {ps : List MemPlace} (hval : Value.okWide Tryz.prog W .any base 43 v) (h : DataW.Trod enc Tryz.prog W 0 (fun _ => true) true 43 v d ps) : ∃ u : Sp, v = spanV u ∧ u.wide := by
  obtain ⟨cs, hc, _⟩ := okWide_struct Tryz.underlying43 hval
  obtain ⟨fuel, hf⟩ := h
  obtain ⟨u, e, w1⟩ := cells_span hf
  exact ⟨u, (cells_back hc e).trans rfl, w1⟩
end
end Go.Proofs.YtmlecnomdamgnaaGreat
end

section
/-
  A parameter that is a slice of spans: it reads as a list, out of the row's own conditions.
-/
namespace Go.Proofs.YtmlecnomdamgnaaGreat
open Go.ChangeShapes Go.WideShapes Go.ChangeAt Go.RowKit Go.Deep
set_option maxRecDepth 100000
set_option linter.unusedVariables false
set_option linter.unusedSimpArgs false

theorem list_of {α : Type} {p : Nat → α → Prop} : ∀ (n : Nat), (∀ i, i < n → ∃ x, p i x) → ∃ l : List α, l.length = n ∧ ∀ i (h : i < l.length), p i l[i]
  | 0, _ => ⟨[], rfl, fun i h => absurd h (Nat.not_lt_zero _)⟩
  | n + 1, h => by
    obtain ⟨l, hl, hp⟩ := list_of n fun i hi => h i (Nat.lt_succ_of_lt hi)
    obtain ⟨x, hx⟩ := h n (Nat.lt_succ_self n)
    refine ⟨l ++ [x], by simp [hl], fun i hi => ?_⟩
    by_cases h1 : i < l.length
    · rw [List.getElem_append_left h1]; exact hp i h1
    · have : i = n := by simp at hi; omega
      subst this
      rw [List.getElem_append_right (by omega)]
      simpa [hl] using hx
theorem cell_spot {w : World} {a : Addr} {v : Value} (h : w.cell? a = some v) : a.spot = none := by
  unfold World.cell? at h
  split at h
  · split at h
    · cases h
    · rename_i hs; simpa using hs
  · cases h
theorem addr_at {a : Addr} (h : a.spot = none) (k : Nat) : a.add k = ⟨a.block, a.off + k, none⟩ := by
  obtain ⟨b, o, s⟩ := a
  obtain rfl : s = none := h
  exact add_off b o k
theorem open_spans {H : Type} {enc : TypeId × Value → H} {W : World} {base : Nat} {v : Value} {d : DataW H} {ps : List MemPlace} (hval : Value.okWide Tryz.prog W .any base 22 v)
    (h : DataW.Trod enc Tryz.prog W 0 (fun _ => true) true 22 v d ps) : ∃ (A : Option Addr) (cap : Nat) (l : List Sp), v = .slice A l.length cap ∧ Reads spanC W W.heap.size A l ∧ l.length ≤ cap ∧ cap ≤ maxLen ∧ ∀ s ∈ l, s.wide := by
  obtain ⟨A, len, cap, rfl⟩ := okWide_slice Tryz.underlying22 hval
  obtain ⟨fuel, hf⟩ := h
  rcases DataW.trod_slice Tryz.underlying22 hf with ⟨hcs, _⟩ | ⟨a, len', cap', elems, rest, n, _, hcs, _, hb, hl, hm, hlen, hel, _, _⟩
  · simp [Value.cells] at hcs
    obtain ⟨rfl, rfl, rfl⟩ := hcs
    exact ⟨none, 0, [], rfl, fun h => by simp at h, Nat.le_refl _, Nat.zero_le _, fun s hs => by simp at hs⟩
  · simp [Value.cells] at hcs
    obtain ⟨rfl, rfl, rfl⟩ := hcs
    rw [size_span] at hel
    obtain ⟨l, hll, hp⟩ := list_of (p := fun i (s : Sp) => s.wide ∧ W.cells? 0 (a.add (i * 14)) 14 = some (spanC s)) len fun i hi => by
      have h1 := hel i hi
      rw [List.getElem?_eq_getElem (by omega)] at h1
      obtain ⟨cs, e1, e2⟩ := Option.bind_eq_some_iff.1 h1
      obtain ⟨s, e3, hw⟩ := cells_span e2
      exact ⟨s, hw, by rw [e1, e3]; rfl⟩
    refine ⟨some a, cap, l, by rw [hll], fun h0 => ?_, by omega, hm, fun s hs => ?_⟩
    · have c0 := (hp 0 h0).2
      have hc : ∀ i (hi : i < l.length) j u, (spanC l[i])[j]? = some u → W.cell? ((a.add (i * 14)).add j) = some u := fun i hi j u hj => by
        obtain ⟨_, hn, hx⟩ := World.cells?_some (hp i hi).2
        have hj14 : j < 14 := by have := (List.getElem?_eq_some_iff.1 hj).1; rwa [spanC_len] at this
        first | rw [hx j hj14, hj] | (have := hx j hj14; rw [this]; exact hj)
      have s0 : (spanC l[0])[0]? = some (.int .i64 l[0].lo.e) := rfl
      have sp : a.spot = none := by
        have := cell_spot (hc 0 h0 0 _ s0)
        simpa [Addr.add] using this
      refine ⟨a.block, a.off, ?_, ?_, fun k u hk => ?_⟩
      · obtain ⟨b, o, s⟩ := a
        obtain rfl : s = none := sp
        rfl
      · have := World.cells?_block c0 (by decide)
        rwa [addr_at sp] at this
      · have hkl : k < l.length * 14 := by have := (List.getElem?_eq_some_iff.1 hk).1; rwa [flat_len spanC_len] at this
        have hi : k / 14 < l.length := by omega
        have e : k = k / 14 * 14 + k % 14 := by omega
        have hm14 : k % 14 < 14 := Nat.mod_lt _ (by decide)
        have h2 := flat_at spanC_len l (k / 14) hi
        have h3 : (spanC l[k / 14])[k % 14]? = some u := by
          rw [← h2, List.getElem?_take, if_pos hm14, List.getElem?_drop, ← e]; exact hk
        have := hc (k / 14) hi (k % 14) u h3
        rw [addr_at sp, add_off, show a.off + k / 14 * 14 + k % 14 = a.off + k from by omega] at this
        exact this
    · obtain ⟨i, hi, rfl⟩ := List.mem_iff_getElem.1 hs
      exact (hp i hi).1
end Go.Proofs.YtmlecnomdamgnaaGreat
end

section
/-
  A parameter that is a slice of ints: it reads as a list, out of the row's own conditions.
-/
namespace Go.Proofs.YtmlecnomdamgnaaGreat
open Go.ChangeShapes Go.WideShapes Go.ChangeAt Go.RowKit

set_option maxRecDepth 100000 in
theorem open_nums {H : Type} {enc : TypeId × Value → H} {W : World} {base : Nat} {v : Value} {d : DataW H} {ps : List MemPlace} (hval : Value.okWide Tryz.prog W .any base 28 v)
    (h : DataW.Trod enc Tryz.prog W 0 (fun _ => true) true 28 v d ps) : ∃ l : List Int, ReadsI W W.heap.size v l ∧ l.length ≤ maxLen := by
  obtain ⟨A, len, cap, rfl⟩ := okWide_slice Tryz.underlying28 hval
  obtain ⟨fuel, hf⟩ := h
  rcases open_ints Tryz.underlying28 Tryz.underlying3 (by kernel_rfl) hf with ⟨hcs, _⟩ | ⟨a, len', cap', zs, hcs, _, hl, hm, hz, _, hcell, _⟩
  · simp [Value.cells] at hcs
    obtain ⟨rfl, rfl, rfl⟩ := hcs
    exact ⟨[], ⟨none, 0, rfl, fun h => by cases h⟩, by simp⟩
  · simp [Value.cells] at hcs
    obtain ⟨rfl, rfl, rfl⟩ := hcs
    simp only [if_true] at hz
    have hlen : (zs.take len).length = len := by rw [List.length_take]; omega
    refine ⟨zs.take len, ⟨some a, cap, by rw [hlen], fun h0 => ⟨a, rfl, ?_, fun j hj => ?_⟩⟩, by rw [hlen]; omega⟩
    · have := cell_lt (hcell 0 (by omega))
      rwa [add_block] at this
    · have hj2 : j < zs.length := by omega
      rw [hcell j hj2, List.getElem_take]
      simp only [List.getD, List.getElem?_eq_getElem hj2, Option.getD_some]
end Go.Proofs.YtmlecnomdamgnaaGreat
end

section
/-
  s[i:j] of a slice; its elements as a slice that came in. No condition of their own.
-/
namespace Go.Proofs.YtmlecnomdamgnaaGreat
open Go.RowKit
set_option maxRecDepth 100000
set_option linter.unusedVariables false
set_option linter.unusedSimpArgs false
theorem run_sl2 {P : Program} {ρ : Operand → Value} {o : Oper} {t e : TypeId} {x y z : Operand} {A : Option Addr} {b off n c sz : Nat} {k q : IntKind} {i j : Int} (ho : o.op = .slice t x (some y) (some z) none) (hx : ρ x = .slice A n c) (hA : A = some ⟨b, off, none⟩) (hy : ρ y = .int k i) (hz : ρ z = .int q j)
    (hu : P.underlying t = some (.slice e)) (hs : (P.info? e).map (·.size) = some sz) (h0 : 0 ≤ i) (h1 : i ≤ j) (h2 : j ≤ c) (w : World) : (execOp ρ o).run P w = .ok (.value (.slice (some ⟨b, off + (if c = i.toNat then 0 else i.toNat * sz), none⟩) (j.toNat - i.toNat) (c - i.toNat))) w := by
  subst hA
  cases he : P.info? e with
  | none => rw [he] at hs; cases hs
  | some u =>
    rw [he] at hs
    obtain rfl := Option.some.inj hs
    have h3 : 0 ≤ j := Int.le_trans h0 h1
    unfold execOp
    by_cases hc : c = i.toNat
    · simp [ho, hx, hy, hz, Instr.sliceAt, Instr.slice, Instr.sliceBounds, Instr.sliceBound, Sem.run_bind, asIntOf, run_underlying hu, h0, h1, h2, h3, sizeOf, typeInfo, he, add_off, hc]
      try (rw [if_pos (by omega), if_pos (by omega)])
    · simp [ho, hx, hy, hz, Instr.sliceAt, Instr.slice, Instr.sliceBounds, Instr.sliceBound, Sem.run_bind, asIntOf, run_underlying hu, h0, h1, h2, h3, sizeOf, typeInfo, he, add_off, hc]
      try (first | omega | (rw [if_pos (by omega), if_pos (by omega)]))
theorem Reads.one {α : Type} {g : α → List Value} {sz : Nat} (hg : ∀ x, (g x).length = sz) {w : World} {B b off c k : Nat} {A : Option Addr} {l : List α} (h : Reads g w B A l) (hA : A = some ⟨b, off, none⟩) (hk : k < l.length) (hc : l.length ≤ c) {i : Int} (hi : i.toNat = k) : Reads g w B (some ⟨b, off + (if c = i.toNat then 0 else i.toNat * sz), none⟩) [l[k]] := fun h0 => by
  subst hA hi
  obtain ⟨b', off', e, hlt, hcell⟩ := h (by omega)
  obtain ⟨rfl, rfl⟩ : b = b' ∧ off = off' := by simp at e; exact e
  refine ⟨b, _, rfl, hlt, fun j u hj => ?_⟩
  rw [if_neg (by omega)]
  have hj2 : (g l[i.toNat])[j]? = some u := by simpa using hj
  have hjs : j < sz := by have := (List.getElem?_eq_some_iff.1 hj2).1; rwa [hg] at this
  have h3 := flat_at hg l i.toNat hk
  rw [← h3, List.getElem?_take, if_pos hjs, List.getElem?_drop] at hj2
  have := hcell _ u hj2
  rw [show off + i.toNat * sz + j = off + (i.toNat * sz + j) from by omega]
  exact this
end Go.Proofs.YtmlecnomdamgnaaGreat
end

section
/-
  Plain mathematics: a row and its spans one by one. No condition of its own.
-/
namespace Go.Proofs.YtmlecnomdamgnaaGreat
set_option linter.unusedVariables false
set_option linter.unusedSimpArgs false

theorem Own.sublist {M : List Nat} {W w : World} {L L' : List Blk} (h : Own M W w L) (hs : List.Sublist L' L) : Own M W w L' := h.take (fun x hx => hs.subset hx) (h.apart.sublist (hs.map _))
theorem take_may4 {a : List Sp} (h : rowMay a = true) (k : Nat) : rowMay (a.take k) = true := by
  have key : ∀ j, rowMay (a.take (a.length - j)) = true := by
    intro j
    induction j with
    | zero => rw [Nat.sub_zero, List.take_length]; exact h
    | succ j ih =>
      by_cases hj : j < a.length
      · have e : a.length - j = (a.length - (j + 1)) + 1 := by omega
        rw [e, List.take_succ_eq_append_getElem (by omega)] at ih
        exact (row_init ih).1
      · rw [show a.length - (j + 1) = 0 from by omega, List.take_zero]; rfl
  by_cases hk : k ≤ a.length
  · have := key (a.length - k)
    rwa [show a.length - (a.length - k) = k from by omega] at this
  · rw [List.take_of_length_le (by omega)]; exact h
theorem take_rf {a : List Sp} {n : Nat} (h : RF a n) (k : Nat) : RF (a.take k) n := ⟨take_may4 h.may k, Nat.le_trans (List.length_take_le' k a) h.len⟩
theorem one_rf {a : List Sp} {n k : Nat} (h : RF a n) (hk : k < a.length) {s : Sp} (hs : a[k] = s) : RF [s] 1 := ⟨row_snoc (l := []) rfl (hs ▸ row_mem h.may _ (List.getElem_mem hk)) (fun t ht => by simp at ht), Nat.le_refl _⟩
theorem before4 {a : List Sp} (h : rowMay a = true) {k : Nat} (hk : k < a.length) : ∀ t ∈ a.take k, cmpC t.hi a[k].lo < 0 := by
  intro t ht
  obtain ⟨i, hi, rfl⟩ := List.mem_iff_getElem.1 ht
  have hi2 : i < k := by rw [List.length_take] at hi; omega
  have e : a = a.take i ++ a[i] :: a.drop (i + 1) := by
    rw [← List.drop_eq_getElem_cons (by omega), List.take_append_drop]
  have h2 : rowMay (a[i] :: a.drop (i + 1)) = true := may_drop (a.take i) _ (e ▸ h)
  rw [List.getElem_take]
  refine row_after h2 _ ?_
  rw [List.mem_iff_getElem]
  exact ⟨k - (i + 1), by rw [List.length_drop]; omega, by rw [List.getElem_drop]; congr 1; omega⟩
theorem one_in4 {a : List Sp} (h : rowMay a = true) {k : Nat} (hk : k < a.length) {s : Sp} (hs : a[k] = s) : andL [s] a = [s] := by
  have h1 : rowMay [s] = true := (one_rf (n := a.length) ⟨h, Nat.le_refl _⟩ hk hs).may
  refine row_ext _ _ (and_ok h1 h).1 h1 fun x hx he => ?_
  rw [(and_ok h1 h).2 x hx he]
  cases hi : den [s] x with
  | false => rfl
  | true =>
    have h2 : inSp s x = true := by simpa [den] using hi
    have : den a x = true := by
      unfold den
      rw [List.any_eq_true]
      exact ⟨s, hs ▸ List.getElem_mem hk, h2⟩
    rw [this]; rfl
theorem apart4 {a : List Sp} (h : rowMay a = true) {k : Nat} (hk : k < a.length) {s : Sp} (hs : a[k] = s) : andL (a.take k) [s] = [] := by
  have h1 : rowMay [s] = true := (one_rf (n := a.length) ⟨h, Nat.le_refl _⟩ hk hs).may
  have h0 := take_may4 h k
  refine row_ext _ _ (and_ok h0 h1).1 rfl fun x hx he => ?_
  rw [(and_ok h0 h1).2 x hx he]
  show _ = false
  cases hi : den (a.take k) x with
  | false => rfl
  | true =>
    unfold den at hi
    rw [List.any_eq_true] at hi
    obtain ⟨t, ht, hin⟩ := hi
    have hb := before4 h hk t ht
    rw [hs] at hb
    have hlt : cmpC x t.hi < 0 := by unfold inSp at hin; simp at hin; exact hin.2
    have mt := span_mays (row_mem h0 t ht)
    have ms := span_mays (row_head h1)
    have : cmpC x s.lo < 0 := clt_trans hx mt.2 ms.1 hlt hb
    have h3 : inSp s x = false := by
      unfold inSp
      rw [decide_eq_false (clt_not this)]; rfl
    simp [den, h3]
theorem next4 {a : List Sp} (h : rowMay a = true) {k : Nat} (hk : k < a.length) {s : Sp} (hs : a[k] = s) : orL (a.take k) [s] = a.take (k + 1) := by
  have h1 : rowMay [s] = true := (one_rf (n := a.length) ⟨h, Nat.le_refl _⟩ hk hs).may
  have h0 := take_may4 h k
  refine row_ext _ _ (or_ok h0 h1).1 (take_may4 h (k + 1)) fun x hx he => ?_
  rw [(or_ok h0 h1).2 x hx he, List.take_succ_eq_append_getElem hk, hs, den_app]
theorem run_sl1 {P : Program} {ρ : Operand → Value} {o : Oper} {t e : TypeId} {x y z : Operand} {A : Option Addr} {b off n c sz k : Nat} (ho : o.op = .slice t x (some y) (some z) none) (hx : ρ x = .slice A n c) (hA : A = some ⟨b, off, none⟩) (hy : ρ y = .int .i64 (k : Int)) (hz : ρ z = .int .i64 ((k + 1 : Nat) : Int))
    (hu : P.underlying t = some (.slice e)) (hs : (P.info? e).map (·.size) = some sz) (h2 : k + 1 ≤ c) (w : World) : (execOp ρ o).run P w = .ok (.value (.slice (some ⟨b, off + (if c = k then 0 else k * sz), none⟩) 1 (c - k))) w := by
  have h := run_sl2 ho hx hA hy hz hu hs (by omega) (by omega) (by omega) w
  have e : ((k + 1 : Nat) : Int).toNat - (k : Int).toNat = 1 := by show k + 1 - k = 1; omega
  rw [e] at h
  exact h
end Go.Proofs.YtmlecnomdamgnaaGreat
end
