/-
  What the statements' proofs lean on, part 5: each part begins with a remark that says what it proves and on what conditions.
-/
import Derived.Test.YtgeccfdofmnphaaGreatMA4

section
/-
  Package row's And, Within.
-/
namespace Go.Proofs.YtgeccfdofmnphaaGreat
open Go.RowKit
set_option maxRecDepth 100000
set_option linter.unusedVariables false
set_option linter.unusedSimpArgs false
set_option maxHeartbeats 2000000


/-- The state of And's loop: what is left of both rows, what has been found. -/
structure BothB (a b : List Sp) (W : World) (A1 B1 : Option Addr) (c1 c2 n : Nat) (a1 b1 : List Sp) (v : Value) (out : List Sp) (ob : List Blk) : Prop where
  ra : Reads spanC W W.heap.size A1 a1
  rb : Reads spanC W W.heap.size B1 b1
  ca : a1.length ≤ c1
  cb : b1.length ≤ c2
  sa : ShortL a1
  sb : ShortL b1
  sl : SlS v out ob
  so : ShortL out
  len : out.length + n ≤ a.length + b.length
  fuel : a1.length + b1.length ≤ n
  eq : andG (a.length + b.length) [] a b = andG n out a1 b1
theorem andG_end {n : Nat} {out a b : List Sp} (h : ¬ (0 < a.length ∧ 0 < b.length)) : andG n out a b = out := by
  cases n with
  | zero => cases a <;> cases b <;> rfl
  | succ n =>
    cases a with
    | nil => rfl
    | cons s a =>
      cases b with
      | nil => rfl
      | cons u b => exact absurd ⟨by simp, by simp⟩ h
theorem drop1_short {l : List Sp} (h : ShortL l) : ShortL (l.drop 1) := fun s hs => h s (List.mem_of_mem_drop hs)
theorem BothB.stepA {a b : List Sp} {W : World} {A1 B1 : Option Addr} {c1 c2 n o b0 : Nat} {a1 b1 : List Sp} {v v2 : Value} {out : List Sp} {ob ob2 : List Blk} (h : BothB a b W A1 B1 c1 c2 n a1 b1 v out ob) (ha : 0 < a1.length) (hb : 0 < b1.length) {s u : Sp} (hs : a1[0] = s) (hu : b1[0] = u) (hA : A1 = some ⟨b0, o, none⟩)
    (he : s.hi = minC s.hi u.hi) (h2 : SlS v2 (addL out (maxC s.lo u.lo) (minC s.hi u.hi)) ob2) : BothB a b W (some ⟨b0, o + (if c1 = (1 : Int).toNat then 0 else (1 : Int).toNat * 14), none⟩) B1 (c1 - (1 : Int).toNat) c2 (n - 1) (a1.drop 1) b1 v2 (addL out (maxC s.lo u.lo) (minC s.hi u.hi)) ob2 := by
  have hss : s.short := hs ▸ h.sa _ (List.getElem_mem ha)
  have hus : u.short := hu ▸ h.sb _ (List.getElem_mem hb)
  have hf := h.fuel
  have h1 : (1 : Int).toNat = 1 := rfl
  refine ⟨h.ra.drop1 spanC_len hA h.ca, h.rb, by rw [List.length_drop, h1]; have := h.ca; omega, h.cb, drop1_short h.sa, h.sb, h2, add_short h.so (maxC_short hss.1 hus.1) (minC_short hss.2 hus.2), by have := h.len; have := add_len out (maxC s.lo u.lo) (minC s.hi u.hi); omega, by rw [List.length_drop]; omega, ?_⟩
  rw [h.eq]
  obtain ⟨m, rfl⟩ : ∃ m, n = m + 1 := ⟨n - 1, by omega⟩
  match a1, b1, ha, hb, hs, hu with
  | x :: a2, y :: b2, _, _, hs, hu =>
    obtain rfl : x = s := hs
    obtain rfl : y = u := hu
    conv => lhs; unfold andG
    rw [if_pos he]; rfl
theorem BothB.stepB {a b : List Sp} {W : World} {A1 B1 : Option Addr} {c1 c2 n o b0 : Nat} {a1 b1 : List Sp} {v v2 : Value} {out : List Sp} {ob ob2 : List Blk} (h : BothB a b W A1 B1 c1 c2 n a1 b1 v out ob) (ha : 0 < a1.length) (hb : 0 < b1.length) {s u : Sp} (hs : a1[0] = s) (hu : b1[0] = u) (hB : B1 = some ⟨b0, o, none⟩)
    (he : ¬ s.hi = minC s.hi u.hi) (h2 : SlS v2 (addL out (maxC s.lo u.lo) (minC s.hi u.hi)) ob2) : BothB a b W A1 (some ⟨b0, o + (if c2 = (1 : Int).toNat then 0 else (1 : Int).toNat * 14), none⟩) c1 (c2 - (1 : Int).toNat) (n - 1) a1 (b1.drop 1) v2 (addL out (maxC s.lo u.lo) (minC s.hi u.hi)) ob2 := by
  have hss : s.short := hs ▸ h.sa _ (List.getElem_mem ha)
  have hus : u.short := hu ▸ h.sb _ (List.getElem_mem hb)
  have hf := h.fuel
  have h1 : (1 : Int).toNat = 1 := rfl
  refine ⟨h.ra, h.rb.drop1 spanC_len hB h.cb, h.ca, by rw [List.length_drop, h1]; have := h.cb; omega, h.sa, drop1_short h.sb, h2, add_short h.so (maxC_short hss.1 hus.1) (minC_short hss.2 hus.2), by have := h.len; have := add_len out (maxC s.lo u.lo) (minC s.hi u.hi); omega, by rw [List.length_drop]; omega, ?_⟩
  rw [h.eq]
  obtain ⟨m, rfl⟩ : ∃ m, n = m + 1 := ⟨n - 1, by omega⟩
  match a1, b1, ha, hb, hs, hu with
  | x :: a2, y :: b2, _, _, hs, hu =>
    obtain rfl : x = s := hs
    obtain rfl : y = u := hu
    conv => lhs; unfold andG
    rw [if_neg he]; rfl
set_option maxHeartbeats 4000000 in
theorem and4_any (A B : Option Addr) (cap capb : Nat) (a b : List Sp) (W : World) (hv : Reads spanC W W.heap.size A a) (hu : Reads spanC W W.heap.size B b) (hn : a.length ≤ 100000) (hm : b.length ≤ 100000) (ha : ShortL a) (hb : ShortL b) (hca : a.length ≤ cap) (hcb : b.length ≤ capb) :
    Calls Tryz.prog 67 #[.slice A a.length cap, .slice B b.length capb] W fun e w' => ∃ v' ob', e = .returned v' ∧ SlS v' (if rowMay a && rowMay b then andL a b else []) ob' ∧ Own [] W w' ob' := by
  refine calls_ok (n := 66) Tryz.func67 rfl (by kernel_rfl) (by kernel_rfl) ?_
  refine ok_seq ?_
  refine ok_region ?_
  refine s_val (.slice none 0 0) (by kernel_rfl) (fun _ => by kernel_rfl) ?_
  refine s_nil ?_
  refine fin_seq ?_
  refine ok_seq ?_
  refine ok_seq ?_
  refine ok_region ?_
  refine s_val (.slice A a.length cap) (by kernel_rfl) (fun _ => by kernel_rfl) ?_
  refine s_call (k := 42) (args := #[.slice A a.length cap]) (.bool (rowMay a)) (by kernel_rfl) (fun _ => by kernel_rfl) (fun w hO => may4_any A cap a w (hv.on hO.below hO.size) (by omega) ha) ?_
  cases h1 : rowMay a with
  | true =>
    refine s_val (.bool false) (by kernel_rfl) (fun _ => by kernel_rfl) ?_
    refine s_val (.bool false) (by kernel_rfl) (fun _ => by kernel_rfl) ?_
    refine s_val (.slice B b.length capb) (by kernel_rfl) (fun _ => by kernel_rfl) ?_
    refine s_call (k := 42) (args := #[.slice B b.length capb]) (.bool (rowMay b)) (by kernel_rfl) (fun _ => by kernel_rfl) (fun w hO => may4_any B capb b w (hu.on hO.below hO.size) (by omega) hb) ?_
    cases h2 : rowMay b with
    | true =>
      refine s_val (.bool false) (by kernel_rfl) (fun _ => by kernel_rfl) ?_
      refine s_val (.bool false) (by kernel_rfl) (fun _ => by kernel_rfl) ?_
      refine s_nil ?_
      refine fin_seq ?_
      refine ok_false (by kernel_rfl) ?_
      refine ok_skip ?_
      refine fin_seq ?_
      refine ok_seq ?_
      refine ok_region ?_
      refine s_val (.slice none 0 0) (by kernel_rfl) (fun _ => by kernel_rfl) ?_
      refine s_nil ?_
      refine fin_seq ?_
      refine ok_seq ?_
      refine ok_block ?_
      refine ok_cast (L' := [] ++ []) rfl ?_
      refine ok_loop (fun L f m => ∃ (A1 : Option Addr) (B1 : Option Addr) (q1 : Nat) (q2 : Nat) (c1 : Nat) (c2 : Nat) (n : Nat) (a1 : List Sp) (b1 : List Sp) (v : Value) (out : List Sp) (ob : List Blk) (j : Nat → Value), (q1 = a1.length ∧ q2 = b1.length ∧ BothB a b W A1 B1 c1 c2 n a1 b1 v out ob) ∧ L = ob ++ [] ∧ f = upds j [(0, .slice A1 q1 c1), (1, .slice B1 q2 c2), (5, v)] ∧ m = a1.length + b1.length) (a.length + b.length) ⟨A, B, a.length, b.length, cap, capb, a.length + b.length, a, b, _, [], [], _, ⟨rfl, rfl, ⟨hv, hu, hca, hcb, ha, hb, Sl.nil _ _, fun s hs => by simp at hs, by simp, Nat.le_refl _, rfl⟩⟩, rfl, upds_self _ ⟨by kernel_rfl, by kernel_rfl, by kernel_rfl, trivial⟩, rfl⟩ ?_
      rintro L f m ⟨A1, B1, q1, q2, c1, c2, n, a1, b1, v, out, ob, j, hrel, rfl, rfl, rfl⟩
      obtain ⟨hq1, hq2, hrel⟩ := hrel; subst hq1; subst hq2; have hlen := hrel.len; have hfuel := hrel.fuel; refine ok_cast (L' := ob) (List.append_nil ob) ?_
      refine ok_seq ?_
      refine ok_seq ?_
      refine ok_region ?_
      refine s_val (.slice A1 a1.length c1) (by kernel_rfl) (fun _ => by kernel_rfl) ?_
      refine s_val (.int .i64 (a1.length : Int)) (by kernel_rfl) (fun _ => by kernel_rfl) ?_
      by_cases h3 : (0 : Int) < (a1.length : Int)
      · skip
        have hka : 0 < a1.length := by omega
        obtain ⟨ba, offa, hA, hlta, hcela⟩ := hrel.ra hka
        obtain ⟨s, hs⟩ : ∃ s, a1[0] = s := ⟨_, rfl⟩
        have hsk : s.short := hs ▸ hrel.sa _ (List.getElem_mem hka)
        refine s_dec (p := (0 : Int) < (a1.length : Int)) true (by kernel_rfl) (fun _ => by kernel_rfl) (decide_eq_true (h3)) ?_
        refine s_val (.bool true) (by kernel_rfl) (fun _ => by kernel_rfl) ?_
        refine s_val (.slice B1 b1.length c2) (by kernel_rfl) (fun _ => by kernel_rfl) ?_
        refine s_val (.int .i64 (b1.length : Int)) (by kernel_rfl) (fun _ => by kernel_rfl) ?_
        by_cases h4 : (0 : Int) < (b1.length : Int)
        · skip
          have hkb : 0 < b1.length := by omega
          obtain ⟨bb, offb, hB, hltb, hcelb⟩ := hrel.rb hkb
          obtain ⟨u, hu1⟩ : ∃ u, b1[0] = u := ⟨_, rfl⟩
          have huk : u.short := hu1 ▸ hrel.sb _ (List.getElem_mem hkb)
          refine s_dec (p := (0 : Int) < (b1.length : Int)) true (by kernel_rfl) (fun _ => by kernel_rfl) (decide_eq_true (h4)) ?_
          refine s_val (.bool true) (by kernel_rfl) (fun _ => by kernel_rfl) ?_
          refine s_nil ?_
          refine fin_seq ?_
          refine ok_true (by kernel_rfl) ?_
          refine ok_skip ?_
          refine fin_seq ?_
          refine ok_block ?_
          refine ok_seq ?_
          refine ok_join (fun L f => ∃ (p6 p7 : Nat) (j : Nat → Value), L = ⟨p7, (cutV (maxC s.lo u.lo)).cells, 48⟩ :: (⟨p6, (cutV (minC s.lo u.lo)).cells, 48⟩ :: (ob)) ∧ f = upds j [(0, .slice A1 a1.length c1), (1, .slice B1 b1.length c2), (5, v), (6, .pointer (some ⟨p6, 0, none⟩)), (7, .pointer (some ⟨p7, 0, none⟩))]) ?_ ?_
          · skip
            refine ok_anyh (by kernel_rfl) ?_
            refine h_take 0 [] _ (.slice A1 a1.length c1) rfl (by kernel_rfl) (by kernel_rfl) (by kernel_rfl) pq_join (by kernel_rfl) (fun _ _ => by kernel_rfl) ?_
            refine h_take 1 [] _ (.pointer (some ⟨ba, offa + 0 * 14, none⟩)) rfl (by kernel_rfl) (by kernel_rfl) (by kernel_rfl) pq_join (by kernel_rfl) (fun w _ => run_ixA (b := ba) (off := offa) (c := c1) (n := a1.length) (k := .i64) (j := 0) (e := 50) (sz := 14) rfl (by kernel_rfl) hA (by kernel_rfl) (by kernel_rfl) (by kernel_rfl) (by omega) (by omega) (by omega) w) ?_
            refine h_take 2 [] _ (.pointer (some ⟨ba, offa + 0 * 14 + 0, none⟩)) rfl (by kernel_rfl) (by kernel_rfl) (by kernel_rfl) pq_join (by kernel_rfl) (fun _ _ => by kernel_rfl) ?_
            refine hl_old 3 _ (a := ⟨ba, offa + 0 * 14 + 0, none⟩) (cutV s.lo) rfl (by kernel_rfl) (by kernel_rfl) (by kernel_rfl) pq_join (fun w hO => Own.sub [] hO) (by kernel_rfl) rfl (by kernel_rfl) (fun w hO => elem_load spanC_len (fun j u h => (hO.below.cell (p := ⟨ba, offa + j, none⟩) hlta).trans (hcela j u h)) 0 0 hka (by omega) _ (by rw [hs]; kernel_rfl)) ?_
            refine h_take 4 [] _ (.slice B1 b1.length c2) rfl (by kernel_rfl) (by kernel_rfl) (by kernel_rfl) pq_join (by kernel_rfl) (fun _ _ => by kernel_rfl) ?_
            refine h_take 5 [] _ (.pointer (some ⟨bb, offb + 0 * 14, none⟩)) rfl (by kernel_rfl) (by kernel_rfl) (by kernel_rfl) pq_join (by kernel_rfl) (fun w _ => run_ixA (b := bb) (off := offb) (c := c2) (n := b1.length) (k := .i64) (j := 0) (e := 50) (sz := 14) rfl (by kernel_rfl) hB (by kernel_rfl) (by kernel_rfl) (by kernel_rfl) (by omega) (by omega) (by omega) w) ?_
            refine h_take 6 [] _ (.pointer (some ⟨bb, offb + 0 * 14 + 0, none⟩)) rfl (by kernel_rfl) (by kernel_rfl) (by kernel_rfl) pq_join (by kernel_rfl) (fun _ _ => by kernel_rfl) ?_
            refine hl_old 7 _ (a := ⟨bb, offb + 0 * 14 + 0, none⟩) (cutV u.lo) rfl (by kernel_rfl) (by kernel_rfl) (by kernel_rfl) pq_join (fun w hO => Own.sub [] hO) (by kernel_rfl) rfl (by kernel_rfl) (fun w hO => elem_load spanC_len (fun j u h => (hO.below.cell (p := ⟨bb, offb + j, none⟩) hltb).trans (hcelb j u h)) 0 0 hkb (by omega) _ (by rw [hu1]; kernel_rfl)) ?_
            refine h_three 8 12 13 (by kernel_rfl) ?_ ?_ ?_
            · skip
              refine hs_call [] _ (k := 83) (args := #[cutV s.lo, cutV u.lo]) (.tuple #[cutV (minC s.lo u.lo), cutV (maxC s.lo u.lo)]) rfl (by kernel_rfl) (fun _ => by kernel_rfl) (fun w _ => order_any s.lo u.lo w hsk.1 huk.1) ?_
              refine h_take 9 [] _ (.tuple #[cutV (minC s.lo u.lo), cutV (maxC s.lo u.lo)]) rfl (by kernel_rfl) (by kernel_rfl) (by kernel_rfl) pq_join (by kernel_rfl) (fun _ _ => by kernel_rfl) ?_
              refine h_take 10 [] _ (cutV (minC s.lo u.lo)) rfl (by kernel_rfl) (by kernel_rfl) (by kernel_rfl) pq_join (by kernel_rfl) (fun _ _ => by kernel_rfl) ?_
              refine h_take 11 [] _ (cutV (maxC s.lo u.lo)) rfl (by kernel_rfl) (by kernel_rfl) (by kernel_rfl) pq_join (by kernel_rfl) (fun _ _ => by kernel_rfl) ?_
              refine h_two 12 13 (by kernel_rfl) ?_ ?_
              · skip
                refine hs_alloc [] _ (.agg #[.int .i64 0, .int .i64 0, .int .i64 0, .int .i64 0, .string ⟨#[]⟩, .string ⟨#[]⟩, .bool false]) rfl (by kernel_rfl) rfl (by kernel_rfl) (fun b1 => ?_)
                refine h_one 13 (by kernel_rfl) ?_
                refine hs_alloc [⟨b1, #[.int .i64 0, .int .i64 0, .int .i64 0, .int .i64 0, .string ⟨#[]⟩, .string ⟨#[]⟩, .bool false], 48⟩] _ (.agg #[.int .i64 0, .int .i64 0, .int .i64 0, .int .i64 0, .string ⟨#[]⟩, .string ⟨#[]⟩, .bool false]) rfl (by kernel_rfl) rfl (by kernel_rfl) (fun b2 => ?_)
                refine h_one 14 (by kernel_rfl) ?_
                refine hs_store [⟨b2, #[.int .i64 0, .int .i64 0, .int .i64 0, .int .i64 0, .string ⟨#[]⟩, .string ⟨#[]⟩, .bool false], 48⟩, ⟨b1, #[.int .i64 0, .int .i64 0, .int .i64 0, .int .i64 0, .string ⟨#[]⟩, .string ⟨#[]⟩, .bool false], 48⟩] _ 1 ⟨b1, #[.int .i64 0, .int .i64 0, .int .i64 0, .int .i64 0, .string ⟨#[]⟩, .string ⟨#[]⟩, .bool false], 48⟩ (off := 0) (cutV (minC s.lo u.lo)) rfl (by kernel_rfl) rfl rfl (by kernel_rfl) (by kernel_rfl) (by kernel_rfl) (by kernel_rfl) (by kernel_rfl) ?_
                refine h_one 15 (by kernel_rfl) ?_
                refine hs_store [⟨b2, #[.int .i64 0, .int .i64 0, .int .i64 0, .int .i64 0, .string ⟨#[]⟩, .string ⟨#[]⟩, .bool false], 48⟩, ⟨b1, (cutV (minC s.lo u.lo)).cells, 48⟩] _ 0 ⟨b2, #[.int .i64 0, .int .i64 0, .int .i64 0, .int .i64 0, .string ⟨#[]⟩, .string ⟨#[]⟩, .bool false], 48⟩ (off := 0) (cutV (maxC s.lo u.lo)) rfl (by kernel_rfl) rfl rfl (by kernel_rfl) (by kernel_rfl) (by kernel_rfl) (by kernel_rfl) (by kernel_rfl) ?_
                refine h_done (by kernel_rfl) ?_
                exact fin_join ⟨b1, b2, _, rfl, upds_self _ ⟨by kernel_rfl, by kernel_rfl, by kernel_rfl, by kernel_rfl, by kernel_rfl, trivial⟩⟩
              · skip
                refine hs_alloc [] _ (.agg #[.int .i64 0, .int .i64 0, .int .i64 0, .int .i64 0, .string ⟨#[]⟩, .string ⟨#[]⟩, .bool false]) rfl (by kernel_rfl) rfl (by kernel_rfl) (fun b1 => ?_)
                refine h_one 12 (by kernel_rfl) ?_
                refine hs_alloc [⟨b1, #[.int .i64 0, .int .i64 0, .int .i64 0, .int .i64 0, .string ⟨#[]⟩, .string ⟨#[]⟩, .bool false], 48⟩] _ (.agg #[.int .i64 0, .int .i64 0, .int .i64 0, .int .i64 0, .string ⟨#[]⟩, .string ⟨#[]⟩, .bool false]) rfl (by kernel_rfl) rfl (by kernel_rfl) (fun b2 => ?_)
                refine h_one 14 (by kernel_rfl) ?_
                refine hs_store [⟨b2, #[.int .i64 0, .int .i64 0, .int .i64 0, .int .i64 0, .string ⟨#[]⟩, .string ⟨#[]⟩, .bool false], 48⟩, ⟨b1, #[.int .i64 0, .int .i64 0, .int .i64 0, .int .i64 0, .string ⟨#[]⟩, .string ⟨#[]⟩, .bool false], 48⟩] _ 0 ⟨b2, #[.int .i64 0, .int .i64 0, .int .i64 0, .int .i64 0, .string ⟨#[]⟩, .string ⟨#[]⟩, .bool false], 48⟩ (off := 0) (cutV (minC s.lo u.lo)) rfl (by kernel_rfl) rfl rfl (by kernel_rfl) (by kernel_rfl) (by kernel_rfl) (by kernel_rfl) (by kernel_rfl) ?_
                refine h_one 15 (by kernel_rfl) ?_
                refine hs_store [⟨b2, (cutV (minC s.lo u.lo)).cells, 48⟩, ⟨b1, #[.int .i64 0, .int .i64 0, .int .i64 0, .int .i64 0, .string ⟨#[]⟩, .string ⟨#[]⟩, .bool false], 48⟩] _ 1 ⟨b1, #[.int .i64 0, .int .i64 0, .int .i64 0, .int .i64 0, .string ⟨#[]⟩, .string ⟨#[]⟩, .bool false], 48⟩ (off := 0) (cutV (maxC s.lo u.lo)) rfl (by kernel_rfl) rfl rfl (by kernel_rfl) (by kernel_rfl) (by kernel_rfl) (by kernel_rfl) (by kernel_rfl) ?_
                refine h_done (by kernel_rfl) ?_
                refine fin_swap ?_
                exact fin_join ⟨b2, b1, _, rfl, upds_self _ ⟨by kernel_rfl, by kernel_rfl, by kernel_rfl, by kernel_rfl, by kernel_rfl, trivial⟩⟩
            · skip
              refine hs_alloc [] _ (.agg #[.int .i64 0, .int .i64 0, .int .i64 0, .int .i64 0, .string ⟨#[]⟩, .string ⟨#[]⟩, .bool false]) rfl (by kernel_rfl) rfl (by kernel_rfl) (fun b1 => ?_)
              refine h_two 8 13 (by kernel_rfl) ?_ ?_
              · skip
                refine hs_call [⟨b1, #[.int .i64 0, .int .i64 0, .int .i64 0, .int .i64 0, .string ⟨#[]⟩, .string ⟨#[]⟩, .bool false], 48⟩] _ (k := 83) (args := #[cutV s.lo, cutV u.lo]) (.tuple #[cutV (minC s.lo u.lo), cutV (maxC s.lo u.lo)]) rfl (by kernel_rfl) (fun _ => by kernel_rfl) (fun w _ => order_any s.lo u.lo w hsk.1 huk.1) ?_
                refine h_take 9 [⟨b1, #[.int .i64 0, .int .i64 0, .int .i64 0, .int .i64 0, .string ⟨#[]⟩, .string ⟨#[]⟩, .bool false], 48⟩] _ (.tuple #[cutV (minC s.lo u.lo), cutV (maxC s.lo u.lo)]) rfl (by kernel_rfl) (by kernel_rfl) (by kernel_rfl) pq_join (by kernel_rfl) (fun _ _ => by kernel_rfl) ?_
                refine h_take 10 [⟨b1, #[.int .i64 0, .int .i64 0, .int .i64 0, .int .i64 0, .string ⟨#[]⟩, .string ⟨#[]⟩, .bool false], 48⟩] _ (cutV (minC s.lo u.lo)) rfl (by kernel_rfl) (by kernel_rfl) (by kernel_rfl) pq_join (by kernel_rfl) (fun _ _ => by kernel_rfl) ?_
                refine h_take 11 [⟨b1, #[.int .i64 0, .int .i64 0, .int .i64 0, .int .i64 0, .string ⟨#[]⟩, .string ⟨#[]⟩, .bool false], 48⟩] _ (cutV (maxC s.lo u.lo)) rfl (by kernel_rfl) (by kernel_rfl) (by kernel_rfl) pq_join (by kernel_rfl) (fun _ _ => by kernel_rfl) ?_
                refine h_one 13 (by kernel_rfl) ?_
                refine hs_alloc [⟨b1, #[.int .i64 0, .int .i64 0, .int .i64 0, .int .i64 0, .string ⟨#[]⟩, .string ⟨#[]⟩, .bool false], 48⟩] _ (.agg #[.int .i64 0, .int .i64 0, .int .i64 0, .int .i64 0, .string ⟨#[]⟩, .string ⟨#[]⟩, .bool false]) rfl (by kernel_rfl) rfl (by kernel_rfl) (fun b2 => ?_)
                refine h_one 14 (by kernel_rfl) ?_
                refine hs_store [⟨b2, #[.int .i64 0, .int .i64 0, .int .i64 0, .int .i64 0, .string ⟨#[]⟩, .string ⟨#[]⟩, .bool false], 48⟩, ⟨b1, #[.int .i64 0, .int .i64 0, .int .i64 0, .int .i64 0, .string ⟨#[]⟩, .string ⟨#[]⟩, .bool false], 48⟩] _ 1 ⟨b1, #[.int .i64 0, .int .i64 0, .int .i64 0, .int .i64 0, .string ⟨#[]⟩, .string ⟨#[]⟩, .bool false], 48⟩ (off := 0) (cutV (minC s.lo u.lo)) rfl (by kernel_rfl) rfl rfl (by kernel_rfl) (by kernel_rfl) (by kernel_rfl) (by kernel_rfl) (by kernel_rfl) ?_
                refine h_one 15 (by kernel_rfl) ?_
                refine hs_store [⟨b2, #[.int .i64 0, .int .i64 0, .int .i64 0, .int .i64 0, .string ⟨#[]⟩, .string ⟨#[]⟩, .bool false], 48⟩, ⟨b1, (cutV (minC s.lo u.lo)).cells, 48⟩] _ 0 ⟨b2, #[.int .i64 0, .int .i64 0, .int .i64 0, .int .i64 0, .string ⟨#[]⟩, .string ⟨#[]⟩, .bool false], 48⟩ (off := 0) (cutV (maxC s.lo u.lo)) rfl (by kernel_rfl) rfl rfl (by kernel_rfl) (by kernel_rfl) (by kernel_rfl) (by kernel_rfl) (by kernel_rfl) ?_
                refine h_done (by kernel_rfl) ?_
                exact fin_join ⟨b1, b2, _, rfl, upds_self _ ⟨by kernel_rfl, by kernel_rfl, by kernel_rfl, by kernel_rfl, by kernel_rfl, trivial⟩⟩
              · skip
                refine hs_alloc [⟨b1, #[.int .i64 0, .int .i64 0, .int .i64 0, .int .i64 0, .string ⟨#[]⟩, .string ⟨#[]⟩, .bool false], 48⟩] _ (.agg #[.int .i64 0, .int .i64 0, .int .i64 0, .int .i64 0, .string ⟨#[]⟩, .string ⟨#[]⟩, .bool false]) rfl (by kernel_rfl) rfl (by kernel_rfl) (fun b2 => ?_)
                refine h_one 8 (by kernel_rfl) ?_
                refine hs_call [⟨b2, #[.int .i64 0, .int .i64 0, .int .i64 0, .int .i64 0, .string ⟨#[]⟩, .string ⟨#[]⟩, .bool false], 48⟩, ⟨b1, #[.int .i64 0, .int .i64 0, .int .i64 0, .int .i64 0, .string ⟨#[]⟩, .string ⟨#[]⟩, .bool false], 48⟩] _ (k := 83) (args := #[cutV s.lo, cutV u.lo]) (.tuple #[cutV (minC s.lo u.lo), cutV (maxC s.lo u.lo)]) rfl (by kernel_rfl) (fun _ => by kernel_rfl) (fun w _ => order_any s.lo u.lo w hsk.1 huk.1) ?_
                refine h_take 9 [⟨b2, #[.int .i64 0, .int .i64 0, .int .i64 0, .int .i64 0, .string ⟨#[]⟩, .string ⟨#[]⟩, .bool false], 48⟩, ⟨b1, #[.int .i64 0, .int .i64 0, .int .i64 0, .int .i64 0, .string ⟨#[]⟩, .string ⟨#[]⟩, .bool false], 48⟩] _ (.tuple #[cutV (minC s.lo u.lo), cutV (maxC s.lo u.lo)]) rfl (by kernel_rfl) (by kernel_rfl) (by kernel_rfl) pq_join (by kernel_rfl) (fun _ _ => by kernel_rfl) ?_
                refine h_take 10 [⟨b2, #[.int .i64 0, .int .i64 0, .int .i64 0, .int .i64 0, .string ⟨#[]⟩, .string ⟨#[]⟩, .bool false], 48⟩, ⟨b1, #[.int .i64 0, .int .i64 0, .int .i64 0, .int .i64 0, .string ⟨#[]⟩, .string ⟨#[]⟩, .bool false], 48⟩] _ (cutV (minC s.lo u.lo)) rfl (by kernel_rfl) (by kernel_rfl) (by kernel_rfl) pq_join (by kernel_rfl) (fun _ _ => by kernel_rfl) ?_
                refine h_take 11 [⟨b2, #[.int .i64 0, .int .i64 0, .int .i64 0, .int .i64 0, .string ⟨#[]⟩, .string ⟨#[]⟩, .bool false], 48⟩, ⟨b1, #[.int .i64 0, .int .i64 0, .int .i64 0, .int .i64 0, .string ⟨#[]⟩, .string ⟨#[]⟩, .bool false], 48⟩] _ (cutV (maxC s.lo u.lo)) rfl (by kernel_rfl) (by kernel_rfl) (by kernel_rfl) pq_join (by kernel_rfl) (fun _ _ => by kernel_rfl) ?_
                refine h_one 14 (by kernel_rfl) ?_
                refine hs_store [⟨b2, #[.int .i64 0, .int .i64 0, .int .i64 0, .int .i64 0, .string ⟨#[]⟩, .string ⟨#[]⟩, .bool false], 48⟩, ⟨b1, #[.int .i64 0, .int .i64 0, .int .i64 0, .int .i64 0, .string ⟨#[]⟩, .string ⟨#[]⟩, .bool false], 48⟩] _ 1 ⟨b1, #[.int .i64 0, .int .i64 0, .int .i64 0, .int .i64 0, .string ⟨#[]⟩, .string ⟨#[]⟩, .bool false], 48⟩ (off := 0) (cutV (minC s.lo u.lo)) rfl (by kernel_rfl) rfl rfl (by kernel_rfl) (by kernel_rfl) (by kernel_rfl) (by kernel_rfl) (by kernel_rfl) ?_
                refine h_one 15 (by kernel_rfl) ?_
                refine hs_store [⟨b2, #[.int .i64 0, .int .i64 0, .int .i64 0, .int .i64 0, .string ⟨#[]⟩, .string ⟨#[]⟩, .bool false], 48⟩, ⟨b1, (cutV (minC s.lo u.lo)).cells, 48⟩] _ 0 ⟨b2, #[.int .i64 0, .int .i64 0, .int .i64 0, .int .i64 0, .string ⟨#[]⟩, .string ⟨#[]⟩, .bool false], 48⟩ (off := 0) (cutV (maxC s.lo u.lo)) rfl (by kernel_rfl) rfl rfl (by kernel_rfl) (by kernel_rfl) (by kernel_rfl) (by kernel_rfl) (by kernel_rfl) ?_
                refine h_done (by kernel_rfl) ?_
                exact fin_join ⟨b1, b2, _, rfl, upds_self _ ⟨by kernel_rfl, by kernel_rfl, by kernel_rfl, by kernel_rfl, by kernel_rfl, trivial⟩⟩
            · skip
              refine hs_alloc [] _ (.agg #[.int .i64 0, .int .i64 0, .int .i64 0, .int .i64 0, .string ⟨#[]⟩, .string ⟨#[]⟩, .bool false]) rfl (by kernel_rfl) rfl (by kernel_rfl) (fun b1 => ?_)
              refine h_two 8 12 (by kernel_rfl) ?_ ?_
              · skip
                refine hs_call [⟨b1, #[.int .i64 0, .int .i64 0, .int .i64 0, .int .i64 0, .string ⟨#[]⟩, .string ⟨#[]⟩, .bool false], 48⟩] _ (k := 83) (args := #[cutV s.lo, cutV u.lo]) (.tuple #[cutV (minC s.lo u.lo), cutV (maxC s.lo u.lo)]) rfl (by kernel_rfl) (fun _ => by kernel_rfl) (fun w _ => order_any s.lo u.lo w hsk.1 huk.1) ?_
                refine h_take 9 [⟨b1, #[.int .i64 0, .int .i64 0, .int .i64 0, .int .i64 0, .string ⟨#[]⟩, .string ⟨#[]⟩, .bool false], 48⟩] _ (.tuple #[cutV (minC s.lo u.lo), cutV (maxC s.lo u.lo)]) rfl (by kernel_rfl) (by kernel_rfl) (by kernel_rfl) pq_join (by kernel_rfl) (fun _ _ => by kernel_rfl) ?_
                refine h_take 10 [⟨b1, #[.int .i64 0, .int .i64 0, .int .i64 0, .int .i64 0, .string ⟨#[]⟩, .string ⟨#[]⟩, .bool false], 48⟩] _ (cutV (minC s.lo u.lo)) rfl (by kernel_rfl) (by kernel_rfl) (by kernel_rfl) pq_join (by kernel_rfl) (fun _ _ => by kernel_rfl) ?_
                refine h_take 11 [⟨b1, #[.int .i64 0, .int .i64 0, .int .i64 0, .int .i64 0, .string ⟨#[]⟩, .string ⟨#[]⟩, .bool false], 48⟩] _ (cutV (maxC s.lo u.lo)) rfl (by kernel_rfl) (by kernel_rfl) (by kernel_rfl) pq_join (by kernel_rfl) (fun _ _ => by kernel_rfl) ?_
                refine h_one 12 (by kernel_rfl) ?_
                refine hs_alloc [⟨b1, #[.int .i64 0, .int .i64 0, .int .i64 0, .int .i64 0, .string ⟨#[]⟩, .string ⟨#[]⟩, .bool false], 48⟩] _ (.agg #[.int .i64 0, .int .i64 0, .int .i64 0, .int .i64 0, .string ⟨#[]⟩, .string ⟨#[]⟩, .bool false]) rfl (by kernel_rfl) rfl (by kernel_rfl) (fun b2 => ?_)
                refine h_one 14 (by kernel_rfl) ?_
                refine hs_store [⟨b2, #[.int .i64 0, .int .i64 0, .int .i64 0, .int .i64 0, .string ⟨#[]⟩, .string ⟨#[]⟩, .bool false], 48⟩, ⟨b1, #[.int .i64 0, .int .i64 0, .int .i64 0, .int .i64 0, .string ⟨#[]⟩, .string ⟨#[]⟩, .bool false], 48⟩] _ 0 ⟨b2, #[.int .i64 0, .int .i64 0, .int .i64 0, .int .i64 0, .string ⟨#[]⟩, .string ⟨#[]⟩, .bool false], 48⟩ (off := 0) (cutV (minC s.lo u.lo)) rfl (by kernel_rfl) rfl rfl (by kernel_rfl) (by kernel_rfl) (by kernel_rfl) (by kernel_rfl) (by kernel_rfl) ?_
                refine h_one 15 (by kernel_rfl) ?_
                refine hs_store [⟨b2, (cutV (minC s.lo u.lo)).cells, 48⟩, ⟨b1, #[.int .i64 0, .int .i64 0, .int .i64 0, .int .i64 0, .string ⟨#[]⟩, .string ⟨#[]⟩, .bool false], 48⟩] _ 1 ⟨b1, #[.int .i64 0, .int .i64 0, .int .i64 0, .int .i64 0, .string ⟨#[]⟩, .string ⟨#[]⟩, .bool false], 48⟩ (off := 0) (cutV (maxC s.lo u.lo)) rfl (by kernel_rfl) rfl rfl (by kernel_rfl) (by kernel_rfl) (by kernel_rfl) (by kernel_rfl) (by kernel_rfl) ?_
                refine h_done (by kernel_rfl) ?_
                refine fin_swap ?_
                exact fin_join ⟨b2, b1, _, rfl, upds_self _ ⟨by kernel_rfl, by kernel_rfl, by kernel_rfl, by kernel_rfl, by kernel_rfl, trivial⟩⟩
              · skip
                refine hs_alloc [⟨b1, #[.int .i64 0, .int .i64 0, .int .i64 0, .int .i64 0, .string ⟨#[]⟩, .string ⟨#[]⟩, .bool false], 48⟩] _ (.agg #[.int .i64 0, .int .i64 0, .int .i64 0, .int .i64 0, .string ⟨#[]⟩, .string ⟨#[]⟩, .bool false]) rfl (by kernel_rfl) rfl (by kernel_rfl) (fun b2 => ?_)
                refine h_one 8 (by kernel_rfl) ?_
                refine hs_call [⟨b2, #[.int .i64 0, .int .i64 0, .int .i64 0, .int .i64 0, .string ⟨#[]⟩, .string ⟨#[]⟩, .bool false], 48⟩, ⟨b1, #[.int .i64 0, .int .i64 0, .int .i64 0, .int .i64 0, .string ⟨#[]⟩, .string ⟨#[]⟩, .bool false], 48⟩] _ (k := 83) (args := #[cutV s.lo, cutV u.lo]) (.tuple #[cutV (minC s.lo u.lo), cutV (maxC s.lo u.lo)]) rfl (by kernel_rfl) (fun _ => by kernel_rfl) (fun w _ => order_any s.lo u.lo w hsk.1 huk.1) ?_
                refine h_take 9 [⟨b2, #[.int .i64 0, .int .i64 0, .int .i64 0, .int .i64 0, .string ⟨#[]⟩, .string ⟨#[]⟩, .bool false], 48⟩, ⟨b1, #[.int .i64 0, .int .i64 0, .int .i64 0, .int .i64 0, .string ⟨#[]⟩, .string ⟨#[]⟩, .bool false], 48⟩] _ (.tuple #[cutV (minC s.lo u.lo), cutV (maxC s.lo u.lo)]) rfl (by kernel_rfl) (by kernel_rfl) (by kernel_rfl) pq_join (by kernel_rfl) (fun _ _ => by kernel_rfl) ?_
                refine h_take 10 [⟨b2, #[.int .i64 0, .int .i64 0, .int .i64 0, .int .i64 0, .string ⟨#[]⟩, .string ⟨#[]⟩, .bool false], 48⟩, ⟨b1, #[.int .i64 0, .int .i64 0, .int .i64 0, .int .i64 0, .string ⟨#[]⟩, .string ⟨#[]⟩, .bool false], 48⟩] _ (cutV (minC s.lo u.lo)) rfl (by kernel_rfl) (by kernel_rfl) (by kernel_rfl) pq_join (by kernel_rfl) (fun _ _ => by kernel_rfl) ?_
                refine h_take 11 [⟨b2, #[.int .i64 0, .int .i64 0, .int .i64 0, .int .i64 0, .string ⟨#[]⟩, .string ⟨#[]⟩, .bool false], 48⟩, ⟨b1, #[.int .i64 0, .int .i64 0, .int .i64 0, .int .i64 0, .string ⟨#[]⟩, .string ⟨#[]⟩, .bool false], 48⟩] _ (cutV (maxC s.lo u.lo)) rfl (by kernel_rfl) (by kernel_rfl) (by kernel_rfl) pq_join (by kernel_rfl) (fun _ _ => by kernel_rfl) ?_
                refine h_one 14 (by kernel_rfl) ?_
                refine hs_store [⟨b2, #[.int .i64 0, .int .i64 0, .int .i64 0, .int .i64 0, .string ⟨#[]⟩, .string ⟨#[]⟩, .bool false], 48⟩, ⟨b1, #[.int .i64 0, .int .i64 0, .int .i64 0, .int .i64 0, .string ⟨#[]⟩, .string ⟨#[]⟩, .bool false], 48⟩] _ 0 ⟨b2, #[.int .i64 0, .int .i64 0, .int .i64 0, .int .i64 0, .string ⟨#[]⟩, .string ⟨#[]⟩, .bool false], 48⟩ (off := 0) (cutV (minC s.lo u.lo)) rfl (by kernel_rfl) rfl rfl (by kernel_rfl) (by kernel_rfl) (by kernel_rfl) (by kernel_rfl) (by kernel_rfl) ?_
                refine h_one 15 (by kernel_rfl) ?_
                refine hs_store [⟨b2, (cutV (minC s.lo u.lo)).cells, 48⟩, ⟨b1, #[.int .i64 0, .int .i64 0, .int .i64 0, .int .i64 0, .string ⟨#[]⟩, .string ⟨#[]⟩, .bool false], 48⟩] _ 1 ⟨b1, #[.int .i64 0, .int .i64 0, .int .i64 0, .int .i64 0, .string ⟨#[]⟩, .string ⟨#[]⟩, .bool false], 48⟩ (off := 0) (cutV (maxC s.lo u.lo)) rfl (by kernel_rfl) rfl rfl (by kernel_rfl) (by kernel_rfl) (by kernel_rfl) (by kernel_rfl) (by kernel_rfl) ?_
                refine h_done (by kernel_rfl) ?_
                refine fin_swap ?_
                exact fin_join ⟨b2, b1, _, rfl, upds_self _ ⟨by kernel_rfl, by kernel_rfl, by kernel_rfl, by kernel_rfl, by kernel_rfl, trivial⟩⟩
          · rintro L f ⟨p6, p7, j, rfl, rfl⟩
            refine fin_seq ?_
            refine ok_seq ?_
            refine ok_join (fun L f => ∃ (p8 p9 : Nat) (j : Nat → Value), L = ⟨p9, (cutV (maxC s.hi u.hi)).cells, 48⟩ :: (⟨p8, (cutV (minC s.hi u.hi)).cells, 48⟩ :: (⟨p7, (cutV (maxC s.lo u.lo)).cells, 48⟩ :: (⟨p6, (cutV (minC s.lo u.lo)).cells, 48⟩ :: (ob)))) ∧ f = upds j [(0, .slice A1 a1.length c1), (1, .slice B1 b1.length c2), (5, v), (6, .pointer (some ⟨p6, 0, none⟩)), (7, .pointer (some ⟨p7, 0, none⟩)), (8, .pointer (some ⟨p8, 0, none⟩)), (9, .pointer (some ⟨p9, 0, none⟩))]) ?_ ?_
            · skip
              refine ok_anyh (by kernel_rfl) ?_
              refine h_take 0 [] _ (.slice A1 a1.length c1) rfl (by kernel_rfl) (by kernel_rfl) (by kernel_rfl) pq_join (by kernel_rfl) (fun _ _ => by kernel_rfl) ?_
              refine h_take 1 [] _ (.pointer (some ⟨ba, offa + 0 * 14, none⟩)) rfl (by kernel_rfl) (by kernel_rfl) (by kernel_rfl) pq_join (by kernel_rfl) (fun w _ => run_ixA (b := ba) (off := offa) (c := c1) (n := a1.length) (k := .i64) (j := 0) (e := 50) (sz := 14) rfl (by kernel_rfl) hA (by kernel_rfl) (by kernel_rfl) (by kernel_rfl) (by omega) (by omega) (by omega) w) ?_
              refine h_take 2 [] _ (.pointer (some ⟨ba, offa + 0 * 14 + 7, none⟩)) rfl (by kernel_rfl) (by kernel_rfl) (by kernel_rfl) pq_join (by kernel_rfl) (fun _ _ => by kernel_rfl) ?_
              refine hl_old 3 _ (a := ⟨ba, offa + 0 * 14 + 7, none⟩) (cutV s.hi) rfl (by kernel_rfl) (by kernel_rfl) (by kernel_rfl) pq_join (fun w hO => Own.sub [] hO) (by kernel_rfl) rfl (by kernel_rfl) (fun w hO => elem_load spanC_len (fun j u h => (hO.below.cell (p := ⟨ba, offa + j, none⟩) hlta).trans (hcela j u h)) 0 7 hka (by omega) _ (by rw [hs]; kernel_rfl)) ?_
              refine h_take 4 [] _ (.slice B1 b1.length c2) rfl (by kernel_rfl) (by kernel_rfl) (by kernel_rfl) pq_join (by kernel_rfl) (fun _ _ => by kernel_rfl) ?_
              refine h_take 5 [] _ (.pointer (some ⟨bb, offb + 0 * 14, none⟩)) rfl (by kernel_rfl) (by kernel_rfl) (by kernel_rfl) pq_join (by kernel_rfl) (fun w _ => run_ixA (b := bb) (off := offb) (c := c2) (n := b1.length) (k := .i64) (j := 0) (e := 50) (sz := 14) rfl (by kernel_rfl) hB (by kernel_rfl) (by kernel_rfl) (by kernel_rfl) (by omega) (by omega) (by omega) w) ?_
              refine h_take 6 [] _ (.pointer (some ⟨bb, offb + 0 * 14 + 7, none⟩)) rfl (by kernel_rfl) (by kernel_rfl) (by kernel_rfl) pq_join (by kernel_rfl) (fun _ _ => by kernel_rfl) ?_
              refine hl_old 7 _ (a := ⟨bb, offb + 0 * 14 + 7, none⟩) (cutV u.hi) rfl (by kernel_rfl) (by kernel_rfl) (by kernel_rfl) pq_join (fun w hO => Own.sub [] hO) (by kernel_rfl) rfl (by kernel_rfl) (fun w hO => elem_load spanC_len (fun j u h => (hO.below.cell (p := ⟨bb, offb + j, none⟩) hltb).trans (hcelb j u h)) 0 7 hkb (by omega) _ (by rw [hu1]; kernel_rfl)) ?_
              refine h_three 8 12 13 (by kernel_rfl) ?_ ?_ ?_
              · skip
                refine hs_call [] _ (k := 83) (args := #[cutV s.hi, cutV u.hi]) (.tuple #[cutV (minC s.hi u.hi), cutV (maxC s.hi u.hi)]) rfl (by kernel_rfl) (fun _ => by kernel_rfl) (fun w _ => order_any s.hi u.hi w hsk.2 huk.2) ?_
                refine h_take 9 [] _ (.tuple #[cutV (minC s.hi u.hi), cutV (maxC s.hi u.hi)]) rfl (by kernel_rfl) (by kernel_rfl) (by kernel_rfl) pq_join (by kernel_rfl) (fun _ _ => by kernel_rfl) ?_
                refine h_take 10 [] _ (cutV (minC s.hi u.hi)) rfl (by kernel_rfl) (by kernel_rfl) (by kernel_rfl) pq_join (by kernel_rfl) (fun _ _ => by kernel_rfl) ?_
                refine h_take 11 [] _ (cutV (maxC s.hi u.hi)) rfl (by kernel_rfl) (by kernel_rfl) (by kernel_rfl) pq_join (by kernel_rfl) (fun _ _ => by kernel_rfl) ?_
                refine h_two 12 13 (by kernel_rfl) ?_ ?_
                · skip
                  refine hs_alloc [] _ (.agg #[.int .i64 0, .int .i64 0, .int .i64 0, .int .i64 0, .string ⟨#[]⟩, .string ⟨#[]⟩, .bool false]) rfl (by kernel_rfl) rfl (by kernel_rfl) (fun b3 => ?_)
                  refine h_one 13 (by kernel_rfl) ?_
                  refine hs_alloc [⟨b3, #[.int .i64 0, .int .i64 0, .int .i64 0, .int .i64 0, .string ⟨#[]⟩, .string ⟨#[]⟩, .bool false], 48⟩] _ (.agg #[.int .i64 0, .int .i64 0, .int .i64 0, .int .i64 0, .string ⟨#[]⟩, .string ⟨#[]⟩, .bool false]) rfl (by kernel_rfl) rfl (by kernel_rfl) (fun b4 => ?_)
                  refine h_one 14 (by kernel_rfl) ?_
                  refine hs_store [⟨b4, #[.int .i64 0, .int .i64 0, .int .i64 0, .int .i64 0, .string ⟨#[]⟩, .string ⟨#[]⟩, .bool false], 48⟩, ⟨b3, #[.int .i64 0, .int .i64 0, .int .i64 0, .int .i64 0, .string ⟨#[]⟩, .string ⟨#[]⟩, .bool false], 48⟩] _ 1 ⟨b3, #[.int .i64 0, .int .i64 0, .int .i64 0, .int .i64 0, .string ⟨#[]⟩, .string ⟨#[]⟩, .bool false], 48⟩ (off := 0) (cutV (minC s.hi u.hi)) rfl (by kernel_rfl) rfl rfl (by kernel_rfl) (by kernel_rfl) (by kernel_rfl) (by kernel_rfl) (by kernel_rfl) ?_
                  refine h_one 15 (by kernel_rfl) ?_
                  refine hs_store [⟨b4, #[.int .i64 0, .int .i64 0, .int .i64 0, .int .i64 0, .string ⟨#[]⟩, .string ⟨#[]⟩, .bool false], 48⟩, ⟨b3, (cutV (minC s.hi u.hi)).cells, 48⟩] _ 0 ⟨b4, #[.int .i64 0, .int .i64 0, .int .i64 0, .int .i64 0, .string ⟨#[]⟩, .string ⟨#[]⟩, .bool false], 48⟩ (off := 0) (cutV (maxC s.hi u.hi)) rfl (by kernel_rfl) rfl rfl (by kernel_rfl) (by kernel_rfl) (by kernel_rfl) (by kernel_rfl) (by kernel_rfl) ?_
                  refine h_done (by kernel_rfl) ?_
                  exact fin_join ⟨b3, b4, _, rfl, upds_self _ ⟨by kernel_rfl, by kernel_rfl, by kernel_rfl, by kernel_rfl, by kernel_rfl, by kernel_rfl, by kernel_rfl, trivial⟩⟩
                · skip
                  refine hs_alloc [] _ (.agg #[.int .i64 0, .int .i64 0, .int .i64 0, .int .i64 0, .string ⟨#[]⟩, .string ⟨#[]⟩, .bool false]) rfl (by kernel_rfl) rfl (by kernel_rfl) (fun b3 => ?_)
                  refine h_one 12 (by kernel_rfl) ?_
                  refine hs_alloc [⟨b3, #[.int .i64 0, .int .i64 0, .int .i64 0, .int .i64 0, .string ⟨#[]⟩, .string ⟨#[]⟩, .bool false], 48⟩] _ (.agg #[.int .i64 0, .int .i64 0, .int .i64 0, .int .i64 0, .string ⟨#[]⟩, .string ⟨#[]⟩, .bool false]) rfl (by kernel_rfl) rfl (by kernel_rfl) (fun b4 => ?_)
                  refine h_one 14 (by kernel_rfl) ?_
                  refine hs_store [⟨b4, #[.int .i64 0, .int .i64 0, .int .i64 0, .int .i64 0, .string ⟨#[]⟩, .string ⟨#[]⟩, .bool false], 48⟩, ⟨b3, #[.int .i64 0, .int .i64 0, .int .i64 0, .int .i64 0, .string ⟨#[]⟩, .string ⟨#[]⟩, .bool false], 48⟩] _ 0 ⟨b4, #[.int .i64 0, .int .i64 0, .int .i64 0, .int .i64 0, .string ⟨#[]⟩, .string ⟨#[]⟩, .bool false], 48⟩ (off := 0) (cutV (minC s.hi u.hi)) rfl (by kernel_rfl) rfl rfl (by kernel_rfl) (by kernel_rfl) (by kernel_rfl) (by kernel_rfl) (by kernel_rfl) ?_
                  refine h_one 15 (by kernel_rfl) ?_
                  refine hs_store [⟨b4, (cutV (minC s.hi u.hi)).cells, 48⟩, ⟨b3, #[.int .i64 0, .int .i64 0, .int .i64 0, .int .i64 0, .string ⟨#[]⟩, .string ⟨#[]⟩, .bool false], 48⟩] _ 1 ⟨b3, #[.int .i64 0, .int .i64 0, .int .i64 0, .int .i64 0, .string ⟨#[]⟩, .string ⟨#[]⟩, .bool false], 48⟩ (off := 0) (cutV (maxC s.hi u.hi)) rfl (by kernel_rfl) rfl rfl (by kernel_rfl) (by kernel_rfl) (by kernel_rfl) (by kernel_rfl) (by kernel_rfl) ?_
                  refine h_done (by kernel_rfl) ?_
                  refine fin_swap ?_
                  exact fin_join ⟨b4, b3, _, rfl, upds_self _ ⟨by kernel_rfl, by kernel_rfl, by kernel_rfl, by kernel_rfl, by kernel_rfl, by kernel_rfl, by kernel_rfl, trivial⟩⟩
              · skip
                refine hs_alloc [] _ (.agg #[.int .i64 0, .int .i64 0, .int .i64 0, .int .i64 0, .string ⟨#[]⟩, .string ⟨#[]⟩, .bool false]) rfl (by kernel_rfl) rfl (by kernel_rfl) (fun b3 => ?_)
                refine h_two 8 13 (by kernel_rfl) ?_ ?_
                · skip
                  refine hs_call [⟨b3, #[.int .i64 0, .int .i64 0, .int .i64 0, .int .i64 0, .string ⟨#[]⟩, .string ⟨#[]⟩, .bool false], 48⟩] _ (k := 83) (args := #[cutV s.hi, cutV u.hi]) (.tuple #[cutV (minC s.hi u.hi), cutV (maxC s.hi u.hi)]) rfl (by kernel_rfl) (fun _ => by kernel_rfl) (fun w _ => order_any s.hi u.hi w hsk.2 huk.2) ?_
                  refine h_take 9 [⟨b3, #[.int .i64 0, .int .i64 0, .int .i64 0, .int .i64 0, .string ⟨#[]⟩, .string ⟨#[]⟩, .bool false], 48⟩] _ (.tuple #[cutV (minC s.hi u.hi), cutV (maxC s.hi u.hi)]) rfl (by kernel_rfl) (by kernel_rfl) (by kernel_rfl) pq_join (by kernel_rfl) (fun _ _ => by kernel_rfl) ?_
                  refine h_take 10 [⟨b3, #[.int .i64 0, .int .i64 0, .int .i64 0, .int .i64 0, .string ⟨#[]⟩, .string ⟨#[]⟩, .bool false], 48⟩] _ (cutV (minC s.hi u.hi)) rfl (by kernel_rfl) (by kernel_rfl) (by kernel_rfl) pq_join (by kernel_rfl) (fun _ _ => by kernel_rfl) ?_
                  refine h_take 11 [⟨b3, #[.int .i64 0, .int .i64 0, .int .i64 0, .int .i64 0, .string ⟨#[]⟩, .string ⟨#[]⟩, .bool false], 48⟩] _ (cutV (maxC s.hi u.hi)) rfl (by kernel_rfl) (by kernel_rfl) (by kernel_rfl) pq_join (by kernel_rfl) (fun _ _ => by kernel_rfl) ?_
                  refine h_one 13 (by kernel_rfl) ?_
                  refine hs_alloc [⟨b3, #[.int .i64 0, .int .i64 0, .int .i64 0, .int .i64 0, .string ⟨#[]⟩, .string ⟨#[]⟩, .bool false], 48⟩] _ (.agg #[.int .i64 0, .int .i64 0, .int .i64 0, .int .i64 0, .string ⟨#[]⟩, .string ⟨#[]⟩, .bool false]) rfl (by kernel_rfl) rfl (by kernel_rfl) (fun b4 => ?_)
                  refine h_one 14 (by kernel_rfl) ?_
                  refine hs_store [⟨b4, #[.int .i64 0, .int .i64 0, .int .i64 0, .int .i64 0, .string ⟨#[]⟩, .string ⟨#[]⟩, .bool false], 48⟩, ⟨b3, #[.int .i64 0, .int .i64 0, .int .i64 0, .int .i64 0, .string ⟨#[]⟩, .string ⟨#[]⟩, .bool false], 48⟩] _ 1 ⟨b3, #[.int .i64 0, .int .i64 0, .int .i64 0, .int .i64 0, .string ⟨#[]⟩, .string ⟨#[]⟩, .bool false], 48⟩ (off := 0) (cutV (minC s.hi u.hi)) rfl (by kernel_rfl) rfl rfl (by kernel_rfl) (by kernel_rfl) (by kernel_rfl) (by kernel_rfl) (by kernel_rfl) ?_
                  refine h_one 15 (by kernel_rfl) ?_
                  refine hs_store [⟨b4, #[.int .i64 0, .int .i64 0, .int .i64 0, .int .i64 0, .string ⟨#[]⟩, .string ⟨#[]⟩, .bool false], 48⟩, ⟨b3, (cutV (minC s.hi u.hi)).cells, 48⟩] _ 0 ⟨b4, #[.int .i64 0, .int .i64 0, .int .i64 0, .int .i64 0, .string ⟨#[]⟩, .string ⟨#[]⟩, .bool false], 48⟩ (off := 0) (cutV (maxC s.hi u.hi)) rfl (by kernel_rfl) rfl rfl (by kernel_rfl) (by kernel_rfl) (by kernel_rfl) (by kernel_rfl) (by kernel_rfl) ?_
                  refine h_done (by kernel_rfl) ?_
                  exact fin_join ⟨b3, b4, _, rfl, upds_self _ ⟨by kernel_rfl, by kernel_rfl, by kernel_rfl, by kernel_rfl, by kernel_rfl, by kernel_rfl, by kernel_rfl, trivial⟩⟩
                · skip
                  refine hs_alloc [⟨b3, #[.int .i64 0, .int .i64 0, .int .i64 0, .int .i64 0, .string ⟨#[]⟩, .string ⟨#[]⟩, .bool false], 48⟩] _ (.agg #[.int .i64 0, .int .i64 0, .int .i64 0, .int .i64 0, .string ⟨#[]⟩, .string ⟨#[]⟩, .bool false]) rfl (by kernel_rfl) rfl (by kernel_rfl) (fun b4 => ?_)
                  refine h_one 8 (by kernel_rfl) ?_
                  refine hs_call [⟨b4, #[.int .i64 0, .int .i64 0, .int .i64 0, .int .i64 0, .string ⟨#[]⟩, .string ⟨#[]⟩, .bool false], 48⟩, ⟨b3, #[.int .i64 0, .int .i64 0, .int .i64 0, .int .i64 0, .string ⟨#[]⟩, .string ⟨#[]⟩, .bool false], 48⟩] _ (k := 83) (args := #[cutV s.hi, cutV u.hi]) (.tuple #[cutV (minC s.hi u.hi), cutV (maxC s.hi u.hi)]) rfl (by kernel_rfl) (fun _ => by kernel_rfl) (fun w _ => order_any s.hi u.hi w hsk.2 huk.2) ?_
                  refine h_take 9 [⟨b4, #[.int .i64 0, .int .i64 0, .int .i64 0, .int .i64 0, .string ⟨#[]⟩, .string ⟨#[]⟩, .bool false], 48⟩, ⟨b3, #[.int .i64 0, .int .i64 0, .int .i64 0, .int .i64 0, .string ⟨#[]⟩, .string ⟨#[]⟩, .bool false], 48⟩] _ (.tuple #[cutV (minC s.hi u.hi), cutV (maxC s.hi u.hi)]) rfl (by kernel_rfl) (by kernel_rfl) (by kernel_rfl) pq_join (by kernel_rfl) (fun _ _ => by kernel_rfl) ?_
                  refine h_take 10 [⟨b4, #[.int .i64 0, .int .i64 0, .int .i64 0, .int .i64 0, .string ⟨#[]⟩, .string ⟨#[]⟩, .bool false], 48⟩, ⟨b3, #[.int .i64 0, .int .i64 0, .int .i64 0, .int .i64 0, .string ⟨#[]⟩, .string ⟨#[]⟩, .bool false], 48⟩] _ (cutV (minC s.hi u.hi)) rfl (by kernel_rfl) (by kernel_rfl) (by kernel_rfl) pq_join (by kernel_rfl) (fun _ _ => by kernel_rfl) ?_
                  refine h_take 11 [⟨b4, #[.int .i64 0, .int .i64 0, .int .i64 0, .int .i64 0, .string ⟨#[]⟩, .string ⟨#[]⟩, .bool false], 48⟩, ⟨b3, #[.int .i64 0, .int .i64 0, .int .i64 0, .int .i64 0, .string ⟨#[]⟩, .string ⟨#[]⟩, .bool false], 48⟩] _ (cutV (maxC s.hi u.hi)) rfl (by kernel_rfl) (by kernel_rfl) (by kernel_rfl) pq_join (by kernel_rfl) (fun _ _ => by kernel_rfl) ?_
                  refine h_one 14 (by kernel_rfl) ?_
                  refine hs_store [⟨b4, #[.int .i64 0, .int .i64 0, .int .i64 0, .int .i64 0, .string ⟨#[]⟩, .string ⟨#[]⟩, .bool false], 48⟩, ⟨b3, #[.int .i64 0, .int .i64 0, .int .i64 0, .int .i64 0, .string ⟨#[]⟩, .string ⟨#[]⟩, .bool false], 48⟩] _ 1 ⟨b3, #[.int .i64 0, .int .i64 0, .int .i64 0, .int .i64 0, .string ⟨#[]⟩, .string ⟨#[]⟩, .bool false], 48⟩ (off := 0) (cutV (minC s.hi u.hi)) rfl (by kernel_rfl) rfl rfl (by kernel_rfl) (by kernel_rfl) (by kernel_rfl) (by kernel_rfl) (by kernel_rfl) ?_
                  refine h_one 15 (by kernel_rfl) ?_
                  refine hs_store [⟨b4, #[.int .i64 0, .int .i64 0, .int .i64 0, .int .i64 0, .string ⟨#[]⟩, .string ⟨#[]⟩, .bool false], 48⟩, ⟨b3, (cutV (minC s.hi u.hi)).cells, 48⟩] _ 0 ⟨b4, #[.int .i64 0, .int .i64 0, .int .i64 0, .int .i64 0, .string ⟨#[]⟩, .string ⟨#[]⟩, .bool false], 48⟩ (off := 0) (cutV (maxC s.hi u.hi)) rfl (by kernel_rfl) rfl rfl (by kernel_rfl) (by kernel_rfl) (by kernel_rfl) (by kernel_rfl) (by kernel_rfl) ?_
                  refine h_done (by kernel_rfl) ?_
                  exact fin_join ⟨b3, b4, _, rfl, upds_self _ ⟨by kernel_rfl, by kernel_rfl, by kernel_rfl, by kernel_rfl, by kernel_rfl, by kernel_rfl, by kernel_rfl, trivial⟩⟩
              · skip
                refine hs_alloc [] _ (.agg #[.int .i64 0, .int .i64 0, .int .i64 0, .int .i64 0, .string ⟨#[]⟩, .string ⟨#[]⟩, .bool false]) rfl (by kernel_rfl) rfl (by kernel_rfl) (fun b3 => ?_)
                refine h_two 8 12 (by kernel_rfl) ?_ ?_
                · skip
                  refine hs_call [⟨b3, #[.int .i64 0, .int .i64 0, .int .i64 0, .int .i64 0, .string ⟨#[]⟩, .string ⟨#[]⟩, .bool false], 48⟩] _ (k := 83) (args := #[cutV s.hi, cutV u.hi]) (.tuple #[cutV (minC s.hi u.hi), cutV (maxC s.hi u.hi)]) rfl (by kernel_rfl) (fun _ => by kernel_rfl) (fun w _ => order_any s.hi u.hi w hsk.2 huk.2) ?_
                  refine h_take 9 [⟨b3, #[.int .i64 0, .int .i64 0, .int .i64 0, .int .i64 0, .string ⟨#[]⟩, .string ⟨#[]⟩, .bool false], 48⟩] _ (.tuple #[cutV (minC s.hi u.hi), cutV (maxC s.hi u.hi)]) rfl (by kernel_rfl) (by kernel_rfl) (by kernel_rfl) pq_join (by kernel_rfl) (fun _ _ => by kernel_rfl) ?_
                  refine h_take 10 [⟨b3, #[.int .i64 0, .int .i64 0, .int .i64 0, .int .i64 0, .string ⟨#[]⟩, .string ⟨#[]⟩, .bool false], 48⟩] _ (cutV (minC s.hi u.hi)) rfl (by kernel_rfl) (by kernel_rfl) (by kernel_rfl) pq_join (by kernel_rfl) (fun _ _ => by kernel_rfl) ?_
                  refine h_take 11 [⟨b3, #[.int .i64 0, .int .i64 0, .int .i64 0, .int .i64 0, .string ⟨#[]⟩, .string ⟨#[]⟩, .bool false], 48⟩] _ (cutV (maxC s.hi u.hi)) rfl (by kernel_rfl) (by kernel_rfl) (by kernel_rfl) pq_join (by kernel_rfl) (fun _ _ => by kernel_rfl) ?_
                  refine h_one 12 (by kernel_rfl) ?_
                  refine hs_alloc [⟨b3, #[.int .i64 0, .int .i64 0, .int .i64 0, .int .i64 0, .string ⟨#[]⟩, .string ⟨#[]⟩, .bool false], 48⟩] _ (.agg #[.int .i64 0, .int .i64 0, .int .i64 0, .int .i64 0, .string ⟨#[]⟩, .string ⟨#[]⟩, .bool false]) rfl (by kernel_rfl) rfl (by kernel_rfl) (fun b4 => ?_)
                  refine h_one 14 (by kernel_rfl) ?_
                  refine hs_store [⟨b4, #[.int .i64 0, .int .i64 0, .int .i64 0, .int .i64 0, .string ⟨#[]⟩, .string ⟨#[]⟩, .bool false], 48⟩, ⟨b3, #[.int .i64 0, .int .i64 0, .int .i64 0, .int .i64 0, .string ⟨#[]⟩, .string ⟨#[]⟩, .bool false], 48⟩] _ 0 ⟨b4, #[.int .i64 0, .int .i64 0, .int .i64 0, .int .i64 0, .string ⟨#[]⟩, .string ⟨#[]⟩, .bool false], 48⟩ (off := 0) (cutV (minC s.hi u.hi)) rfl (by kernel_rfl) rfl rfl (by kernel_rfl) (by kernel_rfl) (by kernel_rfl) (by kernel_rfl) (by kernel_rfl) ?_
                  refine h_one 15 (by kernel_rfl) ?_
                  refine hs_store [⟨b4, (cutV (minC s.hi u.hi)).cells, 48⟩, ⟨b3, #[.int .i64 0, .int .i64 0, .int .i64 0, .int .i64 0, .string ⟨#[]⟩, .string ⟨#[]⟩, .bool false], 48⟩] _ 1 ⟨b3, #[.int .i64 0, .int .i64 0, .int .i64 0, .int .i64 0, .string ⟨#[]⟩, .string ⟨#[]⟩, .bool false], 48⟩ (off := 0) (cutV (maxC s.hi u.hi)) rfl (by kernel_rfl) rfl rfl (by kernel_rfl) (by kernel_rfl) (by kernel_rfl) (by kernel_rfl) (by kernel_rfl) ?_
                  refine h_done (by kernel_rfl) ?_
                  refine fin_swap ?_
                  exact fin_join ⟨b4, b3, _, rfl, upds_self _ ⟨by kernel_rfl, by kernel_rfl, by kernel_rfl, by kernel_rfl, by kernel_rfl, by kernel_rfl, by kernel_rfl, trivial⟩⟩
                · skip
                  refine hs_alloc [⟨b3, #[.int .i64 0, .int .i64 0, .int .i64 0, .int .i64 0, .string ⟨#[]⟩, .string ⟨#[]⟩, .bool false], 48⟩] _ (.agg #[.int .i64 0, .int .i64 0, .int .i64 0, .int .i64 0, .string ⟨#[]⟩, .string ⟨#[]⟩, .bool false]) rfl (by kernel_rfl) rfl (by kernel_rfl) (fun b4 => ?_)
                  refine h_one 8 (by kernel_rfl) ?_
                  refine hs_call [⟨b4, #[.int .i64 0, .int .i64 0, .int .i64 0, .int .i64 0, .string ⟨#[]⟩, .string ⟨#[]⟩, .bool false], 48⟩, ⟨b3, #[.int .i64 0, .int .i64 0, .int .i64 0, .int .i64 0, .string ⟨#[]⟩, .string ⟨#[]⟩, .bool false], 48⟩] _ (k := 83) (args := #[cutV s.hi, cutV u.hi]) (.tuple #[cutV (minC s.hi u.hi), cutV (maxC s.hi u.hi)]) rfl (by kernel_rfl) (fun _ => by kernel_rfl) (fun w _ => order_any s.hi u.hi w hsk.2 huk.2) ?_
                  refine h_take 9 [⟨b4, #[.int .i64 0, .int .i64 0, .int .i64 0, .int .i64 0, .string ⟨#[]⟩, .string ⟨#[]⟩, .bool false], 48⟩, ⟨b3, #[.int .i64 0, .int .i64 0, .int .i64 0, .int .i64 0, .string ⟨#[]⟩, .string ⟨#[]⟩, .bool false], 48⟩] _ (.tuple #[cutV (minC s.hi u.hi), cutV (maxC s.hi u.hi)]) rfl (by kernel_rfl) (by kernel_rfl) (by kernel_rfl) pq_join (by kernel_rfl) (fun _ _ => by kernel_rfl) ?_
                  refine h_take 10 [⟨b4, #[.int .i64 0, .int .i64 0, .int .i64 0, .int .i64 0, .string ⟨#[]⟩, .string ⟨#[]⟩, .bool false], 48⟩, ⟨b3, #[.int .i64 0, .int .i64 0, .int .i64 0, .int .i64 0, .string ⟨#[]⟩, .string ⟨#[]⟩, .bool false], 48⟩] _ (cutV (minC s.hi u.hi)) rfl (by kernel_rfl) (by kernel_rfl) (by kernel_rfl) pq_join (by kernel_rfl) (fun _ _ => by kernel_rfl) ?_
                  refine h_take 11 [⟨b4, #[.int .i64 0, .int .i64 0, .int .i64 0, .int .i64 0, .string ⟨#[]⟩, .string ⟨#[]⟩, .bool false], 48⟩, ⟨b3, #[.int .i64 0, .int .i64 0, .int .i64 0, .int .i64 0, .string ⟨#[]⟩, .string ⟨#[]⟩, .bool false], 48⟩] _ (cutV (maxC s.hi u.hi)) rfl (by kernel_rfl) (by kernel_rfl) (by kernel_rfl) pq_join (by kernel_rfl) (fun _ _ => by kernel_rfl) ?_
                  refine h_one 14 (by kernel_rfl) ?_
                  refine hs_store [⟨b4, #[.int .i64 0, .int .i64 0, .int .i64 0, .int .i64 0, .string ⟨#[]⟩, .string ⟨#[]⟩, .bool false], 48⟩, ⟨b3, #[.int .i64 0, .int .i64 0, .int .i64 0, .int .i64 0, .string ⟨#[]⟩, .string ⟨#[]⟩, .bool false], 48⟩] _ 0 ⟨b4, #[.int .i64 0, .int .i64 0, .int .i64 0, .int .i64 0, .string ⟨#[]⟩, .string ⟨#[]⟩, .bool false], 48⟩ (off := 0) (cutV (minC s.hi u.hi)) rfl (by kernel_rfl) rfl rfl (by kernel_rfl) (by kernel_rfl) (by kernel_rfl) (by kernel_rfl) (by kernel_rfl) ?_
                  refine h_one 15 (by kernel_rfl) ?_
                  refine hs_store [⟨b4, (cutV (minC s.hi u.hi)).cells, 48⟩, ⟨b3, #[.int .i64 0, .int .i64 0, .int .i64 0, .int .i64 0, .string ⟨#[]⟩, .string ⟨#[]⟩, .bool false], 48⟩] _ 1 ⟨b3, #[.int .i64 0, .int .i64 0, .int .i64 0, .int .i64 0, .string ⟨#[]⟩, .string ⟨#[]⟩, .bool false], 48⟩ (off := 0) (cutV (maxC s.hi u.hi)) rfl (by kernel_rfl) rfl rfl (by kernel_rfl) (by kernel_rfl) (by kernel_rfl) (by kernel_rfl) (by kernel_rfl) ?_
                  refine h_done (by kernel_rfl) ?_
                  refine fin_swap ?_
                  exact fin_join ⟨b4, b3, _, rfl, upds_self _ ⟨by kernel_rfl, by kernel_rfl, by kernel_rfl, by kernel_rfl, by kernel_rfl, by kernel_rfl, by kernel_rfl, trivial⟩⟩
            · rintro L f ⟨p8, p9, j, rfl, rfl⟩
              refine fin_seq ?_
              refine ok_seq ?_
              refine ok_region ?_
              refine s_val (v) (by kernel_rfl) (fun _ => by kernel_rfl) ?_
              refine s_load 2 ⟨p7, (cutV (maxC s.lo u.lo)).cells, 48⟩ (off := 0) (cutV (maxC s.lo u.lo)) (by kernel_rfl) rfl (by kernel_rfl) (by kernel_rfl) (by kernel_rfl) ?_
              refine s_load 1 ⟨p8, (cutV (minC s.hi u.hi)).cells, 48⟩ (off := 0) (cutV (minC s.hi u.hi)) (by kernel_rfl) rfl (by kernel_rfl) (by kernel_rfl) (by kernel_rfl) ?_
              refine s_callo (k := 105) (args := #[v, cutV (maxC s.lo u.lo), cutV (minC s.hi u.hi)]) (fun v' L' => ∃ ob', L' = [⟨p9, (cutV (maxC s.hi u.hi)).cells, 48⟩, ⟨p8, (cutV (minC s.hi u.hi)).cells, 48⟩, ⟨p7, (cutV (maxC s.lo u.lo)).cells, 48⟩, ⟨p6, (cutV (minC s.lo u.lo)).cells, 48⟩] ++ ob' ∧ SlS v' (addL out (maxC s.lo u.lo) (minC s.hi u.hi)) ob') (by kernel_rfl) (fun _ => by kernel_rfl) (fun w hO => add_call (E := [⟨p9, (cutV (maxC s.hi u.hi)).cells, 48⟩, ⟨p8, (cutV (minC s.hi u.hi)).cells, 48⟩, ⟨p7, (cutV (maxC s.lo u.lo)).cells, 48⟩, ⟨p6, (cutV (minC s.lo u.lo)).cells, 48⟩]) (maxC s.lo u.lo) (minC s.hi u.hi) hO hrel.sl (by omega) hrel.so (maxC_short hsk.1 huk.1) (minC_short hsk.2 huk.2)) (fun v2 L2 hv2 => ?_)
              obtain ⟨ob2, rfl, hs2⟩ := hv2
              refine s_val (v2) (by kernel_rfl) (fun _ => by kernel_rfl) ?_
              refine s_nil ?_
              refine fin_seq ?_
              refine ok_seq ?_
              refine ok_draw (by kernel_rfl) (by kernel_rfl) ?_
              refine q_val (.slice A1 a1.length c1) (by kernel_rfl) (fun _ => by kernel_rfl) ?_
              refine q_val (.pointer (some ⟨ba, offa + 0 * 14, none⟩)) (by kernel_rfl) (run_ixA (b := ba) (off := offa) (c := c1) (n := a1.length) (k := .i64) (j := 0) (e := 50) (sz := 14) rfl (by kernel_rfl) hA (by kernel_rfl) (by kernel_rfl) (by kernel_rfl) (by omega) (by omega) (by omega)) ?_
              refine q_val (.pointer (some ⟨ba, offa + 0 * 14 + 7, none⟩)) (by kernel_rfl) (fun _ => by kernel_rfl) ?_
              refine q_old (cutV s.hi) (a := ⟨ba, offa + 0 * 14 + 7, none⟩) (by kernel_rfl) rfl (by kernel_rfl) (fun w hO => elem_load spanC_len (fun j u h => (hO.below.cell (p := ⟨ba, offa + j, none⟩) hlta).trans (hcela j u h)) 0 7 hka (by omega) _ (by rw [hs]; kernel_rfl)) ?_
              refine q_load 1 ⟨p8, (cutV (minC s.hi u.hi)).cells, 48⟩ (off := 0) (cutV (minC s.hi u.hi)) (by kernel_rfl) rfl (by kernel_rfl) (by kernel_rfl) (by kernel_rfl) ?_
              by_cases h5 : s.hi = minC s.hi u.hi
              · skip
                refine q_val (.bool true) (by kernel_rfl) (op_eq_cut (u := s.hi) (v := minC s.hi u.hi) rfl (by kernel_rfl) (by kernel_rfl) (decide_eq_true (h5))) ?_
                refine q_nil ?_
                refine fin_seq ?_
                refine ok_true (by kernel_rfl) ?_
                refine ok_region ?_
                refine s_val (.slice A1 a1.length c1) (by kernel_rfl) (fun _ => by kernel_rfl) ?_
                refine s_val (.slice (some ⟨ba, offa + (if c1 = (1 : Int).toNat then 0 else (1 : Int).toNat * 14), none⟩) (a1.length - (1 : Int).toNat) (c1 - (1 : Int).toNat)) (by kernel_rfl) (run_sllA (n := a1.length) (c := c1) (k := .i64) (j := 1) (e := 50) (sz := 14) rfl (by kernel_rfl) hA (by kernel_rfl) (by kernel_rfl) (by kernel_rfl) (by omega) (by omega)) ?_
                refine s_val (.slice (some ⟨ba, offa + (if c1 = (1 : Int).toNat then 0 else (1 : Int).toNat * 14), none⟩) (a1.length - (1 : Int).toNat) (c1 - (1 : Int).toNat)) (by kernel_rfl) (fun _ => by kernel_rfl) ?_
                refine s_nil ?_
                refine fin_block ?_
                refine fin_take (L' := ob2 ++ []) (fun w hO => by rw [List.append_nil]; exact Own.sub [_, _, _, _] hO) ?_
                have hd1 : (a1.drop 1).length = a1.length - 1 := List.length_drop
                exact fin_round (m' := (a1.drop 1).length + b1.length) (by omega) ⟨some ⟨ba, offa + (if c1 = (1 : Int).toNat then 0 else (1 : Int).toNat * 14), none⟩, B1, a1.length - (1 : Int).toNat, b1.length, c1 - (1 : Int).toNat, c2, n - 1, a1.drop 1, b1, v2, addL out (maxC s.lo u.lo) (minC s.hi u.hi), ob2, _, ⟨by rw [List.length_drop]; rfl, rfl, hrel.stepA hka hkb hs hu1 hA (by assumption) hs2⟩, rfl, upds_self _ ⟨by kernel_rfl, by kernel_rfl, by kernel_rfl, trivial⟩, rfl⟩
              · skip
                refine q_val (.bool false) (by kernel_rfl) (op_eq_cut (u := s.hi) (v := minC s.hi u.hi) rfl (by kernel_rfl) (by kernel_rfl) (decide_eq_false (h5))) ?_
                refine q_nil ?_
                refine fin_seq ?_
                refine ok_false (by kernel_rfl) ?_
                refine ok_region ?_
                refine s_val (.slice B1 b1.length c2) (by kernel_rfl) (fun _ => by kernel_rfl) ?_
                refine s_val (.slice (some ⟨bb, offb + (if c2 = (1 : Int).toNat then 0 else (1 : Int).toNat * 14), none⟩) (b1.length - (1 : Int).toNat) (c2 - (1 : Int).toNat)) (by kernel_rfl) (run_sllA (n := b1.length) (c := c2) (k := .i64) (j := 1) (e := 50) (sz := 14) rfl (by kernel_rfl) hB (by kernel_rfl) (by kernel_rfl) (by kernel_rfl) (by omega) (by omega)) ?_
                refine s_val (.slice (some ⟨bb, offb + (if c2 = (1 : Int).toNat then 0 else (1 : Int).toNat * 14), none⟩) (b1.length - (1 : Int).toNat) (c2 - (1 : Int).toNat)) (by kernel_rfl) (fun _ => by kernel_rfl) ?_
                refine s_nil ?_
                refine fin_block ?_
                refine fin_take (L' := ob2 ++ []) (fun w hO => by rw [List.append_nil]; exact Own.sub [_, _, _, _] hO) ?_
                have hd1 : (b1.drop 1).length = b1.length - 1 := List.length_drop
                exact fin_round (m' := a1.length + (b1.drop 1).length) (by omega) ⟨A1, some ⟨bb, offb + (if c2 = (1 : Int).toNat then 0 else (1 : Int).toNat * 14), none⟩, a1.length, b1.length - (1 : Int).toNat, c1, c2 - (1 : Int).toNat, n - 1, a1, b1.drop 1, v2, addL out (maxC s.lo u.lo) (minC s.hi u.hi), ob2, _, ⟨rfl, by rw [List.length_drop]; rfl, hrel.stepB hka hkb hs hu1 hB (by assumption) hs2⟩, rfl, upds_self _ ⟨by kernel_rfl, by kernel_rfl, by kernel_rfl, trivial⟩, rfl⟩
        · skip
          refine s_dec (p := (0 : Int) < (b1.length : Int)) false (by kernel_rfl) (fun _ => by kernel_rfl) (decide_eq_false (h4)) ?_
          refine s_val (.bool false) (by kernel_rfl) (fun _ => by kernel_rfl) ?_
          refine s_nil ?_
          refine fin_seq ?_
          refine ok_false (by kernel_rfl) ?_
          refine ok_exit ?_
          refine fin_seq_exit ?_
          refine fin_round_exit ?_
          refine fin_block_exit ?_
          refine fin_seq ?_
          refine ok_seq ?_
          refine ok_region ?_
          refine s_val (v) (by kernel_rfl) (fun _ => by kernel_rfl) ?_
          refine s_callo (k := 84) (args := #[v]) (fun v' L' => SlS v' out L') (by kernel_rfl) (fun _ => by kernel_rfl) (fun w hO => (unshare_call (E := []) hO hrel.sl (by omega) hrel.so).mono fun e w' ⟨v', L', k1, ⟨ob', k2, k3⟩, k4⟩ => ⟨v', L', k1, by subst k2; exact k3, k4⟩) (fun v4 ob4 hs4 => ?_)
          refine s_val (v4) (by kernel_rfl) (fun _ => by kernel_rfl) ?_
          refine s_nil ?_
          refine fin_seq ?_
          refine ok_ret ?_
          refine fin_ret (v4) Tryz.results67 (by kernel_rfl) ?_
          exact fun w hO => ⟨v4, ob4, rfl, by rw [if_pos (by simp), ← andG_eq (by assumption) (by assumption), hrel.eq, andG_end (by omega)]; exact hs4, hO⟩
      · skip
        refine s_dec (p := (0 : Int) < (a1.length : Int)) false (by kernel_rfl) (fun _ => by kernel_rfl) (decide_eq_false (h3)) ?_
        refine s_val (.bool false) (by kernel_rfl) (fun _ => by kernel_rfl) ?_
        refine s_skip (by kernel_rfl) ?_
        refine s_skip (by kernel_rfl) ?_
        refine s_skip (by kernel_rfl) ?_
        refine s_val (.bool false) (by kernel_rfl) (fun _ => by kernel_rfl) ?_
        refine s_nil ?_
        refine fin_seq ?_
        refine ok_false (by kernel_rfl) ?_
        refine ok_exit ?_
        refine fin_seq_exit ?_
        refine fin_round_exit ?_
        refine fin_block_exit ?_
        refine fin_seq ?_
        refine ok_seq ?_
        refine ok_region ?_
        refine s_val (v) (by kernel_rfl) (fun _ => by kernel_rfl) ?_
        refine s_callo (k := 84) (args := #[v]) (fun v' L' => SlS v' out L') (by kernel_rfl) (fun _ => by kernel_rfl) (fun w hO => (unshare_call (E := []) hO hrel.sl (by omega) hrel.so).mono fun e w' ⟨v', L', k1, ⟨ob', k2, k3⟩, k4⟩ => ⟨v', L', k1, by subst k2; exact k3, k4⟩) (fun v4 ob4 hs4 => ?_)
        refine s_val (v4) (by kernel_rfl) (fun _ => by kernel_rfl) ?_
        refine s_nil ?_
        refine fin_seq ?_
        refine ok_ret ?_
        refine fin_ret (v4) Tryz.results67 (by kernel_rfl) ?_
        exact fun w hO => ⟨v4, ob4, rfl, by rw [if_pos (by simp), ← andG_eq (by assumption) (by assumption), hrel.eq, andG_end (by omega)]; exact hs4, hO⟩
    | false =>
      refine s_val (.bool true) (by kernel_rfl) (fun _ => by kernel_rfl) ?_
      refine s_val (.bool true) (by kernel_rfl) (fun _ => by kernel_rfl) ?_
      refine s_nil ?_
      refine fin_seq ?_
      refine ok_true (by kernel_rfl) ?_
      refine ok_seq ?_
      refine ok_region ?_
      refine s_val (.slice none 0 0) (by kernel_rfl) (fun _ => by kernel_rfl) ?_
      refine s_nil ?_
      refine fin_seq ?_
      refine ok_ret ?_
      refine fin_seq_ret ?_
      refine fin_ret (.slice none 0 0) Tryz.results67 (by kernel_rfl) ?_
      exact fun w hO => ⟨_, [], rfl, by rw [if_neg (by simp)]; exact Sl.nil _ _, by simpa using hO⟩
  | false =>
    refine s_val (.bool true) (by kernel_rfl) (fun _ => by kernel_rfl) ?_
    refine s_val (.bool true) (by kernel_rfl) (fun _ => by kernel_rfl) ?_
    refine s_skip (by kernel_rfl) ?_
    refine s_skip (by kernel_rfl) ?_
    refine s_skip (by kernel_rfl) ?_
    refine s_val (.bool true) (by kernel_rfl) (fun _ => by kernel_rfl) ?_
    refine s_nil ?_
    refine fin_seq ?_
    refine ok_true (by kernel_rfl) ?_
    refine ok_seq ?_
    refine ok_region ?_
    refine s_val (.slice none 0 0) (by kernel_rfl) (fun _ => by kernel_rfl) ?_
    refine s_nil ?_
    refine fin_seq ?_
    refine ok_ret ?_
    refine fin_seq_ret ?_
    refine fin_ret (.slice none 0 0) Tryz.results67 (by kernel_rfl) ?_
    exact fun w hO => ⟨_, [], rfl, by rw [if_neg (by simp)]; exact Sl.nil _ _, by simpa using hO⟩
theorem andG_grow : ∀ (n : Nat) (out a b : List Sp), (andG n out a b).length ≤ out.length + n
  | 0, out, a, b => by cases a <;> cases b <;> exact Nat.le_refl _
  | n + 1, out, [], b => by show out.length ≤ _; omega
  | n + 1, out, s :: a, [] => by show out.length ≤ _; omega
  | n + 1, out, s :: a, u :: b => by
    unfold andG
    have := add_len out (maxC s.lo u.lo) (minC s.hi u.hi)
    split
    · have := andG_grow n (addL out (maxC s.lo u.lo) (minC s.hi u.hi)) a (u :: b); omega
    · have := andG_grow n (addL out (maxC s.lo u.lo) (minC s.hi u.hi)) (s :: a) b; omega
theorem andG_len {n : Nat} {a b : List Sp} (h : n ≤ 200000) : (andG n [] a b).length ≤ 200000 := by
  have := andG_grow n [] a b
  simp at this; omega
end Go.Proofs.YtgeccfdofmnphaaGreat
end

section
/-
  Package set's toRel, mayRel, the test of May, slices.IndexFunc and ContainsFunc with it; May, Has, None, Same: what they return for sets of at most 100000 spans whose strings have at most a million bytes; nothing that was there is changed.
-/
namespace Go.Proofs.YtgeccfdofmnphaaGreat
open Go.RowKit
set_option maxRecDepth 100000
set_option linter.unusedVariables false
set_option linter.unusedSimpArgs false
set_option maxHeartbeats 2000000

def pre0 (v : Ver) : Ver := { v with pre := [] }
theorem pre0_rel {v : Ver} (h : v.build = []) : pre0 v = relV v := by
  obtain ⟨a, b, c, p, q⟩ := v
  simp only at h; subst h; rfl
theorem rel_least {v : Ver} : relV v = Ver.zero ↔ leastV v = true := by
  unfold relV leastV Ver.rel Ver.zero
  simp only [Ver.mk.injEq, and_true, Bool.and_eq_true, decide_eq_true_eq, and_assoc]
theorem relA_zero {v : Ver} (h : relV v = Ver.zero) : relA v = endC (-1) := by unfold relA; rw [rel_least.1 h]; rfl
theorem relA_one {v : Ver} (h : ¬ relV v = Ver.zero) : relA v = ⟨0, relV v, false⟩ := by
  unfold relA
  rw [show leastV v = false from Bool.eq_false_iff.2 fun e => h (rel_least.2 e)]; rfl
theorem rel_self {v : Ver} (h1 : v.pre = []) (h2 : v.build = []) : relV v = v := by
  obtain ⟨a, b, c, p, q⟩ := v
  simp only at h1 h2; subst h1; subst h2; rfl
theorem next_pre {v : Ver} (h : v.may = true) (hp : v.pre ≠ []) : nextV v = relV v ∧ nextOk v = true := by
  have e : v.pre.isEmpty = false := by cases hq : v.pre with
    | nil => exact absurd hq hp
    | cons _ _ => rfl
  unfold nextV nextOk
  rw [h, e]; exact ⟨rfl, rfl⟩
theorem next_pos {v : Ver} (h : v.may = true) (hp : v.pre = []) (ho : nextOk v = true) : ¬ pre0 (nextV v) = Ver.zero := by
  intro e
  rcases next_is h with ⟨k, _⟩ | ⟨_, a, b, c, e1, e2, ⟨_, e3⟩ | ⟨e3, _⟩⟩
  · rw [ho] at k; cases k
  · have hn := may_nat h
    rw [e1] at e
    have h4 : (Ver.rel a b c).code = 0 := by
      have : Ver.rel a b c = Ver.zero := e
      rw [this]; rfl
    rw [h4] at e3
    unfold Ver.code at e3; omega
  · exact e3 hp
theorem pre0_next (v : Ver) : pre0 (nextV v) = nextV v := by
  have h := (next_flat v).1
  generalize nextV v = u at h ⊢
  obtain ⟨a, b, c, p, q⟩ := u
  simp only at h; subst h; rfl
theorem tr_end {c : Cu} (h : ¬ c.e = 0) : turnC c = c := by unfold turnC; rw [if_pos h]
theorem tr_last {c : Cu} (hm : c.may = true) (h0 : c.e = 0) (ha : c.aft = true) (ho : nextOk c.v = false) : turnC c = endC 1 := by
  have hb := may_build hm
  have hp : c.v.pre = [] := Classical.byContradiction fun hp => by rw [(next_pre (may_v hm) hp).2] at ho; cases ho
  unfold turnC relB
  rw [if_neg (by omega), if_pos ⟨ha, hp⟩, rel_self hp hb, ho]; rfl
theorem tr_next0 {c : Cu} (hm : c.may = true) (h0 : c.e = 0) (ha : c.aft = true) (ho : nextOk c.v = true) (hz : pre0 (nextV c.v) = Ver.zero) : turnC c = endC (-1) := by
  have hp : ¬ c.v.pre = [] := fun hp => next_pos (may_v hm) hp ho hz
  unfold turnC
  rw [if_neg (by omega), if_neg (fun h => hp h.2)]
  refine relA_zero ?_
  rw [← (next_pre (may_v hm) hp).1, ← pre0_next]; exact hz
theorem tr_next1 {c : Cu} (hm : c.may = true) (h0 : c.e = 0) (ha : c.aft = true) (ho : nextOk c.v = true) (hz : ¬ pre0 (nextV c.v) = Ver.zero) : turnC c = ⟨0, pre0 (nextV c.v), false⟩ := by
  have hb := may_build hm
  rw [pre0_next] at hz ⊢
  unfold turnC
  by_cases hp : c.v.pre = []
  · rw [if_neg (by omega), if_pos ⟨ha, hp⟩]
    unfold relB
    rw [rel_self hp hb, ho]; rfl
  · rw [(next_pre (may_v hm) hp).1] at hz ⊢
    rw [if_neg (by omega), if_neg (fun h => hp h.2)]
    exact relA_one hz
theorem tr_at0 {c : Cu} (hm : c.may = true) (h0 : c.e = 0) (ha : c.aft = false) (hz : pre0 c.v = Ver.zero) : turnC c = endC (-1) := by
  unfold turnC
  rw [if_neg (by omega), if_neg (fun h => by rw [ha] at h; cases h.1)]
  exact relA_zero (by rw [← pre0_rel (may_build hm)]; exact hz)
theorem tr_at1 {c : Cu} (hm : c.may = true) (h0 : c.e = 0) (ha : c.aft = false) (hz : ¬ pre0 c.v = Ver.zero) : turnC c = ⟨0, pre0 c.v, false⟩ := by
  unfold turnC
  rw [if_neg (by omega), if_neg (fun h => by rw [ha] at h; cases h.1), pre0_rel (may_build hm)]
  exact relA_one (by rw [← pre0_rel (may_build hm)]; exact hz)
theorem turn_right {c : Cu} (hm : c.may = true) : decide (c = turnC c) = rightC c := by
  cases h : rightC c with
  | false => exact decide_eq_false fun e => by rw [e, (turn_ok hm).2] at h; cases h
  | true =>
    refine decide_eq_true ?_
    by_cases h0 : c.e = 0
    · have hr := h
      unfold rightC at hr
      rw [decide_eq_false (by simpa using h0), Bool.false_or] at hr
      simp only [Bool.and_eq_true, Bool.not_eq_true', decide_eq_true_eq] at hr
      obtain ⟨⟨ha, hp⟩, hl⟩ := hr
      have e1 : pre0 c.v = c.v := by
        have := may_build hm
        rw [pre0_rel this, rel_self hp this]
      rw [tr_at1 hm h0 ha (by rw [e1]; intro e; rw [e] at hl; revert hl; decide), e1]
      obtain ⟨e, v, a⟩ := c
      simp only at h0 ha; subst h0; subst ha; rfl
    · exact (tr_end h0).symm
theorem toRel_any (c : Cu) (W : World) (hc : c.short) (hm : c.may = true) : Calls Tryz.prog 43 #[cutV c] W fun e w' => e = .returned (cutV (turnC c)) ∧ Below W.heap.size W w' := by
  refine calls_ok (n := 30) Tryz.func43 rfl (by kernel_rfl) (by kernel_rfl) ?_
  refine ok_seq ?_
  refine ok_region ?_
  refine s_box (cutV c) (by kernel_rfl) rfl (by kernel_rfl) (fun b1 => ?_)
  refine s_alloc_at (.agg #[.int .i64 0, .int .i64 0, .int .i64 0, .int .i64 0, .string ⟨#[]⟩, .string ⟨#[]⟩, .bool false]) (by kernel_rfl) rfl (by kernel_rfl) (fun b2 => ?_)
  refine s_nil ?_
  refine fin_seq ?_
  refine ok_seq ?_
  refine ok_seq ?_
  refine ok_region ?_
  refine s_val (.pointer (some ⟨b1, 0, none⟩)) (by kernel_rfl) (fun _ => by kernel_rfl) ?_
  refine s_load 1 ⟨b1, (cutV c).cells, 48⟩ (off := 0) (.int .i64 c.e) (by kernel_rfl) rfl (by kernel_rfl) (by kernel_rfl) (by kernel_rfl) ?_
  by_cases h1 : (c.e : Int) = 0
  · skip
    refine s_ndec (p := (c.e : Int) = 0) true (by kernel_rfl) (fun _ => by kernel_rfl) (decide_eq_true (h1)) ?_
    refine s_nil ?_
    refine fin_seq ?_
    refine ok_false (by kernel_rfl) ?_
    refine ok_skip ?_
    refine fin_seq ?_
    refine ok_seq ?_
    refine ok_region ?_
    refine s_val (.pointer (some ⟨b1, 1, none⟩)) (by kernel_rfl) (fun _ => by kernel_rfl) ?_
    refine s_load 1 ⟨b1, (cutV c).cells, 48⟩ (off := 1) (.agg #[.int .i64 c.v.maj, .int .i64 c.v.min, .int .i64 c.v.pat, .string (mkS c.v.pre), .string (mkS c.v.build)]) (by kernel_rfl) rfl (by kernel_rfl) (by kernel_rfl) (by kernel_rfl) ?_
    refine s_alloc_at (.agg #[.int .i64 0, .int .i64 0, .int .i64 0, .string ⟨#[]⟩, .string ⟨#[]⟩]) (by kernel_rfl) rfl (by kernel_rfl) (fun b3 => ?_)
    refine s_store_at 0 ⟨b3, #[.int .i64 0, .int .i64 0, .int .i64 0, .string ⟨#[]⟩, .string ⟨#[]⟩], 26⟩ (off := 0) (.agg #[.int .i64 c.v.maj, .int .i64 c.v.min, .int .i64 c.v.pat, .string (mkS c.v.pre), .string (mkS c.v.build)]) (by kernel_rfl) rfl rfl (by kernel_rfl) (by kernel_rfl) (by kernel_rfl) (by kernel_rfl) (by kernel_rfl) ?_
    refine s_val (.bool true) (by kernel_rfl) (fun _ => by kernel_rfl) ?_
    refine s_nil ?_
    refine fin_seq ?_
    refine ok_seq ?_
    refine ok_seq ?_
    refine ok_region ?_
    refine s_val (.pointer (some ⟨b1, 6, none⟩)) (by kernel_rfl) (fun _ => by kernel_rfl) ?_
    refine s_load 2 ⟨b1, (cutV c).cells, 48⟩ (off := 6) (.bool c.aft) (by kernel_rfl) rfl (by kernel_rfl) (by kernel_rfl) (by kernel_rfl) ?_
    refine s_nil ?_
    refine fin_seq ?_
    cases h2 : c.aft with
    | true =>
      refine ok_true (by kernel_rfl) ?_
      refine ok_region ?_
      refine s_load 0 ⟨b3, #[.int .i64 c.v.maj, .int .i64 c.v.min, .int .i64 c.v.pat, .string (mkS c.v.pre), .string (mkS c.v.build)], 26⟩ (off := 0) (.agg #[.int .i64 c.v.maj, .int .i64 c.v.min, .int .i64 c.v.pat, .string (mkS c.v.pre), .string (mkS c.v.build)]) (by kernel_rfl) rfl (by kernel_rfl) (by kernel_rfl) (by kernel_rfl) ?_
      refine s_call (k := 79) (args := #[.agg #[.int .i64 c.v.maj, .int .i64 c.v.min, .int .i64 c.v.pat, .string (mkS c.v.pre), .string (mkS c.v.build)]]) (.tuple #[verV (nextV c.v), .bool (nextOk c.v)]) (by kernel_rfl) (fun _ => by kernel_rfl) (fun w _ => vnext_any c.v w hc.1 hc.2) ?_
      refine s_val (.tuple #[verV (nextV c.v), .bool (nextOk c.v)]) (by kernel_rfl) (fun _ => by kernel_rfl) ?_
      refine s_val (verV (nextV c.v)) (by kernel_rfl) (fun _ => by kernel_rfl) ?_
      refine s_val (.bool (nextOk c.v)) (by kernel_rfl) (fun _ => by kernel_rfl) ?_
      refine s_store_at 0 ⟨b3, #[.int .i64 c.v.maj, .int .i64 c.v.min, .int .i64 c.v.pat, .string (mkS c.v.pre), .string (mkS c.v.build)], 26⟩ (off := 0) (verV (nextV c.v)) (by kernel_rfl) rfl rfl (by kernel_rfl) (by kernel_rfl) (by kernel_rfl) (by kernel_rfl) (by kernel_rfl) ?_
      refine s_val (.bool (nextOk c.v)) (by kernel_rfl) (fun _ => by kernel_rfl) ?_
      refine s_nil ?_
      refine fin_seq ?_
      refine ok_seq ?_
      refine ok_region ?_
      refine s_val (.pointer (some ⟨b3, 3, none⟩)) (by kernel_rfl) (fun _ => by kernel_rfl) ?_
      refine s_store_at 0 ⟨b3, (verV (nextV c.v)).cells, 26⟩ (off := 3) (.string ⟨#[]⟩) (by kernel_rfl) rfl rfl (by kernel_rfl) (by kernel_rfl) (by kernel_rfl) (by kernel_rfl) (by kernel_rfl) ?_
      refine s_nil ?_
      refine fin_seq ?_
      refine ok_seq ?_
      refine ok_block ?_
      refine ok_seq ?_
      refine ok_region ?_
      refine s_val (.bool (nextOk c.v)) (by kernel_rfl) (fun _ => by kernel_rfl) ?_
      cases h3 : nextOk c.v with
      | true =>
        refine s_val (.bool false) (by kernel_rfl) (fun _ => by kernel_rfl) ?_
        refine s_val (.bool false) (by kernel_rfl) (fun _ => by kernel_rfl) ?_
        refine s_nil ?_
        refine fin_seq ?_
        refine ok_false (by kernel_rfl) ?_
        refine ok_seq ?_
        refine ok_region ?_
        refine s_load 0 ⟨b3, #[.int .i64 ((nextV c.v).maj), .int .i64 ((nextV c.v).min), .int .i64 ((nextV c.v).pat), .string ⟨#[]⟩, .string (mkS (nextV c.v).build)], 26⟩ (off := 0) (.agg #[.int .i64 ((nextV c.v).maj), .int .i64 ((nextV c.v).min), .int .i64 ((nextV c.v).pat), .string ⟨#[]⟩, .string (mkS (nextV c.v).build)]) (by kernel_rfl) rfl (by kernel_rfl) (by kernel_rfl) (by kernel_rfl) ?_
        refine s_val (.agg #[.int .i64 0, .int .i64 0, .int .i64 0, .string ⟨#[]⟩, .string ⟨#[]⟩]) (by kernel_rfl) (fun _ => by kernel_rfl) ?_
        by_cases h4 : pre0 (nextV c.v) = Ver.zero
        · skip
          refine s_val (.bool true) (by kernel_rfl) (op_eq_ver (u := pre0 (nextV c.v)) (v := Ver.zero) rfl (by kernel_rfl) (by kernel_rfl) (decide_eq_true (h4))) ?_
          refine s_val (.bool true) (by kernel_rfl) (fun _ => by kernel_rfl) ?_
          refine s_nil ?_
          refine fin_seq ?_
          refine ok_true (by kernel_rfl) ?_
          refine ok_seq ?_
          refine ok_region ?_
          refine s_val (.agg #[.int .i64 (-1), .int .i64 0, .int .i64 0, .int .i64 0, .string ⟨#[]⟩, .string ⟨#[]⟩, .bool false]) (by kernel_rfl) (fun _ => by kernel_rfl) ?_
          refine s_store_at 1 ⟨b2, #[.int .i64 0, .int .i64 0, .int .i64 0, .int .i64 0, .string ⟨#[]⟩, .string ⟨#[]⟩, .bool false], 48⟩ (off := 0) (.agg #[.int .i64 (-1), .int .i64 0, .int .i64 0, .int .i64 0, .string ⟨#[]⟩, .string ⟨#[]⟩, .bool false]) (by kernel_rfl) rfl rfl (by kernel_rfl) (by kernel_rfl) (by kernel_rfl) (by kernel_rfl) (by kernel_rfl) ?_
          refine s_nil ?_
          refine fin_seq ?_
          refine ok_ret ?_
          refine fin_block_ret ?_
          refine fin_seq_ret ?_
          refine fin_cell 1 ⟨b2, #[.int .i64 (-1), .int .i64 0, .int .i64 0, .int .i64 0, .string ⟨#[]⟩, .string ⟨#[]⟩, .bool false], 48⟩ (off := 0) (.agg #[.int .i64 (-1), .int .i64 0, .int .i64 0, .int .i64 0, .string ⟨#[]⟩, .string ⟨#[]⟩, .bool false]) Tryz.results43 (by kernel_rfl) (by kernel_rfl) (by kernel_rfl) ?_
          exact fun w hO => ⟨by first | rw [tr_end (by omega)] | (rw [tr_last hm (by omega) (by assumption) (by assumption)]; rfl) | (rw [tr_next0 hm (by omega) (by assumption) (by assumption) (by assumption)]; rfl) | (rw [tr_next1 hm (by omega) (by assumption) (by assumption) (by assumption)]; rfl) | (rw [tr_at0 hm (by omega) (by assumption) (by assumption)]; rfl) | (rw [tr_at1 hm (by omega) (by assumption) (by assumption)]; rfl), hO.below⟩
        · skip
          refine s_val (.bool false) (by kernel_rfl) (op_eq_ver (u := pre0 (nextV c.v)) (v := Ver.zero) rfl (by kernel_rfl) (by kernel_rfl) (decide_eq_false (h4))) ?_
          refine s_val (.bool false) (by kernel_rfl) (fun _ => by kernel_rfl) ?_
          refine s_nil ?_
          refine fin_seq ?_
          refine ok_false (by kernel_rfl) ?_
          refine ok_skip ?_
          refine fin_block ?_
          refine fin_seq ?_
          refine ok_seq ?_
          refine ok_region ?_
          refine s_load 0 ⟨b3, #[.int .i64 ((nextV c.v).maj), .int .i64 ((nextV c.v).min), .int .i64 ((nextV c.v).pat), .string ⟨#[]⟩, .string (mkS (nextV c.v).build)], 26⟩ (off := 0) (.agg #[.int .i64 ((nextV c.v).maj), .int .i64 ((nextV c.v).min), .int .i64 ((nextV c.v).pat), .string ⟨#[]⟩, .string (mkS (nextV c.v).build)]) (by kernel_rfl) rfl (by kernel_rfl) (by kernel_rfl) (by kernel_rfl) ?_
          refine s_val (.agg #[.int .i64 0, .int .i64 ((nextV c.v).maj), .int .i64 ((nextV c.v).min), .int .i64 ((nextV c.v).pat), .string ⟨#[]⟩, .string (mkS (nextV c.v).build), .bool false]) (by kernel_rfl) (fun _ => by kernel_rfl) ?_
          refine s_store_at 1 ⟨b2, #[.int .i64 0, .int .i64 0, .int .i64 0, .int .i64 0, .string ⟨#[]⟩, .string ⟨#[]⟩, .bool false], 48⟩ (off := 0) (.agg #[.int .i64 0, .int .i64 ((nextV c.v).maj), .int .i64 ((nextV c.v).min), .int .i64 ((nextV c.v).pat), .string ⟨#[]⟩, .string (mkS (nextV c.v).build), .bool false]) (by kernel_rfl) rfl rfl (by kernel_rfl) (by kernel_rfl) (by kernel_rfl) (by kernel_rfl) (by kernel_rfl) ?_
          refine s_nil ?_
          refine fin_seq ?_
          refine ok_ret ?_
          refine fin_cell 1 ⟨b2, #[.int .i64 0, .int .i64 ((nextV c.v).maj), .int .i64 ((nextV c.v).min), .int .i64 ((nextV c.v).pat), .string ⟨#[]⟩, .string (mkS (nextV c.v).build), .bool false], 48⟩ (off := 0) (.agg #[.int .i64 0, .int .i64 ((nextV c.v).maj), .int .i64 ((nextV c.v).min), .int .i64 ((nextV c.v).pat), .string ⟨#[]⟩, .string (mkS (nextV c.v).build), .bool false]) Tryz.results43 (by kernel_rfl) (by kernel_rfl) (by kernel_rfl) ?_
          exact fun w hO => ⟨by first | rw [tr_end (by omega)] | (rw [tr_last hm (by omega) (by assumption) (by assumption)]; rfl) | (rw [tr_next0 hm (by omega) (by assumption) (by assumption) (by assumption)]; rfl) | (rw [tr_next1 hm (by omega) (by assumption) (by assumption) (by assumption)]; rfl) | (rw [tr_at0 hm (by omega) (by assumption) (by assumption)]; rfl) | (rw [tr_at1 hm (by omega) (by assumption) (by assumption)]; rfl), hO.below⟩
      | false =>
        refine s_val (.bool true) (by kernel_rfl) (fun _ => by kernel_rfl) ?_
        refine s_val (.bool true) (by kernel_rfl) (fun _ => by kernel_rfl) ?_
        refine s_nil ?_
        refine fin_seq ?_
        refine ok_true (by kernel_rfl) ?_
        refine ok_seq ?_
        refine ok_region ?_
        refine s_val (.agg #[.int .i64 1, .int .i64 0, .int .i64 0, .int .i64 0, .string ⟨#[]⟩, .string ⟨#[]⟩, .bool false]) (by kernel_rfl) (fun _ => by kernel_rfl) ?_
        refine s_store_at 1 ⟨b2, #[.int .i64 0, .int .i64 0, .int .i64 0, .int .i64 0, .string ⟨#[]⟩, .string ⟨#[]⟩, .bool false], 48⟩ (off := 0) (.agg #[.int .i64 1, .int .i64 0, .int .i64 0, .int .i64 0, .string ⟨#[]⟩, .string ⟨#[]⟩, .bool false]) (by kernel_rfl) rfl rfl (by kernel_rfl) (by kernel_rfl) (by kernel_rfl) (by kernel_rfl) (by kernel_rfl) ?_
        refine s_nil ?_
        refine fin_seq ?_
        refine ok_ret ?_
        refine fin_block_ret ?_
        refine fin_seq_ret ?_
        refine fin_cell 1 ⟨b2, #[.int .i64 1, .int .i64 0, .int .i64 0, .int .i64 0, .string ⟨#[]⟩, .string ⟨#[]⟩, .bool false], 48⟩ (off := 0) (.agg #[.int .i64 1, .int .i64 0, .int .i64 0, .int .i64 0, .string ⟨#[]⟩, .string ⟨#[]⟩, .bool false]) Tryz.results43 (by kernel_rfl) (by kernel_rfl) (by kernel_rfl) ?_
        exact fun w hO => ⟨by first | rw [tr_end (by omega)] | (rw [tr_last hm (by omega) (by assumption) (by assumption)]; rfl) | (rw [tr_next0 hm (by omega) (by assumption) (by assumption) (by assumption)]; rfl) | (rw [tr_next1 hm (by omega) (by assumption) (by assumption) (by assumption)]; rfl) | (rw [tr_at0 hm (by omega) (by assumption) (by assumption)]; rfl) | (rw [tr_at1 hm (by omega) (by assumption) (by assumption)]; rfl), hO.below⟩
    | false =>
      refine ok_false (by kernel_rfl) ?_
      refine ok_skip ?_
      refine fin_seq ?_
      refine ok_seq ?_
      refine ok_region ?_
      refine s_val (.pointer (some ⟨b3, 3, none⟩)) (by kernel_rfl) (fun _ => by kernel_rfl) ?_
      refine s_store_at 0 ⟨b3, #[.int .i64 c.v.maj, .int .i64 c.v.min, .int .i64 c.v.pat, .string (mkS c.v.pre), .string (mkS c.v.build)], 26⟩ (off := 3) (.string ⟨#[]⟩) (by kernel_rfl) rfl rfl (by kernel_rfl) (by kernel_rfl) (by kernel_rfl) (by kernel_rfl) (by kernel_rfl) ?_
      refine s_nil ?_
      refine fin_seq ?_
      refine ok_seq ?_
      refine ok_block ?_
      refine ok_seq ?_
      refine ok_region ?_
      refine s_val (.bool true) (by kernel_rfl) (fun _ => by kernel_rfl) ?_
      refine s_val (.bool false) (by kernel_rfl) (fun _ => by kernel_rfl) ?_
      refine s_val (.bool false) (by kernel_rfl) (fun _ => by kernel_rfl) ?_
      refine s_nil ?_
      refine fin_seq ?_
      refine ok_false (by kernel_rfl) ?_
      refine ok_seq ?_
      refine ok_region ?_
      refine s_load 0 ⟨b3, #[.int .i64 c.v.maj, .int .i64 c.v.min, .int .i64 c.v.pat, .string ⟨#[]⟩, .string (mkS c.v.build)], 26⟩ (off := 0) (.agg #[.int .i64 c.v.maj, .int .i64 c.v.min, .int .i64 c.v.pat, .string ⟨#[]⟩, .string (mkS c.v.build)]) (by kernel_rfl) rfl (by kernel_rfl) (by kernel_rfl) (by kernel_rfl) ?_
      refine s_val (.agg #[.int .i64 0, .int .i64 0, .int .i64 0, .string ⟨#[]⟩, .string ⟨#[]⟩]) (by kernel_rfl) (fun _ => by kernel_rfl) ?_
      by_cases h5 : pre0 c.v = Ver.zero
      · skip
        refine s_val (.bool true) (by kernel_rfl) (op_eq_ver (u := pre0 c.v) (v := Ver.zero) rfl (by kernel_rfl) (by kernel_rfl) (decide_eq_true (h5))) ?_
        refine s_val (.bool true) (by kernel_rfl) (fun _ => by kernel_rfl) ?_
        refine s_nil ?_
        refine fin_seq ?_
        refine ok_true (by kernel_rfl) ?_
        refine ok_seq ?_
        refine ok_region ?_
        refine s_val (.agg #[.int .i64 (-1), .int .i64 0, .int .i64 0, .int .i64 0, .string ⟨#[]⟩, .string ⟨#[]⟩, .bool false]) (by kernel_rfl) (fun _ => by kernel_rfl) ?_
        refine s_store_at 1 ⟨b2, #[.int .i64 0, .int .i64 0, .int .i64 0, .int .i64 0, .string ⟨#[]⟩, .string ⟨#[]⟩, .bool false], 48⟩ (off := 0) (.agg #[.int .i64 (-1), .int .i64 0, .int .i64 0, .int .i64 0, .string ⟨#[]⟩, .string ⟨#[]⟩, .bool false]) (by kernel_rfl) rfl rfl (by kernel_rfl) (by kernel_rfl) (by kernel_rfl) (by kernel_rfl) (by kernel_rfl) ?_
        refine s_nil ?_
        refine fin_seq ?_
        refine ok_ret ?_
        refine fin_block_ret ?_
        refine fin_seq_ret ?_
        refine fin_cell 1 ⟨b2, #[.int .i64 (-1), .int .i64 0, .int .i64 0, .int .i64 0, .string ⟨#[]⟩, .string ⟨#[]⟩, .bool false], 48⟩ (off := 0) (.agg #[.int .i64 (-1), .int .i64 0, .int .i64 0, .int .i64 0, .string ⟨#[]⟩, .string ⟨#[]⟩, .bool false]) Tryz.results43 (by kernel_rfl) (by kernel_rfl) (by kernel_rfl) ?_
        exact fun w hO => ⟨by first | rw [tr_end (by omega)] | (rw [tr_last hm (by omega) (by assumption) (by assumption)]; rfl) | (rw [tr_next0 hm (by omega) (by assumption) (by assumption) (by assumption)]; rfl) | (rw [tr_next1 hm (by omega) (by assumption) (by assumption) (by assumption)]; rfl) | (rw [tr_at0 hm (by omega) (by assumption) (by assumption)]; rfl) | (rw [tr_at1 hm (by omega) (by assumption) (by assumption)]; rfl), hO.below⟩
      · skip
        refine s_val (.bool false) (by kernel_rfl) (op_eq_ver (u := pre0 c.v) (v := Ver.zero) rfl (by kernel_rfl) (by kernel_rfl) (decide_eq_false (h5))) ?_
        refine s_val (.bool false) (by kernel_rfl) (fun _ => by kernel_rfl) ?_
        refine s_nil ?_
        refine fin_seq ?_
        refine ok_false (by kernel_rfl) ?_
        refine ok_skip ?_
        refine fin_block ?_
        refine fin_seq ?_
        refine ok_seq ?_
        refine ok_region ?_
        refine s_load 0 ⟨b3, #[.int .i64 c.v.maj, .int .i64 c.v.min, .int .i64 c.v.pat, .string ⟨#[]⟩, .string (mkS c.v.build)], 26⟩ (off := 0) (.agg #[.int .i64 c.v.maj, .int .i64 c.v.min, .int .i64 c.v.pat, .string ⟨#[]⟩, .string (mkS c.v.build)]) (by kernel_rfl) rfl (by kernel_rfl) (by kernel_rfl) (by kernel_rfl) ?_
        refine s_val (.agg #[.int .i64 0, .int .i64 c.v.maj, .int .i64 c.v.min, .int .i64 c.v.pat, .string ⟨#[]⟩, .string (mkS c.v.build), .bool false]) (by kernel_rfl) (fun _ => by kernel_rfl) ?_
        refine s_store_at 1 ⟨b2, #[.int .i64 0, .int .i64 0, .int .i64 0, .int .i64 0, .string ⟨#[]⟩, .string ⟨#[]⟩, .bool false], 48⟩ (off := 0) (.agg #[.int .i64 0, .int .i64 c.v.maj, .int .i64 c.v.min, .int .i64 c.v.pat, .string ⟨#[]⟩, .string (mkS c.v.build), .bool false]) (by kernel_rfl) rfl rfl (by kernel_rfl) (by kernel_rfl) (by kernel_rfl) (by kernel_rfl) (by kernel_rfl) ?_
        refine s_nil ?_
        refine fin_seq ?_
        refine ok_ret ?_
        refine fin_cell 1 ⟨b2, #[.int .i64 0, .int .i64 c.v.maj, .int .i64 c.v.min, .int .i64 c.v.pat, .string ⟨#[]⟩, .string (mkS c.v.build), .bool false], 48⟩ (off := 0) (.agg #[.int .i64 0, .int .i64 c.v.maj, .int .i64 c.v.min, .int .i64 c.v.pat, .string ⟨#[]⟩, .string (mkS c.v.build), .bool false]) Tryz.results43 (by kernel_rfl) (by kernel_rfl) (by kernel_rfl) ?_
        exact fun w hO => ⟨by first | rw [tr_end (by omega)] | (rw [tr_last hm (by omega) (by assumption) (by assumption)]; rfl) | (rw [tr_next0 hm (by omega) (by assumption) (by assumption) (by assumption)]; rfl) | (rw [tr_next1 hm (by omega) (by assumption) (by assumption) (by assumption)]; rfl) | (rw [tr_at0 hm (by omega) (by assumption) (by assumption)]; rfl) | (rw [tr_at1 hm (by omega) (by assumption) (by assumption)]; rfl), hO.below⟩
  · skip
    refine s_ndec (p := (c.e : Int) = 0) false (by kernel_rfl) (fun _ => by kernel_rfl) (decide_eq_false (h1)) ?_
    refine s_nil ?_
    refine fin_seq ?_
    refine ok_true (by kernel_rfl) ?_
    refine ok_seq ?_
    refine ok_region ?_
    refine s_load 1 ⟨b1, (cutV c).cells, 48⟩ (off := 0) (cutV c) (by kernel_rfl) rfl (by kernel_rfl) (by kernel_rfl) (by kernel_rfl) ?_
    refine s_store_at 0 ⟨b2, #[.int .i64 0, .int .i64 0, .int .i64 0, .int .i64 0, .string ⟨#[]⟩, .string ⟨#[]⟩, .bool false], 48⟩ (off := 0) (cutV c) (by kernel_rfl) rfl rfl (by kernel_rfl) (by kernel_rfl) (by kernel_rfl) (by kernel_rfl) (by kernel_rfl) ?_
    refine s_nil ?_
    refine fin_seq ?_
    refine ok_ret ?_
    refine fin_seq_ret ?_
    refine fin_cell 0 ⟨b2, (cutV c).cells, 48⟩ (off := 0) (cutV c) Tryz.results43 (by kernel_rfl) (by kernel_rfl) (by kernel_rfl) ?_
    exact fun w hO => ⟨by first | rw [tr_end (by omega)] | (rw [tr_last hm (by omega) (by assumption) (by assumption)]; rfl) | (rw [tr_next0 hm (by omega) (by assumption) (by assumption) (by assumption)]; rfl) | (rw [tr_next1 hm (by omega) (by assumption) (by assumption) (by assumption)]; rfl) | (rw [tr_at0 hm (by omega) (by assumption) (by assumption)]; rfl) | (rw [tr_at1 hm (by omega) (by assumption) (by assumption)]; rfl), hO.below⟩
theorem mayRel_any (c : Cu) (W : World) (hc : c.short) (hm : c.may = true) : Calls Tryz.prog 52 #[cutV c] W fun e w' => e = .returned (.bool (rightC c)) ∧ Below W.heap.size W w' := by
  rw [← turn_right hm]
  refine calls_ok (n := 7) Tryz.func52 rfl (by kernel_rfl) (by kernel_rfl) ?_
  refine ok_seq ?_
  refine ok_region ?_
  refine s_box (cutV c) (by kernel_rfl) rfl (by kernel_rfl) (fun b1 => ?_)
  refine s_val (.bool false) (by kernel_rfl) (fun _ => by kernel_rfl) ?_
  refine s_nil ?_
  refine fin_seq ?_
  refine ok_seq ?_
  refine ok_draw (by kernel_rfl) (by kernel_rfl) ?_
  refine q_load 0 ⟨b1, (cutV c).cells, 48⟩ (off := 0) (cutV c) (by kernel_rfl) rfl (by kernel_rfl) (by kernel_rfl) (by kernel_rfl) ?_
  refine q_load 0 ⟨b1, (cutV c).cells, 48⟩ (off := 0) (cutV c) (by kernel_rfl) rfl (by kernel_rfl) (by kernel_rfl) (by kernel_rfl) ?_
  refine q_call (k := 43) (args := #[cutV c]) (cutV (turnC c)) (by kernel_rfl) (fun _ => by kernel_rfl) (fun w _ => toRel_any c w hc hm) ?_
  by_cases h1 : c = turnC c
  · skip
    refine q_val (.bool true) (by kernel_rfl) (op_eq_cut (u := c) (v := turnC c) rfl (by kernel_rfl) (by kernel_rfl) (decide_eq_true (h1))) ?_
    refine q_val (.bool true) (by kernel_rfl) (fun _ => by kernel_rfl) ?_
    refine q_nil ?_
    refine fin_seq ?_
    refine ok_ret ?_
    refine fin_ret (.bool true) Tryz.results52 (by kernel_rfl) ?_
    exact fun w hO => ⟨by rw [decide_eq_true h1], hO.below⟩
  · skip
    refine q_val (.bool false) (by kernel_rfl) (op_eq_cut (u := c) (v := turnC c) rfl (by kernel_rfl) (by kernel_rfl) (decide_eq_false (h1))) ?_
    refine q_val (.bool false) (by kernel_rfl) (fun _ => by kernel_rfl) ?_
    refine q_nil ?_
    refine fin_seq ?_
    refine ok_ret ?_
    refine fin_ret (.bool false) Tryz.results52 (by kernel_rfl) ?_
    exact fun w hO => ⟨by rw [decide_eq_false h1], hO.below⟩
/-- Does a span have a cut that may not be in Rel? -/
def foreignS (s : Sp) : Bool := !rightC s.lo || !rightC s.hi
theorem foreign_any {l : List Sp} : (!l.any foreignS) = l.all fun x => rightC x.lo && rightC x.hi := by
  rw [List.not_any_eq_all_not]
  congr 1
  funext s
  unfold foreignS
  simp
theorem foreign1_any (s : Sp) (W : World) (hs : s.short) (hm : s.may = true) : Calls Tryz.prog 51 #[spanV s] W fun e w' => e = .returned (.bool (foreignS s)) ∧ Below W.heap.size W w' := by
  obtain ⟨m1, m2⟩ := span_mays hm
  refine calls_ok (n := 13) Tryz.func51 rfl (by kernel_rfl) (by kernel_rfl) ?_
  refine ok_seq ?_
  refine ok_region ?_
  refine s_box (spanV s) (by kernel_rfl) rfl (by kernel_rfl) (fun b1 => ?_)
  refine s_val (.bool false) (by kernel_rfl) (fun _ => by kernel_rfl) ?_
  refine s_nil ?_
  refine fin_seq ?_
  refine ok_seq ?_
  refine ok_region ?_
  refine s_val (.pointer (some ⟨b1, 0, none⟩)) (by kernel_rfl) (fun _ => by kernel_rfl) ?_
  refine s_load 0 ⟨b1, (spanV s).cells, 50⟩ (off := 0) (.agg #[.int .i64 s.lo.e, .int .i64 s.lo.v.maj, .int .i64 s.lo.v.min, .int .i64 s.lo.v.pat, .string (mkS s.lo.v.pre), .string (mkS s.lo.v.build), .bool s.lo.aft]) (by kernel_rfl) rfl (by kernel_rfl) (by kernel_rfl) (by kernel_rfl) ?_
  refine s_call (k := 52) (args := #[.agg #[.int .i64 s.lo.e, .int .i64 s.lo.v.maj, .int .i64 s.lo.v.min, .int .i64 s.lo.v.pat, .string (mkS s.lo.v.pre), .string (mkS s.lo.v.build), .bool s.lo.aft]]) (.bool (rightC s.lo)) (by kernel_rfl) (fun _ => by kernel_rfl) (fun w _ => mayRel_any s.lo w hs.1 m1) ?_
  cases h1 : rightC s.lo with
  | true =>
    refine s_val (.bool false) (by kernel_rfl) (fun _ => by kernel_rfl) ?_
    refine s_val (.bool false) (by kernel_rfl) (fun _ => by kernel_rfl) ?_
    refine s_val (.pointer (some ⟨b1, 7, none⟩)) (by kernel_rfl) (fun _ => by kernel_rfl) ?_
    refine s_load 0 ⟨b1, (spanV s).cells, 50⟩ (off := 7) (.agg #[.int .i64 s.hi.e, .int .i64 s.hi.v.maj, .int .i64 s.hi.v.min, .int .i64 s.hi.v.pat, .string (mkS s.hi.v.pre), .string (mkS s.hi.v.build), .bool s.hi.aft]) (by kernel_rfl) rfl (by kernel_rfl) (by kernel_rfl) (by kernel_rfl) ?_
    refine s_call (k := 52) (args := #[.agg #[.int .i64 s.hi.e, .int .i64 s.hi.v.maj, .int .i64 s.hi.v.min, .int .i64 s.hi.v.pat, .string (mkS s.hi.v.pre), .string (mkS s.hi.v.build), .bool s.hi.aft]]) (.bool (rightC s.hi)) (by kernel_rfl) (fun _ => by kernel_rfl) (fun w _ => mayRel_any s.hi w hs.2 m2) ?_
    cases h2 : rightC s.hi with
    | true =>
      refine s_val (.bool false) (by kernel_rfl) (fun _ => by kernel_rfl) ?_
      refine s_val (.bool false) (by kernel_rfl) (fun _ => by kernel_rfl) ?_
      refine s_val (.bool false) (by kernel_rfl) (fun _ => by kernel_rfl) ?_
      refine s_nil ?_
      refine fin_seq ?_
      refine ok_ret ?_
      refine fin_ret (.bool false) Tryz.results51 (by kernel_rfl) ?_
      exact fun w hO => ⟨by unfold foreignS; simp [h1, h2], hO.below⟩
    | false =>
      refine s_val (.bool true) (by kernel_rfl) (fun _ => by kernel_rfl) ?_
      refine s_val (.bool true) (by kernel_rfl) (fun _ => by kernel_rfl) ?_
      refine s_val (.bool true) (by kernel_rfl) (fun _ => by kernel_rfl) ?_
      refine s_nil ?_
      refine fin_seq ?_
      refine ok_ret ?_
      refine fin_ret (.bool true) Tryz.results51 (by kernel_rfl) ?_
      exact fun w hO => ⟨by unfold foreignS; simp [h1, h2], hO.below⟩
  | false =>
    refine s_val (.bool true) (by kernel_rfl) (fun _ => by kernel_rfl) ?_
    refine s_val (.bool true) (by kernel_rfl) (fun _ => by kernel_rfl) ?_
    refine s_skip (by kernel_rfl) ?_
    refine s_skip (by kernel_rfl) ?_
    refine s_skip (by kernel_rfl) ?_
    refine s_skip (by kernel_rfl) ?_
    refine s_val (.bool true) (by kernel_rfl) (fun _ => by kernel_rfl) ?_
    refine s_val (.bool true) (by kernel_rfl) (fun _ => by kernel_rfl) ?_
    refine s_nil ?_
    refine fin_seq ?_
    refine ok_ret ?_
    refine fin_ret (.bool true) Tryz.results51 (by kernel_rfl) ?_
    exact fun w hO => ⟨by unfold foreignS; simp [h1], hO.below⟩
/-- The place of the first span with a cut that may not be in Rel, or -1. -/
def idxR : List Sp → Int → Int
  | [], _ => -1
  | s :: r, k => if foreignS s then k else idxR r (k + 1)
theorem idxR_any : ∀ (l : List Sp) (k : Int), 0 ≤ k → decide (0 ≤ idxR l k) = l.any foreignS
  | [], k, _ => rfl
  | s :: r, k, hk => by
    unfold idxR
    rw [List.any_cons]
    cases h : foreignS s with
    | true => rw [if_pos rfl, Bool.true_or]; exact decide_eq_true hk
    | false => rw [if_neg (by decide), Bool.false_or]; exact idxR_any r (k + 1) (by omega)
theorem idxr_any (A : Option Addr) (cap : Nat) (l : List Sp) (W : World) (hv : Reads spanC W W.heap.size A l) (hn : l.length ≤ 1000000) (hl : ShortL l) (hmay : ∀ s ∈ l, s.may = true) :
    Calls Tryz.prog 90 #[.slice A l.length cap, .func (.func 51) #[] #[]] W fun e w' => e = .returned (.int .i64 (idxR l 0)) ∧ Below W.heap.size W w' := by
  refine calls_ok (n := 19) Tryz.func90 rfl (by kernel_rfl) (by kernel_rfl) ?_
  refine ok_seq ?_
  refine ok_region ?_
  refine s_val (.int .i64 0) (by kernel_rfl) (fun _ => by kernel_rfl) ?_
  refine s_nil ?_
  refine fin_seq ?_
  refine ok_seq ?_
  refine ok_seq ?_
  refine ok_region ?_
  refine s_val (.slice A l.length cap) (by kernel_rfl) (fun _ => by kernel_rfl) ?_
  refine s_val (.int .i64 (l.length : Int)) (by kernel_rfl) (fun _ => by kernel_rfl) ?_
  refine s_val (.int .i64 0) (by kernel_rfl) (fun _ => by kernel_rfl) ?_
  refine s_nil ?_
  refine fin_seq ?_
  refine ok_block ?_
  refine ok_loop (fun L f m => ∃ (k : Nat) (j : Nat → Value), (k ≤ l.length ∧ idxR l 0 = idxR (l.drop k) (k : Int)) ∧ L = [] ∧ f = upds j [(0, .slice A l.length cap), (1, .func (.func 51) #[] #[]), (7, .int .i64 (l.length : Int)), (8, .int .i64 (k : Int))] ∧ m = l.length - k) (l.length - 0) ⟨0, _, ⟨Nat.zero_le _, by rw [List.drop_zero]; rfl⟩, rfl, upds_self _ ⟨by kernel_rfl, by kernel_rfl, by kernel_rfl, by kernel_rfl, trivial⟩, rfl⟩ ?_
  rintro L f m ⟨k, j, hrel, rfl, rfl, rfl⟩
  have hkl := hrel.1
  refine ok_seq ?_
  refine ok_region ?_
  by_cases h1 : (k : Int) < (l.length : Int)
  · skip
    have hk : k < l.length := by omega
    obtain ⟨b, off, hA, hlt, hcel⟩ := hv (by omega)
    obtain ⟨s, hs⟩ : ∃ s, l[k] = s := ⟨_, rfl⟩
    have hsk : s.short := hs ▸ hl l[k] (List.getElem_mem hk)
    have hsm : s.may = true := hs ▸ hmay l[k] (List.getElem_mem hk)
    refine s_dec (p := (k : Int) < (l.length : Int)) true (by kernel_rfl) (fun _ => by kernel_rfl) (decide_eq_true (h1)) ?_
    refine s_nil ?_
    refine fin_seq ?_
    refine ok_seq ?_
    refine ok_true (by kernel_rfl) ?_
    refine ok_skip ?_
    refine fin_seq ?_
    refine ok_seq ?_
    refine ok_block ?_
    refine ok_seq ?_
    refine ok_region ?_
    refine s_val (.int .i64 (k : Int)) (by kernel_rfl) (fun _ => by kernel_rfl) ?_
    refine s_val (.int .i64 (k : Int)) (by kernel_rfl) (fun _ => by kernel_rfl) ?_
    refine s_nil ?_
    refine fin_seq ?_
    refine ok_seq ?_
    refine ok_region ?_
    refine s_val (.func (.func 51) #[] #[]) (by kernel_rfl) (fun _ => by kernel_rfl) ?_
    refine s_val (.slice A l.length cap) (by kernel_rfl) (fun _ => by kernel_rfl) ?_
    refine s_val (.int .i64 (k : Int)) (by kernel_rfl) (fun _ => by kernel_rfl) ?_
    refine s_val (.pointer (some ⟨b, off + k * 14, none⟩)) (by kernel_rfl) (run_ixA (b := b) (off := off) (c := cap) (n := l.length) (k := .i64) (j := (k : Int)) (e := 50) (sz := 14) rfl (by kernel_rfl) hA (by kernel_rfl) (by kernel_rfl) (by kernel_rfl) (by omega) (by omega) (by omega)) ?_
    refine s_old (spanV s) (a := ⟨b, off + k * 14, none⟩) (by kernel_rfl) rfl (by kernel_rfl) (fun w hO => elem_load spanC_len (fun j u h => (hO.below.cell (p := ⟨b, off + j, none⟩) hlt).trans (hcel j u h)) k 0 hk (by omega) _ (by rw [hs]; kernel_rfl)) ?_
    refine s_call (k := 51) (args := #[spanV s]) (.bool (foreignS s)) (by kernel_rfl) (fun _ => by kernel_rfl) (fun w hO => foreign1_any s w hsk hsm) ?_
    refine s_nil ?_
    refine fin_seq ?_
    cases h2 : foreignS s with
    | true =>
      refine ok_true (by kernel_rfl) ?_
      refine ok_seq ?_
      refine ok_region ?_
      refine s_val (.int .i64 (k : Int)) (by kernel_rfl) (fun _ => by kernel_rfl) ?_
      refine s_val (.int .i64 (k : Int)) (by kernel_rfl) (fun _ => by kernel_rfl) ?_
      refine s_nil ?_
      refine fin_seq ?_
      refine ok_ret ?_
      refine fin_block_ret ?_
      refine fin_seq_ret ?_
      refine fin_round_ret ?_
      refine fin_block_ret ?_
      refine fin_seq_ret ?_
      refine fin_ret (.int .i64 (k : Int)) Tryz.results90 (by kernel_rfl) ?_
      exact fun w hO => ⟨by rw [hrel.2, List.drop_eq_getElem_cons hk, hs]; simp only [idxR, h2]; rfl, hO.below⟩
    | false =>
      refine ok_false (by kernel_rfl) ?_
      refine ok_skip ?_
      refine fin_block ?_
      refine fin_seq ?_
      refine ok_region ?_
      refine s_sum (k := .i64) (((k + 1 : Nat) : Int)) (by kernel_rfl) (fun _ => by kernel_rfl) (IntWalk.i64_in _ (by omega)) ?_
      refine s_val (.int .i64 ((k + 1 : Nat) : Int)) (by kernel_rfl) (fun _ => by kernel_rfl) ?_
      refine s_nil ?_
      have hnext : idxR l 0 = idxR (l.drop (k + 1)) ((k + 1 : Nat) : Int) := by rw [hrel.2, List.drop_eq_getElem_cons hk, hs]; simp only [idxR, h2]; rfl
      exact fin_round (m' := l.length - (k + 1)) (by omega) ⟨k + 1, _, ⟨by omega, hnext⟩, rfl, upds_self _ ⟨by kernel_rfl, by kernel_rfl, by kernel_rfl, by kernel_rfl, trivial⟩, rfl⟩
  · skip
    refine s_dec (p := (k : Int) < (l.length : Int)) false (by kernel_rfl) (fun _ => by kernel_rfl) (decide_eq_false (h1)) ?_
    refine s_nil ?_
    refine fin_seq ?_
    refine ok_seq ?_
    refine ok_false (by kernel_rfl) ?_
    refine ok_exit ?_
    refine fin_seq_exit ?_
    refine fin_round_exit ?_
    refine fin_block_exit ?_
    refine fin_seq ?_
    refine ok_seq ?_
    refine ok_region ?_
    refine s_val (.int .i64 (-1)) (by kernel_rfl) (fun _ => by kernel_rfl) ?_
    refine s_nil ?_
    refine fin_seq ?_
    refine ok_ret ?_
    refine fin_ret (.int .i64 (-1)) Tryz.results90 (by kernel_rfl) ?_
    exact fun w hO => ⟨by rw [hrel.2, List.drop_of_length_le (by omega)]; rfl, hO.below⟩
theorem containsr_any (A : Option Addr) (cap : Nat) (l : List Sp) (W : World) (hv : Reads spanC W W.heap.size A l) (hn : l.length ≤ 1000000) (hl : ShortL l) (hmay : ∀ s ∈ l, s.may = true) :
    Calls Tryz.prog 53 #[.slice A l.length cap, .func (.func 51) #[] #[]] W fun e w' => e = .returned (.bool (l.any foreignS)) ∧ Below W.heap.size W w' := by
  rw [← idxR_any l 0 (by omega)]
  refine calls_ok (n := 9) Tryz.func53 rfl (by kernel_rfl) (by kernel_rfl) ?_
  refine ok_seq ?_
  refine ok_region ?_
  refine s_val (.bool false) (by kernel_rfl) (fun _ => by kernel_rfl) ?_
  refine s_nil ?_
  refine fin_seq ?_
  refine ok_seq ?_
  refine ok_region ?_
  refine s_val (.slice A l.length cap) (by kernel_rfl) (fun _ => by kernel_rfl) ?_
  refine s_val (.func (.func 51) #[] #[]) (by kernel_rfl) (fun _ => by kernel_rfl) ?_
  refine s_call (k := 90) (args := #[.slice A l.length cap, .func (.func 51) #[] #[]]) (.int .i64 (idxR l 0)) (by kernel_rfl) (fun _ => by kernel_rfl) (fun w hO => idxr_any A cap l w (hv.on hO.below hO.size) hn hl hmay) ?_
  by_cases h1 : (0 : Int) ≤ idxR l 0
  · skip
    refine s_dec (p := (0 : Int) ≤ idxR l 0) true (by kernel_rfl) (fun _ => by kernel_rfl) (decide_eq_true (h1)) ?_
    refine s_val (.bool true) (by kernel_rfl) (fun _ => by kernel_rfl) ?_
    refine s_nil ?_
    refine fin_seq ?_
    refine ok_ret ?_
    refine fin_ret (.bool true) Tryz.results53 (by kernel_rfl) ?_
    exact fun w hO => ⟨by simp only [decide_eq_true h1], hO.below⟩
  · skip
    refine s_dec (p := (0 : Int) ≤ idxR l 0) false (by kernel_rfl) (fun _ => by kernel_rfl) (decide_eq_false (h1)) ?_
    refine s_val (.bool false) (by kernel_rfl) (fun _ => by kernel_rfl) ?_
    refine s_nil ?_
    refine fin_seq ?_
    refine ok_ret ?_
    refine fin_ret (.bool false) Tryz.results53 (by kernel_rfl) ?_
    exact fun w hO => ⟨by simp only [decide_eq_false h1], hO.below⟩
theorem sMay_any (A B : Option Addr) (c d : Nat) (a : St) (W : World) (hs : SetIn W W.heap.size A B a) (ca : a.rel.length ≤ c ∧ a.pre.length ≤ d) : Calls Tryz.prog 14 #[.agg #[.slice A a.rel.length c, .slice B a.pre.length d]] W fun e w' => e = .returned (.bool a.may) ∧ Below W.heap.size W w' := by
  refine calls_ok (n := 19) Tryz.func14 rfl (by kernel_rfl) (by kernel_rfl) ?_
  refine ok_seq ?_
  refine ok_region ?_
  refine s_box (.agg #[.slice A a.rel.length c, .slice B a.pre.length d]) (by kernel_rfl) rfl (by kernel_rfl) (fun b1 => ?_)
  refine s_val (.bool false) (by kernel_rfl) (fun _ => by kernel_rfl) ?_
  refine s_nil ?_
  refine fin_seq ?_
  refine ok_seq ?_
  refine ok_region ?_
  refine s_val (.func (.func 51) #[] #[]) (by kernel_rfl) (fun _ => by kernel_rfl) ?_
  refine s_nil ?_
  refine fin_seq ?_
  refine ok_seq ?_
  refine ok_region ?_
  refine s_val (.pointer (some ⟨b1, 0, none⟩)) (by kernel_rfl) (fun _ => by kernel_rfl) ?_
  refine s_load 0 ⟨b1, #[.slice A a.rel.length c, .slice B a.pre.length d], 24⟩ (off := 0) (.slice A a.rel.length c) (by kernel_rfl) rfl (by kernel_rfl) (by kernel_rfl) (by kernel_rfl) ?_
  refine s_call (k := 42) (args := #[.slice A a.rel.length c]) (.bool (rowMay a.rel)) (by kernel_rfl) (fun _ => by kernel_rfl) (fun w hO => may4_any A c a.rel w (hs.rel.on hO.below hO.size) (Nat.le_trans hs.lr (by decide)) hs.sr) ?_
  refine s_val (.bool (rowMay a.rel)) (by kernel_rfl) (fun _ => by kernel_rfl) ?_
  cases h1 : rowMay a.rel with
  | true =>
    refine s_val (.pointer (some ⟨b1, 1, none⟩)) (by kernel_rfl) (fun _ => by kernel_rfl) ?_
    refine s_load 0 ⟨b1, #[.slice A a.rel.length c, .slice B a.pre.length d], 24⟩ (off := 1) (.slice B a.pre.length d) (by kernel_rfl) rfl (by kernel_rfl) (by kernel_rfl) (by kernel_rfl) ?_
    refine s_call (k := 42) (args := #[.slice B a.pre.length d]) (.bool (rowMay a.pre)) (by kernel_rfl) (fun _ => by kernel_rfl) (fun w hO => may4_any B d a.pre w (hs.pre.on hO.below hO.size) (Nat.le_trans hs.lp (by decide)) hs.sp) ?_
    refine s_val (.bool (rowMay a.pre)) (by kernel_rfl) (fun _ => by kernel_rfl) ?_
    refine s_val (.bool (rowMay a.pre)) (by kernel_rfl) (fun _ => by kernel_rfl) ?_
    cases h2 : rowMay a.pre with
    | true =>
      refine s_val (.pointer (some ⟨b1, 0, none⟩)) (by kernel_rfl) (fun _ => by kernel_rfl) ?_
      refine s_load 0 ⟨b1, #[.slice A a.rel.length c, .slice B a.pre.length d], 24⟩ (off := 0) (.slice A a.rel.length c) (by kernel_rfl) rfl (by kernel_rfl) (by kernel_rfl) (by kernel_rfl) ?_
      refine s_val (.func (.func 51) #[] #[]) (by kernel_rfl) (fun _ => by kernel_rfl) ?_
      refine s_call (k := 53) (args := #[.slice A a.rel.length c, .func (.func 51) #[] #[]]) (.bool (a.rel.any foreignS)) (by kernel_rfl) (fun _ => by kernel_rfl) (fun w hO => containsr_any A c a.rel w (hs.rel.on hO.below hO.size) (Nat.le_trans hs.lr (by decide)) hs.sr (row_mem h1)) ?_
      cases h3 : a.rel.any foreignS with
      | true =>
        refine s_val (.bool false) (by kernel_rfl) (fun _ => by kernel_rfl) ?_
        refine s_val (.bool false) (by kernel_rfl) (fun _ => by kernel_rfl) ?_
        refine s_val (.bool false) (by kernel_rfl) (fun _ => by kernel_rfl) ?_
        refine s_nil ?_
        refine fin_seq ?_
        refine ok_ret ?_
        refine fin_ret (.bool false) Tryz.results14 (by kernel_rfl) ?_
        exact fun w hO => ⟨by unfold St.may; rw [← foreign_any]; simp [h1, h2, h3], hO.below⟩
      | false =>
        refine s_val (.bool true) (by kernel_rfl) (fun _ => by kernel_rfl) ?_
        refine s_val (.bool true) (by kernel_rfl) (fun _ => by kernel_rfl) ?_
        refine s_val (.bool true) (by kernel_rfl) (fun _ => by kernel_rfl) ?_
        refine s_nil ?_
        refine fin_seq ?_
        refine ok_ret ?_
        refine fin_ret (.bool true) Tryz.results14 (by kernel_rfl) ?_
        exact fun w hO => ⟨by unfold St.may; rw [← foreign_any]; simp [h1, h2, h3], hO.below⟩
    | false =>
      refine s_skip (by kernel_rfl) ?_
      refine s_skip (by kernel_rfl) ?_
      refine s_skip (by kernel_rfl) ?_
      refine s_skip (by kernel_rfl) ?_
      refine s_skip (by kernel_rfl) ?_
      refine s_val (.bool false) (by kernel_rfl) (fun _ => by kernel_rfl) ?_
      refine s_val (.bool false) (by kernel_rfl) (fun _ => by kernel_rfl) ?_
      refine s_nil ?_
      refine fin_seq ?_
      refine ok_ret ?_
      refine fin_ret (.bool false) Tryz.results14 (by kernel_rfl) ?_
      exact fun w hO => ⟨by unfold St.may; rw [← foreign_any]; simp [h1, h2], hO.below⟩
  | false =>
    refine s_skip (by kernel_rfl) ?_
    refine s_skip (by kernel_rfl) ?_
    refine s_skip (by kernel_rfl) ?_
    refine s_val (.bool false) (by kernel_rfl) (fun _ => by kernel_rfl) ?_
    refine s_val (.bool false) (by kernel_rfl) (fun _ => by kernel_rfl) ?_
    refine s_skip (by kernel_rfl) ?_
    refine s_skip (by kernel_rfl) ?_
    refine s_skip (by kernel_rfl) ?_
    refine s_skip (by kernel_rfl) ?_
    refine s_skip (by kernel_rfl) ?_
    refine s_val (.bool false) (by kernel_rfl) (fun _ => by kernel_rfl) ?_
    refine s_val (.bool false) (by kernel_rfl) (fun _ => by kernel_rfl) ?_
    refine s_nil ?_
    refine fin_seq ?_
    refine ok_ret ?_
    refine fin_ret (.bool false) Tryz.results14 (by kernel_rfl) ?_
    exact fun w hO => ⟨by unfold St.may; rw [← foreign_any]; simp [h1], hO.below⟩
theorem holds_vmay {s : Sp} {v : Ver} (h : holdsC s v = true) : v.may = true := by
  unfold holdsC aheadC at h
  simp only [Bool.and_eq_true] at h
  exact h.1.2.1.2
theorem has_vmay (l : List Sp) (v : Ver) : rowHas l v = (v.may && rowHas l v) := by
  cases hm : v.may with
  | true => rw [Bool.true_and]
  | false =>
    rw [Bool.false_and]
    unfold rowHas
    rw [show l.any (holdsC · v) = false from by
      rw [List.any_eq_false]
      intro s _ h
      rw [holds_vmay h] at hm; cases hm]
    exact Bool.and_false _
theorem sHas_any (A B : Option Addr) (c d : Nat) (a : St) (v : Ver) (W : World) (hs : SetIn W W.heap.size A B a) (hv : v.short) (ca : a.rel.length ≤ c ∧ a.pre.length ≤ d) : Calls Tryz.prog 16 #[.agg #[.slice A a.rel.length c, .slice B a.pre.length d], verV v] W fun e w' => e = .returned (.bool (setHas a v)) ∧ Below W.heap.size W w' := by
  have hvm : ∀ l, rowHas l v = (v.may && rowHas l v) := fun l => has_vmay l v
  refine calls_ok (n := 19) Tryz.func16 rfl (by kernel_rfl) (by kernel_rfl) ?_
  refine ok_seq ?_
  refine ok_region ?_
  refine s_box (.agg #[.slice A a.rel.length c, .slice B a.pre.length d]) (by kernel_rfl) rfl (by kernel_rfl) (fun b1 => ?_)
  refine s_box (verV v) (by kernel_rfl) rfl (by kernel_rfl) (fun b2 => ?_)
  refine s_val (.bool false) (by kernel_rfl) (fun _ => by kernel_rfl) ?_
  refine s_nil ?_
  refine fin_seq ?_
  refine ok_seq ?_
  refine ok_seq ?_
  refine ok_region ?_
  refine s_load 1 ⟨b1, #[.slice A a.rel.length c, .slice B a.pre.length d], 24⟩ (off := 0) (.agg #[.slice A a.rel.length c, .slice B a.pre.length d]) (by kernel_rfl) rfl (by kernel_rfl) (by kernel_rfl) (by kernel_rfl) ?_
  refine s_call (k := 14) (args := #[.agg #[.slice A a.rel.length c, .slice B a.pre.length d]]) (.bool a.may) (by kernel_rfl) (fun _ => by kernel_rfl) (fun w hO => sMay_any A B c d a w (hs.on hO.below hO.size) ca) ?_
  cases h1 : a.may with
  | true =>
    refine s_val (.bool false) (by kernel_rfl) (fun _ => by kernel_rfl) ?_
    refine s_nil ?_
    refine fin_seq ?_
    refine ok_false (by kernel_rfl) ?_
    refine ok_skip ?_
    refine fin_seq ?_
    refine ok_seq ?_
    refine ok_seq ?_
    refine ok_region ?_
    refine s_val (.pointer (some ⟨b2, 3, none⟩)) (by kernel_rfl) (fun _ => by kernel_rfl) ?_
    refine s_load 0 ⟨b2, (verV v).cells, 26⟩ (off := 3) (.string (mkS v.pre)) (by kernel_rfl) rfl (by kernel_rfl) (by kernel_rfl) (by kernel_rfl) ?_
    by_cases h2 : (v.pre : List UInt8) = []
    · skip
      refine s_val (.bool true) (by kernel_rfl) (run_streql (a := v.pre) (b := ([])) rfl (by kernel_rfl) (by kernel_rfl) (decide_eq_true (h2))) ?_
      refine s_nil ?_
      refine fin_seq ?_
      refine ok_true (by kernel_rfl) ?_
      refine ok_seq ?_
      refine ok_region ?_
      refine s_val (.pointer (some ⟨b1, 0, none⟩)) (by kernel_rfl) (fun _ => by kernel_rfl) ?_
      refine s_load 1 ⟨b1, #[.slice A a.rel.length c, .slice B a.pre.length d], 24⟩ (off := 0) (.slice A a.rel.length c) (by kernel_rfl) rfl (by kernel_rfl) (by kernel_rfl) (by kernel_rfl) ?_
      refine s_load 0 ⟨b2, (verV v).cells, 26⟩ (off := 0) (verV v) (by kernel_rfl) rfl (by kernel_rfl) (by kernel_rfl) (by kernel_rfl) ?_
      refine s_call (k := 55) (args := #[.slice A a.rel.length c, verV v]) (.bool (rowHas a.rel v)) (by kernel_rfl) (fun _ => by kernel_rfl) (fun w hO => has4_any A c a.rel v w (hs.rel.on hO.below hO.size) (Nat.le_trans hs.lr (by decide)) hs.sr hv) ?_
      refine s_val (.bool (rowHas a.rel v)) (by kernel_rfl) (fun _ => by kernel_rfl) ?_
      refine s_nil ?_
      refine fin_seq ?_
      refine ok_ret ?_
      refine fin_seq_ret ?_
      refine fin_ret (.bool (rowHas a.rel v)) Tryz.results16 (by kernel_rfl) ?_
      exact fun w hO => ⟨by first | (unfold setHas; simp [h1, h2]; done) | (rw [hvm]; unfold setHas; simp [h1, h2]), hO.below⟩
    · skip
      refine s_val (.bool false) (by kernel_rfl) (run_streql (a := v.pre) (b := ([])) rfl (by kernel_rfl) (by kernel_rfl) (decide_eq_false (h2))) ?_
      refine s_nil ?_
      refine fin_seq ?_
      refine ok_false (by kernel_rfl) ?_
      refine ok_skip ?_
      refine fin_seq ?_
      refine ok_seq ?_
      refine ok_region ?_
      refine s_val (.pointer (some ⟨b1, 1, none⟩)) (by kernel_rfl) (fun _ => by kernel_rfl) ?_
      refine s_load 1 ⟨b1, #[.slice A a.rel.length c, .slice B a.pre.length d], 24⟩ (off := 1) (.slice B a.pre.length d) (by kernel_rfl) rfl (by kernel_rfl) (by kernel_rfl) (by kernel_rfl) ?_
      refine s_load 0 ⟨b2, (verV v).cells, 26⟩ (off := 0) (verV v) (by kernel_rfl) rfl (by kernel_rfl) (by kernel_rfl) (by kernel_rfl) ?_
      refine s_call (k := 55) (args := #[.slice B a.pre.length d, verV v]) (.bool (rowHas a.pre v)) (by kernel_rfl) (fun _ => by kernel_rfl) (fun w hO => has4_any B d a.pre v w (hs.pre.on hO.below hO.size) (Nat.le_trans hs.lp (by decide)) hs.sp hv) ?_
      refine s_val (.bool (rowHas a.pre v)) (by kernel_rfl) (fun _ => by kernel_rfl) ?_
      refine s_nil ?_
      refine fin_seq ?_
      refine ok_ret ?_
      refine fin_ret (.bool (rowHas a.pre v)) Tryz.results16 (by kernel_rfl) ?_
      exact fun w hO => ⟨by first | (unfold setHas; simp [h1, h2]; done) | (rw [hvm]; unfold setHas; simp [h1, h2]), hO.below⟩
  | false =>
    refine s_val (.bool true) (by kernel_rfl) (fun _ => by kernel_rfl) ?_
    refine s_nil ?_
    refine fin_seq ?_
    refine ok_true (by kernel_rfl) ?_
    refine ok_seq ?_
    refine ok_region ?_
    refine s_val (.bool false) (by kernel_rfl) (fun _ => by kernel_rfl) ?_
    refine s_nil ?_
    refine fin_seq ?_
    refine ok_ret ?_
    refine fin_seq_ret ?_
    refine fin_ret (.bool false) Tryz.results16 (by kernel_rfl) ?_
    exact fun w hO => ⟨by first | (unfold setHas; simp [h1]; done) | (rw [hvm]; unfold setHas; simp [h1]), hO.below⟩
theorem sNone_any (W : World) : Calls Tryz.prog 37 #[] W fun e w' => e = .returned (.agg #[.slice none 0 0, .slice none 0 0]) ∧ Below W.heap.size W w' := by
  refine calls_ok (n := 2) Tryz.func37 rfl (by kernel_rfl) (by kernel_rfl) ?_
  refine ok_seq ?_
  refine ok_region ?_
  refine s_alloc_at (.agg #[.slice none 0 0, .slice none 0 0]) (by kernel_rfl) rfl (by kernel_rfl) (fun b1 => ?_)
  refine s_nil ?_
  refine fin_seq ?_
  refine ok_seq ?_
  refine ok_region ?_
  refine s_val (.agg #[.slice none 0 0, .slice none 0 0]) (by kernel_rfl) (fun _ => by kernel_rfl) ?_
  refine s_store_at 0 ⟨b1, #[.slice none 0 0, .slice none 0 0], 24⟩ (off := 0) (.agg #[.slice none 0 0, .slice none 0 0]) (by kernel_rfl) rfl rfl (by kernel_rfl) (by kernel_rfl) (by kernel_rfl) (by kernel_rfl) (by kernel_rfl) ?_
  refine s_nil ?_
  refine fin_seq ?_
  refine ok_ret ?_
  refine fin_cell 0 ⟨b1, #[.slice none 0 0, .slice none 0 0], 24⟩ (off := 0) (.agg #[.slice none 0 0, .slice none 0 0]) Tryz.results37 (by kernel_rfl) (by kernel_rfl) (by kernel_rfl) ?_
  exact fun w hO => ⟨rfl, hO.below⟩
theorem sSame_any (A B A' B' : Option Addr) (c d c' d' : Nat) (a b : St) (W : World) (hs : SetIn W W.heap.size A B a) (ht : SetIn W W.heap.size A' B' b) (ca : a.rel.length ≤ c ∧ a.pre.length ≤ d) (cb : b.rel.length ≤ c' ∧ b.pre.length ≤ d') : Calls Tryz.prog 33 #[.agg #[.slice A a.rel.length c, .slice B a.pre.length d], .agg #[.slice A' b.rel.length c', .slice B' b.pre.length d']] W fun e w' => e = .returned (.bool (decide (a.rel = b.rel) && decide (a.pre = b.pre))) ∧ Below W.heap.size W w' := by
  refine calls_ok (n := 17) Tryz.func33 rfl (by kernel_rfl) (by kernel_rfl) ?_
  refine ok_seq ?_
  refine ok_region ?_
  refine s_box (.agg #[.slice A a.rel.length c, .slice B a.pre.length d]) (by kernel_rfl) rfl (by kernel_rfl) (fun b1 => ?_)
  refine s_box (.agg #[.slice A' b.rel.length c', .slice B' b.pre.length d']) (by kernel_rfl) rfl (by kernel_rfl) (fun b2 => ?_)
  refine s_val (.bool false) (by kernel_rfl) (fun _ => by kernel_rfl) ?_
  refine s_nil ?_
  refine fin_seq ?_
  refine ok_seq ?_
  refine ok_region ?_
  refine s_val (.pointer (some ⟨b1, 0, none⟩)) (by kernel_rfl) (fun _ => by kernel_rfl) ?_
  refine s_load 1 ⟨b1, #[.slice A a.rel.length c, .slice B a.pre.length d], 24⟩ (off := 0) (.slice A a.rel.length c) (by kernel_rfl) rfl (by kernel_rfl) (by kernel_rfl) (by kernel_rfl) ?_
  refine s_val (.pointer (some ⟨b2, 0, none⟩)) (by kernel_rfl) (fun _ => by kernel_rfl) ?_
  refine s_load 0 ⟨b2, #[.slice A' b.rel.length c', .slice B' b.pre.length d'], 24⟩ (off := 0) (.slice A' b.rel.length c') (by kernel_rfl) rfl (by kernel_rfl) (by kernel_rfl) (by kernel_rfl) ?_
  refine s_call (k := 74) (args := #[.slice A a.rel.length c, .slice A' b.rel.length c']) (.bool (decide (a.rel = b.rel))) (by kernel_rfl) (fun _ => by kernel_rfl) (fun w hO => equal4_any A A' c c' a.rel b.rel w (hs.rel.on hO.below hO.size) (ht.rel.on hO.below hO.size) (Nat.le_trans hs.lr (by decide)) (Nat.le_trans ht.lr (by decide))) ?_
  refine s_val (.bool (decide (a.rel = b.rel))) (by kernel_rfl) (fun _ => by kernel_rfl) ?_
  cases h1 : decide (a.rel = b.rel) with
  | true =>
    refine s_val (.pointer (some ⟨b1, 1, none⟩)) (by kernel_rfl) (fun _ => by kernel_rfl) ?_
    refine s_load 1 ⟨b1, #[.slice A a.rel.length c, .slice B a.pre.length d], 24⟩ (off := 1) (.slice B a.pre.length d) (by kernel_rfl) rfl (by kernel_rfl) (by kernel_rfl) (by kernel_rfl) ?_
    refine s_val (.pointer (some ⟨b2, 1, none⟩)) (by kernel_rfl) (fun _ => by kernel_rfl) ?_
    refine s_load 0 ⟨b2, #[.slice A' b.rel.length c', .slice B' b.pre.length d'], 24⟩ (off := 1) (.slice B' b.pre.length d') (by kernel_rfl) rfl (by kernel_rfl) (by kernel_rfl) (by kernel_rfl) ?_
    refine s_call (k := 74) (args := #[.slice B a.pre.length d, .slice B' b.pre.length d']) (.bool (decide (a.pre = b.pre))) (by kernel_rfl) (fun _ => by kernel_rfl) (fun w hO => equal4_any B B' d d' a.pre b.pre w (hs.pre.on hO.below hO.size) (ht.pre.on hO.below hO.size) (Nat.le_trans hs.lp (by decide)) (Nat.le_trans ht.lp (by decide))) ?_
    refine s_val (.bool (decide (a.pre = b.pre))) (by kernel_rfl) (fun _ => by kernel_rfl) ?_
    refine s_val (.bool (decide (a.pre = b.pre))) (by kernel_rfl) (fun _ => by kernel_rfl) ?_
    refine s_nil ?_
    refine fin_seq ?_
    refine ok_ret ?_
    refine fin_ret (.bool (decide (a.pre = b.pre))) Tryz.results33 (by kernel_rfl) ?_
    exact fun w hO => ⟨by simp [h1], hO.below⟩
  | false =>
    refine s_skip (by kernel_rfl) ?_
    refine s_skip (by kernel_rfl) ?_
    refine s_skip (by kernel_rfl) ?_
    refine s_skip (by kernel_rfl) ?_
    refine s_skip (by kernel_rfl) ?_
    refine s_val (.bool false) (by kernel_rfl) (fun _ => by kernel_rfl) ?_
    refine s_val (.bool false) (by kernel_rfl) (fun _ => by kernel_rfl) ?_
    refine s_nil ?_
    refine fin_seq ?_
    refine ok_ret ?_
    refine fin_ret (.bool false) Tryz.results33 (by kernel_rfl) ?_
    exact fun w hO => ⟨by simp [h1], hO.below⟩
end Go.Proofs.YtgeccfdofmnphaaGreat
end

section
/-
  Package set's Or, And, Not, Minus, All: what they return for sets of at most 100000 spans (Minus: the second of at most 20000) whose strings have at most a million bytes; nothing that was there is changed.
-/
namespace Go.Proofs.YtgeccfdofmnphaaGreat
open Go.RowKit
set_option maxRecDepth 100000
set_option linter.unusedVariables false
set_option linter.unusedSimpArgs false
set_option maxHeartbeats 2000000

theorem not1_any (A B : Option Addr) (cap capb : Nat) (x y : List Sp) (W : World) (hv : Reads spanC W W.heap.size A x) (hu : Reads spanC W W.heap.size B y) (hx : RF x 100000) (hy : RF y 100000) (hca : x.length ≤ cap) (hcb : y.length ≤ capb) : Calls Tryz.prog 69 #[.slice A x.length cap, .slice B y.length capb] W fun e w' => ∃ v' ob', e = .returned v' ∧ SlS v' (notL x) ob' ∧ Own [] W w' ob' := by
  refine calls_ok (n := 7) Tryz.func69 rfl (by kernel_rfl) (by kernel_rfl) ?_
  refine ok_seq ?_
  refine ok_region ?_
  refine s_val (.slice none 0 0) (by kernel_rfl) (fun _ => by kernel_rfl) ?_
  refine s_nil ?_
  refine fin_seq ?_
  refine ok_seq ?_
  refine ok_region ?_
  refine s_val (.slice A x.length cap) (by kernel_rfl) (fun _ => by kernel_rfl) ?_
  refine s_callo (k := 70) (args := #[.slice A x.length cap]) (fun v' L' => ∃ ob', L' = ob' ++ ([]) ∧ SlS v' (notL x) ob') (by kernel_rfl) (fun _ => by kernel_rfl) (fun w hO => (not4_any A cap x w (hv.on hO.below hO.size) (Nat.le_trans hx.len (by decide)) hx.short).mono fun e w' ⟨v', ob', k1, k2, k3⟩ => ⟨v', _, k1, ⟨ob', rfl, by rw [if_pos hx.may] at k2; exact k2⟩, Own.joinN hO k3⟩) (fun v1 L1 hv1 => ?_)
  obtain ⟨o1, rfl, hr1⟩ := hv1
  obtain ⟨V1, c1, rfl⟩ := hr1.form
  refine s_cast (L' := o1) (List.append_nil _) ?_
  refine s_val (.slice V1 ((notL x).length) c1) (by kernel_rfl) (fun _ => by kernel_rfl) ?_
  refine s_nil ?_
  refine fin_seq ?_
  refine ok_ret ?_
  refine fin_ret (.slice V1 ((notL x).length) c1) Tryz.results69 (by kernel_rfl) ?_
  exact fun w hO => ⟨_, o1, rfl, hr1, by simpa using hO⟩
theorem minus1_any (A B : Option Addr) (cap capb : Nat) (x y : List Sp) (W : World) (hv : Reads spanC W W.heap.size A x) (hu : Reads spanC W W.heap.size B y) (hx : RF x 100000) (hy : RF y 20000) (hca : x.length ≤ cap) (hcb : y.length ≤ capb) : Calls Tryz.prog 72 #[.slice A x.length cap, .slice B y.length capb] W fun e w' => ∃ v' ob', e = .returned v' ∧ SlS v' (andL x (notL y)) ob' ∧ Own [] W w' ob' := by
  refine calls_ok (n := 9) Tryz.func72 rfl (by kernel_rfl) (by kernel_rfl) ?_
  refine ok_seq ?_
  refine ok_region ?_
  refine s_val (.slice none 0 0) (by kernel_rfl) (fun _ => by kernel_rfl) ?_
  refine s_nil ?_
  refine fin_seq ?_
  refine ok_seq ?_
  refine ok_region ?_
  refine s_val (.slice A x.length cap) (by kernel_rfl) (fun _ => by kernel_rfl) ?_
  refine s_val (.slice B y.length capb) (by kernel_rfl) (fun _ => by kernel_rfl) ?_
  refine s_callo (k := 70) (args := #[.slice B y.length capb]) (fun v' L' => ∃ ob', L' = ob' ++ ([]) ∧ SlS v' (notL y) ob') (by kernel_rfl) (fun _ => by kernel_rfl) (fun w hO => (not4_any B capb y w (hu.on hO.below hO.size) (Nat.le_trans hy.len (by decide)) hy.short).mono fun e w' ⟨v', ob', k1, k2, k3⟩ => ⟨v', _, k1, ⟨ob', rfl, by rw [if_pos hy.may] at k2; exact k2⟩, Own.joinN hO k3⟩) (fun v1 L1 hv1 => ?_)
  obtain ⟨o1, rfl, hr1⟩ := hv1
  obtain ⟨V1, c1, rfl⟩ := hr1.form
  refine s_cast (L' := o1) (List.append_nil _) ?_
  refine s_callo (k := 67) (args := #[.slice A x.length cap, .slice V1 ((notL y).length) c1]) (fun v' L' => ∃ ob', L' = ob' ++ (o1) ∧ SlS v' (andL x (notL y)) ob') (by kernel_rfl) (fun _ => by kernel_rfl) (fun w hO => (and4_any A V1 cap c1 x (notL y) w (hv.on hO.below hO.size) (Sl.reads hr1 rfl hO (fun x hx => by simp [hx])) hx.len (Nat.le_trans hy.not.len (by decide)) hx.short hy.not.short hca (sls_cap hr1)).mono fun e w' ⟨v', ob', k1, k2, k3⟩ => ⟨v', _, k1, ⟨ob', rfl, by rw [if_pos (by rw [hx.may, hy.not.may]; rfl)] at k2; exact k2⟩, Own.joinN hO k3⟩) (fun v2 L2 hv2 => ?_)
  obtain ⟨o2, rfl, hr2⟩ := hv2
  obtain ⟨V2, c2, rfl⟩ := hr2.form
  refine s_val (.slice V2 ((andL x (notL y)).length) c2) (by kernel_rfl) (fun _ => by kernel_rfl) ?_
  refine s_nil ?_
  refine fin_seq ?_
  refine ok_ret ?_
  refine fin_ret (.slice V2 ((andL x (notL y)).length) c2) Tryz.results72 (by kernel_rfl) ?_
  exact fun w hO => ⟨_, o2, rfl, hr2, hO.sublist (List.sublist_append_left _ _)⟩
theorem combOr_any (A B A' B' : Option Addr) (c d c' d' : Nat) (a b : St) (W : World) (hs : SetIn W W.heap.size A B a) (ht : SetIn W W.heap.size A' B' b) (ca : a.rel.length ≤ c ∧ a.pre.length ≤ d) (cb : b.rel.length ≤ c' ∧ b.pre.length ≤ d') : Calls Tryz.prog 64 #[.agg #[.slice A a.rel.length c, .slice B a.pre.length d], .agg #[.slice A' b.rel.length c', .slice B' b.pre.length d'], .func (.func 65) #[] #[]] W fun e w' => ∃ v' ob', e = .returned v' ∧ SetO v' (if a.may && b.may then orT a b else noneT) ob' ∧ Own [] W w' ob' := by
  refine calls_ok (n := 29) Tryz.func64 rfl (by kernel_rfl) (by kernel_rfl) ?_
  refine ok_seq ?_
  refine ok_region ?_
  refine s_box (.agg #[.slice A a.rel.length c, .slice B a.pre.length d]) (by kernel_rfl) rfl (by kernel_rfl) (fun b1 => ?_)
  refine s_box (.agg #[.slice A' b.rel.length c', .slice B' b.pre.length d']) (by kernel_rfl) rfl (by kernel_rfl) (fun b2 => ?_)
  refine s_alloc_at (.agg #[.slice none 0 0, .slice none 0 0]) (by kernel_rfl) rfl (by kernel_rfl) (fun b3 => ?_)
  refine s_nil ?_
  refine fin_seq ?_
  refine ok_seq ?_
  refine ok_seq ?_
  refine ok_region ?_
  refine s_load 2 ⟨b1, #[.slice A a.rel.length c, .slice B a.pre.length d], 24⟩ (off := 0) (.agg #[.slice A a.rel.length c, .slice B a.pre.length d]) (by kernel_rfl) rfl (by kernel_rfl) (by kernel_rfl) (by kernel_rfl) ?_
  refine s_call (k := 14) (args := #[.agg #[.slice A a.rel.length c, .slice B a.pre.length d]]) (.bool a.may) (by kernel_rfl) (fun _ => by kernel_rfl) (fun w hO => sMay_any A B c d a w (hs.on hO.below hO.size) ca) ?_
  cases h1 : a.may with
  | true =>
    refine s_val (.bool false) (by kernel_rfl) (fun _ => by kernel_rfl) ?_
    refine s_val (.bool false) (by kernel_rfl) (fun _ => by kernel_rfl) ?_
    refine s_load 1 ⟨b2, #[.slice A' b.rel.length c', .slice B' b.pre.length d'], 24⟩ (off := 0) (.agg #[.slice A' b.rel.length c', .slice B' b.pre.length d']) (by kernel_rfl) rfl (by kernel_rfl) (by kernel_rfl) (by kernel_rfl) ?_
    refine s_call (k := 14) (args := #[.agg #[.slice A' b.rel.length c', .slice B' b.pre.length d']]) (.bool b.may) (by kernel_rfl) (fun _ => by kernel_rfl) (fun w hO => sMay_any A' B' c' d' b w (ht.on hO.below hO.size) cb) ?_
    cases h2 : b.may with
    | true =>
      refine s_val (.bool false) (by kernel_rfl) (fun _ => by kernel_rfl) ?_
      refine s_val (.bool false) (by kernel_rfl) (fun _ => by kernel_rfl) ?_
      refine s_nil ?_
      refine fin_seq ?_
      refine ok_false (by kernel_rfl) ?_
      refine ok_skip ?_
      refine fin_seq ?_
      refine ok_seq ?_
      refine ok_anyhL [⟨b2, #[.slice A' b.rel.length c', .slice B' b.pre.length d'], 24⟩, ⟨b1, #[.slice A a.rel.length c, .slice B a.pre.length d], 24⟩] (by kernel_rfl) (fun w hO => Own.sub [⟨b3, #[.slice none 0 0, .slice none 0 0], 24⟩] hO) ?_
      refine h_take 0 [⟨b3, #[.slice none 0 0, .slice none 0 0], 24⟩] _ (.func (.func 65) #[] #[]) rfl (by kernel_rfl) (by kernel_rfl) (by kernel_rfl) (pq_seq pq_body) (by kernel_rfl) (fun _ _ => by kernel_rfl) ?_
      refine h_take 1 [⟨b3, #[.slice none 0 0, .slice none 0 0], 24⟩] _ (.pointer (some ⟨b1, 0, none⟩)) rfl (by kernel_rfl) (by kernel_rfl) (by kernel_rfl) (pq_seq pq_body) (by kernel_rfl) (fun _ _ => by kernel_rfl) ?_
      refine h_load 2 [⟨b3, #[.slice none 0 0, .slice none 0 0], 24⟩] _ 1 ⟨b1, #[.slice A a.rel.length c, .slice B a.pre.length d], 24⟩ (off := 0) (.slice A a.rel.length c) rfl (by kernel_rfl) (by kernel_rfl) (by kernel_rfl) (pq_seq pq_body) (by kernel_rfl) rfl (by kernel_rfl) (by kernel_rfl) (by kernel_rfl) ?_
      refine h_take 3 [⟨b3, #[.slice none 0 0, .slice none 0 0], 24⟩] _ (.pointer (some ⟨b2, 0, none⟩)) rfl (by kernel_rfl) (by kernel_rfl) (by kernel_rfl) (pq_seq pq_body) (by kernel_rfl) (fun _ _ => by kernel_rfl) ?_
      refine h_load 4 [⟨b3, #[.slice none 0 0, .slice none 0 0], 24⟩] _ 0 ⟨b2, #[.slice A' b.rel.length c', .slice B' b.pre.length d'], 24⟩ (off := 0) (.slice A' b.rel.length c') rfl (by kernel_rfl) (by kernel_rfl) (by kernel_rfl) (pq_seq pq_body) (by kernel_rfl) rfl (by kernel_rfl) (by kernel_rfl) (by kernel_rfl) ?_
      refine h_take 6 [⟨b3, #[.slice none 0 0, .slice none 0 0], 24⟩] _ (.func (.func 65) #[] #[]) rfl (by kernel_rfl) (by kernel_rfl) (by kernel_rfl) (pq_seq pq_body) (by kernel_rfl) (fun _ _ => by kernel_rfl) ?_
      refine h_take 7 [⟨b3, #[.slice none 0 0, .slice none 0 0], 24⟩] _ (.pointer (some ⟨b1, 1, none⟩)) rfl (by kernel_rfl) (by kernel_rfl) (by kernel_rfl) (pq_seq pq_body) (by kernel_rfl) (fun _ _ => by kernel_rfl) ?_
      refine h_load 8 [⟨b3, #[.slice none 0 0, .slice none 0 0], 24⟩] _ 1 ⟨b1, #[.slice A a.rel.length c, .slice B a.pre.length d], 24⟩ (off := 1) (.slice B a.pre.length d) rfl (by kernel_rfl) (by kernel_rfl) (by kernel_rfl) (pq_seq pq_body) (by kernel_rfl) rfl (by kernel_rfl) (by kernel_rfl) (by kernel_rfl) ?_
      refine h_take 9 [⟨b3, #[.slice none 0 0, .slice none 0 0], 24⟩] _ (.pointer (some ⟨b2, 1, none⟩)) rfl (by kernel_rfl) (by kernel_rfl) (by kernel_rfl) (pq_seq pq_body) (by kernel_rfl) (fun _ _ => by kernel_rfl) ?_
      refine h_load 10 [⟨b3, #[.slice none 0 0, .slice none 0 0], 24⟩] _ 0 ⟨b2, #[.slice A' b.rel.length c', .slice B' b.pre.length d'], 24⟩ (off := 1) (.slice B' b.pre.length d') rfl (by kernel_rfl) (by kernel_rfl) (by kernel_rfl) (pq_seq pq_body) (by kernel_rfl) rfl (by kernel_rfl) (by kernel_rfl) (by kernel_rfl) ?_
      refine h_one 5 (by kernel_rfl) ?_
      refine hl_callx _ (k := 65) (args := #[.slice A a.rel.length c, .slice A' b.rel.length c']) (fun v' L' => ∃ ob', L' = ob' ++ ([⟨b3, #[.slice none 0 0, .slice none 0 0], 24⟩] ++ ([⟨b2, #[.slice A' b.rel.length c', .slice B' b.pre.length d'], 24⟩, ⟨b1, #[.slice A a.rel.length c, .slice B a.pre.length d], 24⟩])) ∧ SlS v' (orL a.rel b.rel) ob') rfl (by kernel_rfl) (fun _ => by kernel_rfl) (fun w hO => (or4_any A A' c c' a.rel b.rel w (hs.rel.on hO.below hO.size) (ht.rel.on hO.below hO.size) (SF.of h1 hs.lr hs.lp).rel.len (SF.of h2 ht.lr ht.lp).rel.len (SF.of h1 hs.lr hs.lp).rel.short (SF.of h2 ht.lr ht.lp).rel.short).mono fun e w' ⟨v', ob', k1, k2, k3⟩ => ⟨v', _, k1, ⟨ob', rfl, by rw [if_pos (by rw [(SF.of h1 hs.lr hs.lp).rel.may, (SF.of h2 ht.lr ht.lp).rel.may]; rfl)] at k2; exact k2⟩, Own.joinN hO k3⟩) (fun v' L' ⟨ob', e, _⟩ w hO => by subst e; exact Own.sub [⟨b3, #[.slice none 0 0, .slice none 0 0], 24⟩] (Own.sub ob' hO)) (fun v1 L2 hv2 => ?_)
      obtain ⟨o1, rfl, hr1⟩ := hv2
      obtain ⟨V1, c1, rfl⟩ := hr1.form
      refine h_cast (L' := (o1 ++ ([⟨b3, #[.slice none 0 0, .slice none 0 0], 24⟩] : List Blk)) ++ ([⟨b2, #[.slice A' b.rel.length c', .slice B' b.pre.length d'], 24⟩, ⟨b1, #[.slice A a.rel.length c, .slice B a.pre.length d], 24⟩])) (List.append_assoc _ _ _).symm ?_
      refine h_one 11 (by kernel_rfl) ?_
      refine hl_callx _ (k := 65) (args := #[.slice B a.pre.length d, .slice B' b.pre.length d']) (fun v' L' => ∃ ob', L' = ob' ++ ((o1 ++ ([⟨b3, #[.slice none 0 0, .slice none 0 0], 24⟩] : List Blk)) ++ ([⟨b2, #[.slice A' b.rel.length c', .slice B' b.pre.length d'], 24⟩, ⟨b1, #[.slice A a.rel.length c, .slice B a.pre.length d], 24⟩])) ∧ SlS v' (orL a.pre b.pre) ob') rfl (by kernel_rfl) (fun _ => by kernel_rfl) (fun w hO => (or4_any B B' d d' a.pre b.pre w (hs.pre.on hO.below hO.size) (ht.pre.on hO.below hO.size) (SF.of h1 hs.lr hs.lp).pre.len (SF.of h2 ht.lr ht.lp).pre.len (SF.of h1 hs.lr hs.lp).pre.short (SF.of h2 ht.lr ht.lp).pre.short).mono fun e w' ⟨v', ob', k1, k2, k3⟩ => ⟨v', _, k1, ⟨ob', rfl, by rw [if_pos (by rw [(SF.of h1 hs.lr hs.lp).pre.may, (SF.of h2 ht.lr ht.lp).pre.may]; rfl)] at k2; exact k2⟩, Own.joinN hO k3⟩) (fun v' L' ⟨ob', e, _⟩ w hO => by subst e; exact Own.sub (o1 ++ ([⟨b3, #[.slice none 0 0, .slice none 0 0], 24⟩] : List Blk)) (Own.sub ob' hO)) (fun v2 L2 hv2 => ?_)
      obtain ⟨o2, rfl, hr2⟩ := hv2
      obtain ⟨V2, c2, rfl⟩ := hr2.form
      refine h_cast (L' := (o2 ++ (o1 ++ ([⟨b3, #[.slice none 0 0, .slice none 0 0], 24⟩] : List Blk))) ++ ([⟨b2, #[.slice A' b.rel.length c', .slice B' b.pre.length d'], 24⟩, ⟨b1, #[.slice A a.rel.length c, .slice B a.pre.length d], 24⟩])) (List.append_assoc _ _ _).symm ?_
      refine h_take 12 (o2 ++ (o1 ++ ([⟨b3, #[.slice none 0 0, .slice none 0 0], 24⟩] : List Blk))) _ (.agg #[.slice V1 ((orL a.rel b.rel).length) c1, .slice V2 ((orL a.pre b.pre).length) c2]) rfl (by kernel_rfl) (by kernel_rfl) (by kernel_rfl) (pq_seq pq_body) (by kernel_rfl) (fun _ _ => by kernel_rfl) ?_
      refine h_one 13 (by kernel_rfl) ?_
      refine hs_front (E' := (⟨b3, #[.slice none 0 0, .slice none 0 0], 24⟩ :: (o2 ++ (o1 ++ ([] : List Blk))))) (by simpa [List.append_assoc] using (List.perm_middle (a := ⟨b3, #[.slice none 0 0, .slice none 0 0], 24⟩) (l₁ := (o2 ++ (o1 ++ ([] : List Blk)))) (l₂ := []))) ?_
      refine hs_store (⟨b3, #[.slice none 0 0, .slice none 0 0], 24⟩ :: (o2 ++ (o1 ++ ([] : List Blk)))) _ 0 ⟨b3, #[.slice none 0 0, .slice none 0 0], 24⟩ (off := 0) (.agg #[.slice V1 ((orL a.rel b.rel).length) c1, .slice V2 ((orL a.pre b.pre).length) c2]) rfl (by kernel_rfl) rfl rfl (by kernel_rfl) (by kernel_rfl) (by kernel_rfl) (by kernel_rfl) (by kernel_rfl) ?_
      refine h_done (by kernel_rfl) ?_
      refine fin_seq ?_
      refine ok_ret ?_
      refine fin_cell 0 ⟨b3, #[.slice V1 ((orL a.rel b.rel).length) c1, .slice V2 ((orL a.pre b.pre).length) c2], 24⟩ (off := 0) (.agg #[.slice V1 ((orL a.rel b.rel).length) c1, .slice V2 ((orL a.pre b.pre).length) c2]) Tryz.results64 (by kernel_rfl) (by kernel_rfl) (by kernel_rfl) ?_
      exact fun w hO => ⟨_, _, rfl, by rw [if_pos (by simp [h1, h2])]; exact ⟨_, _, o1, o2, rfl, rfl, hr1, hr2⟩, own_mid hO⟩
    | false =>
      refine s_val (.bool true) (by kernel_rfl) (fun _ => by kernel_rfl) ?_
      refine s_val (.bool true) (by kernel_rfl) (fun _ => by kernel_rfl) ?_
      refine s_nil ?_
      refine fin_seq ?_
      refine ok_true (by kernel_rfl) ?_
      refine ok_seq ?_
      refine ok_region ?_
      refine s_call (k := 37) (args := #[]) (.agg #[.slice none 0 0, .slice none 0 0]) (by kernel_rfl) (fun _ => by kernel_rfl) (fun w _ => sNone_any w) ?_
      refine s_store_at 0 ⟨b3, #[.slice none 0 0, .slice none 0 0], 24⟩ (off := 0) (.agg #[.slice none 0 0, .slice none 0 0]) (by kernel_rfl) rfl rfl (by kernel_rfl) (by kernel_rfl) (by kernel_rfl) (by kernel_rfl) (by kernel_rfl) ?_
      refine s_nil ?_
      refine fin_seq ?_
      refine ok_ret ?_
      refine fin_seq_ret ?_
      refine fin_cell 0 ⟨b3, #[.slice none 0 0, .slice none 0 0], 24⟩ (off := 0) (.agg #[.slice none 0 0, .slice none 0 0]) Tryz.results64 (by kernel_rfl) (by kernel_rfl) (by kernel_rfl) ?_
      exact fun w hO => ⟨_, [], rfl, by rw [if_neg (by simp [h1, h2])]; exact SetO.none, own_nil hO⟩
  | false =>
    refine s_val (.bool true) (by kernel_rfl) (fun _ => by kernel_rfl) ?_
    refine s_val (.bool true) (by kernel_rfl) (fun _ => by kernel_rfl) ?_
    refine s_skip (by kernel_rfl) ?_
    refine s_skip (by kernel_rfl) ?_
    refine s_skip (by kernel_rfl) ?_
    refine s_val (.bool true) (by kernel_rfl) (fun _ => by kernel_rfl) ?_
    refine s_nil ?_
    refine fin_seq ?_
    refine ok_true (by kernel_rfl) ?_
    refine ok_seq ?_
    refine ok_region ?_
    refine s_call (k := 37) (args := #[]) (.agg #[.slice none 0 0, .slice none 0 0]) (by kernel_rfl) (fun _ => by kernel_rfl) (fun w _ => sNone_any w) ?_
    refine s_store_at 0 ⟨b3, #[.slice none 0 0, .slice none 0 0], 24⟩ (off := 0) (.agg #[.slice none 0 0, .slice none 0 0]) (by kernel_rfl) rfl rfl (by kernel_rfl) (by kernel_rfl) (by kernel_rfl) (by kernel_rfl) (by kernel_rfl) ?_
    refine s_nil ?_
    refine fin_seq ?_
    refine ok_ret ?_
    refine fin_seq_ret ?_
    refine fin_cell 0 ⟨b3, #[.slice none 0 0, .slice none 0 0], 24⟩ (off := 0) (.agg #[.slice none 0 0, .slice none 0 0]) Tryz.results64 (by kernel_rfl) (by kernel_rfl) (by kernel_rfl) ?_
    exact fun w hO => ⟨_, [], rfl, by rw [if_neg (by simp [h1])]; exact SetO.none, own_nil hO⟩
theorem combAnd_any (A B A' B' : Option Addr) (c d c' d' : Nat) (a b : St) (W : World) (hs : SetIn W W.heap.size A B a) (ht : SetIn W W.heap.size A' B' b) (ca : a.rel.length ≤ c ∧ a.pre.length ≤ d) (cb : b.rel.length ≤ c' ∧ b.pre.length ≤ d') : Calls Tryz.prog 64 #[.agg #[.slice A a.rel.length c, .slice B a.pre.length d], .agg #[.slice A' b.rel.length c', .slice B' b.pre.length d'], .func (.func 67) #[] #[]] W fun e w' => ∃ v' ob', e = .returned v' ∧ SetO v' (if a.may && b.may then andT a b else noneT) ob' ∧ Own [] W w' ob' := by
  refine calls_ok (n := 29) Tryz.func64 rfl (by kernel_rfl) (by kernel_rfl) ?_
  refine ok_seq ?_
  refine ok_region ?_
  refine s_box (.agg #[.slice A a.rel.length c, .slice B a.pre.length d]) (by kernel_rfl) rfl (by kernel_rfl) (fun b1 => ?_)
  refine s_box (.agg #[.slice A' b.rel.length c', .slice B' b.pre.length d']) (by kernel_rfl) rfl (by kernel_rfl) (fun b2 => ?_)
  refine s_alloc_at (.agg #[.slice none 0 0, .slice none 0 0]) (by kernel_rfl) rfl (by kernel_rfl) (fun b3 => ?_)
  refine s_nil ?_
  refine fin_seq ?_
  refine ok_seq ?_
  refine ok_seq ?_
  refine ok_region ?_
  refine s_load 2 ⟨b1, #[.slice A a.rel.length c, .slice B a.pre.length d], 24⟩ (off := 0) (.agg #[.slice A a.rel.length c, .slice B a.pre.length d]) (by kernel_rfl) rfl (by kernel_rfl) (by kernel_rfl) (by kernel_rfl) ?_
  refine s_call (k := 14) (args := #[.agg #[.slice A a.rel.length c, .slice B a.pre.length d]]) (.bool a.may) (by kernel_rfl) (fun _ => by kernel_rfl) (fun w hO => sMay_any A B c d a w (hs.on hO.below hO.size) ca) ?_
  cases h1 : a.may with
  | true =>
    refine s_val (.bool false) (by kernel_rfl) (fun _ => by kernel_rfl) ?_
    refine s_val (.bool false) (by kernel_rfl) (fun _ => by kernel_rfl) ?_
    refine s_load 1 ⟨b2, #[.slice A' b.rel.length c', .slice B' b.pre.length d'], 24⟩ (off := 0) (.agg #[.slice A' b.rel.length c', .slice B' b.pre.length d']) (by kernel_rfl) rfl (by kernel_rfl) (by kernel_rfl) (by kernel_rfl) ?_
    refine s_call (k := 14) (args := #[.agg #[.slice A' b.rel.length c', .slice B' b.pre.length d']]) (.bool b.may) (by kernel_rfl) (fun _ => by kernel_rfl) (fun w hO => sMay_any A' B' c' d' b w (ht.on hO.below hO.size) cb) ?_
    cases h2 : b.may with
    | true =>
      refine s_val (.bool false) (by kernel_rfl) (fun _ => by kernel_rfl) ?_
      refine s_val (.bool false) (by kernel_rfl) (fun _ => by kernel_rfl) ?_
      refine s_nil ?_
      refine fin_seq ?_
      refine ok_false (by kernel_rfl) ?_
      refine ok_skip ?_
      refine fin_seq ?_
      refine ok_seq ?_
      refine ok_anyhL [⟨b2, #[.slice A' b.rel.length c', .slice B' b.pre.length d'], 24⟩, ⟨b1, #[.slice A a.rel.length c, .slice B a.pre.length d], 24⟩] (by kernel_rfl) (fun w hO => Own.sub [⟨b3, #[.slice none 0 0, .slice none 0 0], 24⟩] hO) ?_
      refine h_take 0 [⟨b3, #[.slice none 0 0, .slice none 0 0], 24⟩] _ (.func (.func 67) #[] #[]) rfl (by kernel_rfl) (by kernel_rfl) (by kernel_rfl) (pq_seq pq_body) (by kernel_rfl) (fun _ _ => by kernel_rfl) ?_
      refine h_take 1 [⟨b3, #[.slice none 0 0, .slice none 0 0], 24⟩] _ (.pointer (some ⟨b1, 0, none⟩)) rfl (by kernel_rfl) (by kernel_rfl) (by kernel_rfl) (pq_seq pq_body) (by kernel_rfl) (fun _ _ => by kernel_rfl) ?_
      refine h_load 2 [⟨b3, #[.slice none 0 0, .slice none 0 0], 24⟩] _ 1 ⟨b1, #[.slice A a.rel.length c, .slice B a.pre.length d], 24⟩ (off := 0) (.slice A a.rel.length c) rfl (by kernel_rfl) (by kernel_rfl) (by kernel_rfl) (pq_seq pq_body) (by kernel_rfl) rfl (by kernel_rfl) (by kernel_rfl) (by kernel_rfl) ?_
      refine h_take 3 [⟨b3, #[.slice none 0 0, .slice none 0 0], 24⟩] _ (.pointer (some ⟨b2, 0, none⟩)) rfl (by kernel_rfl) (by kernel_rfl) (by kernel_rfl) (pq_seq pq_body) (by kernel_rfl) (fun _ _ => by kernel_rfl) ?_
      refine h_load 4 [⟨b3, #[.slice none 0 0, .slice none 0 0], 24⟩] _ 0 ⟨b2, #[.slice A' b.rel.length c', .slice B' b.pre.length d'], 24⟩ (off := 0) (.slice A' b.rel.length c') rfl (by kernel_rfl) (by kernel_rfl) (by kernel_rfl) (pq_seq pq_body) (by kernel_rfl) rfl (by kernel_rfl) (by kernel_rfl) (by kernel_rfl) ?_
      refine h_take 6 [⟨b3, #[.slice none 0 0, .slice none 0 0], 24⟩] _ (.func (.func 67) #[] #[]) rfl (by kernel_rfl) (by kernel_rfl) (by kernel_rfl) (pq_seq pq_body) (by kernel_rfl) (fun _ _ => by kernel_rfl) ?_
      refine h_take 7 [⟨b3, #[.slice none 0 0, .slice none 0 0], 24⟩] _ (.pointer (some ⟨b1, 1, none⟩)) rfl (by kernel_rfl) (by kernel_rfl) (by kernel_rfl) (pq_seq pq_body) (by kernel_rfl) (fun _ _ => by kernel_rfl) ?_
      refine h_load 8 [⟨b3, #[.slice none 0 0, .slice none 0 0], 24⟩] _ 1 ⟨b1, #[.slice A a.rel.length c, .slice B a.pre.length d], 24⟩ (off := 1) (.slice B a.pre.length d) rfl (by kernel_rfl) (by kernel_rfl) (by kernel_rfl) (pq_seq pq_body) (by kernel_rfl) rfl (by kernel_rfl) (by kernel_rfl) (by kernel_rfl) ?_
      refine h_take 9 [⟨b3, #[.slice none 0 0, .slice none 0 0], 24⟩] _ (.pointer (some ⟨b2, 1, none⟩)) rfl (by kernel_rfl) (by kernel_rfl) (by kernel_rfl) (pq_seq pq_body) (by kernel_rfl) (fun _ _ => by kernel_rfl) ?_
      refine h_load 10 [⟨b3, #[.slice none 0 0, .slice none 0 0], 24⟩] _ 0 ⟨b2, #[.slice A' b.rel.length c', .slice B' b.pre.length d'], 24⟩ (off := 1) (.slice B' b.pre.length d') rfl (by kernel_rfl) (by kernel_rfl) (by kernel_rfl) (pq_seq pq_body) (by kernel_rfl) rfl (by kernel_rfl) (by kernel_rfl) (by kernel_rfl) ?_
      refine h_one 5 (by kernel_rfl) ?_
      refine hl_callx _ (k := 67) (args := #[.slice A a.rel.length c, .slice A' b.rel.length c']) (fun v' L' => ∃ ob', L' = ob' ++ ([⟨b3, #[.slice none 0 0, .slice none 0 0], 24⟩] ++ ([⟨b2, #[.slice A' b.rel.length c', .slice B' b.pre.length d'], 24⟩, ⟨b1, #[.slice A a.rel.length c, .slice B a.pre.length d], 24⟩])) ∧ SlS v' (andL a.rel b.rel) ob') rfl (by kernel_rfl) (fun _ => by kernel_rfl) (fun w hO => (and4_any A A' c c' a.rel b.rel w (hs.rel.on hO.below hO.size) (ht.rel.on hO.below hO.size) (SF.of h1 hs.lr hs.lp).rel.len (SF.of h2 ht.lr ht.lp).rel.len (SF.of h1 hs.lr hs.lp).rel.short (SF.of h2 ht.lr ht.lp).rel.short ca.1 cb.1).mono fun e w' ⟨v', ob', k1, k2, k3⟩ => ⟨v', _, k1, ⟨ob', rfl, by rw [if_pos (by rw [(SF.of h1 hs.lr hs.lp).rel.may, (SF.of h2 ht.lr ht.lp).rel.may]; rfl)] at k2; exact k2⟩, Own.joinN hO k3⟩) (fun v' L' ⟨ob', e, _⟩ w hO => by subst e; exact Own.sub [⟨b3, #[.slice none 0 0, .slice none 0 0], 24⟩] (Own.sub ob' hO)) (fun v1 L2 hv2 => ?_)
      obtain ⟨o1, rfl, hr1⟩ := hv2
      obtain ⟨V1, c1, rfl⟩ := hr1.form
      refine h_cast (L' := (o1 ++ ([⟨b3, #[.slice none 0 0, .slice none 0 0], 24⟩] : List Blk)) ++ ([⟨b2, #[.slice A' b.rel.length c', .slice B' b.pre.length d'], 24⟩, ⟨b1, #[.slice A a.rel.length c, .slice B a.pre.length d], 24⟩])) (List.append_assoc _ _ _).symm ?_
      refine h_one 11 (by kernel_rfl) ?_
      refine hl_callx _ (k := 67) (args := #[.slice B a.pre.length d, .slice B' b.pre.length d']) (fun v' L' => ∃ ob', L' = ob' ++ ((o1 ++ ([⟨b3, #[.slice none 0 0, .slice none 0 0], 24⟩] : List Blk)) ++ ([⟨b2, #[.slice A' b.rel.length c', .slice B' b.pre.length d'], 24⟩, ⟨b1, #[.slice A a.rel.length c, .slice B a.pre.length d], 24⟩])) ∧ SlS v' (andL a.pre b.pre) ob') rfl (by kernel_rfl) (fun _ => by kernel_rfl) (fun w hO => (and4_any B B' d d' a.pre b.pre w (hs.pre.on hO.below hO.size) (ht.pre.on hO.below hO.size) (SF.of h1 hs.lr hs.lp).pre.len (SF.of h2 ht.lr ht.lp).pre.len (SF.of h1 hs.lr hs.lp).pre.short (SF.of h2 ht.lr ht.lp).pre.short ca.2 cb.2).mono fun e w' ⟨v', ob', k1, k2, k3⟩ => ⟨v', _, k1, ⟨ob', rfl, by rw [if_pos (by rw [(SF.of h1 hs.lr hs.lp).pre.may, (SF.of h2 ht.lr ht.lp).pre.may]; rfl)] at k2; exact k2⟩, Own.joinN hO k3⟩) (fun v' L' ⟨ob', e, _⟩ w hO => by subst e; exact Own.sub (o1 ++ ([⟨b3, #[.slice none 0 0, .slice none 0 0], 24⟩] : List Blk)) (Own.sub ob' hO)) (fun v2 L2 hv2 => ?_)
      obtain ⟨o2, rfl, hr2⟩ := hv2
      obtain ⟨V2, c2, rfl⟩ := hr2.form
      refine h_cast (L' := (o2 ++ (o1 ++ ([⟨b3, #[.slice none 0 0, .slice none 0 0], 24⟩] : List Blk))) ++ ([⟨b2, #[.slice A' b.rel.length c', .slice B' b.pre.length d'], 24⟩, ⟨b1, #[.slice A a.rel.length c, .slice B a.pre.length d], 24⟩])) (List.append_assoc _ _ _).symm ?_
      refine h_take 12 (o2 ++ (o1 ++ ([⟨b3, #[.slice none 0 0, .slice none 0 0], 24⟩] : List Blk))) _ (.agg #[.slice V1 ((andL a.rel b.rel).length) c1, .slice V2 ((andL a.pre b.pre).length) c2]) rfl (by kernel_rfl) (by kernel_rfl) (by kernel_rfl) (pq_seq pq_body) (by kernel_rfl) (fun _ _ => by kernel_rfl) ?_
      refine h_one 13 (by kernel_rfl) ?_
      refine hs_front (E' := (⟨b3, #[.slice none 0 0, .slice none 0 0], 24⟩ :: (o2 ++ (o1 ++ ([] : List Blk))))) (by simpa [List.append_assoc] using (List.perm_middle (a := ⟨b3, #[.slice none 0 0, .slice none 0 0], 24⟩) (l₁ := (o2 ++ (o1 ++ ([] : List Blk)))) (l₂ := []))) ?_
      refine hs_store (⟨b3, #[.slice none 0 0, .slice none 0 0], 24⟩ :: (o2 ++ (o1 ++ ([] : List Blk)))) _ 0 ⟨b3, #[.slice none 0 0, .slice none 0 0], 24⟩ (off := 0) (.agg #[.slice V1 ((andL a.rel b.rel).length) c1, .slice V2 ((andL a.pre b.pre).length) c2]) rfl (by kernel_rfl) rfl rfl (by kernel_rfl) (by kernel_rfl) (by kernel_rfl) (by kernel_rfl) (by kernel_rfl) ?_
      refine h_done (by kernel_rfl) ?_
      refine fin_seq ?_
      refine ok_ret ?_
      refine fin_cell 0 ⟨b3, #[.slice V1 ((andL a.rel b.rel).length) c1, .slice V2 ((andL a.pre b.pre).length) c2], 24⟩ (off := 0) (.agg #[.slice V1 ((andL a.rel b.rel).length) c1, .slice V2 ((andL a.pre b.pre).length) c2]) Tryz.results64 (by kernel_rfl) (by kernel_rfl) (by kernel_rfl) ?_
      exact fun w hO => ⟨_, _, rfl, by rw [if_pos (by simp [h1, h2])]; exact ⟨_, _, o1, o2, rfl, rfl, hr1, hr2⟩, own_mid hO⟩
    | false =>
      refine s_val (.bool true) (by kernel_rfl) (fun _ => by kernel_rfl) ?_
      refine s_val (.bool true) (by kernel_rfl) (fun _ => by kernel_rfl) ?_
      refine s_nil ?_
      refine fin_seq ?_
      refine ok_true (by kernel_rfl) ?_
      refine ok_seq ?_
      refine ok_region ?_
      refine s_call (k := 37) (args := #[]) (.agg #[.slice none 0 0, .slice none 0 0]) (by kernel_rfl) (fun _ => by kernel_rfl) (fun w _ => sNone_any w) ?_
      refine s_store_at 0 ⟨b3, #[.slice none 0 0, .slice none 0 0], 24⟩ (off := 0) (.agg #[.slice none 0 0, .slice none 0 0]) (by kernel_rfl) rfl rfl (by kernel_rfl) (by kernel_rfl) (by kernel_rfl) (by kernel_rfl) (by kernel_rfl) ?_
      refine s_nil ?_
      refine fin_seq ?_
      refine ok_ret ?_
      refine fin_seq_ret ?_
      refine fin_cell 0 ⟨b3, #[.slice none 0 0, .slice none 0 0], 24⟩ (off := 0) (.agg #[.slice none 0 0, .slice none 0 0]) Tryz.results64 (by kernel_rfl) (by kernel_rfl) (by kernel_rfl) ?_
      exact fun w hO => ⟨_, [], rfl, by rw [if_neg (by simp [h1, h2])]; exact SetO.none, own_nil hO⟩
  | false =>
    refine s_val (.bool true) (by kernel_rfl) (fun _ => by kernel_rfl) ?_
    refine s_val (.bool true) (by kernel_rfl) (fun _ => by kernel_rfl) ?_
    refine s_skip (by kernel_rfl) ?_
    refine s_skip (by kernel_rfl) ?_
    refine s_skip (by kernel_rfl) ?_
    refine s_val (.bool true) (by kernel_rfl) (fun _ => by kernel_rfl) ?_
    refine s_nil ?_
    refine fin_seq ?_
    refine ok_true (by kernel_rfl) ?_
    refine ok_seq ?_
    refine ok_region ?_
    refine s_call (k := 37) (args := #[]) (.agg #[.slice none 0 0, .slice none 0 0]) (by kernel_rfl) (fun _ => by kernel_rfl) (fun w _ => sNone_any w) ?_
    refine s_store_at 0 ⟨b3, #[.slice none 0 0, .slice none 0 0], 24⟩ (off := 0) (.agg #[.slice none 0 0, .slice none 0 0]) (by kernel_rfl) rfl rfl (by kernel_rfl) (by kernel_rfl) (by kernel_rfl) (by kernel_rfl) (by kernel_rfl) ?_
    refine s_nil ?_
    refine fin_seq ?_
    refine ok_ret ?_
    refine fin_seq_ret ?_
    refine fin_cell 0 ⟨b3, #[.slice none 0 0, .slice none 0 0], 24⟩ (off := 0) (.agg #[.slice none 0 0, .slice none 0 0]) Tryz.results64 (by kernel_rfl) (by kernel_rfl) (by kernel_rfl) ?_
    exact fun w hO => ⟨_, [], rfl, by rw [if_neg (by simp [h1])]; exact SetO.none, own_nil hO⟩
theorem combNot_any (A B A' B' : Option Addr) (c d c' d' : Nat) (a b : St) (W : World) (hs : SetIn W W.heap.size A B a) (ht : SetIn W W.heap.size A' B' b) (ca : a.rel.length ≤ c ∧ a.pre.length ≤ d) (cb : b.rel.length ≤ c' ∧ b.pre.length ≤ d') : Calls Tryz.prog 64 #[.agg #[.slice A a.rel.length c, .slice B a.pre.length d], .agg #[.slice A' b.rel.length c', .slice B' b.pre.length d'], .func (.func 69) #[] #[]] W fun e w' => ∃ v' ob', e = .returned v' ∧ SetO v' (if a.may && b.may then notT a else noneT) ob' ∧ Own [] W w' ob' := by
  refine calls_ok (n := 29) Tryz.func64 rfl (by kernel_rfl) (by kernel_rfl) ?_
  refine ok_seq ?_
  refine ok_region ?_
  refine s_box (.agg #[.slice A a.rel.length c, .slice B a.pre.length d]) (by kernel_rfl) rfl (by kernel_rfl) (fun b1 => ?_)
  refine s_box (.agg #[.slice A' b.rel.length c', .slice B' b.pre.length d']) (by kernel_rfl) rfl (by kernel_rfl) (fun b2 => ?_)
  refine s_alloc_at (.agg #[.slice none 0 0, .slice none 0 0]) (by kernel_rfl) rfl (by kernel_rfl) (fun b3 => ?_)
  refine s_nil ?_
  refine fin_seq ?_
  refine ok_seq ?_
  refine ok_seq ?_
  refine ok_region ?_
  refine s_load 2 ⟨b1, #[.slice A a.rel.length c, .slice B a.pre.length d], 24⟩ (off := 0) (.agg #[.slice A a.rel.length c, .slice B a.pre.length d]) (by kernel_rfl) rfl (by kernel_rfl) (by kernel_rfl) (by kernel_rfl) ?_
  refine s_call (k := 14) (args := #[.agg #[.slice A a.rel.length c, .slice B a.pre.length d]]) (.bool a.may) (by kernel_rfl) (fun _ => by kernel_rfl) (fun w hO => sMay_any A B c d a w (hs.on hO.below hO.size) ca) ?_
  cases h1 : a.may with
  | true =>
    refine s_val (.bool false) (by kernel_rfl) (fun _ => by kernel_rfl) ?_
    refine s_val (.bool false) (by kernel_rfl) (fun _ => by kernel_rfl) ?_
    refine s_load 1 ⟨b2, #[.slice A' b.rel.length c', .slice B' b.pre.length d'], 24⟩ (off := 0) (.agg #[.slice A' b.rel.length c', .slice B' b.pre.length d']) (by kernel_rfl) rfl (by kernel_rfl) (by kernel_rfl) (by kernel_rfl) ?_
    refine s_call (k := 14) (args := #[.agg #[.slice A' b.rel.length c', .slice B' b.pre.length d']]) (.bool b.may) (by kernel_rfl) (fun _ => by kernel_rfl) (fun w hO => sMay_any A' B' c' d' b w (ht.on hO.below hO.size) cb) ?_
    cases h2 : b.may with
    | true =>
      refine s_val (.bool false) (by kernel_rfl) (fun _ => by kernel_rfl) ?_
      refine s_val (.bool false) (by kernel_rfl) (fun _ => by kernel_rfl) ?_
      refine s_nil ?_
      refine fin_seq ?_
      refine ok_false (by kernel_rfl) ?_
      refine ok_skip ?_
      refine fin_seq ?_
      refine ok_seq ?_
      refine ok_anyhL [⟨b2, #[.slice A' b.rel.length c', .slice B' b.pre.length d'], 24⟩, ⟨b1, #[.slice A a.rel.length c, .slice B a.pre.length d], 24⟩] (by kernel_rfl) (fun w hO => Own.sub [⟨b3, #[.slice none 0 0, .slice none 0 0], 24⟩] hO) ?_
      refine h_take 0 [⟨b3, #[.slice none 0 0, .slice none 0 0], 24⟩] _ (.func (.func 69) #[] #[]) rfl (by kernel_rfl) (by kernel_rfl) (by kernel_rfl) (pq_seq pq_body) (by kernel_rfl) (fun _ _ => by kernel_rfl) ?_
      refine h_take 1 [⟨b3, #[.slice none 0 0, .slice none 0 0], 24⟩] _ (.pointer (some ⟨b1, 0, none⟩)) rfl (by kernel_rfl) (by kernel_rfl) (by kernel_rfl) (pq_seq pq_body) (by kernel_rfl) (fun _ _ => by kernel_rfl) ?_
      refine h_load 2 [⟨b3, #[.slice none 0 0, .slice none 0 0], 24⟩] _ 1 ⟨b1, #[.slice A a.rel.length c, .slice B a.pre.length d], 24⟩ (off := 0) (.slice A a.rel.length c) rfl (by kernel_rfl) (by kernel_rfl) (by kernel_rfl) (pq_seq pq_body) (by kernel_rfl) rfl (by kernel_rfl) (by kernel_rfl) (by kernel_rfl) ?_
      refine h_take 3 [⟨b3, #[.slice none 0 0, .slice none 0 0], 24⟩] _ (.pointer (some ⟨b2, 0, none⟩)) rfl (by kernel_rfl) (by kernel_rfl) (by kernel_rfl) (pq_seq pq_body) (by kernel_rfl) (fun _ _ => by kernel_rfl) ?_
      refine h_load 4 [⟨b3, #[.slice none 0 0, .slice none 0 0], 24⟩] _ 0 ⟨b2, #[.slice A' b.rel.length c', .slice B' b.pre.length d'], 24⟩ (off := 0) (.slice A' b.rel.length c') rfl (by kernel_rfl) (by kernel_rfl) (by kernel_rfl) (pq_seq pq_body) (by kernel_rfl) rfl (by kernel_rfl) (by kernel_rfl) (by kernel_rfl) ?_
      refine h_take 6 [⟨b3, #[.slice none 0 0, .slice none 0 0], 24⟩] _ (.func (.func 69) #[] #[]) rfl (by kernel_rfl) (by kernel_rfl) (by kernel_rfl) (pq_seq pq_body) (by kernel_rfl) (fun _ _ => by kernel_rfl) ?_
      refine h_take 7 [⟨b3, #[.slice none 0 0, .slice none 0 0], 24⟩] _ (.pointer (some ⟨b1, 1, none⟩)) rfl (by kernel_rfl) (by kernel_rfl) (by kernel_rfl) (pq_seq pq_body) (by kernel_rfl) (fun _ _ => by kernel_rfl) ?_
      refine h_load 8 [⟨b3, #[.slice none 0 0, .slice none 0 0], 24⟩] _ 1 ⟨b1, #[.slice A a.rel.length c, .slice B a.pre.length d], 24⟩ (off := 1) (.slice B a.pre.length d) rfl (by kernel_rfl) (by kernel_rfl) (by kernel_rfl) (pq_seq pq_body) (by kernel_rfl) rfl (by kernel_rfl) (by kernel_rfl) (by kernel_rfl) ?_
      refine h_take 9 [⟨b3, #[.slice none 0 0, .slice none 0 0], 24⟩] _ (.pointer (some ⟨b2, 1, none⟩)) rfl (by kernel_rfl) (by kernel_rfl) (by kernel_rfl) (pq_seq pq_body) (by kernel_rfl) (fun _ _ => by kernel_rfl) ?_
      refine h_load 10 [⟨b3, #[.slice none 0 0, .slice none 0 0], 24⟩] _ 0 ⟨b2, #[.slice A' b.rel.length c', .slice B' b.pre.length d'], 24⟩ (off := 1) (.slice B' b.pre.length d') rfl (by kernel_rfl) (by kernel_rfl) (by kernel_rfl) (pq_seq pq_body) (by kernel_rfl) rfl (by kernel_rfl) (by kernel_rfl) (by kernel_rfl) ?_
      refine h_one 5 (by kernel_rfl) ?_
      refine hl_callx _ (k := 69) (args := #[.slice A a.rel.length c, .slice A' b.rel.length c']) (fun v' L' => ∃ ob', L' = ob' ++ ([⟨b3, #[.slice none 0 0, .slice none 0 0], 24⟩] ++ ([⟨b2, #[.slice A' b.rel.length c', .slice B' b.pre.length d'], 24⟩, ⟨b1, #[.slice A a.rel.length c, .slice B a.pre.length d], 24⟩])) ∧ SlS v' (notL a.rel) ob') rfl (by kernel_rfl) (fun _ => by kernel_rfl) (fun w hO => (not1_any A A' c c' a.rel b.rel w (hs.rel.on hO.below hO.size) (ht.rel.on hO.below hO.size) (SF.of h1 hs.lr hs.lp).rel (SF.of h2 ht.lr ht.lp).rel ca.1 cb.1).mono fun e w' ⟨v', ob', k1, k2, k3⟩ => ⟨v', _, k1, ⟨ob', rfl, k2⟩, Own.joinN hO k3⟩) (fun v' L' ⟨ob', e, _⟩ w hO => by subst e; exact Own.sub [⟨b3, #[.slice none 0 0, .slice none 0 0], 24⟩] (Own.sub ob' hO)) (fun v1 L2 hv2 => ?_)
      obtain ⟨o1, rfl, hr1⟩ := hv2
      obtain ⟨V1, c1, rfl⟩ := hr1.form
      refine h_cast (L' := (o1 ++ ([⟨b3, #[.slice none 0 0, .slice none 0 0], 24⟩] : List Blk)) ++ ([⟨b2, #[.slice A' b.rel.length c', .slice B' b.pre.length d'], 24⟩, ⟨b1, #[.slice A a.rel.length c, .slice B a.pre.length d], 24⟩])) (List.append_assoc _ _ _).symm ?_
      refine h_one 11 (by kernel_rfl) ?_
      refine hl_callx _ (k := 69) (args := #[.slice B a.pre.length d, .slice B' b.pre.length d']) (fun v' L' => ∃ ob', L' = ob' ++ ((o1 ++ ([⟨b3, #[.slice none 0 0, .slice none 0 0], 24⟩] : List Blk)) ++ ([⟨b2, #[.slice A' b.rel.length c', .slice B' b.pre.length d'], 24⟩, ⟨b1, #[.slice A a.rel.length c, .slice B a.pre.length d], 24⟩])) ∧ SlS v' (notL a.pre) ob') rfl (by kernel_rfl) (fun _ => by kernel_rfl) (fun w hO => (not1_any B B' d d' a.pre b.pre w (hs.pre.on hO.below hO.size) (ht.pre.on hO.below hO.size) (SF.of h1 hs.lr hs.lp).pre (SF.of h2 ht.lr ht.lp).pre ca.2 cb.2).mono fun e w' ⟨v', ob', k1, k2, k3⟩ => ⟨v', _, k1, ⟨ob', rfl, k2⟩, Own.joinN hO k3⟩) (fun v' L' ⟨ob', e, _⟩ w hO => by subst e; exact Own.sub (o1 ++ ([⟨b3, #[.slice none 0 0, .slice none 0 0], 24⟩] : List Blk)) (Own.sub ob' hO)) (fun v2 L2 hv2 => ?_)
      obtain ⟨o2, rfl, hr2⟩ := hv2
      obtain ⟨V2, c2, rfl⟩ := hr2.form
      refine h_cast (L' := (o2 ++ (o1 ++ ([⟨b3, #[.slice none 0 0, .slice none 0 0], 24⟩] : List Blk))) ++ ([⟨b2, #[.slice A' b.rel.length c', .slice B' b.pre.length d'], 24⟩, ⟨b1, #[.slice A a.rel.length c, .slice B a.pre.length d], 24⟩])) (List.append_assoc _ _ _).symm ?_
      refine h_take 12 (o2 ++ (o1 ++ ([⟨b3, #[.slice none 0 0, .slice none 0 0], 24⟩] : List Blk))) _ (.agg #[.slice V1 ((notL a.rel).length) c1, .slice V2 ((notL a.pre).length) c2]) rfl (by kernel_rfl) (by kernel_rfl) (by kernel_rfl) (pq_seq pq_body) (by kernel_rfl) (fun _ _ => by kernel_rfl) ?_
      refine h_one 13 (by kernel_rfl) ?_
      refine hs_front (E' := (⟨b3, #[.slice none 0 0, .slice none 0 0], 24⟩ :: (o2 ++ (o1 ++ ([] : List Blk))))) (by simpa [List.append_assoc] using (List.perm_middle (a := ⟨b3, #[.slice none 0 0, .slice none 0 0], 24⟩) (l₁ := (o2 ++ (o1 ++ ([] : List Blk)))) (l₂ := []))) ?_
      refine hs_store (⟨b3, #[.slice none 0 0, .slice none 0 0], 24⟩ :: (o2 ++ (o1 ++ ([] : List Blk)))) _ 0 ⟨b3, #[.slice none 0 0, .slice none 0 0], 24⟩ (off := 0) (.agg #[.slice V1 ((notL a.rel).length) c1, .slice V2 ((notL a.pre).length) c2]) rfl (by kernel_rfl) rfl rfl (by kernel_rfl) (by kernel_rfl) (by kernel_rfl) (by kernel_rfl) (by kernel_rfl) ?_
      refine h_done (by kernel_rfl) ?_
      refine fin_seq ?_
      refine ok_ret ?_
      refine fin_cell 0 ⟨b3, #[.slice V1 ((notL a.rel).length) c1, .slice V2 ((notL a.pre).length) c2], 24⟩ (off := 0) (.agg #[.slice V1 ((notL a.rel).length) c1, .slice V2 ((notL a.pre).length) c2]) Tryz.results64 (by kernel_rfl) (by kernel_rfl) (by kernel_rfl) ?_
      exact fun w hO => ⟨_, _, rfl, by rw [if_pos (by simp [h1, h2])]; exact ⟨_, _, o1, o2, rfl, rfl, hr1, hr2⟩, own_mid hO⟩
    | false =>
      refine s_val (.bool true) (by kernel_rfl) (fun _ => by kernel_rfl) ?_
      refine s_val (.bool true) (by kernel_rfl) (fun _ => by kernel_rfl) ?_
      refine s_nil ?_
      refine fin_seq ?_
      refine ok_true (by kernel_rfl) ?_
      refine ok_seq ?_
      refine ok_region ?_
      refine s_call (k := 37) (args := #[]) (.agg #[.slice none 0 0, .slice none 0 0]) (by kernel_rfl) (fun _ => by kernel_rfl) (fun w _ => sNone_any w) ?_
      refine s_store_at 0 ⟨b3, #[.slice none 0 0, .slice none 0 0], 24⟩ (off := 0) (.agg #[.slice none 0 0, .slice none 0 0]) (by kernel_rfl) rfl rfl (by kernel_rfl) (by kernel_rfl) (by kernel_rfl) (by kernel_rfl) (by kernel_rfl) ?_
      refine s_nil ?_
      refine fin_seq ?_
      refine ok_ret ?_
      refine fin_seq_ret ?_
      refine fin_cell 0 ⟨b3, #[.slice none 0 0, .slice none 0 0], 24⟩ (off := 0) (.agg #[.slice none 0 0, .slice none 0 0]) Tryz.results64 (by kernel_rfl) (by kernel_rfl) (by kernel_rfl) ?_
      exact fun w hO => ⟨_, [], rfl, by rw [if_neg (by simp [h1, h2])]; exact SetO.none, own_nil hO⟩
  | false =>
    refine s_val (.bool true) (by kernel_rfl) (fun _ => by kernel_rfl) ?_
    refine s_val (.bool true) (by kernel_rfl) (fun _ => by kernel_rfl) ?_
    refine s_skip (by kernel_rfl) ?_
    refine s_skip (by kernel_rfl) ?_
    refine s_skip (by kernel_rfl) ?_
    refine s_val (.bool true) (by kernel_rfl) (fun _ => by kernel_rfl) ?_
    refine s_nil ?_
    refine fin_seq ?_
    refine ok_true (by kernel_rfl) ?_
    refine ok_seq ?_
    refine ok_region ?_
    refine s_call (k := 37) (args := #[]) (.agg #[.slice none 0 0, .slice none 0 0]) (by kernel_rfl) (fun _ => by kernel_rfl) (fun w _ => sNone_any w) ?_
    refine s_store_at 0 ⟨b3, #[.slice none 0 0, .slice none 0 0], 24⟩ (off := 0) (.agg #[.slice none 0 0, .slice none 0 0]) (by kernel_rfl) rfl rfl (by kernel_rfl) (by kernel_rfl) (by kernel_rfl) (by kernel_rfl) (by kernel_rfl) ?_
    refine s_nil ?_
    refine fin_seq ?_
    refine ok_ret ?_
    refine fin_seq_ret ?_
    refine fin_cell 0 ⟨b3, #[.slice none 0 0, .slice none 0 0], 24⟩ (off := 0) (.agg #[.slice none 0 0, .slice none 0 0]) Tryz.results64 (by kernel_rfl) (by kernel_rfl) (by kernel_rfl) ?_
    exact fun w hO => ⟨_, [], rfl, by rw [if_neg (by simp [h1])]; exact SetO.none, own_nil hO⟩
theorem combMinus_any (A B A' B' : Option Addr) (c d c' d' : Nat) (a b : St) (W : World) (hs : SetIn W W.heap.size A B a) (ht : SetIn W W.heap.size A' B' b) (ca : a.rel.length ≤ c ∧ a.pre.length ≤ d) (cb : b.rel.length ≤ c' ∧ b.pre.length ≤ d') (hr : b.rel.length ≤ 20000) (hp : b.pre.length ≤ 20000) : Calls Tryz.prog 64 #[.agg #[.slice A a.rel.length c, .slice B a.pre.length d], .agg #[.slice A' b.rel.length c', .slice B' b.pre.length d'], .func (.func 72) #[] #[]] W fun e w' => ∃ v' ob', e = .returned v' ∧ SetO v' (if a.may && b.may then minusT a b else noneT) ob' ∧ Own [] W w' ob' := by
  refine calls_ok (n := 29) Tryz.func64 rfl (by kernel_rfl) (by kernel_rfl) ?_
  refine ok_seq ?_
  refine ok_region ?_
  refine s_box (.agg #[.slice A a.rel.length c, .slice B a.pre.length d]) (by kernel_rfl) rfl (by kernel_rfl) (fun b1 => ?_)
  refine s_box (.agg #[.slice A' b.rel.length c', .slice B' b.pre.length d']) (by kernel_rfl) rfl (by kernel_rfl) (fun b2 => ?_)
  refine s_alloc_at (.agg #[.slice none 0 0, .slice none 0 0]) (by kernel_rfl) rfl (by kernel_rfl) (fun b3 => ?_)
  refine s_nil ?_
  refine fin_seq ?_
  refine ok_seq ?_
  refine ok_seq ?_
  refine ok_region ?_
  refine s_load 2 ⟨b1, #[.slice A a.rel.length c, .slice B a.pre.length d], 24⟩ (off := 0) (.agg #[.slice A a.rel.length c, .slice B a.pre.length d]) (by kernel_rfl) rfl (by kernel_rfl) (by kernel_rfl) (by kernel_rfl) ?_
  refine s_call (k := 14) (args := #[.agg #[.slice A a.rel.length c, .slice B a.pre.length d]]) (.bool a.may) (by kernel_rfl) (fun _ => by kernel_rfl) (fun w hO => sMay_any A B c d a w (hs.on hO.below hO.size) ca) ?_
  cases h1 : a.may with
  | true =>
    refine s_val (.bool false) (by kernel_rfl) (fun _ => by kernel_rfl) ?_
    refine s_val (.bool false) (by kernel_rfl) (fun _ => by kernel_rfl) ?_
    refine s_load 1 ⟨b2, #[.slice A' b.rel.length c', .slice B' b.pre.length d'], 24⟩ (off := 0) (.agg #[.slice A' b.rel.length c', .slice B' b.pre.length d']) (by kernel_rfl) rfl (by kernel_rfl) (by kernel_rfl) (by kernel_rfl) ?_
    refine s_call (k := 14) (args := #[.agg #[.slice A' b.rel.length c', .slice B' b.pre.length d']]) (.bool b.may) (by kernel_rfl) (fun _ => by kernel_rfl) (fun w hO => sMay_any A' B' c' d' b w (ht.on hO.below hO.size) cb) ?_
    cases h2 : b.may with
    | true =>
      refine s_val (.bool false) (by kernel_rfl) (fun _ => by kernel_rfl) ?_
      refine s_val (.bool false) (by kernel_rfl) (fun _ => by kernel_rfl) ?_
      refine s_nil ?_
      refine fin_seq ?_
      refine ok_false (by kernel_rfl) ?_
      refine ok_skip ?_
      refine fin_seq ?_
      refine ok_seq ?_
      refine ok_anyhL [⟨b2, #[.slice A' b.rel.length c', .slice B' b.pre.length d'], 24⟩, ⟨b1, #[.slice A a.rel.length c, .slice B a.pre.length d], 24⟩] (by kernel_rfl) (fun w hO => Own.sub [⟨b3, #[.slice none 0 0, .slice none 0 0], 24⟩] hO) ?_
      refine h_take 0 [⟨b3, #[.slice none 0 0, .slice none 0 0], 24⟩] _ (.func (.func 72) #[] #[]) rfl (by kernel_rfl) (by kernel_rfl) (by kernel_rfl) (pq_seq pq_body) (by kernel_rfl) (fun _ _ => by kernel_rfl) ?_
      refine h_take 1 [⟨b3, #[.slice none 0 0, .slice none 0 0], 24⟩] _ (.pointer (some ⟨b1, 0, none⟩)) rfl (by kernel_rfl) (by kernel_rfl) (by kernel_rfl) (pq_seq pq_body) (by kernel_rfl) (fun _ _ => by kernel_rfl) ?_
      refine h_load 2 [⟨b3, #[.slice none 0 0, .slice none 0 0], 24⟩] _ 1 ⟨b1, #[.slice A a.rel.length c, .slice B a.pre.length d], 24⟩ (off := 0) (.slice A a.rel.length c) rfl (by kernel_rfl) (by kernel_rfl) (by kernel_rfl) (pq_seq pq_body) (by kernel_rfl) rfl (by kernel_rfl) (by kernel_rfl) (by kernel_rfl) ?_
      refine h_take 3 [⟨b3, #[.slice none 0 0, .slice none 0 0], 24⟩] _ (.pointer (some ⟨b2, 0, none⟩)) rfl (by kernel_rfl) (by kernel_rfl) (by kernel_rfl) (pq_seq pq_body) (by kernel_rfl) (fun _ _ => by kernel_rfl) ?_
      refine h_load 4 [⟨b3, #[.slice none 0 0, .slice none 0 0], 24⟩] _ 0 ⟨b2, #[.slice A' b.rel.length c', .slice B' b.pre.length d'], 24⟩ (off := 0) (.slice A' b.rel.length c') rfl (by kernel_rfl) (by kernel_rfl) (by kernel_rfl) (pq_seq pq_body) (by kernel_rfl) rfl (by kernel_rfl) (by kernel_rfl) (by kernel_rfl) ?_
      refine h_take 6 [⟨b3, #[.slice none 0 0, .slice none 0 0], 24⟩] _ (.func (.func 72) #[] #[]) rfl (by kernel_rfl) (by kernel_rfl) (by kernel_rfl) (pq_seq pq_body) (by kernel_rfl) (fun _ _ => by kernel_rfl) ?_
      refine h_take 7 [⟨b3, #[.slice none 0 0, .slice none 0 0], 24⟩] _ (.pointer (some ⟨b1, 1, none⟩)) rfl (by kernel_rfl) (by kernel_rfl) (by kernel_rfl) (pq_seq pq_body) (by kernel_rfl) (fun _ _ => by kernel_rfl) ?_
      refine h_load 8 [⟨b3, #[.slice none 0 0, .slice none 0 0], 24⟩] _ 1 ⟨b1, #[.slice A a.rel.length c, .slice B a.pre.length d], 24⟩ (off := 1) (.slice B a.pre.length d) rfl (by kernel_rfl) (by kernel_rfl) (by kernel_rfl) (pq_seq pq_body) (by kernel_rfl) rfl (by kernel_rfl) (by kernel_rfl) (by kernel_rfl) ?_
      refine h_take 9 [⟨b3, #[.slice none 0 0, .slice none 0 0], 24⟩] _ (.pointer (some ⟨b2, 1, none⟩)) rfl (by kernel_rfl) (by kernel_rfl) (by kernel_rfl) (pq_seq pq_body) (by kernel_rfl) (fun _ _ => by kernel_rfl) ?_
      refine h_load 10 [⟨b3, #[.slice none 0 0, .slice none 0 0], 24⟩] _ 0 ⟨b2, #[.slice A' b.rel.length c', .slice B' b.pre.length d'], 24⟩ (off := 1) (.slice B' b.pre.length d') rfl (by kernel_rfl) (by kernel_rfl) (by kernel_rfl) (pq_seq pq_body) (by kernel_rfl) rfl (by kernel_rfl) (by kernel_rfl) (by kernel_rfl) ?_
      refine h_one 5 (by kernel_rfl) ?_
      refine hl_callx _ (k := 72) (args := #[.slice A a.rel.length c, .slice A' b.rel.length c']) (fun v' L' => ∃ ob', L' = ob' ++ ([⟨b3, #[.slice none 0 0, .slice none 0 0], 24⟩] ++ ([⟨b2, #[.slice A' b.rel.length c', .slice B' b.pre.length d'], 24⟩, ⟨b1, #[.slice A a.rel.length c, .slice B a.pre.length d], 24⟩])) ∧ SlS v' (andL a.rel (notL b.rel)) ob') rfl (by kernel_rfl) (fun _ => by kernel_rfl) (fun w hO => (minus1_any A A' c c' a.rel b.rel w (hs.rel.on hO.below hO.size) (ht.rel.on hO.below hO.size) (SF.of h1 hs.lr hs.lp).rel (SF.of h2 hr hp).rel ca.1 cb.1).mono fun e w' ⟨v', ob', k1, k2, k3⟩ => ⟨v', _, k1, ⟨ob', rfl, k2⟩, Own.joinN hO k3⟩) (fun v' L' ⟨ob', e, _⟩ w hO => by subst e; exact Own.sub [⟨b3, #[.slice none 0 0, .slice none 0 0], 24⟩] (Own.sub ob' hO)) (fun v1 L2 hv2 => ?_)
      obtain ⟨o1, rfl, hr1⟩ := hv2
      obtain ⟨V1, c1, rfl⟩ := hr1.form
      refine h_cast (L' := (o1 ++ ([⟨b3, #[.slice none 0 0, .slice none 0 0], 24⟩] : List Blk)) ++ ([⟨b2, #[.slice A' b.rel.length c', .slice B' b.pre.length d'], 24⟩, ⟨b1, #[.slice A a.rel.length c, .slice B a.pre.length d], 24⟩])) (List.append_assoc _ _ _).symm ?_
      refine h_one 11 (by kernel_rfl) ?_
      refine hl_callx _ (k := 72) (args := #[.slice B a.pre.length d, .slice B' b.pre.length d']) (fun v' L' => ∃ ob', L' = ob' ++ ((o1 ++ ([⟨b3, #[.slice none 0 0, .slice none 0 0], 24⟩] : List Blk)) ++ ([⟨b2, #[.slice A' b.rel.length c', .slice B' b.pre.length d'], 24⟩, ⟨b1, #[.slice A a.rel.length c, .slice B a.pre.length d], 24⟩])) ∧ SlS v' (andL a.pre (notL b.pre)) ob') rfl (by kernel_rfl) (fun _ => by kernel_rfl) (fun w hO => (minus1_any B B' d d' a.pre b.pre w (hs.pre.on hO.below hO.size) (ht.pre.on hO.below hO.size) (SF.of h1 hs.lr hs.lp).pre (SF.of h2 hr hp).pre ca.2 cb.2).mono fun e w' ⟨v', ob', k1, k2, k3⟩ => ⟨v', _, k1, ⟨ob', rfl, k2⟩, Own.joinN hO k3⟩) (fun v' L' ⟨ob', e, _⟩ w hO => by subst e; exact Own.sub (o1 ++ ([⟨b3, #[.slice none 0 0, .slice none 0 0], 24⟩] : List Blk)) (Own.sub ob' hO)) (fun v2 L2 hv2 => ?_)
      obtain ⟨o2, rfl, hr2⟩ := hv2
      obtain ⟨V2, c2, rfl⟩ := hr2.form
      refine h_cast (L' := (o2 ++ (o1 ++ ([⟨b3, #[.slice none 0 0, .slice none 0 0], 24⟩] : List Blk))) ++ ([⟨b2, #[.slice A' b.rel.length c', .slice B' b.pre.length d'], 24⟩, ⟨b1, #[.slice A a.rel.length c, .slice B a.pre.length d], 24⟩])) (List.append_assoc _ _ _).symm ?_
      refine h_take 12 (o2 ++ (o1 ++ ([⟨b3, #[.slice none 0 0, .slice none 0 0], 24⟩] : List Blk))) _ (.agg #[.slice V1 ((andL a.rel (notL b.rel)).length) c1, .slice V2 ((andL a.pre (notL b.pre)).length) c2]) rfl (by kernel_rfl) (by kernel_rfl) (by kernel_rfl) (pq_seq pq_body) (by kernel_rfl) (fun _ _ => by kernel_rfl) ?_
      refine h_one 13 (by kernel_rfl) ?_
      refine hs_front (E' := (⟨b3, #[.slice none 0 0, .slice none 0 0], 24⟩ :: (o2 ++ (o1 ++ ([] : List Blk))))) (by simpa [List.append_assoc] using (List.perm_middle (a := ⟨b3, #[.slice none 0 0, .slice none 0 0], 24⟩) (l₁ := (o2 ++ (o1 ++ ([] : List Blk)))) (l₂ := []))) ?_
      refine hs_store (⟨b3, #[.slice none 0 0, .slice none 0 0], 24⟩ :: (o2 ++ (o1 ++ ([] : List Blk)))) _ 0 ⟨b3, #[.slice none 0 0, .slice none 0 0], 24⟩ (off := 0) (.agg #[.slice V1 ((andL a.rel (notL b.rel)).length) c1, .slice V2 ((andL a.pre (notL b.pre)).length) c2]) rfl (by kernel_rfl) rfl rfl (by kernel_rfl) (by kernel_rfl) (by kernel_rfl) (by kernel_rfl) (by kernel_rfl) ?_
      refine h_done (by kernel_rfl) ?_
      refine fin_seq ?_
      refine ok_ret ?_
      refine fin_cell 0 ⟨b3, #[.slice V1 ((andL a.rel (notL b.rel)).length) c1, .slice V2 ((andL a.pre (notL b.pre)).length) c2], 24⟩ (off := 0) (.agg #[.slice V1 ((andL a.rel (notL b.rel)).length) c1, .slice V2 ((andL a.pre (notL b.pre)).length) c2]) Tryz.results64 (by kernel_rfl) (by kernel_rfl) (by kernel_rfl) ?_
      exact fun w hO => ⟨_, _, rfl, by rw [if_pos (by simp [h1, h2])]; exact ⟨_, _, o1, o2, rfl, rfl, hr1, hr2⟩, own_mid hO⟩
    | false =>
      refine s_val (.bool true) (by kernel_rfl) (fun _ => by kernel_rfl) ?_
      refine s_val (.bool true) (by kernel_rfl) (fun _ => by kernel_rfl) ?_
      refine s_nil ?_
      refine fin_seq ?_
      refine ok_true (by kernel_rfl) ?_
      refine ok_seq ?_
      refine ok_region ?_
      refine s_call (k := 37) (args := #[]) (.agg #[.slice none 0 0, .slice none 0 0]) (by kernel_rfl) (fun _ => by kernel_rfl) (fun w _ => sNone_any w) ?_
      refine s_store_at 0 ⟨b3, #[.slice none 0 0, .slice none 0 0], 24⟩ (off := 0) (.agg #[.slice none 0 0, .slice none 0 0]) (by kernel_rfl) rfl rfl (by kernel_rfl) (by kernel_rfl) (by kernel_rfl) (by kernel_rfl) (by kernel_rfl) ?_
      refine s_nil ?_
      refine fin_seq ?_
      refine ok_ret ?_
      refine fin_seq_ret ?_
      refine fin_cell 0 ⟨b3, #[.slice none 0 0, .slice none 0 0], 24⟩ (off := 0) (.agg #[.slice none 0 0, .slice none 0 0]) Tryz.results64 (by kernel_rfl) (by kernel_rfl) (by kernel_rfl) ?_
      exact fun w hO => ⟨_, [], rfl, by rw [if_neg (by simp [h1, h2])]; exact SetO.none, own_nil hO⟩
  | false =>
    refine s_val (.bool true) (by kernel_rfl) (fun _ => by kernel_rfl) ?_
    refine s_val (.bool true) (by kernel_rfl) (fun _ => by kernel_rfl) ?_
    refine s_skip (by kernel_rfl) ?_
    refine s_skip (by kernel_rfl) ?_
    refine s_skip (by kernel_rfl) ?_
    refine s_val (.bool true) (by kernel_rfl) (fun _ => by kernel_rfl) ?_
    refine s_nil ?_
    refine fin_seq ?_
    refine ok_true (by kernel_rfl) ?_
    refine ok_seq ?_
    refine ok_region ?_
    refine s_call (k := 37) (args := #[]) (.agg #[.slice none 0 0, .slice none 0 0]) (by kernel_rfl) (fun _ => by kernel_rfl) (fun w _ => sNone_any w) ?_
    refine s_store_at 0 ⟨b3, #[.slice none 0 0, .slice none 0 0], 24⟩ (off := 0) (.agg #[.slice none 0 0, .slice none 0 0]) (by kernel_rfl) rfl rfl (by kernel_rfl) (by kernel_rfl) (by kernel_rfl) (by kernel_rfl) (by kernel_rfl) ?_
    refine s_nil ?_
    refine fin_seq ?_
    refine ok_ret ?_
    refine fin_seq_ret ?_
    refine fin_cell 0 ⟨b3, #[.slice none 0 0, .slice none 0 0], 24⟩ (off := 0) (.agg #[.slice none 0 0, .slice none 0 0]) Tryz.results64 (by kernel_rfl) (by kernel_rfl) (by kernel_rfl) ?_
    exact fun w hO => ⟨_, [], rfl, by rw [if_neg (by simp [h1])]; exact SetO.none, own_nil hO⟩
end Go.Proofs.YtgeccfdofmnphaaGreat
end

section
/-
  Package set's Or, And, Not, Minus, All, Within, Apart: what they return for sets of at most 100000 spans (Minus, Apart: 20000) whose strings have at most a million bytes; nothing that was there is changed.
-/
namespace Go.Proofs.YtgeccfdofmnphaaGreat
open Go.RowKit
set_option maxRecDepth 100000
set_option linter.unusedVariables false
set_option linter.unusedSimpArgs false
set_option maxHeartbeats 2000000

theorem own_front {M : List Nat} {W w : World} {x : Blk} {A L : List Blk} (h : Own M W w (A ++ (x :: L))) : Own M W w (x :: A) :=
  (h.sublist ((List.Sublist.refl A).append (List.Sublist.cons_cons x (List.nil_sublist L)))).perm (List.perm_append_comm (l₁ := A) (l₂ := [x]))
theorem own_tl {M : List Nat} {W w : World} {x : Blk} {A : List Blk} (h : Own M W w (x :: A)) : Own M W w A := h.sublist (List.sublist_cons_self x A)
theorem SetO.reads {A B : Option Addr} {c d n m : Nat} {a : St} {ob L : List Blk} {M : List Nat} {W w : World} (h : SetO (.agg #[.slice A a.rel.length c, .slice B a.pre.length d]) a ob) (hO : Own M W w L) (hob : ∀ x ∈ ob, x ∈ L) : Reads spanC w w.heap.size A a.rel ∧ Reads spanC w w.heap.size B a.pre := by
  obtain ⟨v1, v2, o1, o2, e, rfl, h1, h2⟩ := h
  obtain ⟨rfl, rfl⟩ := agg_two e
  exact ⟨Sl.reads h1 rfl hO (fun x hx => hob x (by simp [hx])), Sl.reads h2 rfl hO (fun x hx => hob x (by simp [hx]))⟩
theorem notT_none : notT noneT = allT := St.eq not_nil not_nil
theorem and_len5 {a b : List Sp} (ha : rowMay a = true) (hb : rowMay b = true) (h1 : a.length ≤ 100000) (h2 : b.length ≤ 100000) : (andL a b).length ≤ 1000000 := by
  rw [← andG_eq ha hb]; exact Nat.le_trans (andG_len (by omega)) (by decide)
theorem sOr_any (A B A' B' : Option Addr) (c d c' d' : Nat) (a b : St) (W : World) (hs : SetIn W W.heap.size A B a) (ht : SetIn W W.heap.size A' B' b) (ca : a.rel.length ≤ c ∧ a.pre.length ≤ d) (cb : b.rel.length ≤ c' ∧ b.pre.length ≤ d') : Calls Tryz.prog 21 #[.agg #[.slice A a.rel.length c, .slice B a.pre.length d], .agg #[.slice A' b.rel.length c', .slice B' b.pre.length d']] W fun e w' => ∃ v' ob', e = .returned v' ∧ SetO v' (if a.may && b.may then orT a b else noneT) ob' ∧ Own [] W w' ob' := by
  refine calls_ok (n := 8) Tryz.func21 rfl (by kernel_rfl) (by kernel_rfl) ?_
  refine ok_seq ?_
  refine ok_region ?_
  refine s_box (.agg #[.slice A a.rel.length c, .slice B a.pre.length d]) (by kernel_rfl) rfl (by kernel_rfl) (fun b1 => ?_)
  refine s_box (.agg #[.slice A' b.rel.length c', .slice B' b.pre.length d']) (by kernel_rfl) rfl (by kernel_rfl) (fun b2 => ?_)
  refine s_alloc_at (.agg #[.slice none 0 0, .slice none 0 0]) (by kernel_rfl) rfl (by kernel_rfl) (fun b3 => ?_)
  refine s_nil ?_
  refine fin_seq ?_
  refine ok_seq ?_
  refine ok_region ?_
  refine s_load 2 ⟨b1, #[.slice A a.rel.length c, .slice B a.pre.length d], 24⟩ (off := 0) (.agg #[.slice A a.rel.length c, .slice B a.pre.length d]) (by kernel_rfl) rfl (by kernel_rfl) (by kernel_rfl) (by kernel_rfl) ?_
  refine s_load 1 ⟨b2, #[.slice A' b.rel.length c', .slice B' b.pre.length d'], 24⟩ (off := 0) (.agg #[.slice A' b.rel.length c', .slice B' b.pre.length d']) (by kernel_rfl) rfl (by kernel_rfl) (by kernel_rfl) (by kernel_rfl) ?_
  refine s_callo (k := 64) (args := #[.agg #[.slice A a.rel.length c, .slice B a.pre.length d], .agg #[.slice A' b.rel.length c', .slice B' b.pre.length d'], .func (.func 65) #[] #[]]) (fun v' L' => ∃ ob', L' = ob' ++ ([⟨b3, #[.slice none 0 0, .slice none 0 0], 24⟩, ⟨b2, #[.slice A' b.rel.length c', .slice B' b.pre.length d'], 24⟩, ⟨b1, #[.slice A a.rel.length c, .slice B a.pre.length d], 24⟩]) ∧ SetO v' (if a.may && b.may then orT a b else noneT) ob') (by kernel_rfl) (fun _ => by kernel_rfl) (fun w hO => (combOr_any A B A' B' c d c' d' a b w (hs.on hO.below hO.size) (ht.on hO.below hO.size) ca cb).mono fun e w' ⟨v', ob', k1, k2, k3⟩ => ⟨v', _, k1, ⟨ob', rfl, k2⟩, Own.joinN hO k3⟩) (fun v1 L1 hv1 => ?_)
  obtain ⟨o1, rfl, hr1⟩ := hv1
  obtain ⟨V1, U1, c1, d1, rfl⟩ := hr1.form
  refine s_take (L' := ⟨b3, #[.slice none 0 0, .slice none 0 0], 24⟩ :: o1) (fun w hO => own_front hO) ?_
  refine s_store_at 0 ⟨b3, #[.slice none 0 0, .slice none 0 0], 24⟩ (off := 0) (.agg #[.slice V1 (((if a.may && b.may then orT a b else noneT)).rel.length) c1, .slice U1 (((if a.may && b.may then orT a b else noneT)).pre.length) d1]) (by kernel_rfl) rfl rfl (by kernel_rfl) (by kernel_rfl) (by kernel_rfl) (by kernel_rfl) (by kernel_rfl) ?_
  refine s_nil ?_
  refine fin_seq ?_
  refine ok_ret ?_
  refine fin_cell 0 ⟨b3, #[.slice V1 (((if a.may && b.may then orT a b else noneT)).rel.length) c1, .slice U1 (((if a.may && b.may then orT a b else noneT)).pre.length) d1], 24⟩ (off := 0) (.agg #[.slice V1 (((if a.may && b.may then orT a b else noneT)).rel.length) c1, .slice U1 (((if a.may && b.may then orT a b else noneT)).pre.length) d1]) Tryz.results21 (by kernel_rfl) (by kernel_rfl) (by kernel_rfl) ?_
  exact fun w hO => ⟨_, o1, rfl, hr1, own_tl hO⟩
theorem sAnd_any (A B A' B' : Option Addr) (c d c' d' : Nat) (a b : St) (W : World) (hs : SetIn W W.heap.size A B a) (ht : SetIn W W.heap.size A' B' b) (ca : a.rel.length ≤ c ∧ a.pre.length ≤ d) (cb : b.rel.length ≤ c' ∧ b.pre.length ≤ d') : Calls Tryz.prog 23 #[.agg #[.slice A a.rel.length c, .slice B a.pre.length d], .agg #[.slice A' b.rel.length c', .slice B' b.pre.length d']] W fun e w' => ∃ v' ob', e = .returned v' ∧ SetO v' (if a.may && b.may then andT a b else noneT) ob' ∧ Own [] W w' ob' := by
  refine calls_ok (n := 8) Tryz.func23 rfl (by kernel_rfl) (by kernel_rfl) ?_
  refine ok_seq ?_
  refine ok_region ?_
  refine s_box (.agg #[.slice A a.rel.length c, .slice B a.pre.length d]) (by kernel_rfl) rfl (by kernel_rfl) (fun b1 => ?_)
  refine s_box (.agg #[.slice A' b.rel.length c', .slice B' b.pre.length d']) (by kernel_rfl) rfl (by kernel_rfl) (fun b2 => ?_)
  refine s_alloc_at (.agg #[.slice none 0 0, .slice none 0 0]) (by kernel_rfl) rfl (by kernel_rfl) (fun b3 => ?_)
  refine s_nil ?_
  refine fin_seq ?_
  refine ok_seq ?_
  refine ok_region ?_
  refine s_load 2 ⟨b1, #[.slice A a.rel.length c, .slice B a.pre.length d], 24⟩ (off := 0) (.agg #[.slice A a.rel.length c, .slice B a.pre.length d]) (by kernel_rfl) rfl (by kernel_rfl) (by kernel_rfl) (by kernel_rfl) ?_
  refine s_load 1 ⟨b2, #[.slice A' b.rel.length c', .slice B' b.pre.length d'], 24⟩ (off := 0) (.agg #[.slice A' b.rel.length c', .slice B' b.pre.length d']) (by kernel_rfl) rfl (by kernel_rfl) (by kernel_rfl) (by kernel_rfl) ?_
  refine s_callo (k := 64) (args := #[.agg #[.slice A a.rel.length c, .slice B a.pre.length d], .agg #[.slice A' b.rel.length c', .slice B' b.pre.length d'], .func (.func 67) #[] #[]]) (fun v' L' => ∃ ob', L' = ob' ++ ([⟨b3, #[.slice none 0 0, .slice none 0 0], 24⟩, ⟨b2, #[.slice A' b.rel.length c', .slice B' b.pre.length d'], 24⟩, ⟨b1, #[.slice A a.rel.length c, .slice B a.pre.length d], 24⟩]) ∧ SetO v' (if a.may && b.may then andT a b else noneT) ob') (by kernel_rfl) (fun _ => by kernel_rfl) (fun w hO => (combAnd_any A B A' B' c d c' d' a b w (hs.on hO.below hO.size) (ht.on hO.below hO.size) ca cb).mono fun e w' ⟨v', ob', k1, k2, k3⟩ => ⟨v', _, k1, ⟨ob', rfl, k2⟩, Own.joinN hO k3⟩) (fun v1 L1 hv1 => ?_)
  obtain ⟨o1, rfl, hr1⟩ := hv1
  obtain ⟨V1, U1, c1, d1, rfl⟩ := hr1.form
  refine s_take (L' := ⟨b3, #[.slice none 0 0, .slice none 0 0], 24⟩ :: o1) (fun w hO => own_front hO) ?_
  refine s_store_at 0 ⟨b3, #[.slice none 0 0, .slice none 0 0], 24⟩ (off := 0) (.agg #[.slice V1 (((if a.may && b.may then andT a b else noneT)).rel.length) c1, .slice U1 (((if a.may && b.may then andT a b else noneT)).pre.length) d1]) (by kernel_rfl) rfl rfl (by kernel_rfl) (by kernel_rfl) (by kernel_rfl) (by kernel_rfl) (by kernel_rfl) ?_
  refine s_nil ?_
  refine fin_seq ?_
  refine ok_ret ?_
  refine fin_cell 0 ⟨b3, #[.slice V1 (((if a.may && b.may then andT a b else noneT)).rel.length) c1, .slice U1 (((if a.may && b.may then andT a b else noneT)).pre.length) d1], 24⟩ (off := 0) (.agg #[.slice V1 (((if a.may && b.may then andT a b else noneT)).rel.length) c1, .slice U1 (((if a.may && b.may then andT a b else noneT)).pre.length) d1]) Tryz.results23 (by kernel_rfl) (by kernel_rfl) (by kernel_rfl) ?_
  exact fun w hO => ⟨_, o1, rfl, hr1, own_tl hO⟩
theorem sMinus_any (A B A' B' : Option Addr) (c d c' d' : Nat) (a b : St) (W : World) (hs : SetIn W W.heap.size A B a) (ht : SetIn W W.heap.size A' B' b) (ca : a.rel.length ≤ c ∧ a.pre.length ≤ d) (cb : b.rel.length ≤ c' ∧ b.pre.length ≤ d') (hr : b.rel.length ≤ 20000) (hp : b.pre.length ≤ 20000) : Calls Tryz.prog 27 #[.agg #[.slice A a.rel.length c, .slice B a.pre.length d], .agg #[.slice A' b.rel.length c', .slice B' b.pre.length d']] W fun e w' => ∃ v' ob', e = .returned v' ∧ SetO v' (if a.may && b.may then minusT a b else noneT) ob' ∧ Own [] W w' ob' := by
  refine calls_ok (n := 8) Tryz.func27 rfl (by kernel_rfl) (by kernel_rfl) ?_
  refine ok_seq ?_
  refine ok_region ?_
  refine s_box (.agg #[.slice A a.rel.length c, .slice B a.pre.length d]) (by kernel_rfl) rfl (by kernel_rfl) (fun b1 => ?_)
  refine s_box (.agg #[.slice A' b.rel.length c', .slice B' b.pre.length d']) (by kernel_rfl) rfl (by kernel_rfl) (fun b2 => ?_)
  refine s_alloc_at (.agg #[.slice none 0 0, .slice none 0 0]) (by kernel_rfl) rfl (by kernel_rfl) (fun b3 => ?_)
  refine s_nil ?_
  refine fin_seq ?_
  refine ok_seq ?_
  refine ok_region ?_
  refine s_load 2 ⟨b1, #[.slice A a.rel.length c, .slice B a.pre.length d], 24⟩ (off := 0) (.agg #[.slice A a.rel.length c, .slice B a.pre.length d]) (by kernel_rfl) rfl (by kernel_rfl) (by kernel_rfl) (by kernel_rfl) ?_
  refine s_load 1 ⟨b2, #[.slice A' b.rel.length c', .slice B' b.pre.length d'], 24⟩ (off := 0) (.agg #[.slice A' b.rel.length c', .slice B' b.pre.length d']) (by kernel_rfl) rfl (by kernel_rfl) (by kernel_rfl) (by kernel_rfl) ?_
  refine s_callo (k := 64) (args := #[.agg #[.slice A a.rel.length c, .slice B a.pre.length d], .agg #[.slice A' b.rel.length c', .slice B' b.pre.length d'], .func (.func 72) #[] #[]]) (fun v' L' => ∃ ob', L' = ob' ++ ([⟨b3, #[.slice none 0 0, .slice none 0 0], 24⟩, ⟨b2, #[.slice A' b.rel.length c', .slice B' b.pre.length d'], 24⟩, ⟨b1, #[.slice A a.rel.length c, .slice B a.pre.length d], 24⟩]) ∧ SetO v' (if a.may && b.may then minusT a b else noneT) ob') (by kernel_rfl) (fun _ => by kernel_rfl) (fun w hO => (combMinus_any A B A' B' c d c' d' a b w (hs.on hO.below hO.size) (ht.on hO.below hO.size) ca cb hr hp).mono fun e w' ⟨v', ob', k1, k2, k3⟩ => ⟨v', _, k1, ⟨ob', rfl, k2⟩, Own.joinN hO k3⟩) (fun v1 L1 hv1 => ?_)
  obtain ⟨o1, rfl, hr1⟩ := hv1
  obtain ⟨V1, U1, c1, d1, rfl⟩ := hr1.form
  refine s_take (L' := ⟨b3, #[.slice none 0 0, .slice none 0 0], 24⟩ :: o1) (fun w hO => own_front hO) ?_
  refine s_store_at 0 ⟨b3, #[.slice none 0 0, .slice none 0 0], 24⟩ (off := 0) (.agg #[.slice V1 (((if a.may && b.may then minusT a b else noneT)).rel.length) c1, .slice U1 (((if a.may && b.may then minusT a b else noneT)).pre.length) d1]) (by kernel_rfl) rfl rfl (by kernel_rfl) (by kernel_rfl) (by kernel_rfl) (by kernel_rfl) (by kernel_rfl) ?_
  refine s_nil ?_
  refine fin_seq ?_
  refine ok_ret ?_
  refine fin_cell 0 ⟨b3, #[.slice V1 (((if a.may && b.may then minusT a b else noneT)).rel.length) c1, .slice U1 (((if a.may && b.may then minusT a b else noneT)).pre.length) d1], 24⟩ (off := 0) (.agg #[.slice V1 (((if a.may && b.may then minusT a b else noneT)).rel.length) c1, .slice U1 (((if a.may && b.may then minusT a b else noneT)).pre.length) d1]) Tryz.results27 (by kernel_rfl) (by kernel_rfl) (by kernel_rfl) ?_
  exact fun w hO => ⟨_, o1, rfl, hr1, own_tl hO⟩
theorem sNot_any (A B : Option Addr) (c d : Nat) (a : St) (W : World) (hs : SetIn W W.heap.size A B a) (ca : a.rel.length ≤ c ∧ a.pre.length ≤ d) : Calls Tryz.prog 25 #[.agg #[.slice A a.rel.length c, .slice B a.pre.length d]] W fun e w' => ∃ v' ob', e = .returned v' ∧ SetO v' (if a.may then notT a else noneT) ob' ∧ Own [] W w' ob' := by
  refine calls_ok (n := 6) Tryz.func25 rfl (by kernel_rfl) (by kernel_rfl) ?_
  refine ok_seq ?_
  refine ok_region ?_
  refine s_box (.agg #[.slice A a.rel.length c, .slice B a.pre.length d]) (by kernel_rfl) rfl (by kernel_rfl) (fun b1 => ?_)
  refine s_alloc_at (.agg #[.slice none 0 0, .slice none 0 0]) (by kernel_rfl) rfl (by kernel_rfl) (fun b2 => ?_)
  refine s_nil ?_
  refine fin_seq ?_
  refine ok_seq ?_
  refine ok_region ?_
  refine s_load 1 ⟨b1, #[.slice A a.rel.length c, .slice B a.pre.length d], 24⟩ (off := 0) (.agg #[.slice A a.rel.length c, .slice B a.pre.length d]) (by kernel_rfl) rfl (by kernel_rfl) (by kernel_rfl) (by kernel_rfl) ?_
  refine s_load 1 ⟨b1, #[.slice A a.rel.length c, .slice B a.pre.length d], 24⟩ (off := 0) (.agg #[.slice A a.rel.length c, .slice B a.pre.length d]) (by kernel_rfl) rfl (by kernel_rfl) (by kernel_rfl) (by kernel_rfl) ?_
  refine s_callo (k := 64) (args := #[.agg #[.slice A a.rel.length c, .slice B a.pre.length d], .agg #[.slice A a.rel.length c, .slice B a.pre.length d], .func (.func 69) #[] #[]]) (fun v' L' => ∃ ob', L' = ob' ++ ([⟨b2, #[.slice none 0 0, .slice none 0 0], 24⟩, ⟨b1, #[.slice A a.rel.length c, .slice B a.pre.length d], 24⟩]) ∧ SetO v' (if a.may then notT a else noneT) ob') (by kernel_rfl) (fun _ => by kernel_rfl) (fun w hO => (combNot_any A B A B c d c d a a w (hs.on hO.below hO.size) (hs.on hO.below hO.size) ca ca).mono fun e w' ⟨v', ob', k1, k2, k3⟩ => ⟨v', _, k1, ⟨ob', rfl, by rw [Bool.and_self] at k2; exact k2⟩, Own.joinN hO k3⟩) (fun v1 L1 hv1 => ?_)
  obtain ⟨o1, rfl, hr1⟩ := hv1
  obtain ⟨V1, U1, c1, d1, rfl⟩ := hr1.form
  refine s_take (L' := ⟨b2, #[.slice none 0 0, .slice none 0 0], 24⟩ :: o1) (fun w hO => own_front hO) ?_
  refine s_store_at 0 ⟨b2, #[.slice none 0 0, .slice none 0 0], 24⟩ (off := 0) (.agg #[.slice V1 (((if a.may then notT a else noneT)).rel.length) c1, .slice U1 (((if a.may then notT a else noneT)).pre.length) d1]) (by kernel_rfl) rfl rfl (by kernel_rfl) (by kernel_rfl) (by kernel_rfl) (by kernel_rfl) (by kernel_rfl) ?_
  refine s_nil ?_
  refine fin_seq ?_
  refine ok_ret ?_
  refine fin_cell 0 ⟨b2, #[.slice V1 (((if a.may then notT a else noneT)).rel.length) c1, .slice U1 (((if a.may then notT a else noneT)).pre.length) d1], 24⟩ (off := 0) (.agg #[.slice V1 (((if a.may then notT a else noneT)).rel.length) c1, .slice U1 (((if a.may then notT a else noneT)).pre.length) d1]) Tryz.results25 (by kernel_rfl) (by kernel_rfl) (by kernel_rfl) ?_
  exact fun w hO => ⟨_, o1, rfl, hr1, own_tl hO⟩
theorem sAll_any (W : World) : Calls Tryz.prog 36 #[] W fun e w' => ∃ v' ob', e = .returned v' ∧ SetO v' (allT) ob' ∧ Own [] W w' ob' := by
  refine calls_ok (n := 3) Tryz.func36 rfl (by kernel_rfl) (by kernel_rfl) ?_
  refine ok_seq ?_
  refine ok_region ?_
  refine s_alloc_at (.agg #[.slice none 0 0, .slice none 0 0]) (by kernel_rfl) rfl (by kernel_rfl) (fun b1 => ?_)
  refine s_nil ?_
  refine fin_seq ?_
  refine ok_seq ?_
  refine ok_region ?_
  refine s_call (k := 37) (args := #[]) (.agg #[.slice none 0 0, .slice none 0 0]) (by kernel_rfl) (fun _ => by kernel_rfl) (fun w _ => sNone_any w) ?_
  refine s_callo (k := 25) (args := #[.agg #[.slice none 0 0, .slice none 0 0]]) (fun v' L' => ∃ ob', L' = ob' ++ ([⟨b1, #[.slice none 0 0, .slice none 0 0], 24⟩]) ∧ SetO v' (allT) ob') (by kernel_rfl) (fun _ => by kernel_rfl) (fun w hO => (sNot_any none none 0 0 noneT w (none_in _ _) ⟨Nat.le_refl 0, Nat.le_refl 0⟩).mono fun e w' ⟨v', ob', k1, k2, k3⟩ => ⟨v', _, k1, ⟨ob', rfl, by rw [if_pos none_sf.may, notT_none] at k2; exact k2⟩, Own.joinN hO k3⟩) (fun v1 L1 hv1 => ?_)
  obtain ⟨o1, rfl, hr1⟩ := hv1
  obtain ⟨V1, U1, c1, d1, rfl⟩ := hr1.form
  refine s_take (L' := ⟨b1, #[.slice none 0 0, .slice none 0 0], 24⟩ :: o1) (fun w hO => own_front hO) ?_
  refine s_store_at 0 ⟨b1, #[.slice none 0 0, .slice none 0 0], 24⟩ (off := 0) (.agg #[.slice V1 ((allT).rel.length) c1, .slice U1 ((allT).pre.length) d1]) (by kernel_rfl) rfl rfl (by kernel_rfl) (by kernel_rfl) (by kernel_rfl) (by kernel_rfl) (by kernel_rfl) ?_
  refine s_nil ?_
  refine fin_seq ?_
  refine ok_ret ?_
  refine fin_cell 0 ⟨b1, #[.slice V1 ((allT).rel.length) c1, .slice U1 ((allT).pre.length) d1], 24⟩ (off := 0) (.agg #[.slice V1 ((allT).rel.length) c1, .slice U1 ((allT).pre.length) d1]) Tryz.results36 (by kernel_rfl) (by kernel_rfl) (by kernel_rfl) ?_
  exact fun w hO => ⟨_, o1, rfl, hr1, own_tl hO⟩
theorem sSameR_any (A B A' B' : Option Addr) (c d c' d' : Nat) (a b : St) (W : World) (h1 : Reads spanC W W.heap.size A a.rel) (h2 : Reads spanC W W.heap.size B a.pre) (k1 : Reads spanC W W.heap.size A' b.rel) (k2 : Reads spanC W W.heap.size B' b.pre) (l1 : a.rel.length ≤ 1000000) (l2 : a.pre.length ≤ 1000000) (m1 : b.rel.length ≤ 1000000) (m2 : b.pre.length ≤ 1000000) : Calls Tryz.prog 33 #[.agg #[.slice A a.rel.length c, .slice B a.pre.length d], .agg #[.slice A' b.rel.length c', .slice B' b.pre.length d']] W fun e w' => e = .returned (.bool (decide (a.rel = b.rel) && decide (a.pre = b.pre))) ∧ Below W.heap.size W w' := by
  refine calls_ok (n := 17) Tryz.func33 rfl (by kernel_rfl) (by kernel_rfl) ?_
  refine ok_seq ?_
  refine ok_region ?_
  refine s_box (.agg #[.slice A a.rel.length c, .slice B a.pre.length d]) (by kernel_rfl) rfl (by kernel_rfl) (fun b1 => ?_)
  refine s_box (.agg #[.slice A' b.rel.length c', .slice B' b.pre.length d']) (by kernel_rfl) rfl (by kernel_rfl) (fun b2 => ?_)
  refine s_val (.bool false) (by kernel_rfl) (fun _ => by kernel_rfl) ?_
  refine s_nil ?_
  refine fin_seq ?_
  refine ok_seq ?_
  refine ok_region ?_
  refine s_val (.pointer (some ⟨b1, 0, none⟩)) (by kernel_rfl) (fun _ => by kernel_rfl) ?_
  refine s_load 1 ⟨b1, #[.slice A a.rel.length c, .slice B a.pre.length d], 24⟩ (off := 0) (.slice A a.rel.length c) (by kernel_rfl) rfl (by kernel_rfl) (by kernel_rfl) (by kernel_rfl) ?_
  refine s_val (.pointer (some ⟨b2, 0, none⟩)) (by kernel_rfl) (fun _ => by kernel_rfl) ?_
  refine s_load 0 ⟨b2, #[.slice A' b.rel.length c', .slice B' b.pre.length d'], 24⟩ (off := 0) (.slice A' b.rel.length c') (by kernel_rfl) rfl (by kernel_rfl) (by kernel_rfl) (by kernel_rfl) ?_
  refine s_call (k := 74) (args := #[.slice A a.rel.length c, .slice A' b.rel.length c']) (.bool (decide (a.rel = b.rel))) (by kernel_rfl) (fun _ => by kernel_rfl) (fun w hO => equal4_any A A' c c' a.rel b.rel w (h1.on hO.below hO.size) (k1.on hO.below hO.size) l1 m1) ?_
  refine s_val (.bool (decide (a.rel = b.rel))) (by kernel_rfl) (fun _ => by kernel_rfl) ?_
  cases h1 : decide (a.rel = b.rel) with
  | true =>
    refine s_val (.pointer (some ⟨b1, 1, none⟩)) (by kernel_rfl) (fun _ => by kernel_rfl) ?_
    refine s_load 1 ⟨b1, #[.slice A a.rel.length c, .slice B a.pre.length d], 24⟩ (off := 1) (.slice B a.pre.length d) (by kernel_rfl) rfl (by kernel_rfl) (by kernel_rfl) (by kernel_rfl) ?_
    refine s_val (.pointer (some ⟨b2, 1, none⟩)) (by kernel_rfl) (fun _ => by kernel_rfl) ?_
    refine s_load 0 ⟨b2, #[.slice A' b.rel.length c', .slice B' b.pre.length d'], 24⟩ (off := 1) (.slice B' b.pre.length d') (by kernel_rfl) rfl (by kernel_rfl) (by kernel_rfl) (by kernel_rfl) ?_
    refine s_call (k := 74) (args := #[.slice B a.pre.length d, .slice B' b.pre.length d']) (.bool (decide (a.pre = b.pre))) (by kernel_rfl) (fun _ => by kernel_rfl) (fun w hO => equal4_any B B' d d' a.pre b.pre w (h2.on hO.below hO.size) (k2.on hO.below hO.size) l2 m2) ?_
    refine s_val (.bool (decide (a.pre = b.pre))) (by kernel_rfl) (fun _ => by kernel_rfl) ?_
    refine s_val (.bool (decide (a.pre = b.pre))) (by kernel_rfl) (fun _ => by kernel_rfl) ?_
    refine s_nil ?_
    refine fin_seq ?_
    refine ok_ret ?_
    refine fin_ret (.bool (decide (a.pre = b.pre))) Tryz.results33 (by kernel_rfl) ?_
    exact fun w hO => ⟨by simp [h1], hO.below⟩
  | false =>
    refine s_skip (by kernel_rfl) ?_
    refine s_skip (by kernel_rfl) ?_
    refine s_skip (by kernel_rfl) ?_
    refine s_skip (by kernel_rfl) ?_
    refine s_skip (by kernel_rfl) ?_
    refine s_val (.bool false) (by kernel_rfl) (fun _ => by kernel_rfl) ?_
    refine s_val (.bool false) (by kernel_rfl) (fun _ => by kernel_rfl) ?_
    refine s_nil ?_
    refine fin_seq ?_
    refine ok_ret ?_
    refine fin_ret (.bool false) Tryz.results33 (by kernel_rfl) ?_
    exact fun w hO => ⟨by simp [h1], hO.below⟩
theorem sWithin_any (A B A' B' : Option Addr) (c d c' d' : Nat) (a b : St) (W : World) (hs : SetIn W W.heap.size A B a) (ht : SetIn W W.heap.size A' B' b) (ca : a.rel.length ≤ c ∧ a.pre.length ≤ d) (cb : b.rel.length ≤ c' ∧ b.pre.length ≤ d') : Calls Tryz.prog 29 #[.agg #[.slice A a.rel.length c, .slice B a.pre.length d], .agg #[.slice A' b.rel.length c', .slice B' b.pre.length d']] W fun e w' => e = .returned (.bool (a.may && b.may && decide (andL a.rel b.rel = a.rel) && decide (andL a.pre b.pre = a.pre))) ∧ Below W.heap.size W w' := by
  refine calls_ok (n := 18) Tryz.func29 rfl (by kernel_rfl) (by kernel_rfl) ?_
  refine ok_seq ?_
  refine ok_region ?_
  refine s_box (.agg #[.slice A a.rel.length c, .slice B a.pre.length d]) (by kernel_rfl) rfl (by kernel_rfl) (fun b1 => ?_)
  refine s_box (.agg #[.slice A' b.rel.length c', .slice B' b.pre.length d']) (by kernel_rfl) rfl (by kernel_rfl) (fun b2 => ?_)
  refine s_val (.bool false) (by kernel_rfl) (fun _ => by kernel_rfl) ?_
  refine s_nil ?_
  refine fin_seq ?_
  refine ok_seq ?_
  refine ok_anyh (by kernel_rfl) ?_
  refine h_load 0 [] _ 1 ⟨b1, #[.slice A a.rel.length c, .slice B a.pre.length d], 24⟩ (off := 0) (.agg #[.slice A a.rel.length c, .slice B a.pre.length d]) rfl (by kernel_rfl) (by kernel_rfl) (by kernel_rfl) (pq_seq pq_body) (by kernel_rfl) rfl (by kernel_rfl) (by kernel_rfl) (by kernel_rfl) ?_
  refine h_one 1 (by kernel_rfl) ?_
  refine hs_call [] _ (k := 14) (args := #[.agg #[.slice A a.rel.length c, .slice B a.pre.length d]]) (.bool a.may) rfl (by kernel_rfl) (fun _ => by kernel_rfl) (fun w hO => sMay_any A B c d a w (hs.on hO.below hO.size) ca) ?_
  refine h_take 2 [] _ (.bool a.may) rfl (by kernel_rfl) (by kernel_rfl) (by kernel_rfl) (pq_seq pq_body) (by kernel_rfl) (fun _ _ => by kernel_rfl) ?_
  cases h1 : a.may with
  | true =>
    refine h_load 3 [] _ 0 ⟨b2, #[.slice A' b.rel.length c', .slice B' b.pre.length d'], 24⟩ (off := 0) (.agg #[.slice A' b.rel.length c', .slice B' b.pre.length d']) rfl (by kernel_rfl) (by kernel_rfl) (by kernel_rfl) (pq_seq pq_body) (by kernel_rfl) rfl (by kernel_rfl) (by kernel_rfl) (by kernel_rfl) ?_
    refine h_one 4 (by kernel_rfl) ?_
    refine hs_call [] _ (k := 14) (args := #[.agg #[.slice A' b.rel.length c', .slice B' b.pre.length d']]) (.bool b.may) rfl (by kernel_rfl) (fun _ => by kernel_rfl) (fun w hO => sMay_any A' B' c' d' b w (ht.on hO.below hO.size) cb) ?_
    refine h_take 5 [] _ (.bool b.may) rfl (by kernel_rfl) (by kernel_rfl) (by kernel_rfl) (pq_seq pq_body) (by kernel_rfl) (fun _ _ => by kernel_rfl) ?_
    refine h_take 6 [] _ (.bool b.may) rfl (by kernel_rfl) (by kernel_rfl) (by kernel_rfl) (pq_seq pq_body) (by kernel_rfl) (fun _ _ => by kernel_rfl) ?_
    cases h2 : b.may with
    | true =>
      refine h_load 7 [] _ 1 ⟨b1, #[.slice A a.rel.length c, .slice B a.pre.length d], 24⟩ (off := 0) (.agg #[.slice A a.rel.length c, .slice B a.pre.length d]) rfl (by kernel_rfl) (by kernel_rfl) (by kernel_rfl) (pq_seq pq_body) (by kernel_rfl) rfl (by kernel_rfl) (by kernel_rfl) (by kernel_rfl) ?_
      refine h_load 8 [] _ 0 ⟨b2, #[.slice A' b.rel.length c', .slice B' b.pre.length d'], 24⟩ (off := 0) (.agg #[.slice A' b.rel.length c', .slice B' b.pre.length d']) rfl (by kernel_rfl) (by kernel_rfl) (by kernel_rfl) (pq_seq pq_body) (by kernel_rfl) rfl (by kernel_rfl) (by kernel_rfl) (by kernel_rfl) ?_
      refine h_load 10 [] _ 1 ⟨b1, #[.slice A a.rel.length c, .slice B a.pre.length d], 24⟩ (off := 0) (.agg #[.slice A a.rel.length c, .slice B a.pre.length d]) rfl (by kernel_rfl) (by kernel_rfl) (by kernel_rfl) (pq_seq pq_body) (by kernel_rfl) rfl (by kernel_rfl) (by kernel_rfl) (by kernel_rfl) ?_
      refine h_one 9 (by kernel_rfl) ?_
      refine hl_callx _ (k := 23) (args := #[.agg #[.slice A a.rel.length c, .slice B a.pre.length d], .agg #[.slice A' b.rel.length c', .slice B' b.pre.length d']]) (fun v' L' => ∃ ob', L' = ob' ++ ([] ++ ([⟨b2, #[.slice A' b.rel.length c', .slice B' b.pre.length d'], 24⟩, ⟨b1, #[.slice A a.rel.length c, .slice B a.pre.length d], 24⟩])) ∧ SetO v' (andT a b) ob') rfl (by kernel_rfl) (fun _ => by kernel_rfl) (fun w hO => (sAnd_any A B A' B' c d c' d' a b w (hs.on hO.below hO.size) (ht.on hO.below hO.size) ca cb).mono fun e w' ⟨v', ob', k1, k2, k3⟩ => ⟨v', _, k1, ⟨ob', rfl, by rw [if_pos (by simp [h1, h2])] at k2; exact k2⟩, Own.joinN hO k3⟩) (fun v' L' ⟨ob', e, _⟩ w hO => by subst e; exact Own.sub [] (Own.sub ob' hO)) (fun v1 L2 hv2 => ?_)
      obtain ⟨o1, rfl, hr1⟩ := hv2
      obtain ⟨V1, U1, c1, d1, rfl⟩ := hr1.form
      refine h_cast (L' := (o1 ++ ([] : List Blk)) ++ ([⟨b2, #[.slice A' b.rel.length c', .slice B' b.pre.length d'], 24⟩, ⟨b1, #[.slice A a.rel.length c, .slice B a.pre.length d], 24⟩])) (List.append_assoc _ _ _).symm ?_
      refine h_one 11 (by kernel_rfl) ?_
      refine hs_call (o1 ++ ([] : List Blk)) _ (k := 33) (args := #[.agg #[.slice V1 ((andT a b).rel.length) c1, .slice U1 ((andT a b).pre.length) d1], .agg #[.slice A a.rel.length c, .slice B a.pre.length d]]) (.bool (decide ((andT a b).rel = a.rel) && decide ((andT a b).pre = a.pre))) rfl (by kernel_rfl) (fun _ => by kernel_rfl) (fun w hO => sSameR_any V1 U1 A B c1 d1 c d (andT a b) a w (SetO.reads (n := 0) (m := 0) hr1 hO (fun x hx => by simp [hx])).1 (SetO.reads (n := 0) (m := 0) hr1 hO (fun x hx => by simp [hx])).2 (hs.rel.on hO.below hO.size) (hs.pre.on hO.below hO.size) (and_len5 (St.facts h1).1 (St.facts h2).1 hs.lr ht.lr) (and_len5 (St.facts h1).2.1 (St.facts h2).2.1 hs.lp ht.lp) (Nat.le_trans hs.lr (by decide)) (Nat.le_trans hs.lp (by decide))) ?_
      refine h_take 12 (o1 ++ ([] : List Blk)) _ (.bool (decide ((andT a b).rel = a.rel) && decide ((andT a b).pre = a.pre))) rfl (by kernel_rfl) (by kernel_rfl) (by kernel_rfl) (pq_seq pq_body) (by kernel_rfl) (fun _ _ => by kernel_rfl) ?_
      refine h_take 13 (o1 ++ ([] : List Blk)) _ (.bool (decide ((andT a b).rel = a.rel) && decide ((andT a b).pre = a.pre))) rfl (by kernel_rfl) (by kernel_rfl) (by kernel_rfl) (pq_seq pq_body) (by kernel_rfl) (fun _ _ => by kernel_rfl) ?_
      refine h_drop (o1 ++ ([] : List Blk)) ?_
      refine h_done (by kernel_rfl) ?_
      refine fin_seq ?_
      refine ok_ret ?_
      refine fin_ret (.bool (decide ((andT a b).rel = a.rel) && decide ((andT a b).pre = a.pre))) Tryz.results29 (by kernel_rfl) ?_
      exact fun w hO => ⟨by first | (simp [h1, h2, Bool.and_assoc]; done) | rfl, hO.below⟩
    | false =>
      refine h_skip 7 [] _ rfl (by kernel_rfl) (by kernel_rfl) (by kernel_rfl) (pq_seq pq_body) (by kernel_rfl) ?_
      refine h_skip 8 [] _ rfl (by kernel_rfl) (by kernel_rfl) (by kernel_rfl) (pq_seq pq_body) (by kernel_rfl) ?_
      refine h_skip 9 [] _ rfl (by kernel_rfl) (by kernel_rfl) (by kernel_rfl) (pq_seq pq_body) (by kernel_rfl) ?_
      refine h_skip 10 [] _ rfl (by kernel_rfl) (by kernel_rfl) (by kernel_rfl) (pq_seq pq_body) (by kernel_rfl) ?_
      refine h_skip 11 [] _ rfl (by kernel_rfl) (by kernel_rfl) (by kernel_rfl) (pq_seq pq_body) (by kernel_rfl) ?_
      refine h_take 12 [] _ (.bool false) rfl (by kernel_rfl) (by kernel_rfl) (by kernel_rfl) (pq_seq pq_body) (by kernel_rfl) (fun _ _ => by kernel_rfl) ?_
      refine h_take 13 [] _ (.bool false) rfl (by kernel_rfl) (by kernel_rfl) (by kernel_rfl) (pq_seq pq_body) (by kernel_rfl) (fun _ _ => by kernel_rfl) ?_
      refine h_done (by kernel_rfl) ?_
      refine fin_seq ?_
      refine ok_ret ?_
      refine fin_ret (.bool false) Tryz.results29 (by kernel_rfl) ?_
      exact fun w hO => ⟨by first | (simp [h1, h2, Bool.and_assoc]; done) | rfl, hO.below⟩
  | false =>
    refine h_skip 3 [] _ rfl (by kernel_rfl) (by kernel_rfl) (by kernel_rfl) (pq_seq pq_body) (by kernel_rfl) ?_
    refine h_skip 4 [] _ rfl (by kernel_rfl) (by kernel_rfl) (by kernel_rfl) (pq_seq pq_body) (by kernel_rfl) ?_
    refine h_take 5 [] _ (.bool false) rfl (by kernel_rfl) (by kernel_rfl) (by kernel_rfl) (pq_seq pq_body) (by kernel_rfl) (fun _ _ => by kernel_rfl) ?_
    refine h_take 6 [] _ (.bool false) rfl (by kernel_rfl) (by kernel_rfl) (by kernel_rfl) (pq_seq pq_body) (by kernel_rfl) (fun _ _ => by kernel_rfl) ?_
    refine h_skip 7 [] _ rfl (by kernel_rfl) (by kernel_rfl) (by kernel_rfl) (pq_seq pq_body) (by kernel_rfl) ?_
    refine h_skip 8 [] _ rfl (by kernel_rfl) (by kernel_rfl) (by kernel_rfl) (pq_seq pq_body) (by kernel_rfl) ?_
    refine h_skip 9 [] _ rfl (by kernel_rfl) (by kernel_rfl) (by kernel_rfl) (pq_seq pq_body) (by kernel_rfl) ?_
    refine h_skip 10 [] _ rfl (by kernel_rfl) (by kernel_rfl) (by kernel_rfl) (pq_seq pq_body) (by kernel_rfl) ?_
    refine h_skip 11 [] _ rfl (by kernel_rfl) (by kernel_rfl) (by kernel_rfl) (pq_seq pq_body) (by kernel_rfl) ?_
    refine h_take 12 [] _ (.bool false) rfl (by kernel_rfl) (by kernel_rfl) (by kernel_rfl) (pq_seq pq_body) (by kernel_rfl) (fun _ _ => by kernel_rfl) ?_
    refine h_take 13 [] _ (.bool false) rfl (by kernel_rfl) (by kernel_rfl) (by kernel_rfl) (pq_seq pq_body) (by kernel_rfl) (fun _ _ => by kernel_rfl) ?_
    refine h_done (by kernel_rfl) ?_
    refine fin_seq ?_
    refine ok_ret ?_
    refine fin_ret (.bool false) Tryz.results29 (by kernel_rfl) ?_
    exact fun w hO => ⟨by first | (simp [h1, Bool.and_assoc]; done) | rfl, hO.below⟩
theorem sApart_any (A B A' B' : Option Addr) (c d c' d' : Nat) (a b : St) (W : World) (hs : SetIn W W.heap.size A B a) (ht : SetIn W W.heap.size A' B' b) (ca : a.rel.length ≤ c ∧ a.pre.length ≤ d) (cb : b.rel.length ≤ c' ∧ b.pre.length ≤ d') (qr : a.rel.length ≤ 20000) (qp : a.pre.length ≤ 20000) (hr : b.rel.length ≤ 20000) (hp : b.pre.length ≤ 20000) : Calls Tryz.prog 31 #[.agg #[.slice A a.rel.length c, .slice B a.pre.length d], .agg #[.slice A' b.rel.length c', .slice B' b.pre.length d']] W fun e w' => e = .returned (.bool (a.may && b.may && decide ((andT a b).rel = []) && decide ((andT a b).pre = []))) ∧ Below W.heap.size W w' := by
  refine calls_ok (n := 18) Tryz.func31 rfl (by kernel_rfl) (by kernel_rfl) ?_
  refine ok_seq ?_
  refine ok_region ?_
  refine s_box (.agg #[.slice A a.rel.length c, .slice B a.pre.length d]) (by kernel_rfl) rfl (by kernel_rfl) (fun b1 => ?_)
  refine s_box (.agg #[.slice A' b.rel.length c', .slice B' b.pre.length d']) (by kernel_rfl) rfl (by kernel_rfl) (fun b2 => ?_)
  refine s_val (.bool false) (by kernel_rfl) (fun _ => by kernel_rfl) ?_
  refine s_nil ?_
  refine fin_seq ?_
  refine ok_seq ?_
  refine ok_region ?_
  refine s_load 1 ⟨b1, #[.slice A a.rel.length c, .slice B a.pre.length d], 24⟩ (off := 0) (.agg #[.slice A a.rel.length c, .slice B a.pre.length d]) (by kernel_rfl) rfl (by kernel_rfl) (by kernel_rfl) (by kernel_rfl) ?_
  refine s_call (k := 14) (args := #[.agg #[.slice A a.rel.length c, .slice B a.pre.length d]]) (.bool a.may) (by kernel_rfl) (fun _ => by kernel_rfl) (fun w hO => sMay_any A B c d a w (hs.on hO.below hO.size) ca) ?_
  refine s_val (.bool a.may) (by kernel_rfl) (fun _ => by kernel_rfl) ?_
  cases h1 : a.may with
  | true =>
    refine s_load 0 ⟨b2, #[.slice A' b.rel.length c', .slice B' b.pre.length d'], 24⟩ (off := 0) (.agg #[.slice A' b.rel.length c', .slice B' b.pre.length d']) (by kernel_rfl) rfl (by kernel_rfl) (by kernel_rfl) (by kernel_rfl) ?_
    refine s_call (k := 14) (args := #[.agg #[.slice A' b.rel.length c', .slice B' b.pre.length d']]) (.bool b.may) (by kernel_rfl) (fun _ => by kernel_rfl) (fun w hO => sMay_any A' B' c' d' b w (ht.on hO.below hO.size) cb) ?_
    refine s_val (.bool b.may) (by kernel_rfl) (fun _ => by kernel_rfl) ?_
    refine s_val (.bool b.may) (by kernel_rfl) (fun _ => by kernel_rfl) ?_
    cases h2 : b.may with
    | true =>
      refine s_load 1 ⟨b1, #[.slice A a.rel.length c, .slice B a.pre.length d], 24⟩ (off := 0) (.agg #[.slice A a.rel.length c, .slice B a.pre.length d]) (by kernel_rfl) rfl (by kernel_rfl) (by kernel_rfl) (by kernel_rfl) ?_
      refine s_load 0 ⟨b2, #[.slice A' b.rel.length c', .slice B' b.pre.length d'], 24⟩ (off := 0) (.agg #[.slice A' b.rel.length c', .slice B' b.pre.length d']) (by kernel_rfl) rfl (by kernel_rfl) (by kernel_rfl) (by kernel_rfl) ?_
      refine s_callo (k := 23) (args := #[.agg #[.slice A a.rel.length c, .slice B a.pre.length d], .agg #[.slice A' b.rel.length c', .slice B' b.pre.length d']]) (fun v' L' => ∃ ob', L' = ob' ++ ([⟨b2, #[.slice A' b.rel.length c', .slice B' b.pre.length d'], 24⟩, ⟨b1, #[.slice A a.rel.length c, .slice B a.pre.length d], 24⟩]) ∧ SetO v' (andT a b) ob') (by kernel_rfl) (fun _ => by kernel_rfl) (fun w hO => (sAnd_any A B A' B' c d c' d' a b w (hs.on hO.below hO.size) (ht.on hO.below hO.size) ca cb).mono fun e w' ⟨v', ob', k1, k2, k3⟩ => ⟨v', _, k1, ⟨ob', rfl, by rw [if_pos (by simp [h1, h2])] at k2; exact k2⟩, Own.joinN hO k3⟩) (fun v1 L1 hv1 => ?_)
      obtain ⟨o1, rfl, hr1⟩ := hv1
      obtain ⟨V1, U1, c1, d1, rfl⟩ := hr1.form
      refine s_take (L' := ⟨b2, #[.slice A' b.rel.length c', .slice B' b.pre.length d'], 24⟩ :: o1) (fun w hO => own_front hO) ?_
      refine s_call (k := 37) (args := #[]) (.agg #[.slice none 0 0, .slice none 0 0]) (by kernel_rfl) (fun _ => by kernel_rfl) (fun w _ => sNone_any w) ?_
      refine s_call (k := 33) (args := #[.agg #[.slice V1 (((andT a b)).rel.length) c1, .slice U1 (((andT a b)).pre.length) d1], .agg #[.slice none 0 0, .slice none 0 0]]) (.bool (decide ((andT a b).rel = []) && decide ((andT a b).pre = []))) (by kernel_rfl) (fun _ => by kernel_rfl) (fun w hO => sSameR_any V1 U1 none none c1 d1 0 0 (andT a b) noneT w (SetO.reads (n := 0) (m := 0) hr1 hO (fun x hx => by simp [hx])).1 (SetO.reads (n := 0) (m := 0) hr1 hO (fun x hx => by simp [hx])).2 (none_in _ _).rel (none_in _ _).pre (and_len5 (St.facts h1).1 (St.facts h2).1 hs.lr ht.lr) (and_len5 (St.facts h1).2.1 (St.facts h2).2.1 hs.lp ht.lp) (Nat.zero_le _) (Nat.zero_le _)) ?_
      refine s_val (.bool (decide ((andT a b).rel = []) && decide ((andT a b).pre = []))) (by kernel_rfl) (fun _ => by kernel_rfl) ?_
      refine s_val (.bool (decide ((andT a b).rel = []) && decide ((andT a b).pre = []))) (by kernel_rfl) (fun _ => by kernel_rfl) ?_
      refine s_nil ?_
      refine fin_seq ?_
      refine ok_ret ?_
      refine fin_ret (.bool (decide ((andT a b).rel = []) && decide ((andT a b).pre = []))) Tryz.results31 (by kernel_rfl) ?_
      exact fun w hO => ⟨by simp [h1, h2, Bool.and_assoc], hO.below⟩
    | false =>
      refine s_skip (by kernel_rfl) ?_
      refine s_skip (by kernel_rfl) ?_
      refine s_skip (by kernel_rfl) ?_
      refine s_skip (by kernel_rfl) ?_
      refine s_skip (by kernel_rfl) ?_
      refine s_val (.bool false) (by kernel_rfl) (fun _ => by kernel_rfl) ?_
      refine s_val (.bool false) (by kernel_rfl) (fun _ => by kernel_rfl) ?_
      refine s_nil ?_
      refine fin_seq ?_
      refine ok_ret ?_
      refine fin_ret (.bool false) Tryz.results31 (by kernel_rfl) ?_
      exact fun w hO => ⟨by simp [h1, h2, Bool.and_assoc], hO.below⟩
  | false =>
    refine s_skip (by kernel_rfl) ?_
    refine s_skip (by kernel_rfl) ?_
    refine s_val (.bool false) (by kernel_rfl) (fun _ => by kernel_rfl) ?_
    refine s_val (.bool false) (by kernel_rfl) (fun _ => by kernel_rfl) ?_
    refine s_skip (by kernel_rfl) ?_
    refine s_skip (by kernel_rfl) ?_
    refine s_skip (by kernel_rfl) ?_
    refine s_skip (by kernel_rfl) ?_
    refine s_skip (by kernel_rfl) ?_
    refine s_val (.bool false) (by kernel_rfl) (fun _ => by kernel_rfl) ?_
    refine s_val (.bool false) (by kernel_rfl) (fun _ => by kernel_rfl) ?_
    refine s_nil ?_
    refine fin_seq ?_
    refine ok_ret ?_
    refine fin_ret (.bool false) Tryz.results31 (by kernel_rfl) ?_
    exact fun w hO => ⟨by simp [h1, Bool.and_assoc], hO.below⟩
end Go.Proofs.YtgeccfdofmnphaaGreat
end

section
/-
  Package set's Make: any two rows of at most 100000 spans whose strings have at most a million bytes as a set; nothing that was there is changed.
-/
namespace Go.Proofs.YtgeccfdofmnphaaGreat
open Go.RowKit
set_option maxRecDepth 100000
set_option linter.unusedVariables false
set_option linter.unusedSimpArgs false
set_option maxHeartbeats 2000000

theorem own_mk5 {M : List Nat} {W w : World} {x y : Blk} {A B : List Blk} (h : Own M W w (A ++ (x :: (B ++ [y])))) : Own M W w (x :: y :: A) :=
  (h.sublist ((List.Sublist.refl A).append (List.Sublist.cons_cons x (List.sublist_append_right B [y])))).perm (List.perm_append_comm (l₁ := A) (l₂ := [x, y]))
theorem own_mk6 {M : List Nat} {W w : World} {x y : Blk} {A B : List Blk} (h : Own M W w (A ++ (x :: y :: B))) : Own M W w (x :: y :: (A ++ B)) :=
  h.perm (by have e : A ++ ([x, y] ++ B) = A ++ [x, y] ++ B := (List.append_assoc ..).symm
             show (A ++ ([x, y] ++ B)).Perm ([x, y] ++ (A ++ B))
             rw [e, ← List.append_assoc]
             exact List.Perm.append_right B List.perm_append_comm)
set_option maxHeartbeats 4000000 in
theorem sMake_any (A B : Option Addr) (c d : Nat) (l q : List Sp) (W : World) (hv : Reads spanC W W.heap.size A l) (hu : Reads spanC W W.heap.size B q) (hn : l.length ≤ 100000) (hk : q.length ≤ 100000) (hl : ShortL l) (hm : ShortL q) (ca : l.length ≤ c) (cb : q.length ≤ d) :
    Calls Tryz.prog 12 #[.slice A l.length c, .slice B q.length d] W fun e w' => ∃ v' ob', e = .returned (.tuple #[v', .bool (rowMay l && rowMay q)]) ∧ SetO v' (if rowMay l && rowMay q then ⟨makeRel l, q⟩ else noneT) ob' ∧ Own [] W w' ob' := by
  refine calls_ok (n := 52) Tryz.func12 rfl (by kernel_rfl) (by kernel_rfl) ?_
  refine ok_seq ?_
  refine ok_region ?_
  refine s_alloc_at (.agg #[.slice none 0 0, .slice none 0 0]) (by kernel_rfl) rfl (by kernel_rfl) (fun b1 => ?_)
  refine s_val (.bool false) (by kernel_rfl) (fun _ => by kernel_rfl) ?_
  refine s_nil ?_
  refine fin_seq ?_
  refine ok_seq ?_
  refine ok_seq ?_
  refine ok_region ?_
  refine s_val (.slice A l.length c) (by kernel_rfl) (fun _ => by kernel_rfl) ?_
  refine s_call (k := 42) (args := #[.slice A l.length c]) (.bool (rowMay l)) (by kernel_rfl) (fun _ => by kernel_rfl) (fun w hO => may4_any A c l w (hv.on hO.below hO.below.size) (Nat.le_trans hn (by decide)) hl) ?_
  cases h1 : rowMay l with
  | true =>
    refine s_val (.bool false) (by kernel_rfl) (fun _ => by kernel_rfl) ?_
    refine s_val (.bool false) (by kernel_rfl) (fun _ => by kernel_rfl) ?_
    refine s_val (.slice B q.length d) (by kernel_rfl) (fun _ => by kernel_rfl) ?_
    refine s_call (k := 42) (args := #[.slice B q.length d]) (.bool (rowMay q)) (by kernel_rfl) (fun _ => by kernel_rfl) (fun w hO => may4_any B d q w (hu.on hO.below hO.below.size) (Nat.le_trans hk (by decide)) hm) ?_
    cases h2 : rowMay q with
    | true =>
      refine s_val (.bool false) (by kernel_rfl) (fun _ => by kernel_rfl) ?_
      refine s_val (.bool false) (by kernel_rfl) (fun _ => by kernel_rfl) ?_
      refine s_nil ?_
      refine fin_seq ?_
      refine ok_false (by kernel_rfl) ?_
      refine ok_skip ?_
      refine fin_seq ?_
      refine ok_seq ?_
      refine ok_region ?_
      refine s_val (.slice none 0 0) (by kernel_rfl) (fun _ => by kernel_rfl) ?_
      refine s_nil ?_
      refine fin_seq ?_
      refine ok_seq ?_
      refine ok_seq ?_
      refine ok_region ?_
      refine s_val (.slice A l.length c) (by kernel_rfl) (fun _ => by kernel_rfl) ?_
      refine s_val (.int .i64 (l.length : Int)) (by kernel_rfl) (fun _ => by kernel_rfl) ?_
      refine s_val (.int .i64 0) (by kernel_rfl) (fun _ => by kernel_rfl) ?_
      refine s_nil ?_
      refine fin_seq ?_
      refine ok_block ?_
      refine ok_cast (L' := [] ++ [⟨b1, #[.slice none 0 0, .slice none 0 0], 24⟩]) rfl ?_
      refine ok_loop (fun L f m => ∃ (k : Nat) (u : Value) (acc : List Sp) (ob : List Blk) (j : Nat → Value), (MkI l k u acc ob) ∧ L = ob ++ [⟨b1, #[.slice none 0 0, .slice none 0 0], 24⟩] ∧ f = upds j [(1, .slice B q.length d), (4, .pointer (some ⟨b1, 0, none⟩)), (6, u), (19, .slice A l.length c), (20, .int .i64 (l.length : Int)), (21, .int .i64 (k : Int))] ∧ m = l.length - k) (l.length - 0) ⟨0, _, [], [], _, ⟨Nat.zero_le _, Sl.nil _ _, rfl⟩, rfl, upds_self _ ⟨by kernel_rfl, by kernel_rfl, by kernel_rfl, by kernel_rfl, by kernel_rfl, by kernel_rfl, trivial⟩, rfl⟩ ?_
      rintro L f m ⟨k, u, acc, ob, j, hrel, rfl, rfl, rfl⟩
      have hkl := hrel.le
      refine ok_seq ?_
      refine ok_region ?_
      by_cases h3 : (k : Int) < (l.length : Int)
      · skip
        have hlk : k < l.length := by omega
        obtain ⟨b, off, hA, hlt, hcell⟩ := hv (by omega)
        obtain ⟨s, he⟩ : ∃ s, l[k] = s := ⟨_, rfl⟩
        have hsk : s.short := he ▸ hl _ (List.getElem_mem _)
        have hsm : s.lo.may = true ∧ s.hi.may = true := span_mays (he ▸ row_mem h1 _ (List.getElem_mem _))
        obtain ⟨x, hx⟩ : ∃ x, turnC s.lo = x := ⟨_, rfl⟩
        obtain ⟨y, hy⟩ : ∃ y, turnC s.hi = y := ⟨_, rfl⟩
        have hxS : x.short := hx ▸ turn_short hsk.1
        have hyS : y.short := hy ▸ turn_short hsk.2
        refine s_dec (p := (k : Int) < (l.length : Int)) true (by kernel_rfl) (fun _ => by kernel_rfl) (decide_eq_true (h3)) ?_
        refine s_nil ?_
        refine fin_seq ?_
        refine ok_seq ?_
        refine ok_true (by kernel_rfl) ?_
        refine ok_skip ?_
        refine fin_seq ?_
        refine ok_seq ?_
        refine ok_block ?_
        refine ok_seq ?_
        refine ok_region ?_
        refine s_val (.pointer (some ⟨b, off + k * 14, none⟩)) (by kernel_rfl) (run_ixA (b := b) (off := off) (c := c) (n := l.length) (k := .i64) (j := (k : Int)) (e := 50) (sz := 14) rfl (by kernel_rfl) hA (by kernel_rfl) (by kernel_rfl) (by kernel_rfl) (by omega) (by omega) (by omega)) ?_
        refine s_old (spanV s) (a := ⟨b, off + k * 14, none⟩) (by kernel_rfl) rfl (by kernel_rfl) (fun w hO => elem_load spanC_len (fun j u h => (hO.below.cell (p := ⟨b, off + j, none⟩) hlt).trans (hcell j u h)) k 0 hlk (by omega) _ (by rw [he]; kernel_rfl)) ?_
        refine s_alloc_at (.agg #[.int .i64 0, .int .i64 0, .int .i64 0, .int .i64 0, .string ⟨#[]⟩, .string ⟨#[]⟩, .bool false, .int .i64 0, .int .i64 0, .int .i64 0, .int .i64 0, .string ⟨#[]⟩, .string ⟨#[]⟩, .bool false]) (by kernel_rfl) rfl (by kernel_rfl) (fun b2 => ?_)
        refine s_store_at 0 ⟨b2, #[.int .i64 0, .int .i64 0, .int .i64 0, .int .i64 0, .string ⟨#[]⟩, .string ⟨#[]⟩, .bool false, .int .i64 0, .int .i64 0, .int .i64 0, .int .i64 0, .string ⟨#[]⟩, .string ⟨#[]⟩, .bool false], 50⟩ (off := 0) (spanV s) (by kernel_rfl) rfl rfl (by kernel_rfl) (by kernel_rfl) (by kernel_rfl) (by kernel_rfl) (by kernel_rfl) ?_
        refine s_nil ?_
        refine fin_seq ?_
        refine ok_seq ?_
        refine ok_drawt 7 (by kernel_rfl) (by kernel_rfl) (by kernel_rfl) ?_
        simp only [List.take_succ_cons, List.take_zero, List.drop_succ_cons, List.drop_zero]
        refine q_val (.pointer (some ⟨b2, 0, none⟩)) (by kernel_rfl) (fun _ => by kernel_rfl) ?_
        refine q_load 0 ⟨b2, (spanV s).cells, 50⟩ (off := 0) (.agg #[.int .i64 s.lo.e, .int .i64 s.lo.v.maj, .int .i64 s.lo.v.min, .int .i64 s.lo.v.pat, .string (mkS s.lo.v.pre), .string (mkS s.lo.v.build), .bool s.lo.aft]) (by kernel_rfl) rfl (by kernel_rfl) (by kernel_rfl) (by kernel_rfl) ?_
        refine q_call (k := 43) (args := #[.agg #[.int .i64 s.lo.e, .int .i64 s.lo.v.maj, .int .i64 s.lo.v.min, .int .i64 s.lo.v.pat, .string (mkS s.lo.v.pre), .string (mkS s.lo.v.build), .bool s.lo.aft]]) (cutV x) (by kernel_rfl) (fun _ => by kernel_rfl) (fun w _ => ret_v (by rw [hx]) (toRel_any s.lo w hsk.1 hsm.1)) ?_
        refine q_val (.pointer (some ⟨b2, 7, none⟩)) (by kernel_rfl) (fun _ => by kernel_rfl) ?_
        refine q_load 0 ⟨b2, (spanV s).cells, 50⟩ (off := 7) (.agg #[.int .i64 s.hi.e, .int .i64 s.hi.v.maj, .int .i64 s.hi.v.min, .int .i64 s.hi.v.pat, .string (mkS s.hi.v.pre), .string (mkS s.hi.v.build), .bool s.hi.aft]) (by kernel_rfl) rfl (by kernel_rfl) (by kernel_rfl) (by kernel_rfl) ?_
        refine q_call (k := 43) (args := #[.agg #[.int .i64 s.hi.e, .int .i64 s.hi.v.maj, .int .i64 s.hi.v.min, .int .i64 s.hi.v.pat, .string (mkS s.hi.v.pre), .string (mkS s.hi.v.build), .bool s.hi.aft]]) (cutV y) (by kernel_rfl) (fun _ => by kernel_rfl) (fun w _ => ret_v (by rw [hy]) (toRel_any s.hi w hsk.2 hsm.2)) ?_
        refine q_val (.agg #[.int .i64 x.e, .int .i64 x.v.maj, .int .i64 x.v.min, .int .i64 x.v.pat, .string (mkS x.v.pre), .string (mkS x.v.build), .bool x.aft, .int .i64 y.e, .int .i64 y.v.maj, .int .i64 y.v.min, .int .i64 y.v.pat, .string (mkS y.v.pre), .string (mkS y.v.build), .bool y.aft]) (by kernel_rfl) (fun _ => by kernel_rfl) ?_
        refine q_nil ?_
        refine s_store_at 0 ⟨b2, (spanV s).cells, 50⟩ (off := 0) (.agg #[.int .i64 x.e, .int .i64 x.v.maj, .int .i64 x.v.min, .int .i64 x.v.pat, .string (mkS x.v.pre), .string (mkS x.v.build), .bool x.aft, .int .i64 y.e, .int .i64 y.v.maj, .int .i64 y.v.min, .int .i64 y.v.pat, .string (mkS y.v.pre), .string (mkS y.v.build), .bool y.aft]) (by kernel_rfl) rfl rfl (by kernel_rfl) (by kernel_rfl) (by kernel_rfl) (by kernel_rfl) (by kernel_rfl) ?_
        refine s_nil ?_
        refine fin_seq ?_
        refine ok_seq ?_
        refine ok_region ?_
        refine s_load 0 ⟨b2, #[.int .i64 x.e, .int .i64 x.v.maj, .int .i64 x.v.min, .int .i64 x.v.pat, .string (mkS x.v.pre), .string (mkS x.v.build), .bool x.aft, .int .i64 y.e, .int .i64 y.v.maj, .int .i64 y.v.min, .int .i64 y.v.pat, .string (mkS y.v.pre), .string (mkS y.v.build), .bool y.aft], 50⟩ (off := 0) (.agg #[.int .i64 x.e, .int .i64 x.v.maj, .int .i64 x.v.min, .int .i64 x.v.pat, .string (mkS x.v.pre), .string (mkS x.v.build), .bool x.aft, .int .i64 y.e, .int .i64 y.v.maj, .int .i64 y.v.min, .int .i64 y.v.pat, .string (mkS y.v.pre), .string (mkS y.v.build), .bool y.aft]) (by kernel_rfl) rfl (by kernel_rfl) (by kernel_rfl) (by kernel_rfl) ?_
        refine s_call (k := 44) (args := #[.agg #[.int .i64 x.e, .int .i64 x.v.maj, .int .i64 x.v.min, .int .i64 x.v.pat, .string (mkS x.v.pre), .string (mkS x.v.build), .bool x.aft, .int .i64 y.e, .int .i64 y.v.maj, .int .i64 y.v.min, .int .i64 y.v.pat, .string (mkS y.v.pre), .string (mkS y.v.build), .bool y.aft]]) (.bool ((⟨x, y⟩ : Sp).may)) (by kernel_rfl) (fun _ => by kernel_rfl) (fun w _ => spanMay_any ⟨x, y⟩ w ⟨hxS, hyS⟩) ?_
        refine s_nil ?_
        refine fin_seq ?_
        cases h4 : (⟨x, y⟩ : Sp).may with
        | true =>
          refine ok_true (by kernel_rfl) ?_
          refine ok_region ?_
          refine s_val (u) (by kernel_rfl) (fun _ => by kernel_rfl) ?_
          refine s_load 0 ⟨b2, #[.int .i64 x.e, .int .i64 x.v.maj, .int .i64 x.v.min, .int .i64 x.v.pat, .string (mkS x.v.pre), .string (mkS x.v.build), .bool x.aft, .int .i64 y.e, .int .i64 y.v.maj, .int .i64 y.v.min, .int .i64 y.v.pat, .string (mkS y.v.pre), .string (mkS y.v.build), .bool y.aft], 50⟩ (off := 0) (.agg #[.int .i64 x.e, .int .i64 x.v.maj, .int .i64 x.v.min, .int .i64 x.v.pat, .string (mkS x.v.pre), .string (mkS x.v.build), .bool x.aft, .int .i64 y.e, .int .i64 y.v.maj, .int .i64 y.v.min, .int .i64 y.v.pat, .string (mkS y.v.pre), .string (mkS y.v.build), .bool y.aft]) (by kernel_rfl) rfl (by kernel_rfl) (by kernel_rfl) (by kernel_rfl) ?_
          refine s_lit 50 #[.int .i64 x.e, .int .i64 x.v.maj, .int .i64 x.v.min, .int .i64 x.v.pat, .string (mkS x.v.pre), .string (mkS x.v.build), .bool x.aft, .int .i64 y.e, .int .i64 y.v.maj, .int .i64 y.v.min, .int .i64 y.v.pat, .string (mkS y.v.pre), .string (mkS y.v.build), .bool y.aft] (by kernel_rfl) rfl (fun _ => by kernel_rfl) (fun b3 => ?_)
          obtain ⟨i0, z0, e1, e2, e3, e4, e5⟩ := span_info
          have hln : acc.length ≤ k := by rw [hrel.eq]; exact turnL_len l k
          refine s_cast (L' := [⟨b3, #[.int .i64 x.e, .int .i64 x.v.maj, .int .i64 x.v.min, .int .i64 x.v.pat, .string (mkS x.v.pre), .string (mkS x.v.build), .bool x.aft, .int .i64 y.e, .int .i64 y.v.maj, .int .i64 y.v.min, .int .i64 y.v.pat, .string (mkS y.v.pre), .string (mkS y.v.build), .bool y.aft], 50⟩, ⟨b2, #[.int .i64 x.e, .int .i64 x.v.maj, .int .i64 x.v.min, .int .i64 x.v.pat, .string (mkS x.v.pre), .string (mkS x.v.build), .bool x.aft, .int .i64 y.e, .int .i64 y.v.maj, .int .i64 y.v.min, .int .i64 y.v.pat, .string (mkS y.v.pre), .string (mkS y.v.build), .bool y.aft], 50⟩] ++ ob ++ [⟨b1, #[.slice none 0 0, .slice none 0 0], 24⟩]) (by rw [List.append_assoc]; kernel_rfl) ?_
          refine s_append (sz := 14) (by kernel_rfl) rfl Tryz.underlying22 e1 e2 e3 e4 (by kernel_rfl) hrel.sl (a := ⟨b3, 0, none⟩) (m := 1) (c := 1) (news := spanC ⟨x, y⟩) (by kernel_rfl) rfl (fun w hO j u hj => ?_) (span_cells _) (by unfold maxLen; omega) (by rw [e5]; omega) (fun u2 ob2 hu2 => ?_)
          · rw [add_off, cell_of_row w b3 (0 + j) (spanC ⟨x, y⟩).toArray 50 _ (hO.held ⟨b3, (spanC ⟨x, y⟩).toArray, 50⟩ (List.mem_append_left _ (List.mem_append_left _ (List.mem_cons_self ..))))]; simpa using hj
          refine s_val (u2) (by kernel_rfl) (fun _ => by kernel_rfl) ?_
          refine s_nil ?_
          refine fin_block ?_
          refine fin_seq ?_
          refine ok_region ?_
          refine s_sum (k := .i64) (((k + 1 : Nat) : Int)) (by kernel_rfl) (fun _ => by kernel_rfl) (IntWalk.i64_in _ (by omega)) ?_
          refine s_val (.int .i64 ((k + 1 : Nat) : Int)) (by kernel_rfl) (fun _ => by kernel_rfl) ?_
          refine s_nil ?_
          refine fin_take (L' := ob2 ++ [⟨b1, #[.slice none 0 0, .slice none 0 0], 24⟩]) (fun w hO => own_drop hO) ?_
          exact fin_round (m' := l.length - (k + 1)) (by omega) ⟨k + 1, u2, _, ob2, _, hrel.grow hlk he hx hy (by assumption) hu2, rfl, upds_self _ ⟨by kernel_rfl, by kernel_rfl, by kernel_rfl, by kernel_rfl, by kernel_rfl, by kernel_rfl, trivial⟩, rfl⟩
        | false =>
          refine ok_false (by kernel_rfl) ?_
          refine ok_skip ?_
          refine fin_block ?_
          refine fin_seq ?_
          refine ok_region ?_
          refine s_sum (k := .i64) (((k + 1 : Nat) : Int)) (by kernel_rfl) (fun _ => by kernel_rfl) (IntWalk.i64_in _ (by omega)) ?_
          refine s_val (.int .i64 ((k + 1 : Nat) : Int)) (by kernel_rfl) (fun _ => by kernel_rfl) ?_
          refine s_nil ?_
          refine fin_take (L' := ob ++ [⟨b1, #[.slice none 0 0, .slice none 0 0], 24⟩]) (fun w hO => Own.sub [_] hO) ?_
          exact fin_round (m' := l.length - (k + 1)) (by omega) ⟨k + 1, u, acc, ob, _, hrel.keep hlk he hx hy (by assumption), rfl, upds_self _ ⟨by kernel_rfl, by kernel_rfl, by kernel_rfl, by kernel_rfl, by kernel_rfl, by kernel_rfl, trivial⟩, rfl⟩
      · skip
        refine s_dec (p := (k : Int) < (l.length : Int)) false (by kernel_rfl) (fun _ => by kernel_rfl) (decide_eq_false (h3)) ?_
        refine s_nil ?_
        refine fin_seq ?_
        refine ok_seq ?_
        refine ok_false (by kernel_rfl) ?_
        refine ok_exit ?_
        refine fin_seq_exit ?_
        refine fin_round_exit ?_
        refine fin_block_exit ?_
        refine fin_seq ?_
        refine ok_seq ?_
        refine ok_region ?_
        refine s_alloc_at (.agg #[.slice none 0 0, .slice none 0 0]) (by kernel_rfl) rfl (by kernel_rfl) (fun b2 => ?_)
        refine s_nil ?_
        refine fin_seq ?_
        refine ok_seq ?_
        refine ok_region ?_
        refine s_val (u) (by kernel_rfl) (fun _ => by kernel_rfl) ?_
        have hke : acc = (l.map turnS).filter (·.may) := by have h := hrel.eq; unfold turnL at h; rwa [List.take_of_length_le (by omega)] at h
        have hall : allMay acc = true := allMay_mem.2 (by rw [hrel.eq]; exact turnL_may l k)
        have hsh : ShortL acc := fun s hs => sp_short (allMay_mem.1 hall s hs)
        have hln : acc.length ≤ k := by rw [hrel.eq]; exact turnL_len l k
        have hsl := hrel.sl
        clear hrel
        obtain ⟨C, cc, rfl⟩ := hsl.form
        refine s_callo (k := 45) (args := #[.slice C acc.length cc]) (fun v' L' => ∃ mv ob', v' = .tuple #[mv, .bool true] ∧ L' = ob' ++ (⟨b2, #[.slice none 0 0, .slice none 0 0], 24⟩ :: (ob ++ ([⟨b1, #[.slice none 0 0, .slice none 0 0], 24⟩]))) ∧ SlS mv (makeRel l) ob') (by kernel_rfl) (fun _ => by kernel_rfl) (fun w hO => (make4_any C cc acc w (Sl.reads hsl rfl hO (fun x hx => by simp [hx])) (by omega) hsh).mono fun e w' ⟨v', ob', k1, k2, k3⟩ => ⟨_, _, k1, ⟨v', ob', by rw [hall], rfl, by rw [hall, if_pos rfl, hke] at k2; exact k2⟩, Own.joinN hO k3⟩) (fun tv L2 hv2 => ?_)
        obtain ⟨v2, o2, rfl, rfl, hr2⟩ := hv2
        obtain ⟨V2, c2, rfl⟩ := hr2.form
        refine s_take (L' := ⟨b2, #[.slice none 0 0, .slice none 0 0], 24⟩ :: ⟨b1, #[.slice none 0 0, .slice none 0 0], 24⟩ :: o2) (fun w hO => own_mk5 hO) ?_
        refine s_val (.tuple #[.slice V2 ((makeRel l).length) c2, .bool true]) (by kernel_rfl) (fun _ => by kernel_rfl) ?_
        refine s_val (.slice V2 ((makeRel l).length) c2) (by kernel_rfl) (fun _ => by kernel_rfl) ?_
        refine s_val (.bool true) (by kernel_rfl) (fun _ => by kernel_rfl) ?_
        refine s_val (.pointer (some ⟨b2, 0, none⟩)) (by kernel_rfl) (fun _ => by kernel_rfl) ?_
        refine s_store_at 0 ⟨b2, #[.slice none 0 0, .slice none 0 0], 24⟩ (off := 0) (.slice V2 ((makeRel l).length) c2) (by kernel_rfl) rfl rfl (by kernel_rfl) (by kernel_rfl) (by kernel_rfl) (by kernel_rfl) (by kernel_rfl) ?_
        refine s_nil ?_
        refine fin_seq ?_
        refine ok_seq ?_
        refine ok_region ?_
        refine s_val (.slice B q.length d) (by kernel_rfl) (fun _ => by kernel_rfl) ?_
        have hqa : allMay q = true := allMay_mem.2 (row_mem h2)
        refine s_callo (k := 45) (args := #[.slice B q.length d]) (fun v' L' => ∃ mv ob', v' = .tuple #[mv, .bool true] ∧ L' = ob' ++ (⟨b2, #[.slice V2 ((makeRel l).length) c2, .slice none 0 0], 24⟩ :: (⟨b1, #[.slice none 0 0, .slice none 0 0], 24⟩ :: (o2))) ∧ SlS mv q ob') (by kernel_rfl) (fun _ => by kernel_rfl) (fun w hO => (make4_any B d q w (hu.on hO.below hO.below.size) (Nat.le_trans hk (by decide)) hm).mono fun e w' ⟨v', ob', k1, k2, k3⟩ => ⟨_, _, k1, ⟨v', ob', by rw [hqa], rfl, by rw [hqa, if_pos rfl, make_self h2] at k2; exact k2⟩, Own.joinN hO k3⟩) (fun tv L3 hv3 => ?_)
        obtain ⟨v3, o3, rfl, rfl, hr3⟩ := hv3
        obtain ⟨V3, c3, rfl⟩ := hr3.form
        refine s_take (L' := ⟨b2, #[.slice V2 ((makeRel l).length) c2, .slice none 0 0], 24⟩ :: ⟨b1, #[.slice none 0 0, .slice none 0 0], 24⟩ :: (o3 ++ o2)) (fun w hO => own_mk6 hO) ?_
        refine s_val (.tuple #[.slice V3 q.length c3, .bool true]) (by kernel_rfl) (fun _ => by kernel_rfl) ?_
        refine s_val (.slice V3 q.length c3) (by kernel_rfl) (fun _ => by kernel_rfl) ?_
        refine s_val (.bool true) (by kernel_rfl) (fun _ => by kernel_rfl) ?_
        refine s_val (.pointer (some ⟨b2, 1, none⟩)) (by kernel_rfl) (fun _ => by kernel_rfl) ?_
        refine s_store_at 0 ⟨b2, #[.slice V2 ((makeRel l).length) c2, .slice none 0 0], 24⟩ (off := 1) (.slice V3 q.length c3) (by kernel_rfl) rfl rfl (by kernel_rfl) (by kernel_rfl) (by kernel_rfl) (by kernel_rfl) (by kernel_rfl) ?_
        refine s_nil ?_
        refine fin_seq ?_
        refine ok_seq ?_
        refine ok_region ?_
        refine s_load 0 ⟨b2, #[.slice V2 ((makeRel l).length) c2, .slice V3 q.length c3], 24⟩ (off := 0) (.agg #[.slice V2 ((makeRel l).length) c2, .slice V3 q.length c3]) (by kernel_rfl) rfl (by kernel_rfl) (by kernel_rfl) (by kernel_rfl) ?_
        refine s_store_at 1 ⟨b1, #[.slice none 0 0, .slice none 0 0], 24⟩ (off := 0) (.agg #[.slice V2 ((makeRel l).length) c2, .slice V3 q.length c3]) (by kernel_rfl) rfl rfl (by kernel_rfl) (by kernel_rfl) (by kernel_rfl) (by kernel_rfl) (by kernel_rfl) ?_
        refine s_val (.bool true) (by kernel_rfl) (fun _ => by kernel_rfl) ?_
        refine s_nil ?_
        refine fin_seq ?_
        refine ok_ret ?_
        refine fin_cell2 1 ⟨b1, #[.slice V2 ((makeRel l).length) c2, .slice V3 q.length c3], 24⟩ (off := 0) (.agg #[.slice V2 ((makeRel l).length) c2, .slice V3 q.length c3]) (.bool true) Tryz.results12 (by kernel_rfl) (by kernel_rfl) (by kernel_rfl) (by kernel_rfl) ?_
        exact fun w hO => ⟨_, _, rfl, by rw [if_pos (by simp [h1, h2])]; exact ⟨_, _, o2, o3, rfl, rfl, hr2, hr3⟩, own_tl (own_tl hO)⟩
    | false =>
      refine s_val (.bool true) (by kernel_rfl) (fun _ => by kernel_rfl) ?_
      refine s_val (.bool true) (by kernel_rfl) (fun _ => by kernel_rfl) ?_
      refine s_nil ?_
      refine fin_seq ?_
      refine ok_true (by kernel_rfl) ?_
      refine ok_seq ?_
      refine ok_region ?_
      refine s_call (k := 37) (args := #[]) (.agg #[.slice none 0 0, .slice none 0 0]) (by kernel_rfl) (fun _ => by kernel_rfl) (fun w _ => sNone_any w) ?_
      refine s_store_at 0 ⟨b1, #[.slice none 0 0, .slice none 0 0], 24⟩ (off := 0) (.agg #[.slice none 0 0, .slice none 0 0]) (by kernel_rfl) rfl rfl (by kernel_rfl) (by kernel_rfl) (by kernel_rfl) (by kernel_rfl) (by kernel_rfl) ?_
      refine s_val (.bool false) (by kernel_rfl) (fun _ => by kernel_rfl) ?_
      refine s_nil ?_
      refine fin_seq ?_
      refine ok_ret ?_
      refine fin_seq_ret ?_
      refine fin_cell2 0 ⟨b1, #[.slice none 0 0, .slice none 0 0], 24⟩ (off := 0) (.agg #[.slice none 0 0, .slice none 0 0]) (.bool false) Tryz.results12 (by kernel_rfl) (by kernel_rfl) (by kernel_rfl) (by kernel_rfl) ?_
      exact fun w hO => ⟨_, [], by first | rfl | (simp [h1, h2]; done), by rw [if_neg (by simp [h1, h2])]; exact SetO.none, own_nil hO⟩
  | false =>
    refine s_val (.bool true) (by kernel_rfl) (fun _ => by kernel_rfl) ?_
    refine s_val (.bool true) (by kernel_rfl) (fun _ => by kernel_rfl) ?_
    refine s_skip (by kernel_rfl) ?_
    refine s_skip (by kernel_rfl) ?_
    refine s_skip (by kernel_rfl) ?_
    refine s_val (.bool true) (by kernel_rfl) (fun _ => by kernel_rfl) ?_
    refine s_nil ?_
    refine fin_seq ?_
    refine ok_true (by kernel_rfl) ?_
    refine ok_seq ?_
    refine ok_region ?_
    refine s_call (k := 37) (args := #[]) (.agg #[.slice none 0 0, .slice none 0 0]) (by kernel_rfl) (fun _ => by kernel_rfl) (fun w _ => sNone_any w) ?_
    refine s_store_at 0 ⟨b1, #[.slice none 0 0, .slice none 0 0], 24⟩ (off := 0) (.agg #[.slice none 0 0, .slice none 0 0]) (by kernel_rfl) rfl rfl (by kernel_rfl) (by kernel_rfl) (by kernel_rfl) (by kernel_rfl) (by kernel_rfl) ?_
    refine s_val (.bool false) (by kernel_rfl) (fun _ => by kernel_rfl) ?_
    refine s_nil ?_
    refine fin_seq ?_
    refine ok_ret ?_
    refine fin_seq_ret ?_
    refine fin_cell2 0 ⟨b1, #[.slice none 0 0, .slice none 0 0], 24⟩ (off := 0) (.agg #[.slice none 0 0, .slice none 0 0]) (.bool false) Tryz.results12 (by kernel_rfl) (by kernel_rfl) (by kernel_rfl) (by kernel_rfl) ?_
    exact fun w hO => ⟨_, [], by first | rfl | (simp [h1]; done), by rw [if_neg (by simp [h1])]; exact SetO.none, own_nil hO⟩
end Go.Proofs.YtgeccfdofmnphaaGreat
end

section
/-
  Package set's Exact: what it returns for any version whose strings have at most a million bytes; nothing that was there is changed.
-/
namespace Go.Proofs.YtgeccfdofmnphaaGreat
open Go.RowKit
set_option maxRecDepth 100000
set_option linter.unusedVariables false
set_option linter.unusedSimpArgs false
set_option maxHeartbeats 2000000

theorem own_ex5 {M : List Nat} {W w : World} {x l y z : Blk} {A : List Blk} (h : Own M W w (A ++ (x :: l :: y :: z :: []))) : Own M W w (x :: y :: A) :=
  (h.sublist ((List.Sublist.refl A).append (List.Sublist.cons_cons x (List.Sublist.cons l (List.Sublist.cons_cons y (List.nil_sublist [z])))))).perm (List.perm_append_comm (l₁ := A) (l₂ := [x, y]))
theorem reads_nil (w : World) (n : Nat) : Reads spanC w n none ([] : List Sp) := fun h0 => absurd h0 (Nat.lt_irrefl 0)
theorem short_nil : ShortL [] := fun s hs => by simp at hs
theorem one_short {v : Ver} (h : v.short) : ShortL (onePre v) := fun s hs => by
  rw [List.mem_singleton.1 hs]; exact ⟨core_short h, core_short h⟩
theorem makeRel_nil : makeRel [] = [] := by
  unfold makeRel
  exact make_self rfl
theorem makeRel_one {v : Ver} (hv : v.may = true) (hp : v.pre = []) : makeRel (onePre v) = oneRel v := by
  have e : (onePre v).map turnS = oneRel v := by
    show [Sp.mk (turnC ⟨0, coreV v, false⟩) (turnC ⟨0, coreV v, true⟩)] = [⟨relA v, relB v⟩]
    have h1 : turnC ⟨0, coreV v, false⟩ = relA v := by
      unfold turnC
      rw [if_neg (by simp), if_neg (by simp)]; rfl
    have h2 : turnC ⟨0, coreV v, true⟩ = relB v := by
      unfold turnC
      rw [if_neg (by simp), if_pos ⟨rfl, hp⟩]; rfl
    rw [h1, h2]
  have h := (oneRel_ok hv).1
  unfold makeRel
  rw [e, List.filter_eq_self.2 (fun s hs => row_mem h s hs), make_self h]
theorem exact_make1 {v : Ver} (hv : v.may = true) (hp : v.pre = []) : (if rowMay (onePre v) && rowMay [] then (⟨makeRel (onePre v), []⟩ : St) else noneT) = exactT v := by
  rw [if_pos (by rw [(onePre_ok hv).1]; rfl), makeRel_one hv hp]
  unfold exactT
  rw [if_pos hv, if_pos hp]
theorem exact_make2 {v : Ver} (hv : v.may = true) (hp : ¬ v.pre = []) : (if rowMay [] && rowMay (onePre v) then (⟨makeRel [], onePre v⟩ : St) else noneT) = exactT v := by
  rw [if_pos (by rw [(onePre_ok hv).1]; rfl), makeRel_nil]
  unfold exactT
  rw [if_pos hv, if_neg hp]
theorem sExact_any (v : Ver) (W : World) (hv : v.short) : Calls Tryz.prog 19 #[verV v] W fun e w' => ∃ v' ob', e = .returned v' ∧ SetO v' (exactT v) ob' ∧ Own [] W w' ob' := by
  refine calls_ok (n := 31) Tryz.func19 rfl (by kernel_rfl) (by kernel_rfl) ?_
  refine ok_seq ?_
  refine ok_region ?_
  refine s_box (verV v) (by kernel_rfl) rfl (by kernel_rfl) (fun b1 => ?_)
  refine s_alloc_at (.agg #[.slice none 0 0, .slice none 0 0]) (by kernel_rfl) rfl (by kernel_rfl) (fun b2 => ?_)
  refine s_nil ?_
  refine fin_seq ?_
  refine ok_seq ?_
  refine ok_seq ?_
  refine ok_region ?_
  refine s_load 1 ⟨b1, (verV v).cells, 26⟩ (off := 0) (verV v) (by kernel_rfl) rfl (by kernel_rfl) (by kernel_rfl) (by kernel_rfl) ?_
  refine s_call (k := 58) (args := #[verV v]) (.bool v.may) (by kernel_rfl) (fun _ => by kernel_rfl) (fun w _ => may_any v w (Nat.lt_of_le_of_lt hv.1 (by decide)) (Nat.lt_of_le_of_lt hv.2 (by decide))) ?_
  cases h1 : v.may with
  | true =>
    refine s_val (.bool false) (by kernel_rfl) (fun _ => by kernel_rfl) ?_
    refine s_nil ?_
    refine fin_seq ?_
    refine ok_false (by kernel_rfl) ?_
    refine ok_skip ?_
    refine fin_seq ?_
    refine ok_seq ?_
    refine ok_region ?_
    refine s_load 1 ⟨b1, (verV v).cells, 26⟩ (off := 0) (verV v) (by kernel_rfl) rfl (by kernel_rfl) (by kernel_rfl) (by kernel_rfl) ?_
    refine s_call (k := 59) (args := #[verV v]) (verV (coreV v)) (by kernel_rfl) (fun _ => by kernel_rfl) (fun w _ => core_any v w hv.1) ?_
    refine s_store_at 1 ⟨b1, (verV v).cells, 26⟩ (off := 0) (verV (coreV v)) (by kernel_rfl) rfl rfl (by kernel_rfl) (by kernel_rfl) (by kernel_rfl) (by kernel_rfl) (by kernel_rfl) ?_
    refine s_nil ?_
    refine fin_seq ?_
    refine ok_seq ?_
    refine ok_region ?_
    refine s_load 1 ⟨b1, (verV (coreV v)).cells, 26⟩ (off := 0) (verV (coreV v)) (by kernel_rfl) rfl (by kernel_rfl) (by kernel_rfl) (by kernel_rfl) ?_
    refine s_val (.agg #[.int .i64 0, .int .i64 ((coreV v).maj), .int .i64 ((coreV v).min), .int .i64 ((coreV v).pat), .string (mkS (coreV v).pre), .string (mkS (coreV v).build), .bool false]) (by kernel_rfl) (fun _ => by kernel_rfl) ?_
    refine s_load 1 ⟨b1, (verV (coreV v)).cells, 26⟩ (off := 0) (verV (coreV v)) (by kernel_rfl) rfl (by kernel_rfl) (by kernel_rfl) (by kernel_rfl) ?_
    refine s_val (.agg #[.int .i64 0, .int .i64 ((coreV v).maj), .int .i64 ((coreV v).min), .int .i64 ((coreV v).pat), .string (mkS (coreV v).pre), .string (mkS (coreV v).build), .bool true]) (by kernel_rfl) (fun _ => by kernel_rfl) ?_
    refine s_val (.agg #[.int .i64 0, .int .i64 ((coreV v).maj), .int .i64 ((coreV v).min), .int .i64 ((coreV v).pat), .string (mkS (coreV v).pre), .string (mkS (coreV v).build), .bool false, .int .i64 0, .int .i64 ((coreV v).maj), .int .i64 ((coreV v).min), .int .i64 ((coreV v).pat), .string (mkS (coreV v).pre), .string (mkS (coreV v).build), .bool true]) (by kernel_rfl) (fun _ => by kernel_rfl) ?_
    refine s_lit 50 #[.int .i64 0, .int .i64 ((coreV v).maj), .int .i64 ((coreV v).min), .int .i64 ((coreV v).pat), .string (mkS (coreV v).pre), .string (mkS (coreV v).build), .bool false, .int .i64 0, .int .i64 ((coreV v).maj), .int .i64 ((coreV v).min), .int .i64 ((coreV v).pat), .string (mkS (coreV v).pre), .string (mkS (coreV v).build), .bool true] (by kernel_rfl) rfl (fun _ => by kernel_rfl) (fun b3 => ?_)
    refine s_val (.slice (some ⟨b3, 0, none⟩) 1 1) (by kernel_rfl) (fun _ => by kernel_rfl) ?_
    refine s_nil ?_
    refine fin_seq ?_
    refine ok_seq ?_
    refine ok_region ?_
    refine s_alloc_at (.agg #[.slice none 0 0, .slice none 0 0]) (by kernel_rfl) rfl (by kernel_rfl) (fun b4 => ?_)
    refine s_nil ?_
    refine fin_seq ?_
    refine ok_seq ?_
    refine ok_seq ?_
    refine ok_region ?_
    refine s_val (.pointer (some ⟨b1, 3, none⟩)) (by kernel_rfl) (fun _ => by kernel_rfl) ?_
    refine s_load 3 ⟨b1, (verV (coreV v)).cells, 26⟩ (off := 3) (.string (mkS (coreV v).pre)) (by kernel_rfl) rfl (by kernel_rfl) (by kernel_rfl) (by kernel_rfl) ?_
    by_cases h2 : ((coreV v).pre : List UInt8) = []
    · skip
      refine s_val (.bool true) (by kernel_rfl) (run_streql (a := ((coreV v).pre)) (b := ([])) rfl (by kernel_rfl) (by kernel_rfl) (decide_eq_true (h2))) ?_
      refine s_nil ?_
      refine fin_seq ?_
      refine ok_true (by kernel_rfl) ?_
      refine ok_region ?_
      refine s_val (.slice (some ⟨b3, 0, none⟩) 1 1) (by kernel_rfl) (fun _ => by kernel_rfl) ?_
      refine s_callo (k := 12) (args := #[.slice (some ⟨b3, 0, none⟩) 1 1, .slice none 0 0]) (fun v' L' => ∃ mv ob', v' = .tuple #[mv, .bool (rowMay (onePre v) && rowMay [])] ∧ L' = ob' ++ (⟨b4, #[.slice none 0 0, .slice none 0 0], 24⟩ :: ⟨b3, #[.int .i64 0, .int .i64 ((coreV v).maj), .int .i64 ((coreV v).min), .int .i64 ((coreV v).pat), .string (mkS (coreV v).pre), .string (mkS (coreV v).build), .bool false, .int .i64 0, .int .i64 ((coreV v).maj), .int .i64 ((coreV v).min), .int .i64 ((coreV v).pat), .string (mkS (coreV v).pre), .string (mkS (coreV v).build), .bool true], 50⟩ :: ⟨b2, #[.slice none 0 0, .slice none 0 0], 24⟩ :: ⟨b1, (verV (coreV v)).cells, 26⟩ :: []) ∧ SetO mv (exactT v) ob') (by kernel_rfl) (fun _ => by kernel_rfl) (fun w hO => (sMake_any (some ⟨b3, 0, none⟩) none 1 0 (onePre v) [] w (Sl.reads (sls_lit ⟨⟨0, coreV v, false⟩, ⟨0, coreV v, true⟩⟩ b3 #[.int .i64 0, .int .i64 ((coreV v).maj), .int .i64 ((coreV v).min), .int .i64 ((coreV v).pat), .string (mkS (coreV v).pre), .string (mkS (coreV v).build), .bool false, .int .i64 0, .int .i64 ((coreV v).maj), .int .i64 ((coreV v).min), .int .i64 ((coreV v).pat), .string (mkS (coreV v).pre), .string (mkS (coreV v).build), .bool true] (by kernel_rfl)) rfl hO (fun x hx => by rw [List.mem_singleton.1 hx]; exact List.mem_cons_of_mem _ List.mem_cons_self)) (reads_nil _ _) (by show 1 ≤ _; decide) (Nat.zero_le _) (one_short hv) short_nil (Nat.le_refl 1) (Nat.le_refl 0)).mono fun e w' ⟨v', ob', k1, k2, k3⟩ => ⟨_, _, k1, ⟨v', ob', rfl, rfl, by rw [exact_make1 h1 h2] at k2; exact k2⟩, Own.joinN hO k3⟩) (fun tv L1 hv1 => ?_)
      obtain ⟨v1, o1, rfl, rfl, hr1⟩ := hv1
      obtain ⟨V1, U1, c1, d1, rfl⟩ := hr1.form
      refine s_take (L' := ⟨b4, #[.slice none 0 0, .slice none 0 0], 24⟩ :: ⟨b2, #[.slice none 0 0, .slice none 0 0], 24⟩ :: o1) (fun w hO => own_ex5 hO) ?_
      refine s_val (.tuple #[.agg #[.slice V1 ((exactT v).rel.length) c1, .slice U1 ((exactT v).pre.length) d1], .bool (rowMay (onePre v) && rowMay [])]) (by kernel_rfl) (fun _ => by kernel_rfl) ?_
      refine s_val (.agg #[.slice V1 ((exactT v).rel.length) c1, .slice U1 ((exactT v).pre.length) d1]) (by kernel_rfl) (fun _ => by kernel_rfl) ?_
      refine s_val (.bool (rowMay (onePre v) && rowMay [])) (by kernel_rfl) (fun _ => by kernel_rfl) ?_
      refine s_store_at 0 ⟨b4, #[.slice none 0 0, .slice none 0 0], 24⟩ (off := 0) (.agg #[.slice V1 ((exactT v).rel.length) c1, .slice U1 ((exactT v).pre.length) d1]) (by kernel_rfl) rfl rfl (by kernel_rfl) (by kernel_rfl) (by kernel_rfl) (by kernel_rfl) (by kernel_rfl) ?_
      refine s_nil ?_
      refine fin_seq ?_
      refine ok_seq ?_
      refine ok_region ?_
      refine s_load 0 ⟨b4, #[.slice V1 ((exactT v).rel.length) c1, .slice U1 ((exactT v).pre.length) d1], 24⟩ (off := 0) (.agg #[.slice V1 ((exactT v).rel.length) c1, .slice U1 ((exactT v).pre.length) d1]) (by kernel_rfl) rfl (by kernel_rfl) (by kernel_rfl) (by kernel_rfl) ?_
      refine s_store_at 1 ⟨b2, #[.slice none 0 0, .slice none 0 0], 24⟩ (off := 0) (.agg #[.slice V1 ((exactT v).rel.length) c1, .slice U1 ((exactT v).pre.length) d1]) (by kernel_rfl) rfl rfl (by kernel_rfl) (by kernel_rfl) (by kernel_rfl) (by kernel_rfl) (by kernel_rfl) ?_
      refine s_nil ?_
      refine fin_seq ?_
      refine ok_ret ?_
      refine fin_cell 1 ⟨b2, #[.slice V1 ((exactT v).rel.length) c1, .slice U1 ((exactT v).pre.length) d1], 24⟩ (off := 0) (.agg #[.slice V1 ((exactT v).rel.length) c1, .slice U1 ((exactT v).pre.length) d1]) Tryz.results19 (by kernel_rfl) (by kernel_rfl) (by kernel_rfl) ?_
      exact fun w hO => ⟨_, o1, rfl, hr1, own_tl (own_tl hO)⟩
    · skip
      refine s_val (.bool false) (by kernel_rfl) (run_streql (a := ((coreV v).pre)) (b := ([])) rfl (by kernel_rfl) (by kernel_rfl) (decide_eq_false (h2))) ?_
      refine s_nil ?_
      refine fin_seq ?_
      refine ok_false (by kernel_rfl) ?_
      refine ok_region ?_
      refine s_val (.slice (some ⟨b3, 0, none⟩) 1 1) (by kernel_rfl) (fun _ => by kernel_rfl) ?_
      refine s_callo (k := 12) (args := #[.slice none 0 0, .slice (some ⟨b3, 0, none⟩) 1 1]) (fun v' L' => ∃ mv ob', v' = .tuple #[mv, .bool (rowMay [] && rowMay (onePre v))] ∧ L' = ob' ++ (⟨b4, #[.slice none 0 0, .slice none 0 0], 24⟩ :: ⟨b3, #[.int .i64 0, .int .i64 ((coreV v).maj), .int .i64 ((coreV v).min), .int .i64 ((coreV v).pat), .string (mkS (coreV v).pre), .string (mkS (coreV v).build), .bool false, .int .i64 0, .int .i64 ((coreV v).maj), .int .i64 ((coreV v).min), .int .i64 ((coreV v).pat), .string (mkS (coreV v).pre), .string (mkS (coreV v).build), .bool true], 50⟩ :: ⟨b2, #[.slice none 0 0, .slice none 0 0], 24⟩ :: ⟨b1, (verV (coreV v)).cells, 26⟩ :: []) ∧ SetO mv (exactT v) ob') (by kernel_rfl) (fun _ => by kernel_rfl) (fun w hO => (sMake_any none (some ⟨b3, 0, none⟩) 0 1 [] (onePre v) w (reads_nil _ _) (Sl.reads (sls_lit ⟨⟨0, coreV v, false⟩, ⟨0, coreV v, true⟩⟩ b3 #[.int .i64 0, .int .i64 ((coreV v).maj), .int .i64 ((coreV v).min), .int .i64 ((coreV v).pat), .string (mkS (coreV v).pre), .string (mkS (coreV v).build), .bool false, .int .i64 0, .int .i64 ((coreV v).maj), .int .i64 ((coreV v).min), .int .i64 ((coreV v).pat), .string (mkS (coreV v).pre), .string (mkS (coreV v).build), .bool true] (by kernel_rfl)) rfl hO (fun x hx => by rw [List.mem_singleton.1 hx]; exact List.mem_cons_of_mem _ List.mem_cons_self)) (Nat.zero_le _) (by show 1 ≤ _; decide) short_nil (one_short hv) (Nat.le_refl 0) (Nat.le_refl 1)).mono fun e w' ⟨v', ob', k1, k2, k3⟩ => ⟨_, _, k1, ⟨v', ob', rfl, rfl, by rw [exact_make2 h1 h2] at k2; exact k2⟩, Own.joinN hO k3⟩) (fun tv L1 hv1 => ?_)
      obtain ⟨v1, o1, rfl, rfl, hr1⟩ := hv1
      obtain ⟨V1, U1, c1, d1, rfl⟩ := hr1.form
      refine s_take (L' := ⟨b4, #[.slice none 0 0, .slice none 0 0], 24⟩ :: ⟨b2, #[.slice none 0 0, .slice none 0 0], 24⟩ :: o1) (fun w hO => own_ex5 hO) ?_
      refine s_val (.tuple #[.agg #[.slice V1 ((exactT v).rel.length) c1, .slice U1 ((exactT v).pre.length) d1], .bool (rowMay [] && rowMay (onePre v))]) (by kernel_rfl) (fun _ => by kernel_rfl) ?_
      refine s_val (.agg #[.slice V1 ((exactT v).rel.length) c1, .slice U1 ((exactT v).pre.length) d1]) (by kernel_rfl) (fun _ => by kernel_rfl) ?_
      refine s_val (.bool (rowMay [] && rowMay (onePre v))) (by kernel_rfl) (fun _ => by kernel_rfl) ?_
      refine s_store_at 0 ⟨b4, #[.slice none 0 0, .slice none 0 0], 24⟩ (off := 0) (.agg #[.slice V1 ((exactT v).rel.length) c1, .slice U1 ((exactT v).pre.length) d1]) (by kernel_rfl) rfl rfl (by kernel_rfl) (by kernel_rfl) (by kernel_rfl) (by kernel_rfl) (by kernel_rfl) ?_
      refine s_nil ?_
      refine fin_seq ?_
      refine ok_seq ?_
      refine ok_region ?_
      refine s_load 0 ⟨b4, #[.slice V1 ((exactT v).rel.length) c1, .slice U1 ((exactT v).pre.length) d1], 24⟩ (off := 0) (.agg #[.slice V1 ((exactT v).rel.length) c1, .slice U1 ((exactT v).pre.length) d1]) (by kernel_rfl) rfl (by kernel_rfl) (by kernel_rfl) (by kernel_rfl) ?_
      refine s_store_at 1 ⟨b2, #[.slice none 0 0, .slice none 0 0], 24⟩ (off := 0) (.agg #[.slice V1 ((exactT v).rel.length) c1, .slice U1 ((exactT v).pre.length) d1]) (by kernel_rfl) rfl rfl (by kernel_rfl) (by kernel_rfl) (by kernel_rfl) (by kernel_rfl) (by kernel_rfl) ?_
      refine s_nil ?_
      refine fin_seq ?_
      refine ok_ret ?_
      refine fin_cell 1 ⟨b2, #[.slice V1 ((exactT v).rel.length) c1, .slice U1 ((exactT v).pre.length) d1], 24⟩ (off := 0) (.agg #[.slice V1 ((exactT v).rel.length) c1, .slice U1 ((exactT v).pre.length) d1]) Tryz.results19 (by kernel_rfl) (by kernel_rfl) (by kernel_rfl) ?_
      exact fun w hO => ⟨_, o1, rfl, hr1, own_tl (own_tl hO)⟩
  | false =>
    refine s_val (.bool true) (by kernel_rfl) (fun _ => by kernel_rfl) ?_
    refine s_nil ?_
    refine fin_seq ?_
    refine ok_true (by kernel_rfl) ?_
    refine ok_seq ?_
    refine ok_region ?_
    refine s_call (k := 37) (args := #[]) (.agg #[.slice none 0 0, .slice none 0 0]) (by kernel_rfl) (fun _ => by kernel_rfl) (fun w _ => sNone_any w) ?_
    refine s_store_at 0 ⟨b2, #[.slice none 0 0, .slice none 0 0], 24⟩ (off := 0) (.agg #[.slice none 0 0, .slice none 0 0]) (by kernel_rfl) rfl rfl (by kernel_rfl) (by kernel_rfl) (by kernel_rfl) (by kernel_rfl) (by kernel_rfl) ?_
    refine s_nil ?_
    refine fin_seq ?_
    refine ok_ret ?_
    refine fin_seq_ret ?_
    refine fin_cell 0 ⟨b2, #[.slice none 0 0, .slice none 0 0], 24⟩ (off := 0) (.agg #[.slice none 0 0, .slice none 0 0]) Tryz.results19 (by kernel_rfl) (by kernel_rfl) (by kernel_rfl) ?_
    exact fun w hO => ⟨_, [], rfl, by unfold exactT; rw [if_neg (by simp [h1])]; exact SetO.none, own_nil hO⟩
end Go.Proofs.YtgeccfdofmnphaaGreat
end

section
/-
  linchpinlaw0.Set: the set that the list's numbers name. Conditions: a list that can be read, i at most 50000.
-/
namespace Go.Proofs.YtgeccfdofmnphaaGreat
open Go.RowKit
set_option maxRecDepth 100000
set_option linter.unusedVariables false
set_option linter.unusedSimpArgs false
set_option maxHeartbeats 2000000

theorem rowG_rf5 (l : List Int) (i : Nat) : RF (rowG l i) 10 := by
  have h := plc_in (atL l i) (4 + 1 : Nat) (by omega)
  have h2 := spansG_len l i (plc (atL l i) (4 + 1 : Nat)).toNat
  exact RF.make (n := 4) (spansG_may l i _) (by omega)
def setG (l : List Int) (i : Nat) : St := ⟨makeRel (rowG l i), rowG l (i + 49)⟩
theorem makeRel_rf {l : List Sp} {n : Nat} (h : l.length ≤ n) : RF (makeRel l) (2 + 2 * n) := RF.make (makeRel_mays l) (Nat.le_trans (List.length_filter_le _ _) (by rw [List.length_map]; exact h))
theorem setG_sf (l : List Int) (i : Nat) : SF (setG l i) 22 := ⟨makeRel_rf (rowG_rf5 l i).len, (rowG_rf5 l (i + 49)).le (by decide), makeRel_right (row_mem (rowG_rf5 l i).may)⟩
theorem own_set {M : List Nat} {W w : World} {x : Blk} {A B C : List Blk} (h : Own M W w (A ++ (B ++ (C ++ [x])))) : Own M W w (x :: A) := by
  have h2 : Own M W w (A ++ [x]) := h.sublist ((List.Sublist.refl A).append ((List.sublist_append_right C [x]).trans (List.sublist_append_right B _)))
  exact h2.perm List.perm_append_comm
theorem setGen_any (v : Value) (l : List Int) (i : Nat) (W : World) (hv : ReadsI W W.heap.size v l) (hl : l.length ≤ 9223372036854775807) (hi : i ≤ 49000) :
    Calls Tryz.prog 34 #[v, .int .i64 (i : Int)] W fun e w' => ∃ v' ob', e = .returned v' ∧ SetO v' (setG l i) ob' ∧ Own [] W w' ob' := by
  obtain ⟨p, hp⟩ : ∃ p, rowG l i = p := ⟨_, rfl⟩
  obtain ⟨q, hq⟩ : ∃ q, rowG l (i + 49) = q := ⟨_, rfl⟩
  have fp : RF p 10 := hp ▸ rowG_rf5 l i
  have fq : RF q 10 := hq ▸ rowG_rf5 l (i + 49)
  have hg : setG l i = ⟨makeRel p, q⟩ := by unfold setG; rw [hp, hq]
  rw [hg]
  refine calls_ok (n := 19) Tryz.func34 rfl (by kernel_rfl) (by kernel_rfl) ?_
  refine ok_seq ?_
  refine ok_region ?_
  refine s_alloc_at (.agg #[.slice none 0 0, .slice none 0 0]) (by kernel_rfl) rfl (by kernel_rfl) (fun b1 => ?_)
  refine s_nil ?_
  refine fin_seq ?_
  refine ok_seq ?_
  refine ok_region ?_
  refine s_val (v) (by kernel_rfl) (fun _ => by kernel_rfl) ?_
  refine s_val (.int .i64 (i : Int)) (by kernel_rfl) (fun _ => by kernel_rfl) ?_
  refine s_callo (k := 38) (args := #[v, .int .i64 (i : Int)]) (fun v' L' => ∃ ob', L' = ob' ++ ([⟨b1, #[.slice none 0 0, .slice none 0 0], 24⟩]) ∧ SlS v' p ob') (by kernel_rfl) (fun _ => by kernel_rfl) (fun w hO => (row_any v l i w ((hv.below hO.below).more hO.below.size) hl (by omega)).mono fun e w' ⟨v', ob', k1, k2, k3⟩ => ⟨v', _, k1, ⟨ob', rfl, by rw [hp] at k2; exact k2⟩, Own.joinN hO k3⟩) (fun v1 L1 hv1 => ?_)
  obtain ⟨o1, rfl, hr1⟩ := hv1
  obtain ⟨V1, c1, rfl⟩ := hr1.form
  refine s_val (v) (by kernel_rfl) (fun _ => by kernel_rfl) ?_
  refine s_val (.int .i64 (i : Int)) (by kernel_rfl) (fun _ => by kernel_rfl) ?_
  refine s_sum (k := .i64) (((i + 49 : Nat) : Int)) (by kernel_rfl) (fun _ => by kernel_rfl) (IntWalk.i64_in _ (by omega)) ?_
  refine s_callo (k := 38) (args := #[v, .int .i64 ((i + 49 : Nat) : Int)]) (fun v' L' => ∃ ob', L' = ob' ++ (o1 ++ ([⟨b1, #[.slice none 0 0, .slice none 0 0], 24⟩])) ∧ SlS v' q ob') (by kernel_rfl) (fun _ => by kernel_rfl) (fun w hO => (row_any v l (i + 49) w ((hv.below hO.below).more hO.below.size) hl (by omega)).mono fun e w' ⟨v', ob', k1, k2, k3⟩ => ⟨v', _, k1, ⟨ob', rfl, by rw [hq] at k2; exact k2⟩, Own.joinN hO k3⟩) (fun v2 L2 hv2 => ?_)
  obtain ⟨o2, rfl, hr2⟩ := hv2
  obtain ⟨V2, c2, rfl⟩ := hr2.form
  refine s_callo (k := 13) (args := #[.slice V1 p.length c1, .slice V2 q.length c2]) (fun v' L' => ∃ mv ob', v' = .tuple #[mv, .bool true] ∧ L' = ob' ++ (o2 ++ (o1 ++ ([⟨b1, #[.slice none 0 0, .slice none 0 0], 24⟩]))) ∧ SetO mv ⟨makeRel p, q⟩ ob') (by kernel_rfl) (fun _ => by kernel_rfl) (fun w hO => (rsetMake_any V1 V2 c1 c2 p q w (Sl.reads hr1 rfl hO (fun x hx => by simp [hx])) (Sl.reads hr2 rfl hO (fun x hx => by simp [hx])) (Nat.le_trans fp.len (by decide)) (Nat.le_trans fq.len (by decide)) fp.short fq.short).mono fun e w' ⟨v', ob', k1, k2, k3⟩ => ⟨_, _, k1, ⟨v', ob', by rw [fp.may, fq.may]; rfl, rfl, by rw [if_pos (by rw [fp.may, fq.may]; rfl)] at k2; exact k2⟩, Own.joinN hO k3⟩) (fun tv L3 hv3 => ?_)
  obtain ⟨v3, o3, rfl, rfl, hr3⟩ := hv3
  obtain ⟨V3, U3, c3, d3, rfl⟩ := hr3.form
  refine s_take (L' := ⟨b1, #[.slice none 0 0, .slice none 0 0], 24⟩ :: o3) (fun w hO => own_set hO) ?_
  refine s_val (.tuple #[.agg #[.slice V3 ((makeRel p).length) c3, .slice U3 q.length d3], .bool true]) (by kernel_rfl) (fun _ => by kernel_rfl) ?_
  refine s_val (.agg #[.slice V3 ((makeRel p).length) c3, .slice U3 q.length d3]) (by kernel_rfl) (fun _ => by kernel_rfl) ?_
  refine s_val (.bool true) (by kernel_rfl) (fun _ => by kernel_rfl) ?_
  refine s_alloc_at (.agg #[.slice none 0 0, .slice none 0 0]) (by kernel_rfl) rfl (by kernel_rfl) (fun b2 => ?_)
  refine s_store_at 0 ⟨b2, #[.slice none 0 0, .slice none 0 0], 24⟩ (off := 0) (.agg #[.slice V3 ((makeRel p).length) c3, .slice U3 q.length d3]) (by kernel_rfl) rfl rfl (by kernel_rfl) (by kernel_rfl) (by kernel_rfl) (by kernel_rfl) (by kernel_rfl) ?_
  refine s_val (.bool true) (by kernel_rfl) (fun _ => by kernel_rfl) ?_
  refine s_nil ?_
  refine fin_seq ?_
  refine ok_seq ?_
  refine ok_region ?_
  refine s_load 0 ⟨b2, #[.slice V3 ((makeRel p).length) c3, .slice U3 q.length d3], 24⟩ (off := 0) (.agg #[.slice V3 ((makeRel p).length) c3, .slice U3 q.length d3]) (by kernel_rfl) rfl (by kernel_rfl) (by kernel_rfl) (by kernel_rfl) ?_
  refine s_store_at 1 ⟨b1, #[.slice none 0 0, .slice none 0 0], 24⟩ (off := 0) (.agg #[.slice V3 ((makeRel p).length) c3, .slice U3 q.length d3]) (by kernel_rfl) rfl rfl (by kernel_rfl) (by kernel_rfl) (by kernel_rfl) (by kernel_rfl) (by kernel_rfl) ?_
  refine s_nil ?_
  refine fin_seq ?_
  refine ok_ret ?_
  refine fin_cell 1 ⟨b1, #[.slice V3 ((makeRel p).length) c3, .slice U3 q.length d3], 24⟩ (off := 0) (.agg #[.slice V3 ((makeRel p).length) c3, .slice U3 q.length d3]) Tryz.results34 (by kernel_rfl) (by kernel_rfl) (by kernel_rfl) ?_
  exact fun w hO => ⟨_, o3, rfl, hr3, own_mid0 (own_mid0 hO)⟩
end Go.Proofs.YtgeccfdofmnphaaGreat
end

section
/-
  Sets: what the laws over them lean on. No condition.
-/
namespace Go.Proofs.YtgeccfdofmnphaaGreat
open Go.RowKit
set_option maxRecDepth 100000
set_option linter.unusedVariables false
set_option linter.unusedSimpArgs false
set_option maxHeartbeats 2000000

theorem andT_eq {a b c : St} : andT a b = c ↔ andL a.rel b.rel = c.rel ∧ andL a.pre b.pre = c.pre := ⟨fun h => by rw [← h]; exact ⟨rfl, rfl⟩, fun h => St.eq h.1 h.2⟩
instance : DecidableEq St := fun a b => decidable_of_iff (a.rel = b.rel ∧ a.pre = b.pre) ⟨fun h => St.eq h.1 h.2, fun h => by rw [h]; exact ⟨rfl, rfl⟩⟩
theorem within_b {a b : St} {n m : Nat} (ha : SF a n) (hb : SF b m) : (a.may && b.may && decide (andL a.rel b.rel = a.rel) && decide (andL a.pre b.pre = a.pre)) = decide (andT a b = a) := by
  rw [ha.may, hb.may, Bool.true_and, Bool.true_and, ← Bool.decide_and]; exact decide_eq_decide.2 andT_eq.symm
theorem apart_b {a b : St} {n m : Nat} (ha : SF a n) (hb : SF b m) : (a.may && b.may && decide ((andT a b).rel = []) && decide ((andT a b).pre = [])) = decide (andT a b = noneT) := by
  rw [ha.may, hb.may, Bool.true_and, Bool.true_and, ← Bool.decide_and]; exact decide_eq_decide.2 ⟨fun h => St.eq h.1 h.2, fun h => by rw [h]; exact ⟨rfl, rfl⟩⟩
theorem same_b (a b : St) : (decide (a.rel = b.rel) && decide (a.pre = b.pre)) = decide (a = b) := by
  rw [← Bool.decide_and]; exact decide_eq_decide.2 ⟨fun h => St.eq h.1 h.2, fun h => by rw [h]; exact ⟨rfl, rfl⟩⟩
end Go.Proofs.YtgeccfdofmnphaaGreat
end
