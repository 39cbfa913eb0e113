/-
  linchpinref9: Pair, Root: what they return; nothing that was there is changed. Conditions: slices of at most a million.
-/
import Derived.Test.YtjgmmeienchfnaaR9a
namespace Go.Proofs.Ytjgmmeienchfnaa
open Go.RowKit
set_option maxRecDepth 100000
set_option linter.unusedVariables false
set_option linter.unusedSimpArgs false
set_option maxHeartbeats 2000000

/-- The first k bytes of a number, the highest first. -/
def byK (n : UInt64) (k : Nat) : List UInt8 := (List.range k).map fun i => (n >>> UInt64.ofNat (8 * (7 - i))).toUInt8
theorem byK_len (n : UInt64) (k : Nat) : (byK n k).length = k := by unfold byK; simp
theorem byK_step (n : UInt64) (k : Nat) : byK n (k + 1) = byK n k ++ [(n >>> UInt64.ofNat (8 * (7 - k))).toUInt8] := by unfold byK; rw [List.range_succ, List.map_append]; rfl
theorem byK_all (n : UInt64) {k : Nat} (h : k = 8) : byK n k = dBytes n := by subst h; rfl
theorem dBytes_len (n : UInt64) : (dBytes n).length = 8 := rfl
theorem r9Pair_any (a b : UInt64) (W : World) : Calls Try.prog 17 #[.int .u64 (a.toNat : Int), .int .u64 (b.toNat : Int)] W fun e w' => e = .returned (.int .u64 ((dPair a b).toNat : Int)) ∧ Below W.heap.size W w' := by
  refine calls_ok (n := 36) Try.func17 rfl (by kernel_rfl) (by kernel_rfl) ?_
  refine ok_seq ?_
  refine ok_region ?_
  refine s_val (.int .u64 0) (by kernel_rfl) (fun _ => by kernel_rfl) ?_
  refine s_nil ?_
  refine fin_seq ?_
  refine ok_seq ?_
  refine ok_region ?_
  refine s_val (.slice none 0 0) (by kernel_rfl) (fun _ => by kernel_rfl) ?_
  refine s_nil ?_
  refine fin_seq ?_
  refine ok_seq ?_
  refine ok_seq ?_
  refine ok_region ?_
  refine s_val (.int .i64 7) (by kernel_rfl) (fun _ => by kernel_rfl) ?_
  refine s_nil ?_
  refine fin_seq ?_
  refine ok_block ?_
  refine ok_cast (L' := ([] ++ [] : List Blk)) rfl ?_
  refine ok_loop (fun L f m => ∃ (k : Nat) (z : Int) (A : Option Addr) (cap : Nat) (xs : List UInt8) (oc : List Blk) (j : Nat → Value), (xs = byK a k ∧ SlB (.slice A xs.length cap) xs oc ∧ k ≤ 8 ∧ z = 7 - (k : Int)) ∧ L = (oc ++ []) ∧ f = upds j [(0, .int .u64 (a.toNat : Int)), (1, .int .u64 (b.toNat : Int)), (5, .slice A xs.length cap), (6, .int .i64 z)] ∧ m = 8 - k) (8 - 0) ⟨0, 7, none, 0, [], [], _, ⟨rfl, Sl.nil _ _, by omega, by omega⟩, rfl, upds_self _ ⟨by kernel_rfl, by kernel_rfl, by kernel_rfl, by kernel_rfl, trivial⟩, rfl⟩ ?_
  rintro L f m ⟨k, z, A, cap, xs, oc, j, hrel, rfl, rfl, rfl⟩
  obtain ⟨hxs, hsl, hk, hz⟩ := hrel; refine ok_cast (L' := oc) (by simp) ?_
  refine ok_seq ?_
  refine ok_seq ?_
  refine ok_region ?_
  refine s_val (.int .i64 z) (by kernel_rfl) (fun _ => by kernel_rfl) ?_
  by_cases h1 : (0 : Int) ≤ z
  · skip
    obtain ⟨i, hi⟩ : ∃ i : Nat, z = (i : Int) := ⟨z.toNat, by omega⟩
    have hxl : xs.length = k := by rw [hxs]; simp [byK_len, dBytes_len]
    refine s_dec (p := (0 : Int) ≤ z) true (by kernel_rfl) (fun _ => by kernel_rfl) (decide_eq_true (h1)) ?_
    refine s_nil ?_
    refine fin_seq ?_
    refine ok_true (by kernel_rfl) ?_
    refine ok_skip ?_
    refine fin_seq ?_
    refine ok_seq ?_
    refine ok_block ?_
    refine ok_region ?_
    refine s_val (.slice A xs.length cap) (by kernel_rfl) (fun _ => by kernel_rfl) ?_
    refine s_val (.int .u64 (a.toNat : Int)) (by kernel_rfl) (fun _ => by kernel_rfl) ?_
    refine s_val (.int .i64 z) (by kernel_rfl) (fun _ => by kernel_rfl) ?_
    refine s_sum (k := .i64) ((8 : Int) * z) (by kernel_rfl) (fun _ => by kernel_rfl) (IntWalk.i64_in _ (by omega)) ?_
    refine s_val (.int .u64 ((8 * i : Nat) : Int)) (by kernel_rfl) (fun w => by rw [show ((8 * i : Nat) : Int) = (8 : Int) * z from by rw [hi]; omega]; exact run_toint (k := .i64) (q := .u64) (x := (8 : Int) * z) rfl (by kernel_rfl) (by rw [Try.underlying3]; rfl) Try.underlying39 (wrap_u64 (by omega) (by omega)) w) ?_
    refine s_val (.int .u64 ((a >>> UInt64.ofNat (8 * i)).toNat : Int)) (by kernel_rfl) (run_shr64 (x := a) (yk := .u64) (n := 8 * i) rfl (by kernel_rfl) (by kernel_rfl) (by omega)) ?_
    refine s_val (.int .u8 ((((a >>> UInt64.ofNat (8 * i))).toUInt8).toNat : Int)) (by kernel_rfl) (run_to8 (x := (a >>> UInt64.ofNat (8 * i))) rfl (by kernel_rfl) (by rw [Try.underlying24]; rfl) Try.underlying5) ?_
    refine s_lit 5 #[.int .u8 ((((a >>> UInt64.ofNat (8 * i))).toUInt8).toNat : Int)] (by kernel_rfl) rfl (fun _ => by kernel_rfl) (fun b1 => ?_)
    obtain ⟨i0, z0, e1, e2, e3, e4, e5⟩ := u8_info
    refine s_cast (L' := [⟨b1, #[.int .u8 ((((a >>> UInt64.ofNat (8 * i))).toUInt8).toNat : Int)], 5⟩] ++ oc ++ ([] : List Blk)) (by rw [List.append_nil]; rfl) ?_
    refine s_append (sz := 1) (by kernel_rfl) rfl Try.underlying22 e1 e2 e3 e4 (by kernel_rfl) hsl (a := ⟨b1, 0, none⟩) (m := 1) (c := 1) (news := u8C (((a >>> UInt64.ofNat (8 * i))).toUInt8)) (by kernel_rfl) rfl (fun w hO j u hj => ?_) (fun u hu => by rw [List.mem_singleton.1 hu]; rfl) (by unfold maxLen; omega) (by rw [e5]; omega) (fun u2 ob2 hu2 => ?_)
    · rw [add_off, cell_of_row w b1 (0 + j) (u8C (((a >>> UInt64.ofNat (8 * i))).toUInt8)).toArray 5 _ (hO.held ⟨b1, (u8C (((a >>> UInt64.ofNat (8 * i))).toUInt8)).toArray, 5⟩ (List.mem_append_left _ (List.mem_append_left _ (List.mem_cons_self ..))))]; simpa using hj
    have hu2s : SlB u2 (xs ++ [((a >>> UInt64.ofNat (8 * i))).toUInt8]) ob2 := SlB.add hu2
    obtain ⟨B2, cb2, rfl⟩ := Sl.form9 hu2s
    refine s_take (L' := ob2) (fun w hO => Own.sub [⟨b1, #[.int .u8 ((((a >>> UInt64.ofNat (8 * i))).toUInt8).toNat : Int)], 5⟩] (show Own _ _ w (⟨b1, #[.int .u8 ((((a >>> UInt64.ofNat (8 * i))).toUInt8).toNat : Int)], 5⟩ :: (ob2)) from by rw [List.append_nil] at hO; exact hO)) ?_
    refine s_val (.slice B2 ((xs ++ [((a >>> UInt64.ofNat (8 * i))).toUInt8]).length) cb2) (by kernel_rfl) (fun _ => by kernel_rfl) ?_
    refine s_nil ?_
    refine fin_block ?_
    refine fin_seq ?_
    refine ok_region ?_
    refine s_val (.int .i64 z) (by kernel_rfl) (fun _ => by kernel_rfl) ?_
    refine s_sum (k := .i64) (z - 1) (by kernel_rfl) (fun _ => by kernel_rfl) (IntWalk.i64_in _ (by omega)) ?_
    refine s_val (.int .i64 (z - 1)) (by kernel_rfl) (fun _ => by kernel_rfl) ?_
    refine s_nil ?_
    refine fin_cast (L' := ob2 ++ []) (by simp) ?_
    exact fin_round (m' := 8 - (k + 1)) (by omega) ⟨k + 1, z - 1, B2, cb2, (xs ++ [((a >>> UInt64.ofNat (8 * i))).toUInt8]), ob2, _, ⟨by rw [byK_step, ← hxs, show 7 - k = i by omega], hu2s, by omega, by omega⟩, rfl, upds_self _ ⟨by kernel_rfl, by kernel_rfl, by kernel_rfl, by kernel_rfl, trivial⟩, rfl⟩
  · skip
    refine s_dec (p := (0 : Int) ≤ z) false (by kernel_rfl) (fun _ => by kernel_rfl) (decide_eq_false (h1)) ?_
    refine s_nil ?_
    refine fin_seq ?_
    refine ok_false (by kernel_rfl) ?_
    refine ok_exit ?_
    refine fin_seq_exit ?_
    refine fin_round_exit ?_
    refine fin_block_exit ?_
    refine fin_seq ?_
    refine ok_seq ?_
    refine ok_seq ?_
    refine ok_region ?_
    refine s_val (.int .i64 7) (by kernel_rfl) (fun _ => by kernel_rfl) ?_
    refine s_nil ?_
    refine fin_seq ?_
    refine ok_block ?_
    have hx8 : xs = dBytes a ++ byK b 0 := by rw [hxs, byK_all a (by omega)]; simp [byK]
    refine ok_cast (L' := (oc ++ [] : List Blk)) (by simp) ?_
    refine ok_loop (fun L f m => ∃ (k2 : Nat) (z2 : Int) (A : Option Addr) (cap : Nat) (xs : List UInt8) (oc : List Blk) (j : Nat → Value), (xs = dBytes a ++ byK b k2 ∧ SlB (.slice A xs.length cap) xs oc ∧ k2 ≤ 8 ∧ z2 = 7 - (k2 : Int)) ∧ L = (oc ++ []) ∧ f = upds j [(0, .int .u64 (a.toNat : Int)), (1, .int .u64 (b.toNat : Int)), (5, .slice A xs.length cap), (7, .int .i64 z2)] ∧ m = 8 - k2) (8 - 0) ⟨0, 7, A, cap, xs, oc, _, ⟨hx8, hsl, by omega, by omega⟩, rfl, upds_self _ ⟨by kernel_rfl, by kernel_rfl, by kernel_rfl, by kernel_rfl, trivial⟩, rfl⟩ ?_
    rintro L f m ⟨k2, z2, A, cap, xs, oc, j, hrel, rfl, rfl, rfl⟩
    clear hxs hsl; obtain ⟨hxs, hsl, hk, hz⟩ := hrel; refine ok_cast (L' := oc) (by simp) ?_
    refine ok_seq ?_
    refine ok_seq ?_
    refine ok_region ?_
    refine s_val (.int .i64 z2) (by kernel_rfl) (fun _ => by kernel_rfl) ?_
    by_cases h2 : (0 : Int) ≤ z2
    · skip
      obtain ⟨i, hi⟩ : ∃ i : Nat, z2 = (i : Int) := ⟨z2.toNat, by omega⟩
      have hxl : xs.length = 8 + k2 := by rw [hxs]; simp [byK_len, dBytes_len]
      refine s_dec (p := (0 : Int) ≤ z2) true (by kernel_rfl) (fun _ => by kernel_rfl) (decide_eq_true (h2)) ?_
      refine s_nil ?_
      refine fin_seq ?_
      refine ok_true (by kernel_rfl) ?_
      refine ok_skip ?_
      refine fin_seq ?_
      refine ok_seq ?_
      refine ok_block ?_
      refine ok_region ?_
      refine s_val (.slice A xs.length cap) (by kernel_rfl) (fun _ => by kernel_rfl) ?_
      refine s_val (.int .u64 (b.toNat : Int)) (by kernel_rfl) (fun _ => by kernel_rfl) ?_
      refine s_val (.int .i64 z2) (by kernel_rfl) (fun _ => by kernel_rfl) ?_
      refine s_sum (k := .i64) ((8 : Int) * z2) (by kernel_rfl) (fun _ => by kernel_rfl) (IntWalk.i64_in _ (by omega)) ?_
      refine s_val (.int .u64 ((8 * i : Nat) : Int)) (by kernel_rfl) (fun w => by rw [show ((8 * i : Nat) : Int) = (8 : Int) * z2 from by rw [hi]; omega]; exact run_toint (k := .i64) (q := .u64) (x := (8 : Int) * z2) rfl (by kernel_rfl) (by rw [Try.underlying3]; rfl) Try.underlying39 (wrap_u64 (by omega) (by omega)) w) ?_
      refine s_val (.int .u64 ((b >>> UInt64.ofNat (8 * i)).toNat : Int)) (by kernel_rfl) (run_shr64 (x := b) (yk := .u64) (n := 8 * i) rfl (by kernel_rfl) (by kernel_rfl) (by omega)) ?_
      refine s_val (.int .u8 ((((b >>> UInt64.ofNat (8 * i))).toUInt8).toNat : Int)) (by kernel_rfl) (run_to8 (x := (b >>> UInt64.ofNat (8 * i))) rfl (by kernel_rfl) (by rw [Try.underlying24]; rfl) Try.underlying5) ?_
      refine s_lit 5 #[.int .u8 ((((b >>> UInt64.ofNat (8 * i))).toUInt8).toNat : Int)] (by kernel_rfl) rfl (fun _ => by kernel_rfl) (fun b1 => ?_)
      obtain ⟨i0, z0, e1, e2, e3, e4, e5⟩ := u8_info
      refine s_cast (L' := [⟨b1, #[.int .u8 ((((b >>> UInt64.ofNat (8 * i))).toUInt8).toNat : Int)], 5⟩] ++ oc ++ ([] : List Blk)) (by rw [List.append_nil]; rfl) ?_
      refine s_append (sz := 1) (by kernel_rfl) rfl Try.underlying22 e1 e2 e3 e4 (by kernel_rfl) hsl (a := ⟨b1, 0, none⟩) (m := 1) (c := 1) (news := u8C (((b >>> UInt64.ofNat (8 * i))).toUInt8)) (by kernel_rfl) rfl (fun w hO j u hj => ?_) (fun u hu => by rw [List.mem_singleton.1 hu]; rfl) (by unfold maxLen; omega) (by rw [e5]; omega) (fun u2 ob2 hu2 => ?_)
      · rw [add_off, cell_of_row w b1 (0 + j) (u8C (((b >>> UInt64.ofNat (8 * i))).toUInt8)).toArray 5 _ (hO.held ⟨b1, (u8C (((b >>> UInt64.ofNat (8 * i))).toUInt8)).toArray, 5⟩ (List.mem_append_left _ (List.mem_append_left _ (List.mem_cons_self ..))))]; simpa using hj
      have hu2s : SlB u2 (xs ++ [((b >>> UInt64.ofNat (8 * i))).toUInt8]) ob2 := SlB.add hu2
      obtain ⟨B2, cb2, rfl⟩ := Sl.form9 hu2s
      refine s_take (L' := ob2) (fun w hO => Own.sub [⟨b1, #[.int .u8 ((((b >>> UInt64.ofNat (8 * i))).toUInt8).toNat : Int)], 5⟩] (show Own _ _ w (⟨b1, #[.int .u8 ((((b >>> UInt64.ofNat (8 * i))).toUInt8).toNat : Int)], 5⟩ :: (ob2)) from by rw [List.append_nil] at hO; exact hO)) ?_
      refine s_val (.slice B2 ((xs ++ [((b >>> UInt64.ofNat (8 * i))).toUInt8]).length) cb2) (by kernel_rfl) (fun _ => by kernel_rfl) ?_
      refine s_nil ?_
      refine fin_block ?_
      refine fin_seq ?_
      refine ok_region ?_
      refine s_val (.int .i64 z2) (by kernel_rfl) (fun _ => by kernel_rfl) ?_
      refine s_sum (k := .i64) (z2 - 1) (by kernel_rfl) (fun _ => by kernel_rfl) (IntWalk.i64_in _ (by omega)) ?_
      refine s_val (.int .i64 (z2 - 1)) (by kernel_rfl) (fun _ => by kernel_rfl) ?_
      refine s_nil ?_
      refine fin_cast (L' := ob2 ++ []) (by simp) ?_
      exact fin_round (m' := 8 - (k2 + 1)) (by omega) ⟨k2 + 1, z2 - 1, B2, cb2, (xs ++ [((b >>> UInt64.ofNat (8 * i))).toUInt8]), ob2, _, ⟨by rw [byK_step, ← List.append_assoc, ← hxs, show 7 - k2 = i by omega], hu2s, by omega, by omega⟩, rfl, upds_self _ ⟨by kernel_rfl, by kernel_rfl, by kernel_rfl, by kernel_rfl, trivial⟩, rfl⟩
    · skip
      refine s_dec (p := (0 : Int) ≤ z2) false (by kernel_rfl) (fun _ => by kernel_rfl) (decide_eq_false (h2)) ?_
      refine s_nil ?_
      refine fin_seq ?_
      refine ok_false (by kernel_rfl) ?_
      refine ok_exit ?_
      refine fin_seq_exit ?_
      refine fin_round_exit ?_
      refine fin_block_exit ?_
      refine fin_seq ?_
      refine ok_seq ?_
      refine ok_region ?_
      refine s_val (.slice A xs.length cap) (by kernel_rfl) (fun _ => by kernel_rfl) ?_
      refine s_call (k := 11) (args := #[.slice A xs.length cap]) (.int .u64 ((dSum xs).toNat : Int)) (by kernel_rfl) (fun _ => by kernel_rfl) (fun w hO => r9Sum_any A cap xs w (Sl.reads hsl rfl hO (fun x hx => hx)) (by rw [hxs]; simp [byK_len, dBytes_len]; omega)) ?_
      refine s_val (.int .u64 ((dSum xs).toNat : Int)) (by kernel_rfl) (fun _ => by kernel_rfl) ?_
      refine s_nil ?_
      refine fin_seq ?_
      refine ok_ret ?_
      refine fin_ret (.int .u64 ((dSum xs).toNat : Int)) Try.results17 (by kernel_rfl) ?_
      exact fun w hO => ⟨by rw [hxs, byK_all b (by omega)]; rfl, hO.below⟩
theorem r9Root_any (A : Option Addr) (cap : Nat) (l : List UInt64) (W : World) (hv : Reads u64C W W.heap.size A l) (hn : l.length ≤ 1000000) : Calls Try.prog 19 #[.slice A l.length cap] W fun e w' => e = .returned (.int .u64 ((dRoot l).toNat : Int)) ∧ Below W.heap.size W w' := by
  refine calls_ok (n := 19) Try.func19 rfl (by kernel_rfl) (by kernel_rfl) ?_
  refine ok_seq ?_
  refine ok_region ?_
  refine s_val (.int .u64 0) (by kernel_rfl) (fun _ => by kernel_rfl) ?_
  refine s_nil ?_
  refine fin_seq ?_
  refine ok_seq ?_
  refine ok_region ?_
  refine s_call (k := 11) (args := #[.slice none 0 0]) (.int .u64 ((dSum []).toNat : Int)) (by kernel_rfl) (fun _ => by kernel_rfl) (fun w _ => r9Sum_any none 0 [] w (fun h => absurd h (by simp)) (by simp)) ?_
  refine s_val (.int .u64 ((dSum []).toNat : Int)) (by kernel_rfl) (fun _ => by kernel_rfl) ?_
  refine s_nil ?_
  refine fin_seq ?_
  refine ok_seq ?_
  refine ok_seq ?_
  refine ok_region ?_
  refine s_val (.int .i64 0) (by kernel_rfl) (fun _ => by kernel_rfl) ?_
  refine s_nil ?_
  refine fin_seq ?_
  refine ok_block ?_
  refine ok_loop (fun L f m => ∃ (k : Nat) (j : Nat → Value), (k ≤ l.length) ∧ L = [] ∧ f = upds j [(0, .slice A l.length cap), (3, .int .u64 ((dRootK l k).toNat : Int)), (4, .int .i64 (k : Int))] ∧ m = l.length - k) (l.length - 0) ⟨0, _, Nat.zero_le _, rfl, upds_self _ ⟨by kernel_rfl, by kernel_rfl, by kernel_rfl, trivial⟩, rfl⟩ ?_
  rintro L f m ⟨k, j, hrel, rfl, rfl, rfl⟩
  refine ok_seq ?_
  refine ok_seq ?_
  refine ok_region ?_
  refine s_val (.int .i64 (k : Int)) (by kernel_rfl) (fun _ => by kernel_rfl) ?_
  refine s_val (.slice A l.length cap) (by kernel_rfl) (fun _ => by kernel_rfl) ?_
  refine s_val (.int .i64 (l.length : Int)) (by kernel_rfl) (fun _ => by kernel_rfl) ?_
  by_cases h1 : (k : Int) < (l.length : Int)
  · skip
    have hk : k < l.length := by omega
    obtain ⟨bp, off, hA, hlt, hcell⟩ := hv (by omega)
    obtain ⟨s, hs⟩ : ∃ s, l[k] = s := ⟨_, rfl⟩
    refine s_dec (p := (k : Int) < (l.length : Int)) true (by kernel_rfl) (fun _ => by kernel_rfl) (decide_eq_true (h1)) ?_
    refine s_nil ?_
    refine fin_seq ?_
    refine ok_true (by kernel_rfl) ?_
    refine ok_skip ?_
    refine fin_seq ?_
    refine ok_seq ?_
    refine ok_block ?_
    refine ok_region ?_
    refine s_val (.int .u64 ((dRootK l k).toNat : Int)) (by kernel_rfl) (fun _ => by kernel_rfl) ?_
    refine s_val (.slice A l.length cap) (by kernel_rfl) (fun _ => by kernel_rfl) ?_
    refine s_val (.int .i64 (k : Int)) (by kernel_rfl) (fun _ => by kernel_rfl) ?_
    refine s_val (.pointer (some ⟨bp, off + k * 1, none⟩)) (by kernel_rfl) (run_ixA (b := bp) (off := off) (c := cap) (n := l.length) (k := .i64) (j := (k : Int)) (e := 24) (sz := 1) rfl (by kernel_rfl) hA (by kernel_rfl) (by kernel_rfl) (by kernel_rfl) (by omega) (by omega) (by omega)) ?_
    refine s_old (.int .u64 (s.toNat : Int)) (a := ⟨bp, off + k * 1, none⟩) (by kernel_rfl) rfl (by kernel_rfl) (fun w hO => elem_load (ty := 24) u64C_len (fun j u h => (hO.below.cell (p := ⟨bp, off + j, none⟩) hlt).trans (hcell j u h)) k 0 hk (by omega) _ (by rw [hs]; kernel_rfl)) ?_
    refine s_call (k := 17) (args := #[.int .u64 ((dRootK l k).toNat : Int), .int .u64 (s.toNat : Int)]) (.int .u64 ((dPair (dRootK l k) s).toNat : Int)) (by kernel_rfl) (fun _ => by kernel_rfl) (fun w _ => r9Pair_any (dRootK l k) s w) ?_
    refine s_val (.int .u64 ((dPair (dRootK l k) s).toNat : Int)) (by kernel_rfl) (fun _ => by kernel_rfl) ?_
    refine s_nil ?_
    refine fin_block ?_
    refine fin_seq ?_
    refine ok_region ?_
    refine s_val (.int .i64 (k : Int)) (by kernel_rfl) (fun _ => by kernel_rfl) ?_
    refine s_sum (k := .i64) (((k + 1 : Nat) : Int)) (by kernel_rfl) (fun _ => by kernel_rfl) (IntWalk.i64_in _ (by omega)) ?_
    refine s_val (.int .i64 ((k + 1 : Nat) : Int)) (by kernel_rfl) (fun _ => by kernel_rfl) ?_
    refine s_nil ?_
    have hstep : (dPair (dRootK l k) s) = dRootK l (k + 1) := by rw [← dRootK_step hk, hs]
    rw [hstep]
    exact fin_round (m' := l.length - (k + 1)) (by omega) ⟨k + 1, _, by omega, rfl, upds_self _ ⟨by kernel_rfl, by kernel_rfl, by kernel_rfl, trivial⟩, rfl⟩
  · skip
    refine s_dec (p := (k : Int) < (l.length : Int)) false (by kernel_rfl) (fun _ => by kernel_rfl) (decide_eq_false (h1)) ?_
    refine s_nil ?_
    refine fin_seq ?_
    refine ok_false (by kernel_rfl) ?_
    refine ok_exit ?_
    refine fin_seq_exit ?_
    refine fin_round_exit ?_
    refine fin_block_exit ?_
    refine fin_seq ?_
    refine ok_seq ?_
    refine ok_region ?_
    refine s_val (.int .u64 ((dRootK l k).toNat : Int)) (by kernel_rfl) (fun _ => by kernel_rfl) ?_
    refine s_val (.int .u64 ((dRootK l k).toNat : Int)) (by kernel_rfl) (fun _ => by kernel_rfl) ?_
    refine s_nil ?_
    refine fin_seq ?_
    refine ok_ret ?_
    refine fin_ret (.int .u64 ((dRootK l k).toNat : Int)) Try.results19 (by kernel_rfl) ?_
    exact fun w hO => ⟨by rw [dRootK_all (l := l) (k := k) (by omega)], hO.below⟩
end Go.Proofs.Ytjgmmeienchfnaa
