/-
  digest: the landed package: Pair, Root: what they return; nothing that was there is changed. Conditions: slices of at most a million.
-/
import Derived.Test.YtjgmmeienchfnaaP9a
namespace Go.Proofs.Ytjgmmeienchfnaa
open Go.RowKit
set_option maxRecDepth 100000
set_option linter.unusedVariables false
set_option linter.unusedSimpArgs false
set_option maxHeartbeats 2000000

theorem d9Pair_any (a b : UInt64) (W : World) : Calls Try.prog 16 #[.int .u64 (a.toNat : Int), .int .u64 (b.toNat : Int)] W fun e w' => e = .returned (.int .u64 ((dPair a b).toNat : Int)) ∧ Below W.heap.size W w' := by
  refine calls_ok (n := 30) Try.func16 rfl (by kernel_rfl) (by kernel_rfl) ?_
  refine ok_seq ?_
  refine ok_region ?_
  refine s_val (.int .u64 0) (by kernel_rfl) (fun _ => by kernel_rfl) ?_
  refine s_nil ?_
  refine fin_seq ?_
  refine ok_seq ?_
  refine ok_region ?_
  refine s_alloc_at (.agg #[.int .u8 0, .int .u8 0, .int .u8 0, .int .u8 0, .int .u8 0, .int .u8 0, .int .u8 0, .int .u8 0, .int .u8 0, .int .u8 0, .int .u8 0, .int .u8 0, .int .u8 0, .int .u8 0, .int .u8 0, .int .u8 0]) (by kernel_rfl) rfl (by kernel_rfl) (fun b1 => ?_)
  refine s_nil ?_
  refine fin_seq ?_
  refine ok_seq ?_
  refine ok_seq ?_
  refine ok_region ?_
  refine s_val (.int .i64 0) (by kernel_rfl) (fun _ => by kernel_rfl) ?_
  refine s_nil ?_
  refine fin_seq ?_
  refine ok_block ?_
  refine ok_cast (L' := [⟨b1, arrC (padB [] 8 ++ padB [] 8), 43⟩]) (by show [(⟨b1, _, _⟩ : Blk)] = _; congr 2) ?_
  refine ok_loop (fun L f m => ∃ (k : Nat) (xs : List UInt8) (ys : List UInt8) (j : Nat → Value), (xs = byK a k ∧ ys = byK b k ∧ k ≤ 8) ∧ L = [⟨b1, arrC (padB xs 8 ++ padB ys 8), 43⟩] ∧ f = upds j [(0, .int .u64 (a.toNat : Int)), (1, .int .u64 (b.toNat : Int)), (5, .pointer (some ⟨b1, 0, none⟩)), (8, .int .i64 (k : Int))] ∧ m = 8 - k) (8 - 0) ⟨0, [], [], _, ⟨rfl, rfl, by omega⟩, rfl, upds_self _ ⟨by kernel_rfl, by kernel_rfl, by kernel_rfl, by kernel_rfl, trivial⟩, rfl⟩ ?_
  rintro L f m ⟨k, xs, ys, j, hrel, rfl, rfl, rfl⟩
  obtain ⟨hxs, hys, hk⟩ := hrel
  refine ok_seq ?_
  refine ok_region ?_
  by_cases h1 : (k : Int) < 8
  · skip
    have hk8 : k < 8 := by omega
    have hxl : xs.length = k := by rw [hxs]; exact byK_len _ _
    have hyl : ys.length = k := by rw [hys]; exact byK_len _ _
    have hpl : (padB xs 8).length = 8 := padB_len (by omega)
    have hql : (padB ys 8).length = 8 := padB_len (by omega)
    have hpl2 : (padB (xs ++ [(a >>> UInt64.ofNat (8 * (7 - k))).toUInt8]) 8).length = 8 := padB_len (by rw [List.length_append, List.length_singleton]; omega)
    have hsum : (padB xs 8 ++ padB ys 8).length = 16 := by rw [List.length_append]; omega
    have hsum2 : (padB (xs ++ [(a >>> UInt64.ofNat (8 * (7 - k))).toUInt8]) 8 ++ padB ys 8).length = 16 := by rw [List.length_append]; omega
    refine s_dec (p := (k : Int) < 8) true (by kernel_rfl) (fun _ => by kernel_rfl) (decide_eq_true (h1)) ?_
    refine s_nil ?_
    refine fin_seq ?_
    refine ok_seq ?_
    refine ok_true (by kernel_rfl) ?_
    refine ok_skip ?_
    refine fin_seq ?_
    refine ok_seq ?_
    refine ok_block ?_
    refine ok_seq ?_
    refine ok_region ?_
    refine s_val (.int .i64 (k : Int)) (by kernel_rfl) (fun _ => by kernel_rfl) ?_
    refine s_val (.int .i64 (k : Int)) (by kernel_rfl) (fun _ => by kernel_rfl) ?_
    refine s_nil ?_
    refine fin_seq ?_
    refine ok_seq ?_
    refine ok_region ?_
    refine s_val (.int .i64 (k : Int)) (by kernel_rfl) (fun _ => by kernel_rfl) ?_
    refine s_sum (k := .i64) ((7 : Int) - (k : Int)) (by kernel_rfl) (fun _ => by kernel_rfl) (IntWalk.i64_in _ (by omega)) ?_
    refine s_sum (k := .i64) ((8 : Int) * ((7 : Int) - (k : Int))) (by kernel_rfl) (fun _ => by kernel_rfl) (IntWalk.i64_in _ (by omega)) ?_
    refine s_val (.int .i64 ((8 : Int) * ((7 : Int) - (k : Int)))) (by kernel_rfl) (fun _ => by kernel_rfl) ?_
    refine s_nil ?_
    refine fin_seq ?_
    refine ok_seq ?_
    refine ok_region ?_
    refine s_val (.int .i64 (k : Int)) (by kernel_rfl) (fun _ => by kernel_rfl) ?_
    refine s_val (.int .u64 (a.toNat : Int)) (by kernel_rfl) (fun _ => by kernel_rfl) ?_
    refine s_val (.int .i64 ((8 : Int) * ((7 : Int) - (k : Int)))) (by kernel_rfl) (fun _ => by kernel_rfl) ?_
    refine s_val (.int .u64 ((a >>> UInt64.ofNat (8 * (7 - k))).toNat : Int)) (by kernel_rfl) (run_shr64z (x := a) (yk := .i64) (n := 8 * (7 - k)) (z := (8 : Int) * ((7 : Int) - (k : Int))) rfl (by kernel_rfl) (by kernel_rfl) (by omega) (by omega)) ?_
    refine s_val (.int .u8 ((((a >>> UInt64.ofNat (8 * (7 - k)))).toUInt8).toNat : Int)) (by kernel_rfl) (run_to8 (x := (a >>> UInt64.ofNat (8 * (7 - k)))) rfl (by kernel_rfl) (by rw [Try.underlying24]; rfl) Try.underlying5) ?_
    refine s_val (.pointer (some ⟨b1, k, none⟩)) (by kernel_rfl) (run_ixarr (b := b1) (off := 0) (k := .i64) (j := (k : Int)) (n := 16) (e := 5) (sz := 1) rfl (by kernel_rfl) (by kernel_rfl) (by kernel_rfl) (by kernel_rfl) (by omega) (by omega) (by omega)) ?_
    refine s_storeS 0 ⟨b1, (arrC (padB xs 8 ++ padB ys 8)), 43⟩ (off := k) (.int .u8 ((((a >>> UInt64.ofNat (8 * (7 - k)))).toUInt8).toNat : Int)) 1 (by kernel_rfl) rfl rfl (by kernel_rfl) (by kernel_rfl) (by kernel_rfl) (by kernel_rfl) (by kernel_rfl) (by show _ + 1 ≤ (arrC _).size; rw [arrC_size]; omega) (by kernel_rfl) ?_
    refine s_cast (L' := [⟨b1, arrC (padB (xs ++ [(a >>> UInt64.ofNat (8 * (7 - k))).toUInt8]) 8 ++ padB ys 8), 43⟩]) (by show [(⟨b1, storeIn _ _ _, _⟩ : Blk)] = _; rw [arrC_set (by omega), pad2_fst hxl hk8]) ?_
    refine s_nil ?_
    refine fin_seq ?_
    refine ok_region ?_
    refine s_val (.int .i64 (k : Int)) (by kernel_rfl) (fun _ => by kernel_rfl) ?_
    refine s_sum (k := .i64) ((8 : Int) + (k : Int)) (by kernel_rfl) (fun _ => by kernel_rfl) (IntWalk.i64_in _ (by omega)) ?_
    refine s_val (.int .u64 (b.toNat : Int)) (by kernel_rfl) (fun _ => by kernel_rfl) ?_
    refine s_val (.int .i64 ((8 : Int) * ((7 : Int) - (k : Int)))) (by kernel_rfl) (fun _ => by kernel_rfl) ?_
    refine s_val (.int .u64 ((b >>> UInt64.ofNat (8 * (7 - k))).toNat : Int)) (by kernel_rfl) (run_shr64z (x := b) (yk := .i64) (n := 8 * (7 - k)) (z := (8 : Int) * ((7 : Int) - (k : Int))) rfl (by kernel_rfl) (by kernel_rfl) (by omega) (by omega)) ?_
    refine s_val (.int .u8 ((((b >>> UInt64.ofNat (8 * (7 - k)))).toUInt8).toNat : Int)) (by kernel_rfl) (run_to8 (x := (b >>> UInt64.ofNat (8 * (7 - k)))) rfl (by kernel_rfl) (by rw [Try.underlying24]; rfl) Try.underlying5) ?_
    refine s_val (.pointer (some ⟨b1, 8 + k, none⟩)) (by kernel_rfl) (run_ixarr (b := b1) (off := 0) (k := .i64) (j := (8 : Int) + (k : Int)) (n := 16) (e := 5) (sz := 1) rfl (by kernel_rfl) (by kernel_rfl) (by kernel_rfl) (by kernel_rfl) (by omega) (by omega) (by omega)) ?_
    refine s_storeS 0 ⟨b1, (arrC (padB (xs ++ [(a >>> UInt64.ofNat (8 * (7 - k))).toUInt8]) 8 ++ padB ys 8)), 43⟩ (off := 8 + k) (.int .u8 ((((b >>> UInt64.ofNat (8 * (7 - k)))).toUInt8).toNat : Int)) 1 (by kernel_rfl) rfl rfl (by kernel_rfl) (by kernel_rfl) (by kernel_rfl) (by kernel_rfl) (by kernel_rfl) (by show _ + 1 ≤ (arrC _).size; rw [arrC_size]; omega) (by kernel_rfl) ?_
    refine s_cast (L' := [⟨b1, arrC (padB (xs ++ [(a >>> UInt64.ofNat (8 * (7 - k))).toUInt8]) 8 ++ padB (ys ++ [(b >>> UInt64.ofNat (8 * (7 - k))).toUInt8]) 8), 43⟩]) (by show [(⟨b1, storeIn _ _ _, _⟩ : Blk)] = _; rw [arrC_set (by omega), pad2_snd hyl hk8 hpl2]) ?_
    refine s_nil ?_
    refine fin_block ?_
    refine fin_seq ?_
    refine ok_region ?_
    refine s_sum (k := .i64) (((k + 1 : Nat) : Int)) (by kernel_rfl) (fun _ => by kernel_rfl) (IntWalk.i64_in _ (by omega)) ?_
    refine s_val (.int .i64 ((k + 1 : Nat) : Int)) (by kernel_rfl) (fun _ => by kernel_rfl) ?_
    refine s_nil ?_
    exact fin_round (m' := 8 - (k + 1)) (by omega) ⟨k + 1, (xs ++ [(a >>> UInt64.ofNat (8 * (7 - k))).toUInt8]), (ys ++ [(b >>> UInt64.ofNat (8 * (7 - k))).toUInt8]), _, ⟨by rw [byK_step, ← hxs], by rw [byK_step, ← hys], by omega⟩, rfl, upds_self _ ⟨by kernel_rfl, by kernel_rfl, by kernel_rfl, by kernel_rfl, trivial⟩, rfl⟩
  · skip
    have hk8 : k = 8 := by omega
    have hall : padB xs 8 ++ padB ys 8 = dBytes a ++ dBytes b := by rw [padB_all (by rw [hxs, byK_len]; exact hk8), padB_all (by rw [hys, byK_len]; exact hk8), hxs, hys, byK_all a hk8, byK_all b hk8]
    have hl16 : (dBytes a ++ dBytes b).length = 16 := rfl
    rw [hall]
    refine s_dec (p := (k : Int) < 8) false (by kernel_rfl) (fun _ => by kernel_rfl) (decide_eq_false (h1)) ?_
    refine s_nil ?_
    refine fin_seq ?_
    refine ok_seq ?_
    refine ok_false (by kernel_rfl) ?_
    refine ok_exit ?_
    refine fin_seq_exit ?_
    refine fin_round_exit ?_
    refine fin_block_exit ?_
    refine fin_seq ?_
    refine ok_seq ?_
    refine ok_region ?_
    refine s_val (.slice (some ⟨b1, 0, none⟩) ((dBytes a ++ dBytes b).length) 16) (by kernel_rfl) (fun w => by rw [hl16]; exact run_slarr (b := b1) (n := 16) (e := 5) (sz := 1) rfl (by kernel_rfl) (by kernel_rfl) (by kernel_rfl) w) ?_
    refine s_call (k := 10) (args := #[.slice (some ⟨b1, 0, none⟩) ((dBytes a ++ dBytes b).length) 16]) (.int .u64 ((dSum (dBytes a ++ dBytes b)).toNat : Int)) (by kernel_rfl) (fun _ => by kernel_rfl) (fun w hO => d9Sum_any _ 16 (dBytes a ++ dBytes b) w (hO.arr (T := 43) (List.mem_cons_self ..)) (by rw [hl16]; decide)) ?_
    refine s_val (.int .u64 ((dSum (dBytes a ++ dBytes b)).toNat : Int)) (by kernel_rfl) (fun _ => by kernel_rfl) ?_
    refine s_nil ?_
    refine fin_seq ?_
    refine ok_ret ?_
    refine fin_ret (.int .u64 ((dSum (dBytes a ++ dBytes b)).toNat : Int)) Try.results16 (by kernel_rfl) ?_
    exact fun w hO => ⟨rfl, hO.below⟩
theorem d9Root_any (A : Option Addr) (cap : Nat) (l : List UInt64) (W : World) (hv : Reads u64C W W.heap.size A l) (hn : l.length ≤ 1000000) : Calls Try.prog 18 #[.slice A l.length cap] W fun e w' => e = .returned (.int .u64 ((dRoot l).toNat : Int)) ∧ Below W.heap.size W w' := by
  refine calls_ok (n := 18) Try.func18 rfl (by kernel_rfl) (by kernel_rfl) ?_
  refine ok_seq ?_
  refine ok_region ?_
  refine s_val (.int .u64 0) (by kernel_rfl) (fun _ => by kernel_rfl) ?_
  refine s_nil ?_
  refine fin_seq ?_
  refine ok_seq ?_
  refine ok_region ?_
  refine s_call (k := 10) (args := #[.slice none 0 0]) (.int .u64 ((dSum []).toNat : Int)) (by kernel_rfl) (fun _ => by kernel_rfl) (fun w _ => d9Sum_any none 0 [] w (fun h => absurd h (by simp)) (by simp)) ?_
  refine s_val (.int .u64 ((dSum []).toNat : Int)) (by kernel_rfl) (fun _ => by kernel_rfl) ?_
  refine s_nil ?_
  refine fin_seq ?_
  refine ok_seq ?_
  refine ok_seq ?_
  refine ok_region ?_
  refine s_val (.slice A l.length cap) (by kernel_rfl) (fun _ => by kernel_rfl) ?_
  refine s_val (.int .i64 (l.length : Int)) (by kernel_rfl) (fun _ => by kernel_rfl) ?_
  refine s_val (.int .i64 0) (by kernel_rfl) (fun _ => by kernel_rfl) ?_
  refine s_nil ?_
  refine fin_seq ?_
  refine ok_block ?_
  refine ok_loop (fun L f m => ∃ (k : Nat) (j : Nat → Value), (k ≤ l.length) ∧ L = [] ∧ f = upds j [(0, .slice A l.length cap), (3, .int .u64 ((dRootK l k).toNat : Int)), (7, .slice A l.length cap), (8, .int .i64 (l.length : Int)), (9, .int .i64 (k : Int))] ∧ m = l.length - k) (l.length - 0) ⟨0, _, Nat.zero_le _, rfl, upds_self _ ⟨by kernel_rfl, by kernel_rfl, by kernel_rfl, by kernel_rfl, by kernel_rfl, trivial⟩, rfl⟩ ?_
  rintro L f m ⟨k, j, hrel, rfl, rfl, rfl⟩
  refine ok_seq ?_
  refine ok_region ?_
  by_cases h1 : (k : Int) < (l.length : Int)
  · skip
    have hk : k < l.length := by omega
    obtain ⟨bp, off, hA, hlt, hcell⟩ := hv (by omega)
    obtain ⟨s, hs⟩ : ∃ s, l[k] = s := ⟨_, rfl⟩
    refine s_dec (p := (k : Int) < (l.length : Int)) true (by kernel_rfl) (fun _ => by kernel_rfl) (decide_eq_true (h1)) ?_
    refine s_nil ?_
    refine fin_seq ?_
    refine ok_seq ?_
    refine ok_true (by kernel_rfl) ?_
    refine ok_skip ?_
    refine fin_seq ?_
    refine ok_seq ?_
    refine ok_block ?_
    refine ok_seq ?_
    refine ok_region ?_
    refine s_val (.pointer (some ⟨bp, off + k * 1, none⟩)) (by kernel_rfl) (run_ixA (b := bp) (off := off) (c := cap) (n := l.length) (k := .i64) (j := (k : Int)) (e := 24) (sz := 1) rfl (by kernel_rfl) hA (by kernel_rfl) (by kernel_rfl) (by kernel_rfl) (by omega) (by omega) (by omega)) ?_
    refine s_old (.int .u64 (s.toNat : Int)) (a := ⟨bp, off + k * 1, none⟩) (by kernel_rfl) rfl (by kernel_rfl) (fun w hO => elem_load (ty := 24) u64C_len (fun j u h => (hO.below.cell (p := ⟨bp, off + j, none⟩) hlt).trans (hcell j u h)) k 0 hk (by omega) _ (by rw [hs]; kernel_rfl)) ?_
    refine s_val (.int .u64 (s.toNat : Int)) (by kernel_rfl) (fun _ => by kernel_rfl) ?_
    refine s_nil ?_
    refine fin_seq ?_
    refine ok_region ?_
    refine s_val (.int .u64 ((dRootK l k).toNat : Int)) (by kernel_rfl) (fun _ => by kernel_rfl) ?_
    refine s_val (.int .u64 (s.toNat : Int)) (by kernel_rfl) (fun _ => by kernel_rfl) ?_
    refine s_call (k := 16) (args := #[.int .u64 ((dRootK l k).toNat : Int), .int .u64 (s.toNat : Int)]) (.int .u64 ((dPair (dRootK l k) s).toNat : Int)) (by kernel_rfl) (fun _ => by kernel_rfl) (fun w _ => d9Pair_any (dRootK l k) s w) ?_
    refine s_val (.int .u64 ((dPair (dRootK l k) s).toNat : Int)) (by kernel_rfl) (fun _ => by kernel_rfl) ?_
    refine s_nil ?_
    refine fin_block ?_
    refine fin_seq ?_
    refine ok_region ?_
    refine s_sum (k := .i64) (((k + 1 : Nat) : Int)) (by kernel_rfl) (fun _ => by kernel_rfl) (IntWalk.i64_in _ (by omega)) ?_
    refine s_val (.int .i64 ((k + 1 : Nat) : Int)) (by kernel_rfl) (fun _ => by kernel_rfl) ?_
    refine s_nil ?_
    have hstep : (dPair (dRootK l k) s) = dRootK l (k + 1) := by rw [← dRootK_step hk, hs]
    rw [hstep]
    exact fin_round (m' := l.length - (k + 1)) (by omega) ⟨k + 1, _, by omega, rfl, upds_self _ ⟨by kernel_rfl, by kernel_rfl, by kernel_rfl, by kernel_rfl, by kernel_rfl, trivial⟩, rfl⟩
  · skip
    refine s_dec (p := (k : Int) < (l.length : Int)) false (by kernel_rfl) (fun _ => by kernel_rfl) (decide_eq_false (h1)) ?_
    refine s_nil ?_
    refine fin_seq ?_
    refine ok_seq ?_
    refine ok_false (by kernel_rfl) ?_
    refine ok_exit ?_
    refine fin_seq_exit ?_
    refine fin_round_exit ?_
    refine fin_block_exit ?_
    refine fin_seq ?_
    refine ok_seq ?_
    refine ok_region ?_
    refine s_val (.int .u64 ((dRootK l k).toNat : Int)) (by kernel_rfl) (fun _ => by kernel_rfl) ?_
    refine s_val (.int .u64 ((dRootK l k).toNat : Int)) (by kernel_rfl) (fun _ => by kernel_rfl) ?_
    refine s_nil ?_
    refine fin_seq ?_
    refine ok_ret ?_
    refine fin_ret (.int .u64 ((dRootK l k).toNat : Int)) Try.results18 (by kernel_rfl) ?_
    exact fun w hO => ⟨by rw [dRootK_all (l := l) (k := k) (by omega)], hO.below⟩
end Go.Proofs.Ytjgmmeienchfnaa
