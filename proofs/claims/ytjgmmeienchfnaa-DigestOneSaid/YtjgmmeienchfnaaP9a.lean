/-
  digest: the landed package: RotateLeft64, Sum, Text, IndexByte among the digits, Read, Pair, Root: what they return; nothing that was there is changed. Conditions: slices and strings of at most a million.
-/
import Derived.Test.YtjgmmeienchfnaaR9b
import Derived.Test.YtjgmmeienchfnaaB10
import Derived.Test.YtjgmmeienchfnaaShelf
namespace Go.Proofs.Ytjgmmeienchfnaa
open Go.RowKit
set_option maxRecDepth 100000
set_option linter.unusedVariables false
set_option linter.unusedSimpArgs false
set_option maxHeartbeats 2000000

theorem d9rot13_any (x : UInt64) (W : World) : Calls Try.prog 21 #[.int .u64 (x.toNat : Int), .int .i64 13] W fun e w' => e = .returned (.int .u64 ((rot13 x).toNat : Int)) ∧ Below W.heap.size W w' := by
  refine calls_ok (n := 17) Try.func21 rfl (by kernel_rfl) (by kernel_rfl) ?_
  refine ok_seq ?_
  refine ok_region ?_
  refine s_val (.int .u64 0) (by kernel_rfl) (fun _ => by kernel_rfl) ?_
  refine s_nil ?_
  refine fin_seq ?_
  refine ok_seq ?_
  refine ok_region ?_
  refine s_val (.int .i64 13) (by kernel_rfl) (fun _ => by kernel_rfl) ?_
  refine s_val (.int .u64 13) (by kernel_rfl) (fun _ => by kernel_rfl) ?_
  refine s_val (.int .u64 13) (by kernel_rfl) (fun _ => by kernel_rfl) ?_
  refine s_val (.int .u64 13) (by kernel_rfl) (fun _ => by kernel_rfl) ?_
  refine s_nil ?_
  refine fin_seq ?_
  refine ok_seq ?_
  refine ok_region ?_
  refine s_val (.int .u64 (x.toNat : Int)) (by kernel_rfl) (fun _ => by kernel_rfl) ?_
  refine s_val (.int .u64 13) (by kernel_rfl) (fun _ => by kernel_rfl) ?_
  refine s_val (.int .u64 ((x <<< UInt64.ofNat 13).toNat : Int)) (by kernel_rfl) (run_shl64 (x := x) (yk := .u64) (n := 13) rfl (by kernel_rfl) (by kernel_rfl) (by decide)) ?_
  refine s_val (.int .u64 (x.toNat : Int)) (by kernel_rfl) (fun _ => by kernel_rfl) ?_
  refine s_val (.int .u64 13) (by kernel_rfl) (fun _ => by kernel_rfl) ?_
  refine s_val (.int .u64 51) (by kernel_rfl) (fun _ => by kernel_rfl) ?_
  refine s_val (.int .u64 ((x >>> UInt64.ofNat 51).toNat : Int)) (by kernel_rfl) (run_shr64 (x := x) (yk := .u64) (n := 51) rfl (by kernel_rfl) (by kernel_rfl) (by decide)) ?_
  refine s_val (.int .u64 (((x <<< UInt64.ofNat 13) ||| (x >>> UInt64.ofNat 51)).toNat : Int)) (by kernel_rfl) (run_or64 (x := (x <<< UInt64.ofNat 13)) (y := (x >>> UInt64.ofNat 51)) rfl (by kernel_rfl) (by kernel_rfl)) ?_
  refine s_val (.int .u64 (((x <<< UInt64.ofNat 13) ||| (x >>> UInt64.ofNat 51)).toNat : Int)) (by kernel_rfl) (fun _ => by kernel_rfl) ?_
  refine s_nil ?_
  refine fin_seq ?_
  refine ok_ret ?_
  refine fin_ret (.int .u64 (((x <<< UInt64.ofNat 13) ||| (x >>> UInt64.ofNat 51)).toNat : Int)) Try.results21 (by kernel_rfl) ?_
  exact fun w hO => ⟨by rw [show rot13 x = ((x <<< UInt64.ofNat 13) ||| (x >>> UInt64.ofNat 51)) from rfl], hO.below⟩
theorem d9rot4_any (x : UInt64) (W : World) : Calls Try.prog 21 #[.int .u64 (x.toNat : Int), .int .i64 4] W fun e w' => e = .returned (.int .u64 ((rot4 x).toNat : Int)) ∧ Below W.heap.size W w' := by
  refine calls_ok (n := 17) Try.func21 rfl (by kernel_rfl) (by kernel_rfl) ?_
  refine ok_seq ?_
  refine ok_region ?_
  refine s_val (.int .u64 0) (by kernel_rfl) (fun _ => by kernel_rfl) ?_
  refine s_nil ?_
  refine fin_seq ?_
  refine ok_seq ?_
  refine ok_region ?_
  refine s_val (.int .i64 4) (by kernel_rfl) (fun _ => by kernel_rfl) ?_
  refine s_val (.int .u64 4) (by kernel_rfl) (fun _ => by kernel_rfl) ?_
  refine s_val (.int .u64 4) (by kernel_rfl) (fun _ => by kernel_rfl) ?_
  refine s_val (.int .u64 4) (by kernel_rfl) (fun _ => by kernel_rfl) ?_
  refine s_nil ?_
  refine fin_seq ?_
  refine ok_seq ?_
  refine ok_region ?_
  refine s_val (.int .u64 (x.toNat : Int)) (by kernel_rfl) (fun _ => by kernel_rfl) ?_
  refine s_val (.int .u64 4) (by kernel_rfl) (fun _ => by kernel_rfl) ?_
  refine s_val (.int .u64 ((x <<< UInt64.ofNat 4).toNat : Int)) (by kernel_rfl) (run_shl64 (x := x) (yk := .u64) (n := 4) rfl (by kernel_rfl) (by kernel_rfl) (by decide)) ?_
  refine s_val (.int .u64 (x.toNat : Int)) (by kernel_rfl) (fun _ => by kernel_rfl) ?_
  refine s_val (.int .u64 4) (by kernel_rfl) (fun _ => by kernel_rfl) ?_
  refine s_val (.int .u64 60) (by kernel_rfl) (fun _ => by kernel_rfl) ?_
  refine s_val (.int .u64 ((x >>> UInt64.ofNat 60).toNat : Int)) (by kernel_rfl) (run_shr64 (x := x) (yk := .u64) (n := 60) rfl (by kernel_rfl) (by kernel_rfl) (by decide)) ?_
  refine s_val (.int .u64 (((x <<< UInt64.ofNat 4) ||| (x >>> UInt64.ofNat 60)).toNat : Int)) (by kernel_rfl) (run_or64 (x := (x <<< UInt64.ofNat 4)) (y := (x >>> UInt64.ofNat 60)) rfl (by kernel_rfl) (by kernel_rfl)) ?_
  refine s_val (.int .u64 (((x <<< UInt64.ofNat 4) ||| (x >>> UInt64.ofNat 60)).toNat : Int)) (by kernel_rfl) (fun _ => by kernel_rfl) ?_
  refine s_nil ?_
  refine fin_seq ?_
  refine ok_ret ?_
  refine fin_ret (.int .u64 (((x <<< UInt64.ofNat 4) ||| (x >>> UInt64.ofNat 60)).toNat : Int)) Try.results21 (by kernel_rfl) ?_
  exact fun w hO => ⟨by rw [show rot4 x = ((x <<< UInt64.ofNat 4) ||| (x >>> UInt64.ofNat 60)) from rfl], hO.below⟩
theorem d9Sum_any (A : Option Addr) (cap : Nat) (l : List UInt8) (W : World) (hv : Reads u8C W W.heap.size A l) (hn : l.length ≤ 1000000) : Calls Try.prog 10 #[.slice A l.length cap] W fun e w' => e = .returned (.int .u64 ((dSum l).toNat : Int)) ∧ Below W.heap.size W w' := by
  refine calls_ok (n := 23) Try.func10 rfl (by kernel_rfl) (by kernel_rfl) ?_
  refine ok_seq ?_
  refine ok_region ?_
  refine s_val (.int .u64 0) (by kernel_rfl) (fun _ => by kernel_rfl) ?_
  refine s_nil ?_
  refine fin_seq ?_
  refine ok_seq ?_
  refine ok_region ?_
  refine s_val (.int .u64 11400714819323198485) (by kernel_rfl) (fun _ => by kernel_rfl) ?_
  refine s_nil ?_
  refine fin_seq ?_
  refine ok_seq ?_
  refine ok_seq ?_
  refine ok_region ?_
  refine s_val (.slice A l.length cap) (by kernel_rfl) (fun _ => by kernel_rfl) ?_
  refine s_val (.int .i64 (l.length : Int)) (by kernel_rfl) (fun _ => by kernel_rfl) ?_
  refine s_val (.int .i64 0) (by kernel_rfl) (fun _ => by kernel_rfl) ?_
  refine s_nil ?_
  refine fin_seq ?_
  refine ok_block ?_
  refine ok_loop (fun L f m => ∃ (k : Nat) (j : Nat → Value), (k ≤ l.length) ∧ L = [] ∧ f = upds j [(0, .slice A l.length cap), (3, .int .u64 ((dMixK l k).toNat : Int)), (6, .slice A l.length cap), (7, .int .i64 (l.length : Int)), (8, .int .i64 (k : Int))] ∧ m = l.length - k) (l.length - 0) ⟨0, _, Nat.zero_le _, rfl, upds_self _ ⟨by kernel_rfl, by kernel_rfl, by kernel_rfl, by kernel_rfl, by kernel_rfl, trivial⟩, rfl⟩ ?_
  rintro L f m ⟨k, j, hrel, rfl, rfl, rfl⟩
  refine ok_seq ?_
  refine ok_region ?_
  by_cases h1 : (k : Int) < (l.length : Int)
  · skip
    have hk : k < l.length := by omega
    obtain ⟨bp, off, hA, hlt, hcell⟩ := hv (by omega)
    obtain ⟨s, hs⟩ : ∃ s, l[k] = s := ⟨_, rfl⟩
    refine s_dec (p := (k : Int) < (l.length : Int)) true (by kernel_rfl) (fun _ => by kernel_rfl) (decide_eq_true (h1)) ?_
    refine s_nil ?_
    refine fin_seq ?_
    refine ok_seq ?_
    refine ok_true (by kernel_rfl) ?_
    refine ok_skip ?_
    refine fin_seq ?_
    refine ok_seq ?_
    refine ok_block ?_
    refine ok_seq ?_
    refine ok_region ?_
    refine s_val (.pointer (some ⟨bp, off + k * 1, none⟩)) (by kernel_rfl) (run_ixA (b := bp) (off := off) (c := cap) (n := l.length) (k := .i64) (j := (k : Int)) (e := 5) (sz := 1) rfl (by kernel_rfl) hA (by kernel_rfl) (by kernel_rfl) (by kernel_rfl) (by omega) (by omega) (by omega)) ?_
    refine s_old (.int .u8 (s.toNat : Int)) (a := ⟨bp, off + k * 1, none⟩) (by kernel_rfl) rfl (by kernel_rfl) (fun w hO => elem_load (ty := 5) u8C_len (fun j u h => (hO.below.cell (p := ⟨bp, off + j, none⟩) hlt).trans (hcell j u h)) k 0 hk (by omega) _ (by rw [hs]; kernel_rfl)) ?_
    refine s_val (.int .u8 (s.toNat : Int)) (by kernel_rfl) (fun _ => by kernel_rfl) ?_
    refine s_nil ?_
    refine fin_seq ?_
    refine ok_region ?_
    refine s_val (.int .u64 ((dMixK l k).toNat : Int)) (by kernel_rfl) (fun _ => by kernel_rfl) ?_
    refine s_val (.int .u8 (s.toNat : Int)) (by kernel_rfl) (fun _ => by kernel_rfl) ?_
    refine s_val (.int .u64 (((s).toUInt64).toNat : Int)) (by kernel_rfl) (run_to64 (x := s) rfl (by kernel_rfl) (by rw [Try.underlying5]; rfl) Try.underlying24) ?_
    refine s_val (.int .u64 (((dMixK l k) ^^^ (s).toUInt64).toNat : Int)) (by kernel_rfl) (run_xor64 (x := (dMixK l k)) (y := (s).toUInt64) rfl (by kernel_rfl) (by kernel_rfl)) ?_
    refine s_call (k := 21) (args := #[.int .u64 (((dMixK l k) ^^^ (s).toUInt64).toNat : Int), .int .i64 13]) (.int .u64 ((rot13 ((dMixK l k) ^^^ (s).toUInt64)).toNat : Int)) (by kernel_rfl) (fun _ => by kernel_rfl) (fun w _ => d9rot13_any ((dMixK l k) ^^^ (s).toUInt64) w) ?_
    refine s_val (.int .u64 (((rot13 ((dMixK l k) ^^^ (s).toUInt64)) * (18397679294719823053 : UInt64)).toNat : Int)) (by kernel_rfl) (run_mul64 (x := (rot13 ((dMixK l k) ^^^ (s).toUInt64))) (y := (18397679294719823053 : UInt64)) rfl (by kernel_rfl) (by kernel_rfl)) ?_
    refine s_val (.int .u64 (((rot13 ((dMixK l k) ^^^ (s).toUInt64)) * (18397679294719823053 : UInt64)).toNat : Int)) (by kernel_rfl) (fun _ => by kernel_rfl) ?_
    refine s_nil ?_
    refine fin_block ?_
    refine fin_seq ?_
    refine ok_region ?_
    refine s_sum (k := .i64) (((k + 1 : Nat) : Int)) (by kernel_rfl) (fun _ => by kernel_rfl) (IntWalk.i64_in _ (by omega)) ?_
    refine s_val (.int .i64 ((k + 1 : Nat) : Int)) (by kernel_rfl) (fun _ => by kernel_rfl) ?_
    refine s_nil ?_
    have hstep : ((rot13 ((dMixK l k) ^^^ (s).toUInt64)) * (18397679294719823053 : UInt64)) = dMixK l (k + 1) := by rw [← dMixK_step hk, hs]; rfl
    rw [hstep]
    exact fin_round (m' := l.length - (k + 1)) (by omega) ⟨k + 1, _, by omega, rfl, upds_self _ ⟨by kernel_rfl, by kernel_rfl, by kernel_rfl, by kernel_rfl, by kernel_rfl, trivial⟩, rfl⟩
  · skip
    refine s_dec (p := (k : Int) < (l.length : Int)) false (by kernel_rfl) (fun _ => by kernel_rfl) (decide_eq_false (h1)) ?_
    refine s_nil ?_
    refine fin_seq ?_
    refine ok_seq ?_
    refine ok_false (by kernel_rfl) ?_
    refine ok_exit ?_
    refine fin_seq_exit ?_
    refine fin_round_exit ?_
    refine fin_block_exit ?_
    refine fin_seq ?_
    refine ok_seq ?_
    refine ok_region ?_
    refine s_val (.int .u64 ((dMixK l k).toNat : Int)) (by kernel_rfl) (fun _ => by kernel_rfl) ?_
    refine s_val (.int .u64 ((dMixK l k).toNat : Int)) (by kernel_rfl) (fun _ => by kernel_rfl) ?_
    refine s_val (.int .u64 (((dMixK l k) >>> UInt64.ofNat 29).toNat : Int)) (by kernel_rfl) (run_shr64 (x := (dMixK l k)) (yk := .u64) (n := 29) rfl (by kernel_rfl) (by kernel_rfl) (by decide)) ?_
    refine s_val (.int .u64 (((dMixK l k) ^^^ ((dMixK l k) >>> UInt64.ofNat 29)).toNat : Int)) (by kernel_rfl) (run_xor64 (x := (dMixK l k)) (y := ((dMixK l k) >>> UInt64.ofNat 29)) rfl (by kernel_rfl) (by kernel_rfl)) ?_
    refine s_val (.int .u64 (((dMixK l k) ^^^ ((dMixK l k) >>> UInt64.ofNat 29)).toNat : Int)) (by kernel_rfl) (fun _ => by kernel_rfl) ?_
    refine s_nil ?_
    refine fin_seq ?_
    refine ok_ret ?_
    refine fin_ret (.int .u64 (((dMixK l k) ^^^ ((dMixK l k) >>> UInt64.ofNat 29)).toNat : Int)) Try.results10 (by kernel_rfl) ?_
    exact fun w hO => ⟨by rw [show dSum l = ((dMixK l k) ^^^ ((dMixK l k) >>> UInt64.ofNat 29)) from by unfold dSum dEnd; rw [← dMixK_all (l := l) (k := k) (by omega)]; rfl], hO.below⟩
theorem run_hexat2 {P : Program} {ρ : Operand → Value} {o : Oper} {t : TypeId} {x y : Operand} {m : UInt64} {d : Nat} (e : (m &&& 15).toNat = d) (hm : d < 16) (ho : o.op = .index t x y) (hx : ρ x = .string (mkS digS)) (hy : ρ y = .int .u64 (((m &&& 15).toNat : Nat) : Int))
    (hu : P.underlying t = some .string) (w : World) : (execOp ρ o).run P w = .ok (.value (.int .u8 ((hexD d).toNat : Int))) w := by
  rw [e] at hy
  have q := run_stridx9 (P := P) (j := ((d : Nat) : Int)) ho hx hy hu (by omega) (by rw [Int.toNat_natCast]; exact hm) w
  rw [q]
  congr 5
  have : (((d : Nat) : Int)).toNat = d := Int.toNat_natCast _
  rw [← hex_at hm]
  congr 1
theorem d9Text_any (n : UInt64) (W : World) : Calls Try.prog 14 #[.int .u64 (n.toNat : Int)] W fun e w' => e = .returned (.string (mkS (dText n))) ∧ Below W.heap.size W w' := by
  refine calls_ok (n := 18) Try.func14 rfl (by kernel_rfl) (by kernel_rfl) ?_
  refine ok_seq ?_
  refine ok_region ?_
  refine s_val (.string ⟨#[]⟩) (by kernel_rfl) (fun _ => by kernel_rfl) ?_
  refine s_nil ?_
  refine fin_seq ?_
  refine ok_seq ?_
  refine ok_region ?_
  refine s_alloc_at (.agg #[.int .u8 0, .int .u8 0, .int .u8 0, .int .u8 0, .int .u8 0, .int .u8 0, .int .u8 0, .int .u8 0, .int .u8 0, .int .u8 0, .int .u8 0, .int .u8 0, .int .u8 0, .int .u8 0, .int .u8 0, .int .u8 0]) (by kernel_rfl) rfl (by kernel_rfl) (fun b1 => ?_)
  refine s_nil ?_
  refine fin_seq ?_
  refine ok_seq ?_
  refine ok_seq ?_
  refine ok_region ?_
  refine s_val (.int .i64 0) (by kernel_rfl) (fun _ => by kernel_rfl) ?_
  refine s_nil ?_
  refine fin_seq ?_
  refine ok_block ?_
  refine ok_cast (L' := [⟨b1, arrC (padB [] 16), 43⟩]) (by show [(⟨b1, _, _⟩ : Blk)] = _; congr 2) ?_
  refine ok_loop (fun L f m => ∃ (k : Nat) (r : UInt64) (xs : List UInt8) (j : Nat → Value), (xs = hexT n.toNat k ∧ r = rotN n k ∧ k ≤ 16) ∧ L = [⟨b1, arrC (padB xs 16), 43⟩] ∧ f = upds j [(0, .int .u64 (r.toNat : Int)), (3, .pointer (some ⟨b1, 0, none⟩)), (5, .int .i64 (k : Int))] ∧ m = 16 - k) (16 - 0) ⟨0, n, [], _, ⟨rfl, rfl, by omega⟩, rfl, upds_self _ ⟨by kernel_rfl, by kernel_rfl, by kernel_rfl, trivial⟩, rfl⟩ ?_
  rintro L f m ⟨k, r, xs, j, hrel, rfl, rfl, rfl⟩
  obtain ⟨hxs, hm, hk⟩ := hrel
  refine ok_seq ?_
  refine ok_region ?_
  by_cases h1 : (k : Int) < 16
  · skip
    have hk16 : k < 16 := by omega
    have hxl : xs.length = k := by rw [hxs]; exact hexT_len _ _
    have hpl : (padB xs 16).length = 16 := padB_len (by omega)
    refine s_dec (p := (k : Int) < 16) true (by kernel_rfl) (fun _ => by kernel_rfl) (decide_eq_true (h1)) ?_
    refine s_nil ?_
    refine fin_seq ?_
    refine ok_seq ?_
    refine ok_true (by kernel_rfl) ?_
    refine ok_skip ?_
    refine fin_seq ?_
    refine ok_seq ?_
    refine ok_block ?_
    refine ok_seq ?_
    refine ok_region ?_
    refine s_val (.int .i64 (k : Int)) (by kernel_rfl) (fun _ => by kernel_rfl) ?_
    refine s_val (.int .i64 (k : Int)) (by kernel_rfl) (fun _ => by kernel_rfl) ?_
    refine s_nil ?_
    refine fin_seq ?_
    refine ok_seq ?_
    refine ok_region ?_
    refine s_val (.int .u64 (r.toNat : Int)) (by kernel_rfl) (fun _ => by kernel_rfl) ?_
    refine s_call (k := 21) (args := #[.int .u64 (r.toNat : Int), .int .i64 4]) (.int .u64 ((rot4 r).toNat : Int)) (by kernel_rfl) (fun _ => by kernel_rfl) (fun w _ => d9rot4_any r w) ?_
    refine s_val (.int .u64 ((rot4 r).toNat : Int)) (by kernel_rfl) (fun _ => by kernel_rfl) ?_
    refine s_nil ?_
    refine fin_seq ?_
    refine ok_region ?_
    refine s_val (.int .i64 (k : Int)) (by kernel_rfl) (fun _ => by kernel_rfl) ?_
    refine s_val (.int .u64 ((rot4 r).toNat : Int)) (by kernel_rfl) (fun _ => by kernel_rfl) ?_
    refine s_val (.int .u64 (((rot4 r) &&& (15 : UInt64)).toNat : Int)) (by kernel_rfl) (run_and64 (x := (rot4 r)) (y := (15 : UInt64)) rfl (by kernel_rfl) (by kernel_rfl)) ?_
    refine s_val (.int .u8 ((hexD (n.toNat / 16 ^ (15 - k) % 16)).toNat : Int)) (by kernel_rfl) (run_hexat2 (m := rot4 r) (d := n.toNat / 16 ^ (15 - k) % 16) (by rw [hm]; exact rotN_dig n hk16) (Nat.mod_lt _ (by decide)) rfl (by kernel_rfl) (by kernel_rfl) Try.underlying9) ?_
    refine s_val (.pointer (some ⟨b1, k, none⟩)) (by kernel_rfl) (run_ixarr (b := b1) (off := 0) (k := .i64) (j := (k : Int)) (n := 16) (e := 5) (sz := 1) rfl (by kernel_rfl) (by kernel_rfl) (by kernel_rfl) (by kernel_rfl) (by omega) (by omega) (by omega)) ?_
    refine s_storeS 0 ⟨b1, (arrC (padB xs 16)), 43⟩ (off := k) (.int .u8 ((hexD (n.toNat / 16 ^ (15 - k) % 16)).toNat : Int)) 1 (by kernel_rfl) rfl rfl (by kernel_rfl) (by kernel_rfl) (by kernel_rfl) (by kernel_rfl) (by kernel_rfl) (by show _ + 1 ≤ (arrC _).size; rw [arrC_size]; omega) (by kernel_rfl) ?_
    refine s_cast (L' := [⟨b1, arrC (padB (xs ++ [hexD (n.toNat / 16 ^ (15 - k) % 16)]) 16), 43⟩]) (by show [(⟨b1, storeIn _ _ _, _⟩ : Blk)] = _; rw [arrC_set (by omega), padB_set hxl hk16]) ?_
    refine s_nil ?_
    refine fin_block ?_
    refine fin_seq ?_
    refine ok_region ?_
    refine s_sum (k := .i64) (((k + 1 : Nat) : Int)) (by kernel_rfl) (fun _ => by kernel_rfl) (IntWalk.i64_in _ (by omega)) ?_
    refine s_val (.int .i64 ((k + 1 : Nat) : Int)) (by kernel_rfl) (fun _ => by kernel_rfl) ?_
    refine s_nil ?_
    exact fin_round (m' := 16 - (k + 1)) (by omega) ⟨k + 1, (rot4 r), (xs ++ [hexD (n.toNat / 16 ^ (15 - k) % 16)]), _, ⟨by rw [hexT_step, ← hxs], by rw [hm]; rfl, by omega⟩, rfl, upds_self _ ⟨by kernel_rfl, by kernel_rfl, by kernel_rfl, trivial⟩, rfl⟩
  · skip
    have hk16 : k = 16 := by omega
    have hall : padB xs 16 = dText n := by rw [padB_all (by rw [hxs, hexT_len]; exact hk16), hxs, hk16]; rfl
    have hl16 : (dText n).length = 16 := hexT_len _ _
    rw [hall]
    refine s_dec (p := (k : Int) < 16) false (by kernel_rfl) (fun _ => by kernel_rfl) (decide_eq_false (h1)) ?_
    refine s_nil ?_
    refine fin_seq ?_
    refine ok_seq ?_
    refine ok_false (by kernel_rfl) ?_
    refine ok_exit ?_
    refine fin_seq_exit ?_
    refine fin_round_exit ?_
    refine fin_block_exit ?_
    refine fin_seq ?_
    refine ok_seq ?_
    refine ok_region ?_
    refine s_val (.slice (some ⟨b1, 0, none⟩) ((dText n).length) 16) (by kernel_rfl) (fun w => by rw [hl16]; exact run_slarr (b := b1) (n := 16) (e := 5) (sz := 1) rfl (by kernel_rfl) (by kernel_rfl) (by kernel_rfl) w) ?_
    refine s_read (.string (mkS (dText n))) (by kernel_rfl) (fun w hO => run_bytes (cap := 16) (l := dText n) rfl (by kernel_rfl) Try.underlying22 Try.underlying5 Try.underlying9 (by rw [hl16]; decide) (hO.arr (T := 43) (List.mem_cons_self ..))) ?_
    refine s_val (.string (mkS (dText n))) (by kernel_rfl) (fun _ => by kernel_rfl) ?_
    refine s_nil ?_
    refine fin_seq ?_
    refine ok_ret ?_
    refine fin_ret (.string (mkS (dText n))) Try.results14 (by kernel_rfl) ?_
    exact fun w hO => ⟨rfl, hO.below⟩
theorem hex_index : ∀ n : _root_.Fin 256, Lib.indexByte digS (UInt8.ofNat n.val) = hexI (UInt8.ofNat n.val) := by decide
theorem digit_index (c : UInt8) : Lib.indexByte digS c = hexI c := by
  have h := hex_index ⟨c.toNat, c.toNat_lt⟩
  rw [UInt8.ofNat_toNat] at h; exact h
theorem digS_list : (⟨#[48, 49, 50, 51, 52, 53, 54, 55, 56, 57, 97, 98, 99, 100, 101, 102]⟩ : ByteArray).data.toList = digS := rfl
theorem d9index_any (c : UInt8) (W : World) : Calls Try.prog 23 #[.string ⟨#[48, 49, 50, 51, 52, 53, 54, 55, 56, 57, 97, 98, 99, 100, 101, 102]⟩, .int .u8 (c.toNat : Int)] W fun e w' => e = .returned (.int .i64 (hexI c)) ∧ Below W.heap.size W w' :=
  (Try.strings_IndexByte _ _ W).mono fun e w' ⟨h1, h2⟩ => ⟨by rw [h1, digS_list, Int.toNat_natCast, show c.toNat.toUInt8 = c from UInt8.ofNat_toNat, digit_index], h2 ▸ Below.refl _ _⟩
theorem d9Read_any (s : List UInt8) (W : World) : Calls Try.prog 12 #[.string (mkS s)] W fun e w' => e = .returned (.tuple #[.int .u64 ((dReadV s).toNat : Int), .bool (dReadB s)]) ∧ Below W.heap.size W w' := by
  have hsz := mkS_sz9 s
  refine calls_ok (n := 26) Try.func12 rfl (by kernel_rfl) (by kernel_rfl) ?_
  refine ok_seq ?_
  refine ok_region ?_
  refine s_val (.int .u64 0) (by kernel_rfl) (fun _ => by kernel_rfl) ?_
  refine s_val (.bool false) (by kernel_rfl) (fun _ => by kernel_rfl) ?_
  refine s_nil ?_
  refine fin_seq ?_
  refine ok_seq ?_
  refine ok_seq ?_
  refine ok_region ?_
  refine s_val (.string (mkS s)) (by kernel_rfl) (fun _ => by kernel_rfl) ?_
  refine s_val (.int .i64 ((mkS s).size)) (by kernel_rfl) (fun _ => by kernel_rfl) ?_
  by_cases h1 : ((mkS s).size : Int) = 16
  · skip
    refine s_ndec (p := ((mkS s).size : Int) = 16) true (by kernel_rfl) (fun _ => by kernel_rfl) (decide_eq_true (h1)) ?_
    refine s_nil ?_
    refine fin_seq ?_
    refine ok_false (by kernel_rfl) ?_
    refine ok_skip ?_
    refine fin_seq ?_
    refine ok_seq ?_
    refine ok_region ?_
    refine s_val (.int .u64 0) (by kernel_rfl) (fun _ => by kernel_rfl) ?_
    refine s_nil ?_
    refine fin_seq ?_
    refine ok_seq ?_
    refine ok_seq ?_
    refine ok_region ?_
    refine s_val (.int .i64 0) (by kernel_rfl) (fun _ => by kernel_rfl) ?_
    refine s_nil ?_
    refine fin_seq ?_
    refine ok_block ?_
    refine ok_loop (fun L f m => ∃ (i : Nat) (n : UInt64) (j : Nat → Value), (i ≤ 16 ∧ hexN 0 (s.take i) = some n.toNat) ∧ L = [] ∧ f = upds j [(0, .string (mkS s)), (4, .int .u64 (n.toNat : Int)), (10, .int .i64 (i : Int))] ∧ m = 16 - i) (16 - 0) ⟨0, 0, _, ⟨by omega, rfl⟩, rfl, upds_self _ ⟨by kernel_rfl, by kernel_rfl, by kernel_rfl, trivial⟩, rfl⟩ ?_
    rintro L f m ⟨i, n, j, hrel, rfl, rfl, rfl⟩
    obtain ⟨hi6, hN⟩ := hrel
    refine ok_seq ?_
    refine ok_region ?_
    by_cases h2 : (i : Int) < 16
    · skip
      have hi : i < s.length := by omega
      obtain ⟨c, hc⟩ : ∃ c, s[i] = c := ⟨_, rfl⟩
      have hlt := take_lt (by omega) hN
      have hpw := Nat.pow_le_pow_right (show 0 < 16 by decide) (show i ≤ 15 by omega)
      refine s_dec (p := (i : Int) < 16) true (by kernel_rfl) (fun _ => by kernel_rfl) (decide_eq_true (h2)) ?_
      refine s_nil ?_
      refine fin_seq ?_
      refine ok_seq ?_
      refine ok_true (by kernel_rfl) ?_
      refine ok_skip ?_
      refine fin_seq ?_
      refine ok_seq ?_
      refine ok_block ?_
      refine ok_seq ?_
      refine ok_region ?_
      refine s_val (.int .i64 (i : Int)) (by kernel_rfl) (fun _ => by kernel_rfl) ?_
      refine s_val (.int .i64 (i : Int)) (by kernel_rfl) (fun _ => by kernel_rfl) ?_
      refine s_nil ?_
      refine fin_seq ?_
      refine ok_seq ?_
      refine ok_region ?_
      refine s_val (.string (mkS s)) (by kernel_rfl) (fun _ => by kernel_rfl) ?_
      refine s_val (.int .i64 (i : Int)) (by kernel_rfl) (fun _ => by kernel_rfl) ?_
      refine s_val (.int .u8 (c.toNat : Int)) (by kernel_rfl) (fun w => by rw [← hc]; exact run_stridx9 (s := s) (k := .i64) (j := (i : Int)) rfl (by kernel_rfl) (by kernel_rfl) Try.underlying9 (by omega) (by omega) w) ?_
      refine s_call (k := 23) (args := #[.string ⟨#[48, 49, 50, 51, 52, 53, 54, 55, 56, 57, 97, 98, 99, 100, 101, 102]⟩, .int .u8 (c.toNat : Int)]) (.int .i64 (hexI c)) (by kernel_rfl) (fun _ => by kernel_rfl) (fun w _ => d9index_any c w) ?_
      refine s_val (.int .i64 (hexI c)) (by kernel_rfl) (fun _ => by kernel_rfl) ?_
      refine s_nil ?_
      refine fin_seq ?_
      refine ok_seq ?_
      refine ok_seq ?_
      refine ok_region ?_
      refine s_val (.int .i64 (hexI c)) (by kernel_rfl) (fun _ => by kernel_rfl) ?_
      by_cases h3 : (hexI c : Int) < 0
      · skip
        refine s_dec (p := (hexI c : Int) < 0) true (by kernel_rfl) (fun _ => by kernel_rfl) (decide_eq_true (h3)) ?_
        refine s_nil ?_
        refine fin_seq ?_
        refine ok_true (by kernel_rfl) ?_
        refine ok_seq ?_
        refine ok_region ?_
        refine s_val (.int .u64 0) (by kernel_rfl) (fun _ => by kernel_rfl) ?_
        refine s_val (.bool false) (by kernel_rfl) (fun _ => by kernel_rfl) ?_
        refine s_nil ?_
        refine fin_seq ?_
        refine ok_ret ?_
        refine fin_seq_ret ?_
        refine fin_block_ret ?_
        refine fin_seq_ret ?_
        refine fin_round_ret ?_
        refine fin_block_ret ?_
        refine fin_seq_ret ?_
        refine fin_ret2 (.int .u64 0) (.bool false) Try.results12 (by kernel_rfl) (by kernel_rfl) ?_
        exact fun w hO => ⟨by have q := read_no (s := s) (by rw [dread_16 (by omega)]; exact take_bad hi hN (by rw [hc]; exact hexI_neg h3)); rw [q.1, q.2]; rfl, hO.below⟩
      · skip
        obtain ⟨d, hd, hdI, hd16⟩ := hexI_pos h3
        refine s_dec (p := (hexI c : Int) < 0) false (by kernel_rfl) (fun _ => by kernel_rfl) (decide_eq_false (h3)) ?_
        refine s_nil ?_
        refine fin_seq ?_
        refine ok_false (by kernel_rfl) ?_
        refine ok_skip ?_
        refine fin_seq ?_
        refine ok_region ?_
        refine s_val (.int .u64 (n.toNat : Int)) (by kernel_rfl) (fun _ => by kernel_rfl) ?_
        refine s_val (.int .u64 ((n <<< UInt64.ofNat 4).toNat : Int)) (by kernel_rfl) (run_shl64 (x := n) (yk := .u64) (n := 4) rfl (by kernel_rfl) (by kernel_rfl) (by decide)) ?_
        refine s_val (.int .i64 (hexI c)) (by kernel_rfl) (fun _ => by kernel_rfl) ?_
        refine s_val (.int .u64 ((UInt64.ofNat d).toNat : Int)) (by kernel_rfl) (fun w => by rw [show ((UInt64.ofNat d).toNat : Int) = hexI c from by rw [hdI, UInt64.toNat_ofNat', Nat.mod_eq_of_lt (by omega)]]; exact run_toint (k := .i64) (q := .u64) (x := hexI c) rfl (by kernel_rfl) (by rw [Try.underlying3]; rfl) Try.underlying24 (wrap_u64 (by omega) (by omega)) w) ?_
        refine s_val (.int .u64 (((n <<< UInt64.ofNat 4) ||| (UInt64.ofNat d)).toNat : Int)) (by kernel_rfl) (run_or64 (x := (n <<< UInt64.ofNat 4)) (y := (UInt64.ofNat d)) rfl (by kernel_rfl) (by kernel_rfl)) ?_
        refine s_val (.int .u64 (((n <<< UInt64.ofNat 4) ||| (UInt64.ofNat d)).toNat : Int)) (by kernel_rfl) (fun _ => by kernel_rfl) ?_
        refine s_nil ?_
        refine fin_block ?_
        refine fin_seq ?_
        refine ok_region ?_
        refine s_sum (k := .i64) (((i + 1 : Nat) : Int)) (by kernel_rfl) (fun _ => by kernel_rfl) (IntWalk.i64_in _ (by omega)) ?_
        refine s_val (.int .i64 ((i + 1 : Nat) : Int)) (by kernel_rfl) (fun _ => by kernel_rfl) ?_
        refine s_nil ?_
        exact fin_round (m' := 16 - (i + 1)) (by omega) ⟨i + 1, ((n <<< UInt64.ofNat 4) ||| (UInt64.ofNat d)), _, ⟨by omega, by rw [nib_add n hd16 (by omega)]; exact take_step hi hN (by rw [hc]; exact hd)⟩, rfl, upds_self _ ⟨by kernel_rfl, by kernel_rfl, by kernel_rfl, trivial⟩, rfl⟩
    · skip
      refine s_dec (p := (i : Int) < 16) false (by kernel_rfl) (fun _ => by kernel_rfl) (decide_eq_false (h2)) ?_
      refine s_nil ?_
      refine fin_seq ?_
      refine ok_seq ?_
      refine ok_false (by kernel_rfl) ?_
      refine ok_exit ?_
      refine fin_seq_exit ?_
      refine fin_round_exit ?_
      refine fin_block_exit ?_
      refine fin_seq ?_
      refine ok_seq ?_
      refine ok_region ?_
      refine s_val (.int .u64 (n.toNat : Int)) (by kernel_rfl) (fun _ => by kernel_rfl) ?_
      refine s_val (.int .u64 (n.toNat : Int)) (by kernel_rfl) (fun _ => by kernel_rfl) ?_
      refine s_val (.bool true) (by kernel_rfl) (fun _ => by kernel_rfl) ?_
      refine s_nil ?_
      refine fin_seq ?_
      refine ok_ret ?_
      refine fin_ret2 (.int .u64 (n.toNat : Int)) (.bool true) Try.results12 (by kernel_rfl) (by kernel_rfl) ?_
      exact fun w hO => ⟨by have q := read_some (s := s) (n := n) (by rw [dread_16 (by omega)]; rw [List.take_of_length_le (by omega)] at hN; exact hN); rw [q.1, q.2], hO.below⟩
  · skip
    refine s_ndec (p := ((mkS s).size : Int) = 16) false (by kernel_rfl) (fun _ => by kernel_rfl) (decide_eq_false (h1)) ?_
    refine s_nil ?_
    refine fin_seq ?_
    refine ok_true (by kernel_rfl) ?_
    refine ok_seq ?_
    refine ok_region ?_
    refine s_val (.int .u64 0) (by kernel_rfl) (fun _ => by kernel_rfl) ?_
    refine s_val (.bool false) (by kernel_rfl) (fun _ => by kernel_rfl) ?_
    refine s_nil ?_
    refine fin_seq ?_
    refine ok_ret ?_
    refine fin_seq_ret ?_
    refine fin_ret2 (.int .u64 0) (.bool false) Try.results12 (by kernel_rfl) (by kernel_rfl) ?_
    exact fun w hO => ⟨by rw [(read_no (dread_len (s := s) (by omega))).1, (read_no (dread_len (s := s) (by omega))).2]; rfl, hO.below⟩
end Go.Proofs.Ytjgmmeienchfnaa
