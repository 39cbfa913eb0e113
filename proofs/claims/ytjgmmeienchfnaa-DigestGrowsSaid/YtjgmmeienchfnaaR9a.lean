/-
  linchpinref9: turn, Sum, Text, digit, Read, Pair, Root: what they return; nothing that was there is changed. Conditions: slices and strings of at most a million.
-/
import Derived.Test.YtjgmmeienchfnaaB9
import Derived.Test.YtjgmmeienchfnaaD15
namespace Go.Proofs.Ytjgmmeienchfnaa
open Go.RowKit
set_option maxRecDepth 100000
set_option linter.unusedVariables false
set_option linter.unusedSimpArgs false
set_option maxHeartbeats 2000000

/-- The sum's number behind k bytes. -/
def dMixK (l : List UInt8) (k : Nat) : UInt64 := (l.take k).foldl dStep dI
theorem dMixK_step {l : List UInt8} {k : Nat} (hk : k < l.length) : dStep (dMixK l k) l[k] = dMixK l (k + 1) := by
  unfold dMixK
  rw [List.take_succ_eq_append_getElem hk, List.foldl_append]; rfl
theorem dMixK_all {l : List UInt8} {k : Nat} (hk : k = l.length) : dMixK l k = dMix l := by unfold dMixK dMix; rw [hk, List.take_length]
def dRootK (l : List UInt64) (k : Nat) : UInt64 := (l.take k).foldl dPair (dSum [])
theorem dRootK_step {l : List UInt64} {k : Nat} (hk : k < l.length) : dPair (dRootK l k) l[k] = dRootK l (k + 1) := by
  unfold dRootK
  rw [List.take_succ_eq_append_getElem hk, List.foldl_append]; rfl
theorem dRootK_all {l : List UInt64} {k : Nat} (hk : k = l.length) : dRootK l k = dRoot l := by unfold dRootK dRoot; rw [hk, List.take_length]
def digS : List UInt8 := [48, 49, 50, 51, 52, 53, 54, 55, 56, 57, 97, 98, 99, 100, 101, 102]
theorem hex_at {m : Nat} (h : m < 16) : digS[m]'(by exact h) = hexD m := by
  have key : ∀ m : _root_.Fin 16, digS[m.val]'(by exact m.isLt) = hexD m.val := by decide
  exact key ⟨m, h⟩
theorem run_hexat {P : Program} {ρ : Operand → Value} {o : Oper} {t : TypeId} {x y : Operand} {n : UInt64} {i : Nat} (hi : i < 16) (ho : o.op = .index t x y) (hx : ρ x = .string (mkS digS)) (hy : ρ y = .int .u64 ((((n >>> UInt64.ofNat (4 * i)) &&& 15).toNat : Nat) : Int))
    (hu : P.underlying t = some .string) (w : World) : (execOp ρ o).run P w = .ok (.value (.int .u8 ((hexD (n.toNat / 16 ^ i % 16)).toNat : Int))) w := by
  have e := nib_nat n hi
  rw [e] at hy
  have hm : n.toNat / 16 ^ i % 16 < 16 := Nat.mod_lt _ (by decide)
  have q := run_stridx9 (P := P) (j := ((n.toNat / 16 ^ i % 16 : Nat) : Int)) ho hx hy hu (by omega) (by rw [Int.toNat_natCast]; exact hm) w
  rw [q]
  congr 5
  have : (((n.toNat / 16 ^ i % 16 : Nat) : Int)).toNat = n.toNat / 16 ^ i % 16 := Int.toNat_natCast _
  rw [← hex_at hm]
  congr 1
/-- A digit's number; -1: it is none. -/
def hexI (c : UInt8) : Int := match hexV c with | some d => (d : Int) | none => -1
theorem hexI_dec {c : UInt8} (h1 : 48 ≤ (c.toNat : Int)) (h2 : (c.toNat : Int) ≤ 57) : hexI c = (c.toNat : Int) - 48 := by
  unfold hexI hexV
  rw [if_pos (by omega)]
  show ((c.toNat - 48 : Nat) : Int) = _
  omega
theorem hexI_let {c : UInt8} (h1 : 97 ≤ (c.toNat : Int)) (h2 : (c.toNat : Int) ≤ 102) : hexI c = (c.toNat : Int) - 97 + 10 := by
  unfold hexI hexV
  rw [if_neg (by omega), if_pos (by omega)]
  show ((c.toNat - 87 : Nat) : Int) = _
  omega
theorem hexI_no {c : UInt8} (h1 : ¬ (48 ≤ (c.toNat : Int) ∧ (c.toNat : Int) ≤ 57)) (h2 : ¬ (97 ≤ (c.toNat : Int) ∧ (c.toNat : Int) ≤ 102)) : hexI c = -1 := by
  unfold hexI hexV
  rw [if_neg (by omega), if_neg (by omega)]
theorem hexI_neg {c : UInt8} (h : hexI c < 0) : hexV c = none := by
  unfold hexI at h
  cases hv : hexV c with
  | none => rfl
  | some d => rw [hv] at h; change (d : Int) < 0 at h; omega
theorem hexI_pos {c : UInt8} (h : ¬ hexI c < 0) : ∃ d, hexV c = some d ∧ hexI c = (d : Int) ∧ d < 16 := by
  unfold hexI at h ⊢
  cases hv : hexV c with
  | none => rw [hv] at h; exact absurd (by decide : (-1 : Int) < 0) h
  | some d => exact ⟨d, rfl, rfl, (hexD_V hv).1⟩
theorem take_step {s : List UInt8} {i : Nat} (hi : i < s.length) {m d : Nat} (h : hexN 0 (s.take i) = some m) (hd : hexV s[i] = some d) : hexN 0 (s.take (i + 1)) = some (m * 16 + d) := by
  rw [List.take_succ_eq_append_getElem hi, hexN_app _ _ _ _ h, hexN, hd]
  rfl
theorem take_bad {s : List UInt8} {i : Nat} (hi : i < s.length) {m : Nat} (h : hexN 0 (s.take i) = some m) (hd : hexV s[i] = none) : hexN 0 s = none := by
  have q : hexN 0 (s.take (i + 1)) = none := by rw [List.take_succ_eq_append_getElem hi, hexN_app _ _ _ _ h, hexN, hd]
  have e := hexN_bad (s.take (i + 1)) (s.drop (i + 1)) 0 q
  rwa [List.take_append_drop] at e
theorem take_lt {s : List UInt8} {i : Nat} (hi : i ≤ 16) {m : Nat} (h : hexN 0 (s.take i) = some m) : m < 16 ^ i := by
  have q := hexN_lt _ _ _ h
  have e : (s.take i).length ≤ i := by rw [List.length_take]; omega
  have := Nat.pow_le_pow_right (show 0 < 16 by decide) e
  omega
theorem read_no {s : List UInt8} (h : dReadN s = none) : dReadV s = 0 ∧ dReadB s = false := by unfold dReadV dReadB; rw [h]; exact ⟨rfl, rfl⟩
theorem read_some {s : List UInt8} {n : UInt64} (h : dReadN s = some n.toNat) : dReadV s = n ∧ dReadB s = true := by
  unfold dReadV dReadB; rw [h]; exact ⟨by simp, rfl⟩
theorem dread_len {s : List UInt8} (h : ¬ s.length = 16) : dReadN s = none := if_neg h
theorem dread_16 {s : List UInt8} (h : s.length = 16) : dReadN s = hexN 0 s := if_pos h
theorem r9turn_any (x : UInt64) (W : World) : Calls Try.prog 22 #[.int .u64 (x.toNat : Int), .int .u64 13] W fun e w' => e = .returned (.int .u64 ((rot13 x).toNat : Int)) ∧ Below W.heap.size W w' := by
  refine calls_ok (n := 13) Try.func22 rfl (by kernel_rfl) (by kernel_rfl) ?_
  refine ok_seq ?_
  refine ok_region ?_
  refine s_val (.int .u64 0) (by kernel_rfl) (fun _ => by kernel_rfl) ?_
  refine s_nil ?_
  refine fin_seq ?_
  refine ok_seq ?_
  refine ok_region ?_
  refine s_val (.int .u64 (x.toNat : Int)) (by kernel_rfl) (fun _ => by kernel_rfl) ?_
  refine s_val (.int .u64 13) (by kernel_rfl) (fun _ => by kernel_rfl) ?_
  refine s_val (.int .u64 ((x <<< UInt64.ofNat 13).toNat : Int)) (by kernel_rfl) (run_shl64 (x := x) (yk := .u64) (n := 13) rfl (by kernel_rfl) (by kernel_rfl) (by decide)) ?_
  refine s_val (.int .u64 (x.toNat : Int)) (by kernel_rfl) (fun _ => by kernel_rfl) ?_
  refine s_val (.int .u64 13) (by kernel_rfl) (fun _ => by kernel_rfl) ?_
  refine s_val (.int .u64 51) (by kernel_rfl) (fun _ => by kernel_rfl) ?_
  refine s_val (.int .u64 ((x >>> UInt64.ofNat 51).toNat : Int)) (by kernel_rfl) (run_shr64 (x := x) (yk := .u64) (n := 51) rfl (by kernel_rfl) (by kernel_rfl) (by decide)) ?_
  refine s_val (.int .u64 (((x <<< UInt64.ofNat 13) ||| (x >>> UInt64.ofNat 51)).toNat : Int)) (by kernel_rfl) (run_or64 (x := (x <<< UInt64.ofNat 13)) (y := (x >>> UInt64.ofNat 51)) rfl (by kernel_rfl) (by kernel_rfl)) ?_
  refine s_val (.int .u64 (((x <<< UInt64.ofNat 13) ||| (x >>> UInt64.ofNat 51)).toNat : Int)) (by kernel_rfl) (fun _ => by kernel_rfl) ?_
  refine s_nil ?_
  refine fin_seq ?_
  refine ok_ret ?_
  refine fin_ret (.int .u64 (((x <<< UInt64.ofNat 13) ||| (x >>> UInt64.ofNat 51)).toNat : Int)) Try.results22 (by kernel_rfl) ?_
  exact fun w hO => ⟨by rw [show rot13 x = ((x <<< UInt64.ofNat 13) ||| (x >>> UInt64.ofNat 51)) from rfl], hO.below⟩
theorem r9Sum_any (A : Option Addr) (cap : Nat) (l : List UInt8) (W : World) (hv : Reads u8C W W.heap.size A l) (hn : l.length ≤ 1000000) : Calls Try.prog 11 #[.slice A l.length cap] W fun e w' => e = .returned (.int .u64 ((dSum l).toNat : Int)) ∧ Below W.heap.size W w' := by
  refine calls_ok (n := 24) Try.func11 rfl (by kernel_rfl) (by kernel_rfl) ?_
  refine ok_seq ?_
  refine ok_region ?_
  refine s_val (.int .u64 0) (by kernel_rfl) (fun _ => by kernel_rfl) ?_
  refine s_nil ?_
  refine fin_seq ?_
  refine ok_seq ?_
  refine ok_region ?_
  refine s_val (.int .u64 11400714819323198485) (by kernel_rfl) (fun _ => by kernel_rfl) ?_
  refine s_nil ?_
  refine fin_seq ?_
  refine ok_seq ?_
  refine ok_seq ?_
  refine ok_region ?_
  refine s_val (.int .i64 0) (by kernel_rfl) (fun _ => by kernel_rfl) ?_
  refine s_nil ?_
  refine fin_seq ?_
  refine ok_block ?_
  refine ok_loop (fun L f m => ∃ (k : Nat) (j : Nat → Value), (k ≤ l.length) ∧ L = [] ∧ f = upds j [(0, .slice A l.length cap), (3, .int .u64 ((dMixK l k).toNat : Int)), (4, .int .i64 (k : Int))] ∧ m = l.length - k) (l.length - 0) ⟨0, _, Nat.zero_le _, rfl, upds_self _ ⟨by kernel_rfl, by kernel_rfl, by kernel_rfl, trivial⟩, rfl⟩ ?_
  rintro L f m ⟨k, j, hrel, rfl, rfl, rfl⟩
  refine ok_seq ?_
  refine ok_seq ?_
  refine ok_region ?_
  refine s_val (.int .i64 (k : Int)) (by kernel_rfl) (fun _ => by kernel_rfl) ?_
  refine s_val (.slice A l.length cap) (by kernel_rfl) (fun _ => by kernel_rfl) ?_
  refine s_val (.int .i64 (l.length : Int)) (by kernel_rfl) (fun _ => by kernel_rfl) ?_
  by_cases h1 : (k : Int) < (l.length : Int)
  · skip
    have hk : k < l.length := by omega
    obtain ⟨bp, off, hA, hlt, hcell⟩ := hv (by omega)
    obtain ⟨s, hs⟩ : ∃ s, l[k] = s := ⟨_, rfl⟩
    refine s_dec (p := (k : Int) < (l.length : Int)) true (by kernel_rfl) (fun _ => by kernel_rfl) (decide_eq_true (h1)) ?_
    refine s_nil ?_
    refine fin_seq ?_
    refine ok_true (by kernel_rfl) ?_
    refine ok_skip ?_
    refine fin_seq ?_
    refine ok_seq ?_
    refine ok_block ?_
    refine ok_region ?_
    refine s_val (.int .u64 ((dMixK l k).toNat : Int)) (by kernel_rfl) (fun _ => by kernel_rfl) ?_
    refine s_val (.slice A l.length cap) (by kernel_rfl) (fun _ => by kernel_rfl) ?_
    refine s_val (.int .i64 (k : Int)) (by kernel_rfl) (fun _ => by kernel_rfl) ?_
    refine s_val (.pointer (some ⟨bp, off + k * 1, none⟩)) (by kernel_rfl) (run_ixA (b := bp) (off := off) (c := cap) (n := l.length) (k := .i64) (j := (k : Int)) (e := 5) (sz := 1) rfl (by kernel_rfl) hA (by kernel_rfl) (by kernel_rfl) (by kernel_rfl) (by omega) (by omega) (by omega)) ?_
    refine s_old (.int .u8 (s.toNat : Int)) (a := ⟨bp, off + k * 1, none⟩) (by kernel_rfl) rfl (by kernel_rfl) (fun w hO => elem_load (ty := 5) u8C_len (fun j u h => (hO.below.cell (p := ⟨bp, off + j, none⟩) hlt).trans (hcell j u h)) k 0 hk (by omega) _ (by rw [hs]; kernel_rfl)) ?_
    refine s_val (.int .u64 (((s).toUInt64).toNat : Int)) (by kernel_rfl) (run_to64 (x := s) rfl (by kernel_rfl) (by rw [Try.underlying5]; rfl) Try.underlying24) ?_
    refine s_val (.int .u64 (((dMixK l k) ^^^ (s).toUInt64).toNat : Int)) (by kernel_rfl) (run_xor64 (x := (dMixK l k)) (y := (s).toUInt64) rfl (by kernel_rfl) (by kernel_rfl)) ?_
    refine s_call (k := 22) (args := #[.int .u64 (((dMixK l k) ^^^ (s).toUInt64).toNat : Int), .int .u64 13]) (.int .u64 ((rot13 ((dMixK l k) ^^^ (s).toUInt64)).toNat : Int)) (by kernel_rfl) (fun _ => by kernel_rfl) (fun w _ => r9turn_any ((dMixK l k) ^^^ (s).toUInt64) w) ?_
    refine s_val (.int .u64 (((rot13 ((dMixK l k) ^^^ (s).toUInt64)) * (18397679294719823053 : UInt64)).toNat : Int)) (by kernel_rfl) (run_mul64 (x := (rot13 ((dMixK l k) ^^^ (s).toUInt64))) (y := (18397679294719823053 : UInt64)) rfl (by kernel_rfl) (by kernel_rfl)) ?_
    refine s_val (.int .u64 (((rot13 ((dMixK l k) ^^^ (s).toUInt64)) * (18397679294719823053 : UInt64)).toNat : Int)) (by kernel_rfl) (fun _ => by kernel_rfl) ?_
    refine s_nil ?_
    refine fin_block ?_
    refine fin_seq ?_
    refine ok_region ?_
    refine s_val (.int .i64 (k : Int)) (by kernel_rfl) (fun _ => by kernel_rfl) ?_
    refine s_sum (k := .i64) (((k + 1 : Nat) : Int)) (by kernel_rfl) (fun _ => by kernel_rfl) (IntWalk.i64_in _ (by omega)) ?_
    refine s_val (.int .i64 ((k + 1 : Nat) : Int)) (by kernel_rfl) (fun _ => by kernel_rfl) ?_
    refine s_nil ?_
    have hstep : ((rot13 ((dMixK l k) ^^^ (s).toUInt64)) * (18397679294719823053 : UInt64)) = dMixK l (k + 1) := by rw [← dMixK_step hk, hs]; rfl
    rw [hstep]
    exact fin_round (m' := l.length - (k + 1)) (by omega) ⟨k + 1, _, by omega, rfl, upds_self _ ⟨by kernel_rfl, by kernel_rfl, by kernel_rfl, trivial⟩, rfl⟩
  · skip
    refine s_dec (p := (k : Int) < (l.length : Int)) false (by kernel_rfl) (fun _ => by kernel_rfl) (decide_eq_false (h1)) ?_
    refine s_nil ?_
    refine fin_seq ?_
    refine ok_false (by kernel_rfl) ?_
    refine ok_exit ?_
    refine fin_seq_exit ?_
    refine fin_round_exit ?_
    refine fin_block_exit ?_
    refine fin_seq ?_
    refine ok_seq ?_
    refine ok_region ?_
    refine s_val (.int .u64 ((dMixK l k).toNat : Int)) (by kernel_rfl) (fun _ => by kernel_rfl) ?_
    refine s_val (.int .u64 ((dMixK l k).toNat : Int)) (by kernel_rfl) (fun _ => by kernel_rfl) ?_
    refine s_val (.int .u64 (((dMixK l k) >>> UInt64.ofNat 29).toNat : Int)) (by kernel_rfl) (run_shr64 (x := (dMixK l k)) (yk := .u64) (n := 29) rfl (by kernel_rfl) (by kernel_rfl) (by decide)) ?_
    refine s_val (.int .u64 (((dMixK l k) ^^^ ((dMixK l k) >>> UInt64.ofNat 29)).toNat : Int)) (by kernel_rfl) (run_xor64 (x := (dMixK l k)) (y := ((dMixK l k) >>> UInt64.ofNat 29)) rfl (by kernel_rfl) (by kernel_rfl)) ?_
    refine s_val (.int .u64 (((dMixK l k) ^^^ ((dMixK l k) >>> UInt64.ofNat 29)).toNat : Int)) (by kernel_rfl) (fun _ => by kernel_rfl) ?_
    refine s_nil ?_
    refine fin_seq ?_
    refine ok_ret ?_
    refine fin_ret (.int .u64 (((dMixK l k) ^^^ ((dMixK l k) >>> UInt64.ofNat 29)).toNat : Int)) Try.results11 (by kernel_rfl) ?_
    exact fun w hO => ⟨by rw [show dSum l = ((dMixK l k) ^^^ ((dMixK l k) >>> UInt64.ofNat 29)) from by unfold dSum dEnd; rw [← dMixK_all (l := l) (k := k) (by omega)]; rfl], hO.below⟩
theorem r9Text_any (n : UInt64) (W : World) : Calls Try.prog 15 #[.int .u64 (n.toNat : Int)] W fun e w' => e = .returned (.string (mkS (dText n))) ∧ Below W.heap.size W w' := by
  refine calls_ok (n := 21) Try.func15 rfl (by kernel_rfl) (by kernel_rfl) ?_
  refine ok_seq ?_
  refine ok_region ?_
  refine s_val (.string ⟨#[]⟩) (by kernel_rfl) (fun _ => by kernel_rfl) ?_
  refine s_nil ?_
  refine fin_seq ?_
  refine ok_seq ?_
  refine ok_region ?_
  refine s_val (.slice none 0 0) (by kernel_rfl) (fun _ => by kernel_rfl) ?_
  refine s_nil ?_
  refine fin_seq ?_
  refine ok_seq ?_
  refine ok_seq ?_
  refine ok_region ?_
  refine s_val (.int .i64 15) (by kernel_rfl) (fun _ => by kernel_rfl) ?_
  refine s_nil ?_
  refine fin_seq ?_
  refine ok_block ?_
  refine ok_cast (L' := ([] ++ [] : List Blk)) rfl ?_
  refine ok_loop (fun L f m => ∃ (k : Nat) (z : Int) (A : Option Addr) (cap : Nat) (xs : List UInt8) (oc : List Blk) (j : Nat → Value), (xs = hexT n.toNat k ∧ SlB (.slice A xs.length cap) xs oc ∧ k ≤ 16 ∧ z = 15 - (k : Int)) ∧ L = (oc ++ []) ∧ f = upds j [(0, .int .u64 (n.toNat : Int)), (3, .slice A xs.length cap), (4, .int .i64 z)] ∧ m = 16 - k) (16 - 0) ⟨0, 15, none, 0, [], [], _, ⟨rfl, Sl.nil _ _, by omega, by omega⟩, rfl, upds_self _ ⟨by kernel_rfl, by kernel_rfl, by kernel_rfl, trivial⟩, rfl⟩ ?_
  rintro L f m ⟨k, z, A, cap, xs, oc, j, hrel, rfl, rfl, rfl⟩
  obtain ⟨hxs, hsl, hk, hz⟩ := hrel; refine ok_cast (L' := oc) (by simp) ?_
  refine ok_seq ?_
  refine ok_seq ?_
  refine ok_region ?_
  refine s_val (.int .i64 z) (by kernel_rfl) (fun _ => by kernel_rfl) ?_
  by_cases h1 : (0 : Int) ≤ z
  · skip
    obtain ⟨i, hi⟩ : ∃ i : Nat, z = (i : Int) := ⟨z.toNat, by omega⟩
    have hxl : xs.length = k := by rw [hxs]; exact hexT_len _ _
    refine s_dec (p := (0 : Int) ≤ z) true (by kernel_rfl) (fun _ => by kernel_rfl) (decide_eq_true (h1)) ?_
    refine s_nil ?_
    refine fin_seq ?_
    refine ok_true (by kernel_rfl) ?_
    refine ok_skip ?_
    refine fin_seq ?_
    refine ok_seq ?_
    refine ok_block ?_
    refine ok_region ?_
    refine s_val (.slice A xs.length cap) (by kernel_rfl) (fun _ => by kernel_rfl) ?_
    refine s_val (.int .u64 (n.toNat : Int)) (by kernel_rfl) (fun _ => by kernel_rfl) ?_
    refine s_val (.int .i64 z) (by kernel_rfl) (fun _ => by kernel_rfl) ?_
    refine s_sum (k := .i64) ((4 : Int) * z) (by kernel_rfl) (fun _ => by kernel_rfl) (IntWalk.i64_in _ (by omega)) ?_
    refine s_val (.int .u64 ((4 * i : Nat) : Int)) (by kernel_rfl) (fun w => by rw [show ((4 * i : Nat) : Int) = (4 : Int) * z from by rw [hi]; omega]; exact run_toint (k := .i64) (q := .u64) (x := (4 : Int) * z) rfl (by kernel_rfl) (by rw [Try.underlying3]; rfl) Try.underlying39 (wrap_u64 (by omega) (by omega)) w) ?_
    refine s_val (.int .u64 ((n >>> UInt64.ofNat (4 * i)).toNat : Int)) (by kernel_rfl) (run_shr64 (x := n) (yk := .u64) (n := 4 * i) rfl (by kernel_rfl) (by kernel_rfl) (by omega)) ?_
    refine s_val (.int .u64 (((n >>> UInt64.ofNat (4 * i)) &&& (15 : UInt64)).toNat : Int)) (by kernel_rfl) (run_and64 (x := (n >>> UInt64.ofNat (4 * i))) (y := (15 : UInt64)) rfl (by kernel_rfl) (by kernel_rfl)) ?_
    refine s_val (.int .u8 ((hexD (n.toNat / 16 ^ i % 16)).toNat : Int)) (by kernel_rfl) (run_hexat (n := n) (i := i) (by omega) rfl (by kernel_rfl) (by kernel_rfl) Try.underlying9) ?_
    refine s_lit 5 #[.int .u8 ((hexD (n.toNat / 16 ^ i % 16)).toNat : Int)] (by kernel_rfl) rfl (fun _ => by kernel_rfl) (fun b1 => ?_)
    obtain ⟨i0, z0, e1, e2, e3, e4, e5⟩ := u8_info
    refine s_cast (L' := [⟨b1, #[.int .u8 ((hexD (n.toNat / 16 ^ i % 16)).toNat : Int)], 5⟩] ++ oc ++ ([] : List Blk)) (by rw [List.append_nil]; rfl) ?_
    refine s_append (sz := 1) (by kernel_rfl) rfl Try.underlying22 e1 e2 e3 e4 (by kernel_rfl) hsl (a := ⟨b1, 0, none⟩) (m := 1) (c := 1) (news := u8C (hexD (n.toNat / 16 ^ i % 16))) (by kernel_rfl) rfl (fun w hO j u hj => ?_) (fun u hu => by rw [List.mem_singleton.1 hu]; rfl) (by unfold maxLen; omega) (by rw [e5]; omega) (fun u2 ob2 hu2 => ?_)
    · rw [add_off, cell_of_row w b1 (0 + j) (u8C (hexD (n.toNat / 16 ^ i % 16))).toArray 5 _ (hO.held ⟨b1, (u8C (hexD (n.toNat / 16 ^ i % 16))).toArray, 5⟩ (List.mem_append_left _ (List.mem_append_left _ (List.mem_cons_self ..))))]; simpa using hj
    have hu2s : SlB u2 (xs ++ [hexD (n.toNat / 16 ^ i % 16)]) ob2 := SlB.add hu2
    obtain ⟨B2, cb2, rfl⟩ := Sl.form9 hu2s
    refine s_take (L' := ob2) (fun w hO => Own.sub [⟨b1, #[.int .u8 ((hexD (n.toNat / 16 ^ i % 16)).toNat : Int)], 5⟩] (show Own _ _ w (⟨b1, #[.int .u8 ((hexD (n.toNat / 16 ^ i % 16)).toNat : Int)], 5⟩ :: (ob2)) from by rw [List.append_nil] at hO; exact hO)) ?_
    refine s_val (.slice B2 ((xs ++ [hexD (n.toNat / 16 ^ i % 16)]).length) cb2) (by kernel_rfl) (fun _ => by kernel_rfl) ?_
    refine s_nil ?_
    refine fin_block ?_
    refine fin_seq ?_
    refine ok_region ?_
    refine s_val (.int .i64 z) (by kernel_rfl) (fun _ => by kernel_rfl) ?_
    refine s_sum (k := .i64) (z - 1) (by kernel_rfl) (fun _ => by kernel_rfl) (IntWalk.i64_in _ (by omega)) ?_
    refine s_val (.int .i64 (z - 1)) (by kernel_rfl) (fun _ => by kernel_rfl) ?_
    refine s_nil ?_
    refine fin_cast (L' := ob2 ++ []) (by simp) ?_
    exact fin_round (m' := 16 - (k + 1)) (by omega) ⟨k + 1, z - 1, B2, cb2, (xs ++ [hexD (n.toNat / 16 ^ i % 16)]), ob2, _, ⟨by rw [hexT_step, ← hxs, show 15 - k = i by omega], hu2s, by omega, by omega⟩, rfl, upds_self _ ⟨by kernel_rfl, by kernel_rfl, by kernel_rfl, trivial⟩, rfl⟩
  · skip
    refine s_dec (p := (0 : Int) ≤ z) false (by kernel_rfl) (fun _ => by kernel_rfl) (decide_eq_false (h1)) ?_
    refine s_nil ?_
    refine fin_seq ?_
    refine ok_false (by kernel_rfl) ?_
    refine ok_exit ?_
    refine fin_seq_exit ?_
    refine fin_round_exit ?_
    refine fin_block_exit ?_
    refine fin_seq ?_
    refine ok_seq ?_
    refine ok_region ?_
    refine s_val (.slice A xs.length cap) (by kernel_rfl) (fun _ => by kernel_rfl) ?_
    refine s_read (.string (mkS xs)) (by kernel_rfl) (fun w hO => run_bytes (cap := cap) (l := xs) rfl (by kernel_rfl) Try.underlying22 Try.underlying5 Try.underlying9 (by rw [hxs, hexT_len]; omega) (Sl.reads hsl rfl hO (fun x hx => hx))) ?_
    refine s_val (.string (mkS xs)) (by kernel_rfl) (fun _ => by kernel_rfl) ?_
    refine s_nil ?_
    refine fin_seq ?_
    refine ok_ret ?_
    refine fin_ret (.string (mkS xs)) Try.results15 (by kernel_rfl) ?_
    exact fun w hO => ⟨by rw [hxs, show k = 16 by omega]; rfl, hO.below⟩
theorem r9digit_any (c : UInt8) (W : World) : Calls Try.prog 24 #[.int .u8 (c.toNat : Int)] W fun e w' => e = .returned (.int .i64 (hexI c)) ∧ Below W.heap.size W w' := by
  have hc := c.toNat_lt
  refine calls_ok (n := 22) Try.func24 rfl (by kernel_rfl) (by kernel_rfl) ?_
  refine ok_seq ?_
  refine ok_region ?_
  refine s_val (.int .i64 0) (by kernel_rfl) (fun _ => by kernel_rfl) ?_
  refine s_nil ?_
  refine fin_seq ?_
  refine ok_seq ?_
  refine ok_seq ?_
  refine ok_region ?_
  refine s_val (.int .u8 (c.toNat : Int)) (by kernel_rfl) (fun _ => by kernel_rfl) ?_
  by_cases h1 : (48 : Int) ≤ (c.toNat : Int)
  · skip
    refine s_dec (p := (48 : Int) ≤ (c.toNat : Int)) true (by kernel_rfl) (fun _ => by kernel_rfl) (decide_eq_true (h1)) ?_
    refine s_val (.bool true) (by kernel_rfl) (fun _ => by kernel_rfl) ?_
    refine s_val (.int .u8 (c.toNat : Int)) (by kernel_rfl) (fun _ => by kernel_rfl) ?_
    by_cases h2 : (c.toNat : Int) ≤ 57
    · skip
      refine s_dec (p := (c.toNat : Int) ≤ 57) true (by kernel_rfl) (fun _ => by kernel_rfl) (decide_eq_true (h2)) ?_
      refine s_val (.bool true) (by kernel_rfl) (fun _ => by kernel_rfl) ?_
      refine s_nil ?_
      refine fin_seq ?_
      refine ok_true (by kernel_rfl) ?_
      refine ok_seq ?_
      refine ok_region ?_
      refine s_val (.int .u8 (c.toNat : Int)) (by kernel_rfl) (fun _ => by kernel_rfl) ?_
      refine s_sum (k := .u8) ((c.toNat : Int) - 48) (by kernel_rfl) (fun _ => by kernel_rfl) (IntWalk.u8_in _ (by omega)) ?_
      refine s_val (.int .i64 ((c.toNat : Int) - 48)) (by kernel_rfl) (run_toint (k := .u8) (q := .i64) (x := (c.toNat : Int) - 48) rfl (by kernel_rfl) (by rw [Try.underlying5]; rfl) Try.underlying3 (wrap_i64 (by omega) (by omega))) ?_
      refine s_val (.int .i64 ((c.toNat : Int) - 48)) (by kernel_rfl) (fun _ => by kernel_rfl) ?_
      refine s_nil ?_
      refine fin_seq ?_
      refine ok_ret ?_
      refine fin_seq_ret ?_
      refine fin_ret (.int .i64 ((c.toNat : Int) - 48)) Try.results24 (by kernel_rfl) ?_
      exact fun w hO => ⟨by rw [hexI_dec (c := c) (by omega) (by omega)], hO.below⟩
    · skip
      refine s_dec (p := (c.toNat : Int) ≤ 57) false (by kernel_rfl) (fun _ => by kernel_rfl) (decide_eq_false (h2)) ?_
      refine s_val (.bool false) (by kernel_rfl) (fun _ => by kernel_rfl) ?_
      refine s_nil ?_
      refine fin_seq ?_
      refine ok_false (by kernel_rfl) ?_
      refine ok_skip ?_
      refine fin_seq ?_
      refine ok_seq ?_
      refine ok_seq ?_
      refine ok_region ?_
      refine s_val (.int .u8 (c.toNat : Int)) (by kernel_rfl) (fun _ => by kernel_rfl) ?_
      by_cases h3 : (97 : Int) ≤ (c.toNat : Int)
      · skip
        refine s_dec (p := (97 : Int) ≤ (c.toNat : Int)) true (by kernel_rfl) (fun _ => by kernel_rfl) (decide_eq_true (h3)) ?_
        refine s_val (.bool true) (by kernel_rfl) (fun _ => by kernel_rfl) ?_
        refine s_val (.int .u8 (c.toNat : Int)) (by kernel_rfl) (fun _ => by kernel_rfl) ?_
        by_cases h4 : (c.toNat : Int) ≤ 102
        · skip
          refine s_dec (p := (c.toNat : Int) ≤ 102) true (by kernel_rfl) (fun _ => by kernel_rfl) (decide_eq_true (h4)) ?_
          refine s_val (.bool true) (by kernel_rfl) (fun _ => by kernel_rfl) ?_
          refine s_nil ?_
          refine fin_seq ?_
          refine ok_true (by kernel_rfl) ?_
          refine ok_seq ?_
          refine ok_region ?_
          refine s_val (.int .u8 (c.toNat : Int)) (by kernel_rfl) (fun _ => by kernel_rfl) ?_
          refine s_sum (k := .u8) ((c.toNat : Int) - 97) (by kernel_rfl) (fun _ => by kernel_rfl) (IntWalk.u8_in _ (by omega)) ?_
          refine s_val (.int .i64 ((c.toNat : Int) - 97)) (by kernel_rfl) (run_toint (k := .u8) (q := .i64) (x := (c.toNat : Int) - 97) rfl (by kernel_rfl) (by rw [Try.underlying5]; rfl) Try.underlying3 (wrap_i64 (by omega) (by omega))) ?_
          refine s_sum (k := .i64) ((c.toNat : Int) - 97 + 10) (by kernel_rfl) (fun _ => by kernel_rfl) (IntWalk.i64_in _ (by omega)) ?_
          refine s_val (.int .i64 ((c.toNat : Int) - 97 + 10)) (by kernel_rfl) (fun _ => by kernel_rfl) ?_
          refine s_nil ?_
          refine fin_seq ?_
          refine ok_ret ?_
          refine fin_seq_ret ?_
          refine fin_ret (.int .i64 ((c.toNat : Int) - 97 + 10)) Try.results24 (by kernel_rfl) ?_
          exact fun w hO => ⟨by rw [hexI_let (c := c) (by omega) (by omega)], hO.below⟩
        · skip
          refine s_dec (p := (c.toNat : Int) ≤ 102) false (by kernel_rfl) (fun _ => by kernel_rfl) (decide_eq_false (h4)) ?_
          refine s_val (.bool false) (by kernel_rfl) (fun _ => by kernel_rfl) ?_
          refine s_nil ?_
          refine fin_seq ?_
          refine ok_false (by kernel_rfl) ?_
          refine ok_skip ?_
          refine fin_seq ?_
          refine ok_seq ?_
          refine ok_region ?_
          refine s_val (.int .i64 (-1)) (by kernel_rfl) (fun _ => by kernel_rfl) ?_
          refine s_nil ?_
          refine fin_seq ?_
          refine ok_ret ?_
          refine fin_ret (.int .i64 (-1)) Try.results24 (by kernel_rfl) ?_
          exact fun w hO => ⟨by rw [hexI_no (c := c) (by omega) (by omega)], hO.below⟩
      · skip
        refine s_dec (p := (97 : Int) ≤ (c.toNat : Int)) false (by kernel_rfl) (fun _ => by kernel_rfl) (decide_eq_false (h3)) ?_
        refine s_val (.bool false) (by kernel_rfl) (fun _ => by kernel_rfl) ?_
        refine s_skip (by kernel_rfl) ?_
        refine s_skip (by kernel_rfl) ?_
        refine s_val (.bool false) (by kernel_rfl) (fun _ => by kernel_rfl) ?_
        refine s_nil ?_
        refine fin_seq ?_
        refine ok_false (by kernel_rfl) ?_
        refine ok_skip ?_
        refine fin_seq ?_
        refine ok_seq ?_
        refine ok_region ?_
        refine s_val (.int .i64 (-1)) (by kernel_rfl) (fun _ => by kernel_rfl) ?_
        refine s_nil ?_
        refine fin_seq ?_
        refine ok_ret ?_
        refine fin_ret (.int .i64 (-1)) Try.results24 (by kernel_rfl) ?_
        exact fun w hO => ⟨by rw [hexI_no (c := c) (by omega) (by omega)], hO.below⟩
  · skip
    refine s_dec (p := (48 : Int) ≤ (c.toNat : Int)) false (by kernel_rfl) (fun _ => by kernel_rfl) (decide_eq_false (h1)) ?_
    refine s_val (.bool false) (by kernel_rfl) (fun _ => by kernel_rfl) ?_
    refine s_skip (by kernel_rfl) ?_
    refine s_skip (by kernel_rfl) ?_
    refine s_val (.bool false) (by kernel_rfl) (fun _ => by kernel_rfl) ?_
    refine s_nil ?_
    refine fin_seq ?_
    refine ok_false (by kernel_rfl) ?_
    refine ok_skip ?_
    refine fin_seq ?_
    refine ok_seq ?_
    refine ok_seq ?_
    refine ok_region ?_
    refine s_val (.int .u8 (c.toNat : Int)) (by kernel_rfl) (fun _ => by kernel_rfl) ?_
    by_cases h5 : (97 : Int) ≤ (c.toNat : Int)
    · skip
      refine s_dec (p := (97 : Int) ≤ (c.toNat : Int)) true (by kernel_rfl) (fun _ => by kernel_rfl) (decide_eq_true (h5)) ?_
      refine s_val (.bool true) (by kernel_rfl) (fun _ => by kernel_rfl) ?_
      refine s_val (.int .u8 (c.toNat : Int)) (by kernel_rfl) (fun _ => by kernel_rfl) ?_
      by_cases h6 : (c.toNat : Int) ≤ 102
      · skip
        refine s_dec (p := (c.toNat : Int) ≤ 102) true (by kernel_rfl) (fun _ => by kernel_rfl) (decide_eq_true (h6)) ?_
        refine s_val (.bool true) (by kernel_rfl) (fun _ => by kernel_rfl) ?_
        refine s_nil ?_
        refine fin_seq ?_
        refine ok_true (by kernel_rfl) ?_
        refine ok_seq ?_
        refine ok_region ?_
        refine s_val (.int .u8 (c.toNat : Int)) (by kernel_rfl) (fun _ => by kernel_rfl) ?_
        refine s_sum (k := .u8) ((c.toNat : Int) - 97) (by kernel_rfl) (fun _ => by kernel_rfl) (IntWalk.u8_in _ (by omega)) ?_
        refine s_val (.int .i64 ((c.toNat : Int) - 97)) (by kernel_rfl) (run_toint (k := .u8) (q := .i64) (x := (c.toNat : Int) - 97) rfl (by kernel_rfl) (by rw [Try.underlying5]; rfl) Try.underlying3 (wrap_i64 (by omega) (by omega))) ?_
        refine s_sum (k := .i64) ((c.toNat : Int) - 97 + 10) (by kernel_rfl) (fun _ => by kernel_rfl) (IntWalk.i64_in _ (by omega)) ?_
        refine s_val (.int .i64 ((c.toNat : Int) - 97 + 10)) (by kernel_rfl) (fun _ => by kernel_rfl) ?_
        refine s_nil ?_
        refine fin_seq ?_
        refine ok_ret ?_
        refine fin_seq_ret ?_
        refine fin_ret (.int .i64 ((c.toNat : Int) - 97 + 10)) Try.results24 (by kernel_rfl) ?_
        exact fun w hO => ⟨by rw [hexI_let (c := c) (by omega) (by omega)], hO.below⟩
      · skip
        refine s_dec (p := (c.toNat : Int) ≤ 102) false (by kernel_rfl) (fun _ => by kernel_rfl) (decide_eq_false (h6)) ?_
        refine s_val (.bool false) (by kernel_rfl) (fun _ => by kernel_rfl) ?_
        refine s_nil ?_
        refine fin_seq ?_
        refine ok_false (by kernel_rfl) ?_
        refine ok_skip ?_
        refine fin_seq ?_
        refine ok_seq ?_
        refine ok_region ?_
        refine s_val (.int .i64 (-1)) (by kernel_rfl) (fun _ => by kernel_rfl) ?_
        refine s_nil ?_
        refine fin_seq ?_
        refine ok_ret ?_
        refine fin_ret (.int .i64 (-1)) Try.results24 (by kernel_rfl) ?_
        exact fun w hO => ⟨by rw [hexI_no (c := c) (by omega) (by omega)], hO.below⟩
    · skip
      refine s_dec (p := (97 : Int) ≤ (c.toNat : Int)) false (by kernel_rfl) (fun _ => by kernel_rfl) (decide_eq_false (h5)) ?_
      refine s_val (.bool false) (by kernel_rfl) (fun _ => by kernel_rfl) ?_
      refine s_skip (by kernel_rfl) ?_
      refine s_skip (by kernel_rfl) ?_
      refine s_val (.bool false) (by kernel_rfl) (fun _ => by kernel_rfl) ?_
      refine s_nil ?_
      refine fin_seq ?_
      refine ok_false (by kernel_rfl) ?_
      refine ok_skip ?_
      refine fin_seq ?_
      refine ok_seq ?_
      refine ok_region ?_
      refine s_val (.int .i64 (-1)) (by kernel_rfl) (fun _ => by kernel_rfl) ?_
      refine s_nil ?_
      refine fin_seq ?_
      refine ok_ret ?_
      refine fin_ret (.int .i64 (-1)) Try.results24 (by kernel_rfl) ?_
      exact fun w hO => ⟨by rw [hexI_no (c := c) (by omega) (by omega)], hO.below⟩
theorem r9Read_any (s : List UInt8) (W : World) : Calls Try.prog 13 #[.string (mkS s)] W fun e w' => e = .returned (.tuple #[.int .u64 ((dReadV s).toNat : Int), .bool (dReadB s)]) ∧ Below W.heap.size W w' := by
  have hsz := mkS_sz9 s
  refine calls_ok (n := 26) Try.func13 rfl (by kernel_rfl) (by kernel_rfl) ?_
  refine ok_seq ?_
  refine ok_region ?_
  refine s_val (.int .u64 0) (by kernel_rfl) (fun _ => by kernel_rfl) ?_
  refine s_val (.bool false) (by kernel_rfl) (fun _ => by kernel_rfl) ?_
  refine s_nil ?_
  refine fin_seq ?_
  refine ok_seq ?_
  refine ok_seq ?_
  refine ok_region ?_
  refine s_val (.string (mkS s)) (by kernel_rfl) (fun _ => by kernel_rfl) ?_
  refine s_val (.int .i64 ((mkS s).size)) (by kernel_rfl) (fun _ => by kernel_rfl) ?_
  by_cases h1 : ((mkS s).size : Int) = 16
  · skip
    refine s_ndec (p := ((mkS s).size : Int) = 16) true (by kernel_rfl) (fun _ => by kernel_rfl) (decide_eq_true (h1)) ?_
    refine s_nil ?_
    refine fin_seq ?_
    refine ok_false (by kernel_rfl) ?_
    refine ok_skip ?_
    refine fin_seq ?_
    refine ok_seq ?_
    refine ok_region ?_
    refine s_val (.int .u64 0) (by kernel_rfl) (fun _ => by kernel_rfl) ?_
    refine s_nil ?_
    refine fin_seq ?_
    refine ok_seq ?_
    refine ok_seq ?_
    refine ok_region ?_
    refine s_val (.int .i64 0) (by kernel_rfl) (fun _ => by kernel_rfl) ?_
    refine s_nil ?_
    refine fin_seq ?_
    refine ok_block ?_
    refine ok_loop (fun L f m => ∃ (i : Nat) (n : UInt64) (j : Nat → Value), (i ≤ 16 ∧ hexN 0 (s.take i) = some n.toNat) ∧ L = [] ∧ f = upds j [(0, .string (mkS s)), (4, .int .u64 (n.toNat : Int)), (5, .int .i64 (i : Int))] ∧ m = 16 - i) (16 - 0) ⟨0, 0, _, ⟨by omega, rfl⟩, rfl, upds_self _ ⟨by kernel_rfl, by kernel_rfl, by kernel_rfl, trivial⟩, rfl⟩ ?_
    rintro L f m ⟨i, n, j, hrel, rfl, rfl, rfl⟩
    obtain ⟨hi6, hN⟩ := hrel
    refine ok_seq ?_
    refine ok_seq ?_
    refine ok_region ?_
    refine s_val (.int .i64 (i : Int)) (by kernel_rfl) (fun _ => by kernel_rfl) ?_
    by_cases h2 : (i : Int) < 16
    · skip
      have hi : i < s.length := by omega
      obtain ⟨c, hc⟩ : ∃ c, s[i] = c := ⟨_, rfl⟩
      have hlt := take_lt (by omega) hN
      have hpw := Nat.pow_le_pow_right (show 0 < 16 by decide) (show i ≤ 15 by omega)
      refine s_dec (p := (i : Int) < 16) true (by kernel_rfl) (fun _ => by kernel_rfl) (decide_eq_true (h2)) ?_
      refine s_nil ?_
      refine fin_seq ?_
      refine ok_true (by kernel_rfl) ?_
      refine ok_skip ?_
      refine fin_seq ?_
      refine ok_seq ?_
      refine ok_block ?_
      refine ok_seq ?_
      refine ok_region ?_
      refine s_val (.string (mkS s)) (by kernel_rfl) (fun _ => by kernel_rfl) ?_
      refine s_val (.int .i64 (i : Int)) (by kernel_rfl) (fun _ => by kernel_rfl) ?_
      refine s_val (.int .u8 (c.toNat : Int)) (by kernel_rfl) (fun w => by rw [← hc]; exact run_stridx9 (s := s) (k := .i64) (j := (i : Int)) rfl (by kernel_rfl) (by kernel_rfl) Try.underlying9 (by omega) (by omega) w) ?_
      refine s_call (k := 24) (args := #[.int .u8 (c.toNat : Int)]) (.int .i64 (hexI c)) (by kernel_rfl) (fun _ => by kernel_rfl) (fun w _ => r9digit_any c w) ?_
      refine s_val (.int .i64 (hexI c)) (by kernel_rfl) (fun _ => by kernel_rfl) ?_
      refine s_nil ?_
      refine fin_seq ?_
      refine ok_seq ?_
      refine ok_seq ?_
      refine ok_region ?_
      refine s_val (.int .i64 (hexI c)) (by kernel_rfl) (fun _ => by kernel_rfl) ?_
      by_cases h3 : (hexI c : Int) < 0
      · skip
        refine s_dec (p := (hexI c : Int) < 0) true (by kernel_rfl) (fun _ => by kernel_rfl) (decide_eq_true (h3)) ?_
        refine s_nil ?_
        refine fin_seq ?_
        refine ok_true (by kernel_rfl) ?_
        refine ok_seq ?_
        refine ok_region ?_
        refine s_val (.int .u64 0) (by kernel_rfl) (fun _ => by kernel_rfl) ?_
        refine s_val (.bool false) (by kernel_rfl) (fun _ => by kernel_rfl) ?_
        refine s_nil ?_
        refine fin_seq ?_
        refine ok_ret ?_
        refine fin_seq_ret ?_
        refine fin_block_ret ?_
        refine fin_seq_ret ?_
        refine fin_round_ret ?_
        refine fin_block_ret ?_
        refine fin_seq_ret ?_
        refine fin_ret2 (.int .u64 0) (.bool false) Try.results13 (by kernel_rfl) (by kernel_rfl) ?_
        exact fun w hO => ⟨by have q := read_no (s := s) (by rw [dread_16 (by omega)]; exact take_bad hi hN (by rw [hc]; exact hexI_neg h3)); rw [q.1, q.2]; rfl, hO.below⟩
      · skip
        obtain ⟨d, hd, hdI, hd16⟩ := hexI_pos h3
        refine s_dec (p := (hexI c : Int) < 0) false (by kernel_rfl) (fun _ => by kernel_rfl) (decide_eq_false (h3)) ?_
        refine s_nil ?_
        refine fin_seq ?_
        refine ok_false (by kernel_rfl) ?_
        refine ok_skip ?_
        refine fin_seq ?_
        refine ok_region ?_
        refine s_val (.int .u64 (n.toNat : Int)) (by kernel_rfl) (fun _ => by kernel_rfl) ?_
        refine s_val (.int .u64 ((n <<< UInt64.ofNat 4).toNat : Int)) (by kernel_rfl) (run_shl64 (x := n) (yk := .u64) (n := 4) rfl (by kernel_rfl) (by kernel_rfl) (by decide)) ?_
        refine s_val (.int .i64 (hexI c)) (by kernel_rfl) (fun _ => by kernel_rfl) ?_
        refine s_val (.int .u64 ((UInt64.ofNat d).toNat : Int)) (by kernel_rfl) (fun w => by rw [show ((UInt64.ofNat d).toNat : Int) = hexI c from by rw [hdI, UInt64.toNat_ofNat', Nat.mod_eq_of_lt (by omega)]]; exact run_toint (k := .i64) (q := .u64) (x := hexI c) rfl (by kernel_rfl) (by rw [Try.underlying3]; rfl) Try.underlying24 (wrap_u64 (by omega) (by omega)) w) ?_
        refine s_val (.int .u64 (((n <<< UInt64.ofNat 4) ||| (UInt64.ofNat d)).toNat : Int)) (by kernel_rfl) (run_or64 (x := (n <<< UInt64.ofNat 4)) (y := (UInt64.ofNat d)) rfl (by kernel_rfl) (by kernel_rfl)) ?_
        refine s_val (.int .u64 (((n <<< UInt64.ofNat 4) ||| (UInt64.ofNat d)).toNat : Int)) (by kernel_rfl) (fun _ => by kernel_rfl) ?_
        refine s_nil ?_
        refine fin_block ?_
        refine fin_seq ?_
        refine ok_region ?_
        refine s_val (.int .i64 (i : Int)) (by kernel_rfl) (fun _ => by kernel_rfl) ?_
        refine s_sum (k := .i64) (((i + 1 : Nat) : Int)) (by kernel_rfl) (fun _ => by kernel_rfl) (IntWalk.i64_in _ (by omega)) ?_
        refine s_val (.int .i64 ((i + 1 : Nat) : Int)) (by kernel_rfl) (fun _ => by kernel_rfl) ?_
        refine s_nil ?_
        exact fin_round (m' := 16 - (i + 1)) (by omega) ⟨i + 1, ((n <<< UInt64.ofNat 4) ||| (UInt64.ofNat d)), _, ⟨by omega, by rw [nib_add n hd16 (by omega)]; exact take_step hi hN (by rw [hc]; exact hd)⟩, rfl, upds_self _ ⟨by kernel_rfl, by kernel_rfl, by kernel_rfl, trivial⟩, rfl⟩
    · skip
      refine s_dec (p := (i : Int) < 16) false (by kernel_rfl) (fun _ => by kernel_rfl) (decide_eq_false (h2)) ?_
      refine s_nil ?_
      refine fin_seq ?_
      refine ok_false (by kernel_rfl) ?_
      refine ok_exit ?_
      refine fin_seq_exit ?_
      refine fin_round_exit ?_
      refine fin_block_exit ?_
      refine fin_seq ?_
      refine ok_seq ?_
      refine ok_region ?_
      refine s_val (.int .u64 (n.toNat : Int)) (by kernel_rfl) (fun _ => by kernel_rfl) ?_
      refine s_val (.int .u64 (n.toNat : Int)) (by kernel_rfl) (fun _ => by kernel_rfl) ?_
      refine s_val (.bool true) (by kernel_rfl) (fun _ => by kernel_rfl) ?_
      refine s_nil ?_
      refine fin_seq ?_
      refine ok_ret ?_
      refine fin_ret2 (.int .u64 (n.toNat : Int)) (.bool true) Try.results13 (by kernel_rfl) (by kernel_rfl) ?_
      exact fun w hO => ⟨by have q := read_some (s := s) (n := n) (by rw [dread_16 (by omega)]; rw [List.take_of_length_le (by omega)] at hN; exact hN); rw [q.1, q.2], hO.below⟩
  · skip
    refine s_ndec (p := ((mkS s).size : Int) = 16) false (by kernel_rfl) (fun _ => by kernel_rfl) (decide_eq_false (h1)) ?_
    refine s_nil ?_
    refine fin_seq ?_
    refine ok_true (by kernel_rfl) ?_
    refine ok_seq ?_
    refine ok_region ?_
    refine s_val (.int .u64 0) (by kernel_rfl) (fun _ => by kernel_rfl) ?_
    refine s_val (.bool false) (by kernel_rfl) (fun _ => by kernel_rfl) ?_
    refine s_nil ?_
    refine fin_seq ?_
    refine ok_ret ?_
    refine fin_seq_ret ?_
    refine fin_ret2 (.int .u64 0) (.bool false) Try.results13 (by kernel_rfl) (by kernel_rfl) ?_
    exact fun w hO => ⟨by rw [(read_no (dread_len (s := s) (by omega))).1, (read_no (dread_len (s := s) (by omega))).2]; rfl, hO.below⟩
end Go.Proofs.Ytjgmmeienchfnaa
