/-
  linchpinlaw9: awake, DigestSums, DigestTexts, DigestPairs: each call returns true; nothing that was there is changed. Conditions: what the parameters are.
-/
import Derived.Test.YtjgmmeienchfnaaP9b
namespace Go.Proofs.Ytjgmmeienchfnaa
open Go.RowKit
set_option maxRecDepth 100000
set_option linter.unusedVariables false
set_option linter.unusedSimpArgs false
set_option maxHeartbeats 2000000

theorem awake_sums : ¬ ((dSum [97]).toNat : Int) = ((dSum [98]).toNat : Int) := fun h => absurd (show dSum [97] = dSum [98] from UInt64.toNat_inj.1 (by omega)) (by decide +kernel)
theorem awake9_any (W : World) : Calls Try.prog 9 #[] W fun e w' => e = .returned (.bool true) ∧ Below W.heap.size W w' := by
  refine calls_ok (n := 35) Try.func9 rfl (by kernel_rfl) (by kernel_rfl) ?_
  refine ok_seq ?_
  refine ok_region ?_
  refine s_val (.bool false) (by kernel_rfl) (fun _ => by kernel_rfl) ?_
  refine s_nil ?_
  refine fin_seq ?_
  refine ok_seq ?_
  refine ok_region ?_
  refine s_call (k := 12) (args := #[.string ⟨#[48, 48, 48, 48, 48, 48, 48, 48, 48, 48, 48, 48, 48, 48, 102, 102]⟩]) (.tuple #[.int .u64 255, .bool true]) (by kernel_rfl) (fun _ => by kernel_rfl) (fun w _ => by have q := d9Read_any [48, 48, 48, 48, 48, 48, 48, 48, 48, 48, 48, 48, 48, 48, 102, 102] w; rw [show dReadV [48, 48, 48, 48, 48, 48, 48, 48, 48, 48, 48, 48, 48, 48, 102, 102] = 255 from by kernel_rfl, show dReadB [48, 48, 48, 48, 48, 48, 48, 48, 48, 48, 48, 48, 48, 48, 102, 102] = true from by kernel_rfl] at q; exact q) ?_
  refine s_val (.tuple #[.int .u64 255, .bool true]) (by kernel_rfl) (fun _ => by kernel_rfl) ?_
  refine s_val (.int .u64 255) (by kernel_rfl) (fun _ => by kernel_rfl) ?_
  refine s_val (.bool true) (by kernel_rfl) (fun _ => by kernel_rfl) ?_
  refine s_val (.int .u64 255) (by kernel_rfl) (fun _ => by kernel_rfl) ?_
  refine s_val (.bool true) (by kernel_rfl) (fun _ => by kernel_rfl) ?_
  refine s_nil ?_
  refine fin_seq ?_
  refine ok_seq ?_
  refine ok_region ?_
  refine s_call (k := 12) (args := #[.string ⟨#[70, 70]⟩]) (.tuple #[.int .u64 0, .bool false]) (by kernel_rfl) (fun _ => by kernel_rfl) (fun w _ => by have q := d9Read_any [70, 70] w; rw [show dReadV [70, 70] = 0 from by kernel_rfl, show dReadB [70, 70] = false from by kernel_rfl] at q; exact q) ?_
  refine s_val (.tuple #[.int .u64 0, .bool false]) (by kernel_rfl) (fun _ => by kernel_rfl) ?_
  refine s_val (.int .u64 0) (by kernel_rfl) (fun _ => by kernel_rfl) ?_
  refine s_val (.bool false) (by kernel_rfl) (fun _ => by kernel_rfl) ?_
  refine s_val (.int .u64 0) (by kernel_rfl) (fun _ => by kernel_rfl) ?_
  refine s_val (.bool false) (by kernel_rfl) (fun _ => by kernel_rfl) ?_
  refine s_nil ?_
  refine fin_seq ?_
  refine ok_seq ?_
  refine ok_region ?_
  refine s_val (.int .u64 255) (by kernel_rfl) (fun _ => by kernel_rfl) ?_
  refine s_val (.bool true) (by kernel_rfl) (fun _ => by kernel_rfl) ?_
  refine s_val (.bool true) (by kernel_rfl) (fun _ => by kernel_rfl) ?_
  refine s_val (.bool true) (by kernel_rfl) (fun _ => by kernel_rfl) ?_
  refine s_val (.bool true) (by kernel_rfl) (fun _ => by kernel_rfl) ?_
  refine s_val (.bool true) (by kernel_rfl) (fun _ => by kernel_rfl) ?_
  refine s_val (.bool false) (by kernel_rfl) (fun _ => by kernel_rfl) ?_
  refine s_val (.bool true) (by kernel_rfl) (fun _ => by kernel_rfl) ?_
  refine s_val (.bool true) (by kernel_rfl) (fun _ => by kernel_rfl) ?_
  refine s_val (.bool true) (by kernel_rfl) (fun _ => by kernel_rfl) ?_
  refine s_call (k := 14) (args := #[.int .u64 255]) (.string (mkS [48, 48, 48, 48, 48, 48, 48, 48, 48, 48, 48, 48, 48, 48, 102, 102])) (by kernel_rfl) (fun _ => by kernel_rfl) (fun w _ => by have q := d9Text_any 255 w; rw [show dText 255 = [48, 48, 48, 48, 48, 48, 48, 48, 48, 48, 48, 48, 48, 48, 102, 102] from by kernel_rfl] at q; exact q) ?_
  refine s_val (.bool true) (by kernel_rfl) (run_streql9 (a := ([48, 48, 48, 48, 48, 48, 48, 48, 48, 48, 48, 48, 48, 48, 102, 102])) (b := ([48, 48, 48, 48, 48, 48, 48, 48, 48, 48, 48, 48, 48, 48, 102, 102])) rfl (by kernel_rfl) (by kernel_rfl) (decide_eq_true (rfl))) ?_
  refine s_val (.bool true) (by kernel_rfl) (fun _ => by kernel_rfl) ?_
  refine s_val (.bool true) (by kernel_rfl) (fun _ => by kernel_rfl) ?_
  refine s_lit 5 #[.int .u8 97] (by kernel_rfl) rfl (fun _ => by kernel_rfl) (fun b1 => ?_)
  refine s_mark (n := 1) (cap := 1) (by kernel_rfl) rfl Try.underlying22 Try.underlying5 (by kernel_rfl) (fun wm1 hm1 hbm1 hzm1 => ?_)
  refine s_call (k := 10) (args := #[.slice (some ⟨b1, 0, none⟩) 1 1]) (.int .u64 ((dSum [97]).toNat : Int)) (by kernel_rfl) (fun _ => by kernel_rfl) (fun w hO => d9Sum_any (some ⟨b1, 0, none⟩) 1 [97] w ((Reads.lit9 (g := u8C) (l := [97]) hm1 rfl).on hO.below hO.size) (by decide)) ?_
  refine s_lit 5 #[.int .u8 98] (by kernel_rfl) rfl (fun _ => by kernel_rfl) (fun b2 => ?_)
  refine s_mark (n := 1) (cap := 1) (by kernel_rfl) rfl Try.underlying22 Try.underlying5 (by kernel_rfl) (fun wm2 hm2 hbm2 hzm2 => ?_)
  refine s_call (k := 10) (args := #[.slice (some ⟨b2, 0, none⟩) 1 1]) (.int .u64 ((dSum [98]).toNat : Int)) (by kernel_rfl) (fun _ => by kernel_rfl) (fun w hO => d9Sum_any (some ⟨b2, 0, none⟩) 1 [98] w ((Reads.lit9 (g := u8C) (l := [98]) hm2 rfl).on hO.below hO.size) (by decide)) ?_
  refine s_ndec (p := ((dSum [97]).toNat : Int) = ((dSum [98]).toNat : Int)) false (by kernel_rfl) (fun _ => by kernel_rfl) (decide_eq_false (awake_sums)) ?_
  refine s_val (.bool true) (by kernel_rfl) (fun _ => by kernel_rfl) ?_
  refine s_val (.bool true) (by kernel_rfl) (fun _ => by kernel_rfl) ?_
  refine s_nil ?_
  refine fin_seq ?_
  refine ok_ret ?_
  refine fin_ret (.bool true) Try.results9 (by kernel_rfl) ?_
  exact fun w hO => ⟨rfl, (hbm1.trans ((hbm2.trans (hO.below.mono hzm2)).mono hzm1))⟩
theorem digestSums.law (W : World) (b_A : Option Addr) (b_c : Nat) (b : List UInt8) (hv : Reads u8C W W.heap.size b_A b) : Calls Try.prog 3 #[.slice b_A b.length b_c] W fun e w' => e = .returned (.bool true) ∧ Below W.heap.size W w' := by
  refine calls_ok (n := 15) Try.func3 rfl (by kernel_rfl) (by kernel_rfl) ?_
  refine ok_seq ?_
  refine ok_region ?_
  refine s_val (.bool false) (by kernel_rfl) (fun _ => by kernel_rfl) ?_
  refine s_nil ?_
  refine fin_seq ?_
  refine ok_seq ?_
  refine ok_seq ?_
  refine ok_region ?_
  refine s_val (.slice b_A b.length b_c) (by kernel_rfl) (fun _ => by kernel_rfl) ?_
  refine s_val (.int .i64 (b.length : Int)) (by kernel_rfl) (fun _ => by kernel_rfl) ?_
  by_cases h1 : (3000 : Int) < (b.length : Int)
  · skip
    refine s_dec (p := (3000 : Int) < (b.length : Int)) true (by kernel_rfl) (fun _ => by kernel_rfl) (decide_eq_true (h1)) ?_
    refine s_nil ?_
    refine fin_seq ?_
    refine ok_true (by kernel_rfl) ?_
    refine ok_seq ?_
    refine ok_region ?_
    refine s_call (k := 9) (args := #[]) (.bool true) (by kernel_rfl) (fun _ => by kernel_rfl) (fun w _ => awake9_any w) ?_
    refine s_val (.bool true) (by kernel_rfl) (fun _ => by kernel_rfl) ?_
    refine s_nil ?_
    refine fin_seq ?_
    refine ok_ret ?_
    refine fin_seq_ret ?_
    refine fin_ret (.bool true) Try.results3 (by kernel_rfl) ?_
    exact fun w hO => ⟨rfl, hO.below⟩
  · skip
    refine s_dec (p := (3000 : Int) < (b.length : Int)) false (by kernel_rfl) (fun _ => by kernel_rfl) (decide_eq_false (h1)) ?_
    refine s_nil ?_
    refine fin_seq ?_
    refine ok_false (by kernel_rfl) ?_
    refine ok_skip ?_
    refine fin_seq ?_
    refine ok_seq ?_
    refine ok_region ?_
    refine s_call (k := 9) (args := #[]) (.bool true) (by kernel_rfl) (fun _ => by kernel_rfl) (fun w _ => awake9_any w) ?_
    refine s_val (.bool true) (by kernel_rfl) (fun _ => by kernel_rfl) ?_
    refine s_val (.slice b_A b.length b_c) (by kernel_rfl) (fun _ => by kernel_rfl) ?_
    refine s_call (k := 10) (args := #[.slice b_A b.length b_c]) (.int .u64 ((dSum b).toNat : Int)) (by kernel_rfl) (fun _ => by kernel_rfl) (fun w hO => d9Sum_any b_A b_c b w (hv.on hO.below hO.size) (by omega)) ?_
    refine s_val (.slice b_A b.length b_c) (by kernel_rfl) (fun _ => by kernel_rfl) ?_
    refine s_call (k := 11) (args := #[.slice b_A b.length b_c]) (.int .u64 ((dSum b).toNat : Int)) (by kernel_rfl) (fun _ => by kernel_rfl) (fun w hO => r9Sum_any b_A b_c b w (hv.on hO.below hO.size) (by omega)) ?_
    refine s_dec (p := ((dSum b).toNat : Int) = ((dSum b).toNat : Int)) true (by kernel_rfl) (fun _ => by kernel_rfl) (decide_eq_true (rfl)) ?_
    refine s_val (.bool true) (by kernel_rfl) (fun _ => by kernel_rfl) ?_
    refine s_val (.bool true) (by kernel_rfl) (fun _ => by kernel_rfl) ?_
    refine s_nil ?_
    refine fin_seq ?_
    refine ok_ret ?_
    refine fin_ret (.bool true) Try.results3 (by kernel_rfl) ?_
    exact fun w hO => ⟨rfl, hO.below⟩
theorem read_back {s : List UInt8} (h : dReadB s = true) : dText (dReadV s) = s := by
  unfold dReadB at h
  cases hn : dReadN s with
  | none => rw [hn] at h; cases h
  | some m =>
    obtain ⟨h1, h2⟩ := text_read hn
    unfold dText dReadV
    rw [hn, Option.getD_some, UInt64.toNat_ofNat', Nat.mod_eq_of_lt h1]; exact h2
theorem digestTexts.law (W : World) (n : UInt64) (s : List UInt8) : Calls Try.prog 4 #[.int .u64 (n.toNat : Int), .string (mkS s)] W fun e w' => e = .returned (.bool true) ∧ Below W.heap.size W w' := by
  refine calls_ok (n := 63) Try.func4 rfl (by kernel_rfl) (by kernel_rfl) ?_
  refine ok_seq ?_
  refine ok_region ?_
  refine s_val (.bool false) (by kernel_rfl) (fun _ => by kernel_rfl) ?_
  refine s_nil ?_
  refine fin_seq ?_
  refine ok_seq ?_
  refine ok_region ?_
  refine s_val (.string (mkS s)) (by kernel_rfl) (fun _ => by kernel_rfl) ?_
  refine s_call (k := 12) (args := #[.string (mkS s)]) (.tuple #[.int .u64 ((dReadV s).toNat : Int), .bool (dReadB s)]) (by kernel_rfl) (fun _ => by kernel_rfl) (fun w _ => d9Read_any s w) ?_
  refine s_val (.tuple #[.int .u64 ((dReadV s).toNat : Int), .bool (dReadB s)]) (by kernel_rfl) (fun _ => by kernel_rfl) ?_
  refine s_val (.int .u64 ((dReadV s).toNat : Int)) (by kernel_rfl) (fun _ => by kernel_rfl) ?_
  refine s_val (.bool (dReadB s)) (by kernel_rfl) (fun _ => by kernel_rfl) ?_
  refine s_val (.int .u64 ((dReadV s).toNat : Int)) (by kernel_rfl) (fun _ => by kernel_rfl) ?_
  refine s_val (.bool (dReadB s)) (by kernel_rfl) (fun _ => by kernel_rfl) ?_
  refine s_nil ?_
  refine fin_seq ?_
  refine ok_seq ?_
  refine ok_region ?_
  refine s_val (.string (mkS s)) (by kernel_rfl) (fun _ => by kernel_rfl) ?_
  refine s_call (k := 13) (args := #[.string (mkS s)]) (.tuple #[.int .u64 ((dReadV s).toNat : Int), .bool (dReadB s)]) (by kernel_rfl) (fun _ => by kernel_rfl) (fun w _ => r9Read_any s w) ?_
  refine s_val (.tuple #[.int .u64 ((dReadV s).toNat : Int), .bool (dReadB s)]) (by kernel_rfl) (fun _ => by kernel_rfl) ?_
  refine s_val (.int .u64 ((dReadV s).toNat : Int)) (by kernel_rfl) (fun _ => by kernel_rfl) ?_
  refine s_val (.bool (dReadB s)) (by kernel_rfl) (fun _ => by kernel_rfl) ?_
  refine s_val (.int .u64 ((dReadV s).toNat : Int)) (by kernel_rfl) (fun _ => by kernel_rfl) ?_
  refine s_val (.bool (dReadB s)) (by kernel_rfl) (fun _ => by kernel_rfl) ?_
  refine s_nil ?_
  refine fin_seq ?_
  refine ok_seq ?_
  refine ok_region ?_
  refine s_val (.int .u64 (n.toNat : Int)) (by kernel_rfl) (fun _ => by kernel_rfl) ?_
  refine s_call (k := 14) (args := #[.int .u64 (n.toNat : Int)]) (.string (mkS (dText n))) (by kernel_rfl) (fun _ => by kernel_rfl) (fun w _ => d9Text_any n w) ?_
  refine s_call (k := 12) (args := #[.string (mkS (dText n))]) (.tuple #[.int .u64 (n.toNat : Int), .bool true]) (by kernel_rfl) (fun _ => by kernel_rfl) (fun w _ => by have q := d9Read_any (dText n) w; rw [(read_some (read_text n)).1, (read_some (read_text n)).2] at q; exact q) ?_
  refine s_val (.tuple #[.int .u64 (n.toNat : Int), .bool true]) (by kernel_rfl) (fun _ => by kernel_rfl) ?_
  refine s_val (.int .u64 (n.toNat : Int)) (by kernel_rfl) (fun _ => by kernel_rfl) ?_
  refine s_val (.bool true) (by kernel_rfl) (fun _ => by kernel_rfl) ?_
  refine s_val (.int .u64 (n.toNat : Int)) (by kernel_rfl) (fun _ => by kernel_rfl) ?_
  refine s_val (.bool true) (by kernel_rfl) (fun _ => by kernel_rfl) ?_
  refine s_nil ?_
  refine fin_seq ?_
  refine ok_seq ?_
  refine ok_region ?_
  refine s_call (k := 9) (args := #[]) (.bool true) (by kernel_rfl) (fun _ => by kernel_rfl) (fun w _ => awake9_any w) ?_
  refine s_val (.bool true) (by kernel_rfl) (fun _ => by kernel_rfl) ?_
  refine s_val (.int .u64 (n.toNat : Int)) (by kernel_rfl) (fun _ => by kernel_rfl) ?_
  refine s_call (k := 14) (args := #[.int .u64 (n.toNat : Int)]) (.string (mkS (dText n))) (by kernel_rfl) (fun _ => by kernel_rfl) (fun w _ => d9Text_any n w) ?_
  refine s_val (.int .u64 (n.toNat : Int)) (by kernel_rfl) (fun _ => by kernel_rfl) ?_
  refine s_call (k := 15) (args := #[.int .u64 (n.toNat : Int)]) (.string (mkS (dText n))) (by kernel_rfl) (fun _ => by kernel_rfl) (fun w _ => r9Text_any n w) ?_
  refine s_val (.bool true) (by kernel_rfl) (run_streql9 (a := (dText n)) (b := (dText n)) rfl (by kernel_rfl) (by kernel_rfl) (decide_eq_true (rfl))) ?_
  refine s_val (.bool true) (by kernel_rfl) (fun _ => by kernel_rfl) ?_
  refine s_val (.bool true) (by kernel_rfl) (fun _ => by kernel_rfl) ?_
  refine s_val (.int .u64 ((dReadV s).toNat : Int)) (by kernel_rfl) (fun _ => by kernel_rfl) ?_
  refine s_val (.int .u64 ((dReadV s).toNat : Int)) (by kernel_rfl) (fun _ => by kernel_rfl) ?_
  refine s_dec (p := ((dReadV s).toNat : Int) = ((dReadV s).toNat : Int)) true (by kernel_rfl) (fun _ => by kernel_rfl) (decide_eq_true (rfl)) ?_
  refine s_val (.bool true) (by kernel_rfl) (fun _ => by kernel_rfl) ?_
  refine s_val (.bool true) (by kernel_rfl) (fun _ => by kernel_rfl) ?_
  refine s_val (.bool (dReadB s)) (by kernel_rfl) (fun _ => by kernel_rfl) ?_
  refine s_val (.bool (dReadB s)) (by kernel_rfl) (fun _ => by kernel_rfl) ?_
  cases h1 : dReadB s with
  | true =>
    refine s_val (.bool true) (by kernel_rfl) (fun _ => by kernel_rfl) ?_
    refine s_val (.bool true) (by kernel_rfl) (fun _ => by kernel_rfl) ?_
    refine s_val (.bool true) (by kernel_rfl) (fun _ => by kernel_rfl) ?_
    refine s_val (.int .u64 (n.toNat : Int)) (by kernel_rfl) (fun _ => by kernel_rfl) ?_
    refine s_val (.int .u64 (n.toNat : Int)) (by kernel_rfl) (fun _ => by kernel_rfl) ?_
    refine s_dec (p := (n.toNat : Int) = (n.toNat : Int)) true (by kernel_rfl) (fun _ => by kernel_rfl) (decide_eq_true (rfl)) ?_
    refine s_val (.bool true) (by kernel_rfl) (fun _ => by kernel_rfl) ?_
    refine s_val (.bool true) (by kernel_rfl) (fun _ => by kernel_rfl) ?_
    refine s_val (.bool true) (by kernel_rfl) (fun _ => by kernel_rfl) ?_
    refine s_val (.bool true) (by kernel_rfl) (fun _ => by kernel_rfl) ?_
    refine s_val (.bool true) (by kernel_rfl) (fun _ => by kernel_rfl) ?_
    refine s_val (.bool true) (by kernel_rfl) (fun _ => by kernel_rfl) ?_
    refine s_val (.bool false) (by kernel_rfl) (fun _ => by kernel_rfl) ?_
    refine s_val (.bool false) (by kernel_rfl) (fun _ => by kernel_rfl) ?_
    refine s_val (.int .u64 ((dReadV s).toNat : Int)) (by kernel_rfl) (fun _ => by kernel_rfl) ?_
    refine s_call (k := 14) (args := #[.int .u64 ((dReadV s).toNat : Int)]) (.string (mkS (dText (dReadV s)))) (by kernel_rfl) (fun _ => by kernel_rfl) (fun w _ => d9Text_any (dReadV s) w) ?_
    refine s_val (.string (mkS s)) (by kernel_rfl) (fun _ => by kernel_rfl) ?_
    refine s_val (.bool true) (by kernel_rfl) (run_streql9 (a := (dText (dReadV s))) (b := s) rfl (by kernel_rfl) (by kernel_rfl) (decide_eq_true (read_back h1))) ?_
    refine s_val (.bool true) (by kernel_rfl) (fun _ => by kernel_rfl) ?_
    refine s_val (.bool true) (by kernel_rfl) (fun _ => by kernel_rfl) ?_
    refine s_val (.bool true) (by kernel_rfl) (fun _ => by kernel_rfl) ?_
    refine s_nil ?_
    refine fin_seq ?_
    refine ok_ret ?_
    refine fin_ret (.bool true) Try.results4 (by kernel_rfl) ?_
    exact fun w hO => ⟨rfl, hO.below⟩
  | false =>
    refine s_val (.bool true) (by kernel_rfl) (fun _ => by kernel_rfl) ?_
    refine s_val (.bool true) (by kernel_rfl) (fun _ => by kernel_rfl) ?_
    refine s_val (.bool true) (by kernel_rfl) (fun _ => by kernel_rfl) ?_
    refine s_val (.int .u64 (n.toNat : Int)) (by kernel_rfl) (fun _ => by kernel_rfl) ?_
    refine s_val (.int .u64 (n.toNat : Int)) (by kernel_rfl) (fun _ => by kernel_rfl) ?_
    refine s_dec (p := (n.toNat : Int) = (n.toNat : Int)) true (by kernel_rfl) (fun _ => by kernel_rfl) (decide_eq_true (rfl)) ?_
    refine s_val (.bool true) (by kernel_rfl) (fun _ => by kernel_rfl) ?_
    refine s_val (.bool true) (by kernel_rfl) (fun _ => by kernel_rfl) ?_
    refine s_val (.bool true) (by kernel_rfl) (fun _ => by kernel_rfl) ?_
    refine s_val (.bool true) (by kernel_rfl) (fun _ => by kernel_rfl) ?_
    refine s_val (.bool true) (by kernel_rfl) (fun _ => by kernel_rfl) ?_
    refine s_val (.bool false) (by kernel_rfl) (fun _ => by kernel_rfl) ?_
    refine s_val (.bool true) (by kernel_rfl) (fun _ => by kernel_rfl) ?_
    refine s_val (.bool true) (by kernel_rfl) (fun _ => by kernel_rfl) ?_
    refine s_skip (by kernel_rfl) ?_
    refine s_skip (by kernel_rfl) ?_
    refine s_skip (by kernel_rfl) ?_
    refine s_skip (by kernel_rfl) ?_
    refine s_val (.bool true) (by kernel_rfl) (fun _ => by kernel_rfl) ?_
    refine s_val (.bool true) (by kernel_rfl) (fun _ => by kernel_rfl) ?_
    refine s_val (.bool true) (by kernel_rfl) (fun _ => by kernel_rfl) ?_
    refine s_nil ?_
    refine fin_seq ?_
    refine ok_ret ?_
    refine fin_ret (.bool true) Try.results4 (by kernel_rfl) ?_
    exact fun w hO => ⟨rfl, hO.below⟩
theorem digestPairs.law (W : World) (a b : UInt64) (l_A : Option Addr) (l_c : Nat) (l : List UInt64) (hv : Reads u64C W W.heap.size l_A l) : Calls Try.prog 5 #[.int .u64 (a.toNat : Int), .int .u64 (b.toNat : Int), .slice l_A l.length l_c] W fun e w' => e = .returned (.bool true) ∧ Below W.heap.size W w' := by
  refine calls_ok (n := 28) Try.func5 rfl (by kernel_rfl) (by kernel_rfl) ?_
  refine ok_seq ?_
  refine ok_region ?_
  refine s_val (.bool false) (by kernel_rfl) (fun _ => by kernel_rfl) ?_
  refine s_nil ?_
  refine fin_seq ?_
  refine ok_seq ?_
  refine ok_seq ?_
  refine ok_region ?_
  refine s_val (.slice l_A l.length l_c) (by kernel_rfl) (fun _ => by kernel_rfl) ?_
  refine s_val (.int .i64 (l.length : Int)) (by kernel_rfl) (fun _ => by kernel_rfl) ?_
  by_cases h1 : (200 : Int) < (l.length : Int)
  · skip
    refine s_dec (p := (200 : Int) < (l.length : Int)) true (by kernel_rfl) (fun _ => by kernel_rfl) (decide_eq_true (h1)) ?_
    refine s_nil ?_
    refine fin_seq ?_
    refine ok_true (by kernel_rfl) ?_
    refine ok_seq ?_
    refine ok_region ?_
    refine s_call (k := 9) (args := #[]) (.bool true) (by kernel_rfl) (fun _ => by kernel_rfl) (fun w _ => awake9_any w) ?_
    refine s_val (.bool true) (by kernel_rfl) (fun _ => by kernel_rfl) ?_
    refine s_nil ?_
    refine fin_seq ?_
    refine ok_ret ?_
    refine fin_seq_ret ?_
    refine fin_ret (.bool true) Try.results5 (by kernel_rfl) ?_
    exact fun w hO => ⟨rfl, hO.below⟩
  · skip
    refine s_dec (p := (200 : Int) < (l.length : Int)) false (by kernel_rfl) (fun _ => by kernel_rfl) (decide_eq_false (h1)) ?_
    refine s_nil ?_
    refine fin_seq ?_
    refine ok_false (by kernel_rfl) ?_
    refine ok_skip ?_
    refine fin_seq ?_
    refine ok_seq ?_
    refine ok_region ?_
    refine s_call (k := 9) (args := #[]) (.bool true) (by kernel_rfl) (fun _ => by kernel_rfl) (fun w _ => awake9_any w) ?_
    refine s_val (.bool true) (by kernel_rfl) (fun _ => by kernel_rfl) ?_
    refine s_val (.int .u64 (a.toNat : Int)) (by kernel_rfl) (fun _ => by kernel_rfl) ?_
    refine s_val (.int .u64 (b.toNat : Int)) (by kernel_rfl) (fun _ => by kernel_rfl) ?_
    refine s_call (k := 16) (args := #[.int .u64 (a.toNat : Int), .int .u64 (b.toNat : Int)]) (.int .u64 ((dPair a b).toNat : Int)) (by kernel_rfl) (fun _ => by kernel_rfl) (fun w _ => d9Pair_any a b w) ?_
    refine s_val (.int .u64 (a.toNat : Int)) (by kernel_rfl) (fun _ => by kernel_rfl) ?_
    refine s_val (.int .u64 (b.toNat : Int)) (by kernel_rfl) (fun _ => by kernel_rfl) ?_
    refine s_call (k := 17) (args := #[.int .u64 (a.toNat : Int), .int .u64 (b.toNat : Int)]) (.int .u64 ((dPair a b).toNat : Int)) (by kernel_rfl) (fun _ => by kernel_rfl) (fun w _ => r9Pair_any a b w) ?_
    refine s_dec (p := ((dPair a b).toNat : Int) = ((dPair a b).toNat : Int)) true (by kernel_rfl) (fun _ => by kernel_rfl) (decide_eq_true (rfl)) ?_
    refine s_val (.bool true) (by kernel_rfl) (fun _ => by kernel_rfl) ?_
    refine s_val (.bool true) (by kernel_rfl) (fun _ => by kernel_rfl) ?_
    refine s_val (.slice l_A l.length l_c) (by kernel_rfl) (fun _ => by kernel_rfl) ?_
    refine s_call (k := 18) (args := #[.slice l_A l.length l_c]) (.int .u64 ((dRoot l).toNat : Int)) (by kernel_rfl) (fun _ => by kernel_rfl) (fun w hO => d9Root_any l_A l_c l w (hv.on hO.below hO.size) (by omega)) ?_
    refine s_val (.slice l_A l.length l_c) (by kernel_rfl) (fun _ => by kernel_rfl) ?_
    refine s_call (k := 19) (args := #[.slice l_A l.length l_c]) (.int .u64 ((dRoot l).toNat : Int)) (by kernel_rfl) (fun _ => by kernel_rfl) (fun w hO => r9Root_any l_A l_c l w (hv.on hO.below hO.size) (by omega)) ?_
    refine s_dec (p := ((dRoot l).toNat : Int) = ((dRoot l).toNat : Int)) true (by kernel_rfl) (fun _ => by kernel_rfl) (decide_eq_true (rfl)) ?_
    refine s_val (.bool true) (by kernel_rfl) (fun _ => by kernel_rfl) ?_
    refine s_val (.bool true) (by kernel_rfl) (fun _ => by kernel_rfl) ?_
    refine s_nil ?_
    refine fin_seq ?_
    refine ok_ret ?_
    refine fin_ret (.bool true) Try.results5 (by kernel_rfl) ?_
    exact fun w hO => ⟨rfl, hO.below⟩
end Go.Proofs.Ytjgmmeienchfnaa
