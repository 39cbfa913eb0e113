/-
  linchpinlaw9: DigestOne, DigestGrows, DigestSwaps: each call returns true; nothing that was there is changed. Conditions: what the parameters are.
-/
import Derived.Test.YtjgmmeienchfnaaL9a
import Derived.Test.YtjgmmeienchfnaaPl
namespace Go.Proofs.Ytjgmmeienchfnaa
open Go.RowKit
set_option maxRecDepth 100000
set_option linter.unusedVariables false
set_option linter.unusedSimpArgs false
set_option maxHeartbeats 2000000

theorem u8C_cells (l : List UInt8) : ∀ u ∈ l.flatMap u8C, u.oneCell' = true := fun u hu => by obtain ⟨z, _, hz⟩ := List.mem_flatMap.1 hu; rw [List.mem_singleton.1 hz]; rfl
theorem u64C_cells (l : List UInt64) : ∀ u ∈ l.flatMap u64C, u.oneCell' = true := fun u hu => by obtain ⟨z, _, hz⟩ := List.mem_flatMap.1 hu; rw [List.mem_singleton.1 hz]; rfl
theorem Reads.pre9 {w : World} {b : Nat} {cs : Array Value} {T : TypeId} {l : List UInt8} {fr : Nat × Nat} (h : w.heap[b]? = some (.cells cs T fr)) (e : cs.toList.take (l.length * 1) = l.flatMap u8C) : Reads u8C w w.heap.size (some ⟨b, 0, none⟩) l := fun _ =>
  ⟨b, 0, rfl, (Array.getElem?_eq_some_iff.1 h).1, fun k u hk => by
    rw [Nat.zero_add, cell_of_row w b k cs T fr h, ← Array.getElem?_toList]
    rw [← e, List.getElem?_take] at hk
    split at hk
    · exact hk
    · cases hk⟩
theorem xor_self {x y : UInt8} : x ^^^ y = x ↔ y = 0 := by
  constructor
  · intro h
    have := congrArg (x ^^^ ·) h
    simpa [← UInt8.xor_assoc] using this
  · intro h; subst h; simp
theorem one_iff {b c : List UInt8} {k : Nat} {x y : UInt8} (hk : k < b.length) (hx : b[k] = x) (hc : c = b.set k (x ^^^ y)) : ((dSum c).toNat : Int) = ((dSum b).toNat : Int) ↔ (y.toNat : Int) = 0 := by
  have h1 : dSum c = dSum b ↔ y = 0 := by rw [hc, dSum_one hk, hx, xor_self]
  constructor
  · intro h
    have h2 := h1.1 (UInt64.toNat_inj.1 (by omega))
    rw [h2]; rfl
  · intro h
    have h2 : y = 0 := UInt8.toNat_inj.1 (by simpa using h)
    rw [h1.2 h2]
theorem dRoot_two (l : List UInt64) (a b : UInt64) : dRoot (l ++ [a, b]) = dPair (dPair (dRoot l) a) b := by unfold dRoot; rw [List.foldl_append]; rfl
theorem digestOne.law (W : World) (b_A : Option Addr) (b_c : Nat) (b : List UInt8) (hv : Reads u8C W W.heap.size b_A b) (at_ : Int) (hat : (Lit.int .i64 at_).wf = true) (y : UInt8) : Calls Try.prog 6 #[.slice b_A b.length b_c, .int .i64 at_, .int .u8 (y.toNat : Int)] W fun e w' => e = .returned (.bool true) ∧ Below W.heap.size W w' := by
  refine calls_ok (n := 44) Try.func6 rfl (by kernel_rfl) (by kernel_rfl) ?_
  refine ok_seq ?_
  refine ok_region ?_
  refine s_val (.bool false) (by kernel_rfl) (fun _ => by kernel_rfl) ?_
  refine s_nil ?_
  refine fin_seq ?_
  refine ok_seq ?_
  refine ok_seq ?_
  refine ok_region ?_
  refine s_val (.slice b_A b.length b_c) (by kernel_rfl) (fun _ => by kernel_rfl) ?_
  refine s_val (.int .i64 (b.length : Int)) (by kernel_rfl) (fun _ => by kernel_rfl) ?_
  by_cases h1 : (b.length : Int) = 0
  · skip
    refine s_dec (p := (b.length : Int) = 0) true (by kernel_rfl) (fun _ => by kernel_rfl) (decide_eq_true (h1)) ?_
    refine s_val (.bool true) (by kernel_rfl) (fun _ => by kernel_rfl) ?_
    refine s_skip (by kernel_rfl) ?_
    refine s_skip (by kernel_rfl) ?_
    refine s_skip (by kernel_rfl) ?_
    refine s_val (.bool true) (by kernel_rfl) (fun _ => by kernel_rfl) ?_
    refine s_nil ?_
    refine fin_seq ?_
    refine ok_true (by kernel_rfl) ?_
    refine ok_seq ?_
    refine ok_region ?_
    refine s_call (k := 9) (args := #[]) (.bool true) (by kernel_rfl) (fun _ => by kernel_rfl) (fun w _ => awake9_any w) ?_
    refine s_val (.bool true) (by kernel_rfl) (fun _ => by kernel_rfl) ?_
    refine s_nil ?_
    refine fin_seq ?_
    refine ok_ret ?_
    refine fin_seq_ret ?_
    refine fin_ret (.bool true) Try.results6 (by kernel_rfl) ?_
    exact fun w hO => ⟨rfl, hO.below⟩
  · skip
    refine s_dec (p := (b.length : Int) = 0) false (by kernel_rfl) (fun _ => by kernel_rfl) (decide_eq_false (h1)) ?_
    refine s_val (.bool false) (by kernel_rfl) (fun _ => by kernel_rfl) ?_
    refine s_val (.slice b_A b.length b_c) (by kernel_rfl) (fun _ => by kernel_rfl) ?_
    refine s_val (.int .i64 (b.length : Int)) (by kernel_rfl) (fun _ => by kernel_rfl) ?_
    by_cases h2 : (3000 : Int) < (b.length : Int)
    · skip
      refine s_dec (p := (3000 : Int) < (b.length : Int)) true (by kernel_rfl) (fun _ => by kernel_rfl) (decide_eq_true (h2)) ?_
      refine s_val (.bool true) (by kernel_rfl) (fun _ => by kernel_rfl) ?_
      refine s_nil ?_
      refine fin_seq ?_
      refine ok_true (by kernel_rfl) ?_
      refine ok_seq ?_
      refine ok_region ?_
      refine s_call (k := 9) (args := #[]) (.bool true) (by kernel_rfl) (fun _ => by kernel_rfl) (fun w _ => awake9_any w) ?_
      refine s_val (.bool true) (by kernel_rfl) (fun _ => by kernel_rfl) ?_
      refine s_nil ?_
      refine fin_seq ?_
      refine ok_ret ?_
      refine fin_seq_ret ?_
      refine fin_ret (.bool true) Try.results6 (by kernel_rfl) ?_
      exact fun w hO => ⟨rfl, hO.below⟩
    · skip
      refine s_dec (p := (3000 : Int) < (b.length : Int)) false (by kernel_rfl) (fun _ => by kernel_rfl) (decide_eq_false (h2)) ?_
      refine s_val (.bool false) (by kernel_rfl) (fun _ => by kernel_rfl) ?_
      refine s_nil ?_
      refine fin_seq ?_
      refine ok_false (by kernel_rfl) ?_
      refine ok_skip ?_
      refine fin_seq ?_
      refine ok_seq ?_
      refine ok_region ?_
      refine s_val (.slice b_A b.length b_c) (by kernel_rfl) (fun _ => by kernel_rfl) ?_
      obtain ⟨i0, z0, e1, e2, e3, e4, e5⟩ := u8_info
      refine s_clone (A := b_A) (cap := b_c) (g := u8C) (l := b) (sz := 1) (by kernel_rfl) rfl Try.underlying22 e1 e2 e3 e4 (by kernel_rfl) (by kernel_rfl) u8C_len (fun w hO => hv.on hO.below hO.size) (u8C_cells b) (by unfold maxLen; omega) (by rw [e5]; omega) (fun v1 ob1 hu1 => ?_)
      obtain ⟨A1, cap1, rfl⟩ := Sl.form9 hu1
      refine s_cast (L' := ob1) (List.append_nil _) ?_
      obtain ⟨g, cur, rfl, rfl, hle1, hmx1, hsz1, hcur⟩ := Sl.block hu1 (by omega)
      obtain ⟨k, hkp⟩ : ∃ k : Nat, plc at_ (b.length : Int) = (k : Int) := ⟨(plc at_ (b.length : Int)).toNat, by have := plc_in at_ (b.length : Int) (by omega); omega⟩
      have hk : k < b.length := by have := plc_in at_ (b.length : Int) (by omega); omega
      obtain ⟨x, hx⟩ : ∃ x, b[k] = x := ⟨_, rfl⟩
      refine s_val (.slice (some ⟨g, 0, none⟩) b.length cap1) (by kernel_rfl) (fun _ => by kernel_rfl) ?_
      refine s_nil ?_
      refine fin_seq ?_
      refine ok_seq ?_
      refine ok_region ?_
      refine s_val (.int .i64 at_) (by kernel_rfl) (fun _ => by kernel_rfl) ?_
      refine s_val (.slice b_A b.length b_c) (by kernel_rfl) (fun _ => by kernel_rfl) ?_
      refine s_val (.int .i64 (b.length : Int)) (by kernel_rfl) (fun _ => by kernel_rfl) ?_
      refine s_call (k := 20) (args := #[.int .i64 at_, .int .i64 (b.length : Int)]) (.int .i64 (k : Int)) (by kernel_rfl) (fun _ => by kernel_rfl) (fun w _ => (place_any at_ (b.length : Int) w (by omega) (by omega)).mono fun e w' ⟨q1, q2⟩ => ⟨by rw [← hkp]; exact q1, q2 ▸ Below.refl _ _⟩) ?_
      refine s_val (.int .i64 (k : Int)) (by kernel_rfl) (fun _ => by kernel_rfl) ?_
      refine s_nil ?_
      refine fin_seq ?_
      refine ok_seq ?_
      refine ok_region ?_
      refine s_val (.slice (some ⟨g, 0, none⟩) b.length cap1) (by kernel_rfl) (fun _ => by kernel_rfl) ?_
      refine s_val (.int .i64 (k : Int)) (by kernel_rfl) (fun _ => by kernel_rfl) ?_
      refine s_val (.slice (some ⟨g, 0, none⟩) b.length cap1) (by kernel_rfl) (fun _ => by kernel_rfl) ?_
      refine s_val (.int .i64 (k : Int)) (by kernel_rfl) (fun _ => by kernel_rfl) ?_
      refine s_val (.pointer (some ⟨g, k * 1, none⟩)) (by kernel_rfl) (run_ixsl (b := g) (off := 0) (n := b.length) (c := cap1) (k := .i64) (j := (k : Int)) (e := 5) (sz := 1) rfl (by kernel_rfl) (by kernel_rfl) (by kernel_rfl) (by kernel_rfl) (by omega) (by omega) (by omega)) ?_
      refine s_load 0 ⟨g, cur, 5⟩ (off := k * 1) (.int .u8 (x.toNat : Int)) (by kernel_rfl) rfl (by kernel_rfl) (by kernel_rfl) (read_part u8C_len hcur k 0 (by omega) (by omega) _ (by rw [hx]; kernel_rfl)) ?_
      refine s_val (.int .u8 (y.toNat : Int)) (by kernel_rfl) (fun _ => by kernel_rfl) ?_
      refine s_val (.int .u8 ((x ^^^ y).toNat : Int)) (by kernel_rfl) (run_xor8b (x := x) (y := y) rfl (by kernel_rfl) (by kernel_rfl)) ?_
      refine s_val (.pointer (some ⟨g, k * 1, none⟩)) (by kernel_rfl) (run_ixsl (b := g) (off := 0) (n := b.length) (c := cap1) (k := .i64) (j := (k : Int)) (e := 5) (sz := 1) rfl (by kernel_rfl) (by kernel_rfl) (by kernel_rfl) (by kernel_rfl) (by omega) (by omega) (by omega)) ?_
      refine s_storeS 0 ⟨g, cur, 5⟩ (off := k * 1) (.int .u8 ((x ^^^ y).toNat : Int)) 1 (by kernel_rfl) rfl rfl (by kernel_rfl) (by kernel_rfl) (by kernel_rfl) (by kernel_rfl) (by kernel_rfl) (by show k * 1 + 1 ≤ cur.size; omega) (by kernel_rfl) ?_
      obtain ⟨c, hc⟩ : ∃ c, c = b.set k (x ^^^ y) := ⟨_, rfl⟩
      have hcl : c.length = b.length := by rw [hc, List.length_set]
      have hcc : (storeIn cur (k * 1) (Value.int .u8 ((x ^^^ y).toNat : Int)).cells).toList.take (c.length * 1) = c.flatMap u8C := by rw [hc]; have q := store_byte hk (by omega) hcur (x ^^^ y); rw [← Nat.mul_one k] at q; simpa using q
      refine s_nil ?_
      refine fin_seq ?_
      refine ok_seq ?_
      refine ok_region ?_
      refine s_call (k := 9) (args := #[]) (.bool true) (by kernel_rfl) (fun _ => by kernel_rfl) (fun w _ => awake9_any w) ?_
      refine s_val (.bool true) (by kernel_rfl) (fun _ => by kernel_rfl) ?_
      refine s_val (.slice (some ⟨g, 0, none⟩) b.length cap1) (by kernel_rfl) (fun _ => by kernel_rfl) ?_
      refine s_call (k := 10) (args := #[.slice (some ⟨g, 0, none⟩) b.length cap1]) (.int .u64 ((dSum c).toNat : Int)) (by kernel_rfl) (fun _ => by kernel_rfl) (fun w hO => by have q := d9Sum_any (some ⟨g, 0, none⟩) cap1 c w (Reads.pre9 (hO.held ⟨g, storeIn cur (k * 1) (Value.int .u8 ((x ^^^ y).toNat : Int)).cells, 5⟩ (List.mem_cons_self ..)) hcc) (by omega); rw [hcl] at q; exact q) ?_
      refine s_val (.slice b_A b.length b_c) (by kernel_rfl) (fun _ => by kernel_rfl) ?_
      refine s_call (k := 10) (args := #[.slice b_A b.length b_c]) (.int .u64 ((dSum b).toNat : Int)) (by kernel_rfl) (fun _ => by kernel_rfl) (fun w hO => d9Sum_any b_A b_c b w (hv.on hO.below hO.size) (by omega)) ?_
      by_cases h3 : ((dSum c).toNat : Int) = ((dSum b).toNat : Int)
      · skip
        refine s_dec (p := ((dSum c).toNat : Int) = ((dSum b).toNat : Int)) true (by kernel_rfl) (fun _ => by kernel_rfl) (decide_eq_true (h3)) ?_
        refine s_val (.int .u8 (y.toNat : Int)) (by kernel_rfl) (fun _ => by kernel_rfl) ?_
        refine s_dec (p := (y.toNat : Int) = 0) true (by kernel_rfl) (fun _ => by kernel_rfl) (decide_eq_true ((one_iff hk hx hc).1 h3)) ?_
        refine s_val (.bool true) (by kernel_rfl) (fun _ => by kernel_rfl) ?_
        refine s_val (.bool true) (by kernel_rfl) (fun _ => by kernel_rfl) ?_
        refine s_val (.bool true) (by kernel_rfl) (fun _ => by kernel_rfl) ?_
        refine s_nil ?_
        refine fin_seq ?_
        refine ok_ret ?_
        refine fin_ret (.bool true) Try.results6 (by kernel_rfl) ?_
        exact fun w hO => ⟨rfl, hO.below⟩
      · skip
        refine s_dec (p := ((dSum c).toNat : Int) = ((dSum b).toNat : Int)) false (by kernel_rfl) (fun _ => by kernel_rfl) (decide_eq_false (h3)) ?_
        refine s_val (.int .u8 (y.toNat : Int)) (by kernel_rfl) (fun _ => by kernel_rfl) ?_
        refine s_dec (p := (y.toNat : Int) = 0) false (by kernel_rfl) (fun _ => by kernel_rfl) (decide_eq_false (fun q0 => h3 ((one_iff hk hx hc).2 q0))) ?_
        refine s_val (.bool true) (by kernel_rfl) (fun _ => by kernel_rfl) ?_
        refine s_val (.bool true) (by kernel_rfl) (fun _ => by kernel_rfl) ?_
        refine s_val (.bool true) (by kernel_rfl) (fun _ => by kernel_rfl) ?_
        refine s_nil ?_
        refine fin_seq ?_
        refine ok_ret ?_
        refine fin_ret (.bool true) Try.results6 (by kernel_rfl) ?_
        exact fun w hO => ⟨rfl, hO.below⟩
theorem digestGrows.law (W : World) (l_A : Option Addr) (l_c : Nat) (l : List UInt64) (hv : Reads u64C W W.heap.size l_A l) (n : UInt64) : Calls Try.prog 7 #[.slice l_A l.length l_c, .int .u64 (n.toNat : Int)] W fun e w' => e = .returned (.bool true) ∧ Below W.heap.size W w' := by
  refine calls_ok (n := 30) Try.func7 rfl (by kernel_rfl) (by kernel_rfl) ?_
  refine ok_seq ?_
  refine ok_region ?_
  refine s_val (.bool false) (by kernel_rfl) (fun _ => by kernel_rfl) ?_
  refine s_nil ?_
  refine fin_seq ?_
  refine ok_seq ?_
  refine ok_seq ?_
  refine ok_region ?_
  refine s_val (.slice l_A l.length l_c) (by kernel_rfl) (fun _ => by kernel_rfl) ?_
  refine s_val (.int .i64 (l.length : Int)) (by kernel_rfl) (fun _ => by kernel_rfl) ?_
  by_cases h1 : (200 : Int) < (l.length : Int)
  · skip
    refine s_dec (p := (200 : Int) < (l.length : Int)) true (by kernel_rfl) (fun _ => by kernel_rfl) (decide_eq_true (h1)) ?_
    refine s_nil ?_
    refine fin_seq ?_
    refine ok_true (by kernel_rfl) ?_
    refine ok_seq ?_
    refine ok_region ?_
    refine s_call (k := 9) (args := #[]) (.bool true) (by kernel_rfl) (fun _ => by kernel_rfl) (fun w _ => awake9_any w) ?_
    refine s_val (.bool true) (by kernel_rfl) (fun _ => by kernel_rfl) ?_
    refine s_nil ?_
    refine fin_seq ?_
    refine ok_ret ?_
    refine fin_seq_ret ?_
    refine fin_ret (.bool true) Try.results7 (by kernel_rfl) ?_
    exact fun w hO => ⟨rfl, hO.below⟩
  · skip
    refine s_dec (p := (200 : Int) < (l.length : Int)) false (by kernel_rfl) (fun _ => by kernel_rfl) (decide_eq_false (h1)) ?_
    refine s_nil ?_
    refine fin_seq ?_
    refine ok_false (by kernel_rfl) ?_
    refine ok_skip ?_
    refine fin_seq ?_
    refine ok_seq ?_
    refine ok_region ?_
    refine s_val (.slice l_A l.length l_c) (by kernel_rfl) (fun _ => by kernel_rfl) ?_
    obtain ⟨i0, z0, e1, e2, e3, e4, e5⟩ := u64_info
    refine s_clone (A := l_A) (cap := l_c) (g := u64C) (l := l) (sz := 1) (by kernel_rfl) rfl Try.underlying31 e1 e2 e3 e4 (by kernel_rfl) (by kernel_rfl) u64C_len (fun w hO => hv.on hO.below hO.size) (u64C_cells l) (by unfold maxLen; omega) (by rw [e5]; omega) (fun v1 ob1 hu1 => ?_)
    obtain ⟨A1, cap1, rfl⟩ := Sl.form9 hu1
    refine s_cast (L' := ob1) (List.append_nil _) ?_
    refine s_val (.int .u64 (n.toNat : Int)) (by kernel_rfl) (fun _ => by kernel_rfl) ?_
    refine s_lit 24 #[.int .u64 (n.toNat : Int)] (by kernel_rfl) rfl (fun _ => by kernel_rfl) (fun b1 => ?_)
    obtain ⟨i0, z0, e1, e2, e3, e4, e5⟩ := u64_info
    refine s_cast (L' := [⟨b1, #[.int .u64 (n.toNat : Int)], 24⟩] ++ ob1 ++ ([] : List Blk)) (by rw [List.append_nil]; rfl) ?_
    refine s_append (sz := 1) (by kernel_rfl) rfl Try.underlying31 e1 e2 e3 e4 (by kernel_rfl) hu1 (a := ⟨b1, 0, none⟩) (m := 1) (c := 1) (news := u64C n) (by kernel_rfl) rfl (fun w hO j u hj => ?_) (fun u hu => by rw [List.mem_singleton.1 hu]; rfl) (by unfold maxLen; omega) (by rw [e5]; omega) (fun u2 ob2 hu2 => ?_)
    · rw [add_off, cell_of_row w b1 (0 + j) (u64C n).toArray 24 _ (hO.held ⟨b1, (u64C n).toArray, 24⟩ (List.mem_append_left _ (List.mem_append_left _ (List.mem_cons_self ..))))]; simpa using hj
    have hu2s : SlU u2 (l ++ [n]) ob2 := SlU.add hu2
    obtain ⟨B2, cb2, rfl⟩ := Sl.form9 hu2s
    refine s_take (L' := ob2) (fun w hO => Own.sub [⟨b1, #[.int .u64 (n.toNat : Int)], 24⟩] (show Own _ _ w (⟨b1, #[.int .u64 (n.toNat : Int)], 24⟩ :: (ob2)) from by rw [List.append_nil] at hO; exact hO)) ?_
    refine s_val (.slice B2 ((l ++ [n]).length) cb2) (by kernel_rfl) (fun _ => by kernel_rfl) ?_
    refine s_nil ?_
    refine fin_seq ?_
    refine ok_seq ?_
    refine ok_region ?_
    refine s_call (k := 9) (args := #[]) (.bool true) (by kernel_rfl) (fun _ => by kernel_rfl) (fun w _ => awake9_any w) ?_
    refine s_val (.bool true) (by kernel_rfl) (fun _ => by kernel_rfl) ?_
    refine s_val (.slice B2 ((l ++ [n]).length) cb2) (by kernel_rfl) (fun _ => by kernel_rfl) ?_
    refine s_call (k := 18) (args := #[.slice B2 ((l ++ [n]).length) cb2]) (.int .u64 ((dPair (dRoot l) n).toNat : Int)) (by kernel_rfl) (fun _ => by kernel_rfl) (fun w hO => by have q := d9Root_any B2 cb2 (l ++ [n]) w (Sl.reads hu2s rfl hO (fun x hx => hx)) (by simp; omega); rw [dRoot_snoc] at q; exact q) ?_
    refine s_val (.slice l_A l.length l_c) (by kernel_rfl) (fun _ => by kernel_rfl) ?_
    refine s_call (k := 18) (args := #[.slice l_A l.length l_c]) (.int .u64 ((dRoot l).toNat : Int)) (by kernel_rfl) (fun _ => by kernel_rfl) (fun w hO => d9Root_any l_A l_c l w (hv.on hO.below hO.size) (by omega)) ?_
    refine s_val (.int .u64 (n.toNat : Int)) (by kernel_rfl) (fun _ => by kernel_rfl) ?_
    refine s_call (k := 16) (args := #[.int .u64 ((dRoot l).toNat : Int), .int .u64 (n.toNat : Int)]) (.int .u64 ((dPair (dRoot l) n).toNat : Int)) (by kernel_rfl) (fun _ => by kernel_rfl) (fun w _ => d9Pair_any (dRoot l) n w) ?_
    refine s_dec (p := ((dPair (dRoot l) n).toNat : Int) = ((dPair (dRoot l) n).toNat : Int)) true (by kernel_rfl) (fun _ => by kernel_rfl) (decide_eq_true (rfl)) ?_
    refine s_val (.bool true) (by kernel_rfl) (fun _ => by kernel_rfl) ?_
    refine s_val (.bool true) (by kernel_rfl) (fun _ => by kernel_rfl) ?_
    refine s_call (k := 18) (args := #[.slice none 0 0]) (.int .u64 ((dSum []).toNat : Int)) (by kernel_rfl) (fun _ => by kernel_rfl) (fun w _ => d9Root_any none 0 [] w (fun h => absurd h (by simp)) (by simp)) ?_
    refine s_call (k := 10) (args := #[.slice none 0 0]) (.int .u64 ((dSum []).toNat : Int)) (by kernel_rfl) (fun _ => by kernel_rfl) (fun w _ => d9Sum_any none 0 [] w (fun h => absurd h (by simp)) (by simp)) ?_
    refine s_dec (p := ((dSum []).toNat : Int) = ((dSum []).toNat : Int)) true (by kernel_rfl) (fun _ => by kernel_rfl) (decide_eq_true (rfl)) ?_
    refine s_val (.bool true) (by kernel_rfl) (fun _ => by kernel_rfl) ?_
    refine s_val (.bool true) (by kernel_rfl) (fun _ => by kernel_rfl) ?_
    refine s_nil ?_
    refine fin_seq ?_
    refine ok_ret ?_
    refine fin_ret (.bool true) Try.results7 (by kernel_rfl) ?_
    exact fun w hO => ⟨rfl, hO.below⟩
theorem digestSwaps.law (W : World) (a b : UInt64) (l_A : Option Addr) (l_c : Nat) (l : List UInt64) (hv : Reads u64C W W.heap.size l_A l) : Calls Try.prog 8 #[.int .u64 (a.toNat : Int), .int .u64 (b.toNat : Int), .slice l_A l.length l_c] W fun e w' => e = .returned (.bool true) ∧ Below W.heap.size W w' := by
  refine calls_ok (n := 58) Try.func8 rfl (by kernel_rfl) (by kernel_rfl) ?_
  refine ok_seq ?_
  refine ok_region ?_
  refine s_val (.bool false) (by kernel_rfl) (fun _ => by kernel_rfl) ?_
  refine s_nil ?_
  refine fin_seq ?_
  refine ok_seq ?_
  refine ok_seq ?_
  refine ok_region ?_
  refine s_val (.slice l_A l.length l_c) (by kernel_rfl) (fun _ => by kernel_rfl) ?_
  refine s_val (.int .i64 (l.length : Int)) (by kernel_rfl) (fun _ => by kernel_rfl) ?_
  by_cases h1 : (60 : Int) < (l.length : Int)
  · skip
    refine s_dec (p := (60 : Int) < (l.length : Int)) true (by kernel_rfl) (fun _ => by kernel_rfl) (decide_eq_true (h1)) ?_
    refine s_nil ?_
    refine fin_seq ?_
    refine ok_true (by kernel_rfl) ?_
    refine ok_seq ?_
    refine ok_region ?_
    refine s_call (k := 9) (args := #[]) (.bool true) (by kernel_rfl) (fun _ => by kernel_rfl) (fun w _ => awake9_any w) ?_
    refine s_val (.bool true) (by kernel_rfl) (fun _ => by kernel_rfl) ?_
    refine s_nil ?_
    refine fin_seq ?_
    refine ok_ret ?_
    refine fin_seq_ret ?_
    refine fin_ret (.bool true) Try.results8 (by kernel_rfl) ?_
    exact fun w hO => ⟨rfl, hO.below⟩
  · skip
    refine s_dec (p := (60 : Int) < (l.length : Int)) false (by kernel_rfl) (fun _ => by kernel_rfl) (decide_eq_false (h1)) ?_
    refine s_nil ?_
    refine fin_seq ?_
    refine ok_false (by kernel_rfl) ?_
    refine ok_skip ?_
    refine fin_seq ?_
    refine ok_seq ?_
    refine ok_region ?_
    refine s_val (.slice l_A l.length l_c) (by kernel_rfl) (fun _ => by kernel_rfl) ?_
    obtain ⟨i0, z0, e1, e2, e3, e4, e5⟩ := u64_info
    refine s_clone (A := l_A) (cap := l_c) (g := u64C) (l := l) (sz := 1) (by kernel_rfl) rfl Try.underlying31 e1 e2 e3 e4 (by kernel_rfl) (by kernel_rfl) u64C_len (fun w hO => hv.on hO.below hO.size) (u64C_cells l) (by unfold maxLen; omega) (by rw [e5]; omega) (fun v1 ob1 hu1 => ?_)
    obtain ⟨A1, cap1, rfl⟩ := Sl.form9 hu1
    refine s_cast (L' := ob1) (List.append_nil _) ?_
    refine s_val (.int .u64 (a.toNat : Int)) (by kernel_rfl) (fun _ => by kernel_rfl) ?_
    refine s_val (.int .u64 (b.toNat : Int)) (by kernel_rfl) (fun _ => by kernel_rfl) ?_
    refine s_lit 24 #[.int .u64 (a.toNat : Int), .int .u64 (b.toNat : Int)] (by kernel_rfl) rfl (fun _ => by kernel_rfl) (fun b1 => ?_)
    obtain ⟨i0, z0, e1, e2, e3, e4, e5⟩ := u64_info
    refine s_cast (L' := [⟨b1, #[.int .u64 (a.toNat : Int), .int .u64 (b.toNat : Int)], 24⟩] ++ ob1 ++ ([] : List Blk)) (by rw [List.append_nil]; rfl) ?_
    refine s_append (sz := 1) (by kernel_rfl) rfl Try.underlying31 e1 e2 e3 e4 (by kernel_rfl) hu1 (a := ⟨b1, 0, none⟩) (m := 2) (c := 2) (news := (u64C a ++ u64C b)) (by kernel_rfl) rfl (fun w hO j u hj => ?_) (fun u hu => by rcases List.mem_append.1 hu with q | q <;> (rw [List.mem_singleton.1 q]; rfl)) (by unfold maxLen; omega) (by rw [e5]; omega) (fun u2 ob2 hu2 => ?_)
    · rw [add_off, cell_of_row w b1 (0 + j) #[.int .u64 (a.toNat : Int), .int .u64 (b.toNat : Int)] 24 _ (hO.held ⟨b1, #[.int .u64 (a.toNat : Int), .int .u64 (b.toNat : Int)], 24⟩ (List.mem_append_left _ (List.mem_append_left _ (List.mem_cons_self ..))))]; simpa [u64C] using hj
    have hu2s : SlU u2 (l ++ [a, b]) ob2 := Sl.to9 hu2 (by simp) (by simp)
    obtain ⟨B2, cb2, rfl⟩ := Sl.form9 hu2s
    refine s_take (L' := ob2) (fun w hO => Own.sub [⟨b1, #[.int .u64 (a.toNat : Int), .int .u64 (b.toNat : Int)], 24⟩] (show Own _ _ w (⟨b1, #[.int .u64 (a.toNat : Int), .int .u64 (b.toNat : Int)], 24⟩ :: ob2) from by rw [List.append_nil] at hO; exact hO)) ?_
    refine s_call (k := 18) (args := #[.slice B2 ((l ++ [a, b]).length) cb2]) (.int .u64 ((dPair (dPair (dRoot l) a) b).toNat : Int)) (by kernel_rfl) (fun _ => by kernel_rfl) (fun w hO => by have q := d9Root_any B2 cb2 (l ++ [a, b]) w (Sl.reads hu2s rfl hO (fun x hx => hx)) (by simp; omega); rw [dRoot_two] at q; exact q) ?_
    refine s_val (.int .u64 ((dPair (dPair (dRoot l) a) b).toNat : Int)) (by kernel_rfl) (fun _ => by kernel_rfl) ?_
    refine s_nil ?_
    refine fin_seq ?_
    refine ok_seq ?_
    refine ok_region ?_
    refine s_val (.slice l_A l.length l_c) (by kernel_rfl) (fun _ => by kernel_rfl) ?_
    refine s_take (L' := ([] : List Blk)) (fun w hO => Own.sub (ob2) (show Own _ _ w ((ob2) ++ ([] : List Blk)) from by rw [List.append_nil]; exact hO)) ?_
    obtain ⟨i0, z0, e1, e2, e3, e4, e5⟩ := u64_info
    refine s_clone (A := l_A) (cap := l_c) (g := u64C) (l := l) (sz := 1) (by kernel_rfl) rfl Try.underlying31 e1 e2 e3 e4 (by kernel_rfl) (by kernel_rfl) u64C_len (fun w hO => hv.on hO.below hO.size) (u64C_cells l) (by unfold maxLen; omega) (by rw [e5]; omega) (fun v3 ob3 hu3 => ?_)
    obtain ⟨A3, cap3, rfl⟩ := Sl.form9 hu3
    refine s_cast (L' := ob3) (List.append_nil _) ?_
    refine s_val (.int .u64 (b.toNat : Int)) (by kernel_rfl) (fun _ => by kernel_rfl) ?_
    refine s_val (.int .u64 (a.toNat : Int)) (by kernel_rfl) (fun _ => by kernel_rfl) ?_
    refine s_lit 24 #[.int .u64 (b.toNat : Int), .int .u64 (a.toNat : Int)] (by kernel_rfl) rfl (fun _ => by kernel_rfl) (fun b2 => ?_)
    obtain ⟨i0, z0, e1, e2, e3, e4, e5⟩ := u64_info
    refine s_cast (L' := [⟨b2, #[.int .u64 (b.toNat : Int), .int .u64 (a.toNat : Int)], 24⟩] ++ ob3 ++ ([] : List Blk)) (by rw [List.append_nil]; rfl) ?_
    refine s_append (sz := 1) (by kernel_rfl) rfl Try.underlying31 e1 e2 e3 e4 (by kernel_rfl) hu3 (a := ⟨b2, 0, none⟩) (m := 2) (c := 2) (news := (u64C b ++ u64C a)) (by kernel_rfl) rfl (fun w hO j u hj => ?_) (fun u hu => by rcases List.mem_append.1 hu with q | q <;> (rw [List.mem_singleton.1 q]; rfl)) (by unfold maxLen; omega) (by rw [e5]; omega) (fun u4 ob4 hu4 => ?_)
    · rw [add_off, cell_of_row w b2 (0 + j) #[.int .u64 (b.toNat : Int), .int .u64 (a.toNat : Int)] 24 _ (hO.held ⟨b2, #[.int .u64 (b.toNat : Int), .int .u64 (a.toNat : Int)], 24⟩ (List.mem_append_left _ (List.mem_append_left _ (List.mem_cons_self ..))))]; simpa [u64C] using hj
    have hu4s : SlU u4 (l ++ [b, a]) ob4 := Sl.to9 hu4 (by simp) (by simp)
    obtain ⟨B4, cb4, rfl⟩ := Sl.form9 hu4s
    refine s_take (L' := ob4) (fun w hO => Own.sub [⟨b2, #[.int .u64 (b.toNat : Int), .int .u64 (a.toNat : Int)], 24⟩] (show Own _ _ w (⟨b2, #[.int .u64 (b.toNat : Int), .int .u64 (a.toNat : Int)], 24⟩ :: ob4) from by rw [List.append_nil] at hO; exact hO)) ?_
    refine s_call (k := 18) (args := #[.slice B4 ((l ++ [b, a]).length) cb4]) (.int .u64 ((dPair (dPair (dRoot l) b) a).toNat : Int)) (by kernel_rfl) (fun _ => by kernel_rfl) (fun w hO => by have q := d9Root_any B4 cb4 (l ++ [b, a]) w (Sl.reads hu4s rfl hO (fun x hx => hx)) (by simp; omega); rw [dRoot_two] at q; exact q) ?_
    refine s_val (.int .u64 ((dPair (dPair (dRoot l) b) a).toNat : Int)) (by kernel_rfl) (fun _ => by kernel_rfl) ?_
    refine s_nil ?_
    refine fin_seq ?_
    refine ok_seq ?_
    refine ok_region ?_
    refine s_val (.slice l_A l.length l_c) (by kernel_rfl) (fun _ => by kernel_rfl) ?_
    refine s_call (k := 18) (args := #[.slice l_A l.length l_c]) (.int .u64 ((dRoot l).toNat : Int)) (by kernel_rfl) (fun _ => by kernel_rfl) (fun w hO => d9Root_any l_A l_c l w (hv.on hO.below hO.size) (by omega)) ?_
    refine s_val (.int .u64 ((dRoot l).toNat : Int)) (by kernel_rfl) (fun _ => by kernel_rfl) ?_
    refine s_nil ?_
    refine fin_seq ?_
    refine ok_seq ?_
    refine ok_region ?_
    refine s_val (.int .u64 ((dRoot l).toNat : Int)) (by kernel_rfl) (fun _ => by kernel_rfl) ?_
    refine s_val (.int .u64 (a.toNat : Int)) (by kernel_rfl) (fun _ => by kernel_rfl) ?_
    refine s_call (k := 16) (args := #[.int .u64 ((dRoot l).toNat : Int), .int .u64 (a.toNat : Int)]) (.int .u64 ((dPair (dRoot l) a).toNat : Int)) (by kernel_rfl) (fun _ => by kernel_rfl) (fun w _ => d9Pair_any (dRoot l) a w) ?_
    refine s_val (.int .u64 (b.toNat : Int)) (by kernel_rfl) (fun _ => by kernel_rfl) ?_
    refine s_call (k := 16) (args := #[.int .u64 ((dPair (dRoot l) a).toNat : Int), .int .u64 (b.toNat : Int)]) (.int .u64 ((dPair (dPair (dRoot l) a) b).toNat : Int)) (by kernel_rfl) (fun _ => by kernel_rfl) (fun w _ => d9Pair_any (dPair (dRoot l) a) b w) ?_
    refine s_val (.int .u64 ((dRoot l).toNat : Int)) (by kernel_rfl) (fun _ => by kernel_rfl) ?_
    refine s_val (.int .u64 (b.toNat : Int)) (by kernel_rfl) (fun _ => by kernel_rfl) ?_
    refine s_call (k := 16) (args := #[.int .u64 ((dRoot l).toNat : Int), .int .u64 (b.toNat : Int)]) (.int .u64 ((dPair (dRoot l) b).toNat : Int)) (by kernel_rfl) (fun _ => by kernel_rfl) (fun w _ => d9Pair_any (dRoot l) b w) ?_
    refine s_val (.int .u64 (a.toNat : Int)) (by kernel_rfl) (fun _ => by kernel_rfl) ?_
    refine s_call (k := 16) (args := #[.int .u64 ((dPair (dRoot l) b).toNat : Int), .int .u64 (a.toNat : Int)]) (.int .u64 ((dPair (dPair (dRoot l) b) a).toNat : Int)) (by kernel_rfl) (fun _ => by kernel_rfl) (fun w _ => d9Pair_any (dPair (dRoot l) b) a w) ?_
    by_cases h2 : ((dPair (dPair (dRoot l) a) b).toNat : Int) = ((dPair (dPair (dRoot l) b) a).toNat : Int)
    · skip
      refine s_dec (p := ((dPair (dPair (dRoot l) a) b).toNat : Int) = ((dPair (dPair (dRoot l) b) a).toNat : Int)) true (by kernel_rfl) (fun _ => by kernel_rfl) (decide_eq_true (h2)) ?_
      refine s_val (.bool true) (by kernel_rfl) (fun _ => by kernel_rfl) ?_
      refine s_nil ?_
      refine fin_seq ?_
      refine ok_seq ?_
      refine ok_region ?_
      refine s_call (k := 9) (args := #[]) (.bool true) (by kernel_rfl) (fun _ => by kernel_rfl) (fun w _ => awake9_any w) ?_
      refine s_val (.bool true) (by kernel_rfl) (fun _ => by kernel_rfl) ?_
      refine s_val (.int .u64 ((dPair (dPair (dRoot l) a) b).toNat : Int)) (by kernel_rfl) (fun _ => by kernel_rfl) ?_
      refine s_val (.int .u64 ((dPair (dPair (dRoot l) b) a).toNat : Int)) (by kernel_rfl) (fun _ => by kernel_rfl) ?_
      refine s_dec (p := ((dPair (dPair (dRoot l) a) b).toNat : Int) = ((dPair (dPair (dRoot l) b) a).toNat : Int)) true (by kernel_rfl) (fun _ => by kernel_rfl) (decide_eq_true (h2)) ?_
      refine s_val (.bool true) (by kernel_rfl) (fun _ => by kernel_rfl) ?_
      refine s_val (.bool true) (by kernel_rfl) (fun _ => by kernel_rfl) ?_
      refine s_val (.bool true) (by kernel_rfl) (fun _ => by kernel_rfl) ?_
      refine s_val (.bool true) (by kernel_rfl) (fun _ => by kernel_rfl) ?_
      refine s_val (.int .u64 (a.toNat : Int)) (by kernel_rfl) (fun _ => by kernel_rfl) ?_
      refine s_val (.int .u64 (b.toNat : Int)) (by kernel_rfl) (fun _ => by kernel_rfl) ?_
      by_cases h3 : (a.toNat : Int) = (b.toNat : Int)
      · skip
        refine s_ndec (p := (a.toNat : Int) = (b.toNat : Int)) true (by kernel_rfl) (fun _ => by kernel_rfl) (decide_eq_true (h3)) ?_
        refine s_val (.bool false) (by kernel_rfl) (fun _ => by kernel_rfl) ?_
        refine s_val (.bool true) (by kernel_rfl) (fun _ => by kernel_rfl) ?_
        refine s_val (.bool true) (by kernel_rfl) (fun _ => by kernel_rfl) ?_
        refine s_val (.bool true) (by kernel_rfl) (fun _ => by kernel_rfl) ?_
        refine s_val (.bool true) (by kernel_rfl) (fun _ => by kernel_rfl) ?_
        refine s_nil ?_
        refine fin_seq ?_
        refine ok_ret ?_
        refine fin_ret (.bool true) Try.results8 (by kernel_rfl) ?_
        exact fun w hO => ⟨rfl, hO.below⟩
      · skip
        refine s_ndec (p := (a.toNat : Int) = (b.toNat : Int)) false (by kernel_rfl) (fun _ => by kernel_rfl) (decide_eq_false (h3)) ?_
        refine s_val (.bool true) (by kernel_rfl) (fun _ => by kernel_rfl) ?_
        refine s_skip (by kernel_rfl) ?_
        refine s_val (.bool true) (by kernel_rfl) (fun _ => by kernel_rfl) ?_
        refine s_val (.bool true) (by kernel_rfl) (fun _ => by kernel_rfl) ?_
        refine s_val (.bool true) (by kernel_rfl) (fun _ => by kernel_rfl) ?_
        refine s_nil ?_
        refine fin_seq ?_
        refine ok_ret ?_
        refine fin_ret (.bool true) Try.results8 (by kernel_rfl) ?_
        exact fun w hO => ⟨rfl, hO.below⟩
    · skip
      refine s_dec (p := ((dPair (dPair (dRoot l) a) b).toNat : Int) = ((dPair (dPair (dRoot l) b) a).toNat : Int)) false (by kernel_rfl) (fun _ => by kernel_rfl) (decide_eq_false (h2)) ?_
      refine s_val (.bool false) (by kernel_rfl) (fun _ => by kernel_rfl) ?_
      refine s_nil ?_
      refine fin_seq ?_
      refine ok_seq ?_
      refine ok_region ?_
      refine s_call (k := 9) (args := #[]) (.bool true) (by kernel_rfl) (fun _ => by kernel_rfl) (fun w _ => awake9_any w) ?_
      refine s_val (.bool true) (by kernel_rfl) (fun _ => by kernel_rfl) ?_
      refine s_val (.int .u64 ((dPair (dPair (dRoot l) a) b).toNat : Int)) (by kernel_rfl) (fun _ => by kernel_rfl) ?_
      refine s_val (.int .u64 ((dPair (dPair (dRoot l) b) a).toNat : Int)) (by kernel_rfl) (fun _ => by kernel_rfl) ?_
      refine s_dec (p := ((dPair (dPair (dRoot l) a) b).toNat : Int) = ((dPair (dPair (dRoot l) b) a).toNat : Int)) false (by kernel_rfl) (fun _ => by kernel_rfl) (decide_eq_false (h2)) ?_
      refine s_val (.bool false) (by kernel_rfl) (fun _ => by kernel_rfl) ?_
      refine s_val (.bool true) (by kernel_rfl) (fun _ => by kernel_rfl) ?_
      refine s_val (.bool true) (by kernel_rfl) (fun _ => by kernel_rfl) ?_
      refine s_val (.bool true) (by kernel_rfl) (fun _ => by kernel_rfl) ?_
      refine s_val (.int .u64 (a.toNat : Int)) (by kernel_rfl) (fun _ => by kernel_rfl) ?_
      refine s_val (.int .u64 (b.toNat : Int)) (by kernel_rfl) (fun _ => by kernel_rfl) ?_
      refine s_ndec (p := (a.toNat : Int) = (b.toNat : Int)) false (by kernel_rfl) (fun _ => by kernel_rfl) (decide_eq_false (fun q0 => h2 (by rw [show a = b from UInt64.toNat_inj.1 (by omega)]))) ?_
      refine s_val (.bool true) (by kernel_rfl) (fun _ => by kernel_rfl) ?_
      refine s_skip (by kernel_rfl) ?_
      refine s_val (.bool true) (by kernel_rfl) (fun _ => by kernel_rfl) ?_
      refine s_val (.bool true) (by kernel_rfl) (fun _ => by kernel_rfl) ?_
      refine s_val (.bool true) (by kernel_rfl) (fun _ => by kernel_rfl) ?_
      refine s_nil ?_
      refine fin_seq ?_
      refine ok_ret ?_
      refine fin_ret (.bool true) Try.results8 (by kernel_rfl) ?_
      exact fun w hO => ⟨rfl, hO.below⟩
end Go.Proofs.Ytjgmmeienchfnaa
