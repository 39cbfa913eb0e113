/-
  What the statements' proofs lean on, part 5: each part begins with a remark that says what it proves and on what conditions.
-/
import Derived.ChangeSlices
import Derived.Test.YtglbfknmeojfkaaFA4

section
/-
  linchpinref11: Close: what it returns; nothing that was there is changed. Conditions: as the theorem names.
-/
namespace Go.Proofs.Ytglbfknmeojfkaa
open Go.RowKit
set_option maxRecDepth 100000
set_option linter.unusedVariables false
set_option linter.unusedSimpArgs false
set_option linter.unnecessarySimpa false
set_option maxHeartbeats 2000000

theorem RdP.reads {w : World} {A : Option Addr} {n c : Nat} {l : List (List UInt8)} (h : RdP w (.slice A n c) l) : Reads strC w w.heap.size A l := by
  obtain ⟨A', cap, e, h1, _⟩ := h.ex
  injection e with e1 e2 e3
  subst e1; exact h1
theorem r11Close_any (A B : Option Addr) (cap capb : Nat) (xs : List Fv) (asked : List (List UInt8)) (W : World) (hv : FtIn W W.heap.size A xs) (hu : Reads strC W W.heap.size B asked) (hn : asked.length ≤ 1000) (hta : ∀ a ∈ asked, a.length ≤ 1000000) : Calls Try.prog 18 #[.slice A xs.length cap, .slice B asked.length capb] W fun e w' => ∃ v1 v2 v3, e = .returned (.tuple #[v1, v2, v3, .int .i64 (errF (ftOf xs) asked)]) ∧ RdP w' v1 (onF (ftOf xs) asked) ∧ RdP w' v2 (optF (ftOf xs) asked) ∧ RdP w' v3 (pullF (ftOf xs) asked) ∧ Below W.heap.size W w' := by
  have hA0 : At W A xs B asked W := ⟨hv, hu, Below.refl _ _⟩
  refine calls_ok (n := 118) Try.func18 rfl (by kernel_rfl) (by kernel_rfl) ?_
  refine ok_seq ?_
  refine ok_region ?_
  refine s_val (.slice none 0 0) (by kernel_rfl) (fun _ => by kernel_rfl) ?_
  refine s_val (.slice none 0 0) (by kernel_rfl) (fun _ => by kernel_rfl) ?_
  refine s_val (.slice none 0 0) (by kernel_rfl) (fun _ => by kernel_rfl) ?_
  refine s_val (.int .i64 0) (by kernel_rfl) (fun _ => by kernel_rfl) ?_
  refine s_nil ?_
  refine fin_seq ?_
  refine ok_seq ?_
  refine ok_seq ?_
  refine ok_region ?_
  refine s_val (.slice A xs.length cap) (by kernel_rfl) (fun _ => by kernel_rfl) ?_
  refine s_call (k := 14) (args := #[.slice A xs.length cap]) (.bool (mayF (ftOf xs))) (by kernel_rfl) (fun _ => by kernel_rfl) (fun w hO => r11May_any A cap xs w (hA0.on hO.below).hv) ?_
  cases h1 : mayF (ftOf xs) with
  | true =>
    have h8 := may_eight h1
    have hmay := h1
    rw [ftOf_len] at h8
    refine s_val (.bool false) (by kernel_rfl) (fun _ => by kernel_rfl) ?_
    refine s_nil ?_
    refine fin_seq ?_
    refine ok_false (by kernel_rfl) ?_
    refine ok_skip ?_
    refine fin_seq ?_
    refine ok_seq ?_
    refine ok_region ?_
    refine s_val (.slice none 0 0) (by kernel_rfl) (fun _ => by kernel_rfl) ?_
    refine s_val (.slice none 0 0) (by kernel_rfl) (fun _ => by kernel_rfl) ?_
    refine s_val (.slice none 0 0) (by kernel_rfl) (fun _ => by kernel_rfl) ?_
    refine s_nil ?_
    refine fin_seq ?_
    refine ok_seq ?_
    refine ok_seq ?_
    refine ok_region ?_
    refine s_val (.int .i64 0) (by kernel_rfl) (fun _ => by kernel_rfl) ?_
    refine s_nil ?_
    refine fin_seq ?_
    refine ok_block ?_
    refine ok_loopW (fun w f m => ∃ (i : Nat) (C8 : Option Addr) (c8 : Nat) (j : Nat → Value), (i ≤ asked.length ∧ At W A xs B asked w ∧ RdP w (.slice C8 (asksT (asked.take i)).length c8) (asksT (asked.take i)) ∧ ∀ a ∈ asked.take i, isT (ftOf xs) a = true) ∧ f = upds j [(0, .slice A xs.length cap), (1, .slice B asked.length capb), (8, .slice C8 ((asksT (asked.take i)).length) c8), (9, .slice none 0 0), (10, .slice none 0 0), (11, .int .i64 (i : Int))] ∧ m = asked.length - i) (asked.length - 0) (fun w hO => ⟨0, none, 0, _, ⟨Nat.zero_le _, hA0.on hO.below, RdP.nil w, fun a ha => by simp at ha⟩, upds_self _ ⟨by kernel_rfl, by kernel_rfl, by kernel_rfl, by kernel_rfl, by kernel_rfl, by kernel_rfl, trivial⟩, rfl⟩) ?_
    rintro w1 f m ⟨i, C8, c8, j, hrel, rfl, rfl⟩
    obtain ⟨hi6, hA1, hR8_1, hq⟩ := hrel
    refine ok_seq ?_
    refine ok_seq ?_
    refine ok_region ?_
    refine s_val (.int .i64 (i : Int)) (by kernel_rfl) (fun _ => by kernel_rfl) ?_
    refine s_val (.slice B asked.length capb) (by kernel_rfl) (fun _ => by kernel_rfl) ?_
    refine s_val (.int .i64 (asked.length : Int)) (by kernel_rfl) (fun _ => by kernel_rfl) ?_
    by_cases h2 : (i : Int) < (asked.length : Int)
    · skip
      have hil : i < asked.length := by omega
      obtain ⟨bp, off, hB9, _, _⟩ := hA1.hu (by omega)
      obtain ⟨a, ha⟩ : ∃ a, asked[i] = a := ⟨_, rfl⟩
      refine s_dec (p := (i : Int) < (asked.length : Int)) true (by kernel_rfl) (fun _ => by kernel_rfl) (decide_eq_true (h2)) ?_
      refine s_nil ?_
      refine fin_seq ?_
      refine ok_true (by kernel_rfl) ?_
      refine ok_skip ?_
      refine fin_seq ?_
      refine ok_seq ?_
      refine ok_block ?_
      refine ok_seq ?_
      refine ok_seq ?_
      refine ok_region ?_
      refine s_val (.slice A xs.length cap) (by kernel_rfl) (fun _ => by kernel_rfl) ?_
      refine s_val (.slice B asked.length capb) (by kernel_rfl) (fun _ => by kernel_rfl) ?_
      refine s_val (.int .i64 (i : Int)) (by kernel_rfl) (fun _ => by kernel_rfl) ?_
      refine s_val (.pointer (some ⟨bp, off + i * 1, none⟩)) (by kernel_rfl) (run_ixA (b := bp) (off := off) (c := capb) (n := asked.length) (k := .i64) (j := (i : Int)) (e := 9) (sz := 1) rfl (by kernel_rfl) hB9 (by kernel_rfl) (by kernel_rfl) (by kernel_rfl) (by omega) (by omega) (by omega)) ?_
      refine s_old (.string (mkS a)) (a := ⟨bp, off + i * 1, none⟩) (by kernel_rfl) rfl (by kernel_rfl) (fun w hO => Reads.load strC_len (hA1.on hO.below).hu hB9 i 0 hil (by omega) _ (by rw [ha]; kernel_rfl)) ?_
      refine s_call (k := 41) (args := #[.slice A xs.length cap, .string (mkS a)]) (.bool (isT (ftOf xs) a)) (by kernel_rfl) (fun _ => by kernel_rfl) (fun w hO => r11Is_any A cap xs a w (hA1.on hO.below).hv) ?_
      cases h3 : isT (ftOf xs) a with
      | true =>
        refine s_val (.bool false) (by kernel_rfl) (fun _ => by kernel_rfl) ?_
        refine s_nil ?_
        refine fin_seq ?_
        refine ok_false (by kernel_rfl) ?_
        refine ok_skip ?_
        refine fin_seq ?_
        refine ok_region ?_
        refine s_val (.slice C8 ((asksT (asked.take i)).length) c8) (by kernel_rfl) (fun _ => by kernel_rfl) ?_
        refine s_val (.slice B asked.length capb) (by kernel_rfl) (fun _ => by kernel_rfl) ?_
        refine s_val (.int .i64 (i : Int)) (by kernel_rfl) (fun _ => by kernel_rfl) ?_
        refine s_val (.pointer (some ⟨bp, off + i * 1, none⟩)) (by kernel_rfl) (run_ixA (b := bp) (off := off) (c := capb) (n := asked.length) (k := .i64) (j := (i : Int)) (e := 9) (sz := 1) rfl (by kernel_rfl) hB9 (by kernel_rfl) (by kernel_rfl) (by kernel_rfl) (by omega) (by omega) (by omega)) ?_
        refine s_old (.string (mkS a)) (a := ⟨bp, off + i * 1, none⟩) (by kernel_rfl) rfl (by kernel_rfl) (fun w hO => Reads.load strC_len (hA1.on hO.below).hu hB9 i 0 hil (by omega) _ (by rw [ha]; kernel_rfl)) ?_
        refine s_callW (k := 42) (args := #[.slice C8 ((asksT (asked.take i)).length) c8, .string (mkS a)]) (fun v w' => RdP w' v (putT (asksT (asked.take i)) a)) (by kernel_rfl) (fun _ => by kernel_rfl) (fun w hO => r11Put_any a w (hR8_1.on hO.below) (by have q : (asksT (asked.take i)).length ≤ 0 + (asked.take i).length := asks_len (r := asked.take i) (acc := []); rw [List.length_take] at q; omega)) (fun vt2 w2 hv2 hO2 => ?_)
        have hA2 := hA1.on hO2.below
        have hR8_2 := hR8_1.on hO2.below
        obtain ⟨C2, c2, rfl, hq2a, hq2b, hq2c⟩ := hv2.ex
        have hP2 : RdP w2 (.slice C2 (putT (asksT (asked.take i)) a).length c2) (putT (asksT (asked.take i)) a) := ⟨C2, c2, rfl, hq2a, hq2b, hq2c⟩
        refine s_val (.slice C2 ((putT (asksT (asked.take i)) a).length) c2) (by kernel_rfl) (fun _ => by kernel_rfl) ?_
        refine s_nil ?_
        refine fin_block ?_
        refine fin_seq ?_
        refine ok_region ?_
        refine s_val (.int .i64 (i : Int)) (by kernel_rfl) (fun _ => by kernel_rfl) ?_
        refine s_sum (k := .i64) (((i + 1 : Nat) : Int)) (by kernel_rfl) (fun _ => by kernel_rfl) (IntWalk.i64_in _ (by omega)) ?_
        refine s_val (.int .i64 ((i + 1 : Nat) : Int)) (by kernel_rfl) (fun _ => by kernel_rfl) ?_
        refine s_nil ?_
        rw [show putT (asksT (asked.take i)) a = asksT (asked.take (i + 1)) from (asks_step hil ha).symm] at hP2 ⊢
        exact fin_roundW (m' := asked.length - (i + 1)) (by omega) (fun w hO => ⟨i + 1, C2, c2, _, ⟨by omega, hA2.on hO.below, hP2.on hO.below, mem_step hil hq (by rw [ha]; exact h3)⟩, upds_self _ ⟨by kernel_rfl, by kernel_rfl, by kernel_rfl, by kernel_rfl, by kernel_rfl, by kernel_rfl, trivial⟩, rfl⟩)
      | false =>
        refine s_val (.bool true) (by kernel_rfl) (fun _ => by kernel_rfl) ?_
        refine s_nil ?_
        refine fin_seq ?_
        refine ok_true (by kernel_rfl) ?_
        refine ok_seq ?_
        refine ok_region ?_
        refine s_val (.slice none 0 0) (by kernel_rfl) (fun _ => by kernel_rfl) ?_
        refine s_val (.slice none 0 0) (by kernel_rfl) (fun _ => by kernel_rfl) ?_
        refine s_val (.slice none 0 0) (by kernel_rfl) (fun _ => by kernel_rfl) ?_
        refine s_val (.int .i64 11) (by kernel_rfl) (fun _ => by kernel_rfl) ?_
        refine s_nil ?_
        refine fin_seq ?_
        refine ok_ret ?_
        refine fin_seq_ret ?_
        refine fin_block_ret ?_
        refine fin_seq_ret ?_
        refine fin_roundW_ret ?_
        refine fin_block_ret ?_
        refine fin_seq_ret ?_
        refine fin_ret4 (.slice none 0 0) (.slice none 0 0) (.slice none 0 0) (.int .i64 11) Try.results18 (by kernel_rfl) (by kernel_rfl) (by kernel_rfl) (by kernel_rfl) ?_
        exact fun w hO => (by have h9 : ¬ errF (ftOf xs) asked = 0 := (by rw [show errF (ftOf xs) asked = 11 from by unfold errF; rw [if_pos hmay, if_neg (by rw [List.all_eq_true]; exact fun q => by have := q a (ha ▸ List.getElem_mem hil); rw [h3] at this; cases this)]]; decide); obtain ⟨z1, z2, z3⟩ := clo_no h9; exact ⟨_, _, _, by rw [show errF (ftOf xs) asked = 11 from by unfold errF; rw [if_pos hmay, if_neg (by rw [List.all_eq_true]; exact fun q => by have := q a (ha ▸ List.getElem_mem hil); rw [h3] at this; cases this)]], by rw [z1]; exact RdP.nil w, by rw [z2]; exact RdP.nil w, by rw [z3]; exact RdP.nil w, (hA1.on hO.below).hb⟩)
    · skip
      have hi9 : i = asked.length := by omega
      have hask : ∀ a ∈ asked, isT (ftOf xs) a = true := mem_end (i := i) (by omega) hq
      refine s_dec (p := (i : Int) < (asked.length : Int)) false (by kernel_rfl) (fun _ => by kernel_rfl) (decide_eq_false (h2)) ?_
      refine s_nil ?_
      refine fin_seq ?_
      refine ok_false (by kernel_rfl) ?_
      refine ok_exit ?_
      refine fin_seq_exit ?_
      refine fin_roundW_exit ?_
      refine fin_block_exit ?_
      refine fin_seq ?_
      refine ok_seq ?_
      refine ok_seq ?_
      refine ok_region ?_
      refine s_val (.int .i64 0) (by kernel_rfl) (fun _ => by kernel_rfl) ?_
      refine s_nil ?_
      refine fin_seq ?_
      refine ok_block ?_
      rw [show asksT (asked.take i) = rounds (ftOf xs) 0 (asksT asked) from by rw [hi9, List.take_length]; rfl] at hR8_1 ⊢
      refine ok_loopW (fun w f m => ∃ (r : Nat) (C5 : Option Addr) (c5 : Nat) (j : Nat → Value), (r ≤ xs.length + 1 ∧ At W A xs B asked w ∧ RdP w (.slice C5 (rounds (ftOf xs) r (asksT asked)).length c5) (rounds (ftOf xs) r (asksT asked))) ∧ f = upds j [(0, .slice A xs.length cap), (1, .slice B asked.length capb), (8, .slice C5 ((rounds (ftOf xs) r (asksT asked)).length) c5), (9, .slice none 0 0), (10, .slice none 0 0), (12, .int .i64 (r : Int))] ∧ m = xs.length + 1 - r) (xs.length + 1 - 0) (fun w hO => ⟨0, C8, c8, _, ⟨Nat.zero_le _, hA1.on hO.below, hR8_1.on hO.below⟩, upds_self _ ⟨by kernel_rfl, by kernel_rfl, by kernel_rfl, by kernel_rfl, by kernel_rfl, by kernel_rfl, trivial⟩, rfl⟩) ?_
      rintro w3 f m ⟨r, C5, c5, j, hrel, rfl, rfl⟩
      obtain ⟨hr6, hA3, hR8_3⟩ := hrel
      refine ok_seq ?_
      refine ok_seq ?_
      refine ok_region ?_
      refine s_val (.int .i64 (r : Int)) (by kernel_rfl) (fun _ => by kernel_rfl) ?_
      refine s_val (.slice A xs.length cap) (by kernel_rfl) (fun _ => by kernel_rfl) ?_
      refine s_val (.int .i64 (xs.length : Int)) (by kernel_rfl) (fun _ => by kernel_rfl) ?_
      by_cases h4 : (r : Int) ≤ (xs.length : Int)
      · skip
        refine s_dec (p := (r : Int) ≤ (xs.length : Int)) true (by kernel_rfl) (fun _ => by kernel_rfl) (decide_eq_true (h4)) ?_
        refine s_nil ?_
        refine fin_seq ?_
        refine ok_true (by kernel_rfl) ?_
        refine ok_skip ?_
        refine fin_seq ?_
        refine ok_seq ?_
        refine ok_block ?_
        refine ok_seq ?_
        refine ok_region ?_
        refine s_val (.slice C5 ((rounds (ftOf xs) r (asksT asked)).length) c5) (by kernel_rfl) (fun _ => by kernel_rfl) ?_
        refine s_val (.int .i64 ((rounds (ftOf xs) r (asksT asked)).length : Int)) (by kernel_rfl) (fun _ => by kernel_rfl) ?_
        refine s_val (.int .i64 0) (by kernel_rfl) (fun _ => by kernel_rfl) ?_
        refine s_nil ?_
        refine fin_seq ?_
        refine ok_block ?_
        refine ok_loopW (fun w f m => ∃ (i : Nat) (C6 : Option Addr) (c6 : Nat) (j : Nat → Value), (i ≤ (rounds (ftOf xs) r (asksT asked)).length ∧ At W A xs B asked w ∧ RdP w (.slice C5 ((rounds (ftOf xs) r (asksT asked)).length) c5) (rounds (ftOf xs) r (asksT asked)) ∧ RdP w (.slice C6 (collK 1 wordOf (ftOf xs) (rounds (ftOf xs) r (asksT asked)) ((rounds (ftOf xs) r (asksT asked)).take i)).length c6) (collK 1 wordOf (ftOf xs) (rounds (ftOf xs) r (asksT asked)) ((rounds (ftOf xs) r (asksT asked)).take i))) ∧ f = upds j [(0, .slice A xs.length cap), (1, .slice B asked.length capb), (9, .slice none 0 0), (10, .slice none 0 0), (12, .int .i64 (r : Int)), (55, .slice C5 ((rounds (ftOf xs) r (asksT asked)).length) c5), (56, .int .i64 ((rounds (ftOf xs) r (asksT asked)).length : Int)), (8, .slice C6 ((collK 1 wordOf (ftOf xs) (rounds (ftOf xs) r (asksT asked)) ((rounds (ftOf xs) r (asksT asked)).take i)).length) c6), (57, .int .i64 (i : Int))] ∧ m = (rounds (ftOf xs) r (asksT asked)).length - i) ((rounds (ftOf xs) r (asksT asked)).length - 0) (fun w hO => ⟨0, C5, c5, _, ⟨Nat.zero_le _, hA3.on hO.below, hR8_3.on hO.below, hR8_3.on hO.below⟩, upds_self _ ⟨by kernel_rfl, by kernel_rfl, by kernel_rfl, by kernel_rfl, by kernel_rfl, by kernel_rfl, by kernel_rfl, by kernel_rfl, by kernel_rfl, trivial⟩, rfl⟩) ?_
        rintro w4 f m ⟨i, C6, c6, j, hrel, rfl, rfl⟩
        obtain ⟨hi6, hA4, hR55_4, hR8_4⟩ := hrel
        have h09 := rounds_ten hmay hask r
        refine ok_seq ?_
        refine ok_region ?_
        by_cases h5 : (i : Int) < ((rounds (ftOf xs) r (asksT asked)).length : Int)
        · skip
          have hil : i < (rounds (ftOf xs) r (asksT asked)).length := by omega
          obtain ⟨bp, off, hB9, _, _⟩ := hR55_4.reads (by omega)
          obtain ⟨fn, hfn⟩ : ∃ fn, (rounds (ftOf xs) r (asksT asked))[i] = fn := ⟨_, rfl⟩
          refine s_dec (p := (i : Int) < ((rounds (ftOf xs) r (asksT asked)).length : Int)) true (by kernel_rfl) (fun _ => by kernel_rfl) (decide_eq_true (h5)) ?_
          refine s_nil ?_
          refine fin_seq ?_
          refine ok_seq ?_
          refine ok_true (by kernel_rfl) ?_
          refine ok_skip ?_
          refine fin_seq ?_
          refine ok_seq ?_
          refine ok_block ?_
          refine ok_seq ?_
          refine ok_region ?_
          refine s_val (.pointer (some ⟨bp, off + i * 1, none⟩)) (by kernel_rfl) (run_ixA (b := bp) (off := off) (c := c5) (n := (rounds (ftOf xs) r (asksT asked)).length) (k := .i64) (j := (i : Int)) (e := 9) (sz := 1) rfl (by kernel_rfl) hB9 (by kernel_rfl) (by kernel_rfl) (by kernel_rfl) (by omega) (by omega) (by omega)) ?_
          refine s_old (.string (mkS fn)) (a := ⟨bp, off + i * 1, none⟩) (by kernel_rfl) rfl (by kernel_rfl) (fun w hO => Reads.load strC_len (hR55_4.reads.on hO.below hO.size) hB9 i 0 hil (by omega) _ (by rw [hfn]; kernel_rfl)) ?_
          refine s_val (.string (mkS fn)) (by kernel_rfl) (fun _ => by kernel_rfl) ?_
          refine s_nil ?_
          refine fin_seq ?_
          refine ok_seq ?_
          refine ok_region ?_
          refine s_val (.slice A xs.length cap) (by kernel_rfl) (fun _ => by kernel_rfl) ?_
          refine s_val (.string (mkS fn)) (by kernel_rfl) (fun _ => by kernel_rfl) ?_
          refine s_callW (k := 43) (args := #[.slice A xs.length cap, .string (mkS fn)]) (fun v w' => ∃ D d, v = .slice D (ofT (ftOf xs) fn).length d ∧ Reads strC w' w'.heap.size D (ofT (ftOf xs) fn)) (by kernel_rfl) (fun _ => by kernel_rfl) (fun w hO => (r11Of_any A cap xs fn w (hA4.on hO.below).hv).mono fun e w' ⟨D, d, k1, k2, k3⟩ => ⟨_, k1, ⟨D, d, rfl, k2.on k3 k3.size⟩, k3⟩) (fun vt5 w5 hv5 hO5 => ?_)
          have hA5 := hA4.on hO5.below
          have hR55_5 := hR55_4.on hO5.below
          have hR8_5 := hR8_4.on hO5.below
          obtain ⟨D5, d5, rfl, hD5⟩ := hv5
          refine s_val (.int .i64 ((ofT (ftOf xs) fn).length : Int)) (by kernel_rfl) (fun _ => by kernel_rfl) ?_
          refine s_val (.int .i64 0) (by kernel_rfl) (fun _ => by kernel_rfl) ?_
          refine s_nil ?_
          refine fin_seq ?_
          refine ok_block ?_
          refine ok_loopW (fun w f m => ∃ (k : Nat) (C7 : Option Addr) (c7 : Nat) (j : Nat → Value), (k ≤ (ofT (ftOf xs) fn).length ∧ At W A xs B asked w ∧ RdP w (.slice C5 ((rounds (ftOf xs) r (asksT asked)).length) c5) (rounds (ftOf xs) r (asksT asked)) ∧ Reads strC w w.heap.size D5 (ofT (ftOf xs) fn) ∧ RdP w (.slice C7 (putK 1 wordOf (collK 1 wordOf (ftOf xs) (rounds (ftOf xs) r (asksT asked)) ((rounds (ftOf xs) r (asksT asked)).take i)) ((ofT (ftOf xs) fn).take k)).length c7) (putK 1 wordOf (collK 1 wordOf (ftOf xs) (rounds (ftOf xs) r (asksT asked)) ((rounds (ftOf xs) r (asksT asked)).take i)) ((ofT (ftOf xs) fn).take k))) ∧ f = upds j [(0, .slice A xs.length cap), (1, .slice B asked.length capb), (9, .slice none 0 0), (10, .slice none 0 0), (12, .int .i64 (r : Int)), (55, .slice C5 ((rounds (ftOf xs) r (asksT asked)).length) c5), (56, .int .i64 ((rounds (ftOf xs) r (asksT asked)).length : Int)), (57, .int .i64 (i : Int)), (63, .slice D5 ((ofT (ftOf xs) fn).length) d5), (64, .int .i64 ((ofT (ftOf xs) fn).length : Int)), (8, .slice C7 ((putK 1 wordOf (collK 1 wordOf (ftOf xs) (rounds (ftOf xs) r (asksT asked)) ((rounds (ftOf xs) r (asksT asked)).take i)) ((ofT (ftOf xs) fn).take k)).length) c7), (65, .int .i64 (k : Int))] ∧ m = (ofT (ftOf xs) fn).length - k) ((ofT (ftOf xs) fn).length - 0) (fun w hO => ⟨0, C6, c6, _, ⟨Nat.zero_le _, hA5.on hO.below, hR55_5.on hO.below, hD5.on hO.below hO.size, hR8_5.on hO.below⟩, upds_self _ ⟨by kernel_rfl, by kernel_rfl, by kernel_rfl, by kernel_rfl, by kernel_rfl, by kernel_rfl, by kernel_rfl, by kernel_rfl, by kernel_rfl, by kernel_rfl, by kernel_rfl, by kernel_rfl, trivial⟩, rfl⟩) ?_
          rintro w6 f m ⟨k, C7, c7, j, hrel, rfl, rfl⟩
          obtain ⟨hk6, hA6, hR55_6, hDk_6, hR8_6⟩ := hrel
          have hit6 := of_six hmay fn
          refine ok_seq ?_
          refine ok_region ?_
          by_cases h6 : (k : Int) < ((ofT (ftOf xs) fn).length : Int)
          · skip
            have hkl : k < (ofT (ftOf xs) fn).length := by omega
            obtain ⟨bq, ofq, hD9, _, _⟩ := hDk_6 (by omega)
            obtain ⟨s, hs⟩ : ∃ s, (ofT (ftOf xs) fn)[k] = s := ⟨_, rfl⟩
            have hsl : s.length ≤ 1000000 := of_short hA6.hv.text (hs ▸ List.getElem_mem hkl)
            refine s_dec (p := (k : Int) < ((ofT (ftOf xs) fn).length : Int)) true (by kernel_rfl) (fun _ => by kernel_rfl) (decide_eq_true (h6)) ?_
            refine s_nil ?_
            refine fin_seq ?_
            refine ok_seq ?_
            refine ok_true (by kernel_rfl) ?_
            refine ok_skip ?_
            refine fin_seq ?_
            refine ok_seq ?_
            refine ok_block ?_
            refine ok_seq ?_
            refine ok_region ?_
            refine s_val (.pointer (some ⟨bq, ofq + k * 1, none⟩)) (by kernel_rfl) (run_ixA (b := bq) (off := ofq) (c := d5) (n := (ofT (ftOf xs) fn).length) (k := .i64) (j := (k : Int)) (e := 9) (sz := 1) rfl (by kernel_rfl) hD9 (by kernel_rfl) (by kernel_rfl) (by kernel_rfl) (by omega) (by omega) (by omega)) ?_
            refine s_old (.string (mkS s)) (a := ⟨bq, ofq + k * 1, none⟩) (by kernel_rfl) rfl (by kernel_rfl) (fun w hO => Reads.load strC_len (hDk_6.on hO.below hO.size) hD9 k 0 hkl (by omega) _ (by rw [hs]; kernel_rfl)) ?_
            refine s_val (.string (mkS s)) (by kernel_rfl) (fun _ => by kernel_rfl) ?_
            refine s_nil ?_
            refine fin_seq ?_
            refine ok_seq ?_
            refine ok_region ?_
            refine s_val (.string (mkS s)) (by kernel_rfl) (fun _ => by kernel_rfl) ?_
            refine s_call (k := 11) (args := #[.string (mkS s)]) (.tuple #[.int .i64 ((kindT s).1), .string (mkS (kindT s).2.1), .string (mkS (kindT s).2.2)]) (by kernel_rfl) (fun _ => by kernel_rfl) (fun w hO => r11Item_any s w (by omega)) ?_
            refine s_val (.tuple #[.int .i64 ((kindT s).1), .string (mkS (kindT s).2.1), .string (mkS (kindT s).2.2)]) (by kernel_rfl) (fun _ => by kernel_rfl) ?_
            refine s_val (.int .i64 ((kindT s).1)) (by kernel_rfl) (fun _ => by kernel_rfl) ?_
            refine s_val (.string (mkS (kindT s).2.1)) (by kernel_rfl) (fun _ => by kernel_rfl) ?_
            refine s_val (.string (mkS (kindT s).2.2)) (by kernel_rfl) (fun _ => by kernel_rfl) ?_
            refine s_val (.int .i64 ((kindT s).1)) (by kernel_rfl) (fun _ => by kernel_rfl) ?_
            refine s_val (.string (mkS (kindT s).2.1)) (by kernel_rfl) (fun _ => by kernel_rfl) ?_
            refine s_val (.string (mkS (kindT s).2.2)) (by kernel_rfl) (fun _ => by kernel_rfl) ?_
            refine s_nil ?_
            refine fin_seq ?_
            refine ok_seq ?_
            refine ok_region ?_
            refine s_val (.int .i64 ((kindT s).1)) (by kernel_rfl) (fun _ => by kernel_rfl) ?_
            by_cases h7 : ((kindT s).1 : Int) = 1
            · skip
              refine s_dec (p := ((kindT s).1 : Int) = 1) true (by kernel_rfl) (fun _ => by kernel_rfl) (decide_eq_true (h7)) ?_
              refine s_nil ?_
              refine fin_seq ?_
              refine ok_true (by kernel_rfl) ?_
              refine ok_region ?_
              refine s_val (.slice C7 ((putK 1 wordOf (collK 1 wordOf (ftOf xs) (rounds (ftOf xs) r (asksT asked)) ((rounds (ftOf xs) r (asksT asked)).take i)) ((ofT (ftOf xs) fn).take k)).length) c7) (by kernel_rfl) (fun _ => by kernel_rfl) ?_
              refine s_val (.string (mkS (kindT s).2.1)) (by kernel_rfl) (fun _ => by kernel_rfl) ?_
              refine s_callW (k := 42) (args := #[.slice C7 ((putK 1 wordOf (collK 1 wordOf (ftOf xs) (rounds (ftOf xs) r (asksT asked)) ((rounds (ftOf xs) r (asksT asked)).take i)) ((ofT (ftOf xs) fn).take k)).length) c7, .string (mkS (kindT s).2.1)]) (fun v w' => RdP w' v (putT (putK 1 wordOf (collK 1 wordOf (ftOf xs) (rounds (ftOf xs) r (asksT asked)) ((rounds (ftOf xs) r (asksT asked)).take i)) ((ofT (ftOf xs) fn).take k)) ((kindT s).2.1))) (by kernel_rfl) (fun _ => by kernel_rfl) (fun w hO => r11Put_any ((kindT s).2.1) w (hR8_6.on hO.below) (by have q1 := putK_len (k := 1) (val := wordOf) (r := (ofT (ftOf xs) fn).take k) (acc := (collK 1 wordOf (ftOf xs) (rounds (ftOf xs) r (asksT asked)) ((rounds (ftOf xs) r (asksT asked)).take i))); have q2 := collK_len (k := 1) (val := wordOf) (of_six hmay) (r := (rounds (ftOf xs) r (asksT asked)).take i) (acc := (rounds (ftOf xs) r (asksT asked))); have q3 : (rounds (ftOf xs) r (asksT asked)).length ≤ 9 := rounds_ten hmay hask r; have q4 := of_six hmay fn; rw [List.length_take] at q1 q2; (try simp only [List.length_nil] at q2); omega)) (fun vt7 w7 hv7 hO7 => ?_)
              have hA7 := hA6.on hO7.below
              have hR55_7 := hR55_6.on hO7.below
              have hR8_7 := hR8_6.on hO7.below
              have hDm_7 := hDk_6.on hO7.below hO7.size
              obtain ⟨C7, c7, rfl, hq7a, hq7b, hq7c⟩ := hv7.ex
              have hP7 : RdP w7 (.slice C7 (putT (putK 1 wordOf (collK 1 wordOf (ftOf xs) (rounds (ftOf xs) r (asksT asked)) ((rounds (ftOf xs) r (asksT asked)).take i)) ((ofT (ftOf xs) fn).take k)) ((kindT s).2.1)).length c7) (putT (putK 1 wordOf (collK 1 wordOf (ftOf xs) (rounds (ftOf xs) r (asksT asked)) ((rounds (ftOf xs) r (asksT asked)).take i)) ((ofT (ftOf xs) fn).take k)) ((kindT s).2.1)) := ⟨C7, c7, rfl, hq7a, hq7b, hq7c⟩
              refine s_val (.slice C7 ((putT (putK 1 wordOf (collK 1 wordOf (ftOf xs) (rounds (ftOf xs) r (asksT asked)) ((rounds (ftOf xs) r (asksT asked)).take i)) ((ofT (ftOf xs) fn).take k)) ((kindT s).2.1)).length) c7) (by kernel_rfl) (fun _ => by kernel_rfl) ?_
              refine s_nil ?_
              refine fin_block ?_
              refine fin_seq ?_
              refine ok_region ?_
              refine s_sum (k := .i64) (((k + 1 : Nat) : Int)) (by kernel_rfl) (fun _ => by kernel_rfl) (IntWalk.i64_in _ (by omega)) ?_
              refine s_val (.int .i64 ((k + 1 : Nat) : Int)) (by kernel_rfl) (fun _ => by kernel_rfl) ?_
              refine s_nil ?_
              rw [show putT (putK 1 wordOf (collK 1 wordOf (ftOf xs) (rounds (ftOf xs) r (asksT asked)) ((rounds (ftOf xs) r (asksT asked)).take i)) ((ofT (ftOf xs) fn).take k)) (kindT s).2.1 = putK 1 wordOf (collK 1 wordOf (ftOf xs) (rounds (ftOf xs) r (asksT asked)) ((rounds (ftOf xs) r (asksT asked)).take i)) ((ofT (ftOf xs) fn).take (k + 1)) from (putK_yes (val := wordOf) hkl hs h7).symm] at hP7 ⊢
              exact fin_roundW (m' := (ofT (ftOf xs) fn).length - (k + 1)) (by omega) (fun w hO => ⟨k + 1, C7, c7, _, ⟨by omega, hA7.on hO.below, hR55_7.on hO.below, hDm_7.on hO.below hO.size, hP7.on hO.below⟩, upds_self _ ⟨by kernel_rfl, by kernel_rfl, by kernel_rfl, by kernel_rfl, by kernel_rfl, by kernel_rfl, by kernel_rfl, by kernel_rfl, by kernel_rfl, by kernel_rfl, by kernel_rfl, by kernel_rfl, trivial⟩, rfl⟩)
            · skip
              refine s_dec (p := ((kindT s).1 : Int) = 1) false (by kernel_rfl) (fun _ => by kernel_rfl) (decide_eq_false (h7)) ?_
              refine s_nil ?_
              refine fin_seq ?_
              refine ok_false (by kernel_rfl) ?_
              refine ok_skip ?_
              refine fin_block ?_
              refine fin_seq ?_
              refine ok_region ?_
              refine s_sum (k := .i64) (((k + 1 : Nat) : Int)) (by kernel_rfl) (fun _ => by kernel_rfl) (IntWalk.i64_in _ (by omega)) ?_
              refine s_val (.int .i64 ((k + 1 : Nat) : Int)) (by kernel_rfl) (fun _ => by kernel_rfl) ?_
              refine s_nil ?_
              rw [show (putK 1 wordOf (collK 1 wordOf (ftOf xs) (rounds (ftOf xs) r (asksT asked)) ((rounds (ftOf xs) r (asksT asked)).take i)) ((ofT (ftOf xs) fn).take k)) = putK 1 wordOf (collK 1 wordOf (ftOf xs) (rounds (ftOf xs) r (asksT asked)) ((rounds (ftOf xs) r (asksT asked)).take i)) ((ofT (ftOf xs) fn).take (k + 1)) from (putK_no hkl hs h7).symm] at hR8_6 ⊢
              exact fin_roundW (m' := (ofT (ftOf xs) fn).length - (k + 1)) (by omega) (fun w hO => ⟨k + 1, C7, c7, _, ⟨by omega, hA6.on hO.below, hR55_6.on hO.below, hDk_6.on hO.below hO.size, hR8_6.on hO.below⟩, upds_self _ ⟨by kernel_rfl, by kernel_rfl, by kernel_rfl, by kernel_rfl, by kernel_rfl, by kernel_rfl, by kernel_rfl, by kernel_rfl, by kernel_rfl, by kernel_rfl, by kernel_rfl, by kernel_rfl, trivial⟩, rfl⟩)
          · skip
            have hk9 : k = (ofT (ftOf xs) fn).length := by omega
            refine s_dec (p := (k : Int) < ((ofT (ftOf xs) fn).length : Int)) false (by kernel_rfl) (fun _ => by kernel_rfl) (decide_eq_false (h6)) ?_
            refine s_nil ?_
            refine fin_seq ?_
            refine ok_seq ?_
            refine ok_false (by kernel_rfl) ?_
            refine ok_exit ?_
            refine fin_seq_exit ?_
            refine fin_roundW_exit ?_
            refine fin_block_exit ?_
            refine fin_block ?_
            refine fin_seq ?_
            refine ok_region ?_
            refine s_sum (k := .i64) (((i + 1 : Nat) : Int)) (by kernel_rfl) (fun _ => by kernel_rfl) (IntWalk.i64_in _ (by omega)) ?_
            refine s_val (.int .i64 ((i + 1 : Nat) : Int)) (by kernel_rfl) (fun _ => by kernel_rfl) ?_
            refine s_nil ?_
            rw [show (putK 1 wordOf (collK 1 wordOf (ftOf xs) (rounds (ftOf xs) r (asksT asked)) ((rounds (ftOf xs) r (asksT asked)).take i)) ((ofT (ftOf xs) fn).take k)) = collK 1 wordOf (ftOf xs) (rounds (ftOf xs) r (asksT asked)) ((rounds (ftOf xs) r (asksT asked)).take (i + 1)) from by rw [hk9, List.take_length, collK_step hil hfn]] at hR8_6 ⊢
            exact fin_roundW (m' := (rounds (ftOf xs) r (asksT asked)).length - (i + 1)) (by omega) (fun w hO => ⟨i + 1, C7, c7, _, ⟨by omega, hA6.on hO.below, hR55_6.on hO.below, hR8_6.on hO.below⟩, upds_self _ ⟨by kernel_rfl, by kernel_rfl, by kernel_rfl, by kernel_rfl, by kernel_rfl, by kernel_rfl, by kernel_rfl, by kernel_rfl, by kernel_rfl, trivial⟩, rfl⟩)
        · skip
          have hi8 : i = (rounds (ftOf xs) r (asksT asked)).length := by omega
          refine s_dec (p := (i : Int) < ((rounds (ftOf xs) r (asksT asked)).length : Int)) false (by kernel_rfl) (fun _ => by kernel_rfl) (decide_eq_false (h5)) ?_
          refine s_nil ?_
          refine fin_seq ?_
          refine ok_seq ?_
          refine ok_false (by kernel_rfl) ?_
          refine ok_exit ?_
          refine fin_seq_exit ?_
          refine fin_roundW_exit ?_
          refine fin_block_exit ?_
          refine fin_block ?_
          refine fin_seq ?_
          refine ok_region ?_
          refine s_val (.int .i64 (r : Int)) (by kernel_rfl) (fun _ => by kernel_rfl) ?_
          refine s_sum (k := .i64) (((r + 1 : Nat) : Int)) (by kernel_rfl) (fun _ => by kernel_rfl) (IntWalk.i64_in _ (by omega)) ?_
          refine s_val (.int .i64 ((r + 1 : Nat) : Int)) (by kernel_rfl) (fun _ => by kernel_rfl) ?_
          refine s_nil ?_
          rw [show (collK 1 wordOf (ftOf xs) (rounds (ftOf xs) r (asksT asked)) ((rounds (ftOf xs) r (asksT asked)).take i)) = rounds (ftOf xs) (r + 1) (asksT asked) from by rw [hi8, List.take_length, rounds_succ]] at hR8_4 ⊢
          exact fin_roundW (m' := xs.length + 1 - (r + 1)) (by omega) (fun w hO => ⟨r + 1, C6, c6, _, ⟨by omega, hA4.on hO.below, hR8_4.on hO.below⟩, upds_self _ ⟨by kernel_rfl, by kernel_rfl, by kernel_rfl, by kernel_rfl, by kernel_rfl, by kernel_rfl, trivial⟩, rfl⟩)
      · skip
        have hr9 : r = xs.length + 1 := by omega
        refine s_dec (p := (r : Int) ≤ (xs.length : Int)) false (by kernel_rfl) (fun _ => by kernel_rfl) (decide_eq_false (h4)) ?_
        refine s_nil ?_
        refine fin_seq ?_
        refine ok_false (by kernel_rfl) ?_
        refine ok_exit ?_
        refine fin_seq_exit ?_
        refine fin_roundW_exit ?_
        refine fin_block_exit ?_
        refine fin_seq ?_
        refine ok_seq ?_
        refine ok_seq ?_
        refine ok_region ?_
        refine s_val (.slice C5 ((rounds (ftOf xs) r (asksT asked)).length) c5) (by kernel_rfl) (fun _ => by kernel_rfl) ?_
        refine s_val (.int .i64 ((rounds (ftOf xs) r (asksT asked)).length : Int)) (by kernel_rfl) (fun _ => by kernel_rfl) ?_
        refine s_val (.int .i64 0) (by kernel_rfl) (fun _ => by kernel_rfl) ?_
        refine s_nil ?_
        refine fin_seq ?_
        refine ok_block ?_
        rw [show (rounds (ftOf xs) r (asksT asked)) = (onT (ftOf xs) asked) from by unfold onT; rw [ftOf_len, hr9]] at hR8_3 ⊢
        refine ok_loopW (fun w f m => ∃ (i : Nat) (Ca : Option Addr) (ca : Nat) (Cb : Option Addr) (cb : Nat) (j : Nat → Value), (i ≤ (onT (ftOf xs) asked).length ∧ At W A xs B asked w ∧ RdP w (.slice C5 ((onT (ftOf xs) asked).length) c5) (onT (ftOf xs) asked) ∧ RdP w (.slice Ca (collK 2 wordOf (ftOf xs) [] ((onT (ftOf xs) asked).take i)).length ca) (collK 2 wordOf (ftOf xs) [] ((onT (ftOf xs) asked).take i)) ∧ RdP w (.slice Cb (collK 3 id (ftOf xs) [] ((onT (ftOf xs) asked).take i)).length cb) (collK 3 id (ftOf xs) [] ((onT (ftOf xs) asked).take i))) ∧ f = upds j [(0, .slice A xs.length cap), (1, .slice B asked.length capb), (8, .slice C5 ((onT (ftOf xs) asked).length) c5), (9, .slice Ca ((collK 2 wordOf (ftOf xs) [] ((onT (ftOf xs) asked).take i)).length) ca), (10, .slice Cb ((collK 3 id (ftOf xs) [] ((onT (ftOf xs) asked).take i)).length) cb), (82, .slice C5 ((onT (ftOf xs) asked).length) c5), (83, .int .i64 ((onT (ftOf xs) asked).length : Int)), (84, .int .i64 (i : Int))] ∧ m = (onT (ftOf xs) asked).length - i) ((onT (ftOf xs) asked).length - 0) (fun w hO => ⟨0, none, 0, none, 0, _, ⟨Nat.zero_le _, hA3.on hO.below, hR8_3.on hO.below, RdP.nil w, RdP.nil w⟩, upds_self _ ⟨by kernel_rfl, by kernel_rfl, by kernel_rfl, by kernel_rfl, by kernel_rfl, by kernel_rfl, by kernel_rfl, by kernel_rfl, trivial⟩, rfl⟩) ?_
        rintro w8 f m ⟨i, Ca, ca, Cb, cb, j, hrel, rfl, rfl⟩
        obtain ⟨hi6, hA8, hR82_8, hR9_8, hR10_8⟩ := hrel
        have h09 : (onT (ftOf xs) asked).length ≤ 9 := rounds_ten hmay hask ((ftOf xs).length + 1)
        refine ok_seq ?_
        refine ok_region ?_
        by_cases h8 : (i : Int) < ((onT (ftOf xs) asked).length : Int)
        · skip
          have hil : i < (onT (ftOf xs) asked).length := by omega
          obtain ⟨bp, off, hB9, _, _⟩ := hR82_8.reads (by omega)
          obtain ⟨fn, hfn⟩ : ∃ fn, (onT (ftOf xs) asked)[i] = fn := ⟨_, rfl⟩
          refine s_dec (p := (i : Int) < ((onT (ftOf xs) asked).length : Int)) true (by kernel_rfl) (fun _ => by kernel_rfl) (decide_eq_true (h8)) ?_
          refine s_nil ?_
          refine fin_seq ?_
          refine ok_seq ?_
          refine ok_true (by kernel_rfl) ?_
          refine ok_skip ?_
          refine fin_seq ?_
          refine ok_seq ?_
          refine ok_block ?_
          refine ok_seq ?_
          refine ok_region ?_
          refine s_val (.pointer (some ⟨bp, off + i * 1, none⟩)) (by kernel_rfl) (run_ixA (b := bp) (off := off) (c := c5) (n := (onT (ftOf xs) asked).length) (k := .i64) (j := (i : Int)) (e := 9) (sz := 1) rfl (by kernel_rfl) hB9 (by kernel_rfl) (by kernel_rfl) (by kernel_rfl) (by omega) (by omega) (by omega)) ?_
          refine s_old (.string (mkS fn)) (a := ⟨bp, off + i * 1, none⟩) (by kernel_rfl) rfl (by kernel_rfl) (fun w hO => Reads.load strC_len (hR82_8.reads.on hO.below hO.size) hB9 i 0 hil (by omega) _ (by rw [hfn]; kernel_rfl)) ?_
          refine s_val (.string (mkS fn)) (by kernel_rfl) (fun _ => by kernel_rfl) ?_
          refine s_nil ?_
          refine fin_seq ?_
          refine ok_seq ?_
          refine ok_region ?_
          refine s_val (.slice A xs.length cap) (by kernel_rfl) (fun _ => by kernel_rfl) ?_
          refine s_val (.string (mkS fn)) (by kernel_rfl) (fun _ => by kernel_rfl) ?_
          refine s_callW (k := 43) (args := #[.slice A xs.length cap, .string (mkS fn)]) (fun v w' => ∃ D d, v = .slice D (ofT (ftOf xs) fn).length d ∧ Reads strC w' w'.heap.size D (ofT (ftOf xs) fn)) (by kernel_rfl) (fun _ => by kernel_rfl) (fun w hO => (r11Of_any A cap xs fn w (hA8.on hO.below).hv).mono fun e w' ⟨D, d, k1, k2, k3⟩ => ⟨_, k1, ⟨D, d, rfl, k2.on k3 k3.size⟩, k3⟩) (fun vt9 w9 hv9 hO9 => ?_)
          have hA9 := hA8.on hO9.below
          have hR82_9 := hR82_8.on hO9.below
          have hR9_9 := hR9_8.on hO9.below
          have hR10_9 := hR10_8.on hO9.below
          obtain ⟨D9, d9, rfl, hD9⟩ := hv9
          refine s_val (.int .i64 ((ofT (ftOf xs) fn).length : Int)) (by kernel_rfl) (fun _ => by kernel_rfl) ?_
          refine s_val (.int .i64 0) (by kernel_rfl) (fun _ => by kernel_rfl) ?_
          refine s_nil ?_
          refine fin_seq ?_
          refine ok_block ?_
          refine ok_loopW (fun w f m => ∃ (k : Nat) (Cc : Option Addr) (cc : Nat) (Cd : Option Addr) (cd : Nat) (j : Nat → Value), (k ≤ (ofT (ftOf xs) fn).length ∧ At W A xs B asked w ∧ RdP w (.slice C5 ((onT (ftOf xs) asked).length) c5) (onT (ftOf xs) asked) ∧ Reads strC w w.heap.size D9 (ofT (ftOf xs) fn) ∧ RdP w (.slice Cc (putK 2 wordOf (collK 2 wordOf (ftOf xs) [] ((onT (ftOf xs) asked).take i)) ((ofT (ftOf xs) fn).take k)).length cc) (putK 2 wordOf (collK 2 wordOf (ftOf xs) [] ((onT (ftOf xs) asked).take i)) ((ofT (ftOf xs) fn).take k)) ∧ RdP w (.slice Cd (putK 3 id (collK 3 id (ftOf xs) [] ((onT (ftOf xs) asked).take i)) ((ofT (ftOf xs) fn).take k)).length cd) (putK 3 id (collK 3 id (ftOf xs) [] ((onT (ftOf xs) asked).take i)) ((ofT (ftOf xs) fn).take k))) ∧ f = upds j [(0, .slice A xs.length cap), (1, .slice B asked.length capb), (8, .slice C5 ((onT (ftOf xs) asked).length) c5), (82, .slice C5 ((onT (ftOf xs) asked).length) c5), (83, .int .i64 ((onT (ftOf xs) asked).length : Int)), (84, .int .i64 (i : Int)), (90, .slice D9 ((ofT (ftOf xs) fn).length) d9), (91, .int .i64 ((ofT (ftOf xs) fn).length : Int)), (9, .slice Cc ((putK 2 wordOf (collK 2 wordOf (ftOf xs) [] ((onT (ftOf xs) asked).take i)) ((ofT (ftOf xs) fn).take k)).length) cc), (10, .slice Cd ((putK 3 id (collK 3 id (ftOf xs) [] ((onT (ftOf xs) asked).take i)) ((ofT (ftOf xs) fn).take k)).length) cd), (92, .int .i64 (k : Int))] ∧ m = (ofT (ftOf xs) fn).length - k) ((ofT (ftOf xs) fn).length - 0) (fun w hO => ⟨0, Ca, ca, Cb, cb, _, ⟨Nat.zero_le _, hA9.on hO.below, hR82_9.on hO.below, hD9.on hO.below hO.size, hR9_9.on hO.below, hR10_9.on hO.below⟩, upds_self _ ⟨by kernel_rfl, by kernel_rfl, by kernel_rfl, by kernel_rfl, by kernel_rfl, by kernel_rfl, by kernel_rfl, by kernel_rfl, by kernel_rfl, by kernel_rfl, by kernel_rfl, trivial⟩, rfl⟩) ?_
          rintro w10 f m ⟨k, Cc, cc, Cd, cd, j, hrel, rfl, rfl⟩
          obtain ⟨hk6, hA10, hR82_10, hDk_10, hR9_10, hR10_10⟩ := hrel
          have hit6 := of_six hmay fn
          refine ok_seq ?_
          refine ok_region ?_
          by_cases h9 : (k : Int) < ((ofT (ftOf xs) fn).length : Int)
          · skip
            have hkl : k < (ofT (ftOf xs) fn).length := by omega
            obtain ⟨bq, ofq, hD9, _, _⟩ := hDk_10 (by omega)
            obtain ⟨s, hs⟩ : ∃ s, (ofT (ftOf xs) fn)[k] = s := ⟨_, rfl⟩
            have hsl : s.length ≤ 1000000 := of_short hA10.hv.text (hs ▸ List.getElem_mem hkl)
            refine s_dec (p := (k : Int) < ((ofT (ftOf xs) fn).length : Int)) true (by kernel_rfl) (fun _ => by kernel_rfl) (decide_eq_true (h9)) ?_
            refine s_nil ?_
            refine fin_seq ?_
            refine ok_seq ?_
            refine ok_true (by kernel_rfl) ?_
            refine ok_skip ?_
            refine fin_seq ?_
            refine ok_seq ?_
            refine ok_block ?_
            refine ok_seq ?_
            refine ok_region ?_
            refine s_val (.pointer (some ⟨bq, ofq + k * 1, none⟩)) (by kernel_rfl) (run_ixA (b := bq) (off := ofq) (c := d9) (n := (ofT (ftOf xs) fn).length) (k := .i64) (j := (k : Int)) (e := 9) (sz := 1) rfl (by kernel_rfl) hD9 (by kernel_rfl) (by kernel_rfl) (by kernel_rfl) (by omega) (by omega) (by omega)) ?_
            refine s_old (.string (mkS s)) (a := ⟨bq, ofq + k * 1, none⟩) (by kernel_rfl) rfl (by kernel_rfl) (fun w hO => Reads.load strC_len (hDk_10.on hO.below hO.size) hD9 k 0 hkl (by omega) _ (by rw [hs]; kernel_rfl)) ?_
            refine s_val (.string (mkS s)) (by kernel_rfl) (fun _ => by kernel_rfl) ?_
            refine s_nil ?_
            refine fin_seq ?_
            refine ok_seq ?_
            refine ok_region ?_
            refine s_val (.string (mkS s)) (by kernel_rfl) (fun _ => by kernel_rfl) ?_
            refine s_call (k := 11) (args := #[.string (mkS s)]) (.tuple #[.int .i64 ((kindT s).1), .string (mkS (kindT s).2.1), .string (mkS (kindT s).2.2)]) (by kernel_rfl) (fun _ => by kernel_rfl) (fun w hO => r11Item_any s w (by omega)) ?_
            refine s_val (.tuple #[.int .i64 ((kindT s).1), .string (mkS (kindT s).2.1), .string (mkS (kindT s).2.2)]) (by kernel_rfl) (fun _ => by kernel_rfl) ?_
            refine s_val (.int .i64 ((kindT s).1)) (by kernel_rfl) (fun _ => by kernel_rfl) ?_
            refine s_val (.string (mkS (kindT s).2.1)) (by kernel_rfl) (fun _ => by kernel_rfl) ?_
            refine s_val (.string (mkS (kindT s).2.2)) (by kernel_rfl) (fun _ => by kernel_rfl) ?_
            refine s_val (.int .i64 ((kindT s).1)) (by kernel_rfl) (fun _ => by kernel_rfl) ?_
            refine s_val (.string (mkS (kindT s).2.1)) (by kernel_rfl) (fun _ => by kernel_rfl) ?_
            refine s_val (.string (mkS (kindT s).2.2)) (by kernel_rfl) (fun _ => by kernel_rfl) ?_
            refine s_nil ?_
            refine fin_seq ?_
            refine ok_seq ?_
            refine ok_region ?_
            refine s_val (.int .i64 ((kindT s).1)) (by kernel_rfl) (fun _ => by kernel_rfl) ?_
            refine s_nil ?_
            refine fin_seq ?_
            refine ok_block ?_
            refine ok_seq ?_
            refine ok_region ?_
            by_cases h10 : ((kindT s).1 : Int) = 2
            · skip
              refine s_dec (p := ((kindT s).1 : Int) = 2) true (by kernel_rfl) (fun _ => by kernel_rfl) (decide_eq_true (h10)) ?_
              refine s_val (.bool true) (by kernel_rfl) (fun _ => by kernel_rfl) ?_
              refine s_nil ?_
              refine fin_seq ?_
              refine ok_true (by kernel_rfl) ?_
              refine ok_region ?_
              refine s_val (.slice Cc ((putK 2 wordOf (collK 2 wordOf (ftOf xs) [] ((onT (ftOf xs) asked).take i)) ((ofT (ftOf xs) fn).take k)).length) cc) (by kernel_rfl) (fun _ => by kernel_rfl) ?_
              refine s_val (.string (mkS (kindT s).2.1)) (by kernel_rfl) (fun _ => by kernel_rfl) ?_
              refine s_callW (k := 42) (args := #[.slice Cc ((putK 2 wordOf (collK 2 wordOf (ftOf xs) [] ((onT (ftOf xs) asked).take i)) ((ofT (ftOf xs) fn).take k)).length) cc, .string (mkS (kindT s).2.1)]) (fun v w' => RdP w' v (putT (putK 2 wordOf (collK 2 wordOf (ftOf xs) [] ((onT (ftOf xs) asked).take i)) ((ofT (ftOf xs) fn).take k)) ((kindT s).2.1))) (by kernel_rfl) (fun _ => by kernel_rfl) (fun w hO => r11Put_any ((kindT s).2.1) w (hR9_10.on hO.below) (by have q1 := putK_len (k := 2) (val := wordOf) (r := (ofT (ftOf xs) fn).take k) (acc := (collK 2 wordOf (ftOf xs) [] ((onT (ftOf xs) asked).take i))); have q2 := collK_len (k := 2) (val := wordOf) (of_six hmay) (r := (onT (ftOf xs) asked).take i) (acc := ([] : List (List UInt8))); have q3 : (onT (ftOf xs) asked).length ≤ 9 := rounds_ten hmay hask ((ftOf xs).length + 1); have q4 := of_six hmay fn; rw [List.length_take] at q1 q2; (try simp only [List.length_nil] at q2); omega)) (fun vt11 w11 hv11 hO11 => ?_)
              have hA11 := hA10.on hO11.below
              have hR82_11 := hR82_10.on hO11.below
              have hR9_11 := hR9_10.on hO11.below
              have hR10_11 := hR10_10.on hO11.below
              have hDm_11 := hDk_10.on hO11.below hO11.size
              obtain ⟨C11, c11, rfl, hq11a, hq11b, hq11c⟩ := hv11.ex
              have hP11 : RdP w11 (.slice C11 (putT (putK 2 wordOf (collK 2 wordOf (ftOf xs) [] ((onT (ftOf xs) asked).take i)) ((ofT (ftOf xs) fn).take k)) ((kindT s).2.1)).length c11) (putT (putK 2 wordOf (collK 2 wordOf (ftOf xs) [] ((onT (ftOf xs) asked).take i)) ((ofT (ftOf xs) fn).take k)) ((kindT s).2.1)) := ⟨C11, c11, rfl, hq11a, hq11b, hq11c⟩
              refine s_val (.slice C11 ((putT (putK 2 wordOf (collK 2 wordOf (ftOf xs) [] ((onT (ftOf xs) asked).take i)) ((ofT (ftOf xs) fn).take k)) ((kindT s).2.1)).length) c11) (by kernel_rfl) (fun _ => by kernel_rfl) ?_
              refine s_nil ?_
              refine fin_block ?_
              refine fin_block ?_
              refine fin_seq ?_
              refine ok_region ?_
              refine s_sum (k := .i64) (((k + 1 : Nat) : Int)) (by kernel_rfl) (fun _ => by kernel_rfl) (IntWalk.i64_in _ (by omega)) ?_
              refine s_val (.int .i64 ((k + 1 : Nat) : Int)) (by kernel_rfl) (fun _ => by kernel_rfl) ?_
              refine s_nil ?_
              rw [show putT (putK 2 wordOf (collK 2 wordOf (ftOf xs) [] ((onT (ftOf xs) asked).take i)) ((ofT (ftOf xs) fn).take k)) (kindT s).2.1 = putK 2 wordOf (collK 2 wordOf (ftOf xs) [] ((onT (ftOf xs) asked).take i)) ((ofT (ftOf xs) fn).take (k + 1)) from (putK_yes (val := wordOf) hkl hs h10).symm] at hP11 ⊢
              rw [show (putK 3 id (collK 3 id (ftOf xs) [] ((onT (ftOf xs) asked).take i)) ((ofT (ftOf xs) fn).take k)) = putK 3 id (collK 3 id (ftOf xs) [] ((onT (ftOf xs) asked).take i)) ((ofT (ftOf xs) fn).take (k + 1)) from (putK_no hkl hs (by omega)).symm] at hR10_11 ⊢
              exact fin_roundW (m' := (ofT (ftOf xs) fn).length - (k + 1)) (by omega) (fun w hO => ⟨k + 1, C11, c11, Cd, cd, _, ⟨by omega, hA11.on hO.below, hR82_11.on hO.below, hDm_11.on hO.below hO.size, hP11.on hO.below, hR10_11.on hO.below⟩, upds_self _ ⟨by kernel_rfl, by kernel_rfl, by kernel_rfl, by kernel_rfl, by kernel_rfl, by kernel_rfl, by kernel_rfl, by kernel_rfl, by kernel_rfl, by kernel_rfl, by kernel_rfl, trivial⟩, rfl⟩)
            · skip
              refine s_dec (p := ((kindT s).1 : Int) = 2) false (by kernel_rfl) (fun _ => by kernel_rfl) (decide_eq_false (h10)) ?_
              refine s_val (.bool false) (by kernel_rfl) (fun _ => by kernel_rfl) ?_
              refine s_nil ?_
              refine fin_seq ?_
              refine ok_false (by kernel_rfl) ?_
              refine ok_seq ?_
              refine ok_region ?_
              by_cases h11 : ((kindT s).1 : Int) = 3
              · skip
                refine s_dec (p := ((kindT s).1 : Int) = 3) true (by kernel_rfl) (fun _ => by kernel_rfl) (decide_eq_true (h11)) ?_
                refine s_val (.bool true) (by kernel_rfl) (fun _ => by kernel_rfl) ?_
                refine s_nil ?_
                refine fin_seq ?_
                refine ok_true (by kernel_rfl) ?_
                refine ok_region ?_
                refine s_val (.slice Cd ((putK 3 id (collK 3 id (ftOf xs) [] ((onT (ftOf xs) asked).take i)) ((ofT (ftOf xs) fn).take k)).length) cd) (by kernel_rfl) (fun _ => by kernel_rfl) ?_
                refine s_val (.string (mkS s)) (by kernel_rfl) (fun _ => by kernel_rfl) ?_
                refine s_callW (k := 42) (args := #[.slice Cd ((putK 3 id (collK 3 id (ftOf xs) [] ((onT (ftOf xs) asked).take i)) ((ofT (ftOf xs) fn).take k)).length) cd, .string (mkS s)]) (fun v w' => RdP w' v (putT (putK 3 id (collK 3 id (ftOf xs) [] ((onT (ftOf xs) asked).take i)) ((ofT (ftOf xs) fn).take k)) s)) (by kernel_rfl) (fun _ => by kernel_rfl) (fun w hO => r11Put_any s w (hR10_10.on hO.below) (by have q1 := putK_len (k := 3) (val := id) (r := (ofT (ftOf xs) fn).take k) (acc := (collK 3 id (ftOf xs) [] ((onT (ftOf xs) asked).take i))); have q2 := collK_len (k := 3) (val := id) (of_six hmay) (r := (onT (ftOf xs) asked).take i) (acc := ([] : List (List UInt8))); have q3 : (onT (ftOf xs) asked).length ≤ 9 := rounds_ten hmay hask ((ftOf xs).length + 1); have q4 := of_six hmay fn; rw [List.length_take] at q1 q2; (try simp only [List.length_nil] at q2); omega)) (fun vt12 w12 hv12 hO12 => ?_)
                have hA12 := hA10.on hO12.below
                have hR82_12 := hR82_10.on hO12.below
                have hR9_12 := hR9_10.on hO12.below
                have hR10_12 := hR10_10.on hO12.below
                have hDm_12 := hDk_10.on hO12.below hO12.size
                obtain ⟨C12, c12, rfl, hq12a, hq12b, hq12c⟩ := hv12.ex
                have hP12 : RdP w12 (.slice C12 (putT (putK 3 id (collK 3 id (ftOf xs) [] ((onT (ftOf xs) asked).take i)) ((ofT (ftOf xs) fn).take k)) s).length c12) (putT (putK 3 id (collK 3 id (ftOf xs) [] ((onT (ftOf xs) asked).take i)) ((ofT (ftOf xs) fn).take k)) s) := ⟨C12, c12, rfl, hq12a, hq12b, hq12c⟩
                refine s_val (.slice C12 ((putT (putK 3 id (collK 3 id (ftOf xs) [] ((onT (ftOf xs) asked).take i)) ((ofT (ftOf xs) fn).take k)) s).length) c12) (by kernel_rfl) (fun _ => by kernel_rfl) ?_
                refine s_nil ?_
                refine fin_block ?_
                refine fin_block ?_
                refine fin_seq ?_
                refine ok_region ?_
                refine s_sum (k := .i64) (((k + 1 : Nat) : Int)) (by kernel_rfl) (fun _ => by kernel_rfl) (IntWalk.i64_in _ (by omega)) ?_
                refine s_val (.int .i64 ((k + 1 : Nat) : Int)) (by kernel_rfl) (fun _ => by kernel_rfl) ?_
                refine s_nil ?_
                rw [show (putK 2 wordOf (collK 2 wordOf (ftOf xs) [] ((onT (ftOf xs) asked).take i)) ((ofT (ftOf xs) fn).take k)) = putK 2 wordOf (collK 2 wordOf (ftOf xs) [] ((onT (ftOf xs) asked).take i)) ((ofT (ftOf xs) fn).take (k + 1)) from (putK_no hkl hs h10).symm] at hR9_12 ⊢
                rw [show putT (putK 3 id (collK 3 id (ftOf xs) [] ((onT (ftOf xs) asked).take i)) ((ofT (ftOf xs) fn).take k)) s = putK 3 id (collK 3 id (ftOf xs) [] ((onT (ftOf xs) asked).take i)) ((ofT (ftOf xs) fn).take (k + 1)) from (putK_yes (val := id) hkl hs h11).symm] at hP12 ⊢
                exact fin_roundW (m' := (ofT (ftOf xs) fn).length - (k + 1)) (by omega) (fun w hO => ⟨k + 1, Cc, cc, C12, c12, _, ⟨by omega, hA12.on hO.below, hR82_12.on hO.below, hDm_12.on hO.below hO.size, hR9_12.on hO.below, hP12.on hO.below⟩, upds_self _ ⟨by kernel_rfl, by kernel_rfl, by kernel_rfl, by kernel_rfl, by kernel_rfl, by kernel_rfl, by kernel_rfl, by kernel_rfl, by kernel_rfl, by kernel_rfl, by kernel_rfl, trivial⟩, rfl⟩)
              · skip
                refine s_dec (p := ((kindT s).1 : Int) = 3) false (by kernel_rfl) (fun _ => by kernel_rfl) (decide_eq_false (h11)) ?_
                refine s_val (.bool false) (by kernel_rfl) (fun _ => by kernel_rfl) ?_
                refine s_nil ?_
                refine fin_seq ?_
                refine ok_false (by kernel_rfl) ?_
                refine ok_skip ?_
                refine fin_block ?_
                refine fin_block ?_
                refine fin_seq ?_
                refine ok_region ?_
                refine s_sum (k := .i64) (((k + 1 : Nat) : Int)) (by kernel_rfl) (fun _ => by kernel_rfl) (IntWalk.i64_in _ (by omega)) ?_
                refine s_val (.int .i64 ((k + 1 : Nat) : Int)) (by kernel_rfl) (fun _ => by kernel_rfl) ?_
                refine s_nil ?_
                rw [show (putK 2 wordOf (collK 2 wordOf (ftOf xs) [] ((onT (ftOf xs) asked).take i)) ((ofT (ftOf xs) fn).take k)) = putK 2 wordOf (collK 2 wordOf (ftOf xs) [] ((onT (ftOf xs) asked).take i)) ((ofT (ftOf xs) fn).take (k + 1)) from (putK_no hkl hs h10).symm] at hR9_10 ⊢
                rw [show (putK 3 id (collK 3 id (ftOf xs) [] ((onT (ftOf xs) asked).take i)) ((ofT (ftOf xs) fn).take k)) = putK 3 id (collK 3 id (ftOf xs) [] ((onT (ftOf xs) asked).take i)) ((ofT (ftOf xs) fn).take (k + 1)) from (putK_no hkl hs (by omega)).symm] at hR10_10 ⊢
                exact fin_roundW (m' := (ofT (ftOf xs) fn).length - (k + 1)) (by omega) (fun w hO => ⟨k + 1, Cc, cc, Cd, cd, _, ⟨by omega, hA10.on hO.below, hR82_10.on hO.below, hDk_10.on hO.below hO.size, hR9_10.on hO.below, hR10_10.on hO.below⟩, upds_self _ ⟨by kernel_rfl, by kernel_rfl, by kernel_rfl, by kernel_rfl, by kernel_rfl, by kernel_rfl, by kernel_rfl, by kernel_rfl, by kernel_rfl, by kernel_rfl, by kernel_rfl, trivial⟩, rfl⟩)
          · skip
            have hk9 : k = (ofT (ftOf xs) fn).length := by omega
            refine s_dec (p := (k : Int) < ((ofT (ftOf xs) fn).length : Int)) false (by kernel_rfl) (fun _ => by kernel_rfl) (decide_eq_false (h9)) ?_
            refine s_nil ?_
            refine fin_seq ?_
            refine ok_seq ?_
            refine ok_false (by kernel_rfl) ?_
            refine ok_exit ?_
            refine fin_seq_exit ?_
            refine fin_roundW_exit ?_
            refine fin_block_exit ?_
            refine fin_block ?_
            refine fin_seq ?_
            refine ok_region ?_
            refine s_sum (k := .i64) (((i + 1 : Nat) : Int)) (by kernel_rfl) (fun _ => by kernel_rfl) (IntWalk.i64_in _ (by omega)) ?_
            refine s_val (.int .i64 ((i + 1 : Nat) : Int)) (by kernel_rfl) (fun _ => by kernel_rfl) ?_
            refine s_nil ?_
            rw [show (putK 2 wordOf (collK 2 wordOf (ftOf xs) [] ((onT (ftOf xs) asked).take i)) ((ofT (ftOf xs) fn).take k)) = collK 2 wordOf (ftOf xs) [] ((onT (ftOf xs) asked).take (i + 1)) from by rw [hk9, List.take_length, collK_step hil hfn]] at hR9_10 ⊢
            rw [show (putK 3 id (collK 3 id (ftOf xs) [] ((onT (ftOf xs) asked).take i)) ((ofT (ftOf xs) fn).take k)) = collK 3 id (ftOf xs) [] ((onT (ftOf xs) asked).take (i + 1)) from by rw [hk9, List.take_length, collK_step hil hfn]] at hR10_10 ⊢
            exact fin_roundW (m' := (onT (ftOf xs) asked).length - (i + 1)) (by omega) (fun w hO => ⟨i + 1, Cc, cc, Cd, cd, _, ⟨by omega, hA10.on hO.below, hR82_10.on hO.below, hR9_10.on hO.below, hR10_10.on hO.below⟩, upds_self _ ⟨by kernel_rfl, by kernel_rfl, by kernel_rfl, by kernel_rfl, by kernel_rfl, by kernel_rfl, by kernel_rfl, by kernel_rfl, trivial⟩, rfl⟩)
        · skip
          have hi8 : i = (onT (ftOf xs) asked).length := by omega
          refine s_dec (p := (i : Int) < ((onT (ftOf xs) asked).length : Int)) false (by kernel_rfl) (fun _ => by kernel_rfl) (decide_eq_false (h8)) ?_
          refine s_nil ?_
          refine fin_seq ?_
          refine ok_seq ?_
          refine ok_false (by kernel_rfl) ?_
          refine ok_exit ?_
          refine fin_seq_exit ?_
          refine fin_roundW_exit ?_
          refine fin_block_exit ?_
          refine fin_seq ?_
          refine ok_seq ?_
          refine ok_region ?_
          refine s_val (.slice C5 ((onT (ftOf xs) asked).length) c5) (by kernel_rfl) (fun _ => by kernel_rfl) ?_
          refine s_val (.slice Ca ((collK 2 wordOf (ftOf xs) [] ((onT (ftOf xs) asked).take i)).length) ca) (by kernel_rfl) (fun _ => by kernel_rfl) ?_
          refine s_val (.slice Cb ((collK 3 id (ftOf xs) [] ((onT (ftOf xs) asked).take i)).length) cb) (by kernel_rfl) (fun _ => by kernel_rfl) ?_
          refine s_val (.slice C5 ((onT (ftOf xs) asked).length) c5) (by kernel_rfl) (fun _ => by kernel_rfl) ?_
          refine s_val (.slice Ca ((collK 2 wordOf (ftOf xs) [] ((onT (ftOf xs) asked).take i)).length) ca) (by kernel_rfl) (fun _ => by kernel_rfl) ?_
          refine s_val (.slice Cb ((collK 3 id (ftOf xs) [] ((onT (ftOf xs) asked).take i)).length) cb) (by kernel_rfl) (fun _ => by kernel_rfl) ?_
          refine s_val (.int .i64 0) (by kernel_rfl) (fun _ => by kernel_rfl) ?_
          refine s_nil ?_
          refine fin_seq ?_
          refine ok_ret ?_
          refine fin_ret4 (.slice C5 ((onT (ftOf xs) asked).length) c5) (.slice Ca ((collK 2 wordOf (ftOf xs) [] ((onT (ftOf xs) asked).take i)).length) ca) (.slice Cb ((collK 3 id (ftOf xs) [] ((onT (ftOf xs) asked).take i)).length) cb) (.int .i64 0) Try.results18 (by kernel_rfl) (by kernel_rfl) (by kernel_rfl) (by kernel_rfl) ?_
          exact fun w hO => (by have h9 : errF (ftOf xs) asked = 0 := errF_yes hmay hask; obtain ⟨z1, z2, z3⟩ := clo_yes h9; exact ⟨_, _, _, by rw [h9], by rw [z1]; exact hR82_8.on hO.below, by rw [z2, show optsT (ftOf xs) (onT (ftOf xs) asked) = (collK 2 wordOf (ftOf xs) [] ((onT (ftOf xs) asked).take i)) from by unfold optsT; rw [hi8, List.take_length]]; exact hR9_8.on hO.below, by rw [z3, show pullsT (ftOf xs) (onT (ftOf xs) asked) = (collK 3 id (ftOf xs) [] ((onT (ftOf xs) asked).take i)) from by unfold pullsT; rw [hi8, List.take_length]]; exact hR10_8.on hO.below, (hA8.on hO.below).hb⟩)
  | false =>
    refine s_val (.bool true) (by kernel_rfl) (fun _ => by kernel_rfl) ?_
    refine s_nil ?_
    refine fin_seq ?_
    refine ok_true (by kernel_rfl) ?_
    refine ok_seq ?_
    refine ok_region ?_
    refine s_val (.slice none 0 0) (by kernel_rfl) (fun _ => by kernel_rfl) ?_
    refine s_val (.slice none 0 0) (by kernel_rfl) (fun _ => by kernel_rfl) ?_
    refine s_val (.slice none 0 0) (by kernel_rfl) (fun _ => by kernel_rfl) ?_
    refine s_val (.int .i64 1) (by kernel_rfl) (fun _ => by kernel_rfl) ?_
    refine s_nil ?_
    refine fin_seq ?_
    refine ok_ret ?_
    refine fin_seq_ret ?_
    refine fin_ret4 (.slice none 0 0) (.slice none 0 0) (.slice none 0 0) (.int .i64 1) Try.results18 (by kernel_rfl) (by kernel_rfl) (by kernel_rfl) (by kernel_rfl) ?_
    exact fun w hO => (by have h9 : ¬ errF (ftOf xs) asked = 0 := (by rw [show errF (ftOf xs) asked = 1 from by unfold errF; rw [h1]; rfl]; decide); obtain ⟨z1, z2, z3⟩ := clo_no h9; exact ⟨_, _, _, by rw [show errF (ftOf xs) asked = 1 from by unfold errF; rw [h1]; rfl], by rw [z1]; exact RdP.nil w, by rw [z2]; exact RdP.nil w, by rw [z3]; exact RdP.nil w, (hA0.on hO.below).hb⟩)
end Go.Proofs.Ytglbfknmeojfkaa
end

section
/-
  linchpinlaw11.FeatureCloses: it returns true. Conditions: as the theorem names.
-/
namespace Go.Proofs.Ytglbfknmeojfkaa
open Go.RowKit
set_option maxRecDepth 100000
set_option linter.unusedVariables false
set_option linter.unusedSimpArgs false
set_option linter.unnecessarySimpa false
set_option maxHeartbeats 2000000

theorem err_facts {l : List Ft} {asked : List (List UInt8)} (h : errF l asked = 0) : mayF l = true ∧ ∀ a ∈ asked, isT l a = true := by
  unfold errF at h
  split at h
  · rename_i h1
    split at h
    · rename_i h2; exact ⟨h1, List.all_eq_true.1 h2⟩
    · cases h
  · cases h
theorem clo_len (l : List Ft) (asked : List (List UInt8)) : (onF l asked).length ≤ 9 ∧ (optF l asked).length ≤ 54 ∧ (pullF l asked).length ≤ 54 := by
  by_cases h : errF l asked = 0
  · obtain ⟨z1, z2, z3⟩ := clo_yes h
    obtain ⟨hm, ha⟩ := err_facts h
    rw [z1, z2, z3]
    have h1 : (onT l asked).length ≤ 9 := rounds_ten hm ha (l.length + 1)
    have h2 := collK_len (k := 2) (val := wordOf) (of_six hm) (r := onT l asked) (acc := [])
    have h3 := collK_len (k := 3) (val := id) (of_six hm) (r := onT l asked) (acc := [])
    rw [List.length_nil] at h2 h3
    have h4 : (optsT l (onT l asked)).length ≤ 0 + (onT l asked).length * 6 := h2
    have h5 : (pullsT l (onT l asked)).length ≤ 0 + (onT l asked).length * 6 := h3
    omega
  · obtain ⟨z1, z2, z3⟩ := clo_no h
    rw [z1, z2, z3]; simp
theorem featureCloses.law (A : Option Addr) (cap : Nat) (xs : List Fv) (B : Option Addr) (capb : Nat) (asked : List (List UInt8)) (W : World) (hv : Reads fvC W W.heap.size A xs) (he : ∀ x ∈ xs, Reads strC W W.heap.size x.A x.of) (hu0 : Reads strC W W.heap.size B asked) (hl : asked.length ≤ 9223372036854775807) (hK0 : FeLib W) : Calls Try.prog 5 #[.slice A xs.length cap, .slice B asked.length capb] W fun e w' => e = .returned (.bool true) ∧ Below W.heap.size W w' := by
  have hb0 : Below W.heap.size W W := Below.refl _ _
  refine calls_ok (n := 73) Try.func5 rfl (by kernel_rfl) (by kernel_rfl) ?_
  refine ok_seq ?_
  refine ok_region ?_
  refine s_val (.bool false) (by kernel_rfl) (fun _ => by kernel_rfl) ?_
  refine s_nil ?_
  refine fin_seq ?_
  refine ok_seq ?_
  refine ok_seq ?_
  refine ok_region ?_
  refine s_val (.slice A xs.length cap) (by kernel_rfl) (fun _ => by kernel_rfl) ?_
  refine s_callo (k := 12) (args := #[.slice A xs.length cap]) (fun v' L' => ∃ b, v' = .bool b ∧ L' = ([] : List Blk) ∧ (b = true → FewF xs)) (by kernel_rfl) (fun _ => by kernel_rfl) (fun w hO => (few11_any A cap xs w (hv.on hO.below hO.size) (fun x hx => (he x hx).on hO.below hO.size)).mono fun e w' ⟨b, k1, k2, k3⟩ => ⟨_, _, k1, ⟨b, rfl, rfl, k2⟩, hO.on k3⟩) (fun vt Lt hvt => ?_)
  obtain ⟨fb, rfl, hLe, hfb⟩ := hvt
  refine s_cast hLe ?_
  cases h1 : fb with
  | true =>
    have hin0 := (hfb h1).inn hv he
    refine s_val (.bool false) (by kernel_rfl) (fun _ => by kernel_rfl) ?_
    refine s_val (.bool false) (by kernel_rfl) (fun _ => by kernel_rfl) ?_
    refine s_val (.slice B asked.length capb) (by kernel_rfl) (fun _ => by kernel_rfl) ?_
    refine s_val (.int .i64 (asked.length : Int)) (by kernel_rfl) (fun _ => by kernel_rfl) ?_
    by_cases h2 : (12 : Int) < (asked.length : Int)
    · skip
      refine s_dec (p := (12 : Int) < (asked.length : Int)) true (by kernel_rfl) (fun _ => by kernel_rfl) (decide_eq_true (h2)) ?_
      refine s_val (.bool true) (by kernel_rfl) (fun _ => by kernel_rfl) ?_
      refine s_nil ?_
      refine fin_seq ?_
      refine ok_true (by kernel_rfl) ?_
      refine ok_seq ?_
      refine ok_region ?_
      refine s_call (k := 9) (args := #[]) (.bool true) (by kernel_rfl) (fun _ => by kernel_rfl) (fun w hO => awake11_any w (hK0.on hO.below)) ?_
      refine s_val (.bool true) (by kernel_rfl) (fun _ => by kernel_rfl) ?_
      refine s_nil ?_
      refine fin_seq ?_
      refine ok_ret ?_
      refine fin_seq_ret ?_
      refine fin_ret (.bool true) Try.results5 (by kernel_rfl) ?_
      exact fun w hO => ⟨rfl, hO.below⟩
    · skip
      refine s_dec (p := (12 : Int) < (asked.length : Int)) false (by kernel_rfl) (fun _ => by kernel_rfl) (decide_eq_false (h2)) ?_
      refine s_val (.bool false) (by kernel_rfl) (fun _ => by kernel_rfl) ?_
      refine s_nil ?_
      refine fin_seq ?_
      refine ok_false (by kernel_rfl) ?_
      refine ok_skip ?_
      refine fin_seq ?_
      refine ok_seq ?_
      refine ok_seq ?_
      refine ok_region ?_
      refine s_val (.int .i64 0) (by kernel_rfl) (fun _ => by kernel_rfl) ?_
      refine s_nil ?_
      refine fin_seq ?_
      refine ok_block ?_
      refine ok_loop (fun L f m => ∃ (i : Nat) (j : Nat → Value), (i ≤ asked.length ∧ ∀ a ∈ asked.take i, a.length ≤ 60) ∧ L = [] ∧ f = upds j [(0, .slice A xs.length cap), (1, .slice B asked.length capb), (5, .int .i64 (i : Int))] ∧ m = asked.length - i) (asked.length - 0) ⟨0, _, ⟨Nat.zero_le _, fun a ha => by simp at ha⟩, rfl, upds_self _ ⟨by kernel_rfl, by kernel_rfl, by kernel_rfl, trivial⟩, rfl⟩ ?_
      rintro L f m ⟨i, j, hrel, rfl, rfl, rfl⟩
      have hi6 := hrel.1
      refine ok_seq ?_
      refine ok_seq ?_
      refine ok_region ?_
      refine s_val (.int .i64 (i : Int)) (by kernel_rfl) (fun _ => by kernel_rfl) ?_
      refine s_val (.slice B asked.length capb) (by kernel_rfl) (fun _ => by kernel_rfl) ?_
      refine s_val (.int .i64 (asked.length : Int)) (by kernel_rfl) (fun _ => by kernel_rfl) ?_
      by_cases h3 : (i : Int) < (asked.length : Int)
      · skip
        have hil : i < asked.length := by omega
        obtain ⟨bp, off, hB, _, _⟩ := hu0 (by omega)
        obtain ⟨a, ha⟩ : ∃ a, asked[i] = a := ⟨_, rfl⟩
        have has := mkS_sz a
        refine s_dec (p := (i : Int) < (asked.length : Int)) true (by kernel_rfl) (fun _ => by kernel_rfl) (decide_eq_true (h3)) ?_
        refine s_nil ?_
        refine fin_seq ?_
        refine ok_true (by kernel_rfl) ?_
        refine ok_skip ?_
        refine fin_seq ?_
        refine ok_seq ?_
        refine ok_block ?_
        refine ok_seq ?_
        refine ok_region ?_
        refine s_val (.slice B asked.length capb) (by kernel_rfl) (fun _ => by kernel_rfl) ?_
        refine s_val (.int .i64 (i : Int)) (by kernel_rfl) (fun _ => by kernel_rfl) ?_
        refine s_val (.pointer (some ⟨bp, off + i * 1, none⟩)) (by kernel_rfl) (run_ixA (b := bp) (off := off) (c := capb) (n := asked.length) (k := .i64) (j := (i : Int)) (e := 9) (sz := 1) rfl (by kernel_rfl) hB (by kernel_rfl) (by kernel_rfl) (by kernel_rfl) (by omega) (by omega) (by omega)) ?_
        refine s_old (.string (mkS a)) (a := ⟨bp, off + i * 1, none⟩) (by kernel_rfl) rfl (by kernel_rfl) (fun w hO => Reads.load strC_len (hu0.on hO.below hO.size) hB i 0 hil (by omega) _ (by rw [ha]; kernel_rfl)) ?_
        refine s_val (.int .i64 ((mkS a).size)) (by kernel_rfl) (fun _ => by kernel_rfl) ?_
        by_cases h4 : (60 : Int) < (mkS a).size
        · skip
          refine s_dec (p := (60 : Int) < (mkS a).size) true (by kernel_rfl) (fun _ => by kernel_rfl) (decide_eq_true (h4)) ?_
          refine s_nil ?_
          refine fin_seq ?_
          refine ok_true (by kernel_rfl) ?_
          refine ok_seq ?_
          refine ok_region ?_
          refine s_call (k := 9) (args := #[]) (.bool true) (by kernel_rfl) (fun _ => by kernel_rfl) (fun w hO => awake11_any w (hK0.on hO.below)) ?_
          refine s_val (.bool true) (by kernel_rfl) (fun _ => by kernel_rfl) ?_
          refine s_nil ?_
          refine fin_seq ?_
          refine ok_ret ?_
          refine fin_block_ret ?_
          refine fin_seq_ret ?_
          refine fin_round_ret ?_
          refine fin_block_ret ?_
          refine fin_seq_ret ?_
          refine fin_ret (.bool true) Try.results5 (by kernel_rfl) ?_
          exact fun w hO => ⟨rfl, hO.below⟩
        · skip
          refine s_dec (p := (60 : Int) < (mkS a).size) false (by kernel_rfl) (fun _ => by kernel_rfl) (decide_eq_false (h4)) ?_
          refine s_nil ?_
          refine fin_seq ?_
          refine ok_false (by kernel_rfl) ?_
          refine ok_skip ?_
          refine fin_block ?_
          refine fin_seq ?_
          refine ok_region ?_
          refine s_val (.int .i64 (i : Int)) (by kernel_rfl) (fun _ => by kernel_rfl) ?_
          refine s_sum (k := .i64) (((i + 1 : Nat) : Int)) (by kernel_rfl) (fun _ => by kernel_rfl) (IntWalk.i64_in _ (by omega)) ?_
          refine s_val (.int .i64 ((i + 1 : Nat) : Int)) (by kernel_rfl) (fun _ => by kernel_rfl) ?_
          refine s_nil ?_
          exact fin_round (m' := asked.length - (i + 1)) (by omega) ⟨i + 1, _, ⟨by omega, mem_step hil hrel.2 (by rw [ha]; omega)⟩, rfl, upds_self _ ⟨by kernel_rfl, by kernel_rfl, by kernel_rfl, trivial⟩, rfl⟩
      · skip
        have hta : ∀ a ∈ asked, a.length ≤ 1000000 := fun a ha => Nat.le_trans (mem_end (i := i) (by omega) hrel.2 a ha) (by decide)
        refine s_dec (p := (i : Int) < (asked.length : Int)) false (by kernel_rfl) (fun _ => by kernel_rfl) (decide_eq_false (h3)) ?_
        refine s_nil ?_
        refine fin_seq ?_
        refine ok_false (by kernel_rfl) ?_
        refine ok_exit ?_
        refine fin_seq_exit ?_
        refine fin_round_exit ?_
        refine fin_block_exit ?_
        refine fin_seq ?_
        refine ok_seq ?_
        refine ok_region ?_
        refine s_val (.slice A xs.length cap) (by kernel_rfl) (fun _ => by kernel_rfl) ?_
        refine s_val (.slice B asked.length capb) (by kernel_rfl) (fun _ => by kernel_rfl) ?_
        refine s_callW (k := 17) (args := #[.slice A xs.length cap, .slice B asked.length capb]) (fun v w' => ∃ v1 v2 v3, v = .tuple #[v1, v2, v3, .int .i64 (errF (ftOf xs) asked)] ∧ RdP w' v1 (onF (ftOf xs) asked) ∧ RdP w' v2 (optF (ftOf xs) asked) ∧ RdP w' v3 (pullF (ftOf xs) asked)) (by kernel_rfl) (fun _ => by kernel_rfl) (fun w hO => (fClose_any A B cap capb xs asked w (hin0.on hO.below hO.size) (hu0.on hO.below hO.size) (by omega) hta (hK0.on hO.below)).mono fun e w' ⟨v1, v2, v3, k1, k2, k3, k4, k5⟩ => ⟨_, k1, ⟨v1, v2, v3, rfl, k2, k3, k4⟩, k5⟩) (fun vt1 w1 hv1 hO1 => ?_)
        have hin1 := hin0.on hO1.below hO1.size
        have hu1 := hu0.on hO1.below hO1.size
        have hK1 := hK0.on hO1.below
        have hb1 := hb0.trans (hO1.below.mono hb0.size)
        obtain ⟨x1, y1, z1, rfl, hx1, hy1, hz1⟩ := hv1
        obtain ⟨xA1, xc1, rfl, _, _, _⟩ := hx1.ex
        obtain ⟨yA1, yc1, rfl, _, _, _⟩ := hy1.ex
        obtain ⟨zA1, zc1, rfl, _, _, _⟩ := hz1.ex
        refine s_val (.tuple #[.slice xA1 ((onF (ftOf xs) asked).length) xc1, .slice yA1 ((optF (ftOf xs) asked).length) yc1, .slice zA1 ((pullF (ftOf xs) asked).length) zc1, .int .i64 (errF (ftOf xs) asked)]) (by kernel_rfl) (fun _ => by kernel_rfl) ?_
        refine s_val (.slice xA1 ((onF (ftOf xs) asked).length) xc1) (by kernel_rfl) (fun _ => by kernel_rfl) ?_
        refine s_val (.slice yA1 ((optF (ftOf xs) asked).length) yc1) (by kernel_rfl) (fun _ => by kernel_rfl) ?_
        refine s_val (.slice zA1 ((pullF (ftOf xs) asked).length) zc1) (by kernel_rfl) (fun _ => by kernel_rfl) ?_
        refine s_val (.int .i64 (errF (ftOf xs) asked)) (by kernel_rfl) (fun _ => by kernel_rfl) ?_
        refine s_val (.slice xA1 ((onF (ftOf xs) asked).length) xc1) (by kernel_rfl) (fun _ => by kernel_rfl) ?_
        refine s_val (.slice yA1 ((optF (ftOf xs) asked).length) yc1) (by kernel_rfl) (fun _ => by kernel_rfl) ?_
        refine s_val (.slice zA1 ((pullF (ftOf xs) asked).length) zc1) (by kernel_rfl) (fun _ => by kernel_rfl) ?_
        refine s_val (.int .i64 (errF (ftOf xs) asked)) (by kernel_rfl) (fun _ => by kernel_rfl) ?_
        refine s_nil ?_
        refine fin_seq ?_
        refine ok_seq ?_
        refine ok_region ?_
        refine s_val (.slice A xs.length cap) (by kernel_rfl) (fun _ => by kernel_rfl) ?_
        refine s_val (.slice B asked.length capb) (by kernel_rfl) (fun _ => by kernel_rfl) ?_
        refine s_callW (k := 18) (args := #[.slice A xs.length cap, .slice B asked.length capb]) (fun v w' => ∃ v1 v2 v3, v = .tuple #[v1, v2, v3, .int .i64 (errF (ftOf xs) asked)] ∧ RdP w' v1 (onF (ftOf xs) asked) ∧ RdP w' v2 (optF (ftOf xs) asked) ∧ RdP w' v3 (pullF (ftOf xs) asked)) (by kernel_rfl) (fun _ => by kernel_rfl) (fun w hO => (r11Close_any A B cap capb xs asked w (hin1.on hO.below hO.size) (hu1.on hO.below hO.size) (by omega) hta).mono fun e w' ⟨v1, v2, v3, k1, k2, k3, k4, k5⟩ => ⟨_, k1, ⟨v1, v2, v3, rfl, k2, k3, k4⟩, k5⟩) (fun vt2 w2 hv2 hO2 => ?_)
        have hin2 := hin1.on hO2.below hO2.size
        have hu2 := hu1.on hO2.below hO2.size
        have hK2 := hK1.on hO2.below
        have hb2 := hb1.trans (hO2.below.mono hb1.size)
        have xA1_2 := hx1.on hO2.below
        have yA1_2 := hy1.on hO2.below
        have zA1_2 := hz1.on hO2.below
        obtain ⟨x2, y2, z2, rfl, hx2, hy2, hz2⟩ := hv2
        obtain ⟨xA2, xc2, rfl, _, _, _⟩ := hx2.ex
        obtain ⟨yA2, yc2, rfl, _, _, _⟩ := hy2.ex
        obtain ⟨zA2, zc2, rfl, _, _, _⟩ := hz2.ex
        refine s_val (.tuple #[.slice xA2 ((onF (ftOf xs) asked).length) xc2, .slice yA2 ((optF (ftOf xs) asked).length) yc2, .slice zA2 ((pullF (ftOf xs) asked).length) zc2, .int .i64 (errF (ftOf xs) asked)]) (by kernel_rfl) (fun _ => by kernel_rfl) ?_
        refine s_val (.slice xA2 ((onF (ftOf xs) asked).length) xc2) (by kernel_rfl) (fun _ => by kernel_rfl) ?_
        refine s_val (.slice yA2 ((optF (ftOf xs) asked).length) yc2) (by kernel_rfl) (fun _ => by kernel_rfl) ?_
        refine s_val (.slice zA2 ((pullF (ftOf xs) asked).length) zc2) (by kernel_rfl) (fun _ => by kernel_rfl) ?_
        refine s_val (.int .i64 (errF (ftOf xs) asked)) (by kernel_rfl) (fun _ => by kernel_rfl) ?_
        refine s_val (.slice xA2 ((onF (ftOf xs) asked).length) xc2) (by kernel_rfl) (fun _ => by kernel_rfl) ?_
        refine s_val (.slice yA2 ((optF (ftOf xs) asked).length) yc2) (by kernel_rfl) (fun _ => by kernel_rfl) ?_
        refine s_val (.slice zA2 ((pullF (ftOf xs) asked).length) zc2) (by kernel_rfl) (fun _ => by kernel_rfl) ?_
        refine s_val (.int .i64 (errF (ftOf xs) asked)) (by kernel_rfl) (fun _ => by kernel_rfl) ?_
        refine s_nil ?_
        refine fin_seq ?_
        refine ok_seq ?_
        refine ok_region ?_
        refine s_call (k := 9) (args := #[]) (.bool true) (by kernel_rfl) (fun _ => by kernel_rfl) (fun w hO => awake11_any w (hK2.on hO.below)) ?_
        refine s_val (.bool true) (by kernel_rfl) (fun _ => by kernel_rfl) ?_
        refine s_val (.slice xA1 ((onF (ftOf xs) asked).length) xc1) (by kernel_rfl) (fun _ => by kernel_rfl) ?_
        refine s_val (.slice xA2 ((onF (ftOf xs) asked).length) xc2) (by kernel_rfl) (fun _ => by kernel_rfl) ?_
        refine s_call (k := 19) (args := #[.slice xA1 ((onF (ftOf xs) asked).length) xc1, .slice xA2 ((onF (ftOf xs) asked).length) xc2]) (.bool true) (by kernel_rfl) (fun _ => by kernel_rfl) (fun w hO => ret_b (decide_eq_true rfl) (r1Texts_any xA1 xA2 xc1 xc2 (onF (ftOf xs) asked) (onF (ftOf xs) asked) w (xA1_2.reads.on hO.below hO.size) (hx2.reads.on hO.below hO.size) (by have := clo_len (ftOf xs) asked; omega) (by have := clo_len (ftOf xs) asked; omega))) ?_
        refine s_val (.bool true) (by kernel_rfl) (fun _ => by kernel_rfl) ?_
        refine s_val (.bool true) (by kernel_rfl) (fun _ => by kernel_rfl) ?_
        refine s_val (.slice yA1 ((optF (ftOf xs) asked).length) yc1) (by kernel_rfl) (fun _ => by kernel_rfl) ?_
        refine s_val (.slice yA2 ((optF (ftOf xs) asked).length) yc2) (by kernel_rfl) (fun _ => by kernel_rfl) ?_
        refine s_call (k := 19) (args := #[.slice yA1 ((optF (ftOf xs) asked).length) yc1, .slice yA2 ((optF (ftOf xs) asked).length) yc2]) (.bool true) (by kernel_rfl) (fun _ => by kernel_rfl) (fun w hO => ret_b (decide_eq_true rfl) (r1Texts_any yA1 yA2 yc1 yc2 (optF (ftOf xs) asked) (optF (ftOf xs) asked) w (yA1_2.reads.on hO.below hO.size) (hy2.reads.on hO.below hO.size) (by have := clo_len (ftOf xs) asked; omega) (by have := clo_len (ftOf xs) asked; omega))) ?_
        refine s_val (.bool true) (by kernel_rfl) (fun _ => by kernel_rfl) ?_
        refine s_val (.bool true) (by kernel_rfl) (fun _ => by kernel_rfl) ?_
        refine s_val (.slice zA1 ((pullF (ftOf xs) asked).length) zc1) (by kernel_rfl) (fun _ => by kernel_rfl) ?_
        refine s_val (.slice zA2 ((pullF (ftOf xs) asked).length) zc2) (by kernel_rfl) (fun _ => by kernel_rfl) ?_
        refine s_call (k := 19) (args := #[.slice zA1 ((pullF (ftOf xs) asked).length) zc1, .slice zA2 ((pullF (ftOf xs) asked).length) zc2]) (.bool true) (by kernel_rfl) (fun _ => by kernel_rfl) (fun w hO => ret_b (decide_eq_true rfl) (r1Texts_any zA1 zA2 zc1 zc2 (pullF (ftOf xs) asked) (pullF (ftOf xs) asked) w (zA1_2.reads.on hO.below hO.size) (hz2.reads.on hO.below hO.size) (by have := clo_len (ftOf xs) asked; omega) (by have := clo_len (ftOf xs) asked; omega))) ?_
        refine s_val (.bool true) (by kernel_rfl) (fun _ => by kernel_rfl) ?_
        refine s_val (.bool true) (by kernel_rfl) (fun _ => by kernel_rfl) ?_
        refine s_val (.int .i64 (errF (ftOf xs) asked)) (by kernel_rfl) (fun _ => by kernel_rfl) ?_
        refine s_val (.int .i64 (errF (ftOf xs) asked)) (by kernel_rfl) (fun _ => by kernel_rfl) ?_
        refine s_dec (p := (errF (ftOf xs) asked : Int) = errF (ftOf xs) asked) true (by kernel_rfl) (fun _ => by kernel_rfl) (decide_eq_true (rfl)) ?_
        refine s_val (.bool true) (by kernel_rfl) (fun _ => by kernel_rfl) ?_
        refine s_val (.bool true) (by kernel_rfl) (fun _ => by kernel_rfl) ?_
        refine s_nil ?_
        refine fin_seq ?_
        refine ok_ret ?_
        refine fin_ret (.bool true) Try.results5 (by kernel_rfl) ?_
        exact fun w hO => ⟨rfl, hb2.trans (hO.below.mono hb2.size)⟩
  | false =>
    refine s_val (.bool true) (by kernel_rfl) (fun _ => by kernel_rfl) ?_
    refine s_val (.bool true) (by kernel_rfl) (fun _ => by kernel_rfl) ?_
    refine s_skip (by kernel_rfl) ?_
    refine s_skip (by kernel_rfl) ?_
    refine s_skip (by kernel_rfl) ?_
    refine s_val (.bool true) (by kernel_rfl) (fun _ => by kernel_rfl) ?_
    refine s_nil ?_
    refine fin_seq ?_
    refine ok_true (by kernel_rfl) ?_
    refine ok_seq ?_
    refine ok_region ?_
    refine s_call (k := 9) (args := #[]) (.bool true) (by kernel_rfl) (fun _ => by kernel_rfl) (fun w hO => awake11_any w (hK0.on hO.below)) ?_
    refine s_val (.bool true) (by kernel_rfl) (fun _ => by kernel_rfl) ?_
    refine s_nil ?_
    refine fin_seq ?_
    refine ok_ret ?_
    refine fin_seq_ret ?_
    refine fin_ret (.bool true) Try.results5 (by kernel_rfl) ?_
    exact fun w hO => ⟨rfl, hO.below⟩
end Go.Proofs.Ytglbfknmeojfkaa
end

section
/-
  linchpinlaw0.features: the features of a record with needs, in new memory. Conditions: as the theorem names.
-/
namespace Go.Proofs.Ytglbfknmeojfkaa
open Go.RowKit
set_option maxRecDepth 100000
set_option maxHeartbeats 4000000
set_option linter.unusedVariables false
set_option linter.unusedSimpArgs false

theorem nvC_len (x : Nv) : (nvC x).length = 3 := rfl
theorem wvC_len (x : Wv) : (wvC x).length = 4 := rfl
theorem nmF_rd : ∀ k : Nat, k < 4 → readAt Try.prog 9 #[.string (mkS dfl), .string (mkS [120]), .string (mkS [121]), .string (mkS [122])] (0 + (k : Int).toNat * 1) = some (.string (mkS (nmF k)))
  | 0, _ => by kernel_rfl
  | 1, _ => by kernel_rfl
  | 2, _ => by kernel_rfl
  | 3, _ => by kernel_rfl
theorem features_gen (v : Value) (l : List Int) (i : Nat) (nm pre bld : List UInt8) (a1 a2 a3 : Int) (nA : Option Addr) (nc : Nat) (needs : List Nv) (vb vf : Value) (W : World) (hv : ReadsI W W.heap.size v l) (hl : l.length ≤ 9223372036854775807) (hi : i ≤ 5000)
    (hN : Reads nvC W W.heap.size nA needs) (hWs : ∀ m ∈ needs, Reads wvC W W.heap.size m.A m.any) (hlen : needs.length ≤ 1000) (hopt : ∀ m ∈ needs, m.opt.length ≤ 1000) (hnm : ∀ m ∈ needs, ∀ w ∈ m.any, w.name.length ≤ 1000) :
    Calls Try.prog 49 #[v, .int .i64 (i : Int), .agg #[.string (mkS nm), .int .i64 a1, .int .i64 a2, .int .i64 a3, .string (mkS pre), .string (mkS bld), .slice nA needs.length nc, vb, vf]] W fun e w' => ∃ A c xs o7 o2, e = .returned (.slice A xs.length c) ∧ (FtO A c xs o7 o2 ∧ FeatsG needs (fun j => decide (plc (atL l (i + j)) 3 ≠ 0)) 4 xs) ∧ Own [] W w' (o7 ++ o2) := by
  have fa : ∀ (j : Nat), j ≤ 100 → ∀ w, Below W.heap.size W w → Calls Try.prog 59 #[v, .int .i64 ((i + j : Nat) : Int)] w fun e w' => e = .returned (.int .i64 (atL l (i + j))) ∧ Below w.heap.size w w' := fun j hj w hb => (at_any v l (i + j) w ((hv.below hb).more hb.size) hl (by omega)).mono fun _ _ ⟨e1, e2⟩ => ⟨e1, e2 ▸ Below.refl _ _⟩
  have fp : ∀ (z : Int) w, Calls Try.prog 58 #[.int .i64 z, .int .i64 3] w fun e w' => e = .returned (.int .i64 (plc z 3)) ∧ Below w.heap.size w w' := fun z w => (place_any z 3 w (by decide) (by decide)).mono fun _ _ ⟨e1, e2⟩ => ⟨e1, e2 ▸ Below.refl _ _⟩
  generalize hkeep : (fun j => decide (plc (atL l (i + j)) 3 ≠ 0)) = keep
  have hk1 : ∀ j, plc (atL l (i + j)) 3 = 0 → keep j = false := fun j h => by rw [← hkeep]; simp [h]
  have hk2 : ∀ j, ¬ plc (atL l (i + j)) 3 = 0 → keep j = true := fun j h => by rw [← hkeep]; simp [h]
  refine x_enter Try.func49 (x_box [] (fun b0 => x_alloc [] fun b8 => ?_))
  refine x_loop (α := Nat × List Fv × Option Addr × Nat × List Blk × List Blk) (fun (k, xs, A7, c7, _, _) => [(0, v), (1, .int .i64 (i : Int)), (5, .pointer (some ⟨b0, 0, none⟩)), (7, .slice A7 xs.length c7), (8, .pointer (some ⟨b8, 0, none⟩)), (9, .int .i64 (k : Int))])
    (fun (_, _, _, _, o7, o2) => [⟨b8, #[.string (mkS dfl), .string (mkS [120]), .string (mkS [121]), .string (mkS [122])], 95⟩, ⟨b0, #[.string (mkS nm), .int .i64 a1, .int .i64 a2, .int .i64 a3, .string (mkS pre), .string (mkS bld), .slice nA needs.length nc, vb, vf], 42⟩] ++ (o7 ++ o2)) (fun (k, xs, A7, c7, o7, o2) m => k ≤ 4 ∧ m = 4 - k ∧ FtO A7 c7 xs o7 o2 ∧ FeatsG needs keep k xs) (0, [], none, 0, [], []) 4 [0] ⟨by omega, rfl, FtO.nil, FeatsG.nil _ _⟩ ?_
  rintro ⟨k, xs, A7, c7, o7, o2⟩ mm g kk ⟨hk4, hmm, hO7, hG⟩ nx hkk
  subst hkk
  refine x_br 16 [] ((k : Int) < 4) (fun h4 => ?_) (fun h4 => ?_)
  rotate_left
  · obtain rfl : k = 4 := by omega
    exact x_ret [] _ fun w hO => ⟨A7, c7, xs, o7, o2, rfl, ⟨hO7, hG⟩, hO.past 2 _⟩
  have hkl : k < 4 := by omega
  refine x_i 22 [] ((i + k : Nat) : Int) (x_call [] (fun w hO => fa k (by omega) w hO.below) (x_call [] (fun w hO => fp (atL l (i + k)) w) (x_br 26 [] (plc (atL l (i + k)) 3 = 0) (fun h3 => ?_) (fun h3 => ?_))))
  · refine x_i 18 [] ((k + 1 : Nat) : Int) (nx (k + 1, xs, A7, c7, o7, o2) (4 - (k + 1)) [] (by omega) ⟨by omega, rfl, hO7, hG.skip (hk1 k h3)⟩ (by kernel_rfl) (by kernel_rfl))
  have hxl : xs.length ≤ 4 := by
    have e := congrArg List.length hG.names
    rw [List.length_map, List.length_map] at e
    have := List.length_filter_le keep (List.range k)
    rw [List.length_range] at this; omega
  refine x_ixa 28 [] 4 k 1 hkl (x_ldk 29 [] 0 _ _ 9 _ (nmF_rd k hkl) (x_alloc [] fun b11 => ?_))
  refine x_take [0] ([⟨b11, #[.string (mkS (nmF k)), .slice none 0 0], 57⟩, ⟨b8, #[.string (mkS dfl), .string (mkS [120]), .string (mkS [121]), .string (mkS [122])], 95⟩, ⟨b0, #[.string (mkS nm), .int .i64 a1, .int .i64 a2, .int .i64 a3, .string (mkS pre), .string (mkS bld), .slice nA needs.length nc, vb, vf], 42⟩] ++ (o7 ++ o2 ++ [])) (fun w hO => (hO.past 0 ([⟨b11, #[.string (mkS (nmF k)), .slice none 0 0], 57⟩, ⟨b8, #[.string (mkS dfl), .string (mkS [120]), .string (mkS [121]), .string (mkS [122])], 95⟩, ⟨b0, #[.string (mkS nm), .int .i64 a1, .int .i64 a2, .int .i64 a3, .string (mkS pre), .string (mkS bld), .slice nA needs.length nc, vb, vf], 42⟩] ++ (o7 ++ o2))).cast (by simp)) ?_
  refine x_loopE (α := Nat × List (List UInt8) × Option Addr × Nat × List Blk) (β := List (List UInt8) × Option Addr × Nat × List Blk) (fun (j, _, _, _, _) => [(0, v), (1, .int .i64 (i : Int)), (5, .pointer (some ⟨b0, 0, none⟩)), (7, .slice A7 xs.length c7), (8, .pointer (some ⟨b8, 0, none⟩)), (9, .int .i64 (k : Int)), (10, .int .i64 (atL l (i + k))), (11, .pointer (some ⟨b11, 0, none⟩)), (12, .int .i64 (j : Int))]) (fun (_, lst, A, c, o3) => [⟨b11, #[.string (mkS (nmF k)), .slice A lst.length c], 57⟩, ⟨b8, #[.string (mkS dfl), .string (mkS [120]), .string (mkS [121]), .string (mkS [122])], 95⟩, ⟨b0, #[.string (mkS nm), .int .i64 a1, .int .i64 a2, .int .i64 a3, .string (mkS pre), .string (mkS bld), .slice nA needs.length nc, vb, vf], 42⟩] ++ (o7 ++ o2 ++ o3)) (fun (j, lst, A, c, o3) m => j ≤ 2 ∧ m = 2 - j ∧ OfS A c lst o3 ∧ OfG needs keep lst (2 * j)) (0, [], none, 0, []) 2
    (fun _ => [(0, v), (1, .int .i64 (i : Int)), (5, .pointer (some ⟨b0, 0, none⟩)), (7, .slice A7 xs.length c7), (8, .pointer (some ⟨b8, 0, none⟩)), (9, .int .i64 (k : Int)), (10, .int .i64 (atL l (i + k))), (11, .pointer (some ⟨b11, 0, none⟩))]) (fun (lst, A, c, o3) => [⟨b11, #[.string (mkS (nmF k)), .slice A lst.length c], 57⟩, ⟨b8, #[.string (mkS dfl), .string (mkS [120]), .string (mkS [121]), .string (mkS [122])], 95⟩, ⟨b0, #[.string (mkS nm), .int .i64 a1, .int .i64 a2, .int .i64 a3, .string (mkS pre), .string (mkS bld), .slice nA needs.length nc, vb, vf], 42⟩] ++ (o7 ++ o2 ++ o3)) (fun (lst, A, c, o3) => OfS A c lst o3 ∧ OfG needs keep lst 4) [] ⟨by omega, rfl, OfS.nil, OfG.nil _ _⟩ ?_ ?_
  · rintro ⟨j, lst, A, c, o3⟩ m2 g2 ⟨hj2, hm2, hf0, hg0⟩ nx2 nex
    refine x_br 35 [2] ((j : Int) < needs.length) (fun h35 => x_br 38 [] ((j : Int) < 2) (fun h38 => ?_) (fun h38 => nex (lst, A, c, o3) [] ⟨hf0, hg0.more (by omega)⟩ (by kernel_rfl))) (fun h35 => nex (lst, A, c, o3) [] ⟨hf0, hg0.more (by omega)⟩ (by kernel_rfl))
    obtain rfl | rfl : j = 0 ∨ j = 1 := by omega
    · have hJ : 0 < needs.length := by omega
      obtain ⟨nb, no, hnA, hnl⟩ := hN.elem nvC_len 0 hJ
      have hmm : needs[0] ∈ needs := List.getElem_mem hJ
      generalize needs[0] = md at hnl hmm
      have hol := hopt md hmm
      refine x_ixA 45 [2] hnA needs.length nc 0 3 hJ (x_old 46 [] 72 nb (no + 0 * 3 + 0) (nvV md) (fun w hO => hnl w hO.below _ 0 _ (by kernel_rfl)) (x_alloc [] fun b13 => x_sne 49 [0, 0] md.opt [] (fun h49 => ?_) (fun h49 => x_tst 57 [] ?_ ?_)))
      · refine x_br 69 [0] ((md.any.length : Int) = 1) (fun h69 => x_tst 77 [] ?_ ?_) (fun h69 => ?_)
        · obtain ⟨wd, hwd⟩ : ∃ w, md.any = [w] := List.length_eq_one_iff.1 (by omega)
          obtain ⟨wb, wo, hwA, hwl⟩ := (hWs md hmm).elem wvC_len 0 (by omega)
          obtain ⟨q0, hs0, hb0⟩ := hf0.ex
          have hwn : wd.name.length ≤ 1000 := hnm md hmm wd (by simp [hwd])
          have hw0 : md.any[0]'(by omega) = wd := by simp [hwd]
          refine x_draw 10 [] (xh_ixA 50083 [1, 0] 4 hwA md.any.length md.cap 0 4 (by omega) (xh_old 50085 [] 6 9 wb (wo + 0 * 4 + 0) (.string (mkS wd.name)) (fun w hO => hwl w hO.below _ 0 _ (by rw [hw0]; kernel_rfl)) (xh_cat 50086 [] 7 wd.name [47] (xh_cat 50087 [] 8 (wd.name ++ [47]) [120] (x_h1 [] 9 (xh_callM (R := PutR (.slice A lst.length c) lst (wd.name ++ [47] ++ [120])) (fun w hO => g11put_any (ob := q0) (wd.name ++ [47] ++ [120]) w hs0 hf0.bare (hO.past 4 (o7 ++ o2 ++ o3)) (fun b hb => by have := hb0 b hb; simp only [List.mem_append] at this ⊢; grind) (by have := hg0.len; omega)) ?_))))))
          rintro _ ob0b hp0b
          obtain ⟨A0b, c0b, rfl, hf0b⟩ := hf0.put hp0b
          have hg0b := hg0.put (.inr (.inl ⟨md, hmm, wd, hwd, rfl⟩))
          exact x_take [1] ([⟨b11, #[.string (mkS (nmF k)), .slice A0b (putT lst (wd.name ++ [47] ++ [120])).length c0b], 57⟩, ⟨b8, #[.string (mkS dfl), .string (mkS [120]), .string (mkS [121]), .string (mkS [122])], 95⟩, ⟨b0, #[.string (mkS nm), .int .i64 a1, .int .i64 a2, .int .i64 a3, .string (mkS pre), .string (mkS bld), .slice nA needs.length nc, vb, vf], 42⟩] ++ (o7 ++ o2 ++ (o3 ++ ob0b))) (fun w hO => (hO.past 1 (([⟨b11, #[.string (mkS (nmF k)), .slice A0b (putT lst (wd.name ++ [47] ++ [120])).length c0b], 57⟩, ⟨b8, #[.string (mkS dfl), .string (mkS [120]), .string (mkS [121]), .string (mkS [122])], 95⟩, ⟨b0, #[.string (mkS nm), .int .i64 a1, .int .i64 a2, .int .i64 a3, .string (mkS pre), .string (mkS bld), .slice nA needs.length nc, vb, vf], 42⟩] ++ (o7 ++ o2 ++ o3)) ++ ob0b)).cast (by simp only [List.append_assoc, List.cons_append, List.nil_append])) (nx2 (1, (putT lst (wd.name ++ [47] ++ [120])), A0b, c0b, (o3 ++ ob0b)) 1 [] (by omega) ⟨by omega, rfl, hf0b, hg0b.more (by omega)⟩ (by kernel_rfl) (by kernel_rfl))
        · exact x_take [] ([⟨b11, #[.string (mkS (nmF k)), .slice A lst.length c], 57⟩, ⟨b8, #[.string (mkS dfl), .string (mkS [120]), .string (mkS [121]), .string (mkS [122])], 95⟩, ⟨b0, #[.string (mkS nm), .int .i64 a1, .int .i64 a2, .int .i64 a3, .string (mkS pre), .string (mkS bld), .slice nA needs.length nc, vb, vf], 42⟩] ++ (o7 ++ o2 ++ o3)) (fun w hO => (hO.past 1 ([⟨b11, #[.string (mkS (nmF k)), .slice A lst.length c], 57⟩, ⟨b8, #[.string (mkS dfl), .string (mkS [120]), .string (mkS [121]), .string (mkS [122])], 95⟩, ⟨b0, #[.string (mkS nm), .int .i64 a1, .int .i64 a2, .int .i64 a3, .string (mkS pre), .string (mkS bld), .slice nA needs.length nc, vb, vf], 42⟩] ++ (o7 ++ o2 ++ o3))).cast (by simp only [List.append_assoc, List.cons_append, List.nil_append])) (nx2 (1, lst, A, c, o3) 1 [] (by omega) ⟨by omega, rfl, hf0, hg0.more (by omega)⟩ (by kernel_rfl) (by kernel_rfl))
        · exact x_take [] ([⟨b11, #[.string (mkS (nmF k)), .slice A lst.length c], 57⟩, ⟨b8, #[.string (mkS dfl), .string (mkS [120]), .string (mkS [121]), .string (mkS [122])], 95⟩, ⟨b0, #[.string (mkS nm), .int .i64 a1, .int .i64 a2, .int .i64 a3, .string (mkS pre), .string (mkS bld), .slice nA needs.length nc, vb, vf], 42⟩] ++ (o7 ++ o2 ++ o3)) (fun w hO => (hO.past 1 ([⟨b11, #[.string (mkS (nmF k)), .slice A lst.length c], 57⟩, ⟨b8, #[.string (mkS dfl), .string (mkS [120]), .string (mkS [121]), .string (mkS [122])], 95⟩, ⟨b0, #[.string (mkS nm), .int .i64 a1, .int .i64 a2, .int .i64 a3, .string (mkS pre), .string (mkS bld), .slice nA needs.length nc, vb, vf], 42⟩] ++ (o7 ++ o2 ++ o3))).cast (by simp only [List.append_assoc, List.cons_append, List.nil_append])) (nx2 (1, lst, A, c, o3) 1 [] (by omega) ⟨by omega, rfl, hf0, hg0.more (by omega)⟩ (by kernel_rfl) (by kernel_rfl))
      · obtain ⟨q0, hs0, hb0⟩ := hf0.ex
        refine x_cat 63 [1, 0] [63] md.opt (x_callM (R := PutR (.slice A lst.length c) lst ([63] ++ md.opt)) [] (fun w hO => g11put_any (ob := q0) ([63] ++ md.opt) w hs0 hf0.bare (hO.past 4 (o7 ++ o2 ++ o3)) (fun b hb => by have := hb0 b hb; simp only [List.mem_append] at this ⊢; grind) (by have := hg0.len; omega)) ?_)
        rintro _ oba hpa
        obtain ⟨Aa, ca, rfl, hfa⟩ := hf0.put hpa
        have hga := hg0.put (.inl ⟨md, hmm, h49, rfl⟩)
        refine x_br 69 [1, 0] ((md.any.length : Int) = 1) (fun h69 => x_tst 77 [] ?_ ?_) (fun h69 => ?_)
        · obtain ⟨wd, hwd⟩ : ∃ w, md.any = [w] := List.length_eq_one_iff.1 (by omega)
          obtain ⟨wb, wo, hwA, hwl⟩ := (hWs md hmm).elem wvC_len 0 (by omega)
          obtain ⟨qa, hsa, hba⟩ := hfa.ex
          have hwn : wd.name.length ≤ 1000 := hnm md hmm wd (by simp [hwd])
          have hw0 : md.any[0]'(by omega) = wd := by simp [hwd]
          refine x_draw 10 [] (xh_ixA 50083 [1, 0] 4 hwA md.any.length md.cap 0 4 (by omega) (xh_old 50085 [] 6 9 wb (wo + 0 * 4 + 0) (.string (mkS wd.name)) (fun w hO => hwl w hO.below _ 0 _ (by rw [hw0]; kernel_rfl)) (xh_cat 50086 [] 7 wd.name [47] (xh_cat 50087 [] 8 (wd.name ++ [47]) [120] (x_h1 [] 9 (xh_callM (R := PutR (.slice Aa (putT lst ([63] ++ md.opt)).length ca) (putT lst ([63] ++ md.opt)) (wd.name ++ [47] ++ [120])) (fun w hO => g11put_any (ob := qa) (wd.name ++ [47] ++ [120]) w hsa hfa.bare (hO.past 4 ((o7 ++ o2 ++ o3) ++ oba)) (fun b hb => by have := hba b hb; simp only [List.mem_append] at this ⊢; grind) (by have := hga.len; omega)) ?_))))))
          rintro _ obab hpab
          obtain ⟨Aab, cab, rfl, hfab⟩ := hfa.put hpab
          have hgab := hga.put (.inr (.inl ⟨md, hmm, wd, hwd, rfl⟩))
          exact x_take [1] ([⟨b11, #[.string (mkS (nmF k)), .slice Aab (putT (putT lst ([63] ++ md.opt)) (wd.name ++ [47] ++ [120])).length cab], 57⟩, ⟨b8, #[.string (mkS dfl), .string (mkS [120]), .string (mkS [121]), .string (mkS [122])], 95⟩, ⟨b0, #[.string (mkS nm), .int .i64 a1, .int .i64 a2, .int .i64 a3, .string (mkS pre), .string (mkS bld), .slice nA needs.length nc, vb, vf], 42⟩] ++ (o7 ++ o2 ++ ((o3 ++ oba) ++ obab))) (fun w hO => (hO.past 1 ((([⟨b11, #[.string (mkS (nmF k)), .slice Aab (putT (putT lst ([63] ++ md.opt)) (wd.name ++ [47] ++ [120])).length cab], 57⟩, ⟨b8, #[.string (mkS dfl), .string (mkS [120]), .string (mkS [121]), .string (mkS [122])], 95⟩, ⟨b0, #[.string (mkS nm), .int .i64 a1, .int .i64 a2, .int .i64 a3, .string (mkS pre), .string (mkS bld), .slice nA needs.length nc, vb, vf], 42⟩] ++ (o7 ++ o2 ++ o3)) ++ oba) ++ obab)).cast (by simp only [List.append_assoc, List.cons_append, List.nil_append])) (nx2 (1, (putT (putT lst ([63] ++ md.opt)) (wd.name ++ [47] ++ [120])), Aab, cab, ((o3 ++ oba) ++ obab)) 1 [] (by omega) ⟨by omega, rfl, hfab, hgab.more (by omega)⟩ (by kernel_rfl) (by kernel_rfl))
        · exact x_take [] ([⟨b11, #[.string (mkS (nmF k)), .slice Aa (putT lst ([63] ++ md.opt)).length ca], 57⟩, ⟨b8, #[.string (mkS dfl), .string (mkS [120]), .string (mkS [121]), .string (mkS [122])], 95⟩, ⟨b0, #[.string (mkS nm), .int .i64 a1, .int .i64 a2, .int .i64 a3, .string (mkS pre), .string (mkS bld), .slice nA needs.length nc, vb, vf], 42⟩] ++ (o7 ++ o2 ++ (o3 ++ oba))) (fun w hO => (hO.past 1 (([⟨b11, #[.string (mkS (nmF k)), .slice Aa (putT lst ([63] ++ md.opt)).length ca], 57⟩, ⟨b8, #[.string (mkS dfl), .string (mkS [120]), .string (mkS [121]), .string (mkS [122])], 95⟩, ⟨b0, #[.string (mkS nm), .int .i64 a1, .int .i64 a2, .int .i64 a3, .string (mkS pre), .string (mkS bld), .slice nA needs.length nc, vb, vf], 42⟩] ++ (o7 ++ o2 ++ o3)) ++ oba)).cast (by simp only [List.append_assoc, List.cons_append, List.nil_append])) (nx2 (1, (putT lst ([63] ++ md.opt)), Aa, ca, (o3 ++ oba)) 1 [] (by omega) ⟨by omega, rfl, hfa, hga.more (by omega)⟩ (by kernel_rfl) (by kernel_rfl))
        · exact x_take [] ([⟨b11, #[.string (mkS (nmF k)), .slice Aa (putT lst ([63] ++ md.opt)).length ca], 57⟩, ⟨b8, #[.string (mkS dfl), .string (mkS [120]), .string (mkS [121]), .string (mkS [122])], 95⟩, ⟨b0, #[.string (mkS nm), .int .i64 a1, .int .i64 a2, .int .i64 a3, .string (mkS pre), .string (mkS bld), .slice nA needs.length nc, vb, vf], 42⟩] ++ (o7 ++ o2 ++ (o3 ++ oba))) (fun w hO => (hO.past 1 (([⟨b11, #[.string (mkS (nmF k)), .slice Aa (putT lst ([63] ++ md.opt)).length ca], 57⟩, ⟨b8, #[.string (mkS dfl), .string (mkS [120]), .string (mkS [121]), .string (mkS [122])], 95⟩, ⟨b0, #[.string (mkS nm), .int .i64 a1, .int .i64 a2, .int .i64 a3, .string (mkS pre), .string (mkS bld), .slice nA needs.length nc, vb, vf], 42⟩] ++ (o7 ++ o2 ++ o3)) ++ oba)).cast (by simp only [List.append_assoc, List.cons_append, List.nil_append])) (nx2 (1, (putT lst ([63] ++ md.opt)), Aa, ca, (o3 ++ oba)) 1 [] (by omega) ⟨by omega, rfl, hfa, hga.more (by omega)⟩ (by kernel_rfl) (by kernel_rfl))
      · refine x_br 69 [0] ((md.any.length : Int) = 1) (fun h69 => x_tst 77 [] ?_ ?_) (fun h69 => ?_)
        · obtain ⟨wd, hwd⟩ : ∃ w, md.any = [w] := List.length_eq_one_iff.1 (by omega)
          obtain ⟨wb, wo, hwA, hwl⟩ := (hWs md hmm).elem wvC_len 0 (by omega)
          obtain ⟨q0, hs0, hb0⟩ := hf0.ex
          have hwn : wd.name.length ≤ 1000 := hnm md hmm wd (by simp [hwd])
          have hw0 : md.any[0]'(by omega) = wd := by simp [hwd]
          refine x_draw 10 [] (xh_ixA 50083 [1, 0] 4 hwA md.any.length md.cap 0 4 (by omega) (xh_old 50085 [] 6 9 wb (wo + 0 * 4 + 0) (.string (mkS wd.name)) (fun w hO => hwl w hO.below _ 0 _ (by rw [hw0]; kernel_rfl)) (xh_cat 50086 [] 7 wd.name [47] (xh_cat 50087 [] 8 (wd.name ++ [47]) [120] (x_h1 [] 9 (xh_callM (R := PutR (.slice A lst.length c) lst (wd.name ++ [47] ++ [120])) (fun w hO => g11put_any (ob := q0) (wd.name ++ [47] ++ [120]) w hs0 hf0.bare (hO.past 4 (o7 ++ o2 ++ o3)) (fun b hb => by have := hb0 b hb; simp only [List.mem_append] at this ⊢; grind) (by have := hg0.len; omega)) ?_))))))
          rintro _ ob0b hp0b
          obtain ⟨A0b, c0b, rfl, hf0b⟩ := hf0.put hp0b
          have hg0b := hg0.put (.inr (.inl ⟨md, hmm, wd, hwd, rfl⟩))
          exact x_take [1] ([⟨b11, #[.string (mkS (nmF k)), .slice A0b (putT lst (wd.name ++ [47] ++ [120])).length c0b], 57⟩, ⟨b8, #[.string (mkS dfl), .string (mkS [120]), .string (mkS [121]), .string (mkS [122])], 95⟩, ⟨b0, #[.string (mkS nm), .int .i64 a1, .int .i64 a2, .int .i64 a3, .string (mkS pre), .string (mkS bld), .slice nA needs.length nc, vb, vf], 42⟩] ++ (o7 ++ o2 ++ (o3 ++ ob0b))) (fun w hO => (hO.past 1 (([⟨b11, #[.string (mkS (nmF k)), .slice A0b (putT lst (wd.name ++ [47] ++ [120])).length c0b], 57⟩, ⟨b8, #[.string (mkS dfl), .string (mkS [120]), .string (mkS [121]), .string (mkS [122])], 95⟩, ⟨b0, #[.string (mkS nm), .int .i64 a1, .int .i64 a2, .int .i64 a3, .string (mkS pre), .string (mkS bld), .slice nA needs.length nc, vb, vf], 42⟩] ++ (o7 ++ o2 ++ o3)) ++ ob0b)).cast (by simp only [List.append_assoc, List.cons_append, List.nil_append])) (nx2 (1, (putT lst (wd.name ++ [47] ++ [120])), A0b, c0b, (o3 ++ ob0b)) 1 [] (by omega) ⟨by omega, rfl, hf0b, hg0b.more (by omega)⟩ (by kernel_rfl) (by kernel_rfl))
        · exact x_take [] ([⟨b11, #[.string (mkS (nmF k)), .slice A lst.length c], 57⟩, ⟨b8, #[.string (mkS dfl), .string (mkS [120]), .string (mkS [121]), .string (mkS [122])], 95⟩, ⟨b0, #[.string (mkS nm), .int .i64 a1, .int .i64 a2, .int .i64 a3, .string (mkS pre), .string (mkS bld), .slice nA needs.length nc, vb, vf], 42⟩] ++ (o7 ++ o2 ++ o3)) (fun w hO => (hO.past 1 ([⟨b11, #[.string (mkS (nmF k)), .slice A lst.length c], 57⟩, ⟨b8, #[.string (mkS dfl), .string (mkS [120]), .string (mkS [121]), .string (mkS [122])], 95⟩, ⟨b0, #[.string (mkS nm), .int .i64 a1, .int .i64 a2, .int .i64 a3, .string (mkS pre), .string (mkS bld), .slice nA needs.length nc, vb, vf], 42⟩] ++ (o7 ++ o2 ++ o3))).cast (by simp only [List.append_assoc, List.cons_append, List.nil_append])) (nx2 (1, lst, A, c, o3) 1 [] (by omega) ⟨by omega, rfl, hf0, hg0.more (by omega)⟩ (by kernel_rfl) (by kernel_rfl))
        · exact x_take [] ([⟨b11, #[.string (mkS (nmF k)), .slice A lst.length c], 57⟩, ⟨b8, #[.string (mkS dfl), .string (mkS [120]), .string (mkS [121]), .string (mkS [122])], 95⟩, ⟨b0, #[.string (mkS nm), .int .i64 a1, .int .i64 a2, .int .i64 a3, .string (mkS pre), .string (mkS bld), .slice nA needs.length nc, vb, vf], 42⟩] ++ (o7 ++ o2 ++ o3)) (fun w hO => (hO.past 1 ([⟨b11, #[.string (mkS (nmF k)), .slice A lst.length c], 57⟩, ⟨b8, #[.string (mkS dfl), .string (mkS [120]), .string (mkS [121]), .string (mkS [122])], 95⟩, ⟨b0, #[.string (mkS nm), .int .i64 a1, .int .i64 a2, .int .i64 a3, .string (mkS pre), .string (mkS bld), .slice nA needs.length nc, vb, vf], 42⟩] ++ (o7 ++ o2 ++ o3))).cast (by simp only [List.append_assoc, List.cons_append, List.nil_append])) (nx2 (1, lst, A, c, o3) 1 [] (by omega) ⟨by omega, rfl, hf0, hg0.more (by omega)⟩ (by kernel_rfl) (by kernel_rfl))
    · have hJ : 1 < needs.length := by omega
      obtain ⟨nb, no, hnA, hnl⟩ := hN.elem nvC_len 1 hJ
      have hmm : needs[1] ∈ needs := List.getElem_mem hJ
      generalize needs[1] = md at hnl hmm
      have hol := hopt md hmm
      refine x_ixA 45 [2] hnA needs.length nc 1 3 hJ (x_old 46 [] 72 nb (no + 1 * 3 + 0) (nvV md) (fun w hO => hnl w hO.below _ 0 _ (by kernel_rfl)) (x_alloc [] fun b13 => x_sne 49 [0, 0] md.opt [] (fun h49 => ?_) (fun h49 => x_tst 57 [] ?_ ?_)))
      · refine x_br 69 [0] ((md.any.length : Int) = 1) (fun h69 => x_tst 77 [] ?_ ?_) (fun h69 => ?_)
        · obtain ⟨wd, hwd⟩ : ∃ w, md.any = [w] := List.length_eq_one_iff.1 (by omega)
          obtain ⟨wb, wo, hwA, hwl⟩ := (hWs md hmm).elem wvC_len 0 (by omega)
          obtain ⟨q0, hs0, hb0⟩ := hf0.ex
          have hwn : wd.name.length ≤ 1000 := hnm md hmm wd (by simp [hwd])
          have hw0 : md.any[0]'(by omega) = wd := by simp [hwd]
          refine x_draw 10 [] (xh_ixA 50083 [1, 0] 4 hwA md.any.length md.cap 0 4 (by omega) (xh_old 50085 [] 6 9 wb (wo + 0 * 4 + 0) (.string (mkS wd.name)) (fun w hO => hwl w hO.below _ 0 _ (by rw [hw0]; kernel_rfl)) (xh_cat 50086 [] 7 wd.name [47] (xh_cat 50087 [] 8 (wd.name ++ [47]) [120] (x_h1 [] 9 (xh_callM (R := PutR (.slice A lst.length c) lst (wd.name ++ [47] ++ [120])) (fun w hO => g11put_any (ob := q0) (wd.name ++ [47] ++ [120]) w hs0 hf0.bare (hO.past 4 (o7 ++ o2 ++ o3)) (fun b hb => by have := hb0 b hb; simp only [List.mem_append] at this ⊢; grind) (by have := hg0.len; omega)) ?_))))))
          rintro _ ob0b hp0b
          obtain ⟨A0b, c0b, rfl, hf0b⟩ := hf0.put hp0b
          have hg0b := hg0.put (.inr (.inl ⟨md, hmm, wd, hwd, rfl⟩))
          exact x_take [1] ([⟨b11, #[.string (mkS (nmF k)), .slice A0b (putT lst (wd.name ++ [47] ++ [120])).length c0b], 57⟩, ⟨b8, #[.string (mkS dfl), .string (mkS [120]), .string (mkS [121]), .string (mkS [122])], 95⟩, ⟨b0, #[.string (mkS nm), .int .i64 a1, .int .i64 a2, .int .i64 a3, .string (mkS pre), .string (mkS bld), .slice nA needs.length nc, vb, vf], 42⟩] ++ (o7 ++ o2 ++ (o3 ++ ob0b))) (fun w hO => (hO.past 1 (([⟨b11, #[.string (mkS (nmF k)), .slice A0b (putT lst (wd.name ++ [47] ++ [120])).length c0b], 57⟩, ⟨b8, #[.string (mkS dfl), .string (mkS [120]), .string (mkS [121]), .string (mkS [122])], 95⟩, ⟨b0, #[.string (mkS nm), .int .i64 a1, .int .i64 a2, .int .i64 a3, .string (mkS pre), .string (mkS bld), .slice nA needs.length nc, vb, vf], 42⟩] ++ (o7 ++ o2 ++ o3)) ++ ob0b)).cast (by simp only [List.append_assoc, List.cons_append, List.nil_append])) (nx2 (2, (putT lst (wd.name ++ [47] ++ [120])), A0b, c0b, (o3 ++ ob0b)) 0 [] (by omega) ⟨by omega, rfl, hf0b, hg0b.more (by omega)⟩ (by kernel_rfl) (by kernel_rfl))
        · exact x_take [] ([⟨b11, #[.string (mkS (nmF k)), .slice A lst.length c], 57⟩, ⟨b8, #[.string (mkS dfl), .string (mkS [120]), .string (mkS [121]), .string (mkS [122])], 95⟩, ⟨b0, #[.string (mkS nm), .int .i64 a1, .int .i64 a2, .int .i64 a3, .string (mkS pre), .string (mkS bld), .slice nA needs.length nc, vb, vf], 42⟩] ++ (o7 ++ o2 ++ o3)) (fun w hO => (hO.past 1 ([⟨b11, #[.string (mkS (nmF k)), .slice A lst.length c], 57⟩, ⟨b8, #[.string (mkS dfl), .string (mkS [120]), .string (mkS [121]), .string (mkS [122])], 95⟩, ⟨b0, #[.string (mkS nm), .int .i64 a1, .int .i64 a2, .int .i64 a3, .string (mkS pre), .string (mkS bld), .slice nA needs.length nc, vb, vf], 42⟩] ++ (o7 ++ o2 ++ o3))).cast (by simp only [List.append_assoc, List.cons_append, List.nil_append])) (nx2 (2, lst, A, c, o3) 0 [] (by omega) ⟨by omega, rfl, hf0, hg0.more (by omega)⟩ (by kernel_rfl) (by kernel_rfl))
        · exact x_take [] ([⟨b11, #[.string (mkS (nmF k)), .slice A lst.length c], 57⟩, ⟨b8, #[.string (mkS dfl), .string (mkS [120]), .string (mkS [121]), .string (mkS [122])], 95⟩, ⟨b0, #[.string (mkS nm), .int .i64 a1, .int .i64 a2, .int .i64 a3, .string (mkS pre), .string (mkS bld), .slice nA needs.length nc, vb, vf], 42⟩] ++ (o7 ++ o2 ++ o3)) (fun w hO => (hO.past 1 ([⟨b11, #[.string (mkS (nmF k)), .slice A lst.length c], 57⟩, ⟨b8, #[.string (mkS dfl), .string (mkS [120]), .string (mkS [121]), .string (mkS [122])], 95⟩, ⟨b0, #[.string (mkS nm), .int .i64 a1, .int .i64 a2, .int .i64 a3, .string (mkS pre), .string (mkS bld), .slice nA needs.length nc, vb, vf], 42⟩] ++ (o7 ++ o2 ++ o3))).cast (by simp only [List.append_assoc, List.cons_append, List.nil_append])) (nx2 (2, lst, A, c, o3) 0 [] (by omega) ⟨by omega, rfl, hf0, hg0.more (by omega)⟩ (by kernel_rfl) (by kernel_rfl))
      · obtain ⟨q0, hs0, hb0⟩ := hf0.ex
        refine x_cat 63 [1, 0] [63] md.opt (x_callM (R := PutR (.slice A lst.length c) lst ([63] ++ md.opt)) [] (fun w hO => g11put_any (ob := q0) ([63] ++ md.opt) w hs0 hf0.bare (hO.past 4 (o7 ++ o2 ++ o3)) (fun b hb => by have := hb0 b hb; simp only [List.mem_append] at this ⊢; grind) (by have := hg0.len; omega)) ?_)
        rintro _ oba hpa
        obtain ⟨Aa, ca, rfl, hfa⟩ := hf0.put hpa
        have hga := hg0.put (.inl ⟨md, hmm, h49, rfl⟩)
        refine x_br 69 [1, 0] ((md.any.length : Int) = 1) (fun h69 => x_tst 77 [] ?_ ?_) (fun h69 => ?_)
        · obtain ⟨wd, hwd⟩ : ∃ w, md.any = [w] := List.length_eq_one_iff.1 (by omega)
          obtain ⟨wb, wo, hwA, hwl⟩ := (hWs md hmm).elem wvC_len 0 (by omega)
          obtain ⟨qa, hsa, hba⟩ := hfa.ex
          have hwn : wd.name.length ≤ 1000 := hnm md hmm wd (by simp [hwd])
          have hw0 : md.any[0]'(by omega) = wd := by simp [hwd]
          refine x_draw 10 [] (xh_ixA 50083 [1, 0] 4 hwA md.any.length md.cap 0 4 (by omega) (xh_old 50085 [] 6 9 wb (wo + 0 * 4 + 0) (.string (mkS wd.name)) (fun w hO => hwl w hO.below _ 0 _ (by rw [hw0]; kernel_rfl)) (xh_cat 50086 [] 7 wd.name [47] (xh_cat 50087 [] 8 (wd.name ++ [47]) [120] (x_h1 [] 9 (xh_callM (R := PutR (.slice Aa (putT lst ([63] ++ md.opt)).length ca) (putT lst ([63] ++ md.opt)) (wd.name ++ [47] ++ [120])) (fun w hO => g11put_any (ob := qa) (wd.name ++ [47] ++ [120]) w hsa hfa.bare (hO.past 4 ((o7 ++ o2 ++ o3) ++ oba)) (fun b hb => by have := hba b hb; simp only [List.mem_append] at this ⊢; grind) (by have := hga.len; omega)) ?_))))))
          rintro _ obab hpab
          obtain ⟨Aab, cab, rfl, hfab⟩ := hfa.put hpab
          have hgab := hga.put (.inr (.inl ⟨md, hmm, wd, hwd, rfl⟩))
          exact x_take [1] ([⟨b11, #[.string (mkS (nmF k)), .slice Aab (putT (putT lst ([63] ++ md.opt)) (wd.name ++ [47] ++ [120])).length cab], 57⟩, ⟨b8, #[.string (mkS dfl), .string (mkS [120]), .string (mkS [121]), .string (mkS [122])], 95⟩, ⟨b0, #[.string (mkS nm), .int .i64 a1, .int .i64 a2, .int .i64 a3, .string (mkS pre), .string (mkS bld), .slice nA needs.length nc, vb, vf], 42⟩] ++ (o7 ++ o2 ++ ((o3 ++ oba) ++ obab))) (fun w hO => (hO.past 1 ((([⟨b11, #[.string (mkS (nmF k)), .slice Aab (putT (putT lst ([63] ++ md.opt)) (wd.name ++ [47] ++ [120])).length cab], 57⟩, ⟨b8, #[.string (mkS dfl), .string (mkS [120]), .string (mkS [121]), .string (mkS [122])], 95⟩, ⟨b0, #[.string (mkS nm), .int .i64 a1, .int .i64 a2, .int .i64 a3, .string (mkS pre), .string (mkS bld), .slice nA needs.length nc, vb, vf], 42⟩] ++ (o7 ++ o2 ++ o3)) ++ oba) ++ obab)).cast (by simp only [List.append_assoc, List.cons_append, List.nil_append])) (nx2 (2, (putT (putT lst ([63] ++ md.opt)) (wd.name ++ [47] ++ [120])), Aab, cab, ((o3 ++ oba) ++ obab)) 0 [] (by omega) ⟨by omega, rfl, hfab, hgab.more (by omega)⟩ (by kernel_rfl) (by kernel_rfl))
        · exact x_take [] ([⟨b11, #[.string (mkS (nmF k)), .slice Aa (putT lst ([63] ++ md.opt)).length ca], 57⟩, ⟨b8, #[.string (mkS dfl), .string (mkS [120]), .string (mkS [121]), .string (mkS [122])], 95⟩, ⟨b0, #[.string (mkS nm), .int .i64 a1, .int .i64 a2, .int .i64 a3, .string (mkS pre), .string (mkS bld), .slice nA needs.length nc, vb, vf], 42⟩] ++ (o7 ++ o2 ++ (o3 ++ oba))) (fun w hO => (hO.past 1 (([⟨b11, #[.string (mkS (nmF k)), .slice Aa (putT lst ([63] ++ md.opt)).length ca], 57⟩, ⟨b8, #[.string (mkS dfl), .string (mkS [120]), .string (mkS [121]), .string (mkS [122])], 95⟩, ⟨b0, #[.string (mkS nm), .int .i64 a1, .int .i64 a2, .int .i64 a3, .string (mkS pre), .string (mkS bld), .slice nA needs.length nc, vb, vf], 42⟩] ++ (o7 ++ o2 ++ o3)) ++ oba)).cast (by simp only [List.append_assoc, List.cons_append, List.nil_append])) (nx2 (2, (putT lst ([63] ++ md.opt)), Aa, ca, (o3 ++ oba)) 0 [] (by omega) ⟨by omega, rfl, hfa, hga.more (by omega)⟩ (by kernel_rfl) (by kernel_rfl))
        · exact x_take [] ([⟨b11, #[.string (mkS (nmF k)), .slice Aa (putT lst ([63] ++ md.opt)).length ca], 57⟩, ⟨b8, #[.string (mkS dfl), .string (mkS [120]), .string (mkS [121]), .string (mkS [122])], 95⟩, ⟨b0, #[.string (mkS nm), .int .i64 a1, .int .i64 a2, .int .i64 a3, .string (mkS pre), .string (mkS bld), .slice nA needs.length nc, vb, vf], 42⟩] ++ (o7 ++ o2 ++ (o3 ++ oba))) (fun w hO => (hO.past 1 (([⟨b11, #[.string (mkS (nmF k)), .slice Aa (putT lst ([63] ++ md.opt)).length ca], 57⟩, ⟨b8, #[.string (mkS dfl), .string (mkS [120]), .string (mkS [121]), .string (mkS [122])], 95⟩, ⟨b0, #[.string (mkS nm), .int .i64 a1, .int .i64 a2, .int .i64 a3, .string (mkS pre), .string (mkS bld), .slice nA needs.length nc, vb, vf], 42⟩] ++ (o7 ++ o2 ++ o3)) ++ oba)).cast (by simp only [List.append_assoc, List.cons_append, List.nil_append])) (nx2 (2, (putT lst ([63] ++ md.opt)), Aa, ca, (o3 ++ oba)) 0 [] (by omega) ⟨by omega, rfl, hfa, hga.more (by omega)⟩ (by kernel_rfl) (by kernel_rfl))
      · refine x_br 69 [0] ((md.any.length : Int) = 1) (fun h69 => x_tst 77 [] ?_ ?_) (fun h69 => ?_)
        · obtain ⟨wd, hwd⟩ : ∃ w, md.any = [w] := List.length_eq_one_iff.1 (by omega)
          obtain ⟨wb, wo, hwA, hwl⟩ := (hWs md hmm).elem wvC_len 0 (by omega)
          obtain ⟨q0, hs0, hb0⟩ := hf0.ex
          have hwn : wd.name.length ≤ 1000 := hnm md hmm wd (by simp [hwd])
          have hw0 : md.any[0]'(by omega) = wd := by simp [hwd]
          refine x_draw 10 [] (xh_ixA 50083 [1, 0] 4 hwA md.any.length md.cap 0 4 (by omega) (xh_old 50085 [] 6 9 wb (wo + 0 * 4 + 0) (.string (mkS wd.name)) (fun w hO => hwl w hO.below _ 0 _ (by rw [hw0]; kernel_rfl)) (xh_cat 50086 [] 7 wd.name [47] (xh_cat 50087 [] 8 (wd.name ++ [47]) [120] (x_h1 [] 9 (xh_callM (R := PutR (.slice A lst.length c) lst (wd.name ++ [47] ++ [120])) (fun w hO => g11put_any (ob := q0) (wd.name ++ [47] ++ [120]) w hs0 hf0.bare (hO.past 4 (o7 ++ o2 ++ o3)) (fun b hb => by have := hb0 b hb; simp only [List.mem_append] at this ⊢; grind) (by have := hg0.len; omega)) ?_))))))
          rintro _ ob0b hp0b
          obtain ⟨A0b, c0b, rfl, hf0b⟩ := hf0.put hp0b
          have hg0b := hg0.put (.inr (.inl ⟨md, hmm, wd, hwd, rfl⟩))
          exact x_take [1] ([⟨b11, #[.string (mkS (nmF k)), .slice A0b (putT lst (wd.name ++ [47] ++ [120])).length c0b], 57⟩, ⟨b8, #[.string (mkS dfl), .string (mkS [120]), .string (mkS [121]), .string (mkS [122])], 95⟩, ⟨b0, #[.string (mkS nm), .int .i64 a1, .int .i64 a2, .int .i64 a3, .string (mkS pre), .string (mkS bld), .slice nA needs.length nc, vb, vf], 42⟩] ++ (o7 ++ o2 ++ (o3 ++ ob0b))) (fun w hO => (hO.past 1 (([⟨b11, #[.string (mkS (nmF k)), .slice A0b (putT lst (wd.name ++ [47] ++ [120])).length c0b], 57⟩, ⟨b8, #[.string (mkS dfl), .string (mkS [120]), .string (mkS [121]), .string (mkS [122])], 95⟩, ⟨b0, #[.string (mkS nm), .int .i64 a1, .int .i64 a2, .int .i64 a3, .string (mkS pre), .string (mkS bld), .slice nA needs.length nc, vb, vf], 42⟩] ++ (o7 ++ o2 ++ o3)) ++ ob0b)).cast (by simp only [List.append_assoc, List.cons_append, List.nil_append])) (nx2 (2, (putT lst (wd.name ++ [47] ++ [120])), A0b, c0b, (o3 ++ ob0b)) 0 [] (by omega) ⟨by omega, rfl, hf0b, hg0b.more (by omega)⟩ (by kernel_rfl) (by kernel_rfl))
        · exact x_take [] ([⟨b11, #[.string (mkS (nmF k)), .slice A lst.length c], 57⟩, ⟨b8, #[.string (mkS dfl), .string (mkS [120]), .string (mkS [121]), .string (mkS [122])], 95⟩, ⟨b0, #[.string (mkS nm), .int .i64 a1, .int .i64 a2, .int .i64 a3, .string (mkS pre), .string (mkS bld), .slice nA needs.length nc, vb, vf], 42⟩] ++ (o7 ++ o2 ++ o3)) (fun w hO => (hO.past 1 ([⟨b11, #[.string (mkS (nmF k)), .slice A lst.length c], 57⟩, ⟨b8, #[.string (mkS dfl), .string (mkS [120]), .string (mkS [121]), .string (mkS [122])], 95⟩, ⟨b0, #[.string (mkS nm), .int .i64 a1, .int .i64 a2, .int .i64 a3, .string (mkS pre), .string (mkS bld), .slice nA needs.length nc, vb, vf], 42⟩] ++ (o7 ++ o2 ++ o3))).cast (by simp only [List.append_assoc, List.cons_append, List.nil_append])) (nx2 (2, lst, A, c, o3) 0 [] (by omega) ⟨by omega, rfl, hf0, hg0.more (by omega)⟩ (by kernel_rfl) (by kernel_rfl))
        · exact x_take [] ([⟨b11, #[.string (mkS (nmF k)), .slice A lst.length c], 57⟩, ⟨b8, #[.string (mkS dfl), .string (mkS [120]), .string (mkS [121]), .string (mkS [122])], 95⟩, ⟨b0, #[.string (mkS nm), .int .i64 a1, .int .i64 a2, .int .i64 a3, .string (mkS pre), .string (mkS bld), .slice nA needs.length nc, vb, vf], 42⟩] ++ (o7 ++ o2 ++ o3)) (fun w hO => (hO.past 1 ([⟨b11, #[.string (mkS (nmF k)), .slice A lst.length c], 57⟩, ⟨b8, #[.string (mkS dfl), .string (mkS [120]), .string (mkS [121]), .string (mkS [122])], 95⟩, ⟨b0, #[.string (mkS nm), .int .i64 a1, .int .i64 a2, .int .i64 a3, .string (mkS pre), .string (mkS bld), .slice nA needs.length nc, vb, vf], 42⟩] ++ (o7 ++ o2 ++ o3))).cast (by simp only [List.append_assoc, List.cons_append, List.nil_append])) (nx2 (2, lst, A, c, o3) 0 [] (by omega) ⟨by omega, rfl, hf0, hg0.more (by omega)⟩ (by kernel_rfl) (by kernel_rfl))
  · rintro ⟨lst, A, c, o3⟩ g2 ⟨hf0, hg0⟩
    refine x_br 91 [] ((k : Int) < 3) (fun h91 => x_tst 96 [] (x_i 102 [] ((i + k : Nat) : Int) (x_i 103 [] ((i + (k + 1) : Nat) : Int) (x_call [] (fun w hO => fa (k + 1) (by omega) w hO.below) (x_call [] (fun w hO => fp (atL l (i + (k + 1))) w) (x_bn 106 [] (plc (atL l (i + (k + 1))) 3 = 0) (fun h5 => ?_) (fun h5 => ?_)))))) ?_) (fun h91 => ?_)
    · refine x_lit [0] 1 57 #[.string (mkS (nmF k)), .slice A lst.length c] (fun b12 => x_app [] [⟨b12, #[.string (mkS (nmF k)), .slice A lst.length c], 57⟩, ⟨b11, #[.string (mkS (nmF k)), .slice A lst.length c], 57⟩, ⟨b8, #[.string (mkS dfl), .string (mkS [120]), .string (mkS [121]), .string (mkS [122])], 95⟩, ⟨b0, #[.string (mkS nm), .int .i64 a1, .int .i64 a2, .int .i64 a3, .string (mkS pre), .string (mkS bld), .slice nA needs.length nc, vb, vf], 42⟩] o7 (o2 ++ o3) 0 (⟨b12, #[.string (mkS (nmF k)), .slice A lst.length c], 57⟩ :: ([⟨b11, #[.string (mkS (nmF k)), .slice A lst.length c], 57⟩, ⟨b8, #[.string (mkS dfl), .string (mkS [120]), .string (mkS [121]), .string (mkS [122])], 95⟩, ⟨b0, #[.string (mkS nm), .int .i64 a1, .int .i64 a2, .int .i64 a3, .string (mkS pre), .string (mkS bld), .slice nA needs.length nc, vb, vf], 42⟩] ++ (o7 ++ o2 ++ o3))) (fun w hO => hO.cast (by simp only [List.append_assoc, List.cons_append, List.nil_append])) hO7.top (m := 1) (cp := 1) (by omega) fun v' o7' hS => ?_)
      obtain ⟨A8, c8, rfl⟩ := Sl.form hS
      obtain ⟨q0, hs0, hb0⟩ := hf0.ex
      exact x_ren 7 [] (.slice A8 (xs.length + 1) c8) (.slice A8 (xs ++ [(⟨nmF k, A, lst, c⟩ : Fv)]).length c8) (by simp) (x_i 18 [] ((k + 1 : Nat) : Int) (x_take [] ([⟨b8, #[.string (mkS dfl), .string (mkS [120]), .string (mkS [121]), .string (mkS [122])], 95⟩, ⟨b0, #[.string (mkS nm), .int .i64 a1, .int .i64 a2, .int .i64 a3, .string (mkS pre), .string (mkS bld), .slice nA needs.length nc, vb, vf], 42⟩] ++ (o7' ++ (o2 ++ o3))) (fun w hO => (hO.past 2 ([⟨b8, #[.string (mkS dfl), .string (mkS [120]), .string (mkS [121]), .string (mkS [122])], 95⟩, ⟨b0, #[.string (mkS nm), .int .i64 a1, .int .i64 a2, .int .i64 a3, .string (mkS pre), .string (mkS bld), .slice nA needs.length nc, vb, vf], 42⟩] ++ o7' ++ (o2 ++ o3))).cast (by simp only [List.append_assoc, List.cons_append, List.nil_append])) (nx (k + 1, xs ++ [⟨nmF k, A, lst, c⟩], A8, c8, o7', (o2 ++ o3)) (4 - (k + 1)) [] (by omega) ⟨by omega, rfl, (hO7.more (o2' := (o2 ++ o3)) (fun b hb => by simp [hb])).add (x := ⟨nmF k, A, lst, c⟩) hS ⟨q0, hs0, fun b hb => by have := hb0 b hb; simp only [List.mem_append] at this ⊢; grind⟩, hG.add (hk2 k h3) rfl (hg0.more (by omega))⟩ (by kernel_rfl) (by kernel_rfl))))
    · obtain ⟨q0, hs0, hb0⟩ := hf0.ex
      refine x_draw 7 [] (x_i 111 [0] ((k + 1 : Nat) : Int) (xh_ixa 50112 [] 4 4 (k + 1) 1 (by omega) (xh_ldk 50113 [] 5 1 _ _ 9 _ (nmF_rd (k + 1) (by omega)) (x_h1 [] 6 (xh_callM (R := PutR (.slice A lst.length c) lst (nmF (k + 1))) (fun w hO => g11put_any (ob := q0) (nmF (k + 1)) w hs0 hf0.bare (hO.past 3 (o7 ++ o2 ++ o3)) (fun b hb => by have := hb0 b hb; simp only [List.mem_append] at this ⊢; grind) (by have := hg0.len; omega)) ?_)))))
      rintro _ oba hpa
      obtain ⟨Aa, ca, rfl, hfa⟩ := hf0.put hpa
      have hga := hg0.put (.inr (.inr ⟨k + 1, by omega, hk2 (k + 1) h5, rfl⟩))
      refine x_lit [0, 0] 1 57 #[.string (mkS (nmF k)), .slice Aa (putT lst (nmF (k + 1))).length ca] (fun b12 => x_app [] [⟨b12, #[.string (mkS (nmF k)), .slice Aa (putT lst (nmF (k + 1))).length ca], 57⟩, ⟨b11, #[.string (mkS (nmF k)), .slice Aa (putT lst (nmF (k + 1))).length ca], 57⟩, ⟨b8, #[.string (mkS dfl), .string (mkS [120]), .string (mkS [121]), .string (mkS [122])], 95⟩, ⟨b0, #[.string (mkS nm), .int .i64 a1, .int .i64 a2, .int .i64 a3, .string (mkS pre), .string (mkS bld), .slice nA needs.length nc, vb, vf], 42⟩] o7 (o2 ++ o3 ++ oba) 0 (⟨b12, #[.string (mkS (nmF k)), .slice Aa (putT lst (nmF (k + 1))).length ca], 57⟩ :: (([⟨b11, #[.string (mkS (nmF k)), .slice Aa (putT lst (nmF (k + 1))).length ca], 57⟩, ⟨b8, #[.string (mkS dfl), .string (mkS [120]), .string (mkS [121]), .string (mkS [122])], 95⟩, ⟨b0, #[.string (mkS nm), .int .i64 a1, .int .i64 a2, .int .i64 a3, .string (mkS pre), .string (mkS bld), .slice nA needs.length nc, vb, vf], 42⟩] ++ (o7 ++ o2 ++ o3)) ++ oba)) (fun w hO => hO.cast (by simp only [List.append_assoc, List.cons_append, List.nil_append])) hO7.top (m := 1) (cp := 1) (by omega) fun v' o7' hS => ?_)
      obtain ⟨A8, c8, rfl⟩ := Sl.form hS
      obtain ⟨qa, hsa, hba⟩ := hfa.ex
      exact x_ren 7 [] (.slice A8 (xs.length + 1) c8) (.slice A8 (xs ++ [(⟨nmF k, Aa, (putT lst (nmF (k + 1))), ca⟩ : Fv)]).length c8) (by simp) (x_i 18 [] ((k + 1 : Nat) : Int) (x_take [] ([⟨b8, #[.string (mkS dfl), .string (mkS [120]), .string (mkS [121]), .string (mkS [122])], 95⟩, ⟨b0, #[.string (mkS nm), .int .i64 a1, .int .i64 a2, .int .i64 a3, .string (mkS pre), .string (mkS bld), .slice nA needs.length nc, vb, vf], 42⟩] ++ (o7' ++ (o2 ++ o3 ++ oba))) (fun w hO => (hO.past 2 ([⟨b8, #[.string (mkS dfl), .string (mkS [120]), .string (mkS [121]), .string (mkS [122])], 95⟩, ⟨b0, #[.string (mkS nm), .int .i64 a1, .int .i64 a2, .int .i64 a3, .string (mkS pre), .string (mkS bld), .slice nA needs.length nc, vb, vf], 42⟩] ++ o7' ++ (o2 ++ o3 ++ oba))).cast (by simp only [List.append_assoc, List.cons_append, List.nil_append])) (nx (k + 1, xs ++ [⟨nmF k, Aa, (putT lst (nmF (k + 1))), ca⟩], A8, c8, o7', (o2 ++ o3 ++ oba)) (4 - (k + 1)) [] (by omega) ⟨by omega, rfl, (hO7.more (o2' := (o2 ++ o3 ++ oba)) (fun b hb => by simp [hb])).add (x := ⟨nmF k, Aa, (putT lst (nmF (k + 1))), ca⟩) hS ⟨qa, hsa, fun b hb => by have := hba b hb; simp only [List.mem_append] at this ⊢; grind⟩, hG.add (hk2 k h3) rfl (hga.more (by omega))⟩ (by kernel_rfl) (by kernel_rfl))))
    · refine x_lit [0] 1 57 #[.string (mkS (nmF k)), .slice A lst.length c] (fun b12 => x_app [] [⟨b12, #[.string (mkS (nmF k)), .slice A lst.length c], 57⟩, ⟨b11, #[.string (mkS (nmF k)), .slice A lst.length c], 57⟩, ⟨b8, #[.string (mkS dfl), .string (mkS [120]), .string (mkS [121]), .string (mkS [122])], 95⟩, ⟨b0, #[.string (mkS nm), .int .i64 a1, .int .i64 a2, .int .i64 a3, .string (mkS pre), .string (mkS bld), .slice nA needs.length nc, vb, vf], 42⟩] o7 (o2 ++ o3) 0 (⟨b12, #[.string (mkS (nmF k)), .slice A lst.length c], 57⟩ :: ([⟨b11, #[.string (mkS (nmF k)), .slice A lst.length c], 57⟩, ⟨b8, #[.string (mkS dfl), .string (mkS [120]), .string (mkS [121]), .string (mkS [122])], 95⟩, ⟨b0, #[.string (mkS nm), .int .i64 a1, .int .i64 a2, .int .i64 a3, .string (mkS pre), .string (mkS bld), .slice nA needs.length nc, vb, vf], 42⟩] ++ (o7 ++ o2 ++ o3))) (fun w hO => hO.cast (by simp only [List.append_assoc, List.cons_append, List.nil_append])) hO7.top (m := 1) (cp := 1) (by omega) fun v' o7' hS => ?_)
      obtain ⟨A8, c8, rfl⟩ := Sl.form hS
      obtain ⟨q0, hs0, hb0⟩ := hf0.ex
      exact x_ren 7 [] (.slice A8 (xs.length + 1) c8) (.slice A8 (xs ++ [(⟨nmF k, A, lst, c⟩ : Fv)]).length c8) (by simp) (x_i 18 [] ((k + 1 : Nat) : Int) (x_take [] ([⟨b8, #[.string (mkS dfl), .string (mkS [120]), .string (mkS [121]), .string (mkS [122])], 95⟩, ⟨b0, #[.string (mkS nm), .int .i64 a1, .int .i64 a2, .int .i64 a3, .string (mkS pre), .string (mkS bld), .slice nA needs.length nc, vb, vf], 42⟩] ++ (o7' ++ (o2 ++ o3))) (fun w hO => (hO.past 2 ([⟨b8, #[.string (mkS dfl), .string (mkS [120]), .string (mkS [121]), .string (mkS [122])], 95⟩, ⟨b0, #[.string (mkS nm), .int .i64 a1, .int .i64 a2, .int .i64 a3, .string (mkS pre), .string (mkS bld), .slice nA needs.length nc, vb, vf], 42⟩] ++ o7' ++ (o2 ++ o3))).cast (by simp only [List.append_assoc, List.cons_append, List.nil_append])) (nx (k + 1, xs ++ [⟨nmF k, A, lst, c⟩], A8, c8, o7', (o2 ++ o3)) (4 - (k + 1)) [] (by omega) ⟨by omega, rfl, (hO7.more (o2' := (o2 ++ o3)) (fun b hb => by simp [hb])).add (x := ⟨nmF k, A, lst, c⟩) hS ⟨q0, hs0, fun b hb => by have := hb0 b hb; simp only [List.mem_append] at this ⊢; grind⟩, hG.add (hk2 k h3) rfl (hg0.more (by omega))⟩ (by kernel_rfl) (by kernel_rfl))))
    · refine x_lit [0] 1 57 #[.string (mkS (nmF k)), .slice A lst.length c] (fun b12 => x_app [] [⟨b12, #[.string (mkS (nmF k)), .slice A lst.length c], 57⟩, ⟨b11, #[.string (mkS (nmF k)), .slice A lst.length c], 57⟩, ⟨b8, #[.string (mkS dfl), .string (mkS [120]), .string (mkS [121]), .string (mkS [122])], 95⟩, ⟨b0, #[.string (mkS nm), .int .i64 a1, .int .i64 a2, .int .i64 a3, .string (mkS pre), .string (mkS bld), .slice nA needs.length nc, vb, vf], 42⟩] o7 (o2 ++ o3) 0 (⟨b12, #[.string (mkS (nmF k)), .slice A lst.length c], 57⟩ :: ([⟨b11, #[.string (mkS (nmF k)), .slice A lst.length c], 57⟩, ⟨b8, #[.string (mkS dfl), .string (mkS [120]), .string (mkS [121]), .string (mkS [122])], 95⟩, ⟨b0, #[.string (mkS nm), .int .i64 a1, .int .i64 a2, .int .i64 a3, .string (mkS pre), .string (mkS bld), .slice nA needs.length nc, vb, vf], 42⟩] ++ (o7 ++ o2 ++ o3))) (fun w hO => hO.cast (by simp only [List.append_assoc, List.cons_append, List.nil_append])) hO7.top (m := 1) (cp := 1) (by omega) fun v' o7' hS => ?_)
      obtain ⟨A8, c8, rfl⟩ := Sl.form hS
      obtain ⟨q0, hs0, hb0⟩ := hf0.ex
      exact x_ren 7 [] (.slice A8 (xs.length + 1) c8) (.slice A8 (xs ++ [(⟨nmF k, A, lst, c⟩ : Fv)]).length c8) (by simp) (x_i 18 [] ((k + 1 : Nat) : Int) (x_take [] ([⟨b8, #[.string (mkS dfl), .string (mkS [120]), .string (mkS [121]), .string (mkS [122])], 95⟩, ⟨b0, #[.string (mkS nm), .int .i64 a1, .int .i64 a2, .int .i64 a3, .string (mkS pre), .string (mkS bld), .slice nA needs.length nc, vb, vf], 42⟩] ++ (o7' ++ (o2 ++ o3))) (fun w hO => (hO.past 2 ([⟨b8, #[.string (mkS dfl), .string (mkS [120]), .string (mkS [121]), .string (mkS [122])], 95⟩, ⟨b0, #[.string (mkS nm), .int .i64 a1, .int .i64 a2, .int .i64 a3, .string (mkS pre), .string (mkS bld), .slice nA needs.length nc, vb, vf], 42⟩] ++ o7' ++ (o2 ++ o3))).cast (by simp only [List.append_assoc, List.cons_append, List.nil_append])) (nx (k + 1, xs ++ [⟨nmF k, A, lst, c⟩], A8, c8, o7', (o2 ++ o3)) (4 - (k + 1)) [] (by omega) ⟨by omega, rfl, (hO7.more (o2' := (o2 ++ o3)) (fun b hb => by simp [hb])).add (x := ⟨nmF k, A, lst, c⟩) hS ⟨q0, hs0, fun b hb => by have := hb0 b hb; simp only [List.mem_append] at this ⊢; grind⟩, hG.add (hk2 k h3) rfl (hg0.more (by omega))⟩ (by kernel_rfl) (by kernel_rfl))))
end Go.Proofs.Ytglbfknmeojfkaa
end

section
/-
  linchpinlaw0.Record: a record, its parts in new memory. Conditions: as the theorem names.
-/
namespace Go.Proofs.Ytglbfknmeojfkaa
open Go.RowKit
set_option maxRecDepth 100000
set_option maxHeartbeats 4000000
set_option linter.unusedVariables false
set_option linter.unusedSimpArgs false

/-- A bar as it lies. -/
structure Bv where
  name : List UInt8
  rng : List UInt8
  wh : List UInt8
def bvC (x : Bv) : List Value := [.string (mkS x.name), .string (mkS x.rng), .string (mkS x.wh)]
structure BarG (own : Nat) (x : Bv) : Prop where
  name : ∃ k, k < 4 ∧ x.name = nameT ((own + 1 + k) % 5)
  rng : FewT x.rng
  wh : WhenT x.wh
/-- Needs in one's own memory. -/
structure NsO (A : Option Addr) (c : Nat) (xs : List Nv) (o1 o2 : List Blk) : Prop where
  top : Sl 72 3 (.slice A xs.length c) xs.length (xs.flatMap nvC) o1
  each : ∀ x ∈ xs, ∃ o, WsO x.A x.cap x.any o ∧ ∀ b ∈ o, b ∈ o2
theorem NsO.nil : NsO none 0 [] [] [] := ⟨Sl.nil _ _, fun x h => by simp at h⟩
theorem NsO.add {A A' : Option Addr} {c c' : Nat} {xs : List Nv} {o1 o1' o2 ob : List Blk} {x : Nv} (h : NsO A c xs o1 o2) (ht : Sl 72 3 (.slice A' (xs.length + 1) c') (xs.length + 1) (xs.flatMap nvC ++ nvC x) o1') (hx : WsO x.A x.cap x.any ob) : NsO A' c' (xs ++ [x]) o1' (o2 ++ ob) :=
  ⟨by rw [List.length_append, List.length_singleton, List.flatMap_append, List.flatMap_singleton]; exact ht, fun y hy => by
    rcases List.mem_append.1 hy with hy | hy
    · obtain ⟨o, h1, h2⟩ := h.each y hy
      exact ⟨o, h1, fun b hb => List.mem_append_left _ (h2 b hb)⟩
    · rw [List.mem_singleton.1 hy]; exact ⟨ob, hx, fun b hb => List.mem_append_right _ hb⟩⟩
/-- A record as it lies. -/
structure Rv where
  name : List UInt8
  maj : Int
  min : Int
  pat : Int
  pre : List UInt8
  bld : List UInt8
  nA : Option Addr
  nc : Nat
  needs : List Nv
  bA : Option Addr
  bc : Nat
  bars : List Bv
  fA : Option Addr
  fc : Nat
  fts : List Fv
def rvC (x : Rv) : List Value := [.string (mkS x.name), .int .i64 x.maj, .int .i64 x.min, .int .i64 x.pat, .string (mkS x.pre), .string (mkS x.bld), .slice x.nA x.needs.length x.nc, .slice x.bA x.bars.length x.bc, .slice x.fA x.fts.length x.fc]
def rvV (x : Rv) : Value := .agg #[.string (mkS x.name), .int .i64 x.maj, .int .i64 x.min, .int .i64 x.pat, .string (mkS x.pre), .string (mkS x.bld), .slice x.nA x.needs.length x.nc, .slice x.bA x.bars.length x.bc, .slice x.fA x.fts.length x.fc]
def PbG (pre bld : List UInt8) : Prop := (pre = [] ∧ bld = []) ∨ (pre = [114, 99, 46, 49] ∧ bld = []) ∨ (pre = [] ∧ bld = [55])
/-- What Record makes, by a name's number. -/
structure RecG (own : Nat) (keep : Nat → Bool) (x : Rv) : Prop where
  name : x.name = nameT (own % 5)
  ver : ∃ a b : Nat, a < 3 ∧ b < 2 ∧ x.maj = a ∧ x.min = b ∧ x.pat = 0
  pb : PbG x.pre x.bld
  nlen : x.needs.length ≤ 2
  needs : ∀ m ∈ x.needs, NeedG own m
  blen : x.bars.length ≤ 1
  bars : ∀ b ∈ x.bars, BarG own b
  fts : FeatsG x.needs keep 4 x.fts
/-- Where a record's parts lie. -/
structure RecO (x : Rv) (ob : List Blk) : Prop where
  ex : ∃ o1 o2 o4 o7 o8, ob = o4 ++ (o1 ++ o2) ++ (o7 ++ o8) ∧ NsO x.nA x.nc x.needs o1 o2 ∧ Sl 76 3 (.slice x.bA x.bars.length x.bc) x.bars.length (x.bars.flatMap bvC) o4 ∧ FtO x.fA x.fc x.fts o7 o8
theorem nameT_len (k : Nat) : (nameT k).length ≤ 3 := by unfold nameT; split <;> (try split) <;> (try split) <;> (try split) <;> simp
theorem NsO.reads {A : Option Addr} {c : Nat} {xs : List Nv} {o1 o2 L : List Blk} {M : List Nat} {W w : World} (h : NsO A c xs o1 o2) (hO : Own M W w L) (h1 : ∀ b ∈ o1, b ∈ L) (h2 : ∀ b ∈ o2, b ∈ L) : Reads nvC w w.heap.size A xs ∧ ∀ m ∈ xs, Reads wvC w w.heap.size m.A m.any :=
  ⟨Sl.reads h.top rfl hO h1, fun m hm => by
    obtain ⟨o, ⟨⟨p1, p2, rfl, hp, _⟩⟩, ho⟩ := h.each m hm
    exact Sl.reads hp rfl hO fun b hb => h2 b (ho b (List.mem_append_left _ hb))⟩
theorem need_short {own : Nat} {x : Nv} (h : NeedG own x) : x.opt.length ≤ 1000 ∧ ∀ w ∈ x.any, w.name.length ≤ 1000 := by
  refine ⟨?_, fun w hw => ?_⟩
  · rcases h.opt with e | ⟨j, _, e⟩
    · rw [e]; simp
    · rw [e]; have := wordT_four j; omega
  · have key : ∀ (a : Bool) (u : Wv), WishG own a u → u.name.length ≤ 1000 := fun a u hu => by
      obtain ⟨k, _, e⟩ := hu.name
      rw [e]; have := nameT_len ((own + 1 + k) % 5); omega
    rcases h.any with ⟨u, e, hu⟩ | ⟨u, z, e, hu, hz⟩
    · rw [e] at hw; rw [List.mem_singleton.1 hw]; exact key _ _ hu
    · rw [e] at hw
      rcases List.mem_cons.1 hw with rfl | hw
      · exact key _ _ hu
      · rw [List.mem_singleton.1 hw]; exact key _ _ hz
def NeedR (own : Nat) (v : Value) (ob : List Blk) : Prop := ∃ x, v = nvV x ∧ NeedG own x ∧ WsO x.A x.cap x.any ob
theorem record_gen (v : Value) (l : List Int) (i own : Nat) (W : World) (hv : ReadsI W W.heap.size v l) (hl : l.length ≤ 9223372036854775807) (hi : i ≤ 1000) (ho : own ≤ 1000) : Calls Try.prog 20 #[v, .int .i64 (i : Int), .int .i64 (own : Int)] W fun e w' => ∃ x ob, e = .returned (rvV x) ∧ (RecG own (fun j => decide (plc (atL l (i + 52 + j)) 3 ≠ 0)) x ∧ RecO x ob) ∧ Own [] W w' ob := by
  obtain ⟨a, ha, ha3⟩ := plc_nat' (atL l i) 3 (by decide)
  obtain ⟨b, hb, hb2⟩ := plc_nat' (atL l (i + 1)) 2 (by decide)
  obtain ⟨p, hp, hp9⟩ := plc_nat' (atL l (i + 2)) 9 (by decide)
  obtain ⟨n4, hn, hn4⟩ := plc_nat' (atL l (i + 3)) 4 (by decide)
  obtain ⟨m5, hm, hm5⟩ := plc_nat' (atL l (i + 45)) 5 (by decide)
  obtain ⟨q4, hq, hq4⟩ := plc_nat' (atL l (i + 46)) 4 (by decide)
  have f1 := from_in hv hl i 3 (by omega) (by decide) (by decide) ha
  have f2 := from_in hv hl (i + 1) 2 (by omega) (by decide) (by decide) hb
  have f3 := from_in hv hl (i + 2) 9 (by omega) (by decide) (by decide) hp
  have f4 := from_in hv hl (i + 3) 4 (by omega) (by decide) (by decide) hn
  have f5 := from_in hv hl (i + 45) 5 (by omega) (by decide) (by decide) hm
  have f6 := from_in hv hl (i + 46) 4 (by omega) (by decide) (by decide) hq
  refine x_enter Try.func20 (x_alloc [] fun b1 => x_call [] (fun w hO => name_at own w) (x_call [] (fun w hO => f1 w hO.below) (x_i 16 [] ((i + 1 : Nat) : Int) (x_call [] (fun w hO => f2 w hO.below) (x_alloc [] fun b2 => x_i 22 [0] ((i + 2 : Nat) : Int) (x_call [] (fun w hO => f3 w hO.below) ?_))))))
  refine x_joinC (α := List UInt8) 24 (fun _ => [(0, v), (1, .int .i64 (i : Int)), (2, .int .i64 (own : Int)), (6, .pointer (some ⟨b1, 0, none⟩)), (7, .pointer (some ⟨b2, 0, none⟩))]) (fun pre => [⟨b2, #[.string (mkS (nameT (own % 5))), .int .i64 a, .int .i64 b, .int .i64 0, .string (mkS pre), .string (mkS []), .slice none 0 0, .slice none 0 0, .slice none 0 0], 42⟩, ⟨b1, #[.string ⟨#[]⟩, .int .i64 0, .int .i64 0, .int .i64 0, .string ⟨#[]⟩, .string ⟨#[]⟩, .slice none 0 0, .slice none 0 0, .slice none 0 0], 42⟩]) (fun pre => (pre = [] ∧ ¬ (p : Int) = 1) ∨ (pre = [114, 99, 46, 49] ∧ (p : Int) = 1)) [] (fun nj => x_now 24 ((p : Int) = 1) (fun h => nj [114, 99, 46, 49] [0] (.inr ⟨rfl, h⟩) (by kernel_rfl)) (fun h => nj [] [] (.inl ⟨rfl, h⟩) (by kernel_rfl))) ?_
  rintro pre g hpre
  refine x_i 29 [] ((i + 2 : Nat) : Int) (x_call [] (fun w hO => f3 w hO.below) ?_)
  refine x_joinC (α := List UInt8) 31 (fun _ => [(0, v), (1, .int .i64 (i : Int)), (2, .int .i64 (own : Int)), (6, .pointer (some ⟨b1, 0, none⟩)), (7, .pointer (some ⟨b2, 0, none⟩))]) (fun bld => [⟨b2, #[.string (mkS (nameT (own % 5))), .int .i64 a, .int .i64 b, .int .i64 0, .string (mkS pre), .string (mkS bld), .slice none 0 0, .slice none 0 0, .slice none 0 0], 42⟩, ⟨b1, #[.string ⟨#[]⟩, .int .i64 0, .int .i64 0, .int .i64 0, .string ⟨#[]⟩, .string ⟨#[]⟩, .slice none 0 0, .slice none 0 0, .slice none 0 0], 42⟩]) (fun bld => PbG pre bld) [] (fun nj => x_now 31 ((p : Int) = 2) (fun h => nj [55] [0] (hpre.elim (fun q => .inr (.inr ⟨q.1, rfl⟩)) (fun q => absurd q.2 (by omega))) (by kernel_rfl)) (fun h => nj [] [] (hpre.elim (fun q => .inl ⟨q.1, rfl⟩) (fun q => .inr (.inl ⟨q.1, rfl⟩))) (by kernel_rfl))) ?_
  rintro bld g2 hpb
  refine x_i 36 [] ((i + 3 : Nat) : Int) (x_call [] (fun w hO => f4 w hO.below) (x_set 38 [] (.int .i64 ((n4 % 3 : Nat) : Int)) (by kernel_rfl) ?_))
  refine x_take [] ([⟨b2, #[.string (mkS (nameT (own % 5))), .int .i64 a, .int .i64 b, .int .i64 0, .string (mkS pre), .string (mkS bld), .slice none 0 0, .slice none 0 0, .slice none 0 0], 42⟩, ⟨b1, #[.string ⟨#[]⟩, .int .i64 0, .int .i64 0, .int .i64 0, .string ⟨#[]⟩, .string ⟨#[]⟩, .slice none 0 0, .slice none 0 0, .slice none 0 0], 42⟩] ++ ([] ++ [])) (fun w hO => hO.past 0 _) ?_
  refine x_loopE (α := Nat × List Nv × Option Addr × Nat × List Blk × List Blk) (β := List Nv × Option Addr × Nat × List Blk × List Blk) (fun (k, _, _, _, _, _) => [(0, v), (1, .int .i64 (i : Int)), (2, .int .i64 (own : Int)), (6, .pointer (some ⟨b1, 0, none⟩)), (7, .pointer (some ⟨b2, 0, none⟩)), (8, .int .i64 (k : Int))]) (fun (_, ns, A, c, o1, o2) => [⟨b2, #[.string (mkS (nameT (own % 5))), .int .i64 a, .int .i64 b, .int .i64 0, .string (mkS pre), .string (mkS bld), .slice A ns.length c, .slice none 0 0, .slice none 0 0], 42⟩, ⟨b1, #[.string ⟨#[]⟩, .int .i64 0, .int .i64 0, .int .i64 0, .string ⟨#[]⟩, .string ⟨#[]⟩, .slice none 0 0, .slice none 0 0, .slice none 0 0], 42⟩] ++ (o1 ++ o2)) (fun (k, ns, A, c, o1, o2) m => m = k ∧ ns.length + k ≤ 2 ∧ NsO A c ns o1 o2 ∧ ∀ x ∈ ns, NeedG own x) (n4 % 3, [], none, 0, [], []) (n4 % 3)
    (fun _ => [(0, v), (1, .int .i64 (i : Int)), (2, .int .i64 (own : Int)), (6, .pointer (some ⟨b1, 0, none⟩)), (7, .pointer (some ⟨b2, 0, none⟩))]) (fun (ns, A, c, o1, o2) => [⟨b2, #[.string (mkS (nameT (own % 5))), .int .i64 a, .int .i64 b, .int .i64 0, .string (mkS pre), .string (mkS bld), .slice A ns.length c, .slice none 0 0, .slice none 0 0], 42⟩, ⟨b1, #[.string ⟨#[]⟩, .int .i64 0, .int .i64 0, .int .i64 0, .string ⟨#[]⟩, .string ⟨#[]⟩, .slice none 0 0, .slice none 0 0, .slice none 0 0], 42⟩] ++ (o1 ++ o2)) (fun (ns, A, c, o1, o2) => ns.length ≤ 2 ∧ NsO A c ns o1 o2 ∧ ∀ x ∈ ns, NeedG own x) [] ⟨rfl, by simp; omega, NsO.nil, fun x h => by simp at h⟩ ?_ ?_
  · rintro ⟨k, ns, A, c, o1, o2⟩ mk g3 ⟨rfl, hlen, hO1, hG⟩ nx nex
    refine x_br 40 [] ((0 : Int) < mk) (fun h40 => ?_) (fun h40 => nex (ns, A, c, o1, o2) [] ⟨by omega, hO1, hG⟩ (by kernel_rfl))
    obtain ⟨k, rfl⟩ : ∃ k, mk = k + 1 := ⟨mk - 1, by omega⟩
    refine x_drawL 13 [] [⟨b2, #[.string (mkS (nameT (own % 5))), .int .i64 a, .int .i64 b, .int .i64 0, .string (mkS pre), .string (mkS bld), .slice A ns.length c, .slice none 0 0, .slice none 0 0], 42⟩] (fun w hO => hO.nth 0 _) (x_i 47 [0] ((i + 4 : Nat) : Int) (x_i 49 [] ((20 * (k + 1) : Nat) : Int) (x_i 50 [] ((i + 4 + 20 * (k + 1) : Nat) : Int) (x_ren 51 [] (.int .i64 (IntKind.i64.wrap (((i + 4 + 20 * (k + 1) : Nat) : Int) - 20))) (.int .i64 ((i + 4 + 20 * k : Nat) : Int)) (by rw [IntWalk.i64_in _ (by omega)]; congr 1; omega) (x_h1 [] 10 (xh_callM (R := NeedR own) (fun w hO => (need_gen v l (i + 4 + 20 * k) own w ((hv.below hO.below).more hO.size) hl (by omega) (by omega)).mono fun e w' ⟨x, ob, h1, h2, h3⟩ => ⟨_, ob, h1, ⟨x, rfl, h2⟩, h3⟩) ?_))))))
    rintro _ ob ⟨x, rfl, hx, hxo⟩
    refine x_h1 [] 11 (xh_lit 1 72 (nvV x).cells fun b3 => x_h1 [] 12 (xh_app [⟨b3, (nvV x).cells, 72⟩, ⟨b2, #[.string (mkS (nameT (own % 5))), .int .i64 a, .int .i64 b, .int .i64 0, .string (mkS pre), .string (mkS bld), .slice A ns.length c, .slice none 0 0, .slice none 0 0], 42⟩, ⟨b1, #[.string ⟨#[]⟩, .int .i64 0, .int .i64 0, .int .i64 0, .string ⟨#[]⟩, .string ⟨#[]⟩, .slice none 0 0, .slice none 0 0, .slice none 0 0], 42⟩] o1 (o2 ++ ob) 0 (⟨b3, (nvV x).cells, 72⟩ :: (([⟨b2, #[.string (mkS (nameT (own % 5))), .int .i64 a, .int .i64 b, .int .i64 0, .string (mkS pre), .string (mkS bld), .slice A ns.length c, .slice none 0 0, .slice none 0 0], 42⟩, ⟨b1, #[.string ⟨#[]⟩, .int .i64 0, .int .i64 0, .int .i64 0, .string ⟨#[]⟩, .string ⟨#[]⟩, .slice none 0 0, .slice none 0 0, .slice none 0 0], 42⟩] ++ (o1 ++ o2)) ++ ob)) [⟨b2, #[.string (mkS (nameT (own % 5))), .int .i64 a, .int .i64 b, .int .i64 0, .string (mkS pre), .string (mkS bld), .slice A ns.length c, .slice none 0 0, .slice none 0 0], 42⟩] (fun w hO => hO.cast (by simp only [List.append_assoc, List.cons_append, List.nil_append])) (fun o w hO => hO.nth 1 _) hO1.top (m := 1) (cp := 1) (by omega) fun v' o1' hS => ?_))
    obtain ⟨A', c', rfl⟩ := Sl.form hS
    refine x_ren 42 [1] (.int .i64 (IntKind.i64.wrap (((k + 1 : Nat) : Int) - 1))) (.int .i64 (k : Int)) (by rw [IntWalk.i64_in _ (by omega)]; congr 1; omega) (x_take [] ([⟨b2, #[.string (mkS (nameT (own % 5))), .int .i64 a, .int .i64 b, .int .i64 0, .string (mkS pre), .string (mkS bld), .slice A' (ns ++ [x]).length c', .slice none 0 0, .slice none 0 0], 42⟩, ⟨b1, #[.string ⟨#[]⟩, .int .i64 0, .int .i64 0, .int .i64 0, .string ⟨#[]⟩, .string ⟨#[]⟩, .slice none 0 0, .slice none 0 0, .slice none 0 0], 42⟩] ++ (o1' ++ (o2 ++ ob))) (fun w hO => (hO.past 1 ([⟨b2, #[.string (mkS (nameT (own % 5))), .int .i64 a, .int .i64 b, .int .i64 0, .string (mkS pre), .string (mkS bld), .slice A' (ns.length + 1) c', .slice none 0 0, .slice none 0 0], 42⟩, ⟨b1, #[.string ⟨#[]⟩, .int .i64 0, .int .i64 0, .int .i64 0, .string ⟨#[]⟩, .string ⟨#[]⟩, .slice none 0 0, .slice none 0 0, .slice none 0 0], 42⟩] ++ o1' ++ (o2 ++ ob))).cast (by simp only [List.append_assoc, List.cons_append, List.nil_append, List.length_append, List.length_cons, List.length_nil])) ?_)
    exact nx (k, ns ++ [x], A', c', o1', o2 ++ ob) k [] (by omega) ⟨rfl, by simp; omega, hO1.add hS hxo, fun y hy => by
      rcases List.mem_append.1 hy with hy | hy
      · exact hG y hy
      · rw [List.mem_singleton.1 hy]; exact hx⟩ (by kernel_rfl) (by kernel_rfl)
  · rintro ⟨ns, A, c, o1, o2⟩ g3 ⟨hlen, hO1, hG⟩
    refine x_i 59 [] ((i + 45 : Nat) : Int) (x_call [] (fun w hO => f5 w hO.below) ?_)
    refine x_joinC (α := List Bv × Option Addr × Nat × List Blk) 61 (fun _ => [(0, v), (1, .int .i64 (i : Int)), (2, .int .i64 (own : Int)), (6, .pointer (some ⟨b1, 0, none⟩)), (7, .pointer (some ⟨b2, 0, none⟩))]) (fun (bs, bA, bc, o4) => [⟨b2, #[.string (mkS (nameT (own % 5))), .int .i64 a, .int .i64 b, .int .i64 0, .string (mkS pre), .string (mkS bld), .slice A ns.length c, .slice bA bs.length bc, .slice none 0 0], 42⟩, ⟨b1, #[.string ⟨#[]⟩, .int .i64 0, .int .i64 0, .int .i64 0, .string ⟨#[]⟩, .string ⟨#[]⟩, .slice none 0 0, .slice none 0 0, .slice none 0 0], 42⟩] ++ (o4 ++ (o1 ++ o2))) (fun (bs, bA, bc, o4) => bs.length ≤ 1 ∧ (∀ y ∈ bs, BarG own y) ∧ Sl 76 3 (.slice bA bs.length bc) bs.length (bs.flatMap bvC) o4) [] (fun nj => x_now 61 ((m5 : Int) = 1) (fun h61 => ?_) (fun h61 => nj ([], none, 0, []) [] ⟨by simp, fun y h => by simp at h, Sl.nil _ _⟩ (by kernel_rfl))) ?_
    · refine x_drawL 21 [] [⟨b2, #[.string (mkS (nameT (own % 5))), .int .i64 a, .int .i64 b, .int .i64 0, .string (mkS pre), .string (mkS bld), .slice A ns.length c, .slice none 0 0, .slice none 0 0], 42⟩] (fun w hO => hO.nth 0 _) (x_i 65 [0] ((own + 1 : Nat) : Int) (x_i 68 [] ((i + 46 : Nat) : Int) (x_i 74 [] ((i + 47 : Nat) : Int) (x_i 78 [] ((i + 50 : Nat) : Int) (x_h1 [] 7 (x_call [] (fun w hO => f6 w hO.below) (x_i 70 [] ((own + 1 + q4 : Nat) : Int) (x_h1 [] 9 (x_call [] (fun w hO => name_at (own + 1 + q4) w) (x_h1 [] 13 (x_callE (R := fun v => ∃ t, FewT t ∧ v = .string (mkS t)) [] (fun w hO => (few_gen v l (i + 47) w ((hv.below hO.below).more hO.size) hl (by omega)).mono fun e w' ⟨t, h1, h2, h3⟩ => ⟨_, h2, ⟨t, h1, rfl⟩, h3⟩) ?_)))))))))))
      rintro _ ⟨t, ht, rfl⟩
      refine x_h1 [] 17 (x_callE (R := fun v => ∃ t, WhenT t ∧ v = .string (mkS t)) [] (fun w hO => (when_gen v l (i + 50) w ((hv.below hO.below).more hO.size) hl (by omega)).mono fun e w' ⟨t, h1, h2, h3⟩ => ⟨_, h2, ⟨t, h1, rfl⟩, h3⟩) ?_)
      rintro _ ⟨u, hu, rfl⟩
      refine x_h1 [] 19 (xh_lit 1 76 #[.string (mkS (nameT ((own + 1 + q4) % 5))), .string (mkS t), .string (mkS u)] fun b3 => x_h1 [] 20 (xh_app [⟨b3, #[.string (mkS (nameT ((own + 1 + q4) % 5))), .string (mkS t), .string (mkS u)], 76⟩, ⟨b2, #[.string (mkS (nameT (own % 5))), .int .i64 a, .int .i64 b, .int .i64 0, .string (mkS pre), .string (mkS bld), .slice A ns.length c, .slice none 0 0, .slice none 0 0], 42⟩, ⟨b1, #[.string ⟨#[]⟩, .int .i64 0, .int .i64 0, .int .i64 0, .string ⟨#[]⟩, .string ⟨#[]⟩, .slice none 0 0, .slice none 0 0, .slice none 0 0], 42⟩] [] (o1 ++ o2) 0 (⟨b3, #[.string (mkS (nameT ((own + 1 + q4) % 5))), .string (mkS t), .string (mkS u)], 76⟩ :: ([⟨b2, #[.string (mkS (nameT (own % 5))), .int .i64 a, .int .i64 b, .int .i64 0, .string (mkS pre), .string (mkS bld), .slice A ns.length c, .slice none 0 0, .slice none 0 0], 42⟩, ⟨b1, #[.string ⟨#[]⟩, .int .i64 0, .int .i64 0, .int .i64 0, .string ⟨#[]⟩, .string ⟨#[]⟩, .slice none 0 0, .slice none 0 0, .slice none 0 0], 42⟩] ++ (o1 ++ o2))) [⟨b2, #[.string (mkS (nameT (own % 5))), .int .i64 a, .int .i64 b, .int .i64 0, .string (mkS pre), .string (mkS bld), .slice A ns.length c, .slice none 0 0, .slice none 0 0], 42⟩] (fun w hO => hO.cast (by simp only [List.append_assoc, List.cons_append, List.nil_append])) (fun o w hO => hO.nth 1 _) (Sl.nil 76 3) (m := 1) (cp := 1) (by omega) fun v' o4 hS => ?_))
      obtain ⟨bA, bc, rfl⟩ := Sl.form hS
      exact x_take [1] ([⟨b2, #[.string (mkS (nameT (own % 5))), .int .i64 a, .int .i64 b, .int .i64 0, .string (mkS pre), .string (mkS bld), .slice A ns.length c, .slice bA (0 + 1) bc, .slice none 0 0], 42⟩, ⟨b1, #[.string ⟨#[]⟩, .int .i64 0, .int .i64 0, .int .i64 0, .string ⟨#[]⟩, .string ⟨#[]⟩, .slice none 0 0, .slice none 0 0, .slice none 0 0], 42⟩] ++ (o4 ++ (o1 ++ o2))) (fun w hO => (hO.past 1 ([⟨b2, #[.string (mkS (nameT (own % 5))), .int .i64 a, .int .i64 b, .int .i64 0, .string (mkS pre), .string (mkS bld), .slice A ns.length c, .slice bA (0 + 1) bc, .slice none 0 0], 42⟩, ⟨b1, #[.string ⟨#[]⟩, .int .i64 0, .int .i64 0, .int .i64 0, .string ⟨#[]⟩, .string ⟨#[]⟩, .slice none 0 0, .slice none 0 0, .slice none 0 0], 42⟩] ++ o4 ++ (o1 ++ o2))).cast (by simp only [List.append_assoc, List.cons_append, List.nil_append])) (nj ([⟨nameT ((own + 1 + q4) % 5), t, u⟩], bA, bc, o4) [] ⟨by simp, fun y hy => by rw [List.mem_singleton.1 hy]; exact ⟨⟨q4, hq4, rfl⟩, ht, hu⟩, hS⟩ (by kernel_rfl))
    rintro ⟨bs, bA, bc, o4⟩ g4 ⟨hbl, hbG, hbS⟩
    refine x_i 86 [] ((i + 52 : Nat) : Int) (x_callM (R := fun v ob => ∃ Af cf xs o7 o8, v = .slice Af xs.length cf ∧ ob = o7 ++ o8 ∧ FtO Af cf xs o7 o8 ∧ FeatsG ns (fun j => decide (plc (atL l (i + 52 + j)) 3 ≠ 0)) 4 xs) [0] (fun w hO => have hr := hO1.reads (hO.past 2 (o4 ++ (o1 ++ o2))) (fun b hb => by simp [hb]) (fun b hb => by simp [hb]); (features_gen v l (i + 52) (nameT (own % 5)) pre bld a b 0 A c ns (.slice bA bs.length bc) (.slice none 0 0) w ((hv.below hO.below).more hO.size) hl (by omega) hr.1 hr.2 (by omega) (fun m hm => (need_short (hG m hm)).1) (fun m hm => (need_short (hG m hm)).2)).mono fun e w' ⟨Af, cf, xs, o7, o8, h1, h2, h3⟩ => ⟨_, _, h1, ⟨Af, cf, xs, o7, o8, rfl, rfl, h2⟩, h3⟩) ?_)
    rintro _ _ ⟨Af, cf, xs, o7, o8, rfl, rfl, hF, hFG⟩
    exact x_retc [0, 0, 1] 1 (rvV ⟨nameT (own % 5), a, b, 0, pre, bld, A, c, ns, bA, bc, bs, Af, cf, xs⟩) fun w hO => ⟨_, _, rfl, ⟨⟨rfl, ⟨a, b, ha3, hb2, rfl, rfl, rfl⟩, hpb, hlen, hG, hbl, hbG, hFG⟩, ⟨o1, o2, o4, o7, o8, rfl, hO1, hbS, hF⟩⟩, hO.past 2 _⟩
end Go.Proofs.Ytglbfknmeojfkaa
end

section
/-
  A made record's features are valid (plain). No condition of its own.
-/
namespace Go.Proofs.Ytglbfknmeojfkaa
open Go.RowKit
set_option linter.unusedVariables false
set_option linter.unusedSimpArgs false

theorem nmF_word : ∀ j, j < 4 → wdL (nmF j) = true ∧ (kindT (nmF j)).1 = 1 ∧ (kindT (nmF j)).2.1 = nmF j
  | 0, _ => ⟨by kernel_rfl, by kernel_rfl, by kernel_rfl⟩
  | 1, _ => ⟨by kernel_rfl, by kernel_rfl, by kernel_rfl⟩
  | 2, _ => ⟨by kernel_rfl, by kernel_rfl, by kernel_rfl⟩
  | 3, _ => ⟨by kernel_rfl, by kernel_rfl, by kernel_rfl⟩
theorem opt_kind : ∀ j, j < 4 → (kindT ([63] ++ wordT j)).1 = 2
  | 0, _ => by kernel_rfl
  | 1, _ => by kernel_rfl
  | 2, _ => by kernel_rfl
  | 3, _ => by kernel_rfl
theorem pull_kind : ∀ j, j < 5 → (kindT (nameT j ++ [47] ++ [120])).1 = 3
  | 0, _ => by kernel_rfl
  | 1, _ => by kernel_rfl
  | 2, _ => by kernel_rfl
  | 3, _ => by kernel_rfl
  | 4, _ => by kernel_rfl
def four (a b c d : Bool) : List (List UInt8) := (if a then [nmF 0] else []) ++ ((if b then [nmF 1] else []) ++ ((if c then [nmF 2] else []) ++ if d then [nmF 3] else []))
theorem rise_16 : ∀ a b c d, riseT (four a b c d) = true := by decide
theorem rise_four (keep : Nat → Bool) : riseT (((List.range 4).filter keep).map nmF) = true := by
  have e : List.range 4 = [0, 1, 2, 3] := rfl
  have h := rise_16 (keep 0) (keep 1) (keep 2) (keep 3)
  rw [e]
  unfold four at h
  cases h0 : keep 0 <;> cases h1 : keep 1 <;> cases h2 : keep 2 <;> cases h3 : keep 3 <;> simp only [h0, h1, h2, h3] at h <;> simpa [List.filter, h0, h1, h2, h3] using h
theorem feats_may {own : Nat} {keep : Nat → Bool} {x : Rv} (h : RecG own keep x) : mayF (ftOf x.fts) = true := by
  have hn : (ftOf x.fts).map Ft.name = ((List.range 4).filter keep).map nmF := by
    rw [← h.fts.names]; unfold ftOf; rw [List.map_map]; rfl
  have hin : ∀ f ∈ ftOf x.fts, ∃ j, j < 4 ∧ f.name = nmF j := fun f hf => by
    have : f.name ∈ (ftOf x.fts).map Ft.name := List.mem_map_of_mem hf
    rw [hn] at this
    obtain ⟨j, hj, e⟩ := List.mem_map.1 this
    exact ⟨j, List.mem_range.1 (List.mem_filter.1 hj).1, e.symm⟩
  have his : ∀ j, j < 4 → keep j = true → isT (ftOf x.fts) (nmF j) = true := fun j hj hk => by
    have : nmF j ∈ (ftOf x.fts).map Ft.name := by rw [hn]; exact List.mem_map_of_mem (List.mem_filter.2 ⟨List.mem_range.2 hj, hk⟩)
    obtain ⟨f, hf, e⟩ := List.mem_map.1 this
    unfold isT findT
    rw [Bool.or_eq_true]
    exact .inr (List.findIdx?_isSome.trans (List.any_eq_true.2 ⟨f, hf, decide_eq_true e⟩))
  unfold mayF
  simp only [Bool.and_eq_true, decide_eq_true_eq, List.all_eq_true]
  refine ⟨⟨⟨?_, fun f hf => ?_⟩, by rw [hn]; exact rise_four keep⟩, fun f hf => ?_⟩
  · have e := congrArg List.length hn
    rw [List.length_map, List.length_map] at e
    have := List.length_filter_le keep (List.range 4)
    rw [List.length_range] at this; omega
  · obtain ⟨j, hj, e⟩ := hin f hf
    rw [e]; exact (nmF_word j hj).1
  · obtain ⟨y, hy, rfl⟩ := List.mem_map.1 hf
    have hg := h.fts.each y hy
    unfold itemsT
    simp only [Bool.and_eq_true, decide_eq_true_eq, List.all_eq_true]
    refine ⟨⟨Nat.le_trans hg.len (by omega), hg.rise⟩, fun s hs => ?_⟩
    unfold okItem
    simp only [Bool.and_eq_true, Bool.or_eq_true, decide_eq_true_eq]
    rcases hg.all s hs with ⟨m, hm, hne, rfl⟩ | ⟨m, hm, w, hw, rfl⟩ | ⟨j, hj, hk, rfl⟩
    · rcases (h.needs m hm).opt with e | ⟨j, hj, e⟩
      · exact absurd e hne
      · rw [e, opt_kind j hj]; exact ⟨by omega, .inl (by omega)⟩
    · have key : ∀ (a : Bool) (u : Wv), WishG own a u → (kindT (u.name ++ [47] ++ [120])).1 = 3 := fun a u hu => by
        obtain ⟨k, _, e⟩ := hu.name
        rw [e]; exact pull_kind _ (by omega)
      have h3 : (kindT (w.name ++ [47] ++ [120])).1 = 3 := by
        rcases (h.needs m hm).any with ⟨u, e, hu⟩ | ⟨u, z, e, _, _⟩
        · rw [hw] at e; injection e with e1 _; rw [e1]; exact key _ _ hu
        · rw [hw] at e; simp at e
      rw [h3]; exact ⟨by omega, .inl (by omega)⟩
    · obtain ⟨_, k1, k2⟩ := nmF_word j hj
      rw [k1, k2]; exact ⟨by omega, .inr (his j hj hk)⟩
end Go.Proofs.Ytglbfknmeojfkaa
end

section
/-
  linchpinlaw11: some, named: what they return; a made record's features in one's own memory. Conditions: as each theorem names.
-/
namespace Go.Proofs.Ytglbfknmeojfkaa
open Go.RowKit
set_option maxRecDepth 100000
set_option linter.unusedVariables false
set_option linter.unusedSimpArgs false
set_option linter.unnecessarySimpa false
set_option maxHeartbeats 4000000

/-- A bit of a number, as Go reckons it. -/
def bitI (z : Int) (i : Nat) : Int := IntKind.i64.wrap (BitVec.ofInt 64 (z.fdiv (2 ^ i)) &&& BitVec.ofInt 64 1).toNat
def orI (z y : Int) : Int := IntKind.i64.wrap (BitVec.ofInt 64 z ||| BitVec.ofInt 64 y).toNat
theorem wrap_bv (b : BitVec 64) : BitVec.ofInt 64 (IntKind.i64.wrap b.toNat) = b := by
  apply BitVec.eq_of_toNat_eq
  rw [BitVec.toNat_ofInt]
  have := b.isLt
  simp [IntKind.wrap, IntKind.bits, IntKind.signed]
  omega
theorem bit_is (z : Int) (i : Nat) (hi : i < 4) : bitI z i = 1 ↔ (BitVec.ofInt 64 z).getLsbD i = true := by
  have e1 : (BitVec.ofInt 64 (z.fdiv (2 ^ i)) &&& BitVec.ofInt 64 1).toNat = ((z.fdiv (2 ^ i)) % 18446744073709551616).toNat % 2 := by
    rw [BitVec.toNat_and, BitVec.toNat_ofInt, show (BitVec.ofInt 64 1).toNat = 1 from rfl, Nat.and_one_is_mod]; rfl
  have e2 : (BitVec.ofInt 64 z).getLsbD i = decide ((z % 18446744073709551616).toNat / 2 ^ i % 2 = 1) := by
    rw [BitVec.getLsbD, BitVec.toNat_ofInt, Nat.testBit_eq_decide_div_mod_eq]; rfl
  unfold bitI
  rw [e1, e2, decide_eq_true_eq]
  have hw : ∀ n : Nat, n < 2 → IntKind.i64.wrap (n : Int) = n := fun n hn => by
    obtain rfl | rfl : n = 0 ∨ n = 1 := by omega
    · rfl
    · rfl
  rw [hw _ (Nat.mod_lt _ (by omega))]
  obtain rfl | rfl | rfl | rfl : i = 0 ∨ i = 1 ∨ i = 2 ∨ i = 3 := by omega
  all_goals (rw [Int.fdiv_eq_ediv_of_nonneg _ (by decide)]; simp only [Int.reducePow, Nat.reducePow]; omega)
theorem bit_or {z y : Int} {i : Nat} (hi : i < 4) (h : bitI z i = 1) : bitI (orI z y) i = 1 := by
  rw [bit_is _ i hi] at h ⊢
  unfold orI
  rw [wrap_bv, BitVec.getLsbD_or, h]; rfl
/-- Those asked for: default, and the first k whose bits are set. -/
def selN (xs : List Fv) (z : Int) : Nat → List (List UInt8)
  | 0 => [dfl]
  | k + 1 => if h : k < xs.length ∧ bitI z k = 1 then selN xs z k ++ [xs[k].name] else selN xs z k
theorem sel_mem {xs : List Fv} {z : Int} : ∀ {k : Nat} {s : List UInt8}, s ∈ selN xs z k ↔ s = dfl ∨ ∃ i, i < k ∧ ∃ h : i < xs.length, bitI z i = 1 ∧ s = xs[i].name
  | 0, s => by simp [selN]
  | k + 1, s => by
    rw [selN]
    by_cases h : k < xs.length ∧ bitI z k = 1
    · rw [dif_pos h, List.mem_append, List.mem_singleton, sel_mem]
      constructor
      · rintro ((e | ⟨i, hi, q⟩) | e)
        · exact .inl e
        · exact .inr ⟨i, by omega, q⟩
        · exact .inr ⟨k, by omega, h.1, h.2, e⟩
      · rintro (e | ⟨i, hi, hl, q⟩)
        · exact .inl (.inl e)
        · rcases Nat.lt_succ_iff_lt_or_eq.1 hi with hi | rfl
          · exact .inl (.inr ⟨i, hi, hl, q⟩)
          · exact .inr q.2
    · rw [dif_neg h, sel_mem]
      constructor
      · rintro (e | ⟨i, hi, q⟩)
        · exact .inl e
        · exact .inr ⟨i, by omega, q⟩
      · rintro (e | ⟨i, hi, hl, q⟩)
        · exact .inl e
        · rcases Nat.lt_succ_iff_lt_or_eq.1 hi with hi | rfl
          · exact .inr ⟨i, hi, hl, q⟩
          · exact absurd ⟨hl, q.1⟩ h
theorem sel_len {xs : List Fv} {z : Int} : ∀ k, (selN xs z k).length ≤ k + 1
  | 0 => Nat.le_refl _
  | k + 1 => by
    rw [selN]
    have := sel_len (xs := xs) (z := z) k
    split
    · rw [List.length_append, List.length_singleton]; omega
    · omega
theorem sel_is {xs : List Fv} {z : Int} {k : Nat} : ∀ s ∈ selN xs z k, isT (ftOf xs) s = true := fun s hs => by
  rcases sel_mem.1 hs with rfl | ⟨i, _, hl, _, rfl⟩
  · unfold isT; rw [decide_eq_true rfl]; rfl
  · unfold isT findT
    rw [Bool.or_eq_true]
    exact .inr (List.findIdx?_isSome.trans (List.any_eq_true.2 ⟨_, ft_mem (List.getElem_mem hl), decide_eq_true rfl⟩))
theorem sel_or {xs : List Fv} {z y : Int} {k : Nat} (hk : k ≤ 4) : ∀ s ∈ selN xs z k, s ∈ selN xs (orI z y) k := fun s hs => by
  rcases sel_mem.1 hs with rfl | ⟨i, hi, hl, hb, rfl⟩
  · exact sel_mem.2 (.inl rfl)
  · exact sel_mem.2 (.inr ⟨i, hi, hl, bit_or (by omega) hb, rfl⟩)
theorem some_any (A : Option Addr) (cap : Nat) (xs : List Fv) (z : Int) (W : World) (hv : FtIn W W.heap.size A xs) (h4 : xs.length ≤ 4) : Calls Try.prog 21 #[.slice A xs.length cap, .int .i64 z] W fun e w' => ∃ v ob, e = .returned v ∧ SlT v (selN xs z xs.length) ob ∧ Own [] W w' ob := by
  refine x_enter Try.func21 (x_lit [] 1 9 #[.string (mkS dfl)] fun bd => ?_)
  refine x_loop (α := Nat × Value × List Blk) (fun (i, v, _) => [(0, .slice A xs.length cap), (1, .int .i64 z), (5, v), (6, .int .i64 (i : Int))]) (fun (_, _, ob) => ob) (fun (i, v, ob) m => SlT v (selN xs z i) ob ∧ i ≤ xs.length ∧ m = xs.length - i) (0, .slice (some ⟨bd, 0, none⟩) 1 1, [⟨bd, #[.string (mkS dfl)], 9⟩]) xs.length [] ⟨slt_lit [dfl] bd _ rfl (by unfold maxLen; simp), Nat.zero_le _, rfl⟩ ?_
  rintro ⟨i, v, ob⟩ mm g kk ⟨hs, hi, hmm⟩ nx hkk
  subst hkk
  refine x_br 11 [] ((i : Int) < (xs.length : Int)) (fun h11 => ?_) (fun h11 => ?_)
  rotate_left
  · obtain rfl : i = xs.length := by omega
    exact x_ret [] v fun w hO => ⟨v, ob, rfl, hs, hO.past 0 ob⟩
  have hj : i < xs.length := by omega
  have hl := sel_len (xs := xs) (z := z) i
  obtain ⟨eb, eo, hA, hel⟩ := hv.top.elem fvC_len i hj
  have hel0 : ∀ w, Below W.heap.size W w → (loadVar 9 ⟨eb, eo + i * 2 + 0, none⟩).run Try.prog w = .ok (.string (mkS xs[i].name)) w := fun w hw => hel w hw _ 0 _ (by kernel_rfl)
  have hyes : bitI z i = 1 → selN xs z (i + 1) = selN xs z i ++ [xs[i].name] := fun h => by rw [selN, dif_pos ⟨hj, h⟩]
  have hno : ¬ bitI z i = 1 → selN xs z (i + 1) = selN xs z i := fun h => by rw [selN, dif_neg (fun q => h q.2)]
  obtain ⟨nm, hnm⟩ : ∃ nm, xs[i].name = nm := ⟨_, rfl⟩
  simp only [hnm] at hel0 hyes
  obtain rfl | rfl | rfl | rfl : i = 0 ∨ i = 1 ∨ i = 2 ∨ i = 3 := by omega
  · refine x_br 19 [] (bitI z 0 = 1) (fun h19 => ?_) (fun h19 => ?_)
    · refine x_ixA 23 [] hA xs.length cap 0 2 hj (x_old 25 [] 9 eb (eo + 0 * 2 + 0) (.string (mkS nm)) (fun w hO => hel0 w hO.below) (x_lit [] 1 9 #[.string (mkS nm)] fun bl => x_app (m := 1) (cp := 1) [] [⟨bl, #[.string (mkS nm)], 9⟩] ob [] 0 (⟨bl, #[.string (mkS nm)], 9⟩ :: ob) (fun w hO => hO.cast (by simp)) hs (by omega) fun v' ob' hv' => ?_))
      exact x_i 13 [] ((0 + 1 : Nat) : Int) (x_take [] ob' (fun w hO => (hO.past 1 (ob' ++ [])).cast (by simp)) (nx (0 + 1, v', ob') (xs.length - (0 + 1)) [] (by omega) ⟨by rw [hyes h19]; exact SlT.add hv', hj, rfl⟩ (by kernel_rfl) (by kernel_rfl)))
    · exact x_i 13 [] ((0 + 1 : Nat) : Int) (nx (0 + 1, v, ob) (xs.length - (0 + 1)) [] (by omega) ⟨by rw [hno h19]; exact hs, hj, rfl⟩ (by kernel_rfl) (by kernel_rfl))
  · refine x_br 19 [] (bitI z 1 = 1) (fun h19 => ?_) (fun h19 => ?_)
    · refine x_ixA 23 [] hA xs.length cap 1 2 hj (x_old 25 [] 9 eb (eo + 1 * 2 + 0) (.string (mkS nm)) (fun w hO => hel0 w hO.below) (x_lit [] 1 9 #[.string (mkS nm)] fun bl => x_app (m := 1) (cp := 1) [] [⟨bl, #[.string (mkS nm)], 9⟩] ob [] 0 (⟨bl, #[.string (mkS nm)], 9⟩ :: ob) (fun w hO => hO.cast (by simp)) hs (by omega) fun v' ob' hv' => ?_))
      exact x_i 13 [] ((1 + 1 : Nat) : Int) (x_take [] ob' (fun w hO => (hO.past 1 (ob' ++ [])).cast (by simp)) (nx (1 + 1, v', ob') (xs.length - (1 + 1)) [] (by omega) ⟨by rw [hyes h19]; exact SlT.add hv', hj, rfl⟩ (by kernel_rfl) (by kernel_rfl)))
    · exact x_i 13 [] ((1 + 1 : Nat) : Int) (nx (1 + 1, v, ob) (xs.length - (1 + 1)) [] (by omega) ⟨by rw [hno h19]; exact hs, hj, rfl⟩ (by kernel_rfl) (by kernel_rfl))
  · refine x_br 19 [] (bitI z 2 = 1) (fun h19 => ?_) (fun h19 => ?_)
    · refine x_ixA 23 [] hA xs.length cap 2 2 hj (x_old 25 [] 9 eb (eo + 2 * 2 + 0) (.string (mkS nm)) (fun w hO => hel0 w hO.below) (x_lit [] 1 9 #[.string (mkS nm)] fun bl => x_app (m := 1) (cp := 1) [] [⟨bl, #[.string (mkS nm)], 9⟩] ob [] 0 (⟨bl, #[.string (mkS nm)], 9⟩ :: ob) (fun w hO => hO.cast (by simp)) hs (by omega) fun v' ob' hv' => ?_))
      exact x_i 13 [] ((2 + 1 : Nat) : Int) (x_take [] ob' (fun w hO => (hO.past 1 (ob' ++ [])).cast (by simp)) (nx (2 + 1, v', ob') (xs.length - (2 + 1)) [] (by omega) ⟨by rw [hyes h19]; exact SlT.add hv', hj, rfl⟩ (by kernel_rfl) (by kernel_rfl)))
    · exact x_i 13 [] ((2 + 1 : Nat) : Int) (nx (2 + 1, v, ob) (xs.length - (2 + 1)) [] (by omega) ⟨by rw [hno h19]; exact hs, hj, rfl⟩ (by kernel_rfl) (by kernel_rfl))
  · refine x_br 19 [] (bitI z 3 = 1) (fun h19 => ?_) (fun h19 => ?_)
    · refine x_ixA 23 [] hA xs.length cap 3 2 hj (x_old 25 [] 9 eb (eo + 3 * 2 + 0) (.string (mkS nm)) (fun w hO => hel0 w hO.below) (x_lit [] 1 9 #[.string (mkS nm)] fun bl => x_app (m := 1) (cp := 1) [] [⟨bl, #[.string (mkS nm)], 9⟩] ob [] 0 (⟨bl, #[.string (mkS nm)], 9⟩ :: ob) (fun w hO => hO.cast (by simp)) hs (by omega) fun v' ob' hv' => ?_))
      exact x_i 13 [] ((3 + 1 : Nat) : Int) (x_take [] ob' (fun w hO => (hO.past 1 (ob' ++ [])).cast (by simp)) (nx (3 + 1, v', ob') (xs.length - (3 + 1)) [] (by omega) ⟨by rw [hyes h19]; exact SlT.add hv', hj, rfl⟩ (by kernel_rfl) (by kernel_rfl)))
    · exact x_i 13 [] ((3 + 1 : Nat) : Int) (nx (3 + 1, v, ob) (xs.length - (3 + 1)) [] (by omega) ⟨by rw [hno h19]; exact hs, hj, rfl⟩ (by kernel_rfl) (by kernel_rfl))
end Go.Proofs.Ytglbfknmeojfkaa
end

section
/-
  linchpinlaw11: named: what it returns; a made record's features in one's own memory. Conditions: as each theorem names.
-/
namespace Go.Proofs.Ytglbfknmeojfkaa
open Go.RowKit
set_option maxRecDepth 100000
set_option linter.unusedVariables false
set_option linter.unusedSimpArgs false
set_option linter.unnecessarySimpa false
set_option maxHeartbeats 4000000

/-- Is a text an item of one that is on? -/
def NamT (xs : List Fv) (on : List (List UInt8)) (s : List UInt8) : Prop := ∃ x ∈ xs, x.name ∈ on ∧ s ∈ x.of
theorem named_any (A B : Option Addr) (cap capb : Nat) (xs : List Fv) (on : List (List UInt8)) (s : List UInt8) (W : World) (hv : FtIn W W.heap.size A xs) (hu : Reads strC W W.heap.size B on) (hn : on.length ≤ 1000000) (h : NamT xs on s) : Calls Try.prog 24 #[.slice A xs.length cap, .slice B on.length capb, .string (mkS s)] W fun e w' => e = .returned (.bool true) ∧ Below W.heap.size W w' := by
  have hxn := hv.n
  refine x_enter Try.func24 (x_loop (α := Nat) (fun i => [(0, .slice A xs.length cap), (1, .slice B on.length capb), (2, .string (mkS s)), (7, .int .i64 (i : Int))]) (fun _ => []) (fun i m => (i ≤ xs.length ∧ ∀ x ∈ xs.take i, ¬ (x.name ∈ on ∧ s ∈ x.of)) ∧ m = xs.length - i) 0 xs.length [] ⟨⟨Nat.zero_le _, fun y h => by simp at h⟩, rfl⟩ ?_)
  rintro i mm g kk ⟨⟨hi, hno⟩, hmm⟩ nx hkk
  subst hkk
  refine x_br 11 [] ((i : Int) < (xs.length : Int)) (fun h11 => ?_) (fun h11 => ?_)
  rotate_left
  · obtain ⟨x, hx, q⟩ := h
    exact absurd q (mem_end (p := fun x : Fv => ¬ (x.name ∈ on ∧ s ∈ x.of)) (by omega) hno x hx)
  have hj : i < xs.length := by omega
  have hxm : xs[i] ∈ xs := List.getElem_mem hj
  obtain ⟨eb, eo, hA, hel⟩ := hv.top.elem fvC_len i hj
  have hgo := mem_step (p := fun x : Fv => ¬ (x.name ∈ on ∧ s ∈ x.of)) hj hno
  have h1 : ∀ w, Below W.heap.size W w → (loadVar 9 ⟨eb, eo + i * 2 + 0, none⟩).run Try.prog w = .ok (.string (mkS xs[i].name)) w := fun w hw => hel w hw _ 0 _ (by kernel_rfl)
  have h2 : ∀ w, Below W.heap.size W w → (loadVar 30 ⟨eb, eo + i * 2 + 1, none⟩).run Try.prog w = .ok (.slice xs[i].A xs[i].of.length xs[i].cap) w := fun w hw => hel w hw _ 1 _ (by kernel_rfl)
  have hr := hv.each _ hxm
  have hm := hv.m _ hxm
  generalize xs[i] = x at hgo h1 h2 hr hm
  refine x_ixA 16 [] hA xs.length cap i 2 hj (x_old 18 [] 9 eb (eo + i * 2 + 0) (.string (mkS x.name)) (fun w hO => h1 w hO.below) (x_lit [] 1 9 #[.string (mkS x.name)] fun b1 => ?_))
  have c1 : ∀ w, Own [] W w [⟨b1, #[.string (mkS x.name)], 9⟩] → Calls Try.prog 23 #[.slice (some ⟨b1, 0, none⟩) 1 1, .slice B on.length capb] w fun e w' => e = .returned (.bool (decide (x.name ∈ on))) ∧ Below w.heap.size w w' := fun w hO => by
    have := within_any (some ⟨b1, 0, none⟩) B 1 capb [x.name] on w (SlT.reads (slt_lit [x.name] b1 #[.string (mkS x.name)] rfl (by unfold maxLen; simp)) rfl hO fun b hb => hb) (hu.on hO.below hO.size) (by simp) hn
    simpa using this
  refine x_call (v := .bool (decide (x.name ∈ on))) [] (fun w hO => c1 w (hO.past 0 _)) (x_now 21 (x.name ∈ on) (fun h21 => ?_) (fun h21 => ?_))
  rotate_left
  · exact x_i 13 [] ((i + 1 : Nat) : Int) (x_take [] [] (fun w hO => hO.no) (nx (i + 1) (xs.length - (i + 1)) [] (by omega) ⟨⟨hj, hgo fun q => h21 q.1⟩, rfl⟩ (by kernel_rfl) (by kernel_rfl)))
  refine x_lit [] 1 9 #[.string (mkS s)] fun b2 => x_ixA 27 [] hA xs.length cap i 2 hj (x_old 29 [] 30 eb (eo + i * 2 + 1) (.slice x.A x.of.length x.cap) (fun w hO => h2 w hO.below) ?_)
  have c2 : ∀ w, Own [] W w [⟨b2, #[.string (mkS s)], 9⟩, ⟨b1, #[.string (mkS x.name)], 9⟩] → Calls Try.prog 23 #[.slice (some ⟨b2, 0, none⟩) 1 1, .slice x.A x.of.length x.cap] w fun e w' => e = .returned (.bool (decide (s ∈ x.of))) ∧ Below w.heap.size w w' := fun w hO => by
    have := within_any (some ⟨b2, 0, none⟩) x.A 1 x.cap [s] x.of w (SlT.reads (slt_lit [s] b2 #[.string (mkS s)] rfl (by unfold maxLen; simp)) rfl hO fun b hb => by rw [List.mem_singleton.1 hb]; exact List.mem_cons_self ..) (hr.on hO.below hO.size) (by simp) (by omega)
    simpa using this
  refine x_call (v := .bool (decide (s ∈ x.of))) [] (fun w hO => c2 w (hO.past 0 _)) (x_now 30 (s ∈ x.of) (fun h30 => ?_) (fun h30 => ?_))
  · exact x_ret [] (.bool true) fun w hO => ⟨rfl, hO.below⟩
  · exact x_i 13 [] ((i + 1 : Nat) : Int) (x_take [] [] (fun w hO => hO.no) (nx (i + 1) (xs.length - (i + 1)) [] (by omega) ⟨⟨hj, hgo fun q => h30 q.2⟩, rfl⟩ (by kernel_rfl) (by kernel_rfl)))
/-- What the laws want of a made record's features. -/
structure MadeF (A : Option Addr) (c : Nat) (xs : List Fv) (ob : List Blk) : Prop where
  may : mayF (ftOf xs) = true
  four : xs.length ≤ 4
  m : ∀ x ∈ xs, x.of.length ≤ 1000
  name : ∀ x ∈ xs, x.name.length ≤ 12
  text : ∀ x ∈ xs, ∀ s ∈ x.of, s.length ≤ 2000
  lies : ∃ o7 o2, FtO A c xs o7 o2 ∧ (∀ b ∈ o7, b ∈ ob) ∧ ∀ b ∈ o2, b ∈ ob
theorem MadeF.inn {A : Option Addr} {c : Nat} {xs : List Fv} {ob L : List Blk} {M : List Nat} {W w : World} (h : MadeF A c xs ob) (hO : Own M W w L) (hs : ∀ b ∈ ob, b ∈ L) : FtIn w w.heap.size A xs := by
  obtain ⟨o7, o2, hF, h7, h2⟩ := h.lies
  exact hF.inn hO (fun b hb => hs b (h7 b hb)) (fun b hb => hs b (h2 b hb)) (by have := h.four; omega) h.m (fun x hx => by have := h.name x hx; omega) (fun x hx s hs => by have := h.text x hx s hs; omega)
theorem made_feats {own : Nat} {keep : Nat → Bool} {x : Rv} {ob : List Blk} (h : RecG own keep x) (hO : RecO x ob) : MadeF x.fA x.fc x.fts ob := by
  have hmay := feats_may h
  have hwd := hmay
  unfold mayF at hwd
  simp only [Bool.and_eq_true, decide_eq_true_eq, List.all_eq_true] at hwd
  refine ⟨hmay, ?_, fun y hy => Nat.le_trans (h.fts.each y hy).len (by omega), fun y hy => ?_, fun y hy s hs => ?_, ?_⟩
  · have e := congrArg List.length h.fts.names
    rw [List.length_map, List.length_map] at e
    have := List.length_filter_le keep (List.range 4)
    rw [List.length_range] at this; omega
  · have := hwd.1.1.2 y.ft (ft_mem hy)
    unfold wdL at this
    rw [Bool.and_eq_true, decide_eq_true_eq] at this
    exact this.1.2
  · rcases (h.fts.each y hy).all s hs with ⟨m, hm, hne, rfl⟩ | ⟨m, hm, w, hw, rfl⟩ | ⟨j, hj, hk, rfl⟩
    · have := (need_short (h.needs m hm)).1
      rw [List.length_append]; simp only [List.length_cons, List.length_nil]; omega
    · have := (need_short (h.needs m hm)).2 w (by rw [hw]; exact List.mem_singleton.2 rfl)
      simp only [List.length_append, List.length_cons, List.length_nil]; omega
    · have := (nmF_word j hj).1
      unfold wdL at this
      rw [Bool.and_eq_true, decide_eq_true_eq] at this
      omega
  · obtain ⟨o1, o2, o4, o7, o8, rfl, _, _, hF⟩ := hO.ex
    exact ⟨o7, o8, hF, fun b hb => List.mem_append_right _ (List.mem_append_left _ hb), fun b hb => List.mem_append_right _ (List.mem_append_right _ hb)⟩
end Go.Proofs.Ytglbfknmeojfkaa
end

section
/-
  linchpinlaw11.FeatureTwice: it returns true. Conditions: as the theorem names.
-/
namespace Go.Proofs.Ytglbfknmeojfkaa
open Go.RowKit
set_option maxRecDepth 100000
set_option linter.unusedVariables false
set_option linter.unusedSimpArgs false
set_option linter.unnecessarySimpa false
set_option maxHeartbeats 4000000

/-- What Close hands back of features that may be and of those that are there. -/
def CloR (l : List Ft) (asked : List (List UInt8)) (u : Value) (o : List Blk) : Prop :=
  ∃ A1 k1 A2 k2 A3 k3 o1 o2 o3, u = .tuple #[.slice A1 (onT l asked).length k1, .slice A2 (optsT l (onT l asked)).length k2, .slice A3 (pullsT l (onT l asked)).length k3, .int .i64 0] ∧ o = o1 ++ o2 ++ o3 ∧ SlT (.slice A1 (onT l asked).length k1) (onT l asked) o1 ∧ SlT (.slice A2 (optsT l (onT l asked)).length k2) (optsT l (onT l asked)) o2 ∧ SlT (.slice A3 (pullsT l (onT l asked)).length k3) (pullsT l (onT l asked)) o3
section
variable {M : List Nat} {W w : World} {L : List Blk}
theorem made_close {A : Option Addr} {c : Nat} {xs : List Fv} {ob : List Blk} (hM : MadeF A c xs ob) {B : Option Addr} {k : Nat} {asked : List (List UInt8)} {oa : List Blk} (hs : SlT (.slice B asked.length k) asked oa) (ha : ∀ s ∈ asked, isT (ftOf xs) s = true) (hsh : ∀ s ∈ asked, s.length ≤ 1000000) (hn : asked.length ≤ 1000) (hO : Own M W w L) (h1 : ∀ b ∈ ob, b ∈ L) (h2 : ∀ b ∈ oa, b ∈ L) :
    Calls Try.prog 17 #[.slice A xs.length c, .slice B asked.length k] w fun e w' => ∃ u o, e = .returned u ∧ CloR (ftOf xs) asked u o ∧ Own [] w w' o := by
  have he := errF_yes hM.may ha
  obtain ⟨z1, z2, z3⟩ := clo_yes he
  refine (fClose_own A B c k xs asked w (hM.inn hO h1) (SlT.reads hs rfl hO h2) hn hsh).mono fun e w' ⟨v1, v2, v3, o1, o2, o3, q1, q2, q3⟩ => ?_
  have d1 := q2.on.1; have d2 := q2.op.1; have d3 := q2.pu.1
  rw [z1] at d1; rw [z2] at d2; rw [z3] at d3
  obtain ⟨A1, k1, rfl⟩ := d1.form
  obtain ⟨A2, k2, rfl⟩ := d2.form
  obtain ⟨A3, k3, rfl⟩ := d3.form
  rw [he] at q1
  exact ⟨_, _, q1, ⟨A1, k1, A2, k2, A3, k3, o1, o2, o3, rfl, rfl, d1, d2, d3⟩, q3⟩
theorem rise_call {A : Option Addr} {k : Nat} {t : List (List UInt8)} {o : List Blk} (h : SlT (.slice A t.length k) t o) (hr : riseT t = true) (hn : t.length ≤ 1000000) (hO : Own M W w L) (hs : ∀ b ∈ o, b ∈ L) : Calls Try.prog 22 #[.slice A t.length k] w fun e w' => e = .returned (.bool true) ∧ Below w.heap.size w w' := by
  have := r1Rising_any A k t w (SlT.reads h rfl hO hs) hn
  rw [hr] at this; exact this
theorem within_call {A B : Option Addr} {k j : Nat} {t u : List (List UInt8)} {o p : List Blk} (h : SlT (.slice A t.length k) t o) (h' : SlT (.slice B u.length j) u p) (hr : ∀ x ∈ t, x ∈ u) (hn : t.length ≤ 1000000) (hm : u.length ≤ 1000000) (hO : Own M W w L) (hs : ∀ b ∈ o, b ∈ L) (hp : ∀ b ∈ p, b ∈ L) : Calls Try.prog 23 #[.slice A t.length k, .slice B u.length j] w fun e w' => e = .returned (.bool true) ∧ Below w.heap.size w w' := by
  have := within_any A B k j t u w (SlT.reads h rfl hO hs) (SlT.reads h' rfl hO hp) hn hm
  rw [decide_eq_true hr] at this; exact this
theorem texts_call {A B : Option Addr} {k j : Nat} {t u : List (List UInt8)} {o p : List Blk} (h : SlT (.slice A t.length k) t o) (h' : SlT (.slice B u.length j) u p) (hr : t = u) (hn : t.length ≤ 1000000) (hm : u.length ≤ 1000000) (hO : Own M W w L) (hs : ∀ b ∈ o, b ∈ L) (hp : ∀ b ∈ p, b ∈ L) : Calls Try.prog 19 #[.slice A t.length k, .slice B u.length j] w fun e w' => e = .returned (.bool true) ∧ Below w.heap.size w w' := by
  have := r1Texts_any A B k j t u w (SlT.reads h rfl hO hs) (SlT.reads h' rfl hO hp) hn hm
  rw [decide_eq_true hr] at this; exact this
end
theorem clo_few {l : List Ft} {asked : List (List UInt8)} (hm : mayF l = true) (ha : ∀ a ∈ asked, isT l a = true) : (onT l asked).length ≤ 9 ∧ (optsT l (onT l asked)).length ≤ 54 ∧ (pullsT l (onT l asked)).length ≤ 54 := by
  have h := clo_len l asked
  obtain ⟨z1, z2, z3⟩ := clo_yes (errF_yes hm ha)
  rw [z1, z2, z3] at h; exact h
theorem is_short {l : List Ft} (hm : mayF l = true) {s : List UInt8} (h : isT l s = true) : s.length ≤ 1000000 := by
  unfold isT at h
  rw [Bool.or_eq_true, decide_eq_true_eq] at h
  rcases h with rfl | h
  · decide
  · have := findT_mem h
    obtain ⟨f, hf, rfl⟩ := List.mem_map.1 this
    unfold mayF at hm
    simp only [Bool.and_eq_true, List.all_eq_true] at hm
    have := hm.1.1.2 f hf
    unfold wdL at this
    rw [Bool.and_eq_true, decide_eq_true_eq] at this
    omega
theorem rec_call {v : Value} {l : List Int} {W : World} (hv : ReadsI W W.heap.size v l) (hl : l.length ≤ 9223372036854775807) (w : World) (hb : Below W.heap.size W w) : Calls Try.prog 20 #[v, .int .i64 0, .int .i64 0] w fun e w' => ∃ u ob, e = .returned u ∧ (∃ x, u = rvV x ∧ MadeF x.fA x.fc x.fts ob) ∧ Own [] w w' ob :=
  (record_gen v l 0 0 w ((hv.below hb).more hb.size) hl (by omega) (by omega)).mono fun e w' ⟨x, ob, h1, h2, h3⟩ => ⟨_, ob, h1, ⟨x, rfl, made_feats h2.1 h2.2⟩, h3⟩
theorem featureTwice.law (v : Value) (l : List Int) (bits : Int) (wb : (Lit.int IntKind.i64 bits).wf = true) (W : World) (hv : ReadsI W W.heap.size v l) (hl : l.length ≤ 9223372036854775807) (hK : FeLib W) : Calls Try.prog 6 #[v, .int .i64 bits] W fun e w' => e = .returned (.bool true) ∧ Below W.heap.size W w' := by
  refine x_enter Try.func6 (x_callM (R := fun u ob => ∃ x, u = rvV x ∧ MadeF x.fA x.fc x.fts ob) [] (fun w hO => rec_call hv hl w hO.below) ?_)
  rintro u ob ⟨x, rfl, hM⟩
  have s1 : ∀ w, Own [] W w ob → Calls Try.prog 21 #[.slice x.fA x.fts.length x.fc, .int .i64 bits] w fun e w' => ∃ u oa, e = .returned u ∧ SlT u (selN x.fts bits x.fts.length) oa ∧ Own [] w w' oa := fun w hO => some_any x.fA x.fc x.fts bits w (hM.inn hO fun b hb => hb) hM.four
  refine x_callM (R := fun u oa => SlT u (selN x.fts bits x.fts.length) oa) [] (fun w hO => s1 w (hO.past 0 ob)) ?_
  intro ua oa hsa
  obtain ⟨Aa, ka, rfl⟩ := hsa.form
  have hal := sel_len (xs := x.fts) (z := bits) x.fts.length
  have h4 := hM.four
  have hai := sel_is (xs := x.fts) (z := bits) (k := x.fts.length)
  have has := fun s hs => is_short hM.may (hai s hs)
  generalize selN x.fts bits x.fts.length = asked at hsa hal hai has
  have c0 : ∀ w, Own [] W w (ob ++ oa) → Calls Try.prog 17 #[.slice x.fA x.fts.length x.fc, .slice Aa asked.length ka] w fun e w' => ∃ u o, e = .returned u ∧ CloR (ftOf x.fts) asked u o ∧ Own [] w w' o := fun w hO => made_close hM hsa hai has (by omega) hO (fun b hb => by simp [hb]) (fun b hb => by simp [hb])
  refine x_callM (R := CloR (ftOf x.fts) asked) [] (fun w hO => c0 w (hO.past 0 _)) ?_
  rintro _ _ ⟨A1, k1, A2, k2, A3, k3, o1, o2, o3, rfl, rfl, d1, d2, d3⟩
  have hoi := onT_is hM.may hai
  have hos := fun s hs => is_short hM.may (hoi s hs)
  obtain ⟨n1, n2, n3⟩ := clo_few hM.may hai
  have htw := onT_twice hM.may hai
  have hask := onT_asked hM.may hai
  have r1 := onT_rise (ftOf x.fts) asked
  have r2 : riseT (optsT (ftOf x.fts) (onT (ftOf x.fts) asked)) = true := collK_rise rfl
  have r3 : riseT (pullsT (ftOf x.fts) (onT (ftOf x.fts) asked)) = true := collK_rise rfl
  have c1 : ∀ w, Own [] W w (ob ++ oa ++ (o1 ++ o2 ++ o3)) → Calls Try.prog 17 #[.slice x.fA x.fts.length x.fc, .slice A1 (onT (ftOf x.fts) asked).length k1] w fun e w' => ∃ u o, e = .returned u ∧ CloR (ftOf x.fts) (onT (ftOf x.fts) asked) u o ∧ Own [] w w' o := fun w hO => made_close hM d1 hoi hos (by omega) hO (fun b hb => by simp [hb]) (fun b hb => by simp [hb])
  refine x_callM (R := CloR (ftOf x.fts) (onT (ftOf x.fts) asked)) [] (fun w hO => c1 w (hO.past 0 _)) ?_
  rintro _ _ ⟨B1, j1, B2, j2, B3, j3, p1, p2, p3, rfl, rfl, e1, e2, e3⟩
  rw [htw] at e1 e2 e3 ⊢
  generalize onT (ftOf x.fts) asked = on at *
  generalize optsT (ftOf x.fts) on = op at *
  generalize pullsT (ftOf x.fts) on = pu at *
  obtain ⟨L4, hL4⟩ : ∃ L4, L4 = ob ++ oa ++ (o1 ++ o2 ++ o3) ++ (p1 ++ p2 ++ p3) := ⟨_, rfl⟩
  have q1 : ∀ w, Own [] W w (ob ++ oa ++ (o1 ++ o2 ++ o3) ++ (p1 ++ p2 ++ p3)) → Calls Try.prog 22 #[.slice A1 on.length k1] w fun e w' => e = .returned (.bool true) ∧ Below w.heap.size w w' := fun w hO => rise_call d1 r1 (by omega) hO (fun b hb => by simp [hb])
  have q2 : ∀ w, Own [] W w (ob ++ oa ++ (o1 ++ o2 ++ o3) ++ (p1 ++ p2 ++ p3)) → Calls Try.prog 22 #[.slice A2 op.length k2] w fun e w' => e = .returned (.bool true) ∧ Below w.heap.size w w' := fun w hO => rise_call d2 r2 (by omega) hO (fun b hb => by simp [hb])
  have q3 : ∀ w, Own [] W w (ob ++ oa ++ (o1 ++ o2 ++ o3) ++ (p1 ++ p2 ++ p3)) → Calls Try.prog 22 #[.slice A3 pu.length k3] w fun e w' => e = .returned (.bool true) ∧ Below w.heap.size w w' := fun w hO => rise_call d3 r3 (by omega) hO (fun b hb => by simp [hb])
  have q4 : ∀ w, Own [] W w (ob ++ oa ++ (o1 ++ o2 ++ o3) ++ (p1 ++ p2 ++ p3)) → Calls Try.prog 23 #[.slice Aa asked.length ka, .slice A1 on.length k1] w fun e w' => e = .returned (.bool true) ∧ Below w.heap.size w w' := fun w hO => within_call hsa d1 hask (by omega) (by omega) hO (fun b hb => by simp [hb]) (fun b hb => by simp [hb])
  have q5 : ∀ w, Own [] W w (ob ++ oa ++ (o1 ++ o2 ++ o3) ++ (p1 ++ p2 ++ p3)) → Calls Try.prog 19 #[.slice A1 on.length k1, .slice B1 on.length j1] w fun e w' => e = .returned (.bool true) ∧ Below w.heap.size w w' := fun w hO => texts_call d1 e1 rfl (by omega) (by omega) hO (fun b hb => by simp [hb]) (fun b hb => by simp [hb])
  have q6 : ∀ w, Own [] W w (ob ++ oa ++ (o1 ++ o2 ++ o3) ++ (p1 ++ p2 ++ p3)) → Calls Try.prog 19 #[.slice A2 op.length k2, .slice B2 op.length j2] w fun e w' => e = .returned (.bool true) ∧ Below w.heap.size w w' := fun w hO => texts_call d2 e2 rfl (by omega) (by omega) hO (fun b hb => by simp [hb]) (fun b hb => by simp [hb])
  have q7 : ∀ w, Own [] W w (ob ++ oa ++ (o1 ++ o2 ++ o3) ++ (p1 ++ p2 ++ p3)) → Calls Try.prog 19 #[.slice A3 pu.length k3, .slice B3 pu.length j3] w fun e w' => e = .returned (.bool true) ∧ Below w.heap.size w w' := fun w hO => texts_call d3 e3 rfl (by omega) (by omega) hO (fun b hb => by simp [hb]) (fun b hb => by simp [hb])
  refine x_call (v := .bool true) [] (fun w hO => q1 w (hO.past 0 _)) (x_call (v := .bool true) [] (fun w hO => q2 w (hO.past 0 _)) (x_call (v := .bool true) [] (fun w hO => q3 w (hO.past 0 _)) (x_call (v := .bool true) [] (fun w hO => awake11_any w trivial) ?_)))
  refine x_call (v := .bool true) [] (fun w hO => q4 w (hO.past 0 _)) (x_call (v := .bool true) [] (fun w hO => q5 w (hO.past 0 _)) (x_call (v := .bool true) [] (fun w hO => q6 w (hO.past 0 _)) (x_call (v := .bool true) [] (fun w hO => q7 w (hO.past 0 _)) ?_)))
  exact x_ret [] (.bool true) fun w hO => ⟨rfl, hO.below⟩
end Go.Proofs.Ytglbfknmeojfkaa
end

section
/-
  A parameter that is a slice of ints: it reads as a list, out of the row's own conditions.
-/
namespace Go.Proofs.Ytglbfknmeojfkaa
open Go.ChangeShapes Go.WideShapes Go.ChangeAt Go.RowKit

set_option maxRecDepth 100000 in
theorem open_nums {H : Type} {enc : TypeId × Value → H} {W : World} {base : Nat} {v : Value} {d : DataW H} {ps : List MemPlace} (hval : Value.okWide Try.prog W .any base 36 v)
    (h : DataW.Trod enc Try.prog W 0 (fun _ => true) true 36 v d ps) : ∃ l : List Int, ReadsI W W.heap.size v l ∧ l.length ≤ maxLen := by
  obtain ⟨A, len, cap, rfl⟩ := okWide_slice Try.underlying36 hval
  obtain ⟨fuel, hf⟩ := h
  rcases open_ints Try.underlying36 Try.underlying3 (by kernel_rfl) hf with ⟨hcs, _⟩ | ⟨a, len', cap', zs, hcs, _, hl, hm, hz, _, hcell, _⟩
  · simp [Value.cells] at hcs
    obtain ⟨rfl, rfl, rfl⟩ := hcs
    exact ⟨[], ⟨none, 0, rfl, fun h => by cases h⟩, by simp⟩
  · simp [Value.cells] at hcs
    obtain ⟨rfl, rfl, rfl⟩ := hcs
    simp only [if_true] at hz
    have hlen : (zs.take len).length = len := by rw [List.length_take]; omega
    refine ⟨zs.take len, ⟨some a, cap, by rw [hlen], fun h0 => ⟨a, rfl, ?_, fun j hj => ?_⟩⟩, by rw [hlen]; omega⟩
    · have := cell_lt (hcell 0 (by omega))
      rwa [add_block] at this
    · have hj2 : j < zs.length := by omega
      rw [hcell j hj2, List.getElem_take]
      simp only [List.getD, List.getElem?_eq_getElem hj2, Option.getD_some]
end Go.Proofs.Ytglbfknmeojfkaa
end

section
/-
  linchpinlaw11.FeatureMore: it returns true. Conditions: as the theorem names.
-/
namespace Go.Proofs.Ytglbfknmeojfkaa
open Go.RowKit
set_option maxRecDepth 100000
set_option linter.unusedVariables false
set_option linter.unusedSimpArgs false
set_option linter.unnecessarySimpa false
set_option maxHeartbeats 4000000

theorem featureMore.law (v : Value) (l : List Int) (bits : Int) (wb : (Lit.int IntKind.i64 bits).wf = true) (more : Int) (wm : (Lit.int IntKind.i64 more).wf = true) (W : World) (hv : ReadsI W W.heap.size v l) (hl : l.length ≤ 9223372036854775807) (hK : FeLib W) : Calls Try.prog 7 #[v, .int .i64 bits, .int .i64 more] W fun e w' => e = .returned (.bool true) ∧ Below W.heap.size W w' := by
  refine x_enter Try.func7 (x_callM (R := fun u ob => ∃ x, u = rvV x ∧ MadeF x.fA x.fc x.fts ob) [] (fun w hO => rec_call hv hl w hO.below) ?_)
  rintro u ob ⟨x, rfl, hM⟩
  have s1 : ∀ w, Own [] W w ob → Calls Try.prog 21 #[.slice x.fA x.fts.length x.fc, .int .i64 bits] w fun e w' => ∃ u oa, e = .returned u ∧ SlT u (selN x.fts bits x.fts.length) oa ∧ Own [] w w' oa := fun w hO => some_any x.fA x.fc x.fts bits w (hM.inn hO fun b hb => hb) hM.four
  refine x_callM (R := fun u oa => SlT u (selN x.fts bits x.fts.length) oa) [] (fun w hO => s1 w (hO.past 0 ob)) ?_
  intro ua oa hsa
  have s2 : ∀ w, Own [] W w (ob ++ oa) → Calls Try.prog 21 #[.slice x.fA x.fts.length x.fc, .int .i64 (orI bits more)] w fun e w' => ∃ u oa, e = .returned u ∧ SlT u (selN x.fts (orI bits more) x.fts.length) oa ∧ Own [] w w' oa := fun w hO => some_any x.fA x.fc x.fts (orI bits more) w (hM.inn hO fun b hb => by simp [hb]) hM.four
  refine x_callM (R := fun u oa => SlT u (selN x.fts (orI bits more) x.fts.length) oa) [] (fun w hO => s2 w (hO.past 0 _)) ?_
  intro uc oc hsc
  obtain ⟨Aa, ka, rfl⟩ := hsa.form
  obtain ⟨Ac, kc, rfl⟩ := hsc.form
  have h4 := hM.four
  have hal := sel_len (xs := x.fts) (z := bits) x.fts.length
  have hcl := sel_len (xs := x.fts) (z := orI bits more) x.fts.length
  have hai := sel_is (xs := x.fts) (z := bits) (k := x.fts.length)
  have hci := sel_is (xs := x.fts) (z := orI bits more) (k := x.fts.length)
  have hac := sel_or (xs := x.fts) (z := bits) (y := more) h4
  generalize selN x.fts bits x.fts.length = one at hsa hal hai hac
  generalize selN x.fts (orI bits more) x.fts.length = two at hsc hcl hci hac
  have has := fun s hs => is_short hM.may (hai s hs)
  have hcs := fun s hs => is_short hM.may (hci s hs)
  refine x_i 37 [] ((two.length : Int) - 1) (x_take [] (ob ++ oa ++ oc ++ []) (fun w hO => (hO.past 0 (ob ++ oa ++ oc)).cast (by simp)) (x_loop (α := Nat × Int × Value × List (List UInt8) × List Blk) (fun (_, c, v, _, _) => [(7, .slice x.fA x.fts.length x.fc), (8, .slice Aa one.length ka), (9, .slice Ac two.length kc), (10, v), (11, .int .i64 c)]) (fun (_, _, _, _, ot) => ob ++ oa ++ oc ++ ot) (fun (j, c, v, ts, ot) m => (c = (two.length : Int) - 1 - j ∧ j ≤ two.length) ∧ (SlT v ts ot ∧ ts.length = j) ∧ (∀ s ∈ ts, s ∈ two) ∧ (∀ k (hk : k < two.length), two.length ≤ k + j → two[k] ∈ ts) ∧ m = two.length - j) (0, (two.length : Int) - 1, .slice none 0 0, [], []) two.length [] ⟨⟨by omega, Nat.zero_le _⟩, ⟨Sl.nil _ _, rfl⟩, fun s h => by simp at h, fun k hk h => by omega, rfl⟩ ?_))
  rintro ⟨j, c, v, ts, ot⟩ mm g kk ⟨⟨hc, hj⟩, ⟨hv0, htl⟩, hsub, hall, hmm⟩ nx hkk
  subst hkk
  refine x_br 39 [] ((0 : Int) ≤ c) (fun h39 => ?_) (fun h39 => ?_)
  · have hj2 : j < two.length := by omega
    obtain ⟨i, hi⟩ : ∃ i : Nat, (i : Int) = c ∧ i + j + 1 = two.length := ⟨c.toNat, by omega, by omega⟩
    have hil : i < two.length := by omega
    obtain ⟨gc, rfl, _⟩ := Sl.at0 hsc (by omega)
    obtain ⟨s, hs⟩ : ∃ s, two[i] = s := ⟨_, rfl⟩
    have hld : ∀ w, Own [] W w (ob ++ oa ++ oc ++ ot) → (loadVar 9 ⟨gc, 0 + i * 1 + 0, none⟩).run Try.prog w = .ok (.string (mkS s)) w := fun w hO => by
      rw [← hs]; exact own_text hsc rfl hO (fun b hb => by simp [hb]) hil rfl
    refine x_ren 44 [] (.int .i64 c) (.int .i64 (i : Int)) (by rw [hi.1]) (x_ixA 45 [] (rfl : some (⟨gc, 0, none⟩ : Addr) = some ⟨gc, 0, none⟩) two.length kc i 1 hil (x_old 46 [] 9 gc (0 + i * 1 + 0) (.string (mkS s)) (fun w hO => hld w (hO.past 0 _)) (x_lit [] 1 9 #[.string (mkS s)] fun bl => x_app (m := 1) (cp := 1) [] ([⟨bl, #[.string (mkS s)], 9⟩] ++ (ob ++ oa ++ oc)) ot [] 0 (⟨bl, #[.string (mkS s)], 9⟩ :: (ob ++ oa ++ oc ++ ot)) (fun w hO => hO.cast (by simp)) hv0 (by omega) fun v' ot' hv' => ?_)))
    refine x_i 41 [] (c - 1) (x_take [] (ob ++ oa ++ oc ++ ot') (fun w hO => (hO.past 1 (ob ++ oa ++ oc ++ ot' ++ [])).cast (by simp)) (nx (j + 1, c - 1, v', ts ++ [s], ot') (two.length - (j + 1)) [] (by omega) ⟨⟨by omega, by omega⟩, ⟨SlT.add (htl ▸ hv'), by rw [List.length_append, htl]; rfl⟩, fun y hy => ?_, fun k hk h => ?_, rfl⟩ (by kernel_rfl) (by kernel_rfl)))
    · rcases List.mem_append.1 hy with hy | hy
      · exact hsub y hy
      · rw [List.mem_singleton.1 hy, ← hs]; exact List.getElem_mem hil
    · by_cases hk2 : two.length ≤ k + j
      · exact List.mem_append_left _ (hall k hk hk2)
      · have e : k = i := by omega
        subst e
        rw [hs]; exact List.mem_append_right _ (List.mem_singleton.2 rfl)
  obtain rfl : j = two.length := by omega
  have hmem : ∀ s, s ∈ ts ↔ s ∈ two := fun s => ⟨hsub s, fun h => by
    obtain ⟨k, hk, rfl⟩ := List.getElem_of_mem h
    exact hall k hk (by omega)⟩
  have hti : ∀ s ∈ ts, isT (ftOf x.fts) s = true := fun s hs => hci s (hsub s hs)
  have hts := fun s hs => is_short hM.may (hti s hs)
  obtain ⟨At, kt, rfl⟩ := hv0.form
  have f1 := onT_mono hM.may hai hti (fun s hs => (hmem s).2 (hac s hs))
  have f2 : onT (ftOf x.fts) two = onT (ftOf x.fts) ts := onT_same hM.may hci hti fun s => (hmem s).symm
  have f3 : ∀ s ∈ optsT (ftOf x.fts) (onT (ftOf x.fts) one), s ∈ optsT (ftOf x.fts) (onT (ftOf x.fts) ts) := collK_mono f1
  have f4 : ∀ s ∈ pullsT (ftOf x.fts) (onT (ftOf x.fts) one), s ∈ pullsT (ftOf x.fts) (onT (ftOf x.fts) ts) := collK_mono f1
  obtain ⟨n1, n2, n3⟩ := clo_few hM.may hai
  obtain ⟨m1, m2, m3⟩ := clo_few hM.may hti
  have c1 : ∀ w, Own [] W w (ob ++ oa ++ oc ++ ot) → Calls Try.prog 17 #[.slice x.fA x.fts.length x.fc, .slice Aa one.length ka] w fun e w' => ∃ u o, e = .returned u ∧ CloR (ftOf x.fts) one u o ∧ Own [] w w' o := fun w hO => made_close hM hsa hai has (by omega) hO (fun b hb => by simp [hb]) (fun b hb => by simp [hb])
  refine x_callM (R := CloR (ftOf x.fts) one) [] (fun w hO => c1 w (hO.past 0 _)) ?_
  rintro _ _ ⟨A1, k1, A2, k2, A3, k3, o1, o2, o3, rfl, rfl, d1, d2, d3⟩
  have c2 : ∀ w, Own [] W w (ob ++ oa ++ oc ++ ot ++ (o1 ++ o2 ++ o3)) → Calls Try.prog 17 #[.slice x.fA x.fts.length x.fc, .slice At ts.length kt] w fun e w' => ∃ u o, e = .returned u ∧ CloR (ftOf x.fts) ts u o ∧ Own [] w w' o := fun w hO => made_close hM hv0 hti hts (by omega) hO (fun b hb => by simp [hb]) (fun b hb => by simp [hb])
  refine x_callM (R := CloR (ftOf x.fts) ts) [] (fun w hO => c2 w (hO.past 0 _)) ?_
  rintro _ _ ⟨B1, j1, B2, j2, B3, j3, p1, p2, p3, rfl, rfl, e1, e2, e3⟩
  have c3 : ∀ w, Own [] W w (ob ++ oa ++ oc ++ ot ++ (o1 ++ o2 ++ o3) ++ (p1 ++ p2 ++ p3)) → Calls Try.prog 17 #[.slice x.fA x.fts.length x.fc, .slice Ac two.length kc] w fun e w' => ∃ u o, e = .returned u ∧ CloR (ftOf x.fts) two u o ∧ Own [] w w' o := fun w hO => made_close hM hsc hci hcs (by omega) hO (fun b hb => by simp [hb]) (fun b hb => by simp [hb])
  refine x_callM (R := CloR (ftOf x.fts) two) [] (fun w hO => c3 w (hO.past 0 _)) ?_
  rintro _ _ ⟨C1, i1, C2, i2, C3, i3, r1, r2, r3, rfl, rfl, g1, g2, g3⟩
  rw [f2] at g1 g2 g3 ⊢
  generalize onT (ftOf x.fts) one = on1 at *
  generalize onT (ftOf x.fts) ts = on2 at *
  generalize optsT (ftOf x.fts) on1 = op1 at *
  generalize pullsT (ftOf x.fts) on1 = pu1 at *
  generalize optsT (ftOf x.fts) on2 = op2 at *
  generalize pullsT (ftOf x.fts) on2 = pu2 at *
  have q1 : ∀ w, Own [] W w (ob ++ oa ++ oc ++ ot ++ (o1 ++ o2 ++ o3) ++ (p1 ++ p2 ++ p3) ++ (r1 ++ r2 ++ r3)) → Calls Try.prog 23 #[.slice A1 on1.length k1, .slice B1 on2.length j1] w fun e w' => e = .returned (.bool true) ∧ Below w.heap.size w w' := fun w hO => within_call d1 e1 f1 (by omega) (by omega) hO (fun b hb => by simp [hb]) (fun b hb => by simp [hb])
  have q2 : ∀ w, Own [] W w (ob ++ oa ++ oc ++ ot ++ (o1 ++ o2 ++ o3) ++ (p1 ++ p2 ++ p3) ++ (r1 ++ r2 ++ r3)) → Calls Try.prog 23 #[.slice A2 op1.length k2, .slice B2 op2.length j2] w fun e w' => e = .returned (.bool true) ∧ Below w.heap.size w w' := fun w hO => within_call d2 e2 f3 (by omega) (by omega) hO (fun b hb => by simp [hb]) (fun b hb => by simp [hb])
  have q3 : ∀ w, Own [] W w (ob ++ oa ++ oc ++ ot ++ (o1 ++ o2 ++ o3) ++ (p1 ++ p2 ++ p3) ++ (r1 ++ r2 ++ r3)) → Calls Try.prog 23 #[.slice A3 pu1.length k3, .slice B3 pu2.length j3] w fun e w' => e = .returned (.bool true) ∧ Below w.heap.size w w' := fun w hO => within_call d3 e3 f4 (by omega) (by omega) hO (fun b hb => by simp [hb]) (fun b hb => by simp [hb])
  have q4 : ∀ w, Own [] W w (ob ++ oa ++ oc ++ ot ++ (o1 ++ o2 ++ o3) ++ (p1 ++ p2 ++ p3) ++ (r1 ++ r2 ++ r3)) → Calls Try.prog 19 #[.slice C1 on2.length i1, .slice B1 on2.length j1] w fun e w' => e = .returned (.bool true) ∧ Below w.heap.size w w' := fun w hO => texts_call g1 e1 rfl (by omega) (by omega) hO (fun b hb => by simp [hb]) (fun b hb => by simp [hb])
  refine x_call (v := .bool true) [] (fun w hO => awake11_any w trivial) (x_call (v := .bool true) [] (fun w hO => q1 w (hO.past 0 _)) (x_call (v := .bool true) [] (fun w hO => q2 w (hO.past 0 _)) (x_call (v := .bool true) [] (fun w hO => q3 w (hO.past 0 _)) (x_call (v := .bool true) [] (fun w hO => q4 w (hO.past 0 _)) ?_))))
  exact x_ret [] (.bool true) fun w hO => ⟨rfl, hO.below⟩
end Go.Proofs.Ytglbfknmeojfkaa
end

section
/-
  linchpinlaw11.FeatureLeast: it returns true. Conditions: as the theorem names.
-/
namespace Go.Proofs.Ytglbfknmeojfkaa
open Go.RowKit
set_option maxRecDepth 100000
set_option linter.unusedVariables false
set_option linter.unusedSimpArgs false
set_option linter.unnecessarySimpa false
set_option maxHeartbeats 4000000

section
variable {M : List Nat} {P : Program} {n : Nat} {W : World} {Q : Exit → Act → World → Prop} {c : Xc}
def slP (o : Oper) : TypeId × Operand × Operand × Operand × Bool := match o.op with
  | .slice t x (some y) (some z) none => (t, x, y, z, true)
  | _ => (0, .tmp 0, .tmp 0, .tmp 0, false)
theorem slP_op {o : Oper} (h : (slP o).2.2.2.2 = true) : o.op = .slice (slP o).1 (slP o).2.1 (some (slP o).2.2.1) (some (slP o).2.2.2.1) none := by
  unfold slP at h ⊢
  split at h
  · rename_i e; rw [e]
  · cases h
/-- s[i:j]. -/
theorem x_sl2 (d : Nat) (h : List Nat) {A : Option Addr} {b off : Nat} (hA : A = some ⟨b, off, none⟩) (m cp sz : Nat) (i j : Int) (v : Value) (h0 : 0 ≤ i) (h1 : i ≤ j) (h2 : j ≤ cp) (hv : .slice (some ⟨b, off + (if cp = i.toNat then 0 else i.toNat * sz), none⟩) (j.toNat - i.toNat) (cp - i.toNat) = v) (hg : Good M P n W Q ((xgo P n (d + 50000) h c).put v))
    (hkt : (xgl P n (d + 50000) h c, xW n (xgo P n (d + 50000) h c), (slP (xO (xgo P n (d + 50000) h c))).2.2.2.2, ev n (xgo P n (d + 50000) h c).f (slP (xO (xgo P n (d + 50000) h c))).2.1, ev n (xgo P n (d + 50000) h c).f (slP (xO (xgo P n (d + 50000) h c))).2.2.1, ev n (xgo P n (d + 50000) h c).f (slP (xO (xgo P n (d + 50000) h c))).2.2.2.1, P.underlying (slP (xO (xgo P n (d + 50000) h c))).1, (P.info? (xEl P (slP (xO (xgo P n (d + 50000) h c))).1)).map (·.size))
      = (xgr P n (d + 50000) h c, true, true, .slice A m cp, .int .i64 i, .int .i64 j, some (.slice (xEl P (slP (xO (xgo P n (d + 50000) h c))).1)), some sz) := by kernel_rfl) : Good M P n W Q c := by
  simp only [Prod.mk.injEq] at hkt
  obtain ⟨hk, e1, e2, e3, e4, e5, e6, e7⟩ := hkt
  exact xgo_ok h c hk (put_val e1 (fun w => by rw [run_sl2 (slP_op e2) e3 hA e4 e5 e6 e7 h0 h1 h2 w, hv]) hg)
end
theorem nam_of {xs : List Fv} {on : List (List UInt8)} {s : List UInt8} (h : ∃ g ∈ ftOf xs, g.name ∈ on ∧ s ∈ g.of) : NamT xs on s := by
  obtain ⟨g, hg, h1, h2⟩ := h
  obtain ⟨x, hx, rfl⟩ := List.mem_map.1 hg
  exact ⟨x, hx, h1, h2⟩
theorem named_call {A B : Option Addr} {c k : Nat} {xs : List Fv} {on : List (List UInt8)} {s : List UInt8} {ob o L : List Blk} {M : List Nat} {W w : World} (hM : MadeF A c xs ob) (h : SlT (.slice B on.length k) on o) (hn : on.length ≤ 1000000) (hs : NamT xs on s) (hO : Own M W w L) (h1 : ∀ b ∈ ob, b ∈ L) (h2 : ∀ b ∈ o, b ∈ L) : Calls Try.prog 24 #[.slice A xs.length c, .slice B on.length k, .string (mkS s)] w fun e w' => e = .returned (.bool true) ∧ Below w.heap.size w w' :=
  named_any A B c k xs on s w (hM.inn hO h1) (SlT.reads h rfl hO h2) hn hs
theorem featureLeast.law (v : Value) (l : List Int) (bits : Int) (wb : (Lit.int IntKind.i64 bits).wf = true) (W : World) (hv : ReadsI W W.heap.size v l) (hl : l.length ≤ 9223372036854775807) (hK : FeLib W) : Calls Try.prog 8 #[v, .int .i64 bits] W fun e w' => e = .returned (.bool true) ∧ Below W.heap.size W w' := by
  refine x_enter Try.func8 (x_callM (R := fun u ob => ∃ x, u = rvV x ∧ MadeF x.fA x.fc x.fts ob) [] (fun w hO => rec_call hv hl w hO.below) ?_)
  rintro u ob ⟨x, rfl, hM⟩
  have s1 : ∀ w, Own [] W w ob → Calls Try.prog 21 #[.slice x.fA x.fts.length x.fc, .int .i64 bits] w fun e w' => ∃ u oa, e = .returned u ∧ SlT u (selN x.fts bits x.fts.length) oa ∧ Own [] w w' oa := fun w hO => some_any x.fA x.fc x.fts bits w (hM.inn hO fun b hb => hb) hM.four
  refine x_callM (R := fun u oa => SlT u (selN x.fts bits x.fts.length) oa) [] (fun w hO => s1 w (hO.past 0 ob)) ?_
  intro ua oa hsa
  obtain ⟨Aa, ka, rfl⟩ := hsa.form
  have hal := sel_len (xs := x.fts) (z := bits) x.fts.length
  have h4 := hM.four
  have hai := sel_is (xs := x.fts) (z := bits) (k := x.fts.length)
  generalize selN x.fts bits x.fts.length = asked at hsa hal hai
  have has := fun s hs => is_short hM.may (hai s hs)
  have c0 : ∀ w, Own [] W w (ob ++ oa) → Calls Try.prog 17 #[.slice x.fA x.fts.length x.fc, .slice Aa asked.length ka] w fun e w' => ∃ u o, e = .returned u ∧ CloR (ftOf x.fts) asked u o ∧ Own [] w w' o := fun w hO => made_close hM hsa hai has (by omega) hO (fun b hb => by simp [hb]) (fun b hb => by simp [hb])
  refine x_callM (R := CloR (ftOf x.fts) asked) [] (fun w hO => c0 w (hO.past 0 _)) ?_
  rintro _ _ ⟨A1, k1, A2, k2, A3, k3, o1, o2, o3, rfl, rfl, d1, d2, d3⟩
  obtain ⟨n1, n2, n3⟩ := clo_few hM.may hai
  have l1 := on_least hM.may hai
  have l2 := opts_least (l := ftOf x.fts) (on := onT (ftOf x.fts) asked)
  have l3 := pulls_least (l := ftOf x.fts) (on := onT (ftOf x.fts) asked)
  have hos : ∀ s ∈ optsT (ftOf x.fts) (onT (ftOf x.fts) asked), s.length ≤ 1000000 := fun s hs => by
    obtain ⟨g, hg, _, h2⟩ := l2 s hs
    obtain ⟨y, hy, rfl⟩ := List.mem_map.1 hg
    have := hM.text y hy _ h2
    rw [List.length_cons] at this; omega
  generalize onT (ftOf x.fts) asked = on at *
  generalize optsT (ftOf x.fts) on = op at *
  generalize pullsT (ftOf x.fts) on = pu at *
  have hnam : ∀ s, NamT x.fts on s → ∀ w, Own [] W w (ob ++ oa ++ (o1 ++ o2 ++ o3)) → Calls Try.prog 24 #[.slice x.fA x.fts.length x.fc, .slice A1 on.length k1, .string (mkS s)] w fun e w' => e = .returned (.bool true) ∧ Below w.heap.size w w' := fun s hs w hO => named_call hM d1 (by omega) hs hO (fun b hb => by simp [hb]) (fun b hb => by simp [hb])
  refine x_loop (α := Nat) (fun i => [(5, .slice x.fA x.fts.length x.fc), (6, .slice Aa asked.length ka), (7, .slice A1 on.length k1), (8, .slice A2 op.length k2), (9, .slice A3 pu.length k3), (10, .int .i64 0), (11, .int .i64 (i : Int))]) (fun _ => ob ++ oa ++ (o1 ++ o2 ++ o3)) (fun i m => i ≤ on.length ∧ m = on.length - i) 0 on.length [] ⟨Nat.zero_le _, rfl⟩ ?_
  rintro i mm g kk ⟨hi, hmm⟩ nx hkk
  subst hkk
  refine x_br 31 [] ((i : Int) < (on.length : Int)) (fun h31 => ?_) (fun h31 => ?_)
  · have hil : i < on.length := by omega
    obtain ⟨g1, rfl, hk1⟩ := Sl.at0 d1 (by omega)
    obtain ⟨s, hs⟩ : ∃ s, on[i] = s := ⟨_, rfl⟩
    have hsm : s ∈ on := hs ▸ List.getElem_mem hil
    have hld : ∀ w, Own [] W w (ob ++ oa ++ (o1 ++ o2 ++ o3)) → (loadVar 9 ⟨g1, 0 + i * 1 + 0, none⟩).run Try.prog w = .ok (.string (mkS s)) w := fun w hO => by
      rw [← hs]; exact own_text d1 rfl hO (fun b hb => by simp [hb]) hil rfl
    have hw : ∀ w, Own [] W w (ob ++ oa ++ (o1 ++ o2 ++ o3)) → Calls Try.prog 23 #[.slice (some ⟨g1, 0 + (if k1 = (i : Int).toNat then 0 else (i : Int).toNat * 1), none⟩) 1 (k1 - i), .slice Aa asked.length ka] w fun e w' => e = .returned (.bool (decide (s ∈ asked))) ∧ Below w.heap.size w w' := fun w hO => by
      have hr := Reads.one strC_len (SlT.reads d1 rfl hO (fun b hb => by simp [hb])) rfl hil hk1 (i := (i : Int)) rfl
      have := within_any _ Aa (k1 - i) ka [on[i]] asked w hr (SlT.reads hsa rfl hO (fun b hb => by simp [hb])) (by simp) (by omega)
      rw [hs] at this
      simpa using this
    refine x_i 37 [] ((i + 1 : Nat) : Int) (x_sl2 38 [] (rfl : some (⟨g1, 0, none⟩ : Addr) = some ⟨g1, 0, none⟩) on.length k1 1 (i : Int) ((i + 1 : Nat) : Int) (.slice (some ⟨g1, 0 + (if k1 = (i : Int).toNat then 0 else (i : Int).toNat * 1), none⟩) 1 (k1 - i)) (by omega) (by omega) (by omega) (by rw [show ((i + 1 : Nat) : Int).toNat - (i : Int).toNat = 1 by omega]; rfl) ?_)
    refine x_call (v := .bool (decide (s ∈ asked))) [] (fun w hO => hw w (hO.past 0 _)) (x_now 40 (s ∈ asked) (fun h40 => ?_) (fun h40 => ?_))
    · exact x_i 33 [] ((i + 1 : Nat) : Int) (nx (i + 1) (on.length - (i + 1)) [] (by omega) ⟨hil, rfl⟩ (by kernel_rfl) (by kernel_rfl))
    · have hq := hnam s (nam_of ((l1 s hsm).resolve_left h40))
      refine x_ixA 47 [] (rfl : some (⟨g1, 0, none⟩ : Addr) = some ⟨g1, 0, none⟩) on.length k1 i 1 hil (x_old 48 [] 9 g1 (0 + i * 1 + 0) (.string (mkS s)) (fun w hO => hld w (hO.past 0 _)) (x_call (v := .bool true) [] (fun w hO => hq w (hO.past 0 _)) ?_))
      exact x_i 33 [] ((i + 1 : Nat) : Int) (nx (i + 1) (on.length - (i + 1)) [] (by omega) ⟨hil, rfl⟩ (by kernel_rfl) (by kernel_rfl))
  clear nx
  refine x_loop (α := Nat) (fun i => [(5, .slice x.fA x.fts.length x.fc), (7, .slice A1 on.length k1), (8, .slice A2 op.length k2), (9, .slice A3 pu.length k3), (10, .int .i64 0), (12, .int .i64 (i : Int))]) (fun _ => ob ++ oa ++ (o1 ++ o2 ++ o3)) (fun i m => i ≤ op.length ∧ m = op.length - i) 0 op.length [] ⟨Nat.zero_le _, rfl⟩ ?_
  rintro i2 mm2 g2 kk2 ⟨hi2, hmm2⟩ nx hkk
  subst hkk
  refine x_br 55 [] ((i2 : Int) < (op.length : Int)) (fun h55 => ?_) (fun h55 => ?_)
  · have hil : i2 < op.length := by omega
    obtain ⟨g1, rfl, hk1⟩ := Sl.at0 d2 (by omega)
    obtain ⟨s, hs⟩ : ∃ s, op[i2] = s := ⟨_, rfl⟩
    have hsm : s ∈ op := hs ▸ List.getElem_mem hil
    have hss := hos s hsm
    have hld : ∀ w, Own [] W w (ob ++ oa ++ (o1 ++ o2 ++ o3)) → (loadVar 9 ⟨g1, 0 + i2 * 1 + 0, none⟩).run Try.prog w = .ok (.string (mkS s)) w := fun w hO => by
      rw [← hs]; exact own_text d2 rfl hO (fun b hb => by simp [hb]) hil rfl
    have hq := hnam ([63] ++ s) (nam_of (l2 s hsm))
    refine x_ixA 62 [] (rfl : some (⟨g1, 0, none⟩ : Addr) = some ⟨g1, 0, none⟩) op.length k2 i2 1 hil (x_old 63 [] 9 g1 (0 + i2 * 1 + 0) (.string (mkS s)) (fun w hO => hld w (hO.past 0 _)) (x_cat 64 [] [63] s (x_call (v := .bool true) [] (fun w hO => hq w (hO.past 0 _)) ?_)))
    exact x_i 57 [] ((i2 + 1 : Nat) : Int) (nx (i2 + 1) (op.length - (i2 + 1)) [] (by omega) ⟨hil, rfl⟩ (by kernel_rfl) (by kernel_rfl))
  clear nx
  refine x_loop (α := Nat) (fun i => [(5, .slice x.fA x.fts.length x.fc), (7, .slice A1 on.length k1), (9, .slice A3 pu.length k3), (10, .int .i64 0), (13, .int .i64 (i : Int))]) (fun _ => ob ++ oa ++ (o1 ++ o2 ++ o3)) (fun i m => i ≤ pu.length ∧ m = pu.length - i) 0 pu.length [] ⟨Nat.zero_le _, rfl⟩ ?_
  rintro i3 mm3 g3 kk3 ⟨hi3, hmm3⟩ nx hkk
  subst hkk
  refine x_br 70 [] ((i3 : Int) < (pu.length : Int)) (fun h70 => ?_) (fun h70 => ?_)
  · have hil : i3 < pu.length := by omega
    obtain ⟨g1, rfl, hk1⟩ := Sl.at0 d3 (by omega)
    obtain ⟨s, hs⟩ : ∃ s, pu[i3] = s := ⟨_, rfl⟩
    have hsm : s ∈ pu := hs ▸ List.getElem_mem hil
    have hld : ∀ w, Own [] W w (ob ++ oa ++ (o1 ++ o2 ++ o3)) → (loadVar 9 ⟨g1, 0 + i3 * 1 + 0, none⟩).run Try.prog w = .ok (.string (mkS s)) w := fun w hO => by
      rw [← hs]; exact own_text d3 rfl hO (fun b hb => by simp [hb]) hil rfl
    have hq := hnam s (nam_of (l3 s hsm))
    refine x_ixA 77 [] (rfl : some (⟨g1, 0, none⟩ : Addr) = some ⟨g1, 0, none⟩) pu.length k3 i3 1 hil (x_old 78 [] 9 g1 (0 + i3 * 1 + 0) (.string (mkS s)) (fun w hO => hld w (hO.past 0 _)) (x_call (v := .bool true) [] (fun w hO => hq w (hO.past 0 _)) ?_))
    exact x_i 72 [] ((i3 + 1 : Nat) : Int) (nx (i3 + 1) (pu.length - (i3 + 1)) [] (by omega) ⟨hil, rfl⟩ (by kernel_rfl) (by kernel_rfl))
  refine x_call (v := .bool true) [] (fun w hO => awake11_any w trivial) ?_
  exact x_ret [] (.bool true) fun w hO => ⟨rfl, hO.below⟩
end Go.Proofs.Ytglbfknmeojfkaa
end
