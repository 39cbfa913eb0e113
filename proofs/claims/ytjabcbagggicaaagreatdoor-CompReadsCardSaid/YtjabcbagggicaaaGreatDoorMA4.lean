/-
  What the statements' proofs lean on, part 4: each part begins with a remark that says what it proves and on what conditions.
-/
import Derived.Shelf.Strings.SplitCore
import Derived.Test.YtjabcbagggicaaaGreatDoorMA3

section
/-
  linchpinref6: Parse: what it returns for strings of at most a million bytes; nothing that was there is changed.
-/
namespace Go.Proofs.YtjabcbagggicaaaGreatDoor
open Go.RowKit
set_option maxRecDepth 100000
set_option linter.unusedVariables false
set_option linter.unusedSimpArgs false
set_option maxHeartbeats 2000000

def pcV (s : List UInt8) : Co := (parseC s).getD ⟨0, 0, Ver.zero⟩
def pcE (s : List UInt8) : Int := if (parseC s).isSome then 0 else 6
theorem guess_nums (op : Int) (r : List UInt8) : guessC op r = if numsOk (guessL op r) then some ⟨op, ((guessL op r).length : Int), { numsVal (guessL op r) with pre := (cutAt 45 r).2.1 }⟩ else none := by
  unfold guessC numsVal
  by_cases h : numsOk (guessL op r) = true
  · have h2 := h
    unfold numsOk at h2
    rw [Bool.and_eq_true, decide_eq_true_eq] at h2
    rw [if_pos h2, if_pos h, if_pos h]
  · have h2 : ¬ ((guessL op r).length ≤ 3 ∧ (guessL op r).all numI = true) := fun q => h (by unfold numsOk; rw [decide_eq_true q.1, q.2]; rfl)
    rw [if_neg h2, if_neg h]
theorem parse_cases {s r tl : List UInt8} {op : Int} {gl : List (List UInt8)} (h1 : (splitC s).1 = op) (h2 : (splitC s).2 = r) (h3 : guessL op r = gl) (h4 : (cutAt 45 r).2.1 = tl) :
    parseC s = (if numsOk gl then some ⟨op, (gl.length : Int), { numsVal gl with pre := tl }⟩ else none : Option Co).filter (fits s) := by
  unfold parseC
  rw [h1, h2, guess_nums, h3, h4]
theorem pc_none {s : List UInt8} (h : parseC s = none) : pcV s = ⟨0, 0, Ver.zero⟩ ∧ pcE s = 6 := by unfold pcV pcE; rw [h]; exact ⟨rfl, rfl⟩
theorem pc_some {s : List UInt8} {c : Co} (h : parseC s = some c) : pcV s = c ∧ pcE s = 0 := by unfold pcV pcE; rw [h]; exact ⟨rfl, rfl⟩
theorem split6_le (s : List UInt8) : (splitC s).2.length ≤ s.length := by
  unfold splitC
  repeat' split
  all_goals first | exact Nat.le_refl _ | (rw [List.length_drop]; omega)
theorem guess_take {op : Int} {r ah : List UInt8} (h : (cutAt 45 r).1 = ah) : guessL op r = (pcs ah).take (guessL op r).length ∧ (guessL op r).length ≤ (pcs ah).length := by
  unfold guessL
  rw [h]
  split
  · rw [List.length_dropLast]
    exact ⟨List.dropLast_eq_take, by omega⟩
  · exact ⟨(List.take_of_length_le (Nat.le_refl _)).symm, Nat.le_refl _⟩
theorem Reads.front {α : Type} {g : α → List Value} {w : World} {B : Nat} {A : Option Addr} {l : List α} (h : Reads g w B A l) (k : Nat) : Reads g w B A (l.take k) := fun h0 => by
  rw [List.length_take] at h0
  obtain ⟨b, off, e, hlt, hc⟩ := h (by omega)
  refine ⟨b, off, e, hlt, fun j u hj => hc j u ?_⟩
  have e2 : l.flatMap g = (l.take k).flatMap g ++ (l.drop k).flatMap g := by rw [← List.flatMap_append, List.take_append_drop]
  rw [e2, List.getElem?_append_left (List.getElem?_eq_some_iff.1 hj).1]
  exact hj
theorem pcs_pos6 (s : List UInt8) : 0 < (pcs s).length := List.length_pos_iff.2 (pcs_ne s)
theorem tg_short {l : List (List UInt8)} (h : ∀ x ∈ l, x.length ≤ 1000000) (i : Nat) : (tg l i).length ≤ 1000000 := by
  unfold tg
  cases hq : l[i]? with
  | none => exact Nat.zero_le _
  | some x => exact h x (List.mem_of_getElem? hq)
theorem pcs_count (s : List UInt8) : (pcs s).length ≤ s.length + 1 := by
  unfold pcs
  rw [split_len]
  have := List.length_filter_le (· == (46 : UInt8)) s
  omega
set_option maxHeartbeats 4000000 in
theorem rcParse_any (s : List UInt8) (W : World) (hs : s.length ≤ 1000000) : Calls Tryz.prog 13 #[.string (mkS s)] W fun e w' => e = .returned (.tuple #[coV (pcV s), .int .i64 (pcE s)]) ∧ Below W.heap.size W w' := by
  obtain ⟨op, hop⟩ : ∃ x, (splitC s).1 = x := ⟨_, rfl⟩
  obtain ⟨r, hr⟩ : ∃ x, (splitC s).2 = x := ⟨_, rfl⟩
  obtain ⟨ah, hah⟩ : ∃ x, (cutAt 45 r).1 = x := ⟨_, rfl⟩
  obtain ⟨tl, htl⟩ : ∃ x, (cutAt 45 r).2.1 = x := ⟨_, rfl⟩
  obtain ⟨gl, hgl⟩ : ∃ x, guessL op r = x := ⟨_, rfl⟩
  have hrl : r.length ≤ s.length := hr ▸ split6_le s
  have hal : ah.length + tl.length ≤ r.length := by rw [← hah, ← htl]; exact cutAt_le 45 r
  have hpl := pcs_count ah
  have hp0 := pcs_pos6 ah
  refine calls_ok (n := 64) Tryz.func13 rfl (by kernel_rfl) (by kernel_rfl) ?_
  refine ok_seq ?_
  refine ok_region ?_
  refine s_alloc_at (.agg #[.int .i64 0, .int .i64 0, .int .i64 0, .int .i64 0, .int .i64 0, .string ⟨#[]⟩, .string ⟨#[]⟩]) (by kernel_rfl) rfl (by kernel_rfl) (fun b1 => ?_)
  refine s_val (.int .i64 0) (by kernel_rfl) (fun _ => by kernel_rfl) ?_
  refine s_nil ?_
  refine fin_seq ?_
  refine ok_seq ?_
  refine ok_region ?_
  refine s_val (.string (mkS s)) (by kernel_rfl) (fun _ => by kernel_rfl) ?_
  refine s_call (k := 39) (args := #[.string (mkS s)]) (.tuple #[.int .i64 op, .string (mkS r)]) (by kernel_rfl) (fun _ => by kernel_rfl) (fun w _ => ret_v (by rw [hop, hr]) (rcsplit_any s w hs)) ?_
  refine s_val (.tuple #[.int .i64 op, .string (mkS r)]) (by kernel_rfl) (fun _ => by kernel_rfl) ?_
  refine s_val (.int .i64 op) (by kernel_rfl) (fun _ => by kernel_rfl) ?_
  refine s_val (.string (mkS r)) (by kernel_rfl) (fun _ => by kernel_rfl) ?_
  refine s_val (.int .i64 op) (by kernel_rfl) (fun _ => by kernel_rfl) ?_
  refine s_val (.string (mkS r)) (by kernel_rfl) (fun _ => by kernel_rfl) ?_
  refine s_nil ?_
  refine fin_seq ?_
  refine ok_seq ?_
  refine ok_region ?_
  refine s_val (.string (mkS r)) (by kernel_rfl) (fun _ => by kernel_rfl) ?_
  refine s_call (k := 40) (args := #[.string (mkS r)]) (.tuple #[.string (mkS ah), .string (mkS tl)]) (by kernel_rfl) (fun _ => by kernel_rfl) (fun w _ => ret_v (by rw [hah, htl]) (rcpre_any r w (by omega))) ?_
  refine s_val (.tuple #[.string (mkS ah), .string (mkS tl)]) (by kernel_rfl) (fun _ => by kernel_rfl) ?_
  refine s_val (.string (mkS ah)) (by kernel_rfl) (fun _ => by kernel_rfl) ?_
  refine s_val (.string (mkS tl)) (by kernel_rfl) (fun _ => by kernel_rfl) ?_
  refine s_val (.string (mkS ah)) (by kernel_rfl) (fun _ => by kernel_rfl) ?_
  refine s_val (.string (mkS tl)) (by kernel_rfl) (fun _ => by kernel_rfl) ?_
  refine s_nil ?_
  refine fin_seq ?_
  refine ok_seq ?_
  refine ok_region ?_
  refine s_val (.string (mkS ah)) (by kernel_rfl) (fun _ => by kernel_rfl) ?_
  refine s_callo (k := 41) (args := #[.string (mkS ah), .int .u8 46]) (fun v' L' => ∃ ob', L' = ob' ++ ([⟨b1, #[.int .i64 0, .int .i64 0, .int .i64 0, .int .i64 0, .int .i64 0, .string ⟨#[]⟩, .string ⟨#[]⟩], 26⟩]) ∧ SlT v' (pcs ah) ob') (by kernel_rfl) (fun _ => by kernel_rfl) (fun w hO => (rsplit_own ah w (by omega)).mono fun e w' ⟨v', ob', k1, k2, k3⟩ => ⟨v', _, k1, ⟨ob', rfl, k2⟩, Own.joinN hO k3⟩) (fun v1 L1 hv1 => ?_)
  obtain ⟨o1, rfl, hsl⟩ := hv1
  obtain ⟨A1, c1, rfl⟩ := hsl.form
  obtain ⟨g1, cur1, rfl, rfl, hc1, hm1, hz1, ht1⟩ := Sl.block hsl (pcs_pos6 ah)
  refine s_val (.slice (some ⟨g1, 0, none⟩) ((pcs ah).length) c1) (by kernel_rfl) (fun _ => by kernel_rfl) ?_
  refine s_nil ?_
  refine fin_seq ?_
  refine ok_seq ?_
  refine ok_seq ?_
  refine ok_region ?_
  refine s_val (.int .i64 op) (by kernel_rfl) (fun _ => by kernel_rfl) ?_
  by_cases h1 : (op : Int) = 9
  · skip
    refine s_dec (p := (op : Int) = 9) true (by kernel_rfl) (fun _ => by kernel_rfl) (decide_eq_true (h1)) ?_
    refine s_nil ?_
    refine fin_seq ?_
    refine ok_join (fun L f => ∃ (n : Nat) (j : Nat → Value), n = gl.length ∧ L = [⟨g1, cur1, 9⟩, ⟨b1, #[.int .i64 0, .int .i64 0, .int .i64 0, .int .i64 0, .int .i64 0, .string ⟨#[]⟩, .string ⟨#[]⟩], 26⟩] ∧ f = upds j [(0, .string (mkS s)), (2, .pointer (some ⟨b1, 0, none⟩)), (4, .int .i64 op), (7, .string (mkS tl)), (8, .slice (some ⟨g1, 0, none⟩) n c1)]) ?_ ?_
    · skip
      refine ok_true (by kernel_rfl) ?_
      refine ok_region ?_
      refine s_val (.slice (some ⟨g1, 0, none⟩) ((pcs ah).length) c1) (by kernel_rfl) (fun _ => by kernel_rfl) ?_
      refine s_val (.slice (some ⟨g1, 0, none⟩) ((pcs ah).length) c1) (by kernel_rfl) (fun _ => by kernel_rfl) ?_
      refine s_val (.int .i64 ((pcs ah).length : Int)) (by kernel_rfl) (fun _ => by kernel_rfl) ?_
      refine s_sum (k := .i64) ((((pcs ah).length : Int) : Int) - 1) (by kernel_rfl) (fun _ => by kernel_rfl) (IntWalk.i64_in _ (by omega)) ?_
      refine s_val (.slice (some ⟨g1, 0, none⟩) ((((pcs ah).length : Int) - 1).toNat) c1) (by kernel_rfl) (run_slhi (b := g1) (off := 0) (n := (pcs ah).length) (c := c1) (k := .i64) (j := ((pcs ah).length : Int) - 1) (e := 9) (sz := 1) rfl (by kernel_rfl) (by kernel_rfl) (by kernel_rfl) (by kernel_rfl) (by omega) (by omega)) ?_
      refine s_val (.slice (some ⟨g1, 0, none⟩) ((((pcs ah).length : Int) - 1).toNat) c1) (by kernel_rfl) (fun _ => by kernel_rfl) ?_
      refine s_nil ?_
      exact fin_join ⟨(((pcs ah).length : Int) - 1).toNat, _, by rw [← hgl]; unfold guessL; rw [hah, if_pos h1, List.length_dropLast]; omega, rfl, upds_self _ ⟨by kernel_rfl, by kernel_rfl, by kernel_rfl, by kernel_rfl, by kernel_rfl, trivial⟩⟩
    · rintro L f ⟨n, j, hng, rfl, rfl⟩
      have hglt : (pcs ah).take n = gl := by rw [hng, ← hgl]; exact (guess_take hah).1.symm
      have hgn : gl.length ≤ (pcs ah).length := by rw [← hgl]; exact (guess_take hah).2
      have hgs : ∀ x ∈ gl, x.length ≤ 1000000 := fun x hx => by rw [← hglt] at hx; exact Nat.le_trans (pcs_mem_len ah x (List.mem_of_mem_take hx)) (by omega)
      refine fin_seq ?_
      refine ok_seq ?_
      refine ok_region ?_
      refine s_val (.slice (some ⟨g1, 0, none⟩) n c1) (by kernel_rfl) (fun _ => by kernel_rfl) ?_
      refine s_call (k := 42) (args := #[.slice (some ⟨g1, 0, none⟩) n c1]) (.tuple #[verV (numsVal gl), .bool (numsOk gl)]) (by kernel_rfl) (fun _ => by kernel_rfl) (fun w hO => rcnumbers_any (some ⟨g1, 0, none⟩) n c1 gl w (hglt ▸ (SlT.reads hsl rfl hO (fun x hx => by rw [List.mem_singleton.1 hx]; simp)).front n) hng (tg_short hgs) (by omega)) ?_
      refine s_val (.tuple #[verV (numsVal gl), .bool (numsOk gl)]) (by kernel_rfl) (fun _ => by kernel_rfl) ?_
      refine s_val (verV (numsVal gl)) (by kernel_rfl) (fun _ => by kernel_rfl) ?_
      refine s_val (.bool (numsOk gl)) (by kernel_rfl) (fun _ => by kernel_rfl) ?_
      refine s_alloc_at (.agg #[.int .i64 0, .int .i64 0, .int .i64 0, .string ⟨#[]⟩, .string ⟨#[]⟩]) (by kernel_rfl) rfl (by kernel_rfl) (fun b2 => ?_)
      refine s_store_at 0 ⟨b2, #[.int .i64 0, .int .i64 0, .int .i64 0, .string ⟨#[]⟩, .string ⟨#[]⟩], 24⟩ (off := 0) (verV (numsVal gl)) (by kernel_rfl) rfl rfl (by kernel_rfl) (by kernel_rfl) (by kernel_rfl) (by kernel_rfl) (by kernel_rfl) ?_
      refine s_val (.bool (numsOk gl)) (by kernel_rfl) (fun _ => by kernel_rfl) ?_
      refine s_nil ?_
      refine fin_seq ?_
      refine ok_seq ?_
      refine ok_seq ?_
      refine ok_region ?_
      refine s_val (.bool (numsOk gl)) (by kernel_rfl) (fun _ => by kernel_rfl) ?_
      cases h2 : numsOk gl with
      | true =>
        refine s_val (.bool false) (by kernel_rfl) (fun _ => by kernel_rfl) ?_
        refine s_nil ?_
        refine fin_seq ?_
        refine ok_false (by kernel_rfl) ?_
        refine ok_skip ?_
        refine fin_seq ?_
        refine ok_seq ?_
        refine ok_region ?_
        refine s_val (.string (mkS tl)) (by kernel_rfl) (fun _ => by kernel_rfl) ?_
        refine s_val (.pointer (some ⟨b2, 3, none⟩)) (by kernel_rfl) (fun _ => by kernel_rfl) ?_
        refine s_store_at 0 ⟨b2, (verV (numsVal gl)).cells, 24⟩ (off := 3) (.string (mkS tl)) (by kernel_rfl) rfl rfl (by kernel_rfl) (by kernel_rfl) (by kernel_rfl) (by kernel_rfl) (by kernel_rfl) ?_
        refine s_nil ?_
        refine fin_seq ?_
        refine ok_seq ?_
        refine ok_region ?_
        refine s_val (.int .i64 op) (by kernel_rfl) (fun _ => by kernel_rfl) ?_
        refine s_val (.slice (some ⟨g1, 0, none⟩) n c1) (by kernel_rfl) (fun _ => by kernel_rfl) ?_
        refine s_val (.int .i64 (n : Int)) (by kernel_rfl) (fun _ => by kernel_rfl) ?_
        refine s_load 0 ⟨b2, #[.int .i64 ((numsVal gl).maj), .int .i64 ((numsVal gl).min), .int .i64 ((numsVal gl).pat), .string (mkS tl), .string (mkS (numsVal gl).build)], 24⟩ (off := 0) (.agg #[.int .i64 ((numsVal gl).maj), .int .i64 ((numsVal gl).min), .int .i64 ((numsVal gl).pat), .string (mkS tl), .string (mkS (numsVal gl).build)]) (by kernel_rfl) rfl (by kernel_rfl) (by kernel_rfl) (by kernel_rfl) ?_
        refine s_val (.agg #[.int .i64 op, .int .i64 (n : Int), .int .i64 ((numsVal gl).maj), .int .i64 ((numsVal gl).min), .int .i64 ((numsVal gl).pat), .string (mkS tl), .string (mkS (numsVal gl).build)]) (by kernel_rfl) (fun _ => by kernel_rfl) ?_
        refine s_alloc_at (.agg #[.int .i64 0, .int .i64 0, .int .i64 0, .int .i64 0, .int .i64 0, .string ⟨#[]⟩, .string ⟨#[]⟩]) (by kernel_rfl) rfl (by kernel_rfl) (fun b3 => ?_)
        refine s_store_at 0 ⟨b3, #[.int .i64 0, .int .i64 0, .int .i64 0, .int .i64 0, .int .i64 0, .string ⟨#[]⟩, .string ⟨#[]⟩], 26⟩ (off := 0) (.agg #[.int .i64 op, .int .i64 (n : Int), .int .i64 ((numsVal gl).maj), .int .i64 ((numsVal gl).min), .int .i64 ((numsVal gl).pat), .string (mkS tl), .string (mkS (numsVal gl).build)]) (by kernel_rfl) rfl rfl (by kernel_rfl) (by kernel_rfl) (by kernel_rfl) (by kernel_rfl) (by kernel_rfl) ?_
        refine s_nil ?_
        refine fin_seq ?_
        refine ok_seq ?_
        refine ok_seq ?_
        refine ok_region ?_
        refine s_load 0 ⟨b3, #[.int .i64 op, .int .i64 (n : Int), .int .i64 ((numsVal gl).maj), .int .i64 ((numsVal gl).min), .int .i64 ((numsVal gl).pat), .string (mkS tl), .string (mkS (numsVal gl).build)], 26⟩ (off := 0) (.agg #[.int .i64 op, .int .i64 (n : Int), .int .i64 ((numsVal gl).maj), .int .i64 ((numsVal gl).min), .int .i64 ((numsVal gl).pat), .string (mkS tl), .string (mkS (numsVal gl).build)]) (by kernel_rfl) rfl (by kernel_rfl) (by kernel_rfl) (by kernel_rfl) ?_
        have hcs : ((⟨op, (n : Int), { numsVal gl with pre := tl }⟩ : Co)).short := ⟨by show tl.length ≤ _; omega, by show (numsVal gl).build.length ≤ _; unfold numsVal; split <;> exact Nat.zero_le _⟩
        obtain ⟨pt, hpt⟩ : ∃ x, Co.print (⟨op, (n : Int), { numsVal gl with pre := tl }⟩ : Co) = x := ⟨_, rfl⟩
        refine s_call (k := 17) (args := #[.agg #[.int .i64 op, .int .i64 (n : Int), .int .i64 ((numsVal gl).maj), .int .i64 ((numsVal gl).min), .int .i64 ((numsVal gl).pat), .string (mkS tl), .string (mkS (numsVal gl).build)]]) (.string (mkS pt)) (by kernel_rfl) (fun _ => by kernel_rfl) (fun w _ => ret_v (by rw [← hpt]) (rcPrint_any (⟨op, (n : Int), { numsVal gl with pre := tl }⟩ : Co) w hcs)) ?_
        refine s_val (.string (mkS pt)) (by kernel_rfl) (fun _ => by kernel_rfl) ?_
        refine s_nil ?_
        refine fin_seq ?_
        refine ok_seq ?_
        refine ok_region ?_
        refine s_val (.string (mkS pt)) (by kernel_rfl) (fun _ => by kernel_rfl) ?_
        by_cases h3 : (pt : List UInt8) = []
        · skip
          refine s_val (.bool true) (by kernel_rfl) (run_streql (a := pt) (b := ([])) rfl (by kernel_rfl) (by kernel_rfl) (decide_eq_true (h3))) ?_
          refine s_val (.bool true) (by kernel_rfl) (fun _ => by kernel_rfl) ?_
          refine s_skip (by kernel_rfl) ?_
          refine s_skip (by kernel_rfl) ?_
          refine s_skip (by kernel_rfl) ?_
          refine s_skip (by kernel_rfl) ?_
          refine s_skip (by kernel_rfl) ?_
          refine s_skip (by kernel_rfl) ?_
          refine s_skip (by kernel_rfl) ?_
          refine s_skip (by kernel_rfl) ?_
          refine s_skip (by kernel_rfl) ?_
          refine s_val (.bool true) (by kernel_rfl) (fun _ => by kernel_rfl) ?_
          refine s_nil ?_
          refine fin_seq ?_
          refine ok_true (by kernel_rfl) ?_
          refine ok_seq ?_
          refine ok_region ?_
          refine s_val (.agg #[.int .i64 0, .int .i64 0, .int .i64 0, .int .i64 0, .int .i64 0, .string ⟨#[]⟩, .string ⟨#[]⟩]) (by kernel_rfl) (fun _ => by kernel_rfl) ?_
          refine s_store_at 3 ⟨b1, #[.int .i64 0, .int .i64 0, .int .i64 0, .int .i64 0, .int .i64 0, .string ⟨#[]⟩, .string ⟨#[]⟩], 26⟩ (off := 0) (.agg #[.int .i64 0, .int .i64 0, .int .i64 0, .int .i64 0, .int .i64 0, .string ⟨#[]⟩, .string ⟨#[]⟩]) (by kernel_rfl) rfl rfl (by kernel_rfl) (by kernel_rfl) (by kernel_rfl) (by kernel_rfl) (by kernel_rfl) ?_
          refine s_val (.int .i64 6) (by kernel_rfl) (fun _ => by kernel_rfl) ?_
          refine s_nil ?_
          refine fin_seq ?_
          refine ok_ret ?_
          refine fin_seq_ret ?_
          refine fin_cell2 3 ⟨b1, #[.int .i64 0, .int .i64 0, .int .i64 0, .int .i64 0, .int .i64 0, .string ⟨#[]⟩, .string ⟨#[]⟩], 26⟩ (off := 0) (.agg #[.int .i64 0, .int .i64 0, .int .i64 0, .int .i64 0, .int .i64 0, .string ⟨#[]⟩, .string ⟨#[]⟩]) (.int .i64 6) Tryz.results13 (by kernel_rfl) (by kernel_rfl) (by kernel_rfl) (by kernel_rfl) ?_
          exact fun w hO => ⟨by have q := pc_none (s := s) (by rw [parse_cases hop hr hgl htl, h2, ← hng]; exact Option.filter_eq_none_iff.2 fun q0 q1 => by obtain rfl := Option.some.inj q1; unfold fits; rw [hpt, decide_eq_true (show pt = [] from h3)]; simp); rw [q.1, q.2]; rfl, hO.below⟩
        · skip
          refine s_val (.bool false) (by kernel_rfl) (run_streql (a := pt) (b := ([])) rfl (by kernel_rfl) (by kernel_rfl) (decide_eq_false (h3))) ?_
          refine s_val (.bool false) (by kernel_rfl) (fun _ => by kernel_rfl) ?_
          refine s_val (.string (mkS pt)) (by kernel_rfl) (fun _ => by kernel_rfl) ?_
          refine s_val (.string (mkS s)) (by kernel_rfl) (fun _ => by kernel_rfl) ?_
          by_cases h4 : (pt : List UInt8) = s
          · skip
            refine s_val (.bool false) (by kernel_rfl) (run_strneq (a := pt) (b := s) rfl (by kernel_rfl) (by kernel_rfl) (decide_eq_true (h4))) ?_
            refine s_val (.bool false) (by kernel_rfl) (fun _ => by kernel_rfl) ?_
            refine s_skip (by kernel_rfl) ?_
            refine s_skip (by kernel_rfl) ?_
            refine s_skip (by kernel_rfl) ?_
            refine s_skip (by kernel_rfl) ?_
            refine s_val (.bool false) (by kernel_rfl) (fun _ => by kernel_rfl) ?_
            refine s_val (.bool false) (by kernel_rfl) (fun _ => by kernel_rfl) ?_
            refine s_nil ?_
            refine fin_seq ?_
            refine ok_false (by kernel_rfl) ?_
            refine ok_skip ?_
            refine fin_seq ?_
            refine ok_seq ?_
            refine ok_region ?_
            refine s_load 0 ⟨b3, #[.int .i64 op, .int .i64 (n : Int), .int .i64 ((numsVal gl).maj), .int .i64 ((numsVal gl).min), .int .i64 ((numsVal gl).pat), .string (mkS tl), .string (mkS (numsVal gl).build)], 26⟩ (off := 0) (.agg #[.int .i64 op, .int .i64 (n : Int), .int .i64 ((numsVal gl).maj), .int .i64 ((numsVal gl).min), .int .i64 ((numsVal gl).pat), .string (mkS tl), .string (mkS (numsVal gl).build)]) (by kernel_rfl) rfl (by kernel_rfl) (by kernel_rfl) (by kernel_rfl) ?_
            refine s_store_at 3 ⟨b1, #[.int .i64 0, .int .i64 0, .int .i64 0, .int .i64 0, .int .i64 0, .string ⟨#[]⟩, .string ⟨#[]⟩], 26⟩ (off := 0) (.agg #[.int .i64 op, .int .i64 (n : Int), .int .i64 ((numsVal gl).maj), .int .i64 ((numsVal gl).min), .int .i64 ((numsVal gl).pat), .string (mkS tl), .string (mkS (numsVal gl).build)]) (by kernel_rfl) rfl rfl (by kernel_rfl) (by kernel_rfl) (by kernel_rfl) (by kernel_rfl) (by kernel_rfl) ?_
            refine s_val (.int .i64 0) (by kernel_rfl) (fun _ => by kernel_rfl) ?_
            refine s_nil ?_
            refine fin_seq ?_
            refine ok_ret ?_
            refine fin_cell2 3 ⟨b1, #[.int .i64 op, .int .i64 (n : Int), .int .i64 ((numsVal gl).maj), .int .i64 ((numsVal gl).min), .int .i64 ((numsVal gl).pat), .string (mkS tl), .string (mkS (numsVal gl).build)], 26⟩ (off := 0) (.agg #[.int .i64 op, .int .i64 (n : Int), .int .i64 ((numsVal gl).maj), .int .i64 ((numsVal gl).min), .int .i64 ((numsVal gl).pat), .string (mkS tl), .string (mkS (numsVal gl).build)]) (.int .i64 0) Tryz.results13 (by kernel_rfl) (by kernel_rfl) (by kernel_rfl) (by kernel_rfl) ?_
            exact fun w hO => ⟨by have q := pc_some (s := s) (c := (⟨op, (n : Int), { numsVal gl with pre := tl }⟩ : Co)) (by rw [parse_cases hop hr hgl htl, h2, ← hng]; exact Option.filter_eq_some_iff.2 ⟨rfl, by unfold fits; rw [hpt, decide_eq_false (show ¬ pt = [] from h3), decide_eq_true (show pt = s from h4)]; simp⟩); rw [q.1, q.2]; rfl, hO.below⟩
          · skip
            refine s_val (.bool true) (by kernel_rfl) (run_strneq (a := pt) (b := s) rfl (by kernel_rfl) (by kernel_rfl) (decide_eq_false (h4))) ?_
            refine s_val (.bool true) (by kernel_rfl) (fun _ => by kernel_rfl) ?_
            refine s_val (.string (mkS pt)) (by kernel_rfl) (fun _ => by kernel_rfl) ?_
            refine s_val (.string (mkS s)) (by kernel_rfl) (fun _ => by kernel_rfl) ?_
            refine s_val (.string (mkS ([94] ++ s))) (by kernel_rfl) (run_stradd (a := [94]) (b := s) rfl (by kernel_rfl) (by kernel_rfl) (by simp only [List.length_append, List.length_cons, List.length_nil]; omega)) ?_
            by_cases h5 : (pt : List UInt8) = ([94] ++ s)
            · skip
              refine s_val (.bool false) (by kernel_rfl) (run_strneq (a := pt) (b := ([94] ++ s)) rfl (by kernel_rfl) (by kernel_rfl) (decide_eq_true (h5))) ?_
              refine s_val (.bool false) (by kernel_rfl) (fun _ => by kernel_rfl) ?_
              refine s_val (.bool false) (by kernel_rfl) (fun _ => by kernel_rfl) ?_
              refine s_nil ?_
              refine fin_seq ?_
              refine ok_false (by kernel_rfl) ?_
              refine ok_skip ?_
              refine fin_seq ?_
              refine ok_seq ?_
              refine ok_region ?_
              refine s_load 0 ⟨b3, #[.int .i64 op, .int .i64 (n : Int), .int .i64 ((numsVal gl).maj), .int .i64 ((numsVal gl).min), .int .i64 ((numsVal gl).pat), .string (mkS tl), .string (mkS (numsVal gl).build)], 26⟩ (off := 0) (.agg #[.int .i64 op, .int .i64 (n : Int), .int .i64 ((numsVal gl).maj), .int .i64 ((numsVal gl).min), .int .i64 ((numsVal gl).pat), .string (mkS tl), .string (mkS (numsVal gl).build)]) (by kernel_rfl) rfl (by kernel_rfl) (by kernel_rfl) (by kernel_rfl) ?_
              refine s_store_at 3 ⟨b1, #[.int .i64 0, .int .i64 0, .int .i64 0, .int .i64 0, .int .i64 0, .string ⟨#[]⟩, .string ⟨#[]⟩], 26⟩ (off := 0) (.agg #[.int .i64 op, .int .i64 (n : Int), .int .i64 ((numsVal gl).maj), .int .i64 ((numsVal gl).min), .int .i64 ((numsVal gl).pat), .string (mkS tl), .string (mkS (numsVal gl).build)]) (by kernel_rfl) rfl rfl (by kernel_rfl) (by kernel_rfl) (by kernel_rfl) (by kernel_rfl) (by kernel_rfl) ?_
              refine s_val (.int .i64 0) (by kernel_rfl) (fun _ => by kernel_rfl) ?_
              refine s_nil ?_
              refine fin_seq ?_
              refine ok_ret ?_
              refine fin_cell2 3 ⟨b1, #[.int .i64 op, .int .i64 (n : Int), .int .i64 ((numsVal gl).maj), .int .i64 ((numsVal gl).min), .int .i64 ((numsVal gl).pat), .string (mkS tl), .string (mkS (numsVal gl).build)], 26⟩ (off := 0) (.agg #[.int .i64 op, .int .i64 (n : Int), .int .i64 ((numsVal gl).maj), .int .i64 ((numsVal gl).min), .int .i64 ((numsVal gl).pat), .string (mkS tl), .string (mkS (numsVal gl).build)]) (.int .i64 0) Tryz.results13 (by kernel_rfl) (by kernel_rfl) (by kernel_rfl) (by kernel_rfl) ?_
              exact fun w hO => ⟨by have q := pc_some (s := s) (c := (⟨op, (n : Int), { numsVal gl with pre := tl }⟩ : Co)) (by rw [parse_cases hop hr hgl htl, h2, ← hng]; exact Option.filter_eq_some_iff.2 ⟨rfl, by unfold fits; rw [hpt, decide_eq_false (show ¬ pt = [] from h3), decide_eq_false (show ¬ pt = s from h4), decide_eq_true (show pt = 94 :: s from h5)]; simp⟩); rw [q.1, q.2]; rfl, hO.below⟩
            · skip
              refine s_val (.bool true) (by kernel_rfl) (run_strneq (a := pt) (b := ([94] ++ s)) rfl (by kernel_rfl) (by kernel_rfl) (decide_eq_false (h5))) ?_
              refine s_val (.bool true) (by kernel_rfl) (fun _ => by kernel_rfl) ?_
              refine s_val (.bool true) (by kernel_rfl) (fun _ => by kernel_rfl) ?_
              refine s_nil ?_
              refine fin_seq ?_
              refine ok_true (by kernel_rfl) ?_
              refine ok_seq ?_
              refine ok_region ?_
              refine s_val (.agg #[.int .i64 0, .int .i64 0, .int .i64 0, .int .i64 0, .int .i64 0, .string ⟨#[]⟩, .string ⟨#[]⟩]) (by kernel_rfl) (fun _ => by kernel_rfl) ?_
              refine s_store_at 3 ⟨b1, #[.int .i64 0, .int .i64 0, .int .i64 0, .int .i64 0, .int .i64 0, .string ⟨#[]⟩, .string ⟨#[]⟩], 26⟩ (off := 0) (.agg #[.int .i64 0, .int .i64 0, .int .i64 0, .int .i64 0, .int .i64 0, .string ⟨#[]⟩, .string ⟨#[]⟩]) (by kernel_rfl) rfl rfl (by kernel_rfl) (by kernel_rfl) (by kernel_rfl) (by kernel_rfl) (by kernel_rfl) ?_
              refine s_val (.int .i64 6) (by kernel_rfl) (fun _ => by kernel_rfl) ?_
              refine s_nil ?_
              refine fin_seq ?_
              refine ok_ret ?_
              refine fin_seq_ret ?_
              refine fin_cell2 3 ⟨b1, #[.int .i64 0, .int .i64 0, .int .i64 0, .int .i64 0, .int .i64 0, .string ⟨#[]⟩, .string ⟨#[]⟩], 26⟩ (off := 0) (.agg #[.int .i64 0, .int .i64 0, .int .i64 0, .int .i64 0, .int .i64 0, .string ⟨#[]⟩, .string ⟨#[]⟩]) (.int .i64 6) Tryz.results13 (by kernel_rfl) (by kernel_rfl) (by kernel_rfl) (by kernel_rfl) ?_
              exact fun w hO => ⟨by have q := pc_none (s := s) (by rw [parse_cases hop hr hgl htl, h2, ← hng]; exact Option.filter_eq_none_iff.2 fun q0 q1 => by obtain rfl := Option.some.inj q1; unfold fits; rw [hpt, decide_eq_false (show ¬ pt = [] from h3), decide_eq_false (show ¬ pt = s from h4), decide_eq_false (show ¬ pt = 94 :: s from h5)]; simp); rw [q.1, q.2]; rfl, hO.below⟩
      | false =>
        refine s_val (.bool true) (by kernel_rfl) (fun _ => by kernel_rfl) ?_
        refine s_nil ?_
        refine fin_seq ?_
        refine ok_true (by kernel_rfl) ?_
        refine ok_seq ?_
        refine ok_region ?_
        refine s_val (.agg #[.int .i64 0, .int .i64 0, .int .i64 0, .int .i64 0, .int .i64 0, .string ⟨#[]⟩, .string ⟨#[]⟩]) (by kernel_rfl) (fun _ => by kernel_rfl) ?_
        refine s_store_at 2 ⟨b1, #[.int .i64 0, .int .i64 0, .int .i64 0, .int .i64 0, .int .i64 0, .string ⟨#[]⟩, .string ⟨#[]⟩], 26⟩ (off := 0) (.agg #[.int .i64 0, .int .i64 0, .int .i64 0, .int .i64 0, .int .i64 0, .string ⟨#[]⟩, .string ⟨#[]⟩]) (by kernel_rfl) rfl rfl (by kernel_rfl) (by kernel_rfl) (by kernel_rfl) (by kernel_rfl) (by kernel_rfl) ?_
        refine s_val (.int .i64 6) (by kernel_rfl) (fun _ => by kernel_rfl) ?_
        refine s_nil ?_
        refine fin_seq ?_
        refine ok_ret ?_
        refine fin_seq_ret ?_
        refine fin_cell2 2 ⟨b1, #[.int .i64 0, .int .i64 0, .int .i64 0, .int .i64 0, .int .i64 0, .string ⟨#[]⟩, .string ⟨#[]⟩], 26⟩ (off := 0) (.agg #[.int .i64 0, .int .i64 0, .int .i64 0, .int .i64 0, .int .i64 0, .string ⟨#[]⟩, .string ⟨#[]⟩]) (.int .i64 6) Tryz.results13 (by kernel_rfl) (by kernel_rfl) (by kernel_rfl) (by kernel_rfl) ?_
        exact fun w hO => ⟨by have q := pc_none (s := s) (by rw [parse_cases hop hr hgl htl, h2]; rfl); rw [q.1, q.2]; rfl, hO.below⟩
  · skip
    refine s_dec (p := (op : Int) = 9) false (by kernel_rfl) (fun _ => by kernel_rfl) (decide_eq_false (h1)) ?_
    refine s_nil ?_
    refine fin_seq ?_
    refine ok_join (fun L f => ∃ (n : Nat) (j : Nat → Value), n = gl.length ∧ L = [⟨g1, cur1, 9⟩, ⟨b1, #[.int .i64 0, .int .i64 0, .int .i64 0, .int .i64 0, .int .i64 0, .string ⟨#[]⟩, .string ⟨#[]⟩], 26⟩] ∧ f = upds j [(0, .string (mkS s)), (2, .pointer (some ⟨b1, 0, none⟩)), (4, .int .i64 op), (7, .string (mkS tl)), (8, .slice (some ⟨g1, 0, none⟩) n c1)]) ?_ ?_
    · skip
      refine ok_false (by kernel_rfl) ?_
      refine ok_skip ?_
      exact fin_join ⟨(pcs ah).length, _, by rw [← hgl]; unfold guessL; rw [hah, if_neg h1], rfl, upds_self _ ⟨by kernel_rfl, by kernel_rfl, by kernel_rfl, by kernel_rfl, by kernel_rfl, trivial⟩⟩
    · rintro L f ⟨n, j, hng, rfl, rfl⟩
      have hglt : (pcs ah).take n = gl := by rw [hng, ← hgl]; exact (guess_take hah).1.symm
      have hgn : gl.length ≤ (pcs ah).length := by rw [← hgl]; exact (guess_take hah).2
      have hgs : ∀ x ∈ gl, x.length ≤ 1000000 := fun x hx => by rw [← hglt] at hx; exact Nat.le_trans (pcs_mem_len ah x (List.mem_of_mem_take hx)) (by omega)
      refine fin_seq ?_
      refine ok_seq ?_
      refine ok_region ?_
      refine s_val (.slice (some ⟨g1, 0, none⟩) n c1) (by kernel_rfl) (fun _ => by kernel_rfl) ?_
      refine s_call (k := 42) (args := #[.slice (some ⟨g1, 0, none⟩) n c1]) (.tuple #[verV (numsVal gl), .bool (numsOk gl)]) (by kernel_rfl) (fun _ => by kernel_rfl) (fun w hO => rcnumbers_any (some ⟨g1, 0, none⟩) n c1 gl w (hglt ▸ (SlT.reads hsl rfl hO (fun x hx => by rw [List.mem_singleton.1 hx]; simp)).front n) hng (tg_short hgs) (by omega)) ?_
      refine s_val (.tuple #[verV (numsVal gl), .bool (numsOk gl)]) (by kernel_rfl) (fun _ => by kernel_rfl) ?_
      refine s_val (verV (numsVal gl)) (by kernel_rfl) (fun _ => by kernel_rfl) ?_
      refine s_val (.bool (numsOk gl)) (by kernel_rfl) (fun _ => by kernel_rfl) ?_
      refine s_alloc_at (.agg #[.int .i64 0, .int .i64 0, .int .i64 0, .string ⟨#[]⟩, .string ⟨#[]⟩]) (by kernel_rfl) rfl (by kernel_rfl) (fun b2 => ?_)
      refine s_store_at 0 ⟨b2, #[.int .i64 0, .int .i64 0, .int .i64 0, .string ⟨#[]⟩, .string ⟨#[]⟩], 24⟩ (off := 0) (verV (numsVal gl)) (by kernel_rfl) rfl rfl (by kernel_rfl) (by kernel_rfl) (by kernel_rfl) (by kernel_rfl) (by kernel_rfl) ?_
      refine s_val (.bool (numsOk gl)) (by kernel_rfl) (fun _ => by kernel_rfl) ?_
      refine s_nil ?_
      refine fin_seq ?_
      refine ok_seq ?_
      refine ok_seq ?_
      refine ok_region ?_
      refine s_val (.bool (numsOk gl)) (by kernel_rfl) (fun _ => by kernel_rfl) ?_
      cases h6 : numsOk gl with
      | true =>
        refine s_val (.bool false) (by kernel_rfl) (fun _ => by kernel_rfl) ?_
        refine s_nil ?_
        refine fin_seq ?_
        refine ok_false (by kernel_rfl) ?_
        refine ok_skip ?_
        refine fin_seq ?_
        refine ok_seq ?_
        refine ok_region ?_
        refine s_val (.string (mkS tl)) (by kernel_rfl) (fun _ => by kernel_rfl) ?_
        refine s_val (.pointer (some ⟨b2, 3, none⟩)) (by kernel_rfl) (fun _ => by kernel_rfl) ?_
        refine s_store_at 0 ⟨b2, (verV (numsVal gl)).cells, 24⟩ (off := 3) (.string (mkS tl)) (by kernel_rfl) rfl rfl (by kernel_rfl) (by kernel_rfl) (by kernel_rfl) (by kernel_rfl) (by kernel_rfl) ?_
        refine s_nil ?_
        refine fin_seq ?_
        refine ok_seq ?_
        refine ok_region ?_
        refine s_val (.int .i64 op) (by kernel_rfl) (fun _ => by kernel_rfl) ?_
        refine s_val (.slice (some ⟨g1, 0, none⟩) n c1) (by kernel_rfl) (fun _ => by kernel_rfl) ?_
        refine s_val (.int .i64 (n : Int)) (by kernel_rfl) (fun _ => by kernel_rfl) ?_
        refine s_load 0 ⟨b2, #[.int .i64 ((numsVal gl).maj), .int .i64 ((numsVal gl).min), .int .i64 ((numsVal gl).pat), .string (mkS tl), .string (mkS (numsVal gl).build)], 24⟩ (off := 0) (.agg #[.int .i64 ((numsVal gl).maj), .int .i64 ((numsVal gl).min), .int .i64 ((numsVal gl).pat), .string (mkS tl), .string (mkS (numsVal gl).build)]) (by kernel_rfl) rfl (by kernel_rfl) (by kernel_rfl) (by kernel_rfl) ?_
        refine s_val (.agg #[.int .i64 op, .int .i64 (n : Int), .int .i64 ((numsVal gl).maj), .int .i64 ((numsVal gl).min), .int .i64 ((numsVal gl).pat), .string (mkS tl), .string (mkS (numsVal gl).build)]) (by kernel_rfl) (fun _ => by kernel_rfl) ?_
        refine s_alloc_at (.agg #[.int .i64 0, .int .i64 0, .int .i64 0, .int .i64 0, .int .i64 0, .string ⟨#[]⟩, .string ⟨#[]⟩]) (by kernel_rfl) rfl (by kernel_rfl) (fun b3 => ?_)
        refine s_store_at 0 ⟨b3, #[.int .i64 0, .int .i64 0, .int .i64 0, .int .i64 0, .int .i64 0, .string ⟨#[]⟩, .string ⟨#[]⟩], 26⟩ (off := 0) (.agg #[.int .i64 op, .int .i64 (n : Int), .int .i64 ((numsVal gl).maj), .int .i64 ((numsVal gl).min), .int .i64 ((numsVal gl).pat), .string (mkS tl), .string (mkS (numsVal gl).build)]) (by kernel_rfl) rfl rfl (by kernel_rfl) (by kernel_rfl) (by kernel_rfl) (by kernel_rfl) (by kernel_rfl) ?_
        refine s_nil ?_
        refine fin_seq ?_
        refine ok_seq ?_
        refine ok_seq ?_
        refine ok_region ?_
        refine s_load 0 ⟨b3, #[.int .i64 op, .int .i64 (n : Int), .int .i64 ((numsVal gl).maj), .int .i64 ((numsVal gl).min), .int .i64 ((numsVal gl).pat), .string (mkS tl), .string (mkS (numsVal gl).build)], 26⟩ (off := 0) (.agg #[.int .i64 op, .int .i64 (n : Int), .int .i64 ((numsVal gl).maj), .int .i64 ((numsVal gl).min), .int .i64 ((numsVal gl).pat), .string (mkS tl), .string (mkS (numsVal gl).build)]) (by kernel_rfl) rfl (by kernel_rfl) (by kernel_rfl) (by kernel_rfl) ?_
        have hcs : ((⟨op, (n : Int), { numsVal gl with pre := tl }⟩ : Co)).short := ⟨by show tl.length ≤ _; omega, by show (numsVal gl).build.length ≤ _; unfold numsVal; split <;> exact Nat.zero_le _⟩
        obtain ⟨pt, hpt⟩ : ∃ x, Co.print (⟨op, (n : Int), { numsVal gl with pre := tl }⟩ : Co) = x := ⟨_, rfl⟩
        refine s_call (k := 17) (args := #[.agg #[.int .i64 op, .int .i64 (n : Int), .int .i64 ((numsVal gl).maj), .int .i64 ((numsVal gl).min), .int .i64 ((numsVal gl).pat), .string (mkS tl), .string (mkS (numsVal gl).build)]]) (.string (mkS pt)) (by kernel_rfl) (fun _ => by kernel_rfl) (fun w _ => ret_v (by rw [← hpt]) (rcPrint_any (⟨op, (n : Int), { numsVal gl with pre := tl }⟩ : Co) w hcs)) ?_
        refine s_val (.string (mkS pt)) (by kernel_rfl) (fun _ => by kernel_rfl) ?_
        refine s_nil ?_
        refine fin_seq ?_
        refine ok_seq ?_
        refine ok_region ?_
        refine s_val (.string (mkS pt)) (by kernel_rfl) (fun _ => by kernel_rfl) ?_
        by_cases h7 : (pt : List UInt8) = []
        · skip
          refine s_val (.bool true) (by kernel_rfl) (run_streql (a := pt) (b := ([])) rfl (by kernel_rfl) (by kernel_rfl) (decide_eq_true (h7))) ?_
          refine s_val (.bool true) (by kernel_rfl) (fun _ => by kernel_rfl) ?_
          refine s_skip (by kernel_rfl) ?_
          refine s_skip (by kernel_rfl) ?_
          refine s_skip (by kernel_rfl) ?_
          refine s_skip (by kernel_rfl) ?_
          refine s_skip (by kernel_rfl) ?_
          refine s_skip (by kernel_rfl) ?_
          refine s_skip (by kernel_rfl) ?_
          refine s_skip (by kernel_rfl) ?_
          refine s_skip (by kernel_rfl) ?_
          refine s_val (.bool true) (by kernel_rfl) (fun _ => by kernel_rfl) ?_
          refine s_nil ?_
          refine fin_seq ?_
          refine ok_true (by kernel_rfl) ?_
          refine ok_seq ?_
          refine ok_region ?_
          refine s_val (.agg #[.int .i64 0, .int .i64 0, .int .i64 0, .int .i64 0, .int .i64 0, .string ⟨#[]⟩, .string ⟨#[]⟩]) (by kernel_rfl) (fun _ => by kernel_rfl) ?_
          refine s_store_at 3 ⟨b1, #[.int .i64 0, .int .i64 0, .int .i64 0, .int .i64 0, .int .i64 0, .string ⟨#[]⟩, .string ⟨#[]⟩], 26⟩ (off := 0) (.agg #[.int .i64 0, .int .i64 0, .int .i64 0, .int .i64 0, .int .i64 0, .string ⟨#[]⟩, .string ⟨#[]⟩]) (by kernel_rfl) rfl rfl (by kernel_rfl) (by kernel_rfl) (by kernel_rfl) (by kernel_rfl) (by kernel_rfl) ?_
          refine s_val (.int .i64 6) (by kernel_rfl) (fun _ => by kernel_rfl) ?_
          refine s_nil ?_
          refine fin_seq ?_
          refine ok_ret ?_
          refine fin_seq_ret ?_
          refine fin_cell2 3 ⟨b1, #[.int .i64 0, .int .i64 0, .int .i64 0, .int .i64 0, .int .i64 0, .string ⟨#[]⟩, .string ⟨#[]⟩], 26⟩ (off := 0) (.agg #[.int .i64 0, .int .i64 0, .int .i64 0, .int .i64 0, .int .i64 0, .string ⟨#[]⟩, .string ⟨#[]⟩]) (.int .i64 6) Tryz.results13 (by kernel_rfl) (by kernel_rfl) (by kernel_rfl) (by kernel_rfl) ?_
          exact fun w hO => ⟨by have q := pc_none (s := s) (by rw [parse_cases hop hr hgl htl, h6, ← hng]; exact Option.filter_eq_none_iff.2 fun q0 q1 => by obtain rfl := Option.some.inj q1; unfold fits; rw [hpt, decide_eq_true (show pt = [] from h7)]; simp); rw [q.1, q.2]; rfl, hO.below⟩
        · skip
          refine s_val (.bool false) (by kernel_rfl) (run_streql (a := pt) (b := ([])) rfl (by kernel_rfl) (by kernel_rfl) (decide_eq_false (h7))) ?_
          refine s_val (.bool false) (by kernel_rfl) (fun _ => by kernel_rfl) ?_
          refine s_val (.string (mkS pt)) (by kernel_rfl) (fun _ => by kernel_rfl) ?_
          refine s_val (.string (mkS s)) (by kernel_rfl) (fun _ => by kernel_rfl) ?_
          by_cases h8 : (pt : List UInt8) = s
          · skip
            refine s_val (.bool false) (by kernel_rfl) (run_strneq (a := pt) (b := s) rfl (by kernel_rfl) (by kernel_rfl) (decide_eq_true (h8))) ?_
            refine s_val (.bool false) (by kernel_rfl) (fun _ => by kernel_rfl) ?_
            refine s_skip (by kernel_rfl) ?_
            refine s_skip (by kernel_rfl) ?_
            refine s_skip (by kernel_rfl) ?_
            refine s_skip (by kernel_rfl) ?_
            refine s_val (.bool false) (by kernel_rfl) (fun _ => by kernel_rfl) ?_
            refine s_val (.bool false) (by kernel_rfl) (fun _ => by kernel_rfl) ?_
            refine s_nil ?_
            refine fin_seq ?_
            refine ok_false (by kernel_rfl) ?_
            refine ok_skip ?_
            refine fin_seq ?_
            refine ok_seq ?_
            refine ok_region ?_
            refine s_load 0 ⟨b3, #[.int .i64 op, .int .i64 (n : Int), .int .i64 ((numsVal gl).maj), .int .i64 ((numsVal gl).min), .int .i64 ((numsVal gl).pat), .string (mkS tl), .string (mkS (numsVal gl).build)], 26⟩ (off := 0) (.agg #[.int .i64 op, .int .i64 (n : Int), .int .i64 ((numsVal gl).maj), .int .i64 ((numsVal gl).min), .int .i64 ((numsVal gl).pat), .string (mkS tl), .string (mkS (numsVal gl).build)]) (by kernel_rfl) rfl (by kernel_rfl) (by kernel_rfl) (by kernel_rfl) ?_
            refine s_store_at 3 ⟨b1, #[.int .i64 0, .int .i64 0, .int .i64 0, .int .i64 0, .int .i64 0, .string ⟨#[]⟩, .string ⟨#[]⟩], 26⟩ (off := 0) (.agg #[.int .i64 op, .int .i64 (n : Int), .int .i64 ((numsVal gl).maj), .int .i64 ((numsVal gl).min), .int .i64 ((numsVal gl).pat), .string (mkS tl), .string (mkS (numsVal gl).build)]) (by kernel_rfl) rfl rfl (by kernel_rfl) (by kernel_rfl) (by kernel_rfl) (by kernel_rfl) (by kernel_rfl) ?_
            refine s_val (.int .i64 0) (by kernel_rfl) (fun _ => by kernel_rfl) ?_
            refine s_nil ?_
            refine fin_seq ?_
            refine ok_ret ?_
            refine fin_cell2 3 ⟨b1, #[.int .i64 op, .int .i64 (n : Int), .int .i64 ((numsVal gl).maj), .int .i64 ((numsVal gl).min), .int .i64 ((numsVal gl).pat), .string (mkS tl), .string (mkS (numsVal gl).build)], 26⟩ (off := 0) (.agg #[.int .i64 op, .int .i64 (n : Int), .int .i64 ((numsVal gl).maj), .int .i64 ((numsVal gl).min), .int .i64 ((numsVal gl).pat), .string (mkS tl), .string (mkS (numsVal gl).build)]) (.int .i64 0) Tryz.results13 (by kernel_rfl) (by kernel_rfl) (by kernel_rfl) (by kernel_rfl) ?_
            exact fun w hO => ⟨by have q := pc_some (s := s) (c := (⟨op, (n : Int), { numsVal gl with pre := tl }⟩ : Co)) (by rw [parse_cases hop hr hgl htl, h6, ← hng]; exact Option.filter_eq_some_iff.2 ⟨rfl, by unfold fits; rw [hpt, decide_eq_false (show ¬ pt = [] from h7), decide_eq_true (show pt = s from h8)]; simp⟩); rw [q.1, q.2]; rfl, hO.below⟩
          · skip
            refine s_val (.bool true) (by kernel_rfl) (run_strneq (a := pt) (b := s) rfl (by kernel_rfl) (by kernel_rfl) (decide_eq_false (h8))) ?_
            refine s_val (.bool true) (by kernel_rfl) (fun _ => by kernel_rfl) ?_
            refine s_val (.string (mkS pt)) (by kernel_rfl) (fun _ => by kernel_rfl) ?_
            refine s_val (.string (mkS s)) (by kernel_rfl) (fun _ => by kernel_rfl) ?_
            refine s_val (.string (mkS ([94] ++ s))) (by kernel_rfl) (run_stradd (a := [94]) (b := s) rfl (by kernel_rfl) (by kernel_rfl) (by simp only [List.length_append, List.length_cons, List.length_nil]; omega)) ?_
            by_cases h9 : (pt : List UInt8) = ([94] ++ s)
            · skip
              refine s_val (.bool false) (by kernel_rfl) (run_strneq (a := pt) (b := ([94] ++ s)) rfl (by kernel_rfl) (by kernel_rfl) (decide_eq_true (h9))) ?_
              refine s_val (.bool false) (by kernel_rfl) (fun _ => by kernel_rfl) ?_
              refine s_val (.bool false) (by kernel_rfl) (fun _ => by kernel_rfl) ?_
              refine s_nil ?_
              refine fin_seq ?_
              refine ok_false (by kernel_rfl) ?_
              refine ok_skip ?_
              refine fin_seq ?_
              refine ok_seq ?_
              refine ok_region ?_
              refine s_load 0 ⟨b3, #[.int .i64 op, .int .i64 (n : Int), .int .i64 ((numsVal gl).maj), .int .i64 ((numsVal gl).min), .int .i64 ((numsVal gl).pat), .string (mkS tl), .string (mkS (numsVal gl).build)], 26⟩ (off := 0) (.agg #[.int .i64 op, .int .i64 (n : Int), .int .i64 ((numsVal gl).maj), .int .i64 ((numsVal gl).min), .int .i64 ((numsVal gl).pat), .string (mkS tl), .string (mkS (numsVal gl).build)]) (by kernel_rfl) rfl (by kernel_rfl) (by kernel_rfl) (by kernel_rfl) ?_
              refine s_store_at 3 ⟨b1, #[.int .i64 0, .int .i64 0, .int .i64 0, .int .i64 0, .int .i64 0, .string ⟨#[]⟩, .string ⟨#[]⟩], 26⟩ (off := 0) (.agg #[.int .i64 op, .int .i64 (n : Int), .int .i64 ((numsVal gl).maj), .int .i64 ((numsVal gl).min), .int .i64 ((numsVal gl).pat), .string (mkS tl), .string (mkS (numsVal gl).build)]) (by kernel_rfl) rfl rfl (by kernel_rfl) (by kernel_rfl) (by kernel_rfl) (by kernel_rfl) (by kernel_rfl) ?_
              refine s_val (.int .i64 0) (by kernel_rfl) (fun _ => by kernel_rfl) ?_
              refine s_nil ?_
              refine fin_seq ?_
              refine ok_ret ?_
              refine fin_cell2 3 ⟨b1, #[.int .i64 op, .int .i64 (n : Int), .int .i64 ((numsVal gl).maj), .int .i64 ((numsVal gl).min), .int .i64 ((numsVal gl).pat), .string (mkS tl), .string (mkS (numsVal gl).build)], 26⟩ (off := 0) (.agg #[.int .i64 op, .int .i64 (n : Int), .int .i64 ((numsVal gl).maj), .int .i64 ((numsVal gl).min), .int .i64 ((numsVal gl).pat), .string (mkS tl), .string (mkS (numsVal gl).build)]) (.int .i64 0) Tryz.results13 (by kernel_rfl) (by kernel_rfl) (by kernel_rfl) (by kernel_rfl) ?_
              exact fun w hO => ⟨by have q := pc_some (s := s) (c := (⟨op, (n : Int), { numsVal gl with pre := tl }⟩ : Co)) (by rw [parse_cases hop hr hgl htl, h6, ← hng]; exact Option.filter_eq_some_iff.2 ⟨rfl, by unfold fits; rw [hpt, decide_eq_false (show ¬ pt = [] from h7), decide_eq_false (show ¬ pt = s from h8), decide_eq_true (show pt = 94 :: s from h9)]; simp⟩); rw [q.1, q.2]; rfl, hO.below⟩
            · skip
              refine s_val (.bool true) (by kernel_rfl) (run_strneq (a := pt) (b := ([94] ++ s)) rfl (by kernel_rfl) (by kernel_rfl) (decide_eq_false (h9))) ?_
              refine s_val (.bool true) (by kernel_rfl) (fun _ => by kernel_rfl) ?_
              refine s_val (.bool true) (by kernel_rfl) (fun _ => by kernel_rfl) ?_
              refine s_nil ?_
              refine fin_seq ?_
              refine ok_true (by kernel_rfl) ?_
              refine ok_seq ?_
              refine ok_region ?_
              refine s_val (.agg #[.int .i64 0, .int .i64 0, .int .i64 0, .int .i64 0, .int .i64 0, .string ⟨#[]⟩, .string ⟨#[]⟩]) (by kernel_rfl) (fun _ => by kernel_rfl) ?_
              refine s_store_at 3 ⟨b1, #[.int .i64 0, .int .i64 0, .int .i64 0, .int .i64 0, .int .i64 0, .string ⟨#[]⟩, .string ⟨#[]⟩], 26⟩ (off := 0) (.agg #[.int .i64 0, .int .i64 0, .int .i64 0, .int .i64 0, .int .i64 0, .string ⟨#[]⟩, .string ⟨#[]⟩]) (by kernel_rfl) rfl rfl (by kernel_rfl) (by kernel_rfl) (by kernel_rfl) (by kernel_rfl) (by kernel_rfl) ?_
              refine s_val (.int .i64 6) (by kernel_rfl) (fun _ => by kernel_rfl) ?_
              refine s_nil ?_
              refine fin_seq ?_
              refine ok_ret ?_
              refine fin_seq_ret ?_
              refine fin_cell2 3 ⟨b1, #[.int .i64 0, .int .i64 0, .int .i64 0, .int .i64 0, .int .i64 0, .string ⟨#[]⟩, .string ⟨#[]⟩], 26⟩ (off := 0) (.agg #[.int .i64 0, .int .i64 0, .int .i64 0, .int .i64 0, .int .i64 0, .string ⟨#[]⟩, .string ⟨#[]⟩]) (.int .i64 6) Tryz.results13 (by kernel_rfl) (by kernel_rfl) (by kernel_rfl) (by kernel_rfl) ?_
              exact fun w hO => ⟨by have q := pc_none (s := s) (by rw [parse_cases hop hr hgl htl, h6, ← hng]; exact Option.filter_eq_none_iff.2 fun q0 q1 => by obtain rfl := Option.some.inj q1; unfold fits; rw [hpt, decide_eq_false (show ¬ pt = [] from h7), decide_eq_false (show ¬ pt = s from h8), decide_eq_false (show ¬ pt = 94 :: s from h9)]; simp); rw [q.1, q.2]; rfl, hO.below⟩
      | false =>
        refine s_val (.bool true) (by kernel_rfl) (fun _ => by kernel_rfl) ?_
        refine s_nil ?_
        refine fin_seq ?_
        refine ok_true (by kernel_rfl) ?_
        refine ok_seq ?_
        refine ok_region ?_
        refine s_val (.agg #[.int .i64 0, .int .i64 0, .int .i64 0, .int .i64 0, .int .i64 0, .string ⟨#[]⟩, .string ⟨#[]⟩]) (by kernel_rfl) (fun _ => by kernel_rfl) ?_
        refine s_store_at 2 ⟨b1, #[.int .i64 0, .int .i64 0, .int .i64 0, .int .i64 0, .int .i64 0, .string ⟨#[]⟩, .string ⟨#[]⟩], 26⟩ (off := 0) (.agg #[.int .i64 0, .int .i64 0, .int .i64 0, .int .i64 0, .int .i64 0, .string ⟨#[]⟩, .string ⟨#[]⟩]) (by kernel_rfl) rfl rfl (by kernel_rfl) (by kernel_rfl) (by kernel_rfl) (by kernel_rfl) (by kernel_rfl) ?_
        refine s_val (.int .i64 6) (by kernel_rfl) (fun _ => by kernel_rfl) ?_
        refine s_nil ?_
        refine fin_seq ?_
        refine ok_ret ?_
        refine fin_seq_ret ?_
        refine fin_cell2 2 ⟨b1, #[.int .i64 0, .int .i64 0, .int .i64 0, .int .i64 0, .int .i64 0, .string ⟨#[]⟩, .string ⟨#[]⟩], 26⟩ (off := 0) (.agg #[.int .i64 0, .int .i64 0, .int .i64 0, .int .i64 0, .int .i64 0, .string ⟨#[]⟩, .string ⟨#[]⟩]) (.int .i64 6) Tryz.results13 (by kernel_rfl) (by kernel_rfl) (by kernel_rfl) (by kernel_rfl) ?_
        exact fun w hO => ⟨by have q := pc_none (s := s) (by rw [parse_cases hop hr hgl htl, h6]; rfl); rw [q.1, q.2]; rfl, hO.below⟩
end Go.Proofs.YtjabcbagggicaaaGreatDoor
end

section
/-
  Plain mathematics of the landed package comp: how it reads a string, where its cuts lie. No condition of its own.
-/
namespace Go.Proofs.YtjabcbagggicaaaGreatDoor
set_option linter.unusedVariables false
set_option linter.unusedSimpArgs false

/-! ### Cut at the first dots, k at most -/
def pcsK : Nat → List UInt8 → List (List UInt8)
  | 0, s => [s]
  | k + 1, s => if (cutAt 46 s).2.2 then (cutAt 46 s).1 :: pcsK k (cutAt 46 s).2.1 else [s]
theorem pcsK_len : ∀ (k : Nat) (s : List UInt8), 1 ≤ (pcsK k s).length ∧ (pcsK k s).length ≤ k + 1
  | 0, s => ⟨Nat.le_refl _, Nat.le_refl _⟩
  | k + 1, s => by
    have h := pcsK_len k (cutAt 46 s).2.1
    unfold pcsK
    split
    · simp only [List.length_cons]; omega
    · simp only [List.length_cons, List.length_nil]; omega
theorem pcsK_mem : ∀ (k : Nat) (s : List UInt8), ∀ x ∈ pcsK k s, x.length ≤ s.length
  | 0, s, x, hx => by rw [List.mem_singleton.1 hx]; exact Nat.le_refl _
  | k + 1, s, x, hx => by
    unfold pcsK at hx
    have hl := cutAt_le 46 s
    split at hx
    · rcases List.mem_cons.1 hx with e | hx
      · rw [e]; omega
      · have := pcsK_mem k (cutAt 46 s).2.1 x hx; omega
    · rw [List.mem_singleton.1 hx]; exact Nat.le_refl _
theorem pcsK_join : ∀ (k : Nat) (l : List (List UInt8)), l ≠ [] → l.length ≤ k + 1 → (∀ x ∈ l, (46 : UInt8) ∉ x) → pcsK k (joinL 46 l) = l
  | _, [], h, _, _ => absurd rfl h
  | 0, [x], _, _, _ => rfl
  | k + 1, [x], _, _, h => by
    unfold pcsK
    show (if (cutAt 46 x).2.2 = true then _ else _) = _
    rw [cutAt_miss 46 x (h x (List.mem_singleton.2 rfl))]
    exact if_neg Bool.false_ne_true
  | 0, x :: y :: r, _, hl, _ => by simp at hl
  | k + 1, x :: y :: r, _, hl, h => by
    have ih := pcsK_join k (y :: r) (by simp) (by simpa using hl) fun z hz => h z (List.mem_cons_of_mem _ hz)
    unfold pcsK
    rw [joinL, cutAt_hit 46 _ _ (h x (List.mem_cons_self ..)), if_pos rfl]
    dsimp only
    rw [ih]

/-! ### How a string is read -/
/-- The operator of the longest sign among the first k, and what is behind it. -/
def sgo (s : List UInt8) : Nat → Int × List UInt8
  | 0 => (7, s)
  | k + 1 => if beginsL s (signL ((k + 1 : Nat) : Int)) = true ∧ (s.drop (signL ((k + 1 : Nat) : Int)).length).length < (sgo s k).2.length then (((k + 1 : Nat) : Int), s.drop (signL ((k + 1 : Nat) : Int)).length) else sgo s k
theorem sgo_le (s : List UInt8) : ∀ k, (sgo s k).2.length ≤ s.length
  | 0 => Nat.le_refl _
  | k + 1 => by
    unfold sgo
    split
    · show (s.drop _).length ≤ _; rw [List.length_drop]; omega
    · exact sgo_le s k
def piecesP (s : List UInt8) : List (List UInt8) := pcsK 2 (cutAt 45 (sgo s 8).2).1
def starP (s : List UInt8) : Bool := decide ((piecesP s).getLast? = some [42])
def guessP (s : List UInt8) : Co := ⟨if starP s then 9 else (sgo s 8).1, if starP s then ((piecesP s).length : Int) - 1 else ((piecesP s).length : Int), ⟨numD (tg (piecesP s) 0), numD (tg (piecesP s) 1), numD (tg (piecesP s) 2), (cutAt 45 (sgo s 8).2).2.1, []⟩⟩
theorem nob {d a : UInt8} {r t : List UInt8} (h : d ≠ a) : ¬ (beginsL (d :: r) (a :: t) = true) := by rw [not_begins h]; decide
theorem sgo_plain {d : UInt8} {r : List UInt8} (h : digB d.toNat = true ∨ d = 42) : sgo (d :: r) 8 = (7, d :: r) := by
  have hd : ∀ a : UInt8, digB a.toNat = false → a ≠ 42 → d ≠ a := fun a ha h42 e => by
    subst e
    rcases h with h | h
    · rw [ha] at h; cases h
    · exact h42 h
  have hb : ∀ k : Nat, 1 ≤ k → k ≤ 8 → ¬ (beginsL (d :: r) (signL (k : Int)) = true) := fun k h1 h8 => by
    have hk : k = 1 ∨ k = 2 ∨ k = 3 ∨ k = 4 ∨ k = 5 ∨ k = 6 ∨ k = 7 ∨ k = 8 := by omega
    rcases hk with rfl | rfl | rfl | rfl | rfl | rfl | rfl | rfl
    · exact nob (hd 61 (by decide) (by decide))
    · exact nob (hd 33 (by decide) (by decide))
    · exact nob (hd 60 (by decide) (by decide))
    · exact nob (hd 60 (by decide) (by decide))
    · exact nob (hd 62 (by decide) (by decide))
    · exact nob (hd 62 (by decide) (by decide))
    · exact nob (hd 94 (by decide) (by decide))
    · exact nob (hd 126 (by decide) (by decide))
  have : ∀ k : Nat, k ≤ 8 → sgo (d :: r) k = (7, d :: r) := fun k => by
    induction k with
    | zero => intro _; rfl
    | succ k ih =>
      intro h8
      unfold sgo
      rw [if_neg (fun q => hb (k + 1) (by omega) h8 q.1)]
      exact ih (by omega)
  exact this 8 (by decide)
theorem sgo_sign {op : Int} (h1 : 1 ≤ op) (h8 : op ≤ 8) {d : UInt8} {r : List UInt8} (hd : digB d.toNat = true) : sgo (signL op ++ d :: r) 8 = (op, d :: r) := by
  have h61 : d ≠ 61 := fun e => by subst e; revert hd; decide
  have hop : op = 1 ∨ op = 2 ∨ op = 3 ∨ op = 4 ∨ op = 5 ∨ op = 6 ∨ op = 7 ∨ op = 8 := by omega
  rcases hop with rfl | rfl | rfl | rfl | rfl | rfl | rfl | rfl <;> simp [signL, sgo, beginsL, h61]
theorem numD_star : numD [42] = 0 := by decide
theorem tg_star {v : Ver} (hv : v.may = true) {n : Nat} (h : n ≤ 2) (h0 : 0 < n ∨ v.maj = 0) (h1 : 1 < n ∨ v.min = 0) (h2 : 2 < n ∨ v.pat = 0) : numD (tg (numsN v n ++ [[42]]) 0) = v.maj ∧ numD (tg (numsN v n ++ [[42]]) 1) = v.min ∧ numD (tg (numsN v n ++ [[42]]) 2) = v.pat := by
  obtain ⟨m1, m2, m3⟩ := may_nums hv
  have e1 := numD_itoa m1
  have e2 := numD_itoa m2
  match n, h with
  | 0, _ => exact ⟨numD_star.trans (h0.resolve_left (by decide)).symm, (h1.resolve_left (by decide)).symm, (h2.resolve_left (by decide)).symm⟩
  | 1, _ => exact ⟨e1, numD_star.trans (h1.resolve_left (by decide)).symm, (h2.resolve_left (by decide)).symm⟩
  | 2, _ => exact ⟨e1, e2, numD_star.trans (h2.resolve_left (by decide)).symm⟩
/-- What a valid comparator's string is cut into, behind its sign. -/
theorem rest_pieces {c : Co} (h : c.may = true) : pcsK 2 (cutAt 45 c.rest).1 = (if c.op = 9 then numsN c.v c.parts.toNat ++ [[42]] else numsN c.v c.parts.toNat) ∧ (cutAt 45 c.rest).2.1 = c.v.pre := by
  obtain ⟨_, hv, hb, h9, hn, hp, k0, k1, k2⟩ := Co.facts h
  unfold Co.rest
  by_cases e : c.op = 9
  · rw [if_pos e, if_pos e]
    have f : ∀ b : UInt8, digB b.toNat = false → b ≠ 42 → ∀ x ∈ numsN c.v c.parts.toNat ++ [[42]], b ∉ x := fun b hb hb2 x hx => by
      rcases List.mem_append.1 hx with hx | hx
      · exact nums_free hv b hb x hx
      · rw [List.mem_singleton.1 hx]
        intro hm
        exact hb2 (List.mem_singleton.1 hm)
    rw [cutAt_miss 45 _ (join_free 45 (by decide) _ (f 45 (by decide) (by decide)))]
    have hq := h9 e
    have hpre : c.v.pre = [] := hp.resolve_left (by omega)
    refine ⟨?_, hpre.symm⟩
    refine pcsK_join 2 _ (by simp) ?_ (f 46 (by decide) (by decide))
    rw [List.length_append, numsN_len c.v (by omega)]
    simp only [List.length_cons, List.length_nil]; omega
  · rw [if_neg e, if_neg e]
    have hq := hn e
    have hlen := numsN_len c.v (n := c.parts.toNat) (by omega)
    have hne : numsN c.v c.parts.toNat ≠ [] := fun h0 => by
      rw [h0] at hlen
      simp at hlen; omega
    rw [cut_tail 45 _ _ (join_free 45 (by decide) _ (nums_free hv 45 (by decide)))]
    exact ⟨pcsK_join 2 _ hne (by omega) (nums_free hv 46 (by decide)), rfl⟩
theorem nums_last {c : Co} (h : c.may = true) (hn : ¬ c.op = 9) : ¬ (numsN c.v c.parts.toNat).getLast? = some [42] := fun hl => by
  have hv := (Co.facts h).2.1
  have := nums_free hv 42 (by decide) _ (List.mem_of_getLast? hl)
  exact this (List.mem_singleton.2 rfl)
theorem guess_of {c : Co} {s : List UInt8} (h : c.may = true) (hs : (sgo s 8).2 = c.rest) (ho : c.op = 9 ∨ (sgo s 8).1 = c.op) : guessP s = c := by
  obtain ⟨_, hv, hb, h9, hn, hp, k0, k1, k2⟩ := Co.facts h
  obtain ⟨p1, p2⟩ := rest_pieces h
  have hpc : piecesP s = if c.op = 9 then numsN c.v c.parts.toNat ++ [[42]] else numsN c.v c.parts.toNat := by unfold piecesP; rw [hs]; exact p1
  unfold guessP
  rw [hs, p2]
  by_cases e : c.op = 9
  · have hq := h9 e
    rw [if_pos e] at hpc
    have hst : starP s = true := by unfold starP; rw [hpc, List.getLast?_concat]; exact decide_eq_true rfl
    obtain ⟨e1, e2, e3⟩ := tg_star hv (n := c.parts.toNat) (by omega) (by omega) (by omega) (by omega)
    rw [hst, hpc, if_pos rfl, if_pos rfl, e1, e2, e3, List.length_append, numsN_len c.v (by omega), List.length_singleton]
    obtain ⟨op, parts, a, b, d, q, r⟩ := c
    simp only at hb e hq ⊢
    rw [hb, e]
    congr 1
    omega
  · have hq := hn e
    rw [if_neg e] at hpc
    have hst : starP s = false := by unfold starP; rw [hpc]; exact decide_eq_false (nums_last h e)
    obtain ⟨e1, e2, e3⟩ := nums_back hv (n := c.parts.toNat) (by omega) (by omega) (by omega) (by omega)
    rw [hst, hpc, if_neg (by decide), if_neg (by decide), e1, e2, e3, numsN_len c.v (by omega), ho.resolve_left e]
    obtain ⟨op, parts, a, b, d, q, r⟩ := c
    simp only at hb hq ⊢
    rw [hb]
    congr 1
    omega
theorem guess_co {c : Co} {s : List UInt8} (h : c.may = true) (hs : c.text = s ∨ c.text = 94 :: s) : guessP s = c := by
  obtain ⟨ho, _⟩ := Co.facts h
  by_cases hn : c.op = 9
  · obtain ⟨d, r, e, hd⟩ := star_head h hn
    have ht : c.text = d :: r := by unfold Co.text; rw [hn, show signL 9 = [] from rfl, List.nil_append, e]
    rcases hs with hs | hs
    · rw [ht] at hs
      rw [← hs]
      exact guess_of h (by rw [sgo_plain hd, e]) (.inl hn)
    · rw [ht] at hs
      injection hs with e1 _
      rw [e1] at hd
      exact absurd hd (by decide)
  · obtain ⟨d, r, e, hd⟩ := rest_head h hn
    have ht : c.text = signL c.op ++ d :: r := by unfold Co.text; rw [e]
    have hs8 := sgo_sign ho.1 (by omega) (r := r) hd
    rcases hs with hs | hs
    · rw [ht] at hs
      rw [← hs]
      exact guess_of h (by rw [hs8, e]) (.inr (by rw [hs8]))
    · rw [ht] at hs
      have hop : c.op = 1 ∨ c.op = 2 ∨ c.op = 3 ∨ c.op = 4 ∨ c.op = 5 ∨ c.op = 6 ∨ c.op = 7 ∨ c.op = 8 := by omega
      have h7 : c.op = 7 := by rcases hop with e2 | e2 | e2 | e2 | e2 | e2 | e2 | e2 <;> rw [e2] at hs <;> first | exact e2 | simp [signL] at hs
      rw [h7] at hs
      have hs2 : d :: r = s := by injection hs
      rw [← hs2]
      exact guess_of h (by rw [sgo_plain (.inl hd), e]) (.inr (by rw [sgo_plain (.inl hd), h7]))
theorem guess_nil : guessP [] = ⟨7, 1, ⟨0, 0, 0, [], []⟩⟩ := by decide
theorem fits_may {s : List UInt8} (h : (guessP s).print = s ∨ (guessP s).print = 94 :: s) : (guessP s).may = true := by
  refine print_may fun e => ?_
  rw [e] at h
  rcases h with h | h
  · subst h
    revert e
    rw [guess_nil]
    decide +kernel
  · cases h
/-- The program's way of reading is the document's. -/
theorem prog_some {s : List UInt8} (h : (guessP s).print = s ∨ (guessP s).print = 94 :: s) : parseC s = some (guessP s) := by
  have hm := fits_may h
  rw [co_print hm] at h
  exact (parseC_iff s _).2 ⟨hm, h⟩
theorem prog_none {s : List UInt8} (h : ¬ ((guessP s).print = s ∨ (guessP s).print = 94 :: s)) : parseC s = none := by
  cases hp : parseC s with
  | none => rfl
  | some c =>
    obtain ⟨hm, ht⟩ := (parseC_iff s c).1 hp
    have hg := guess_co hm ht
    rw [hg, co_print hm] at h
    exact absurd ht h

/-! ### Where the cuts lie -/
theorem may_core6 {c : Co} (h : c.may = true) : coreV c.v = c.v := by
  obtain ⟨_, _, hb, _⟩ := Co.facts h
  obtain ⟨op, parts, a, b, d, q, r⟩ := c
  simp only at hb ⊢
  rw [hb]; rfl
theorem low6 {c : Co} (h : c.may = true) : c.low = ⟨0, c.v, false⟩ := by unfold Co.low; rw [may_core6 h]
/-- Where what a comparator names ends. -/
def behC (c : Co) : Cu := if c.parts = 3 then ⟨0, c.v, true⟩ else if c.parts = 0 then endC 1 else highC c.v (c.parts - 1).toNat
theorem beh_aft {c : Co} (h : c.may = true) (h0 : ¬ c.parts = 0) : behC c = c.aft := by
  obtain ⟨_, _, _, h9, hn, _⟩ := Co.facts h
  have hp : 0 ≤ c.parts ∧ c.parts ≤ 3 := by
    by_cases e : c.op = 9
    · have := h9 e; omega
    · have := hn e; omega
  unfold behC Co.aft
  by_cases h3 : c.parts = 3
  · rw [if_pos h3, if_neg (by omega), may_core6 h]
  · rw [if_neg h3, if_neg h0, if_pos (by omega)]
def leadK (c : Co) : Int := if ¬ c.v.maj = 0 then 0 else if ¬ c.v.min = 0 then 1 else if ¬ c.v.pat = 0 then 2 else c.parts - 1
theorem lead_turns {c : Co} (h : c.may = true) (h7 : ¬ c.op = 9) : leadK c = (turnsK c : Int) := by
  obtain ⟨_, hv, _, _, hn, _, k0, k1, k2⟩ := Co.facts h
  have hq := hn h7
  obtain ⟨m1, m2, m3⟩ := may_nat hv
  unfold leadK turnsK
  repeat' split
  all_goals omega
/-- The cuts between which the versions lie, as the landed code finds them. -/
def boundC (c : Co) : Cu × Cu :=
  if c.op = 3 then (endC (-1), ⟨0, c.v, false⟩) else if c.op = 4 then (endC (-1), behC c) else if c.op = 5 then (behC c, endC 1) else if c.op = 6 then (⟨0, c.v, false⟩, endC 1)
  else if c.op = 7 then (⟨0, c.v, false⟩, highC c.v (leadK c).toNat) else if c.op = 8 then (⟨0, c.v, false⟩, highC c.v (min (c.parts - 1) 1).toNat) else if c.parts = 0 then (endC (-1), endC 1) else (⟨0, c.v, false⟩, behC c)
theorem bound_span {c : Co} (h : c.may = true) : boundC c = c.span := by
  obtain ⟨ho, _, _, h9, hn, _⟩ := Co.facts h
  have e0 : ¬ c.op = 9 → behC c = c.aft := fun e => beh_aft h (by have := hn e; omega)
  have el := low6 h
  have hop : c.op = 1 ∨ c.op = 2 ∨ c.op = 3 ∨ c.op = 4 ∨ c.op = 5 ∨ c.op = 6 ∨ c.op = 7 ∨ c.op = 8 ∨ c.op = 9 := by omega
  unfold boundC Co.span
  rcases hop with e | e | e | e | e | e | e | e | e
  · have := hn (by omega); simp [e, el, e0 (by omega), show ¬ c.parts = 0 by omega]
  · have := hn (by omega); simp [e, el, e0 (by omega), show ¬ c.parts = 0 by omega]
  · simp [e, el]
  · simp [e, e0 (by omega)]
  · simp [e, e0 (by omega)]
  · simp [e, el]
  · have := lead_turns h (by omega); simp [e, el, this]
  · simp [e, el]
  · have hq := h9 e
    by_cases h0 : c.parts = 0
    · simp [e, h0]
    · have hb : behC c = highC c.v (c.parts - 1).toNat := by unfold behC; rw [if_neg (by omega), if_neg h0]
      simp [e, h0, el, hb]
end Go.Proofs.YtjabcbagggicaaaGreatDoor
end

section
/-
  Package comp's numbers, May, sign, leading, high, behind: what they return for comparators whose strings have at most a million bytes; nothing that was there is changed.
-/
namespace Go.Proofs.YtjabcbagggicaaaGreatDoor
open Go.RowKit
set_option maxRecDepth 100000
set_option linter.unusedVariables false
set_option linter.unusedSimpArgs false
set_option maxHeartbeats 2000000

def numsC (v : Ver) : Array Value := #[.int .i64 v.maj, .int .i64 v.min, .int .i64 v.pat]
theorem rd_nums (v : Ver) : ∀ (k : Nat), k < 3 → readAt Tryz.prog 3 (numsC v) k = some (.int .i64 (nth3 v.maj v.min v.pat k))
  | 0, _ => by kernel_rfl
  | 1, _ => by kernel_rfl
  | 2, _ => by kernel_rfl
theorem zero3 {v : Ver} (h : ∀ j, j < 3 → nth3 v.maj v.min v.pat j = 0) : v.maj = 0 ∧ v.min = 0 ∧ v.pat = 0 := ⟨h 0 (by decide), h 1 (by decide), h 2 (by decide)⟩
theorem may_rest {c : Co} (h : c.may = true) : ∀ j, c.parts.toNat ≤ j → j < 3 → nth3 c.v.maj c.v.min c.v.pat j = 0 := fun j h1 h3 => by
  obtain ⟨_, _, _, h9, hn, _, k0, k1, k2⟩ := Co.facts h
  have hj : j = 0 ∨ j = 1 ∨ j = 2 := by omega
  rcases hj with rfl | rfl | rfl
  · show c.v.maj = 0; omega
  · show c.v.min = 0; omega
  · show c.v.pat = 0; omega
theorem may_bad {c : Co} {k : Nat} (hk : c.parts.toNat + k < 3) (hn : ¬ nth3 c.v.maj c.v.min c.v.pat (c.parts.toNat + k) = 0) : c.may = false := by
  cases hm : c.may with
  | false => rfl
  | true => exact absurd (may_rest hm _ (Nat.le_add_right _ _) hk) hn
theorem may_go {c : Co} (h1 : 1 ≤ c.op ∧ c.op ≤ 9) (h9 : c.op = 9 → 0 ≤ c.parts ∧ c.parts ≤ 2) (hn : ¬ c.op = 9 → 1 ≤ c.parts ∧ c.parts ≤ 3) (hz : ∀ j, c.parts.toNat ≤ j → j < 3 → nth3 c.v.maj c.v.min c.v.pat j = 0) :
    c.may = (c.v.may && (decide (c.v.build = []) && (decide (c.v.pre = []) || decide (c.parts = 3)))) := by
  have hp : 0 ≤ c.parts ∧ c.parts ≤ 3 := by
    by_cases e : c.op = 9
    · have := h9 e; omega
    · have := hn e; omega
  have z0 : 0 < c.parts ∨ c.v.maj = 0 := by
    by_cases q : 0 < c.parts
    · exact .inl q
    · exact .inr (hz 0 (by omega) (by decide))
  have z1 : 1 < c.parts ∨ c.v.min = 0 := by
    by_cases q : 1 < c.parts
    · exact .inl q
    · exact .inr (hz 1 (by omega) (by decide))
  have z2 : 2 < c.parts ∨ c.v.pat = 0 := by
    by_cases q : 2 < c.parts
    · exact .inl q
    · exact .inr (hz 2 (by omega) (by decide))
  refine Bool.eq_iff_iff.2 ⟨fun h => ?_, fun h => ?_⟩
  · obtain ⟨_, q1, q2, _, _, q3, _⟩ := Co.facts h
    rw [q1, decide_eq_true q2, Bool.true_and, Bool.true_and, Bool.or_eq_true, decide_eq_true_eq, decide_eq_true_eq]
    rcases q3 with q3 | q3
    · exact .inr (by omega)
    · exact .inl q3
  · simp only [Bool.and_eq_true, Bool.or_eq_true, decide_eq_true_eq] at h
    exact Co.may_iff.2 ⟨h1, h.1, h.2.1, h9, hn, h.2.2.elim .inr (fun q => .inl (by omega)), z0, z1, z2⟩
theorem lead_at {c : Co} {k : Nat} (hk : k < 3) (hz : ∀ j, j < k → nth3 c.v.maj c.v.min c.v.pat j = 0) (hn : ¬ nth3 c.v.maj c.v.min c.v.pat k = 0) : leadK c = (k : Int) := by
  have h0 := hz 0; have h1 := hz 1
  have hj : k = 0 ∨ k = 1 ∨ k = 2 := by omega
  unfold leadK
  rcases hj with rfl | rfl | rfl
  · exact if_pos (show ¬ c.v.maj = 0 from hn)
  · rw [if_neg (by simp [show c.v.maj = 0 from h0 (by decide)])]; exact if_pos (show ¬ c.v.min = 0 from hn)
  · rw [if_neg (by simp [show c.v.maj = 0 from h0 (by decide)]), if_neg (by simp [show c.v.min = 0 from h1 (by decide)])]; exact if_pos (show ¬ c.v.pat = 0 from hn)
theorem lead_end {c : Co} (hz : ∀ j, j < 3 → nth3 c.v.maj c.v.min c.v.pat j = 0) : leadK c = c.parts - 1 := by
  obtain ⟨a, b, d⟩ := zero3 hz
  unfold leadK
  rw [if_neg (by simp [a]), if_neg (by simp [b]), if_neg (by simp [d])]
theorem zero_on {v : Ver} {a k : Nat} (hz : ∀ j, a ≤ j → j < a + k → nth3 v.maj v.min v.pat j = 0) (h : nth3 v.maj v.min v.pat (a + k) = 0) : ∀ j, a ≤ j → j < a + (k + 1) → nth3 v.maj v.min v.pat j = 0 := fun j h1 h2 => by
  by_cases e : j = a + k
  · rw [e]; exact h
  · exact hz j h1 (by omega)
theorem zero_on0 {v : Ver} {k : Nat} (hz : ∀ j, j < k → nth3 v.maj v.min v.pat j = 0) (h : nth3 v.maj v.min v.pat k = 0) : ∀ j, j < k + 1 → nth3 v.maj v.min v.pat j = 0 := fun j h2 => by
  by_cases e : j = k
  · rw [e]; exact h
  · exact hz j (by omega)
theorem cnums_any (v : Ver) (W : World) : Calls Tryz.prog 43 #[verV v] W fun e w' => ∃ v' ob', e = .returned v' ∧ (∃ g, v' = .slice (some ⟨g, 0, none⟩) 3 3 ∧ ob' = [⟨g, numsC v, 3⟩]) ∧ Own [] W w' ob' := by
  refine calls_ok (n := 10) Tryz.func43 rfl (by kernel_rfl) (by kernel_rfl) ?_
  refine ok_seq ?_
  refine ok_region ?_
  refine s_box (verV v) (by kernel_rfl) rfl (by kernel_rfl) (fun b1 => ?_)
  refine s_val (.slice none 0 0) (by kernel_rfl) (fun _ => by kernel_rfl) ?_
  refine s_nil ?_
  refine fin_seq ?_
  refine ok_seq ?_
  refine ok_region ?_
  refine s_val (.pointer (some ⟨b1, 0, none⟩)) (by kernel_rfl) (fun _ => by kernel_rfl) ?_
  refine s_load 0 ⟨b1, (verV v).cells, 24⟩ (off := 0) (.int .i64 v.maj) (by kernel_rfl) rfl (by kernel_rfl) (by kernel_rfl) (by kernel_rfl) ?_
  refine s_val (.pointer (some ⟨b1, 1, none⟩)) (by kernel_rfl) (fun _ => by kernel_rfl) ?_
  refine s_load 0 ⟨b1, (verV v).cells, 24⟩ (off := 1) (.int .i64 v.min) (by kernel_rfl) rfl (by kernel_rfl) (by kernel_rfl) (by kernel_rfl) ?_
  refine s_val (.pointer (some ⟨b1, 2, none⟩)) (by kernel_rfl) (fun _ => by kernel_rfl) ?_
  refine s_load 0 ⟨b1, (verV v).cells, 24⟩ (off := 2) (.int .i64 v.pat) (by kernel_rfl) rfl (by kernel_rfl) (by kernel_rfl) (by kernel_rfl) ?_
  refine s_lit 3 #[.int .i64 v.maj, .int .i64 v.min, .int .i64 v.pat] (by kernel_rfl) rfl (fun _ => by kernel_rfl) (fun b2 => ?_)
  refine s_val (.slice (some ⟨b2, 0, none⟩) 3 3) (by kernel_rfl) (fun _ => by kernel_rfl) ?_
  refine s_nil ?_
  refine fin_seq ?_
  refine ok_ret ?_
  refine fin_ret (.slice (some ⟨b2, 0, none⟩) 3 3) Tryz.results43 (by kernel_rfl) ?_
  exact fun w hO => ⟨_, _, rfl, ⟨_, rfl, rfl⟩, hO.sublist (List.cons_sublist_cons.2 (List.nil_sublist _))⟩
set_option maxHeartbeats 4000000 in
theorem cMay_any (c : Co) (W : World) (hc : c.short) : Calls Tryz.prog 15 #[coV c] W fun e w' => e = .returned (.bool c.may) ∧ Below W.heap.size W w' := by
  refine calls_ok (n := 64) Tryz.func15 rfl (by kernel_rfl) (by kernel_rfl) ?_
  refine ok_seq ?_
  refine ok_region ?_
  refine s_box (coV c) (by kernel_rfl) rfl (by kernel_rfl) (fun b1 => ?_)
  refine s_val (.bool false) (by kernel_rfl) (fun _ => by kernel_rfl) ?_
  refine s_nil ?_
  refine fin_seq ?_
  refine ok_seq ?_
  refine ok_region ?_
  refine s_val (.int .i64 1) (by kernel_rfl) (fun _ => by kernel_rfl) ?_
  refine s_val (.int .i64 3) (by kernel_rfl) (fun _ => by kernel_rfl) ?_
  refine s_nil ?_
  refine fin_seq ?_
  refine ok_seq ?_
  refine ok_seq ?_
  refine ok_region ?_
  refine s_val (.pointer (some ⟨b1, 0, none⟩)) (by kernel_rfl) (fun _ => by kernel_rfl) ?_
  refine s_load 0 ⟨b1, (coV c).cells, 26⟩ (off := 0) (.int .i64 c.op) (by kernel_rfl) rfl (by kernel_rfl) (by kernel_rfl) (by kernel_rfl) ?_
  by_cases h1 : (c.op : Int) = 9
  · skip
    refine s_dec (p := (c.op : Int) = 9) true (by kernel_rfl) (fun _ => by kernel_rfl) (decide_eq_true (h1)) ?_
    refine s_nil ?_
    refine fin_seq ?_
    refine ok_true (by kernel_rfl) ?_
    refine ok_region ?_
    refine s_val (.int .i64 0) (by kernel_rfl) (fun _ => by kernel_rfl) ?_
    refine s_val (.int .i64 2) (by kernel_rfl) (fun _ => by kernel_rfl) ?_
    refine s_nil ?_
    refine fin_seq ?_
    refine ok_seq ?_
    refine ok_seq ?_
    refine ok_region ?_
    refine s_val (.pointer (some ⟨b1, 0, none⟩)) (by kernel_rfl) (fun _ => by kernel_rfl) ?_
    refine s_load 0 ⟨b1, (coV c).cells, 26⟩ (off := 0) (.int .i64 c.op) (by kernel_rfl) rfl (by kernel_rfl) (by kernel_rfl) (by kernel_rfl) ?_
    by_cases h2 : (c.op : Int) < 1
    · skip
      refine s_dec (p := (c.op : Int) < 1) true (by kernel_rfl) (fun _ => by kernel_rfl) (decide_eq_true (h2)) ?_
      refine s_val (.bool true) (by kernel_rfl) (fun _ => by kernel_rfl) ?_
      refine s_skip (by kernel_rfl) ?_
      refine s_skip (by kernel_rfl) ?_
      refine s_skip (by kernel_rfl) ?_
      refine s_val (.bool true) (by kernel_rfl) (fun _ => by kernel_rfl) ?_
      refine s_val (.bool true) (by kernel_rfl) (fun _ => by kernel_rfl) ?_
      refine s_skip (by kernel_rfl) ?_
      refine s_skip (by kernel_rfl) ?_
      refine s_skip (by kernel_rfl) ?_
      refine s_skip (by kernel_rfl) ?_
      refine s_val (.bool true) (by kernel_rfl) (fun _ => by kernel_rfl) ?_
      refine s_val (.bool true) (by kernel_rfl) (fun _ => by kernel_rfl) ?_
      refine s_skip (by kernel_rfl) ?_
      refine s_skip (by kernel_rfl) ?_
      refine s_skip (by kernel_rfl) ?_
      refine s_skip (by kernel_rfl) ?_
      refine s_val (.bool true) (by kernel_rfl) (fun _ => by kernel_rfl) ?_
      refine s_nil ?_
      refine fin_seq ?_
      refine ok_true (by kernel_rfl) ?_
      refine ok_seq ?_
      refine ok_region ?_
      refine s_val (.bool false) (by kernel_rfl) (fun _ => by kernel_rfl) ?_
      refine s_nil ?_
      refine fin_seq ?_
      refine ok_ret ?_
      refine fin_seq_ret ?_
      refine fin_ret (.bool false) Tryz.results15 (by kernel_rfl) ?_
      exact fun w hO => ⟨by rw [show c.may = false from Bool.eq_false_iff.2 fun q0 => by have q1 := Co.may_iff.1 q0; grind], hO.below⟩
    · skip
      refine s_dec (p := (c.op : Int) < 1) false (by kernel_rfl) (fun _ => by kernel_rfl) (decide_eq_false (h2)) ?_
      refine s_val (.bool false) (by kernel_rfl) (fun _ => by kernel_rfl) ?_
      refine s_val (.pointer (some ⟨b1, 0, none⟩)) (by kernel_rfl) (fun _ => by kernel_rfl) ?_
      refine s_load 0 ⟨b1, (coV c).cells, 26⟩ (off := 0) (.int .i64 c.op) (by kernel_rfl) rfl (by kernel_rfl) (by kernel_rfl) (by kernel_rfl) ?_
      by_cases h3 : (9 : Int) < c.op
      · skip
        refine s_dec (p := (9 : Int) < c.op) true (by kernel_rfl) (fun _ => by kernel_rfl) (decide_eq_true (h3)) ?_
        refine s_val (.bool true) (by kernel_rfl) (fun _ => by kernel_rfl) ?_
        refine s_val (.bool true) (by kernel_rfl) (fun _ => by kernel_rfl) ?_
        refine s_skip (by kernel_rfl) ?_
        refine s_skip (by kernel_rfl) ?_
        refine s_skip (by kernel_rfl) ?_
        refine s_skip (by kernel_rfl) ?_
        refine s_val (.bool true) (by kernel_rfl) (fun _ => by kernel_rfl) ?_
        refine s_val (.bool true) (by kernel_rfl) (fun _ => by kernel_rfl) ?_
        refine s_skip (by kernel_rfl) ?_
        refine s_skip (by kernel_rfl) ?_
        refine s_skip (by kernel_rfl) ?_
        refine s_skip (by kernel_rfl) ?_
        refine s_val (.bool true) (by kernel_rfl) (fun _ => by kernel_rfl) ?_
        refine s_nil ?_
        refine fin_seq ?_
        refine ok_true (by kernel_rfl) ?_
        refine ok_seq ?_
        refine ok_region ?_
        refine s_val (.bool false) (by kernel_rfl) (fun _ => by kernel_rfl) ?_
        refine s_nil ?_
        refine fin_seq ?_
        refine ok_ret ?_
        refine fin_seq_ret ?_
        refine fin_ret (.bool false) Tryz.results15 (by kernel_rfl) ?_
        exact fun w hO => ⟨by rw [show c.may = false from Bool.eq_false_iff.2 fun q0 => by have q1 := Co.may_iff.1 q0; grind], hO.below⟩
      · skip
        refine s_dec (p := (9 : Int) < c.op) false (by kernel_rfl) (fun _ => by kernel_rfl) (decide_eq_false (h3)) ?_
        refine s_val (.bool false) (by kernel_rfl) (fun _ => by kernel_rfl) ?_
        refine s_val (.bool false) (by kernel_rfl) (fun _ => by kernel_rfl) ?_
        refine s_val (.pointer (some ⟨b1, 1, none⟩)) (by kernel_rfl) (fun _ => by kernel_rfl) ?_
        refine s_load 0 ⟨b1, (coV c).cells, 26⟩ (off := 1) (.int .i64 c.parts) (by kernel_rfl) rfl (by kernel_rfl) (by kernel_rfl) (by kernel_rfl) ?_
        refine s_val (.int .i64 0) (by kernel_rfl) (fun _ => by kernel_rfl) ?_
        by_cases h4 : (c.parts : Int) < 0
        · skip
          refine s_dec (p := (c.parts : Int) < 0) true (by kernel_rfl) (fun _ => by kernel_rfl) (decide_eq_true (h4)) ?_
          refine s_val (.bool true) (by kernel_rfl) (fun _ => by kernel_rfl) ?_
          refine s_val (.bool true) (by kernel_rfl) (fun _ => by kernel_rfl) ?_
          refine s_skip (by kernel_rfl) ?_
          refine s_skip (by kernel_rfl) ?_
          refine s_skip (by kernel_rfl) ?_
          refine s_skip (by kernel_rfl) ?_
          refine s_val (.bool true) (by kernel_rfl) (fun _ => by kernel_rfl) ?_
          refine s_nil ?_
          refine fin_seq ?_
          refine ok_true (by kernel_rfl) ?_
          refine ok_seq ?_
          refine ok_region ?_
          refine s_val (.bool false) (by kernel_rfl) (fun _ => by kernel_rfl) ?_
          refine s_nil ?_
          refine fin_seq ?_
          refine ok_ret ?_
          refine fin_seq_ret ?_
          refine fin_ret (.bool false) Tryz.results15 (by kernel_rfl) ?_
          exact fun w hO => ⟨by rw [show c.may = false from Bool.eq_false_iff.2 fun q0 => by have q1 := Co.may_iff.1 q0; grind], hO.below⟩
        · skip
          refine s_dec (p := (c.parts : Int) < 0) false (by kernel_rfl) (fun _ => by kernel_rfl) (decide_eq_false (h4)) ?_
          refine s_val (.bool false) (by kernel_rfl) (fun _ => by kernel_rfl) ?_
          refine s_val (.bool false) (by kernel_rfl) (fun _ => by kernel_rfl) ?_
          refine s_val (.pointer (some ⟨b1, 1, none⟩)) (by kernel_rfl) (fun _ => by kernel_rfl) ?_
          refine s_load 0 ⟨b1, (coV c).cells, 26⟩ (off := 1) (.int .i64 c.parts) (by kernel_rfl) rfl (by kernel_rfl) (by kernel_rfl) (by kernel_rfl) ?_
          refine s_val (.int .i64 2) (by kernel_rfl) (fun _ => by kernel_rfl) ?_
          by_cases h5 : (2 : Int) < c.parts
          · skip
            refine s_dec (p := (2 : Int) < c.parts) true (by kernel_rfl) (fun _ => by kernel_rfl) (decide_eq_true (h5)) ?_
            refine s_val (.bool true) (by kernel_rfl) (fun _ => by kernel_rfl) ?_
            refine s_nil ?_
            refine fin_seq ?_
            refine ok_true (by kernel_rfl) ?_
            refine ok_seq ?_
            refine ok_region ?_
            refine s_val (.bool false) (by kernel_rfl) (fun _ => by kernel_rfl) ?_
            refine s_nil ?_
            refine fin_seq ?_
            refine ok_ret ?_
            refine fin_seq_ret ?_
            refine fin_ret (.bool false) Tryz.results15 (by kernel_rfl) ?_
            exact fun w hO => ⟨by rw [show c.may = false from Bool.eq_false_iff.2 fun q0 => by have q1 := Co.may_iff.1 q0; grind], hO.below⟩
          · skip
            refine s_dec (p := (2 : Int) < c.parts) false (by kernel_rfl) (fun _ => by kernel_rfl) (decide_eq_false (h5)) ?_
            refine s_val (.bool false) (by kernel_rfl) (fun _ => by kernel_rfl) ?_
            refine s_nil ?_
            refine fin_seq ?_
            refine ok_false (by kernel_rfl) ?_
            refine ok_skip ?_
            refine fin_seq ?_
            refine ok_seq ?_
            refine ok_seq ?_
            refine ok_anyh (by kernel_rfl) ?_
            refine h_take 0 [] _ (.pointer (some ⟨b1, 2, none⟩)) rfl (by kernel_rfl) (by kernel_rfl) (by kernel_rfl) (pq_seq (pq_seq pq_body)) (by kernel_rfl) (fun _ _ => by kernel_rfl) ?_
            refine h_load 1 [] _ 0 ⟨b1, (coV c).cells, 26⟩ (off := 2) (.agg #[.int .i64 c.v.maj, .int .i64 c.v.min, .int .i64 c.v.pat, .string (mkS c.v.pre), .string (mkS c.v.build)]) rfl (by kernel_rfl) (by kernel_rfl) (by kernel_rfl) (pq_seq (pq_seq pq_body)) (by kernel_rfl) rfl (by kernel_rfl) (by kernel_rfl) (by kernel_rfl) ?_
            refine h_take 3 [] _ (.pointer (some ⟨b1, 1, none⟩)) rfl (by kernel_rfl) (by kernel_rfl) (by kernel_rfl) (pq_seq (pq_seq pq_body)) (by kernel_rfl) (fun _ _ => by kernel_rfl) ?_
            refine h_load 4 [] _ 0 ⟨b1, (coV c).cells, 26⟩ (off := 1) (.int .i64 c.parts) rfl (by kernel_rfl) (by kernel_rfl) (by kernel_rfl) (pq_seq (pq_seq pq_body)) (by kernel_rfl) rfl (by kernel_rfl) (by kernel_rfl) (by kernel_rfl) ?_
            refine h_take 7 [] _ (.int .i64 0) rfl (by kernel_rfl) (by kernel_rfl) (by kernel_rfl) (pq_seq (pq_seq pq_body)) (by kernel_rfl) (fun _ _ => by kernel_rfl) ?_
            refine h_one 2 (by kernel_rfl) ?_
            refine hl_callx _ (k := 43) (args := #[.agg #[.int .i64 c.v.maj, .int .i64 c.v.min, .int .i64 c.v.pat, .string (mkS c.v.pre), .string (mkS c.v.build)]]) (fun v' L' => ∃ ob', L' = ob' ++ ([] ++ ([⟨b1, (coV c).cells, 26⟩])) ∧ ∃ g, v' = .slice (some ⟨g, 0, none⟩) 3 3 ∧ ob' = [⟨g, numsC c.v, 3⟩]) rfl (by kernel_rfl) (fun _ => by kernel_rfl) (fun w hO => (cnums_any c.v w).mono fun e w' ⟨v', ob', k1, k2, k3⟩ => ⟨v', _, k1, ⟨ob', rfl, k2⟩, Own.joinN hO k3⟩) (fun v' L' ⟨ob', e, _⟩ w hO => by subst e; exact Own.sub [] (Own.sub ob' hO)) (fun v1 L2 hv2 => ?_)
            obtain ⟨o1, rfl, hr1⟩ := hv2
            obtain ⟨g1, rfl, ho1⟩ := hr1
            refine h_cast (L' := (o1 ++ ([] : List Blk)) ++ ([⟨b1, (coV c).cells, 26⟩])) (List.append_assoc _ _ _).symm ?_
            refine h_take 5 (o1 ++ ([] : List Blk)) _ (.slice (some ⟨g1, 0 + (if 3 = c.parts.toNat then 0 else c.parts.toNat * 1), none⟩) (3 - c.parts.toNat : Nat) (3 - c.parts.toNat : Nat)) rfl (by kernel_rfl) (by kernel_rfl) (by kernel_rfl) (pq_seq (pq_seq pq_body)) (by kernel_rfl) (fun w _ => run_sllo (b := g1) (off := 0) (n := 3) (c := 3) (k := .i64) (j := c.parts) (e := 3) (sz := 1) rfl (by kernel_rfl) (by kernel_rfl) (by kernel_rfl) (by kernel_rfl) (by omega) (by omega) w) ?_
            refine h_take 6 (o1 ++ ([] : List Blk)) _ (.int .i64 ((3 - c.parts.toNat : Nat) : Int)) rfl (by kernel_rfl) (by kernel_rfl) (by kernel_rfl) (pq_seq (pq_seq pq_body)) (by kernel_rfl) (fun _ _ => by kernel_rfl) ?_
            refine h_done (by kernel_rfl) ?_
            refine fin_seq ?_
            refine ok_block ?_
            refine ok_cast (L' := [⟨g1, numsC c.v, 3⟩, ⟨b1, (coV c).cells, 26⟩]) (by rw [ho1]; rfl) ?_
            refine ok_loop (fun L f m => ∃ (k : Nat) (j : Nat → Value), (k ≤ 3 - c.parts.toNat ∧ ∀ j, c.parts.toNat ≤ j → j < c.parts.toNat + k → nth3 c.v.maj c.v.min c.v.pat j = 0) ∧ L = [⟨g1, numsC c.v, 3⟩, ⟨b1, (coV c).cells, 26⟩] ∧ f = upds j [(1, .pointer (some ⟨b1, 0, none⟩)), (35, .slice (some ⟨g1, 0 + (if 3 = c.parts.toNat then 0 else c.parts.toNat * 1), none⟩) (3 - c.parts.toNat : Nat) (3 - c.parts.toNat : Nat)), (36, .int .i64 ((3 - c.parts.toNat : Nat) : Int)), (37, .int .i64 (k : Int))] ∧ m = 3 - c.parts.toNat - k) (3 - c.parts.toNat - 0) ⟨0, _, ⟨Nat.zero_le _, fun j h1 h2 => absurd h2 (by omega)⟩, rfl, upds_self _ ⟨by kernel_rfl, by kernel_rfl, by kernel_rfl, by kernel_rfl, trivial⟩, rfl⟩ ?_
            rintro L f m ⟨k, j, hrel, rfl, rfl, rfl⟩
            have hkl := hrel.1
            refine ok_seq ?_
            refine ok_region ?_
            by_cases h6 : (k : Int) < ((3 - c.parts.toNat : Nat) : Int)
            · skip
              refine s_dec (p := (k : Int) < ((3 - c.parts.toNat : Nat) : Int)) true (by kernel_rfl) (fun _ => by kernel_rfl) (decide_eq_true (h6)) ?_
              refine s_nil ?_
              refine fin_seq ?_
              refine ok_seq ?_
              refine ok_true (by kernel_rfl) ?_
              refine ok_skip ?_
              refine fin_seq ?_
              refine ok_seq ?_
              refine ok_block ?_
              refine ok_seq ?_
              refine ok_region ?_
              refine s_val (.pointer (some ⟨g1, c.parts.toNat + k, none⟩)) (by kernel_rfl) (run_ixsl (b := g1) (off := 0 + (if 3 = c.parts.toNat then 0 else c.parts.toNat * 1)) (n := (3 - c.parts.toNat : Nat)) (c := (3 - c.parts.toNat : Nat)) (k := .i64) (j := (k : Int)) (e := 3) (sz := 1) rfl (by kernel_rfl) (by kernel_rfl) (by kernel_rfl) (by kernel_rfl) (by omega) (by omega) (by rw [if_neg (by omega)]; omega)) ?_
              refine s_load 0 ⟨g1, numsC c.v, 3⟩ (off := c.parts.toNat + k) (.int .i64 (nth3 c.v.maj c.v.min c.v.pat (c.parts.toNat + k))) (by kernel_rfl) rfl (by kernel_rfl) (by kernel_rfl) (rd_nums c.v _ (by omega)) ?_
              refine s_val (.int .i64 (nth3 c.v.maj c.v.min c.v.pat (c.parts.toNat + k))) (by kernel_rfl) (fun _ => by kernel_rfl) ?_
              refine s_nil ?_
              refine fin_seq ?_
              refine ok_seq ?_
              refine ok_region ?_
              refine s_val (.int .i64 (nth3 c.v.maj c.v.min c.v.pat (c.parts.toNat + k))) (by kernel_rfl) (fun _ => by kernel_rfl) ?_
              by_cases h7 : (nth3 c.v.maj c.v.min c.v.pat (c.parts.toNat + k) : Int) = 0
              · skip
                refine s_ndec (p := (nth3 c.v.maj c.v.min c.v.pat (c.parts.toNat + k) : Int) = 0) true (by kernel_rfl) (fun _ => by kernel_rfl) (decide_eq_true (h7)) ?_
                refine s_nil ?_
                refine fin_seq ?_
                refine ok_false (by kernel_rfl) ?_
                refine ok_skip ?_
                refine fin_block ?_
                refine fin_seq ?_
                refine ok_region ?_
                refine s_sum (k := .i64) (((k + 1 : Nat) : Int)) (by kernel_rfl) (fun _ => by kernel_rfl) (IntWalk.i64_in _ (by omega)) ?_
                refine s_val (.int .i64 ((k + 1 : Nat) : Int)) (by kernel_rfl) (fun _ => by kernel_rfl) ?_
                refine s_nil ?_
                exact fin_round (m' := 3 - c.parts.toNat - (k + 1)) (by omega) ⟨k + 1, _, ⟨by omega, zero_on hrel.2 h7⟩, rfl, upds_self _ ⟨by kernel_rfl, by kernel_rfl, by kernel_rfl, by kernel_rfl, trivial⟩, rfl⟩
              · skip
                refine s_ndec (p := (nth3 c.v.maj c.v.min c.v.pat (c.parts.toNat + k) : Int) = 0) false (by kernel_rfl) (fun _ => by kernel_rfl) (decide_eq_false (h7)) ?_
                refine s_nil ?_
                refine fin_seq ?_
                refine ok_true (by kernel_rfl) ?_
                refine ok_seq ?_
                refine ok_region ?_
                refine s_val (.bool false) (by kernel_rfl) (fun _ => by kernel_rfl) ?_
                refine s_nil ?_
                refine fin_seq ?_
                refine ok_ret ?_
                refine fin_block_ret ?_
                refine fin_seq_ret ?_
                refine fin_round_ret ?_
                refine fin_block_ret ?_
                refine fin_seq_ret ?_
                refine fin_ret (.bool false) Tryz.results15 (by kernel_rfl) ?_
                exact fun w hO => ⟨by rw [may_bad (k := k) (by omega) h7], hO.below⟩
            · skip
              refine s_dec (p := (k : Int) < ((3 - c.parts.toNat : Nat) : Int)) false (by kernel_rfl) (fun _ => by kernel_rfl) (decide_eq_false (h6)) ?_
              refine s_nil ?_
              refine fin_seq ?_
              refine ok_seq ?_
              refine ok_false (by kernel_rfl) ?_
              refine ok_exit ?_
              refine fin_seq_exit ?_
              refine fin_round_exit ?_
              refine fin_block_exit ?_
              refine fin_seq ?_
              refine ok_seq ?_
              refine ok_region ?_
              refine s_val (.pointer (some ⟨b1, 2, none⟩)) (by kernel_rfl) (fun _ => by kernel_rfl) ?_
              refine s_load 1 ⟨b1, (coV c).cells, 26⟩ (off := 2) (.agg #[.int .i64 c.v.maj, .int .i64 c.v.min, .int .i64 c.v.pat, .string (mkS c.v.pre), .string (mkS c.v.build)]) (by kernel_rfl) rfl (by kernel_rfl) (by kernel_rfl) (by kernel_rfl) ?_
              refine s_call (k := 47) (args := #[.agg #[.int .i64 c.v.maj, .int .i64 c.v.min, .int .i64 c.v.pat, .string (mkS c.v.pre), .string (mkS c.v.build)]]) (.bool c.v.may) (by kernel_rfl) (fun _ => by kernel_rfl) (fun w _ => may_any c.v w (Nat.lt_of_le_of_lt hc.1 (by decide)) (Nat.lt_of_le_of_lt hc.2 (by decide))) ?_
              refine s_val (.bool c.v.may) (by kernel_rfl) (fun _ => by kernel_rfl) ?_
              cases h8 : c.v.may with
              | true =>
                refine s_val (.pointer (some ⟨b1, 2, none⟩)) (by kernel_rfl) (fun _ => by kernel_rfl) ?_
                refine s_val (.pointer (some ⟨b1, 6, none⟩)) (by kernel_rfl) (fun _ => by kernel_rfl) ?_
                refine s_load 1 ⟨b1, (coV c).cells, 26⟩ (off := 6) (.string (mkS c.v.build)) (by kernel_rfl) rfl (by kernel_rfl) (by kernel_rfl) (by kernel_rfl) ?_
                by_cases h9 : (c.v.build : List UInt8) = []
                · skip
                  refine s_val (.bool true) (by kernel_rfl) (run_streql (a := c.v.build) (b := ([])) rfl (by kernel_rfl) (by kernel_rfl) (decide_eq_true (h9))) ?_
                  refine s_val (.bool true) (by kernel_rfl) (fun _ => by kernel_rfl) ?_
                  refine s_val (.bool true) (by kernel_rfl) (fun _ => by kernel_rfl) ?_
                  refine s_val (.pointer (some ⟨b1, 2, none⟩)) (by kernel_rfl) (fun _ => by kernel_rfl) ?_
                  refine s_val (.pointer (some ⟨b1, 5, none⟩)) (by kernel_rfl) (fun _ => by kernel_rfl) ?_
                  refine s_load 1 ⟨b1, (coV c).cells, 26⟩ (off := 5) (.string (mkS c.v.pre)) (by kernel_rfl) rfl (by kernel_rfl) (by kernel_rfl) (by kernel_rfl) ?_
                  by_cases h10 : (c.v.pre : List UInt8) = []
                  · skip
                    refine s_val (.bool true) (by kernel_rfl) (run_streql (a := c.v.pre) (b := ([])) rfl (by kernel_rfl) (by kernel_rfl) (decide_eq_true (h10))) ?_
                    refine s_val (.bool true) (by kernel_rfl) (fun _ => by kernel_rfl) ?_
                    refine s_skip (by kernel_rfl) ?_
                    refine s_skip (by kernel_rfl) ?_
                    refine s_skip (by kernel_rfl) ?_
                    refine s_val (.bool true) (by kernel_rfl) (fun _ => by kernel_rfl) ?_
                    refine s_val (.bool true) (by kernel_rfl) (fun _ => by kernel_rfl) ?_
                    refine s_val (.bool true) (by kernel_rfl) (fun _ => by kernel_rfl) ?_
                    refine s_nil ?_
                    refine fin_seq ?_
                    refine ok_ret ?_
                    refine fin_ret (.bool true) Tryz.results15 (by kernel_rfl) ?_
                    exact fun w hO => ⟨by rw [may_go ⟨by omega, by omega⟩ (fun _ => by omega) (fun _ => by omega) (fun j q1 q2 => hrel.2 j q1 (by omega))]; simp [h1, h2, h3, h4, h5, h6, h8, h9, h10], hO.below⟩
                  · skip
                    refine s_val (.bool false) (by kernel_rfl) (run_streql (a := c.v.pre) (b := ([])) rfl (by kernel_rfl) (by kernel_rfl) (decide_eq_false (h10))) ?_
                    refine s_val (.bool false) (by kernel_rfl) (fun _ => by kernel_rfl) ?_
                    refine s_val (.pointer (some ⟨b1, 1, none⟩)) (by kernel_rfl) (fun _ => by kernel_rfl) ?_
                    refine s_load 1 ⟨b1, (coV c).cells, 26⟩ (off := 1) (.int .i64 c.parts) (by kernel_rfl) rfl (by kernel_rfl) (by kernel_rfl) (by kernel_rfl) ?_
                    by_cases h11 : (c.parts : Int) = 3
                    · skip
                      refine s_dec (p := (c.parts : Int) = 3) true (by kernel_rfl) (fun _ => by kernel_rfl) (decide_eq_true (h11)) ?_
                      refine s_val (.bool true) (by kernel_rfl) (fun _ => by kernel_rfl) ?_
                      refine s_val (.bool true) (by kernel_rfl) (fun _ => by kernel_rfl) ?_
                      refine s_val (.bool true) (by kernel_rfl) (fun _ => by kernel_rfl) ?_
                      refine s_nil ?_
                      refine fin_seq ?_
                      refine ok_ret ?_
                      refine fin_ret (.bool true) Tryz.results15 (by kernel_rfl) ?_
                      exact fun w hO => ⟨by rw [may_go ⟨by omega, by omega⟩ (fun _ => by omega) (fun _ => by omega) (fun j q1 q2 => hrel.2 j q1 (by omega))]; simp [h1, h2, h3, h4, h5, h6, h8, h9, h10, h11], hO.below⟩
                    · skip
                      refine s_dec (p := (c.parts : Int) = 3) false (by kernel_rfl) (fun _ => by kernel_rfl) (decide_eq_false (h11)) ?_
                      refine s_val (.bool false) (by kernel_rfl) (fun _ => by kernel_rfl) ?_
                      refine s_val (.bool false) (by kernel_rfl) (fun _ => by kernel_rfl) ?_
                      refine s_val (.bool false) (by kernel_rfl) (fun _ => by kernel_rfl) ?_
                      refine s_nil ?_
                      refine fin_seq ?_
                      refine ok_ret ?_
                      refine fin_ret (.bool false) Tryz.results15 (by kernel_rfl) ?_
                      exact fun w hO => ⟨by rw [may_go ⟨by omega, by omega⟩ (fun _ => by omega) (fun _ => by omega) (fun j q1 q2 => hrel.2 j q1 (by omega))]; simp [h1, h2, h3, h4, h5, h6, h8, h9, h10, h11], hO.below⟩
                · skip
                  refine s_val (.bool false) (by kernel_rfl) (run_streql (a := c.v.build) (b := ([])) rfl (by kernel_rfl) (by kernel_rfl) (decide_eq_false (h9))) ?_
                  refine s_val (.bool false) (by kernel_rfl) (fun _ => by kernel_rfl) ?_
                  refine s_val (.bool false) (by kernel_rfl) (fun _ => by kernel_rfl) ?_
                  refine s_skip (by kernel_rfl) ?_
                  refine s_skip (by kernel_rfl) ?_
                  refine s_skip (by kernel_rfl) ?_
                  refine s_skip (by kernel_rfl) ?_
                  refine s_skip (by kernel_rfl) ?_
                  refine s_skip (by kernel_rfl) ?_
                  refine s_skip (by kernel_rfl) ?_
                  refine s_skip (by kernel_rfl) ?_
                  refine s_skip (by kernel_rfl) ?_
                  refine s_val (.bool false) (by kernel_rfl) (fun _ => by kernel_rfl) ?_
                  refine s_val (.bool false) (by kernel_rfl) (fun _ => by kernel_rfl) ?_
                  refine s_nil ?_
                  refine fin_seq ?_
                  refine ok_ret ?_
                  refine fin_ret (.bool false) Tryz.results15 (by kernel_rfl) ?_
                  exact fun w hO => ⟨by rw [may_go ⟨by omega, by omega⟩ (fun _ => by omega) (fun _ => by omega) (fun j q1 q2 => hrel.2 j q1 (by omega))]; simp [h1, h2, h3, h4, h5, h6, h8, h9], hO.below⟩
              | false =>
                refine s_skip (by kernel_rfl) ?_
                refine s_skip (by kernel_rfl) ?_
                refine s_skip (by kernel_rfl) ?_
                refine s_skip (by kernel_rfl) ?_
                refine s_val (.bool false) (by kernel_rfl) (fun _ => by kernel_rfl) ?_
                refine s_val (.bool false) (by kernel_rfl) (fun _ => by kernel_rfl) ?_
                refine s_skip (by kernel_rfl) ?_
                refine s_skip (by kernel_rfl) ?_
                refine s_skip (by kernel_rfl) ?_
                refine s_skip (by kernel_rfl) ?_
                refine s_skip (by kernel_rfl) ?_
                refine s_skip (by kernel_rfl) ?_
                refine s_skip (by kernel_rfl) ?_
                refine s_skip (by kernel_rfl) ?_
                refine s_skip (by kernel_rfl) ?_
                refine s_val (.bool false) (by kernel_rfl) (fun _ => by kernel_rfl) ?_
                refine s_val (.bool false) (by kernel_rfl) (fun _ => by kernel_rfl) ?_
                refine s_nil ?_
                refine fin_seq ?_
                refine ok_ret ?_
                refine fin_ret (.bool false) Tryz.results15 (by kernel_rfl) ?_
                exact fun w hO => ⟨by rw [may_go ⟨by omega, by omega⟩ (fun _ => by omega) (fun _ => by omega) (fun j q1 q2 => hrel.2 j q1 (by omega))]; simp [h1, h2, h3, h4, h5, h6, h8], hO.below⟩
  · skip
    refine s_dec (p := (c.op : Int) = 9) false (by kernel_rfl) (fun _ => by kernel_rfl) (decide_eq_false (h1)) ?_
    refine s_nil ?_
    refine fin_seq ?_
    refine ok_false (by kernel_rfl) ?_
    refine ok_skip ?_
    refine fin_seq ?_
    refine ok_seq ?_
    refine ok_seq ?_
    refine ok_region ?_
    refine s_val (.pointer (some ⟨b1, 0, none⟩)) (by kernel_rfl) (fun _ => by kernel_rfl) ?_
    refine s_load 0 ⟨b1, (coV c).cells, 26⟩ (off := 0) (.int .i64 c.op) (by kernel_rfl) rfl (by kernel_rfl) (by kernel_rfl) (by kernel_rfl) ?_
    by_cases h12 : (c.op : Int) < 1
    · skip
      refine s_dec (p := (c.op : Int) < 1) true (by kernel_rfl) (fun _ => by kernel_rfl) (decide_eq_true (h12)) ?_
      refine s_val (.bool true) (by kernel_rfl) (fun _ => by kernel_rfl) ?_
      refine s_skip (by kernel_rfl) ?_
      refine s_skip (by kernel_rfl) ?_
      refine s_skip (by kernel_rfl) ?_
      refine s_val (.bool true) (by kernel_rfl) (fun _ => by kernel_rfl) ?_
      refine s_val (.bool true) (by kernel_rfl) (fun _ => by kernel_rfl) ?_
      refine s_skip (by kernel_rfl) ?_
      refine s_skip (by kernel_rfl) ?_
      refine s_skip (by kernel_rfl) ?_
      refine s_skip (by kernel_rfl) ?_
      refine s_val (.bool true) (by kernel_rfl) (fun _ => by kernel_rfl) ?_
      refine s_val (.bool true) (by kernel_rfl) (fun _ => by kernel_rfl) ?_
      refine s_skip (by kernel_rfl) ?_
      refine s_skip (by kernel_rfl) ?_
      refine s_skip (by kernel_rfl) ?_
      refine s_skip (by kernel_rfl) ?_
      refine s_val (.bool true) (by kernel_rfl) (fun _ => by kernel_rfl) ?_
      refine s_nil ?_
      refine fin_seq ?_
      refine ok_true (by kernel_rfl) ?_
      refine ok_seq ?_
      refine ok_region ?_
      refine s_val (.bool false) (by kernel_rfl) (fun _ => by kernel_rfl) ?_
      refine s_nil ?_
      refine fin_seq ?_
      refine ok_ret ?_
      refine fin_seq_ret ?_
      refine fin_ret (.bool false) Tryz.results15 (by kernel_rfl) ?_
      exact fun w hO => ⟨by rw [show c.may = false from Bool.eq_false_iff.2 fun q0 => by have q1 := Co.may_iff.1 q0; grind], hO.below⟩
    · skip
      refine s_dec (p := (c.op : Int) < 1) false (by kernel_rfl) (fun _ => by kernel_rfl) (decide_eq_false (h12)) ?_
      refine s_val (.bool false) (by kernel_rfl) (fun _ => by kernel_rfl) ?_
      refine s_val (.pointer (some ⟨b1, 0, none⟩)) (by kernel_rfl) (fun _ => by kernel_rfl) ?_
      refine s_load 0 ⟨b1, (coV c).cells, 26⟩ (off := 0) (.int .i64 c.op) (by kernel_rfl) rfl (by kernel_rfl) (by kernel_rfl) (by kernel_rfl) ?_
      by_cases h13 : (9 : Int) < c.op
      · skip
        refine s_dec (p := (9 : Int) < c.op) true (by kernel_rfl) (fun _ => by kernel_rfl) (decide_eq_true (h13)) ?_
        refine s_val (.bool true) (by kernel_rfl) (fun _ => by kernel_rfl) ?_
        refine s_val (.bool true) (by kernel_rfl) (fun _ => by kernel_rfl) ?_
        refine s_skip (by kernel_rfl) ?_
        refine s_skip (by kernel_rfl) ?_
        refine s_skip (by kernel_rfl) ?_
        refine s_skip (by kernel_rfl) ?_
        refine s_val (.bool true) (by kernel_rfl) (fun _ => by kernel_rfl) ?_
        refine s_val (.bool true) (by kernel_rfl) (fun _ => by kernel_rfl) ?_
        refine s_skip (by kernel_rfl) ?_
        refine s_skip (by kernel_rfl) ?_
        refine s_skip (by kernel_rfl) ?_
        refine s_skip (by kernel_rfl) ?_
        refine s_val (.bool true) (by kernel_rfl) (fun _ => by kernel_rfl) ?_
        refine s_nil ?_
        refine fin_seq ?_
        refine ok_true (by kernel_rfl) ?_
        refine ok_seq ?_
        refine ok_region ?_
        refine s_val (.bool false) (by kernel_rfl) (fun _ => by kernel_rfl) ?_
        refine s_nil ?_
        refine fin_seq ?_
        refine ok_ret ?_
        refine fin_seq_ret ?_
        refine fin_ret (.bool false) Tryz.results15 (by kernel_rfl) ?_
        exact fun w hO => ⟨by rw [show c.may = false from Bool.eq_false_iff.2 fun q0 => by have q1 := Co.may_iff.1 q0; grind], hO.below⟩
      · skip
        refine s_dec (p := (9 : Int) < c.op) false (by kernel_rfl) (fun _ => by kernel_rfl) (decide_eq_false (h13)) ?_
        refine s_val (.bool false) (by kernel_rfl) (fun _ => by kernel_rfl) ?_
        refine s_val (.bool false) (by kernel_rfl) (fun _ => by kernel_rfl) ?_
        refine s_val (.pointer (some ⟨b1, 1, none⟩)) (by kernel_rfl) (fun _ => by kernel_rfl) ?_
        refine s_load 0 ⟨b1, (coV c).cells, 26⟩ (off := 1) (.int .i64 c.parts) (by kernel_rfl) rfl (by kernel_rfl) (by kernel_rfl) (by kernel_rfl) ?_
        refine s_val (.int .i64 1) (by kernel_rfl) (fun _ => by kernel_rfl) ?_
        by_cases h14 : (c.parts : Int) < 1
        · skip
          refine s_dec (p := (c.parts : Int) < 1) true (by kernel_rfl) (fun _ => by kernel_rfl) (decide_eq_true (h14)) ?_
          refine s_val (.bool true) (by kernel_rfl) (fun _ => by kernel_rfl) ?_
          refine s_val (.bool true) (by kernel_rfl) (fun _ => by kernel_rfl) ?_
          refine s_skip (by kernel_rfl) ?_
          refine s_skip (by kernel_rfl) ?_
          refine s_skip (by kernel_rfl) ?_
          refine s_skip (by kernel_rfl) ?_
          refine s_val (.bool true) (by kernel_rfl) (fun _ => by kernel_rfl) ?_
          refine s_nil ?_
          refine fin_seq ?_
          refine ok_true (by kernel_rfl) ?_
          refine ok_seq ?_
          refine ok_region ?_
          refine s_val (.bool false) (by kernel_rfl) (fun _ => by kernel_rfl) ?_
          refine s_nil ?_
          refine fin_seq ?_
          refine ok_ret ?_
          refine fin_seq_ret ?_
          refine fin_ret (.bool false) Tryz.results15 (by kernel_rfl) ?_
          exact fun w hO => ⟨by rw [show c.may = false from Bool.eq_false_iff.2 fun q0 => by have q1 := Co.may_iff.1 q0; grind], hO.below⟩
        · skip
          refine s_dec (p := (c.parts : Int) < 1) false (by kernel_rfl) (fun _ => by kernel_rfl) (decide_eq_false (h14)) ?_
          refine s_val (.bool false) (by kernel_rfl) (fun _ => by kernel_rfl) ?_
          refine s_val (.bool false) (by kernel_rfl) (fun _ => by kernel_rfl) ?_
          refine s_val (.pointer (some ⟨b1, 1, none⟩)) (by kernel_rfl) (fun _ => by kernel_rfl) ?_
          refine s_load 0 ⟨b1, (coV c).cells, 26⟩ (off := 1) (.int .i64 c.parts) (by kernel_rfl) rfl (by kernel_rfl) (by kernel_rfl) (by kernel_rfl) ?_
          refine s_val (.int .i64 3) (by kernel_rfl) (fun _ => by kernel_rfl) ?_
          by_cases h15 : (3 : Int) < c.parts
          · skip
            refine s_dec (p := (3 : Int) < c.parts) true (by kernel_rfl) (fun _ => by kernel_rfl) (decide_eq_true (h15)) ?_
            refine s_val (.bool true) (by kernel_rfl) (fun _ => by kernel_rfl) ?_
            refine s_nil ?_
            refine fin_seq ?_
            refine ok_true (by kernel_rfl) ?_
            refine ok_seq ?_
            refine ok_region ?_
            refine s_val (.bool false) (by kernel_rfl) (fun _ => by kernel_rfl) ?_
            refine s_nil ?_
            refine fin_seq ?_
            refine ok_ret ?_
            refine fin_seq_ret ?_
            refine fin_ret (.bool false) Tryz.results15 (by kernel_rfl) ?_
            exact fun w hO => ⟨by rw [show c.may = false from Bool.eq_false_iff.2 fun q0 => by have q1 := Co.may_iff.1 q0; grind], hO.below⟩
          · skip
            refine s_dec (p := (3 : Int) < c.parts) false (by kernel_rfl) (fun _ => by kernel_rfl) (decide_eq_false (h15)) ?_
            refine s_val (.bool false) (by kernel_rfl) (fun _ => by kernel_rfl) ?_
            refine s_nil ?_
            refine fin_seq ?_
            refine ok_false (by kernel_rfl) ?_
            refine ok_skip ?_
            refine fin_seq ?_
            refine ok_seq ?_
            refine ok_seq ?_
            refine ok_anyh (by kernel_rfl) ?_
            refine h_take 0 [] _ (.pointer (some ⟨b1, 2, none⟩)) rfl (by kernel_rfl) (by kernel_rfl) (by kernel_rfl) (pq_seq (pq_seq pq_body)) (by kernel_rfl) (fun _ _ => by kernel_rfl) ?_
            refine h_load 1 [] _ 0 ⟨b1, (coV c).cells, 26⟩ (off := 2) (.agg #[.int .i64 c.v.maj, .int .i64 c.v.min, .int .i64 c.v.pat, .string (mkS c.v.pre), .string (mkS c.v.build)]) rfl (by kernel_rfl) (by kernel_rfl) (by kernel_rfl) (pq_seq (pq_seq pq_body)) (by kernel_rfl) rfl (by kernel_rfl) (by kernel_rfl) (by kernel_rfl) ?_
            refine h_take 3 [] _ (.pointer (some ⟨b1, 1, none⟩)) rfl (by kernel_rfl) (by kernel_rfl) (by kernel_rfl) (pq_seq (pq_seq pq_body)) (by kernel_rfl) (fun _ _ => by kernel_rfl) ?_
            refine h_load 4 [] _ 0 ⟨b1, (coV c).cells, 26⟩ (off := 1) (.int .i64 c.parts) rfl (by kernel_rfl) (by kernel_rfl) (by kernel_rfl) (pq_seq (pq_seq pq_body)) (by kernel_rfl) rfl (by kernel_rfl) (by kernel_rfl) (by kernel_rfl) ?_
            refine h_take 7 [] _ (.int .i64 0) rfl (by kernel_rfl) (by kernel_rfl) (by kernel_rfl) (pq_seq (pq_seq pq_body)) (by kernel_rfl) (fun _ _ => by kernel_rfl) ?_
            refine h_one 2 (by kernel_rfl) ?_
            refine hl_callx _ (k := 43) (args := #[.agg #[.int .i64 c.v.maj, .int .i64 c.v.min, .int .i64 c.v.pat, .string (mkS c.v.pre), .string (mkS c.v.build)]]) (fun v' L' => ∃ ob', L' = ob' ++ ([] ++ ([⟨b1, (coV c).cells, 26⟩])) ∧ ∃ g, v' = .slice (some ⟨g, 0, none⟩) 3 3 ∧ ob' = [⟨g, numsC c.v, 3⟩]) rfl (by kernel_rfl) (fun _ => by kernel_rfl) (fun w hO => (cnums_any c.v w).mono fun e w' ⟨v', ob', k1, k2, k3⟩ => ⟨v', _, k1, ⟨ob', rfl, k2⟩, Own.joinN hO k3⟩) (fun v' L' ⟨ob', e, _⟩ w hO => by subst e; exact Own.sub [] (Own.sub ob' hO)) (fun v1 L2 hv2 => ?_)
            obtain ⟨o1, rfl, hr1⟩ := hv2
            obtain ⟨g1, rfl, ho1⟩ := hr1
            refine h_cast (L' := (o1 ++ ([] : List Blk)) ++ ([⟨b1, (coV c).cells, 26⟩])) (List.append_assoc _ _ _).symm ?_
            refine h_take 5 (o1 ++ ([] : List Blk)) _ (.slice (some ⟨g1, 0 + (if 3 = c.parts.toNat then 0 else c.parts.toNat * 1), none⟩) (3 - c.parts.toNat : Nat) (3 - c.parts.toNat : Nat)) rfl (by kernel_rfl) (by kernel_rfl) (by kernel_rfl) (pq_seq (pq_seq pq_body)) (by kernel_rfl) (fun w _ => run_sllo (b := g1) (off := 0) (n := 3) (c := 3) (k := .i64) (j := c.parts) (e := 3) (sz := 1) rfl (by kernel_rfl) (by kernel_rfl) (by kernel_rfl) (by kernel_rfl) (by omega) (by omega) w) ?_
            refine h_take 6 (o1 ++ ([] : List Blk)) _ (.int .i64 ((3 - c.parts.toNat : Nat) : Int)) rfl (by kernel_rfl) (by kernel_rfl) (by kernel_rfl) (pq_seq (pq_seq pq_body)) (by kernel_rfl) (fun _ _ => by kernel_rfl) ?_
            refine h_done (by kernel_rfl) ?_
            refine fin_seq ?_
            refine ok_block ?_
            refine ok_cast (L' := [⟨g1, numsC c.v, 3⟩, ⟨b1, (coV c).cells, 26⟩]) (by rw [ho1]; rfl) ?_
            refine ok_loop (fun L f m => ∃ (k : Nat) (j : Nat → Value), (k ≤ 3 - c.parts.toNat ∧ ∀ j, c.parts.toNat ≤ j → j < c.parts.toNat + k → nth3 c.v.maj c.v.min c.v.pat j = 0) ∧ L = [⟨g1, numsC c.v, 3⟩, ⟨b1, (coV c).cells, 26⟩] ∧ f = upds j [(1, .pointer (some ⟨b1, 0, none⟩)), (35, .slice (some ⟨g1, 0 + (if 3 = c.parts.toNat then 0 else c.parts.toNat * 1), none⟩) (3 - c.parts.toNat : Nat) (3 - c.parts.toNat : Nat)), (36, .int .i64 ((3 - c.parts.toNat : Nat) : Int)), (37, .int .i64 (k : Int))] ∧ m = 3 - c.parts.toNat - k) (3 - c.parts.toNat - 0) ⟨0, _, ⟨Nat.zero_le _, fun j h1 h2 => absurd h2 (by omega)⟩, rfl, upds_self _ ⟨by kernel_rfl, by kernel_rfl, by kernel_rfl, by kernel_rfl, trivial⟩, rfl⟩ ?_
            rintro L f m ⟨k, j, hrel, rfl, rfl, rfl⟩
            have hkl := hrel.1
            refine ok_seq ?_
            refine ok_region ?_
            by_cases h16 : (k : Int) < ((3 - c.parts.toNat : Nat) : Int)
            · skip
              refine s_dec (p := (k : Int) < ((3 - c.parts.toNat : Nat) : Int)) true (by kernel_rfl) (fun _ => by kernel_rfl) (decide_eq_true (h16)) ?_
              refine s_nil ?_
              refine fin_seq ?_
              refine ok_seq ?_
              refine ok_true (by kernel_rfl) ?_
              refine ok_skip ?_
              refine fin_seq ?_
              refine ok_seq ?_
              refine ok_block ?_
              refine ok_seq ?_
              refine ok_region ?_
              refine s_val (.pointer (some ⟨g1, c.parts.toNat + k, none⟩)) (by kernel_rfl) (run_ixsl (b := g1) (off := 0 + (if 3 = c.parts.toNat then 0 else c.parts.toNat * 1)) (n := (3 - c.parts.toNat : Nat)) (c := (3 - c.parts.toNat : Nat)) (k := .i64) (j := (k : Int)) (e := 3) (sz := 1) rfl (by kernel_rfl) (by kernel_rfl) (by kernel_rfl) (by kernel_rfl) (by omega) (by omega) (by rw [if_neg (by omega)]; omega)) ?_
              refine s_load 0 ⟨g1, numsC c.v, 3⟩ (off := c.parts.toNat + k) (.int .i64 (nth3 c.v.maj c.v.min c.v.pat (c.parts.toNat + k))) (by kernel_rfl) rfl (by kernel_rfl) (by kernel_rfl) (rd_nums c.v _ (by omega)) ?_
              refine s_val (.int .i64 (nth3 c.v.maj c.v.min c.v.pat (c.parts.toNat + k))) (by kernel_rfl) (fun _ => by kernel_rfl) ?_
              refine s_nil ?_
              refine fin_seq ?_
              refine ok_seq ?_
              refine ok_region ?_
              refine s_val (.int .i64 (nth3 c.v.maj c.v.min c.v.pat (c.parts.toNat + k))) (by kernel_rfl) (fun _ => by kernel_rfl) ?_
              by_cases h17 : (nth3 c.v.maj c.v.min c.v.pat (c.parts.toNat + k) : Int) = 0
              · skip
                refine s_ndec (p := (nth3 c.v.maj c.v.min c.v.pat (c.parts.toNat + k) : Int) = 0) true (by kernel_rfl) (fun _ => by kernel_rfl) (decide_eq_true (h17)) ?_
                refine s_nil ?_
                refine fin_seq ?_
                refine ok_false (by kernel_rfl) ?_
                refine ok_skip ?_
                refine fin_block ?_
                refine fin_seq ?_
                refine ok_region ?_
                refine s_sum (k := .i64) (((k + 1 : Nat) : Int)) (by kernel_rfl) (fun _ => by kernel_rfl) (IntWalk.i64_in _ (by omega)) ?_
                refine s_val (.int .i64 ((k + 1 : Nat) : Int)) (by kernel_rfl) (fun _ => by kernel_rfl) ?_
                refine s_nil ?_
                exact fin_round (m' := 3 - c.parts.toNat - (k + 1)) (by omega) ⟨k + 1, _, ⟨by omega, zero_on hrel.2 h17⟩, rfl, upds_self _ ⟨by kernel_rfl, by kernel_rfl, by kernel_rfl, by kernel_rfl, trivial⟩, rfl⟩
              · skip
                refine s_ndec (p := (nth3 c.v.maj c.v.min c.v.pat (c.parts.toNat + k) : Int) = 0) false (by kernel_rfl) (fun _ => by kernel_rfl) (decide_eq_false (h17)) ?_
                refine s_nil ?_
                refine fin_seq ?_
                refine ok_true (by kernel_rfl) ?_
                refine ok_seq ?_
                refine ok_region ?_
                refine s_val (.bool false) (by kernel_rfl) (fun _ => by kernel_rfl) ?_
                refine s_nil ?_
                refine fin_seq ?_
                refine ok_ret ?_
                refine fin_block_ret ?_
                refine fin_seq_ret ?_
                refine fin_round_ret ?_
                refine fin_block_ret ?_
                refine fin_seq_ret ?_
                refine fin_ret (.bool false) Tryz.results15 (by kernel_rfl) ?_
                exact fun w hO => ⟨by rw [may_bad (k := k) (by omega) h17], hO.below⟩
            · skip
              refine s_dec (p := (k : Int) < ((3 - c.parts.toNat : Nat) : Int)) false (by kernel_rfl) (fun _ => by kernel_rfl) (decide_eq_false (h16)) ?_
              refine s_nil ?_
              refine fin_seq ?_
              refine ok_seq ?_
              refine ok_false (by kernel_rfl) ?_
              refine ok_exit ?_
              refine fin_seq_exit ?_
              refine fin_round_exit ?_
              refine fin_block_exit ?_
              refine fin_seq ?_
              refine ok_seq ?_
              refine ok_region ?_
              refine s_val (.pointer (some ⟨b1, 2, none⟩)) (by kernel_rfl) (fun _ => by kernel_rfl) ?_
              refine s_load 1 ⟨b1, (coV c).cells, 26⟩ (off := 2) (.agg #[.int .i64 c.v.maj, .int .i64 c.v.min, .int .i64 c.v.pat, .string (mkS c.v.pre), .string (mkS c.v.build)]) (by kernel_rfl) rfl (by kernel_rfl) (by kernel_rfl) (by kernel_rfl) ?_
              refine s_call (k := 47) (args := #[.agg #[.int .i64 c.v.maj, .int .i64 c.v.min, .int .i64 c.v.pat, .string (mkS c.v.pre), .string (mkS c.v.build)]]) (.bool c.v.may) (by kernel_rfl) (fun _ => by kernel_rfl) (fun w _ => may_any c.v w (Nat.lt_of_le_of_lt hc.1 (by decide)) (Nat.lt_of_le_of_lt hc.2 (by decide))) ?_
              refine s_val (.bool c.v.may) (by kernel_rfl) (fun _ => by kernel_rfl) ?_
              cases h18 : c.v.may with
              | true =>
                refine s_val (.pointer (some ⟨b1, 2, none⟩)) (by kernel_rfl) (fun _ => by kernel_rfl) ?_
                refine s_val (.pointer (some ⟨b1, 6, none⟩)) (by kernel_rfl) (fun _ => by kernel_rfl) ?_
                refine s_load 1 ⟨b1, (coV c).cells, 26⟩ (off := 6) (.string (mkS c.v.build)) (by kernel_rfl) rfl (by kernel_rfl) (by kernel_rfl) (by kernel_rfl) ?_
                by_cases h19 : (c.v.build : List UInt8) = []
                · skip
                  refine s_val (.bool true) (by kernel_rfl) (run_streql (a := c.v.build) (b := ([])) rfl (by kernel_rfl) (by kernel_rfl) (decide_eq_true (h19))) ?_
                  refine s_val (.bool true) (by kernel_rfl) (fun _ => by kernel_rfl) ?_
                  refine s_val (.bool true) (by kernel_rfl) (fun _ => by kernel_rfl) ?_
                  refine s_val (.pointer (some ⟨b1, 2, none⟩)) (by kernel_rfl) (fun _ => by kernel_rfl) ?_
                  refine s_val (.pointer (some ⟨b1, 5, none⟩)) (by kernel_rfl) (fun _ => by kernel_rfl) ?_
                  refine s_load 1 ⟨b1, (coV c).cells, 26⟩ (off := 5) (.string (mkS c.v.pre)) (by kernel_rfl) rfl (by kernel_rfl) (by kernel_rfl) (by kernel_rfl) ?_
                  by_cases h20 : (c.v.pre : List UInt8) = []
                  · skip
                    refine s_val (.bool true) (by kernel_rfl) (run_streql (a := c.v.pre) (b := ([])) rfl (by kernel_rfl) (by kernel_rfl) (decide_eq_true (h20))) ?_
                    refine s_val (.bool true) (by kernel_rfl) (fun _ => by kernel_rfl) ?_
                    refine s_skip (by kernel_rfl) ?_
                    refine s_skip (by kernel_rfl) ?_
                    refine s_skip (by kernel_rfl) ?_
                    refine s_val (.bool true) (by kernel_rfl) (fun _ => by kernel_rfl) ?_
                    refine s_val (.bool true) (by kernel_rfl) (fun _ => by kernel_rfl) ?_
                    refine s_val (.bool true) (by kernel_rfl) (fun _ => by kernel_rfl) ?_
                    refine s_nil ?_
                    refine fin_seq ?_
                    refine ok_ret ?_
                    refine fin_ret (.bool true) Tryz.results15 (by kernel_rfl) ?_
                    exact fun w hO => ⟨by rw [may_go ⟨by omega, by omega⟩ (fun _ => by omega) (fun _ => by omega) (fun j q1 q2 => hrel.2 j q1 (by omega))]; simp [h1, h12, h13, h14, h15, h16, h18, h19, h20], hO.below⟩
                  · skip
                    refine s_val (.bool false) (by kernel_rfl) (run_streql (a := c.v.pre) (b := ([])) rfl (by kernel_rfl) (by kernel_rfl) (decide_eq_false (h20))) ?_
                    refine s_val (.bool false) (by kernel_rfl) (fun _ => by kernel_rfl) ?_
                    refine s_val (.pointer (some ⟨b1, 1, none⟩)) (by kernel_rfl) (fun _ => by kernel_rfl) ?_
                    refine s_load 1 ⟨b1, (coV c).cells, 26⟩ (off := 1) (.int .i64 c.parts) (by kernel_rfl) rfl (by kernel_rfl) (by kernel_rfl) (by kernel_rfl) ?_
                    by_cases h21 : (c.parts : Int) = 3
                    · skip
                      refine s_dec (p := (c.parts : Int) = 3) true (by kernel_rfl) (fun _ => by kernel_rfl) (decide_eq_true (h21)) ?_
                      refine s_val (.bool true) (by kernel_rfl) (fun _ => by kernel_rfl) ?_
                      refine s_val (.bool true) (by kernel_rfl) (fun _ => by kernel_rfl) ?_
                      refine s_val (.bool true) (by kernel_rfl) (fun _ => by kernel_rfl) ?_
                      refine s_nil ?_
                      refine fin_seq ?_
                      refine ok_ret ?_
                      refine fin_ret (.bool true) Tryz.results15 (by kernel_rfl) ?_
                      exact fun w hO => ⟨by rw [may_go ⟨by omega, by omega⟩ (fun _ => by omega) (fun _ => by omega) (fun j q1 q2 => hrel.2 j q1 (by omega))]; simp [h1, h12, h13, h14, h15, h16, h18, h19, h20, h21], hO.below⟩
                    · skip
                      refine s_dec (p := (c.parts : Int) = 3) false (by kernel_rfl) (fun _ => by kernel_rfl) (decide_eq_false (h21)) ?_
                      refine s_val (.bool false) (by kernel_rfl) (fun _ => by kernel_rfl) ?_
                      refine s_val (.bool false) (by kernel_rfl) (fun _ => by kernel_rfl) ?_
                      refine s_val (.bool false) (by kernel_rfl) (fun _ => by kernel_rfl) ?_
                      refine s_nil ?_
                      refine fin_seq ?_
                      refine ok_ret ?_
                      refine fin_ret (.bool false) Tryz.results15 (by kernel_rfl) ?_
                      exact fun w hO => ⟨by rw [may_go ⟨by omega, by omega⟩ (fun _ => by omega) (fun _ => by omega) (fun j q1 q2 => hrel.2 j q1 (by omega))]; simp [h1, h12, h13, h14, h15, h16, h18, h19, h20, h21], hO.below⟩
                · skip
                  refine s_val (.bool false) (by kernel_rfl) (run_streql (a := c.v.build) (b := ([])) rfl (by kernel_rfl) (by kernel_rfl) (decide_eq_false (h19))) ?_
                  refine s_val (.bool false) (by kernel_rfl) (fun _ => by kernel_rfl) ?_
                  refine s_val (.bool false) (by kernel_rfl) (fun _ => by kernel_rfl) ?_
                  refine s_skip (by kernel_rfl) ?_
                  refine s_skip (by kernel_rfl) ?_
                  refine s_skip (by kernel_rfl) ?_
                  refine s_skip (by kernel_rfl) ?_
                  refine s_skip (by kernel_rfl) ?_
                  refine s_skip (by kernel_rfl) ?_
                  refine s_skip (by kernel_rfl) ?_
                  refine s_skip (by kernel_rfl) ?_
                  refine s_skip (by kernel_rfl) ?_
                  refine s_val (.bool false) (by kernel_rfl) (fun _ => by kernel_rfl) ?_
                  refine s_val (.bool false) (by kernel_rfl) (fun _ => by kernel_rfl) ?_
                  refine s_nil ?_
                  refine fin_seq ?_
                  refine ok_ret ?_
                  refine fin_ret (.bool false) Tryz.results15 (by kernel_rfl) ?_
                  exact fun w hO => ⟨by rw [may_go ⟨by omega, by omega⟩ (fun _ => by omega) (fun _ => by omega) (fun j q1 q2 => hrel.2 j q1 (by omega))]; simp [h1, h12, h13, h14, h15, h16, h18, h19], hO.below⟩
              | false =>
                refine s_skip (by kernel_rfl) ?_
                refine s_skip (by kernel_rfl) ?_
                refine s_skip (by kernel_rfl) ?_
                refine s_skip (by kernel_rfl) ?_
                refine s_val (.bool false) (by kernel_rfl) (fun _ => by kernel_rfl) ?_
                refine s_val (.bool false) (by kernel_rfl) (fun _ => by kernel_rfl) ?_
                refine s_skip (by kernel_rfl) ?_
                refine s_skip (by kernel_rfl) ?_
                refine s_skip (by kernel_rfl) ?_
                refine s_skip (by kernel_rfl) ?_
                refine s_skip (by kernel_rfl) ?_
                refine s_skip (by kernel_rfl) ?_
                refine s_skip (by kernel_rfl) ?_
                refine s_skip (by kernel_rfl) ?_
                refine s_skip (by kernel_rfl) ?_
                refine s_val (.bool false) (by kernel_rfl) (fun _ => by kernel_rfl) ?_
                refine s_val (.bool false) (by kernel_rfl) (fun _ => by kernel_rfl) ?_
                refine s_nil ?_
                refine fin_seq ?_
                refine ok_ret ?_
                refine fin_ret (.bool false) Tryz.results15 (by kernel_rfl) ?_
                exact fun w hO => ⟨by rw [may_go ⟨by omega, by omega⟩ (fun _ => by omega) (fun _ => by omega) (fun j q1 q2 => hrel.2 j q1 (by omega))]; simp [h1, h12, h13, h14, h15, h16, h18], hO.below⟩
theorem csign_any (op : Int) (W : World) : Calls Tryz.prog 45 #[.int .i64 op] W fun e w' => e = .returned (.string (mkS (signL op))) ∧ Below W.heap.size W w' := by
  refine calls_ok (n := 25) Tryz.func45 rfl (by kernel_rfl) (by kernel_rfl) ?_
  refine ok_seq ?_
  refine ok_region ?_
  refine s_val (.string ⟨#[]⟩) (by kernel_rfl) (fun _ => by kernel_rfl) ?_
  refine s_nil ?_
  refine fin_seq ?_
  refine ok_seq ?_
  refine ok_region ?_
  refine s_val (.string ⟨#[]⟩) (by kernel_rfl) (fun _ => by kernel_rfl) ?_
  refine s_val (.string ⟨#[]⟩) (by kernel_rfl) (fun _ => by kernel_rfl) ?_
  refine s_nil ?_
  refine fin_seq ?_
  refine ok_seq ?_
  refine ok_seq ?_
  refine ok_region ?_
  refine s_val (.int .i64 op) (by kernel_rfl) (fun _ => by kernel_rfl) ?_
  refine s_nil ?_
  refine fin_seq ?_
  refine ok_block ?_
  refine ok_seq ?_
  refine ok_block ?_
  refine ok_seq ?_
  refine ok_block ?_
  refine ok_seq ?_
  refine ok_block ?_
  refine ok_seq ?_
  refine ok_block ?_
  refine ok_seq ?_
  refine ok_block ?_
  refine ok_seq ?_
  refine ok_block ?_
  refine ok_seq ?_
  refine ok_block ?_
  refine ok_seq ?_
  refine ok_block ?_
  refine ok_seq ?_
  refine ok_seq ?_
  refine ok_seq ?_
  refine ok_region ?_
  by_cases h1 : (op : Int) = 2
  · skip
    refine s_dec (p := (op : Int) = 2) true (by kernel_rfl) (fun _ => by kernel_rfl) (decide_eq_true (h1)) ?_
    refine s_val (.bool true) (by kernel_rfl) (fun _ => by kernel_rfl) ?_
    refine s_nil ?_
    refine fin_seq ?_
    refine ok_true (by kernel_rfl) ?_
    refine ok_exit ?_
    refine fin_seq_exit ?_
    refine fin_seq_exit ?_
    refine fin_block_exit ?_
    refine fin_seq ?_
    refine ok_region ?_
    refine s_val (.string ⟨#[33]⟩) (by kernel_rfl) (fun _ => by kernel_rfl) ?_
    refine s_nil ?_
    refine fin_block ?_
    refine fin_seq ?_
    refine ok_seq ?_
    refine ok_region ?_
    refine s_val (.string ⟨#[61]⟩) (by kernel_rfl) (fun _ => by kernel_rfl) ?_
    refine s_nil ?_
    refine fin_seq ?_
    refine ok_exit ?_
    refine fin_block_other (by decide) ?_
    refine fin_seq_exit ?_
    refine fin_block_other (by decide) ?_
    refine fin_seq_exit ?_
    refine fin_block_other (by decide) ?_
    refine fin_seq_exit ?_
    refine fin_block_other (by decide) ?_
    refine fin_seq_exit ?_
    refine fin_block_other (by decide) ?_
    refine fin_seq_exit ?_
    refine fin_block_other (by decide) ?_
    refine fin_seq_exit ?_
    refine fin_block_exit ?_
    refine fin_seq ?_
    refine ok_seq ?_
    refine ok_region ?_
    refine s_val (.string ⟨#[33]⟩) (by kernel_rfl) (fun _ => by kernel_rfl) ?_
    refine s_val (.string ⟨#[61]⟩) (by kernel_rfl) (fun _ => by kernel_rfl) ?_
    refine s_val (.string (mkS ([33] ++ [61]))) (by kernel_rfl) (run_stradd (a := [33]) (b := [61]) rfl (by kernel_rfl) (by kernel_rfl) (by decide)) ?_
    refine s_val (.string (mkS ([33] ++ [61]))) (by kernel_rfl) (fun _ => by kernel_rfl) ?_
    refine s_nil ?_
    refine fin_seq ?_
    refine ok_ret ?_
    refine fin_ret (.string (mkS ([33] ++ [61]))) Tryz.results45 (by kernel_rfl) ?_
    exact fun w hO => ⟨by unfold signL; simp [h1], hO.below⟩
  · skip
    refine s_dec (p := (op : Int) = 2) false (by kernel_rfl) (fun _ => by kernel_rfl) (decide_eq_false (h1)) ?_
    refine s_val (.bool false) (by kernel_rfl) (fun _ => by kernel_rfl) ?_
    refine s_nil ?_
    refine fin_seq ?_
    refine ok_false (by kernel_rfl) ?_
    refine ok_skip ?_
    refine fin_seq ?_
    refine ok_seq ?_
    refine ok_seq ?_
    refine ok_region ?_
    by_cases h2 : (op : Int) = 1
    · skip
      refine s_dec (p := (op : Int) = 1) true (by kernel_rfl) (fun _ => by kernel_rfl) (decide_eq_true (h2)) ?_
      refine s_val (.bool true) (by kernel_rfl) (fun _ => by kernel_rfl) ?_
      refine s_nil ?_
      refine fin_seq ?_
      refine ok_true (by kernel_rfl) ?_
      refine ok_exit ?_
      refine fin_seq_exit ?_
      refine fin_seq_exit ?_
      refine fin_block_other (by decide) ?_
      refine fin_seq_exit ?_
      refine fin_block_exit ?_
      refine fin_seq ?_
      refine ok_seq ?_
      refine ok_region ?_
      refine s_val (.string ⟨#[61]⟩) (by kernel_rfl) (fun _ => by kernel_rfl) ?_
      refine s_nil ?_
      refine fin_seq ?_
      refine ok_exit ?_
      refine fin_block_other (by decide) ?_
      refine fin_seq_exit ?_
      refine fin_block_other (by decide) ?_
      refine fin_seq_exit ?_
      refine fin_block_other (by decide) ?_
      refine fin_seq_exit ?_
      refine fin_block_other (by decide) ?_
      refine fin_seq_exit ?_
      refine fin_block_other (by decide) ?_
      refine fin_seq_exit ?_
      refine fin_block_other (by decide) ?_
      refine fin_seq_exit ?_
      refine fin_block_exit ?_
      refine fin_seq ?_
      refine ok_seq ?_
      refine ok_region ?_
      refine s_val (.string ⟨#[]⟩) (by kernel_rfl) (fun _ => by kernel_rfl) ?_
      refine s_val (.string ⟨#[61]⟩) (by kernel_rfl) (fun _ => by kernel_rfl) ?_
      refine s_val (.string (mkS ([] ++ [61]))) (by kernel_rfl) (run_stradd (a := []) (b := [61]) rfl (by kernel_rfl) (by kernel_rfl) (by decide)) ?_
      refine s_val (.string (mkS ([] ++ [61]))) (by kernel_rfl) (fun _ => by kernel_rfl) ?_
      refine s_nil ?_
      refine fin_seq ?_
      refine ok_ret ?_
      refine fin_ret (.string (mkS ([] ++ [61]))) Tryz.results45 (by kernel_rfl) ?_
      exact fun w hO => ⟨by unfold signL; simp [h1, h2], hO.below⟩
    · skip
      refine s_dec (p := (op : Int) = 1) false (by kernel_rfl) (fun _ => by kernel_rfl) (decide_eq_false (h2)) ?_
      refine s_val (.bool false) (by kernel_rfl) (fun _ => by kernel_rfl) ?_
      refine s_nil ?_
      refine fin_seq ?_
      refine ok_false (by kernel_rfl) ?_
      refine ok_skip ?_
      refine fin_seq ?_
      refine ok_seq ?_
      refine ok_seq ?_
      refine ok_region ?_
      by_cases h3 : (op : Int) = 4
      · skip
        refine s_dec (p := (op : Int) = 4) true (by kernel_rfl) (fun _ => by kernel_rfl) (decide_eq_true (h3)) ?_
        refine s_val (.bool true) (by kernel_rfl) (fun _ => by kernel_rfl) ?_
        refine s_nil ?_
        refine fin_seq ?_
        refine ok_true (by kernel_rfl) ?_
        refine ok_exit ?_
        refine fin_seq_exit ?_
        refine fin_seq_exit ?_
        refine fin_block_other (by decide) ?_
        refine fin_seq_exit ?_
        refine fin_block_other (by decide) ?_
        refine fin_seq_exit ?_
        refine fin_block_exit ?_
        refine fin_seq ?_
        refine ok_region ?_
        refine s_val (.string ⟨#[61]⟩) (by kernel_rfl) (fun _ => by kernel_rfl) ?_
        refine s_nil ?_
        refine fin_block ?_
        refine fin_seq ?_
        refine ok_seq ?_
        refine ok_region ?_
        refine s_val (.string ⟨#[60]⟩) (by kernel_rfl) (fun _ => by kernel_rfl) ?_
        refine s_nil ?_
        refine fin_seq ?_
        refine ok_exit ?_
        refine fin_block_other (by decide) ?_
        refine fin_seq_exit ?_
        refine fin_block_other (by decide) ?_
        refine fin_seq_exit ?_
        refine fin_block_other (by decide) ?_
        refine fin_seq_exit ?_
        refine fin_block_other (by decide) ?_
        refine fin_seq_exit ?_
        refine fin_block_exit ?_
        refine fin_seq ?_
        refine ok_seq ?_
        refine ok_region ?_
        refine s_val (.string ⟨#[60]⟩) (by kernel_rfl) (fun _ => by kernel_rfl) ?_
        refine s_val (.string ⟨#[61]⟩) (by kernel_rfl) (fun _ => by kernel_rfl) ?_
        refine s_val (.string (mkS ([60] ++ [61]))) (by kernel_rfl) (run_stradd (a := [60]) (b := [61]) rfl (by kernel_rfl) (by kernel_rfl) (by decide)) ?_
        refine s_val (.string (mkS ([60] ++ [61]))) (by kernel_rfl) (fun _ => by kernel_rfl) ?_
        refine s_nil ?_
        refine fin_seq ?_
        refine ok_ret ?_
        refine fin_ret (.string (mkS ([60] ++ [61]))) Tryz.results45 (by kernel_rfl) ?_
        exact fun w hO => ⟨by unfold signL; simp [h1, h2, h3], hO.below⟩
      · skip
        refine s_dec (p := (op : Int) = 4) false (by kernel_rfl) (fun _ => by kernel_rfl) (decide_eq_false (h3)) ?_
        refine s_val (.bool false) (by kernel_rfl) (fun _ => by kernel_rfl) ?_
        refine s_nil ?_
        refine fin_seq ?_
        refine ok_false (by kernel_rfl) ?_
        refine ok_skip ?_
        refine fin_seq ?_
        refine ok_seq ?_
        refine ok_seq ?_
        refine ok_region ?_
        by_cases h4 : (op : Int) = 3
        · skip
          refine s_dec (p := (op : Int) = 3) true (by kernel_rfl) (fun _ => by kernel_rfl) (decide_eq_true (h4)) ?_
          refine s_val (.bool true) (by kernel_rfl) (fun _ => by kernel_rfl) ?_
          refine s_nil ?_
          refine fin_seq ?_
          refine ok_true (by kernel_rfl) ?_
          refine ok_exit ?_
          refine fin_seq_exit ?_
          refine fin_seq_exit ?_
          refine fin_block_other (by decide) ?_
          refine fin_seq_exit ?_
          refine fin_block_other (by decide) ?_
          refine fin_seq_exit ?_
          refine fin_block_other (by decide) ?_
          refine fin_seq_exit ?_
          refine fin_block_exit ?_
          refine fin_seq ?_
          refine ok_seq ?_
          refine ok_region ?_
          refine s_val (.string ⟨#[60]⟩) (by kernel_rfl) (fun _ => by kernel_rfl) ?_
          refine s_nil ?_
          refine fin_seq ?_
          refine ok_exit ?_
          refine fin_block_other (by decide) ?_
          refine fin_seq_exit ?_
          refine fin_block_other (by decide) ?_
          refine fin_seq_exit ?_
          refine fin_block_other (by decide) ?_
          refine fin_seq_exit ?_
          refine fin_block_other (by decide) ?_
          refine fin_seq_exit ?_
          refine fin_block_exit ?_
          refine fin_seq ?_
          refine ok_seq ?_
          refine ok_region ?_
          refine s_val (.string ⟨#[60]⟩) (by kernel_rfl) (fun _ => by kernel_rfl) ?_
          refine s_val (.string ⟨#[]⟩) (by kernel_rfl) (fun _ => by kernel_rfl) ?_
          refine s_val (.string (mkS ([60] ++ []))) (by kernel_rfl) (run_stradd (a := [60]) (b := []) rfl (by kernel_rfl) (by kernel_rfl) (by decide)) ?_
          refine s_val (.string (mkS ([60] ++ []))) (by kernel_rfl) (fun _ => by kernel_rfl) ?_
          refine s_nil ?_
          refine fin_seq ?_
          refine ok_ret ?_
          refine fin_ret (.string (mkS ([60] ++ []))) Tryz.results45 (by kernel_rfl) ?_
          exact fun w hO => ⟨by unfold signL; simp [h1, h2, h3, h4], hO.below⟩
        · skip
          refine s_dec (p := (op : Int) = 3) false (by kernel_rfl) (fun _ => by kernel_rfl) (decide_eq_false (h4)) ?_
          refine s_val (.bool false) (by kernel_rfl) (fun _ => by kernel_rfl) ?_
          refine s_nil ?_
          refine fin_seq ?_
          refine ok_false (by kernel_rfl) ?_
          refine ok_skip ?_
          refine fin_seq ?_
          refine ok_seq ?_
          refine ok_seq ?_
          refine ok_region ?_
          by_cases h5 : (op : Int) = 6
          · skip
            refine s_dec (p := (op : Int) = 6) true (by kernel_rfl) (fun _ => by kernel_rfl) (decide_eq_true (h5)) ?_
            refine s_val (.bool true) (by kernel_rfl) (fun _ => by kernel_rfl) ?_
            refine s_nil ?_
            refine fin_seq ?_
            refine ok_true (by kernel_rfl) ?_
            refine ok_exit ?_
            refine fin_seq_exit ?_
            refine fin_seq_exit ?_
            refine fin_block_other (by decide) ?_
            refine fin_seq_exit ?_
            refine fin_block_other (by decide) ?_
            refine fin_seq_exit ?_
            refine fin_block_other (by decide) ?_
            refine fin_seq_exit ?_
            refine fin_block_other (by decide) ?_
            refine fin_seq_exit ?_
            refine fin_block_exit ?_
            refine fin_seq ?_
            refine ok_region ?_
            refine s_val (.string ⟨#[61]⟩) (by kernel_rfl) (fun _ => by kernel_rfl) ?_
            refine s_nil ?_
            refine fin_block ?_
            refine fin_seq ?_
            refine ok_seq ?_
            refine ok_region ?_
            refine s_val (.string ⟨#[62]⟩) (by kernel_rfl) (fun _ => by kernel_rfl) ?_
            refine s_nil ?_
            refine fin_seq ?_
            refine ok_exit ?_
            refine fin_block_other (by decide) ?_
            refine fin_seq_exit ?_
            refine fin_block_other (by decide) ?_
            refine fin_seq_exit ?_
            refine fin_block_exit ?_
            refine fin_seq ?_
            refine ok_seq ?_
            refine ok_region ?_
            refine s_val (.string ⟨#[62]⟩) (by kernel_rfl) (fun _ => by kernel_rfl) ?_
            refine s_val (.string ⟨#[61]⟩) (by kernel_rfl) (fun _ => by kernel_rfl) ?_
            refine s_val (.string (mkS ([62] ++ [61]))) (by kernel_rfl) (run_stradd (a := [62]) (b := [61]) rfl (by kernel_rfl) (by kernel_rfl) (by decide)) ?_
            refine s_val (.string (mkS ([62] ++ [61]))) (by kernel_rfl) (fun _ => by kernel_rfl) ?_
            refine s_nil ?_
            refine fin_seq ?_
            refine ok_ret ?_
            refine fin_ret (.string (mkS ([62] ++ [61]))) Tryz.results45 (by kernel_rfl) ?_
            exact fun w hO => ⟨by unfold signL; simp [h1, h2, h3, h4, h5], hO.below⟩
          · skip
            refine s_dec (p := (op : Int) = 6) false (by kernel_rfl) (fun _ => by kernel_rfl) (decide_eq_false (h5)) ?_
            refine s_val (.bool false) (by kernel_rfl) (fun _ => by kernel_rfl) ?_
            refine s_nil ?_
            refine fin_seq ?_
            refine ok_false (by kernel_rfl) ?_
            refine ok_skip ?_
            refine fin_seq ?_
            refine ok_seq ?_
            refine ok_seq ?_
            refine ok_region ?_
            by_cases h6 : (op : Int) = 5
            · skip
              refine s_dec (p := (op : Int) = 5) true (by kernel_rfl) (fun _ => by kernel_rfl) (decide_eq_true (h6)) ?_
              refine s_val (.bool true) (by kernel_rfl) (fun _ => by kernel_rfl) ?_
              refine s_nil ?_
              refine fin_seq ?_
              refine ok_true (by kernel_rfl) ?_
              refine ok_exit ?_
              refine fin_seq_exit ?_
              refine fin_seq_exit ?_
              refine fin_block_other (by decide) ?_
              refine fin_seq_exit ?_
              refine fin_block_other (by decide) ?_
              refine fin_seq_exit ?_
              refine fin_block_other (by decide) ?_
              refine fin_seq_exit ?_
              refine fin_block_other (by decide) ?_
              refine fin_seq_exit ?_
              refine fin_block_other (by decide) ?_
              refine fin_seq_exit ?_
              refine fin_block_exit ?_
              refine fin_seq ?_
              refine ok_seq ?_
              refine ok_region ?_
              refine s_val (.string ⟨#[62]⟩) (by kernel_rfl) (fun _ => by kernel_rfl) ?_
              refine s_nil ?_
              refine fin_seq ?_
              refine ok_exit ?_
              refine fin_block_other (by decide) ?_
              refine fin_seq_exit ?_
              refine fin_block_other (by decide) ?_
              refine fin_seq_exit ?_
              refine fin_block_exit ?_
              refine fin_seq ?_
              refine ok_seq ?_
              refine ok_region ?_
              refine s_val (.string ⟨#[62]⟩) (by kernel_rfl) (fun _ => by kernel_rfl) ?_
              refine s_val (.string ⟨#[]⟩) (by kernel_rfl) (fun _ => by kernel_rfl) ?_
              refine s_val (.string (mkS ([62] ++ []))) (by kernel_rfl) (run_stradd (a := [62]) (b := []) rfl (by kernel_rfl) (by kernel_rfl) (by decide)) ?_
              refine s_val (.string (mkS ([62] ++ []))) (by kernel_rfl) (fun _ => by kernel_rfl) ?_
              refine s_nil ?_
              refine fin_seq ?_
              refine ok_ret ?_
              refine fin_ret (.string (mkS ([62] ++ []))) Tryz.results45 (by kernel_rfl) ?_
              exact fun w hO => ⟨by unfold signL; simp [h1, h2, h3, h4, h5, h6], hO.below⟩
            · skip
              refine s_dec (p := (op : Int) = 5) false (by kernel_rfl) (fun _ => by kernel_rfl) (decide_eq_false (h6)) ?_
              refine s_val (.bool false) (by kernel_rfl) (fun _ => by kernel_rfl) ?_
              refine s_nil ?_
              refine fin_seq ?_
              refine ok_false (by kernel_rfl) ?_
              refine ok_skip ?_
              refine fin_seq ?_
              refine ok_seq ?_
              refine ok_seq ?_
              refine ok_region ?_
              by_cases h7 : (op : Int) = 7
              · skip
                refine s_dec (p := (op : Int) = 7) true (by kernel_rfl) (fun _ => by kernel_rfl) (decide_eq_true (h7)) ?_
                refine s_val (.bool true) (by kernel_rfl) (fun _ => by kernel_rfl) ?_
                refine s_nil ?_
                refine fin_seq ?_
                refine ok_true (by kernel_rfl) ?_
                refine ok_exit ?_
                refine fin_seq_exit ?_
                refine fin_seq_exit ?_
                refine fin_block_other (by decide) ?_
                refine fin_seq_exit ?_
                refine fin_block_other (by decide) ?_
                refine fin_seq_exit ?_
                refine fin_block_other (by decide) ?_
                refine fin_seq_exit ?_
                refine fin_block_other (by decide) ?_
                refine fin_seq_exit ?_
                refine fin_block_other (by decide) ?_
                refine fin_seq_exit ?_
                refine fin_block_other (by decide) ?_
                refine fin_seq_exit ?_
                refine fin_block_exit ?_
                refine fin_seq ?_
                refine ok_seq ?_
                refine ok_region ?_
                refine s_val (.string ⟨#[94]⟩) (by kernel_rfl) (fun _ => by kernel_rfl) ?_
                refine s_nil ?_
                refine fin_seq ?_
                refine ok_exit ?_
                refine fin_block_other (by decide) ?_
                refine fin_seq_exit ?_
                refine fin_block_exit ?_
                refine fin_seq ?_
                refine ok_seq ?_
                refine ok_region ?_
                refine s_val (.string ⟨#[94]⟩) (by kernel_rfl) (fun _ => by kernel_rfl) ?_
                refine s_val (.string ⟨#[]⟩) (by kernel_rfl) (fun _ => by kernel_rfl) ?_
                refine s_val (.string (mkS ([94] ++ []))) (by kernel_rfl) (run_stradd (a := [94]) (b := []) rfl (by kernel_rfl) (by kernel_rfl) (by decide)) ?_
                refine s_val (.string (mkS ([94] ++ []))) (by kernel_rfl) (fun _ => by kernel_rfl) ?_
                refine s_nil ?_
                refine fin_seq ?_
                refine ok_ret ?_
                refine fin_ret (.string (mkS ([94] ++ []))) Tryz.results45 (by kernel_rfl) ?_
                exact fun w hO => ⟨by unfold signL; simp [h1, h2, h3, h4, h5, h6, h7], hO.below⟩
              · skip
                refine s_dec (p := (op : Int) = 7) false (by kernel_rfl) (fun _ => by kernel_rfl) (decide_eq_false (h7)) ?_
                refine s_val (.bool false) (by kernel_rfl) (fun _ => by kernel_rfl) ?_
                refine s_nil ?_
                refine fin_seq ?_
                refine ok_false (by kernel_rfl) ?_
                refine ok_skip ?_
                refine fin_seq ?_
                refine ok_seq ?_
                refine ok_region ?_
                by_cases h8 : (op : Int) = 8
                · skip
                  refine s_dec (p := (op : Int) = 8) true (by kernel_rfl) (fun _ => by kernel_rfl) (decide_eq_true (h8)) ?_
                  refine s_val (.bool true) (by kernel_rfl) (fun _ => by kernel_rfl) ?_
                  refine s_nil ?_
                  refine fin_seq ?_
                  refine ok_true (by kernel_rfl) ?_
                  refine ok_exit ?_
                  refine fin_seq_exit ?_
                  refine fin_block_other (by decide) ?_
                  refine fin_seq_exit ?_
                  refine fin_block_other (by decide) ?_
                  refine fin_seq_exit ?_
                  refine fin_block_other (by decide) ?_
                  refine fin_seq_exit ?_
                  refine fin_block_other (by decide) ?_
                  refine fin_seq_exit ?_
                  refine fin_block_other (by decide) ?_
                  refine fin_seq_exit ?_
                  refine fin_block_other (by decide) ?_
                  refine fin_seq_exit ?_
                  refine fin_block_other (by decide) ?_
                  refine fin_seq_exit ?_
                  refine fin_block_exit ?_
                  refine fin_seq ?_
                  refine ok_seq ?_
                  refine ok_region ?_
                  refine s_val (.string ⟨#[126]⟩) (by kernel_rfl) (fun _ => by kernel_rfl) ?_
                  refine s_nil ?_
                  refine fin_seq ?_
                  refine ok_exit ?_
                  refine fin_block_exit ?_
                  refine fin_seq ?_
                  refine ok_seq ?_
                  refine ok_region ?_
                  refine s_val (.string ⟨#[126]⟩) (by kernel_rfl) (fun _ => by kernel_rfl) ?_
                  refine s_val (.string ⟨#[]⟩) (by kernel_rfl) (fun _ => by kernel_rfl) ?_
                  refine s_val (.string (mkS ([126] ++ []))) (by kernel_rfl) (run_stradd (a := [126]) (b := []) rfl (by kernel_rfl) (by kernel_rfl) (by decide)) ?_
                  refine s_val (.string (mkS ([126] ++ []))) (by kernel_rfl) (fun _ => by kernel_rfl) ?_
                  refine s_nil ?_
                  refine fin_seq ?_
                  refine ok_ret ?_
                  refine fin_ret (.string (mkS ([126] ++ []))) Tryz.results45 (by kernel_rfl) ?_
                  exact fun w hO => ⟨by unfold signL; simp [h1, h2, h3, h4, h5, h6, h7, h8], hO.below⟩
                · skip
                  refine s_dec (p := (op : Int) = 8) false (by kernel_rfl) (fun _ => by kernel_rfl) (decide_eq_false (h8)) ?_
                  refine s_val (.bool false) (by kernel_rfl) (fun _ => by kernel_rfl) ?_
                  refine s_nil ?_
                  refine fin_seq ?_
                  refine ok_false (by kernel_rfl) ?_
                  refine ok_skip ?_
                  refine fin_seq ?_
                  refine ok_exit ?_
                  refine fin_block_other (by decide) ?_
                  refine fin_seq_exit ?_
                  refine fin_block_other (by decide) ?_
                  refine fin_seq_exit ?_
                  refine fin_block_other (by decide) ?_
                  refine fin_seq_exit ?_
                  refine fin_block_other (by decide) ?_
                  refine fin_seq_exit ?_
                  refine fin_block_other (by decide) ?_
                  refine fin_seq_exit ?_
                  refine fin_block_other (by decide) ?_
                  refine fin_seq_exit ?_
                  refine fin_block_other (by decide) ?_
                  refine fin_seq_exit ?_
                  refine fin_block_other (by decide) ?_
                  refine fin_seq_exit ?_
                  refine fin_block_exit ?_
                  refine fin_seq ?_
                  refine ok_seq ?_
                  refine ok_region ?_
                  refine s_val (.string ⟨#[]⟩) (by kernel_rfl) (fun _ => by kernel_rfl) ?_
                  refine s_val (.string ⟨#[]⟩) (by kernel_rfl) (fun _ => by kernel_rfl) ?_
                  refine s_val (.string (mkS ([] ++ []))) (by kernel_rfl) (run_stradd (a := []) (b := []) rfl (by kernel_rfl) (by kernel_rfl) (by decide)) ?_
                  refine s_val (.string (mkS ([] ++ []))) (by kernel_rfl) (fun _ => by kernel_rfl) ?_
                  refine s_nil ?_
                  refine fin_seq ?_
                  refine ok_ret ?_
                  refine fin_ret (.string (mkS ([] ++ []))) Tryz.results45 (by kernel_rfl) ?_
                  exact fun w hO => ⟨by unfold signL; simp [h1, h2, h3, h4, h5, h6, h7, h8], hO.below⟩
theorem clead_any (c : Co) (W : World) (hc : c.short) (hp : 0 ≤ c.parts ∧ c.parts ≤ 3) : Calls Tryz.prog 89 #[coV c] W fun e w' => e = .returned (.int .i64 (leadK c)) ∧ Below W.heap.size W w' := by
  refine calls_ok (n := 21) Tryz.func89 rfl (by kernel_rfl) (by kernel_rfl) ?_
  refine ok_seq ?_
  refine ok_region ?_
  refine s_box (coV c) (by kernel_rfl) rfl (by kernel_rfl) (fun b1 => ?_)
  refine s_val (.int .i64 0) (by kernel_rfl) (fun _ => by kernel_rfl) ?_
  refine s_nil ?_
  refine fin_seq ?_
  refine ok_seq ?_
  refine ok_seq ?_
  refine ok_region ?_
  refine s_val (.pointer (some ⟨b1, 2, none⟩)) (by kernel_rfl) (fun _ => by kernel_rfl) ?_
  refine s_load 0 ⟨b1, (coV c).cells, 26⟩ (off := 2) (.agg #[.int .i64 c.v.maj, .int .i64 c.v.min, .int .i64 c.v.pat, .string (mkS c.v.pre), .string (mkS c.v.build)]) (by kernel_rfl) rfl (by kernel_rfl) (by kernel_rfl) (by kernel_rfl) ?_
  refine s_callo (k := 43) (args := #[verV c.v]) (fun v' L' => ∃ g, v' = .slice (some ⟨g, 0, none⟩) 3 3 ∧ L' = ⟨g, numsC c.v, 3⟩ :: [⟨b1, (coV c).cells, 26⟩]) (by kernel_rfl) (fun _ => by kernel_rfl) (fun w hO => (cnums_any c.v w).mono fun e w' ⟨v', ob', k1, ⟨g, k2, k4⟩, k3⟩ => ⟨v', _, k1, ⟨g, k2, rfl⟩, by subst k4; exact Own.joinN hO k3⟩) (fun v1 L1 hv1 => ?_)
  obtain ⟨g1, rfl, rfl⟩ := hv1
  refine s_val (.int .i64 (3 : Int)) (by kernel_rfl) (fun _ => by kernel_rfl) ?_
  refine s_val (.int .i64 0) (by kernel_rfl) (fun _ => by kernel_rfl) ?_
  refine s_nil ?_
  refine fin_seq ?_
  refine ok_block ?_
  refine ok_loop (fun L f m => ∃ (k : Nat) (j : Nat → Value), (k ≤ 3 ∧ ∀ j, j < k → nth3 c.v.maj c.v.min c.v.pat j = 0) ∧ L = [⟨g1, numsC c.v, 3⟩, ⟨b1, (coV c).cells, 26⟩] ∧ f = upds j [(1, .pointer (some ⟨b1, 0, none⟩)), (7, .slice (some ⟨g1, 0, none⟩) 3 3), (8, .int .i64 3), (9, .int .i64 (k : Int))] ∧ m = 3 - k) (3 - 0) ⟨0, _, ⟨Nat.zero_le _, fun j h2 => absurd h2 (Nat.not_lt_zero _)⟩, rfl, upds_self _ ⟨by kernel_rfl, by kernel_rfl, by kernel_rfl, by kernel_rfl, trivial⟩, rfl⟩ ?_
  rintro L f m ⟨k, j, hrel, rfl, rfl, rfl⟩
  have hkl := hrel.1
  refine ok_seq ?_
  refine ok_region ?_
  by_cases h1 : (k : Int) < 3
  · skip
    refine s_dec (p := (k : Int) < 3) true (by kernel_rfl) (fun _ => by kernel_rfl) (decide_eq_true (h1)) ?_
    refine s_nil ?_
    refine fin_seq ?_
    refine ok_seq ?_
    refine ok_true (by kernel_rfl) ?_
    refine ok_skip ?_
    refine fin_seq ?_
    refine ok_seq ?_
    refine ok_block ?_
    refine ok_seq ?_
    refine ok_region ?_
    refine s_val (.int .i64 (k : Int)) (by kernel_rfl) (fun _ => by kernel_rfl) ?_
    refine s_val (.pointer (some ⟨g1, 0 + k, none⟩)) (by kernel_rfl) (run_ixsl (b := g1) (off := 0) (n := 3) (c := 3) (k := .i64) (j := (k : Int)) (e := 3) (sz := 1) rfl (by kernel_rfl) (by kernel_rfl) (by kernel_rfl) (by kernel_rfl) (by omega) (by omega) (by omega)) ?_
    refine s_load 0 ⟨g1, numsC c.v, 3⟩ (off := 0 + k) (.int .i64 (nth3 c.v.maj c.v.min c.v.pat k)) (by kernel_rfl) rfl (by kernel_rfl) (by kernel_rfl) (by rw [Nat.zero_add]; exact rd_nums c.v k (by omega)) ?_
    refine s_val (.int .i64 (k : Int)) (by kernel_rfl) (fun _ => by kernel_rfl) ?_
    refine s_val (.int .i64 (nth3 c.v.maj c.v.min c.v.pat k)) (by kernel_rfl) (fun _ => by kernel_rfl) ?_
    refine s_nil ?_
    refine fin_seq ?_
    refine ok_seq ?_
    refine ok_region ?_
    refine s_val (.int .i64 (nth3 c.v.maj c.v.min c.v.pat k)) (by kernel_rfl) (fun _ => by kernel_rfl) ?_
    by_cases h2 : (nth3 c.v.maj c.v.min c.v.pat k : Int) = 0
    · skip
      refine s_ndec (p := (nth3 c.v.maj c.v.min c.v.pat k : Int) = 0) true (by kernel_rfl) (fun _ => by kernel_rfl) (decide_eq_true (h2)) ?_
      refine s_nil ?_
      refine fin_seq ?_
      refine ok_false (by kernel_rfl) ?_
      refine ok_skip ?_
      refine fin_block ?_
      refine fin_seq ?_
      refine ok_region ?_
      refine s_sum (k := .i64) (((k + 1 : Nat) : Int)) (by kernel_rfl) (fun _ => by kernel_rfl) (IntWalk.i64_in _ (by omega)) ?_
      refine s_val (.int .i64 ((k + 1 : Nat) : Int)) (by kernel_rfl) (fun _ => by kernel_rfl) ?_
      refine s_nil ?_
      exact fin_round (m' := 3 - (k + 1)) (by omega) ⟨k + 1, _, ⟨by omega, zero_on0 hrel.2 h2⟩, rfl, upds_self _ ⟨by kernel_rfl, by kernel_rfl, by kernel_rfl, by kernel_rfl, trivial⟩, rfl⟩
    · skip
      refine s_ndec (p := (nth3 c.v.maj c.v.min c.v.pat k : Int) = 0) false (by kernel_rfl) (fun _ => by kernel_rfl) (decide_eq_false (h2)) ?_
      refine s_nil ?_
      refine fin_seq ?_
      refine ok_true (by kernel_rfl) ?_
      refine ok_seq ?_
      refine ok_region ?_
      refine s_val (.int .i64 (k : Int)) (by kernel_rfl) (fun _ => by kernel_rfl) ?_
      refine s_val (.int .i64 (k : Int)) (by kernel_rfl) (fun _ => by kernel_rfl) ?_
      refine s_nil ?_
      refine fin_seq ?_
      refine ok_ret ?_
      refine fin_block_ret ?_
      refine fin_seq_ret ?_
      refine fin_round_ret ?_
      refine fin_block_ret ?_
      refine fin_seq_ret ?_
      refine fin_ret (.int .i64 (k : Int)) Tryz.results89 (by kernel_rfl) ?_
      exact fun w hO => ⟨by rw [lead_at (by omega) hrel.2 h2], hO.below⟩
  · skip
    refine s_dec (p := (k : Int) < 3) false (by kernel_rfl) (fun _ => by kernel_rfl) (decide_eq_false (h1)) ?_
    refine s_nil ?_
    refine fin_seq ?_
    refine ok_seq ?_
    refine ok_false (by kernel_rfl) ?_
    refine ok_exit ?_
    refine fin_seq_exit ?_
    refine fin_round_exit ?_
    refine fin_block_exit ?_
    refine fin_seq ?_
    refine ok_seq ?_
    refine ok_region ?_
    refine s_val (.pointer (some ⟨b1, 1, none⟩)) (by kernel_rfl) (fun _ => by kernel_rfl) ?_
    refine s_load 1 ⟨b1, (coV c).cells, 26⟩ (off := 1) (.int .i64 c.parts) (by kernel_rfl) rfl (by kernel_rfl) (by kernel_rfl) (by kernel_rfl) ?_
    refine s_sum (k := .i64) ((c.parts : Int) - 1) (by kernel_rfl) (fun _ => by kernel_rfl) (IntWalk.i64_in _ (by omega)) ?_
    refine s_val (.int .i64 ((c.parts : Int) - 1)) (by kernel_rfl) (fun _ => by kernel_rfl) ?_
    refine s_nil ?_
    refine fin_seq ?_
    refine ok_ret ?_
    refine fin_ret (.int .i64 ((c.parts : Int) - 1)) Tryz.results89 (by kernel_rfl) ?_
    exact fun w hO => ⟨by rw [lead_end (fun j q2 => hrel.2 j (by omega))], hO.below⟩
theorem chigh_any (v : Ver) (z0 : Int) (W : World) (hv : v.short) (hz : -1 ≤ z0 ∧ z0 ≤ 2) : Calls Tryz.prog 88 #[verV v, .int .i64 z0] W fun e w' => e = .returned (cutV (highZ v z0)) ∧ Below W.heap.size W w' := by
  refine calls_ok (n := 21) Tryz.func88 rfl (by kernel_rfl) (by kernel_rfl) ?_
  refine ok_seq ?_
  refine ok_region ?_
  refine s_box (verV v) (by kernel_rfl) rfl (by kernel_rfl) (fun b1 => ?_)
  refine s_alloc_at (.agg #[.int .i64 0, .int .i64 0, .int .i64 0, .int .i64 0, .string ⟨#[]⟩, .string ⟨#[]⟩, .bool false]) (by kernel_rfl) rfl (by kernel_rfl) (fun b2 => ?_)
  refine s_nil ?_
  refine fin_seq ?_
  refine ok_seq ?_
  refine ok_block ?_
  refine ok_loop (fun L f m => ∃ (z : Int) (j : Nat → Value), (-1 ≤ z ∧ z ≤ 2 ∧ highZ v z0 = highZ v z) ∧ L = [⟨b2, #[.int .i64 0, .int .i64 0, .int .i64 0, .int .i64 0, .string ⟨#[]⟩, .string ⟨#[]⟩, .bool false], 48⟩, ⟨b1, (verV v).cells, 24⟩] ∧ f = upds j [(1, .int .i64 z), (2, .pointer (some ⟨b1, 0, none⟩)), (4, .pointer (some ⟨b2, 0, none⟩))] ∧ m = (z + 1).toNat) ((z0 + 1).toNat) ⟨z0, _, ⟨hz.1, hz.2, rfl⟩, rfl, upds_self _ ⟨by kernel_rfl, by kernel_rfl, by kernel_rfl, trivial⟩, rfl⟩ ?_
  rintro L f m ⟨z, j, hrel, rfl, rfl, rfl⟩
  refine ok_seq ?_
  refine ok_seq ?_
  refine ok_region ?_
  refine s_val (.int .i64 z) (by kernel_rfl) (fun _ => by kernel_rfl) ?_
  by_cases h1 : (0 : Int) ≤ z
  · skip
    refine s_dec (p := (0 : Int) ≤ z) true (by kernel_rfl) (fun _ => by kernel_rfl) (decide_eq_true (h1)) ?_
    refine s_nil ?_
    refine fin_seq ?_
    refine ok_true (by kernel_rfl) ?_
    refine ok_skip ?_
    refine fin_seq ?_
    refine ok_seq ?_
    refine ok_block ?_
    refine ok_seq ?_
    refine ok_region ?_
    refine s_load 1 ⟨b1, (verV v).cells, 24⟩ (off := 0) (verV v) (by kernel_rfl) rfl (by kernel_rfl) (by kernel_rfl) (by kernel_rfl) ?_
    refine s_val (.int .i64 z) (by kernel_rfl) (fun _ => by kernel_rfl) ?_
    refine s_call (k := 129) (args := #[verV v, .int .i64 z]) (.tuple #[verV (bumpV v z), .bool (bumpOk v z)]) (by kernel_rfl) (fun _ => by kernel_rfl) (fun w _ => bump_any v z w hv.1 hv.2) ?_
    refine s_val (.tuple #[verV (bumpV v z), .bool (bumpOk v z)]) (by kernel_rfl) (fun _ => by kernel_rfl) ?_
    refine s_val (verV (bumpV v z)) (by kernel_rfl) (fun _ => by kernel_rfl) ?_
    refine s_val (.bool (bumpOk v z)) (by kernel_rfl) (fun _ => by kernel_rfl) ?_
    refine s_alloc_at (.agg #[.int .i64 0, .int .i64 0, .int .i64 0, .string ⟨#[]⟩, .string ⟨#[]⟩]) (by kernel_rfl) rfl (by kernel_rfl) (fun b3 => ?_)
    refine s_store_at 0 ⟨b3, #[.int .i64 0, .int .i64 0, .int .i64 0, .string ⟨#[]⟩, .string ⟨#[]⟩], 24⟩ (off := 0) (verV (bumpV v z)) (by kernel_rfl) rfl rfl (by kernel_rfl) (by kernel_rfl) (by kernel_rfl) (by kernel_rfl) (by kernel_rfl) ?_
    refine s_val (.bool (bumpOk v z)) (by kernel_rfl) (fun _ => by kernel_rfl) ?_
    refine s_nil ?_
    refine fin_seq ?_
    refine ok_seq ?_
    refine ok_region ?_
    refine s_val (.bool (bumpOk v z)) (by kernel_rfl) (fun _ => by kernel_rfl) ?_
    refine s_nil ?_
    refine fin_seq ?_
    cases h2 : bumpOk v z with
    | true =>
      refine ok_true (by kernel_rfl) ?_
      refine ok_seq ?_
      refine ok_region ?_
      refine s_load 0 ⟨b3, (verV (bumpV v z)).cells, 24⟩ (off := 0) (verV (bumpV v z)) (by kernel_rfl) rfl (by kernel_rfl) (by kernel_rfl) (by kernel_rfl) ?_
      refine s_val (.agg #[.int .i64 0, .int .i64 ((bumpV v z).maj), .int .i64 ((bumpV v z).min), .int .i64 ((bumpV v z).pat), .string (mkS (bumpV v z).pre), .string (mkS (bumpV v z).build), .bool false]) (by kernel_rfl) (fun _ => by kernel_rfl) ?_
      refine s_store_at 1 ⟨b2, #[.int .i64 0, .int .i64 0, .int .i64 0, .int .i64 0, .string ⟨#[]⟩, .string ⟨#[]⟩, .bool false], 48⟩ (off := 0) (.agg #[.int .i64 0, .int .i64 ((bumpV v z).maj), .int .i64 ((bumpV v z).min), .int .i64 ((bumpV v z).pat), .string (mkS (bumpV v z).pre), .string (mkS (bumpV v z).build), .bool false]) (by kernel_rfl) rfl rfl (by kernel_rfl) (by kernel_rfl) (by kernel_rfl) (by kernel_rfl) (by kernel_rfl) ?_
      refine s_nil ?_
      refine fin_seq ?_
      refine ok_ret ?_
      refine fin_block_ret ?_
      refine fin_seq_ret ?_
      refine fin_round_ret ?_
      refine fin_block_ret ?_
      refine fin_seq_ret ?_
      refine fin_cell 1 ⟨b2, #[.int .i64 0, .int .i64 ((bumpV v z).maj), .int .i64 ((bumpV v z).min), .int .i64 ((bumpV v z).pat), .string (mkS (bumpV v z).pre), .string (mkS (bumpV v z).build), .bool false], 48⟩ (off := 0) (.agg #[.int .i64 0, .int .i64 ((bumpV v z).maj), .int .i64 ((bumpV v z).min), .int .i64 ((bumpV v z).pat), .string (mkS (bumpV v z).pre), .string (mkS (bumpV v z).build), .bool false]) Tryz.results88 (by kernel_rfl) (by kernel_rfl) (by kernel_rfl) ?_
      exact fun w hO => ⟨by rw [hrel.2.2, highZ_hit (by omega) (by assumption)]; rfl, hO.below⟩
    | false =>
      refine ok_false (by kernel_rfl) ?_
      refine ok_skip ?_
      refine fin_block ?_
      refine fin_seq ?_
      refine ok_region ?_
      refine s_val (.int .i64 z) (by kernel_rfl) (fun _ => by kernel_rfl) ?_
      refine s_sum (k := .i64) ((z : Int) - 1) (by kernel_rfl) (fun _ => by kernel_rfl) (IntWalk.i64_in _ (by omega)) ?_
      refine s_val (.int .i64 ((z : Int) - 1)) (by kernel_rfl) (fun _ => by kernel_rfl) ?_
      refine s_nil ?_
      refine fin_take (fun w hO => Own.sub [_] hO) ?_
      exact fin_round (m' := (z - 1 + 1).toNat) (by omega) ⟨z - 1, _, ⟨by omega, by omega, by rw [hrel.2.2, highZ_next (by omega) (by assumption)]⟩, rfl, upds_self _ ⟨by kernel_rfl, by kernel_rfl, by kernel_rfl, trivial⟩, rfl⟩
  · skip
    refine s_dec (p := (0 : Int) ≤ z) false (by kernel_rfl) (fun _ => by kernel_rfl) (decide_eq_false (h1)) ?_
    refine s_nil ?_
    refine fin_seq ?_
    refine ok_false (by kernel_rfl) ?_
    refine ok_exit ?_
    refine fin_seq_exit ?_
    refine fin_round_exit ?_
    refine fin_block_exit ?_
    refine fin_seq ?_
    refine ok_seq ?_
    refine ok_region ?_
    refine s_val (.agg #[.int .i64 1, .int .i64 0, .int .i64 0, .int .i64 0, .string ⟨#[]⟩, .string ⟨#[]⟩, .bool false]) (by kernel_rfl) (fun _ => by kernel_rfl) ?_
    refine s_store_at 0 ⟨b2, #[.int .i64 0, .int .i64 0, .int .i64 0, .int .i64 0, .string ⟨#[]⟩, .string ⟨#[]⟩, .bool false], 48⟩ (off := 0) (.agg #[.int .i64 1, .int .i64 0, .int .i64 0, .int .i64 0, .string ⟨#[]⟩, .string ⟨#[]⟩, .bool false]) (by kernel_rfl) rfl rfl (by kernel_rfl) (by kernel_rfl) (by kernel_rfl) (by kernel_rfl) (by kernel_rfl) ?_
    refine s_nil ?_
    refine fin_seq ?_
    refine ok_ret ?_
    refine fin_cell 0 ⟨b2, #[.int .i64 1, .int .i64 0, .int .i64 0, .int .i64 0, .string ⟨#[]⟩, .string ⟨#[]⟩, .bool false], 48⟩ (off := 0) (.agg #[.int .i64 1, .int .i64 0, .int .i64 0, .int .i64 0, .string ⟨#[]⟩, .string ⟨#[]⟩, .bool false]) Tryz.results88 (by kernel_rfl) (by kernel_rfl) (by kernel_rfl) ?_
    exact fun w hO => ⟨by rw [hrel.2.2]; unfold highZ; rw [if_pos (by omega)]; rfl, hO.below⟩
theorem beh_high {c : Co} (hp : 0 ≤ c.parts ∧ c.parts ≤ 3) (h : ¬ c.parts = 3) : behC c = highZ c.v (c.parts - 1) := by
  unfold behC highZ
  rw [if_neg h]
  by_cases h0 : c.parts = 0
  · rw [if_pos h0, if_pos (by omega)]
  · rw [if_neg h0, if_neg (by omega)]
theorem cbehind_any (c : Co) (W : World) (hc : c.short) (hp : 0 ≤ c.parts ∧ c.parts ≤ 3) : Calls Tryz.prog 87 #[coV c] W fun e w' => e = .returned (cutV (behC c)) ∧ Below W.heap.size W w' := by
  refine calls_ok (n := 15) Tryz.func87 rfl (by kernel_rfl) (by kernel_rfl) ?_
  refine ok_seq ?_
  refine ok_region ?_
  refine s_box (coV c) (by kernel_rfl) rfl (by kernel_rfl) (fun b1 => ?_)
  refine s_alloc_at (.agg #[.int .i64 0, .int .i64 0, .int .i64 0, .int .i64 0, .string ⟨#[]⟩, .string ⟨#[]⟩, .bool false]) (by kernel_rfl) rfl (by kernel_rfl) (fun b2 => ?_)
  refine s_nil ?_
  refine fin_seq ?_
  refine ok_seq ?_
  refine ok_seq ?_
  refine ok_region ?_
  refine s_val (.pointer (some ⟨b1, 1, none⟩)) (by kernel_rfl) (fun _ => by kernel_rfl) ?_
  refine s_load 1 ⟨b1, (coV c).cells, 26⟩ (off := 1) (.int .i64 c.parts) (by kernel_rfl) rfl (by kernel_rfl) (by kernel_rfl) (by kernel_rfl) ?_
  by_cases h1 : (c.parts : Int) = 3
  · skip
    refine s_dec (p := (c.parts : Int) = 3) true (by kernel_rfl) (fun _ => by kernel_rfl) (decide_eq_true (h1)) ?_
    refine s_nil ?_
    refine fin_seq ?_
    refine ok_true (by kernel_rfl) ?_
    refine ok_seq ?_
    refine ok_region ?_
    refine s_val (.pointer (some ⟨b1, 2, none⟩)) (by kernel_rfl) (fun _ => by kernel_rfl) ?_
    refine s_load 1 ⟨b1, (coV c).cells, 26⟩ (off := 2) (.agg #[.int .i64 c.v.maj, .int .i64 c.v.min, .int .i64 c.v.pat, .string (mkS c.v.pre), .string (mkS c.v.build)]) (by kernel_rfl) rfl (by kernel_rfl) (by kernel_rfl) (by kernel_rfl) ?_
    refine s_val (.agg #[.int .i64 0, .int .i64 c.v.maj, .int .i64 c.v.min, .int .i64 c.v.pat, .string (mkS c.v.pre), .string (mkS c.v.build), .bool true]) (by kernel_rfl) (fun _ => by kernel_rfl) ?_
    refine s_store_at 0 ⟨b2, #[.int .i64 0, .int .i64 0, .int .i64 0, .int .i64 0, .string ⟨#[]⟩, .string ⟨#[]⟩, .bool false], 48⟩ (off := 0) (.agg #[.int .i64 0, .int .i64 c.v.maj, .int .i64 c.v.min, .int .i64 c.v.pat, .string (mkS c.v.pre), .string (mkS c.v.build), .bool true]) (by kernel_rfl) rfl rfl (by kernel_rfl) (by kernel_rfl) (by kernel_rfl) (by kernel_rfl) (by kernel_rfl) ?_
    refine s_nil ?_
    refine fin_seq ?_
    refine ok_ret ?_
    refine fin_seq_ret ?_
    refine fin_cell 0 ⟨b2, #[.int .i64 0, .int .i64 c.v.maj, .int .i64 c.v.min, .int .i64 c.v.pat, .string (mkS c.v.pre), .string (mkS c.v.build), .bool true], 48⟩ (off := 0) (.agg #[.int .i64 0, .int .i64 c.v.maj, .int .i64 c.v.min, .int .i64 c.v.pat, .string (mkS c.v.pre), .string (mkS c.v.build), .bool true]) Tryz.results87 (by kernel_rfl) (by kernel_rfl) (by kernel_rfl) ?_
    exact fun w hO => ⟨by rw [show behC c = ⟨0, c.v, true⟩ from if_pos h1]; rfl, hO.below⟩
  · skip
    refine s_dec (p := (c.parts : Int) = 3) false (by kernel_rfl) (fun _ => by kernel_rfl) (decide_eq_false (h1)) ?_
    refine s_nil ?_
    refine fin_seq ?_
    refine ok_false (by kernel_rfl) ?_
    refine ok_skip ?_
    refine fin_seq ?_
    refine ok_seq ?_
    refine ok_region ?_
    refine s_val (.pointer (some ⟨b1, 2, none⟩)) (by kernel_rfl) (fun _ => by kernel_rfl) ?_
    refine s_load 1 ⟨b1, (coV c).cells, 26⟩ (off := 2) (.agg #[.int .i64 c.v.maj, .int .i64 c.v.min, .int .i64 c.v.pat, .string (mkS c.v.pre), .string (mkS c.v.build)]) (by kernel_rfl) rfl (by kernel_rfl) (by kernel_rfl) (by kernel_rfl) ?_
    refine s_val (.pointer (some ⟨b1, 1, none⟩)) (by kernel_rfl) (fun _ => by kernel_rfl) ?_
    refine s_load 1 ⟨b1, (coV c).cells, 26⟩ (off := 1) (.int .i64 c.parts) (by kernel_rfl) rfl (by kernel_rfl) (by kernel_rfl) (by kernel_rfl) ?_
    refine s_sum (k := .i64) ((c.parts : Int) - 1) (by kernel_rfl) (fun _ => by kernel_rfl) (IntWalk.i64_in _ (by omega)) ?_
    refine s_call (k := 88) (args := #[.agg #[.int .i64 c.v.maj, .int .i64 c.v.min, .int .i64 c.v.pat, .string (mkS c.v.pre), .string (mkS c.v.build)], .int .i64 ((c.parts : Int) - 1)]) (cutV (highZ c.v (c.parts - 1))) (by kernel_rfl) (fun _ => by kernel_rfl) (fun w _ => chigh_any c.v (c.parts - 1) w hc (by omega)) ?_
    refine s_store_at 0 ⟨b2, #[.int .i64 0, .int .i64 0, .int .i64 0, .int .i64 0, .string ⟨#[]⟩, .string ⟨#[]⟩, .bool false], 48⟩ (off := 0) (cutV (highZ c.v (c.parts - 1))) (by kernel_rfl) rfl rfl (by kernel_rfl) (by kernel_rfl) (by kernel_rfl) (by kernel_rfl) (by kernel_rfl) ?_
    refine s_nil ?_
    refine fin_seq ?_
    refine ok_ret ?_
    refine fin_cell 0 ⟨b2, (cutV (highZ c.v (c.parts - 1))).cells, 48⟩ (off := 0) (cutV (highZ c.v (c.parts - 1))) Tryz.results87 (by kernel_rfl) (by kernel_rfl) (by kernel_rfl) ?_
    exact fun w hO => ⟨by rw [beh_high hp h1], hO.below⟩
end Go.Proofs.YtjabcbagggicaaaGreatDoor
end

section
/-
  strings.CutPrefix at lists of bytes; strings.SplitN at a dot, three pieces at most: the pieces, in a block of the call's own. Condition: strings of at most a million bytes.
-/
namespace Go.Proofs.YtjabcbagggicaaaGreatDoor
open Go.RowKit
set_option maxRecDepth 100000
set_option linter.unusedVariables false
set_option linter.unusedSimpArgs false
set_option maxHeartbeats 2000000

/-- What is behind a sign, if the string begins with it. -/
def cpL (s t : List UInt8) : List UInt8 := if beginsL s t = true then s.drop t.length else s
theorem prefix_begins : ∀ (t s : List UInt8), t.isPrefixOf s = beginsL s t
  | [], s => by simp [beginsL]
  | a :: t, [] => by simp [beginsL, List.isPrefixOf]
  | a :: t, b :: s => by
    have ih := prefix_begins t s
    unfold beginsL at ih ⊢
    rw [List.isPrefixOf, ih, List.length_cons, List.take_succ_cons]
    by_cases h : a = b
    · subst h; simp
    · simp [h, Ne.symm h]
theorem cutpre_any (s t : List UInt8) (w : World) : Calls Tryz.prog 69 #[.string (mkS s), .string (mkS t)] w fun e w' => e = .returned (.tuple #[.string (mkS (cpL s t)), .bool (beginsL s t)]) ∧ Below w.heap.size w w' :=
  (Tryz.strings_CutPrefix (mkS s) (mkS t) w).mono fun e w' ⟨he, hw⟩ => by
    subst hw
    refine ⟨?_, Below.refl _ _⟩
    rw [he, mk_data, mk_data]
    unfold Lib.trimPrefix Lib.hasPrefix cpL
    rw [prefix_begins]; rfl
/-! ### SplitN -/
theorem splitK_pcs : ∀ (k : Nat) (s : List UInt8), Lib.splitK [46] 0 k s = pcsK k s
  | 0, s => rfl
  | k + 1, s => by
    have hc := cutAt_cut 46 s
    have hge := Lib.index_ge s [46]
    unfold Lib.splitK pcsK
    rw [← hc]
    unfold Lib.cut
    by_cases h : Lib.index s [46] = -1
    · have h2 : ¬ 0 ≤ Lib.index s [46] := by omega
      simp [h]
    · have h2 : 0 ≤ Lib.index s [46] := by omega
      simp [h, h2, splitK_pcs k]
theorem pcsK_more : ∀ (k : Nat) (s : List UInt8), s.length ≤ k → pcsK k s = pcsK (k + 1) s
  | 0, s, h => by
    obtain rfl := List.eq_nil_of_length_eq_zero (Nat.le_zero.1 h)
    rfl
  | k + 1, s, h => by
    have hl := cutAt_len 46 s
    rw [pcsK]
    conv => rhs; rw [pcsK]
    cases hq : (cutAt 46 s).2.2 with
    | false => rw [if_neg Bool.false_ne_true, if_neg Bool.false_ne_true]
    | true =>
      rw [hq, if_pos rfl] at hl
      rw [if_pos rfl, if_pos rfl, pcsK_more k _ (by omega)]
theorem pcsK_min (s : List UInt8) : pcsK (min 3 (s.length + 1) - 1) s = pcsK 2 s := by
  by_cases h0 : s.length = 0
  · rw [h0, show min 3 (0 + 1) - 1 = 0 from rfl, pcsK_more 0 s (by omega), pcsK_more 1 s (by omega)]
  · by_cases h1 : s.length = 1
    · rw [h1, show min 3 (1 + 1) - 1 = 1 from rfl, pcsK_more 1 s (by omega)]
    · rw [show min 3 (s.length + 1) - 1 = 2 by omega]
theorem splitB_pcs (k : Nat) (s : List UInt8) : Lib.splitB ⟨#[46]⟩ 0 k (mkS s) = (pcsK k s).map mkS := by
  have h := Lib.splitB_data ⟨#[46]⟩ 0 k (mkS s)
  rw [mk_data, show (⟨#[46]⟩ : ByteArray).data.toList = [46] from rfl, splitK_pcs] at h
  rw [← h, List.map_map]
  refine ((List.map_congr_left fun x _ => ?_).trans (List.map_id _)).symm
  exact Lib.mk_data x
theorem split3_any (s : List UInt8) (W : World) (hs : s.length ≤ 1000000) :
    Calls Tryz.prog 71 #[.string (mkS s), .string ⟨#[46]⟩, .int .i64 0, .int .i64 3] W fun e w' => ∃ v' ob', e = .returned v' ∧ SlT v' (pcsK 2 s) ob' ∧ Own [] W w' ob' := by
  have hsz := mkS_sz s
  have hI : ∀ (x : ByteArray) (c : Array Value), x.size ≤ (mkS s).size → Calls Tryz.prog 114 #[.string x, .string ⟨#[46]⟩] (W.alloc (.cells c 9)) fun e w' => e = .returned (.int .i64 (Lib.indexB x ⟨#[46]⟩)) ∧ w' = W.alloc (.cells c 9) :=
    fun x c _ => (Tryz.strings_Index_one x 46 _).mono fun e w' ⟨he, hw⟩ => ⟨by rw [he, indexByte_one]; try rfl, hw⟩
  have hC : Calls Tryz.prog 113 #[.string (mkS s), .string ⟨#[46]⟩] W fun e w' => e = .returned (.int .i64 (Lib.countB (mkS s) ⟨#[46]⟩)) ∧ w' = W :=
    (Tryz.strings_Count_one (mkS s) 46 W).mono fun e w' ⟨he, hw⟩ => ⟨by rw [he]; show _ = Ending.returned (Value.int .i64 ((Lib.count (mkS s).data.toList [46] : Nat) : Int)); rw [Lib.count_one]; rfl, hw⟩
  have c := Any.strings_genSplit_core Tryz.lays221 (by kernel_rfl) (mkS s) ⟨#[46]⟩ 0 3 (min 3 ((mkS s).size + 1)) W (by omega) (by decide) (Nat.zero_le _) hI hC (by decide) (by decide) (by rw [if_neg (by decide)]; omega)
  rw [hsz, splitB_pcs, pcsK_min] at c
  obtain ⟨hl1, hl3⟩ := pcsK_len 2 s
  have hle : (pcsK 2 s).length ≤ min 3 (s.length + 1) := by
    have h := Lib.splitB_length_le ⟨#[46]⟩ 0 (min 3 (s.length + 1) - 1) (mkS s)
    rw [splitB_pcs, pcsK_min, List.length_map] at h
    omega
  rw [List.length_map] at c
  refine Calls.mono c fun e w' ⟨he, hw⟩ => ?_
  subst hw
  refine ⟨_, _, he, ⟨by rw [strV_length]; omega, .inr ⟨W.heap.size, min 3 (s.length + 1), _, rfl, rfl, hle, by unfold maxLen; omega, by rw [Lib.cellsOf_size (by rw [List.length_map]; exact hle), Nat.mul_one], ?_⟩⟩, (Own.start [] W).alloc _ _⟩
  unfold Lib.cellsOf
  rw [List.map_map, List.take_append_of_le_length (by rw [List.length_map]; omega), List.take_of_length_le (by rw [List.length_map]; omega)]
  rfl
end Go.Proofs.YtjabcbagggicaaaGreatDoor
end

section
/-
  Package comp's cutSign, Print; strings.SplitN at a dot: what they return for strings of at most a million bytes; nothing that was there is changed. Condition of Print: the library's table of powers of ten reads as it is laid.
-/
namespace Go.Proofs.YtjabcbagggicaaaGreatDoor
open Go.RowKit
set_option maxRecDepth 100000
set_option linter.unusedVariables false
set_option linter.unusedSimpArgs false
set_option maxHeartbeats 2000000

theorem splitn_any (s : List UInt8) (W : World) (hs : s.length ≤ 1000000) : Calls Tryz.prog 36 #[.string (mkS s), .string ⟨#[46]⟩, .int .i64 3] W fun e w' => ∃ v' ob', e = .returned v' ∧ SlT v' (pcsK 2 s) ob' ∧ Own [] W w' ob' := by
  refine calls_ok (n := 11) Tryz.func36 rfl (by kernel_rfl) (by kernel_rfl) ?_
  refine ok_seq ?_
  refine ok_region ?_
  refine s_val (.slice none 0 0) (by kernel_rfl) (fun _ => by kernel_rfl) ?_
  refine s_nil ?_
  refine fin_seq ?_
  refine ok_seq ?_
  refine ok_region ?_
  refine s_val (.string (mkS s)) (by kernel_rfl) (fun _ => by kernel_rfl) ?_
  refine s_val (.string ⟨#[46]⟩) (by kernel_rfl) (fun _ => by kernel_rfl) ?_
  refine s_val (.int .i64 3) (by kernel_rfl) (fun _ => by kernel_rfl) ?_
  refine s_callo (k := 71) (args := #[.string (mkS s), .string ⟨#[46]⟩, .int .i64 0, .int .i64 3]) (fun v' L' => SlT v' (pcsK 2 s) L') (by kernel_rfl) (fun _ => by kernel_rfl) (fun w hO => (split3_any s w hs).mono fun e w' ⟨v', ob', k1, k2, k3⟩ => ⟨v', ob', k1, k2, by simpa using Own.joinN hO k3⟩) (fun v1 o1 hr1 => ?_)
  refine s_val (v1) (by kernel_rfl) (fun _ => by kernel_rfl) ?_
  refine s_nil ?_
  refine fin_seq ?_
  refine ok_ret ?_
  refine fin_ret (v1) Tryz.results36 (by kernel_rfl) ?_
  exact fun w hO => ⟨v1, o1, rfl, hr1, hO⟩
theorem sgo_take {s r : List UInt8} {k : Nat} {op : Int} (h : sgo s k = (op, r)) (hb : beginsL s (signL ((k + 1 : Nat) : Int)) = true) (hl : ((mkS (cpL s (signL ((k + 1 : Nat) : Int)))).size : Int) < ((mkS r).size : Int)) : sgo s (k + 1) = (((k + 1 : Nat) : Int), cpL s (signL ((k + 1 : Nat) : Int))) := by
  rw [mkS_sz, mkS_sz] at hl
  unfold cpL at hl ⊢
  rw [if_pos hb] at hl ⊢
  unfold sgo
  rw [h, if_pos ⟨hb, by show _ < r.length; omega⟩]
theorem sgo_not {s r : List UInt8} {k : Nat} {op : Int} (h : sgo s k = (op, r)) (hb : beginsL s (signL ((k + 1 : Nat) : Int)) = false) : sgo s (k + 1) = (op, r) := by
  unfold sgo
  rw [h, if_neg (fun q => by rw [hb] at q; exact Bool.false_ne_true q.1)]
theorem sgo_long {s r : List UInt8} {k : Nat} {op : Int} (h : sgo s k = (op, r)) (hb : beginsL s (signL ((k + 1 : Nat) : Int)) = true) (hl : ¬ ((mkS (cpL s (signL ((k + 1 : Nat) : Int)))).size : Int) < ((mkS r).size : Int)) : sgo s (k + 1) = (op, r) := by
  rw [mkS_sz, mkS_sz] at hl
  unfold cpL at hl
  rw [if_pos hb] at hl
  unfold sgo
  rw [h, if_neg (fun q => hl (by have q2 : _ < r.length := q.2; omega))]
theorem ccut_any (s : List UInt8) (W : World) (hs : s.length ≤ 1000000) : Calls Tryz.prog 34 #[.string (mkS s)] W fun e w' => e = .returned (.tuple #[.int .i64 (sgo s 8).1, .string (mkS (sgo s 8).2)]) ∧ Below W.heap.size W w' := by
  refine calls_ok (n := 33) Tryz.func34 rfl (by kernel_rfl) (by kernel_rfl) ?_
  refine ok_seq ?_
  refine ok_region ?_
  refine s_val (.int .i64 0) (by kernel_rfl) (fun _ => by kernel_rfl) ?_
  refine s_val (.string ⟨#[]⟩) (by kernel_rfl) (fun _ => by kernel_rfl) ?_
  refine s_nil ?_
  refine fin_seq ?_
  refine ok_seq ?_
  refine ok_region ?_
  refine s_val (.string (mkS s)) (by kernel_rfl) (fun _ => by kernel_rfl) ?_
  refine s_val (.int .i64 7) (by kernel_rfl) (fun _ => by kernel_rfl) ?_
  refine s_val (.string (mkS s)) (by kernel_rfl) (fun _ => by kernel_rfl) ?_
  refine s_nil ?_
  refine fin_seq ?_
  refine ok_seq ?_
  refine ok_seq ?_
  refine ok_region ?_
  refine s_val (.int .i64 1) (by kernel_rfl) (fun _ => by kernel_rfl) ?_
  refine s_nil ?_
  refine fin_seq ?_
  refine ok_block ?_
  refine ok_loop (fun L f m => ∃ (k : Nat) (op : Int) (r : List UInt8) (j : Nat → Value), (k ≤ 8 ∧ sgo s k = (op, r)) ∧ L = [] ∧ f = upds j [(0, .string (mkS s)), (4, .int .i64 op), (5, .string (mkS r)), (6, .int .i64 ((k + 1 : Nat) : Int))] ∧ m = 8 - k) (8 - 0) ⟨0, _, _, _, ⟨by omega, rfl⟩, rfl, upds_self _ ⟨by kernel_rfl, by kernel_rfl, by kernel_rfl, by kernel_rfl, trivial⟩, rfl⟩ ?_
  rintro L f m ⟨k, op, r, j, hrel, rfl, rfl, rfl⟩
  have hkl := hrel.1
  refine ok_seq ?_
  refine ok_seq ?_
  refine ok_region ?_
  refine s_val (.int .i64 ((k + 1 : Nat) : Int)) (by kernel_rfl) (fun _ => by kernel_rfl) ?_
  by_cases h1 : ((k + 1 : Nat) : Int) < 9
  · skip
    refine s_dec (p := ((k + 1 : Nat) : Int) < 9) true (by kernel_rfl) (fun _ => by kernel_rfl) (decide_eq_true (h1)) ?_
    refine s_nil ?_
    refine fin_seq ?_
    refine ok_true (by kernel_rfl) ?_
    refine ok_skip ?_
    refine fin_seq ?_
    refine ok_seq ?_
    refine ok_block ?_
    refine ok_seq ?_
    refine ok_region ?_
    refine s_val (.string (mkS s)) (by kernel_rfl) (fun _ => by kernel_rfl) ?_
    refine s_val (.int .i64 ((k + 1 : Nat) : Int)) (by kernel_rfl) (fun _ => by kernel_rfl) ?_
    refine s_call (k := 45) (args := #[.int .i64 ((k + 1 : Nat) : Int)]) (.string (mkS (signL ((k + 1 : Nat) : Int)))) (by kernel_rfl) (fun _ => by kernel_rfl) (fun w _ => csign_any _ w) ?_
    refine s_call (k := 69) (args := #[.string (mkS s), .string (mkS (signL ((k + 1 : Nat) : Int)))]) (.tuple #[.string (mkS (cpL s (signL ((k + 1 : Nat) : Int)))), .bool (beginsL s (signL ((k + 1 : Nat) : Int)))]) (by kernel_rfl) (fun _ => by kernel_rfl) (fun w _ => cutpre_any s (signL ((k + 1 : Nat) : Int)) w) ?_
    refine s_val (.tuple #[.string (mkS (cpL s (signL ((k + 1 : Nat) : Int)))), .bool (beginsL s (signL ((k + 1 : Nat) : Int)))]) (by kernel_rfl) (fun _ => by kernel_rfl) ?_
    refine s_val (.string (mkS (cpL s (signL ((k + 1 : Nat) : Int))))) (by kernel_rfl) (fun _ => by kernel_rfl) ?_
    refine s_val (.bool (beginsL s (signL ((k + 1 : Nat) : Int)))) (by kernel_rfl) (fun _ => by kernel_rfl) ?_
    refine s_val (.string (mkS (cpL s (signL ((k + 1 : Nat) : Int))))) (by kernel_rfl) (fun _ => by kernel_rfl) ?_
    refine s_val (.bool (beginsL s (signL ((k + 1 : Nat) : Int)))) (by kernel_rfl) (fun _ => by kernel_rfl) ?_
    refine s_nil ?_
    refine fin_seq ?_
    refine ok_seq ?_
    refine ok_region ?_
    refine s_val (.bool (beginsL s (signL ((k + 1 : Nat) : Int)))) (by kernel_rfl) (fun _ => by kernel_rfl) ?_
    refine s_val (.bool (beginsL s (signL ((k + 1 : Nat) : Int)))) (by kernel_rfl) (fun _ => by kernel_rfl) ?_
    cases h2 : beginsL s (signL ((k + 1 : Nat) : Int)) with
    | true =>
      refine s_val (.string (mkS (cpL s (signL ((k + 1 : Nat) : Int))))) (by kernel_rfl) (fun _ => by kernel_rfl) ?_
      refine s_val (.int .i64 ((mkS (cpL s (signL ((k + 1 : Nat) : Int)))).size)) (by kernel_rfl) (fun _ => by kernel_rfl) ?_
      refine s_val (.string (mkS r)) (by kernel_rfl) (fun _ => by kernel_rfl) ?_
      refine s_val (.int .i64 ((mkS r).size)) (by kernel_rfl) (fun _ => by kernel_rfl) ?_
      by_cases h3 : ((mkS (cpL s (signL ((k + 1 : Nat) : Int)))).size : Int) < (mkS r).size
      · skip
        refine s_dec (p := ((mkS (cpL s (signL ((k + 1 : Nat) : Int)))).size : Int) < (mkS r).size) true (by kernel_rfl) (fun _ => by kernel_rfl) (decide_eq_true (h3)) ?_
        refine s_val (.bool true) (by kernel_rfl) (fun _ => by kernel_rfl) ?_
        refine s_nil ?_
        refine fin_seq ?_
        refine ok_true (by kernel_rfl) ?_
        refine ok_region ?_
        refine s_val (.int .i64 ((k + 1 : Nat) : Int)) (by kernel_rfl) (fun _ => by kernel_rfl) ?_
        refine s_val (.string (mkS (cpL s (signL ((k + 1 : Nat) : Int))))) (by kernel_rfl) (fun _ => by kernel_rfl) ?_
        refine s_val (.int .i64 ((k + 1 : Nat) : Int)) (by kernel_rfl) (fun _ => by kernel_rfl) ?_
        refine s_val (.string (mkS (cpL s (signL ((k + 1 : Nat) : Int))))) (by kernel_rfl) (fun _ => by kernel_rfl) ?_
        refine s_nil ?_
        refine fin_block ?_
        refine fin_seq ?_
        refine ok_region ?_
        refine s_val (.int .i64 ((k + 1 : Nat) : Int)) (by kernel_rfl) (fun _ => by kernel_rfl) ?_
        refine s_sum (k := .i64) (((k + 1 + 1 : Nat) : Int)) (by kernel_rfl) (fun _ => by kernel_rfl) (IntWalk.i64_in _ (by omega)) ?_
        refine s_val (.int .i64 ((k + 1 + 1 : Nat) : Int)) (by kernel_rfl) (fun _ => by kernel_rfl) ?_
        refine s_nil ?_
        exact fin_round (m' := 8 - (k + 1)) (by omega) ⟨k + 1, ((k + 1 : Nat) : Int), cpL s (signL ((k + 1 : Nat) : Int)), _, ⟨by omega, sgo_take hrel.2 h2 h3⟩, rfl, upds_self _ ⟨by kernel_rfl, by kernel_rfl, by kernel_rfl, by kernel_rfl, trivial⟩, rfl⟩
      · skip
        refine s_dec (p := ((mkS (cpL s (signL ((k + 1 : Nat) : Int)))).size : Int) < (mkS r).size) false (by kernel_rfl) (fun _ => by kernel_rfl) (decide_eq_false (h3)) ?_
        refine s_val (.bool false) (by kernel_rfl) (fun _ => by kernel_rfl) ?_
        refine s_nil ?_
        refine fin_seq ?_
        refine ok_false (by kernel_rfl) ?_
        refine ok_skip ?_
        refine fin_block ?_
        refine fin_seq ?_
        refine ok_region ?_
        refine s_val (.int .i64 ((k + 1 : Nat) : Int)) (by kernel_rfl) (fun _ => by kernel_rfl) ?_
        refine s_sum (k := .i64) (((k + 1 + 1 : Nat) : Int)) (by kernel_rfl) (fun _ => by kernel_rfl) (IntWalk.i64_in _ (by omega)) ?_
        refine s_val (.int .i64 ((k + 1 + 1 : Nat) : Int)) (by kernel_rfl) (fun _ => by kernel_rfl) ?_
        refine s_nil ?_
        exact fin_round (m' := 8 - (k + 1)) (by omega) ⟨k + 1, op, r, _, ⟨by omega, sgo_long hrel.2 h2 h3⟩, rfl, upds_self _ ⟨by kernel_rfl, by kernel_rfl, by kernel_rfl, by kernel_rfl, trivial⟩, rfl⟩
    | false =>
      refine s_skip (by kernel_rfl) ?_
      refine s_skip (by kernel_rfl) ?_
      refine s_skip (by kernel_rfl) ?_
      refine s_skip (by kernel_rfl) ?_
      refine s_skip (by kernel_rfl) ?_
      refine s_val (.bool false) (by kernel_rfl) (fun _ => by kernel_rfl) ?_
      refine s_nil ?_
      refine fin_seq ?_
      refine ok_false (by kernel_rfl) ?_
      refine ok_skip ?_
      refine fin_block ?_
      refine fin_seq ?_
      refine ok_region ?_
      refine s_val (.int .i64 ((k + 1 : Nat) : Int)) (by kernel_rfl) (fun _ => by kernel_rfl) ?_
      refine s_sum (k := .i64) (((k + 1 + 1 : Nat) : Int)) (by kernel_rfl) (fun _ => by kernel_rfl) (IntWalk.i64_in _ (by omega)) ?_
      refine s_val (.int .i64 ((k + 1 + 1 : Nat) : Int)) (by kernel_rfl) (fun _ => by kernel_rfl) ?_
      refine s_nil ?_
      exact fin_round (m' := 8 - (k + 1)) (by omega) ⟨k + 1, op, r, _, ⟨by omega, sgo_not hrel.2 h2⟩, rfl, upds_self _ ⟨by kernel_rfl, by kernel_rfl, by kernel_rfl, by kernel_rfl, trivial⟩, rfl⟩
  · skip
    refine s_dec (p := ((k + 1 : Nat) : Int) < 9) false (by kernel_rfl) (fun _ => by kernel_rfl) (decide_eq_false (h1)) ?_
    refine s_nil ?_
    refine fin_seq ?_
    refine ok_false (by kernel_rfl) ?_
    refine ok_exit ?_
    refine fin_seq_exit ?_
    refine fin_round_exit ?_
    refine fin_block_exit ?_
    refine fin_seq ?_
    refine ok_seq ?_
    refine ok_region ?_
    refine s_val (.int .i64 op) (by kernel_rfl) (fun _ => by kernel_rfl) ?_
    refine s_val (.string (mkS r)) (by kernel_rfl) (fun _ => by kernel_rfl) ?_
    refine s_val (.int .i64 op) (by kernel_rfl) (fun _ => by kernel_rfl) ?_
    refine s_val (.string (mkS r)) (by kernel_rfl) (fun _ => by kernel_rfl) ?_
    refine s_nil ?_
    refine fin_seq ?_
    refine ok_ret ?_
    refine fin_ret2 (.int .i64 op) (.string (mkS r)) Tryz.results34 (by kernel_rfl) (by kernel_rfl) ?_
    exact fun w hO => ⟨by have hk8 : k = 8 := (by omega); subst hk8; rw [hrel.2], hO.below⟩
theorem nth_ok {v : Ver} (h : v.may = true) {k : Nat} (hk : k < 3) : numOkI (nth3 v.maj v.min v.pat k) = true := by
  obtain ⟨m1, m2, m3⟩ := may_nums h
  have hj : k = 0 ∨ k = 1 ∨ k = 2 := by omega
  rcases hj with rfl | rfl | rfl
  · exact m1
  · exact m2
  · exact m3
theorem nth_in {v : Ver} (h : v.may = true) {k : Nat} (hk : k < 3) : -9223372036854775808 ≤ nth3 v.maj v.min v.pat k ∧ nth3 v.maj v.min v.pat k ≤ 9223372036854775807 := by
  have q := nth_ok h hk
  unfold numOkI at q; simp at q; omega
theorem nums_next (v : Ver) {k : Nat} (hk : k < 3) : numsN v (k + 1) = numsN v k ++ [Lib.itoa (nth3 v.maj v.min v.pat k)] := by
  have hj : k = 0 ∨ k = 1 ∨ k = 2 := by omega
  rcases hj with rfl | rfl | rfl <;> rfl
theorem own_dropP {M : List Nat} {W w : World} {x y z : Blk} {A : List Blk} (h : Own M W w ([x, y, z] ++ A ++ [])) : Own M W w (y :: z :: A) := h.sublist (by rw [List.append_nil]; exact List.sublist_append_right [x] _)
theorem star_ne {l : List (List UInt8)} : joinL 46 (l ++ [[42]]) ≠ [] := fun e => by
  have h := last_join [] l
  rw [show ([] : List UInt8) ++ [42] = [42] from rfl, e] at h
  cases h
theorem nums_ne {c : Co} (h : c.may = true) (hn : ¬ c.op = 9) : joinL 46 (numsN c.v c.parts.toNat) ≠ [] := fun e => by
  obtain ⟨d, r, e2, hd⟩ := rest_head h hn
  unfold Co.rest at e2
  rw [if_neg hn, e, List.nil_append] at e2
  unfold tailS at e2
  split at e2
  · cases e2
  · injection e2 with e3 _
    rw [← e3] at hd
    revert hd; decide
theorem text_pre2 {c : Co} (h9 : ¬ c.op = 9) (hp : ¬ c.v.pre = []) : signL c.op ++ joinL 46 (numsN c.v c.parts.toNat) ++ ([45] ++ c.v.pre) = c.text := by
  rw [← text_pre h9 hp]; simp
theorem star_text2 {c : Co} (h9 : c.op = 9) : signL c.op ++ joinL 46 (numsN c.v c.parts.toNat ++ [[42]]) = c.text := by
  rw [← star_text h9, h9]; rfl
theorem star_pre {c : Co} (h : c.may = true) (h9 : c.op = 9) : c.v.pre = [] := by
  obtain ⟨_, _, _, k9, _, hp, _⟩ := Co.facts h
  have := k9 h9
  exact hp.resolve_left (by omega)
set_option maxHeartbeats 4000000 in
theorem cPrint_any (c : Co) (W : World) (hc : c.short) (ht : HasTab W) : Calls Tryz.prog 14 #[coV c] W fun e w' => e = .returned (.string (mkS c.print)) ∧ Below W.heap.size W w' := by
  refine calls_ok (n := 50) Tryz.func14 rfl (by kernel_rfl) (by kernel_rfl) ?_
  refine ok_seq ?_
  refine ok_region ?_
  refine s_box (coV c) (by kernel_rfl) rfl (by kernel_rfl) (fun b1 => ?_)
  refine s_val (.string ⟨#[]⟩) (by kernel_rfl) (fun _ => by kernel_rfl) ?_
  refine s_nil ?_
  refine fin_seq ?_
  refine ok_seq ?_
  refine ok_seq ?_
  refine ok_region ?_
  refine s_load 0 ⟨b1, (coV c).cells, 26⟩ (off := 0) (coV c) (by kernel_rfl) rfl (by kernel_rfl) (by kernel_rfl) (by kernel_rfl) ?_
  refine s_call (k := 15) (args := #[coV c]) (.bool c.may) (by kernel_rfl) (fun _ => by kernel_rfl) (fun w _ => cMay_any c w hc) ?_
  cases h1 : c.may with
  | true =>
    have hcm := h1
    have hcv := (Co.facts hcm).2.1
    have hpn := parts_nat hcm
    have hpr := hpn.2
    have hpc := hpn.1
    refine s_val (.bool false) (by kernel_rfl) (fun _ => by kernel_rfl) ?_
    refine s_nil ?_
    refine fin_seq ?_
    refine ok_false (by kernel_rfl) ?_
    refine ok_skip ?_
    refine fin_seq ?_
    refine ok_seq ?_
    refine ok_region ?_
    refine s_val (.slice none 0 0) (by kernel_rfl) (fun _ => by kernel_rfl) ?_
    refine s_nil ?_
    refine fin_seq ?_
    refine ok_seq ?_
    refine ok_seq ?_
    refine ok_anyh (by kernel_rfl) ?_
    refine h_take 0 [] _ (.pointer (some ⟨b1, 2, none⟩)) rfl (by kernel_rfl) (by kernel_rfl) (by kernel_rfl) (pq_seq (pq_seq pq_body)) (by kernel_rfl) (fun _ _ => by kernel_rfl) ?_
    refine h_load 1 [] _ 0 ⟨b1, (coV c).cells, 26⟩ (off := 2) (.agg #[.int .i64 c.v.maj, .int .i64 c.v.min, .int .i64 c.v.pat, .string (mkS c.v.pre), .string (mkS c.v.build)]) rfl (by kernel_rfl) (by kernel_rfl) (by kernel_rfl) (pq_seq (pq_seq pq_body)) (by kernel_rfl) rfl (by kernel_rfl) (by kernel_rfl) (by kernel_rfl) ?_
    refine h_take 3 [] _ (.pointer (some ⟨b1, 1, none⟩)) rfl (by kernel_rfl) (by kernel_rfl) (by kernel_rfl) (pq_seq (pq_seq pq_body)) (by kernel_rfl) (fun _ _ => by kernel_rfl) ?_
    refine h_load 4 [] _ 0 ⟨b1, (coV c).cells, 26⟩ (off := 1) (.int .i64 c.parts) rfl (by kernel_rfl) (by kernel_rfl) (by kernel_rfl) (pq_seq (pq_seq pq_body)) (by kernel_rfl) rfl (by kernel_rfl) (by kernel_rfl) (by kernel_rfl) ?_
    refine h_take 7 [] _ (.int .i64 0) rfl (by kernel_rfl) (by kernel_rfl) (by kernel_rfl) (pq_seq (pq_seq pq_body)) (by kernel_rfl) (fun _ _ => by kernel_rfl) ?_
    refine h_one 2 (by kernel_rfl) ?_
    refine hl_callx _ (k := 43) (args := #[.agg #[.int .i64 c.v.maj, .int .i64 c.v.min, .int .i64 c.v.pat, .string (mkS c.v.pre), .string (mkS c.v.build)]]) (fun v' L' => ∃ ob', L' = ob' ++ ([] ++ ([⟨b1, (coV c).cells, 26⟩])) ∧ ∃ g, v' = .slice (some ⟨g, 0, none⟩) 3 3 ∧ ob' = [⟨g, numsC c.v, 3⟩]) rfl (by kernel_rfl) (fun _ => by kernel_rfl) (fun w hO => (cnums_any c.v w).mono fun e w' ⟨v', ob', k1, k2, k3⟩ => ⟨v', _, k1, ⟨ob', rfl, k2⟩, Own.joinN hO k3⟩) (fun v' L' ⟨ob', e, _⟩ w hO => by subst e; exact Own.sub [] (Own.sub ob' hO)) (fun v1 L2 hv2 => ?_)
    obtain ⟨o1, rfl, hr1⟩ := hv2
    obtain ⟨g1, rfl, ho1⟩ := hr1
    refine h_cast (L' := (o1 ++ ([] : List Blk)) ++ ([⟨b1, (coV c).cells, 26⟩])) (List.append_assoc _ _ _).symm ?_
    refine h_take 5 (o1 ++ ([] : List Blk)) _ (.slice (some ⟨g1, 0, none⟩) c.parts.toNat 3) rfl (by kernel_rfl) (by kernel_rfl) (by kernel_rfl) (pq_seq (pq_seq pq_body)) (by kernel_rfl) (fun w _ => run_slhi (b := g1) (off := 0) (n := 3) (c := 3) (k := .i64) (j := c.parts) (e := 3) (sz := 1) rfl (by kernel_rfl) (by kernel_rfl) (by kernel_rfl) (by kernel_rfl) (by omega) (by omega) w) ?_
    refine h_take 6 (o1 ++ ([] : List Blk)) _ (.int .i64 (c.parts.toNat : Int)) rfl (by kernel_rfl) (by kernel_rfl) (by kernel_rfl) (pq_seq (pq_seq pq_body)) (by kernel_rfl) (fun _ _ => by kernel_rfl) ?_
    refine h_done (by kernel_rfl) ?_
    refine fin_seq ?_
    refine ok_block ?_
    refine ok_cast (L' := ⟨g1, numsC c.v, 3⟩ :: ⟨b1, (coV c).cells, 26⟩ :: []) (by rw [ho1]; rfl) ?_
    refine ok_loop (fun L f m => ∃ (k : Nat) (va : Value) (oa : List Blk) (j : Nat → Value), (k ≤ c.parts.toNat ∧ SlT va (numsN c.v k) oa) ∧ L = ⟨g1, numsC c.v, 3⟩ :: ⟨b1, (coV c).cells, 26⟩ :: oa ∧ f = upds j [(1, .pointer (some ⟨b1, 0, none⟩)), (3, va), (15, .slice (some ⟨g1, 0, none⟩) c.parts.toNat 3), (16, .int .i64 (c.parts.toNat : Int)), (17, .int .i64 (k : Int))] ∧ m = c.parts.toNat - k) (c.parts.toNat - 0) ⟨0, _, [], _, ⟨Nat.zero_le _, Sl.nil _ _⟩, rfl, upds_self _ ⟨by kernel_rfl, by kernel_rfl, by kernel_rfl, by kernel_rfl, by kernel_rfl, trivial⟩, rfl⟩ ?_
    rintro L f m ⟨k, va, oa, j, hrel, rfl, rfl, rfl⟩
    have hkl := hrel.1
    refine ok_seq ?_
    refine ok_region ?_
    by_cases h2 : (k : Int) < (c.parts.toNat : Int)
    · skip
      refine s_dec (p := (k : Int) < (c.parts.toNat : Int)) true (by kernel_rfl) (fun _ => by kernel_rfl) (decide_eq_true (h2)) ?_
      refine s_nil ?_
      refine fin_seq ?_
      refine ok_seq ?_
      refine ok_true (by kernel_rfl) ?_
      refine ok_skip ?_
      refine fin_seq ?_
      refine ok_seq ?_
      refine ok_block ?_
      refine ok_seq ?_
      refine ok_region ?_
      refine s_val (.pointer (some ⟨g1, 0 + k, none⟩)) (by kernel_rfl) (run_ixsl (b := g1) (off := 0) (n := c.parts.toNat) (c := 3) (k := .i64) (j := (k : Int)) (e := 3) (sz := 1) rfl (by kernel_rfl) (by kernel_rfl) (by kernel_rfl) (by kernel_rfl) (by omega) (by omega) (by omega)) ?_
      refine s_load 0 ⟨g1, numsC c.v, 3⟩ (off := 0 + k) (.int .i64 (nth3 c.v.maj c.v.min c.v.pat k)) (by kernel_rfl) rfl (by kernel_rfl) (by kernel_rfl) (by rw [Nat.zero_add]; exact rd_nums c.v k (by omega)) ?_
      refine s_val (.int .i64 (nth3 c.v.maj c.v.min c.v.pat k)) (by kernel_rfl) (fun _ => by kernel_rfl) ?_
      refine s_nil ?_
      refine fin_seq ?_
      refine ok_region ?_
      refine s_val (va) (by kernel_rfl) (fun _ => by kernel_rfl) ?_
      refine s_val (.int .i64 (nth3 c.v.maj c.v.min c.v.pat k)) (by kernel_rfl) (fun _ => by kernel_rfl) ?_
      refine s_call (k := 44) (args := #[.int .i64 (nth3 c.v.maj c.v.min c.v.pat k)]) (.string (mkS (Lib.itoa (nth3 c.v.maj c.v.min c.v.pat k)))) (by kernel_rfl) (fun _ => by kernel_rfl) (fun w hO => digits_mk _ (nth_in hcv (show k < 3 by omega)).1 (nth_in hcv (show k < 3 by omega)).2 w (ht.on hO.below)) ?_
      refine s_lit 9 #[.string (mkS (Lib.itoa (nth3 c.v.maj c.v.min c.v.pat k)))] (by kernel_rfl) rfl (fun _ => by kernel_rfl) (fun b2 => ?_)
      obtain ⟨i0, z0, e1, e2, e3, e4, e5⟩ := str_info
      have hlk : (numsN c.v k).length ≤ 3 := by have := numsN_le c.v k; omega
      refine s_cast (L' := [⟨b2, #[.string (mkS (Lib.itoa (nth3 c.v.maj c.v.min c.v.pat k)))], 9⟩, ⟨g1, numsC c.v, 3⟩, ⟨b1, (coV c).cells, 26⟩] ++ oa ++ []) (List.append_nil _).symm ?_
      refine s_append (sz := 1) (by kernel_rfl) rfl Tryz.underlying56 e1 e2 e3 e4 (by kernel_rfl) hrel.2 (a := ⟨b2, 0, none⟩) (m := 1) (c := 1) (news := strV [Lib.itoa (nth3 c.v.maj c.v.min c.v.pat k)]) (by kernel_rfl) rfl (fun w hO j u hj => ?_) (str_cells _) (by unfold maxLen; omega) (by rw [e5]; omega) (fun va2 oa2 hva0 => ?_)
      · rw [add_off, cell_of_row w b2 (0 + j) (strV [Lib.itoa (nth3 c.v.maj c.v.min c.v.pat k)]).toArray 9 _ (hO.held ⟨b2, (strV [Lib.itoa (nth3 c.v.maj c.v.min c.v.pat k)]).toArray, 9⟩ (List.mem_append_left _ (List.mem_append_left _ (List.mem_cons_self ..))))]; simpa using hj
      have hva2 : SlT va2 ((numsN c.v k) ++ [Lib.itoa (nth3 c.v.maj c.v.min c.v.pat k)]) oa2 := hva0.to (by rw [List.length_append]; rfl) (by unfold strV; rw [List.map_append])
      refine s_val (va2) (by kernel_rfl) (fun _ => by kernel_rfl) ?_
      refine s_nil ?_
      refine fin_block ?_
      refine fin_seq ?_
      refine ok_region ?_
      refine s_sum (k := .i64) (((k + 1 : Nat) : Int)) (by kernel_rfl) (fun _ => by kernel_rfl) (IntWalk.i64_in _ (by omega)) ?_
      refine s_val (.int .i64 ((k + 1 : Nat) : Int)) (by kernel_rfl) (fun _ => by kernel_rfl) ?_
      refine s_nil ?_
      refine fin_take (L' := ⟨g1, numsC c.v, 3⟩ :: ⟨b1, (coV c).cells, 26⟩ :: oa2) (fun w hO => own_dropP hO) ?_
      exact fin_round (m' := c.parts.toNat - (k + 1)) (by omega) ⟨k + 1, va2, oa2, _, ⟨by omega, by rw [nums_next c.v (by omega)]; exact hva2⟩, rfl, upds_self _ ⟨by kernel_rfl, by kernel_rfl, by kernel_rfl, by kernel_rfl, by kernel_rfl, trivial⟩, rfl⟩
    · skip
      have hkq : k = c.parts.toNat := by omega
      have hvk : SlT va (numsN c.v c.parts.toNat) oa := hkq ▸ hrel.2
      refine s_dec (p := (k : Int) < (c.parts.toNat : Int)) false (by kernel_rfl) (fun _ => by kernel_rfl) (decide_eq_false (h2)) ?_
      refine s_nil ?_
      refine fin_seq ?_
      refine ok_seq ?_
      refine ok_false (by kernel_rfl) ?_
      refine ok_exit ?_
      refine fin_seq_exit ?_
      refine fin_round_exit ?_
      refine fin_block_exit ?_
      refine fin_seq ?_
      refine ok_seq ?_
      refine ok_seq ?_
      refine ok_region ?_
      refine s_val (.pointer (some ⟨b1, 0, none⟩)) (by kernel_rfl) (fun _ => by kernel_rfl) ?_
      refine s_load 1 ⟨b1, (coV c).cells, 26⟩ (off := 0) (.int .i64 c.op) (by kernel_rfl) rfl (by kernel_rfl) (by kernel_rfl) (by kernel_rfl) ?_
      by_cases h3 : (c.op : Int) = 9
      · skip
        refine s_dec (p := (c.op : Int) = 9) true (by kernel_rfl) (fun _ => by kernel_rfl) (decide_eq_true (h3)) ?_
        refine s_nil ?_
        refine fin_seq ?_
        refine ok_true (by kernel_rfl) ?_
        refine ok_region ?_
        refine s_val (va) (by kernel_rfl) (fun _ => by kernel_rfl) ?_
        refine s_lit 9 #[.string ⟨#[42]⟩] (by kernel_rfl) rfl (fun _ => by kernel_rfl) (fun b2 => ?_)
        obtain ⟨i0, z0, e1, e2, e3, e4, e5⟩ := str_info
        have hlk : (numsN c.v c.parts.toNat).length ≤ 3 := by have := numsN_le c.v c.parts.toNat; omega
        refine s_cast (L' := [⟨b2, #[.string ⟨#[42]⟩], 9⟩, ⟨g1, numsC c.v, 3⟩, ⟨b1, (coV c).cells, 26⟩] ++ oa ++ []) (List.append_nil _).symm ?_
        refine s_append (sz := 1) (by kernel_rfl) rfl Tryz.underlying56 e1 e2 e3 e4 (by kernel_rfl) hvk (a := ⟨b2, 0, none⟩) (m := 1) (c := 1) (news := strV [[42]]) (by kernel_rfl) rfl (fun w hO j u hj => ?_) (str_cells _) (by unfold maxLen; omega) (by rw [e5]; omega) (fun va2 oa2 hva0 => ?_)
        · rw [add_off, cell_of_row w b2 (0 + j) (strV [[42]]).toArray 9 _ (hO.held ⟨b2, (strV [[42]]).toArray, 9⟩ (List.mem_append_left _ (List.mem_append_left _ (List.mem_cons_self ..))))]; simpa using hj
        have hva2 : SlT va2 ((numsN c.v c.parts.toNat) ++ [[42]]) oa2 := hva0.to (by rw [List.length_append]; rfl) (by unfold strV; rw [List.map_append])
        refine s_val (va2) (by kernel_rfl) (fun _ => by kernel_rfl) ?_
        refine s_nil ?_
        refine fin_take (L' := ⟨g1, numsC c.v, 3⟩ :: ⟨b1, (coV c).cells, 26⟩ :: oa2) (fun w hO => own_dropP hO) ?_
        refine fin_seq ?_
        refine ok_seq ?_
        refine ok_region ?_
        refine s_val (.pointer (some ⟨b1, 0, none⟩)) (by kernel_rfl) (fun _ => by kernel_rfl) ?_
        refine s_load 1 ⟨b1, (coV c).cells, 26⟩ (off := 0) (.int .i64 c.op) (by kernel_rfl) rfl (by kernel_rfl) (by kernel_rfl) (by kernel_rfl) ?_
        refine s_call (k := 45) (args := #[.int .i64 c.op]) (.string (mkS (signL c.op))) (by kernel_rfl) (fun _ => by kernel_rfl) (fun w _ => csign_any c.op w) ?_
        refine s_val (va2) (by kernel_rfl) (fun _ => by kernel_rfl) ?_
        refine s_call (k := 46) (args := #[va2, .int .u8 46]) (.string (mkS (joinL 46 (numsN c.v c.parts.toNat ++ [[42]])))) (by kernel_rfl) (fun _ => by kernel_rfl) (fun w hO => join_any va2 _ 46 w (SlT.readsT hva2 hO (fun x hx => by simp [hx])) (Nat.le_trans (sjoin_len hcv _) (by decide)) (by rw [List.length_append]; have := numsN_le c.v c.parts.toNat; simp; omega) star_ne) ?_
        refine s_val (.string (mkS ((signL c.op) ++ (joinL 46 (numsN c.v c.parts.toNat ++ [[42]]))))) (by kernel_rfl) (run_stradd (a := (signL c.op)) (b := (joinL 46 (numsN c.v c.parts.toNat ++ [[42]]))) rfl (by kernel_rfl) (by kernel_rfl) (by have q1 := signL_len c.op; have q2 := njoin_len hcv c.parts.toNat; have q4 := sjoin_len hcv c.parts.toNat; have q3 := hc.1; first | omega | (simp only [List.length_append, List.length_cons, List.length_nil]; omega))) ?_
        refine s_val (.string (mkS ((signL c.op) ++ (joinL 46 (numsN c.v c.parts.toNat ++ [[42]]))))) (by kernel_rfl) (fun _ => by kernel_rfl) ?_
        refine s_nil ?_
        refine fin_seq ?_
        refine ok_seq ?_
        refine ok_seq ?_
        refine ok_region ?_
        refine s_val (.pointer (some ⟨b1, 2, none⟩)) (by kernel_rfl) (fun _ => by kernel_rfl) ?_
        refine s_val (.pointer (some ⟨b1, 5, none⟩)) (by kernel_rfl) (fun _ => by kernel_rfl) ?_
        refine s_load 1 ⟨b1, (coV c).cells, 26⟩ (off := 5) (.string (mkS c.v.pre)) (by kernel_rfl) rfl (by kernel_rfl) (by kernel_rfl) (by kernel_rfl) ?_
        refine s_val (.bool false) (by kernel_rfl) (run_strneq (a := c.v.pre) (b := ([])) rfl (by kernel_rfl) (by kernel_rfl) (decide_eq_true (star_pre hcm h3))) ?_
        refine s_nil ?_
        refine fin_seq ?_
        refine ok_false (by kernel_rfl) ?_
        refine ok_skip ?_
        refine fin_seq ?_
        refine ok_seq ?_
        refine ok_region ?_
        refine s_val (.string (mkS ((signL c.op) ++ (joinL 46 (numsN c.v c.parts.toNat ++ [[42]]))))) (by kernel_rfl) (fun _ => by kernel_rfl) ?_
        refine s_val (.string (mkS ((signL c.op) ++ (joinL 46 (numsN c.v c.parts.toNat ++ [[42]]))))) (by kernel_rfl) (fun _ => by kernel_rfl) ?_
        refine s_nil ?_
        refine fin_seq ?_
        refine ok_ret ?_
        refine fin_ret (.string (mkS ((signL c.op) ++ (joinL 46 (numsN c.v c.parts.toNat ++ [[42]]))))) Tryz.results14 (by kernel_rfl) ?_
        exact fun w hO => ⟨by rw [co_print hcm, ← star_text2 h3], hO.below⟩
      · skip
        refine s_dec (p := (c.op : Int) = 9) false (by kernel_rfl) (fun _ => by kernel_rfl) (decide_eq_false (h3)) ?_
        refine s_nil ?_
        refine fin_seq ?_
        refine ok_false (by kernel_rfl) ?_
        refine ok_skip ?_
        refine fin_seq ?_
        refine ok_seq ?_
        refine ok_region ?_
        refine s_val (.pointer (some ⟨b1, 0, none⟩)) (by kernel_rfl) (fun _ => by kernel_rfl) ?_
        refine s_load 1 ⟨b1, (coV c).cells, 26⟩ (off := 0) (.int .i64 c.op) (by kernel_rfl) rfl (by kernel_rfl) (by kernel_rfl) (by kernel_rfl) ?_
        refine s_call (k := 45) (args := #[.int .i64 c.op]) (.string (mkS (signL c.op))) (by kernel_rfl) (fun _ => by kernel_rfl) (fun w _ => csign_any c.op w) ?_
        refine s_val (va) (by kernel_rfl) (fun _ => by kernel_rfl) ?_
        refine s_call (k := 46) (args := #[va, .int .u8 46]) (.string (mkS (joinL 46 (numsN c.v c.parts.toNat)))) (by kernel_rfl) (fun _ => by kernel_rfl) (fun w hO => join_any va _ 46 w (SlT.readsT hvk hO (fun x hx => by simp [hx])) (Nat.le_trans (njoin_len hcv _) (by decide)) (Nat.le_trans (numsN_le _ _) (by decide)) (nums_ne hcm h3)) ?_
        refine s_val (.string (mkS ((signL c.op) ++ (joinL 46 (numsN c.v c.parts.toNat))))) (by kernel_rfl) (run_stradd (a := (signL c.op)) (b := (joinL 46 (numsN c.v c.parts.toNat))) rfl (by kernel_rfl) (by kernel_rfl) (by have q1 := signL_len c.op; have q2 := njoin_len hcv c.parts.toNat; have q4 := sjoin_len hcv c.parts.toNat; have q3 := hc.1; first | omega | (simp only [List.length_append, List.length_cons, List.length_nil]; omega))) ?_
        refine s_val (.string (mkS ((signL c.op) ++ (joinL 46 (numsN c.v c.parts.toNat))))) (by kernel_rfl) (fun _ => by kernel_rfl) ?_
        refine s_nil ?_
        refine fin_seq ?_
        refine ok_seq ?_
        refine ok_seq ?_
        refine ok_region ?_
        refine s_val (.pointer (some ⟨b1, 2, none⟩)) (by kernel_rfl) (fun _ => by kernel_rfl) ?_
        refine s_val (.pointer (some ⟨b1, 5, none⟩)) (by kernel_rfl) (fun _ => by kernel_rfl) ?_
        refine s_load 1 ⟨b1, (coV c).cells, 26⟩ (off := 5) (.string (mkS c.v.pre)) (by kernel_rfl) rfl (by kernel_rfl) (by kernel_rfl) (by kernel_rfl) ?_
        by_cases h4 : (c.v.pre : List UInt8) = []
        · skip
          refine s_val (.bool false) (by kernel_rfl) (run_strneq (a := c.v.pre) (b := ([])) rfl (by kernel_rfl) (by kernel_rfl) (decide_eq_true (h4))) ?_
          refine s_nil ?_
          refine fin_seq ?_
          refine ok_false (by kernel_rfl) ?_
          refine ok_skip ?_
          refine fin_seq ?_
          refine ok_seq ?_
          refine ok_region ?_
          refine s_val (.string (mkS ((signL c.op) ++ (joinL 46 (numsN c.v c.parts.toNat))))) (by kernel_rfl) (fun _ => by kernel_rfl) ?_
          refine s_val (.string (mkS ((signL c.op) ++ (joinL 46 (numsN c.v c.parts.toNat))))) (by kernel_rfl) (fun _ => by kernel_rfl) ?_
          refine s_nil ?_
          refine fin_seq ?_
          refine ok_ret ?_
          refine fin_ret (.string (mkS ((signL c.op) ++ (joinL 46 (numsN c.v c.parts.toNat))))) Tryz.results14 (by kernel_rfl) ?_
          exact fun w hO => ⟨by rw [co_print hcm, ← text_bare h3 h4], hO.below⟩
        · skip
          refine s_val (.bool true) (by kernel_rfl) (run_strneq (a := c.v.pre) (b := ([])) rfl (by kernel_rfl) (by kernel_rfl) (decide_eq_false (h4))) ?_
          refine s_nil ?_
          refine fin_seq ?_
          refine ok_true (by kernel_rfl) ?_
          refine ok_region ?_
          refine s_val (.string (mkS ((signL c.op) ++ (joinL 46 (numsN c.v c.parts.toNat))))) (by kernel_rfl) (fun _ => by kernel_rfl) ?_
          refine s_val (.pointer (some ⟨b1, 2, none⟩)) (by kernel_rfl) (fun _ => by kernel_rfl) ?_
          refine s_val (.pointer (some ⟨b1, 5, none⟩)) (by kernel_rfl) (fun _ => by kernel_rfl) ?_
          refine s_load 1 ⟨b1, (coV c).cells, 26⟩ (off := 5) (.string (mkS c.v.pre)) (by kernel_rfl) rfl (by kernel_rfl) (by kernel_rfl) (by kernel_rfl) ?_
          refine s_val (.string (mkS ([45] ++ c.v.pre))) (by kernel_rfl) (run_stradd (a := [45]) (b := c.v.pre) rfl (by kernel_rfl) (by kernel_rfl) (by have q1 := signL_len c.op; have q2 := njoin_len hcv c.parts.toNat; have q4 := sjoin_len hcv c.parts.toNat; have q3 := hc.1; first | omega | (simp only [List.length_append, List.length_cons, List.length_nil]; omega))) ?_
          refine s_val (.string (mkS (((signL c.op) ++ (joinL 46 (numsN c.v c.parts.toNat))) ++ ([45] ++ c.v.pre)))) (by kernel_rfl) (run_stradd (a := ((signL c.op) ++ (joinL 46 (numsN c.v c.parts.toNat)))) (b := ([45] ++ c.v.pre)) rfl (by kernel_rfl) (by kernel_rfl) (by have q1 := signL_len c.op; have q2 := njoin_len hcv c.parts.toNat; have q4 := sjoin_len hcv c.parts.toNat; have q3 := hc.1; first | omega | (simp only [List.length_append, List.length_cons, List.length_nil]; omega))) ?_
          refine s_val (.string (mkS (((signL c.op) ++ (joinL 46 (numsN c.v c.parts.toNat))) ++ ([45] ++ c.v.pre)))) (by kernel_rfl) (fun _ => by kernel_rfl) ?_
          refine s_nil ?_
          refine fin_seq ?_
          refine ok_seq ?_
          refine ok_region ?_
          refine s_val (.string (mkS (((signL c.op) ++ (joinL 46 (numsN c.v c.parts.toNat))) ++ ([45] ++ c.v.pre)))) (by kernel_rfl) (fun _ => by kernel_rfl) ?_
          refine s_val (.string (mkS (((signL c.op) ++ (joinL 46 (numsN c.v c.parts.toNat))) ++ ([45] ++ c.v.pre)))) (by kernel_rfl) (fun _ => by kernel_rfl) ?_
          refine s_nil ?_
          refine fin_seq ?_
          refine ok_ret ?_
          refine fin_ret (.string (mkS (((signL c.op) ++ (joinL 46 (numsN c.v c.parts.toNat))) ++ ([45] ++ c.v.pre)))) Tryz.results14 (by kernel_rfl) ?_
          exact fun w hO => ⟨by rw [co_print hcm, ← text_pre2 h3 h4], hO.below⟩
  | false =>
    refine s_val (.bool true) (by kernel_rfl) (fun _ => by kernel_rfl) ?_
    refine s_nil ?_
    refine fin_seq ?_
    refine ok_true (by kernel_rfl) ?_
    refine ok_seq ?_
    refine ok_region ?_
    refine s_val (.string ⟨#[]⟩) (by kernel_rfl) (fun _ => by kernel_rfl) ?_
    refine s_nil ?_
    refine fin_seq ?_
    refine ok_ret ?_
    refine fin_seq_ret ?_
    refine fin_ret (.string ⟨#[]⟩) Tryz.results14 (by kernel_rfl) ?_
    exact fun w hO => ⟨by unfold Co.print; simp [h1]; rfl, hO.below⟩
end Go.Proofs.YtjabcbagggicaaaGreatDoor
end

section
/-
  Package row's unshare (what it writes is what was there), add, Not.
-/
namespace Go.Proofs.YtjabcbagggicaaaGreatDoor
open Go.RowKit
set_option maxRecDepth 100000
set_option linter.unusedVariables false
set_option linter.unusedSimpArgs false
set_option maxHeartbeats 2000000


theorem unshare_any (A : Option Addr) (cap : Nat) (l : List Sp) (ob : List Blk) (W : World) (hv : SlS (.slice A l.length cap) l ob) (hO : Own (ob.map Blk.b) W W ob) (hn : l.length ≤ 1000000) (hl : ShortL l) :
    Calls Tryz.prog 92 #[.slice A l.length cap] W fun e w' => ∃ ob', e = .returned (.slice A l.length cap) ∧ SlS (.slice A l.length cap) l ob' ∧ Own (ob.map Blk.b) W w' ob' := by
  unfold SlS at hv ⊢
  refine calls_okL (n := 39) hO Tryz.func92 rfl (by kernel_rfl) (by kernel_rfl) ?_
  refine ok_seq ?_
  refine ok_region ?_
  refine s_val (.slice none 0 0) (by kernel_rfl) (fun _ => by kernel_rfl) ?_
  refine s_nil ?_
  refine fin_seq ?_
  refine ok_seq ?_
  refine ok_seq ?_
  refine ok_region ?_
  refine s_val (.slice A l.length cap) (by kernel_rfl) (fun _ => by kernel_rfl) ?_
  refine s_val (.int .i64 (l.length : Int)) (by kernel_rfl) (fun _ => by kernel_rfl) ?_
  refine s_val (.int .i64 0) (by kernel_rfl) (fun _ => by kernel_rfl) ?_
  refine s_nil ?_
  refine fin_seq ?_
  refine ok_block ?_
  refine ok_cast (L' := ob ++ []) (List.append_nil _).symm ?_
  refine ok_loop (fun L f m => ∃ (k : Nat) (oc : List Blk) (j : Nat → Value), (k ≤ l.length ∧ Sl 50 14 (.slice A l.length cap) l.length (l.flatMap spanC) oc) ∧ L = oc ++ [] ∧ f = upds j [(0, .slice A l.length cap), (5, .slice A l.length cap), (6, .int .i64 (l.length : Int)), (7, .int .i64 (k : Int))] ∧ m = l.length - k) (l.length - 0) ⟨0, ob, _, ⟨Nat.zero_le _, hv⟩, rfl, upds_self _ ⟨by kernel_rfl, by kernel_rfl, by kernel_rfl, by kernel_rfl, trivial⟩, rfl⟩ ?_
  rintro L f m ⟨k, oc, j, hrel, rfl, rfl, rfl⟩
  have hkl := hrel.1
  refine ok_seq ?_
  refine ok_region ?_
  by_cases h1 : (k : Int) < (l.length : Int)
  · skip
    have hk : k < l.length := by omega
    obtain ⟨g, cur, hA, rfl, hcap, hmax, hsz, hcur⟩ := hrel.2.block (by omega)
    obtain ⟨s, hs⟩ : ∃ s, l[k] = s := ⟨_, rfl⟩
    have hsk : s.short := hs ▸ hl l[k] (List.getElem_mem hk)
    have hset : l.set k s = l := by rw [← hs]; exact List.set_getElem_self _
    refine s_cast (L' := [⟨g, cur, 50⟩]) (List.append_nil _) ?_
    refine s_dec (p := (k : Int) < (l.length : Int)) true (by kernel_rfl) (fun _ => by kernel_rfl) (decide_eq_true (h1)) ?_
    refine s_nil ?_
    refine fin_seq ?_
    refine ok_seq ?_
    refine ok_true (by kernel_rfl) ?_
    refine ok_skip ?_
    refine fin_seq ?_
    refine ok_seq ?_
    refine ok_block ?_
    refine ok_seq ?_
    refine ok_region ?_
    refine s_val (.int .i64 (k : Int)) (by kernel_rfl) (fun _ => by kernel_rfl) ?_
    refine s_val (.int .i64 (k : Int)) (by kernel_rfl) (fun _ => by kernel_rfl) ?_
    refine s_nil ?_
    refine fin_seq ?_
    refine ok_seq ?_
    refine ok_region ?_
    refine s_val (.slice A l.length cap) (by kernel_rfl) (fun _ => by kernel_rfl) ?_
    refine s_val (.int .i64 (k : Int)) (by kernel_rfl) (fun _ => by kernel_rfl) ?_
    refine s_val (.pointer (some ⟨g, k * 14, none⟩)) (by kernel_rfl) (run_ixA (b := g) (off := 0) (c := cap) (n := l.length) (k := .i64) (j := (k : Int)) (e := 50) (sz := 14) rfl (by kernel_rfl) hA (by kernel_rfl) (by kernel_rfl) (by kernel_rfl) (by omega) (by omega) (by show 0 + k * 14 = k * 14; omega)) ?_
    refine s_val (.pointer (some ⟨g, k * 14, none⟩)) (by kernel_rfl) (fun _ => by kernel_rfl) ?_
    refine s_nil ?_
    refine fin_seq ?_
    refine ok_seq ?_
    refine ok_region ?_
    refine s_val (.pointer (some ⟨g, k * 14, none⟩)) (by kernel_rfl) (fun _ => by kernel_rfl) ?_
    refine s_val (.pointer (some ⟨g, k * 14, none⟩)) (by kernel_rfl) (fun _ => by kernel_rfl) ?_
    refine s_val (.pointer (some ⟨g, k * 14, none⟩)) (by kernel_rfl) (fun _ => by kernel_rfl) ?_
    refine s_val (.pointer (some ⟨g, k * 14 + 0, none⟩)) (by kernel_rfl) (fun _ => by kernel_rfl) ?_
    refine s_val (.pointer (some ⟨g, k * 14 + 1, none⟩)) (by kernel_rfl) (fun _ => by kernel_rfl) ?_
    refine s_val (.pointer (some ⟨g, k * 14 + 4, none⟩)) (by kernel_rfl) (fun _ => by kernel_rfl) ?_
    refine s_load 0 ⟨g, cur, 50⟩ (off := k * 14 + 4) (.string (mkS s.lo.v.pre)) (by kernel_rfl) rfl (by kernel_rfl) (by kernel_rfl) (read_part spanC_len hcur k 4 (by omega) (by omega) _ (by rw [hs]; kernel_rfl)) ?_
    refine s_call (k := 38) (args := #[.string (mkS s.lo.v.pre)]) (.string (mkS s.lo.v.pre)) (by kernel_rfl) (fun _ => by kernel_rfl) (fun w _ => clone_any (mkS s.lo.v.pre) w (by rw [mkS_sz]; have := hsk.1.1; omega)) ?_
    refine s_val (.pointer (some ⟨g, k * 14, none⟩)) (by kernel_rfl) (fun _ => by kernel_rfl) ?_
    refine s_val (.pointer (some ⟨g, k * 14 + 0, none⟩)) (by kernel_rfl) (fun _ => by kernel_rfl) ?_
    refine s_val (.pointer (some ⟨g, k * 14 + 1, none⟩)) (by kernel_rfl) (fun _ => by kernel_rfl) ?_
    refine s_val (.pointer (some ⟨g, k * 14 + 4, none⟩)) (by kernel_rfl) (fun _ => by kernel_rfl) ?_
    refine s_storeS 0 ⟨g, cur, 50⟩ (off := k * 14 + 4) (.string (mkS s.lo.v.pre)) 1 (by kernel_rfl) rfl rfl (by kernel_rfl) (by kernel_rfl) (by kernel_rfl) (by kernel_rfl) (by kernel_rfl) (by show k * 14 + 4 + 1 ≤ cur.size; omega) (by kernel_rfl) ?_
    have hse2 := store_elem spanC_len hcur k 4 (by omega) (Value.string (mkS s.lo.v.pre)).cells s (show 4 + 1 ≤ 14 by decide) (by rw [hs]; rfl)
    rw [hset] at hse2
    obtain ⟨cur2, hc2⟩ : ∃ x, x = storeIn cur (k * 14 + 4) (Value.string (mkS s.lo.v.pre)).cells := ⟨_, rfl⟩
    rw [← hc2] at hse2
    refine s_cast (L' := [⟨g, cur2, 50⟩]) (by rw [hc2]; rfl) ?_
    have hcur2 := hse2.1
    have hsz2 : cur2.size = cap * 14 := by rw [hse2.2]; exact hsz
    refine s_nil ?_
    refine fin_seq ?_
    refine ok_region ?_
    refine s_val (.pointer (some ⟨g, k * 14, none⟩)) (by kernel_rfl) (fun _ => by kernel_rfl) ?_
    refine s_val (.pointer (some ⟨g, k * 14, none⟩)) (by kernel_rfl) (fun _ => by kernel_rfl) ?_
    refine s_val (.pointer (some ⟨g, k * 14, none⟩)) (by kernel_rfl) (fun _ => by kernel_rfl) ?_
    refine s_val (.pointer (some ⟨g, k * 14 + 7, none⟩)) (by kernel_rfl) (fun _ => by kernel_rfl) ?_
    refine s_val (.pointer (some ⟨g, k * 14 + 8, none⟩)) (by kernel_rfl) (fun _ => by kernel_rfl) ?_
    refine s_val (.pointer (some ⟨g, k * 14 + 11, none⟩)) (by kernel_rfl) (fun _ => by kernel_rfl) ?_
    refine s_load 0 ⟨g, cur2, 50⟩ (off := k * 14 + 11) (.string (mkS s.hi.v.pre)) (by kernel_rfl) rfl (by kernel_rfl) (by kernel_rfl) (read_part spanC_len hcur2 k 11 (by omega) (by omega) _ (by rw [hs]; kernel_rfl)) ?_
    refine s_call (k := 38) (args := #[.string (mkS s.hi.v.pre)]) (.string (mkS s.hi.v.pre)) (by kernel_rfl) (fun _ => by kernel_rfl) (fun w _ => clone_any (mkS s.hi.v.pre) w (by rw [mkS_sz]; have := hsk.2.1; omega)) ?_
    refine s_val (.pointer (some ⟨g, k * 14, none⟩)) (by kernel_rfl) (fun _ => by kernel_rfl) ?_
    refine s_val (.pointer (some ⟨g, k * 14 + 7, none⟩)) (by kernel_rfl) (fun _ => by kernel_rfl) ?_
    refine s_val (.pointer (some ⟨g, k * 14 + 8, none⟩)) (by kernel_rfl) (fun _ => by kernel_rfl) ?_
    refine s_val (.pointer (some ⟨g, k * 14 + 11, none⟩)) (by kernel_rfl) (fun _ => by kernel_rfl) ?_
    refine s_storeS 0 ⟨g, cur2, 50⟩ (off := k * 14 + 11) (.string (mkS s.hi.v.pre)) 1 (by kernel_rfl) rfl rfl (by kernel_rfl) (by kernel_rfl) (by kernel_rfl) (by kernel_rfl) (by kernel_rfl) (by show k * 14 + 11 + 1 ≤ cur2.size; omega) (by kernel_rfl) ?_
    have hse3 := store_elem spanC_len hcur2 k 11 (by omega) (Value.string (mkS s.hi.v.pre)).cells s (show 11 + 1 ≤ 14 by decide) (by rw [hs]; rfl)
    rw [hset] at hse3
    obtain ⟨cur3, hc3⟩ : ∃ x, x = storeIn cur2 (k * 14 + 11) (Value.string (mkS s.hi.v.pre)).cells := ⟨_, rfl⟩
    rw [← hc3] at hse3
    refine s_cast (L' := [⟨g, cur3, 50⟩]) (by rw [hc3]; rfl) ?_
    have hcur3 := hse3.1
    have hsz3 : cur3.size = cap * 14 := by rw [hse3.2]; exact hsz2
    refine s_nil ?_
    refine fin_block ?_
    refine fin_seq ?_
    refine ok_region ?_
    refine s_sum (k := .i64) (((k + 1 : Nat) : Int)) (by kernel_rfl) (fun _ => by kernel_rfl) (IntWalk.i64_in _ (by omega)) ?_
    refine s_val (.int .i64 ((k + 1 : Nat) : Int)) (by kernel_rfl) (fun _ => by kernel_rfl) ?_
    refine s_nil ?_
    exact fin_round (m' := l.length - (k + 1)) (by omega) ⟨k + 1, [⟨g, cur3, 50⟩], _, ⟨by omega, by rw [flat_len spanC_len], .inr ⟨g, cap, _, by rw [hA], rfl, hcap, hmax, hsz3, hcur3⟩⟩, rfl, upds_self _ ⟨by kernel_rfl, by kernel_rfl, by kernel_rfl, by kernel_rfl, trivial⟩, rfl⟩
  · skip
    refine s_dec (p := (k : Int) < (l.length : Int)) false (by kernel_rfl) (fun _ => by kernel_rfl) (decide_eq_false (h1)) ?_
    refine s_nil ?_
    refine fin_seq ?_
    refine ok_seq ?_
    refine ok_false (by kernel_rfl) ?_
    refine ok_exit ?_
    refine fin_seq_exit ?_
    refine fin_round_exit ?_
    refine fin_block_exit ?_
    refine fin_seq ?_
    refine ok_seq ?_
    refine ok_region ?_
    refine s_val (.slice A l.length cap) (by kernel_rfl) (fun _ => by kernel_rfl) ?_
    refine s_val (.slice A l.length cap) (by kernel_rfl) (fun _ => by kernel_rfl) ?_
    refine s_nil ?_
    refine fin_seq ?_
    refine ok_ret ?_
    refine fin_ret (.slice A l.length cap) Tryz.results92 (by kernel_rfl) ?_
    exact fun w hO => ⟨oc, rfl, hrel.2, by simpa using hO⟩
end Go.Proofs.YtjabcbagggicaaaGreatDoor
end

section
/-
  Package row's add, Not.
-/
namespace Go.Proofs.YtjabcbagggicaaaGreatDoor
open Go.RowKit
set_option maxRecDepth 100000
set_option linter.unusedVariables false
set_option linter.unusedSimpArgs false
set_option maxHeartbeats 2000000


theorem add_short {l : List Sp} {c d : Cu} (hl : ShortL l) (hc : c.short) (hd : d.short) : ShortL (addL l c d) := by
  unfold addL
  split
  · intro x hx
    rcases List.mem_append.1 hx with h | h
    · exact hl x h
    · obtain rfl : x = _ := by simpa using h
      exact ⟨hc, hd⟩
  · exact hl
theorem add_any (A : Option Addr) (cap : Nat) (l : List Sp) (ob : List Blk) (c d : Cu) (W : World) (hv : SlS (.slice A l.length cap) l ob) (hO : Own (ob.map Blk.b) W W ob) (hn : l.length ≤ 1000000) (hl : ShortL l) (hc : c.short) (hd : d.short) :
    Calls Tryz.prog 91 #[.slice A l.length cap, cutV c, cutV d] W fun e w' => ∃ v' ob', e = .returned v' ∧ SlS v' (addL l c d) ob' ∧ Own (ob.map Blk.b) W w' ob' := by
  unfold SlS at hv ⊢
  refine calls_okL (n := 19) hO Tryz.func91 rfl (by kernel_rfl) (by kernel_rfl) ?_
  refine ok_seq ?_
  refine ok_region ?_
  refine s_box (cutV c) (by kernel_rfl) rfl (by kernel_rfl) (fun b1 => ?_)
  refine s_box (cutV d) (by kernel_rfl) rfl (by kernel_rfl) (fun b2 => ?_)
  refine s_val (.slice none 0 0) (by kernel_rfl) (fun _ => by kernel_rfl) ?_
  refine s_nil ?_
  refine fin_seq ?_
  refine ok_seq ?_
  refine ok_region ?_
  refine s_load 1 ⟨b1, (cutV c).cells, 48⟩ (off := 0) (cutV c) (by kernel_rfl) rfl (by kernel_rfl) (by kernel_rfl) (by kernel_rfl) ?_
  refine s_load 0 ⟨b2, (cutV d).cells, 48⟩ (off := 0) (cutV d) (by kernel_rfl) rfl (by kernel_rfl) (by kernel_rfl) (by kernel_rfl) ?_
  refine s_val (.agg #[.int .i64 c.e, .int .i64 c.v.maj, .int .i64 c.v.min, .int .i64 c.v.pat, .string (mkS c.v.pre), .string (mkS c.v.build), .bool c.aft, .int .i64 d.e, .int .i64 d.v.maj, .int .i64 d.v.min, .int .i64 d.v.pat, .string (mkS d.v.pre), .string (mkS d.v.build), .bool d.aft]) (by kernel_rfl) (fun _ => by kernel_rfl) ?_
  refine s_alloc_at (.agg #[.int .i64 0, .int .i64 0, .int .i64 0, .int .i64 0, .string ⟨#[]⟩, .string ⟨#[]⟩, .bool false, .int .i64 0, .int .i64 0, .int .i64 0, .int .i64 0, .string ⟨#[]⟩, .string ⟨#[]⟩, .bool false]) (by kernel_rfl) rfl (by kernel_rfl) (fun b3 => ?_)
  refine s_store_at 0 ⟨b3, #[.int .i64 0, .int .i64 0, .int .i64 0, .int .i64 0, .string ⟨#[]⟩, .string ⟨#[]⟩, .bool false, .int .i64 0, .int .i64 0, .int .i64 0, .int .i64 0, .string ⟨#[]⟩, .string ⟨#[]⟩, .bool false], 50⟩ (off := 0) (.agg #[.int .i64 c.e, .int .i64 c.v.maj, .int .i64 c.v.min, .int .i64 c.v.pat, .string (mkS c.v.pre), .string (mkS c.v.build), .bool c.aft, .int .i64 d.e, .int .i64 d.v.maj, .int .i64 d.v.min, .int .i64 d.v.pat, .string (mkS d.v.pre), .string (mkS d.v.build), .bool d.aft]) (by kernel_rfl) rfl rfl (by kernel_rfl) (by kernel_rfl) (by kernel_rfl) (by kernel_rfl) (by kernel_rfl) ?_
  refine s_nil ?_
  refine fin_seq ?_
  refine ok_seq ?_
  refine ok_seq ?_
  refine ok_region ?_
  refine s_load 0 ⟨b3, #[.int .i64 c.e, .int .i64 c.v.maj, .int .i64 c.v.min, .int .i64 c.v.pat, .string (mkS c.v.pre), .string (mkS c.v.build), .bool c.aft, .int .i64 d.e, .int .i64 d.v.maj, .int .i64 d.v.min, .int .i64 d.v.pat, .string (mkS d.v.pre), .string (mkS d.v.build), .bool d.aft], 50⟩ (off := 0) (.agg #[.int .i64 c.e, .int .i64 c.v.maj, .int .i64 c.v.min, .int .i64 c.v.pat, .string (mkS c.v.pre), .string (mkS c.v.build), .bool c.aft, .int .i64 d.e, .int .i64 d.v.maj, .int .i64 d.v.min, .int .i64 d.v.pat, .string (mkS d.v.pre), .string (mkS d.v.build), .bool d.aft]) (by kernel_rfl) rfl (by kernel_rfl) (by kernel_rfl) (by kernel_rfl) ?_
  refine s_call (k := 123) (args := #[.agg #[.int .i64 c.e, .int .i64 c.v.maj, .int .i64 c.v.min, .int .i64 c.v.pat, .string (mkS c.v.pre), .string (mkS c.v.build), .bool c.aft, .int .i64 d.e, .int .i64 d.v.maj, .int .i64 d.v.min, .int .i64 d.v.pat, .string (mkS d.v.pre), .string (mkS d.v.build), .bool d.aft]]) (.bool ((Sp.mk c d).may)) (by kernel_rfl) (fun _ => by kernel_rfl) (fun w _ => spanMay_any ⟨c, d⟩ w ⟨hc, hd⟩) ?_
  cases h1 : (Sp.mk c d).may with
  | true =>
    refine s_val (.bool false) (by kernel_rfl) (fun _ => by kernel_rfl) ?_
    refine s_nil ?_
    refine fin_seq ?_
    refine ok_false (by kernel_rfl) ?_
    refine ok_skip ?_
    refine fin_seq ?_
    refine ok_seq ?_
    refine ok_region ?_
    refine s_val (.slice A l.length cap) (by kernel_rfl) (fun _ => by kernel_rfl) ?_
    refine s_load 0 ⟨b3, #[.int .i64 c.e, .int .i64 c.v.maj, .int .i64 c.v.min, .int .i64 c.v.pat, .string (mkS c.v.pre), .string (mkS c.v.build), .bool c.aft, .int .i64 d.e, .int .i64 d.v.maj, .int .i64 d.v.min, .int .i64 d.v.pat, .string (mkS d.v.pre), .string (mkS d.v.build), .bool d.aft], 50⟩ (off := 0) (.agg #[.int .i64 c.e, .int .i64 c.v.maj, .int .i64 c.v.min, .int .i64 c.v.pat, .string (mkS c.v.pre), .string (mkS c.v.build), .bool c.aft, .int .i64 d.e, .int .i64 d.v.maj, .int .i64 d.v.min, .int .i64 d.v.pat, .string (mkS d.v.pre), .string (mkS d.v.build), .bool d.aft]) (by kernel_rfl) rfl (by kernel_rfl) (by kernel_rfl) (by kernel_rfl) ?_
    refine s_lit 50 #[.int .i64 c.e, .int .i64 c.v.maj, .int .i64 c.v.min, .int .i64 c.v.pat, .string (mkS c.v.pre), .string (mkS c.v.build), .bool c.aft, .int .i64 d.e, .int .i64 d.v.maj, .int .i64 d.v.min, .int .i64 d.v.pat, .string (mkS d.v.pre), .string (mkS d.v.build), .bool d.aft] (by kernel_rfl) rfl (fun _ => by kernel_rfl) (fun b4 => ?_)
    refine s_cast (L' := [⟨b4, #[.int .i64 c.e, .int .i64 c.v.maj, .int .i64 c.v.min, .int .i64 c.v.pat, .string (mkS c.v.pre), .string (mkS c.v.build), .bool c.aft, .int .i64 d.e, .int .i64 d.v.maj, .int .i64 d.v.min, .int .i64 d.v.pat, .string (mkS d.v.pre), .string (mkS d.v.build), .bool d.aft], 50⟩, ⟨b3, #[.int .i64 c.e, .int .i64 c.v.maj, .int .i64 c.v.min, .int .i64 c.v.pat, .string (mkS c.v.pre), .string (mkS c.v.build), .bool c.aft, .int .i64 d.e, .int .i64 d.v.maj, .int .i64 d.v.min, .int .i64 d.v.pat, .string (mkS d.v.pre), .string (mkS d.v.build), .bool d.aft], 50⟩, ⟨b2, (cutV d).cells, 48⟩, ⟨b1, (cutV c).cells, 48⟩] ++ ob ++ []) (by rw [List.append_nil]; rfl) ?_
    obtain ⟨i, z, e1, e2, e3, e4, e5⟩ := span_info
    refine s_append (sz := 14) (by kernel_rfl) rfl Tryz.underlying34 e1 e2 e3 e4 (by kernel_rfl) hv (a := ⟨b4, 0, none⟩) (m := 1) (c := 1) (news := spanC ⟨c, d⟩) (by kernel_rfl) rfl (fun w hO j u hj => ?_) (span_cells _) (by unfold maxLen; omega) (by rw [e5]; omega) (fun v' ob' hv' => ?_)
    · rw [add_off, cell_of_row w b4 (0 + j) (spanC ⟨c, d⟩).toArray 50 _ (hO.held ⟨b4, (spanC ⟨c, d⟩).toArray, 50⟩ (List.mem_append_left _ (List.mem_append_left _ (List.mem_cons_self ..))))]; simpa using hj
    refine s_val (v') (by kernel_rfl) (fun _ => by kernel_rfl) ?_
    refine s_nil ?_
    refine fin_seq ?_
    refine ok_ret ?_
    refine fin_ret (v') Tryz.results91 (by kernel_rfl) ?_
    refine fun w hO => ⟨v', ob', rfl, by unfold addL; rw [h1, if_pos rfl, List.length_append, List.flatMap_append]; simpa using hv', Own.take hO (fun x hx => List.mem_append_left _ (List.mem_append_right _ hx)) ?_⟩
    have := hO.apart; rw [List.append_nil, List.map_append, List.nodup_append] at this; exact this.2.1
  | false =>
    refine s_val (.bool true) (by kernel_rfl) (fun _ => by kernel_rfl) ?_
    refine s_nil ?_
    refine fin_seq ?_
    refine ok_true (by kernel_rfl) ?_
    refine ok_seq ?_
    refine ok_region ?_
    refine s_val (.slice A l.length cap) (by kernel_rfl) (fun _ => by kernel_rfl) ?_
    refine s_val (.slice A l.length cap) (by kernel_rfl) (fun _ => by kernel_rfl) ?_
    refine s_nil ?_
    refine fin_seq ?_
    refine ok_ret ?_
    refine fin_seq_ret ?_
    refine fin_ret (.slice A l.length cap) Tryz.results91 (by kernel_rfl) ?_
    exact fun w hO => ⟨_, ob, rfl, by unfold addL; rw [h1, if_neg (by decide)]; exact hv, Own.sub [_, _, _] hO⟩
/-- add, of a caller that holds other blocks (E) too. -/
theorem add_call {M : List Nat} {W w : World} {v : Value} {l : List Sp} {E ob : List Blk} (c d : Cu) (hO : Own M W w (E ++ ob)) (hv : SlS v l ob) (hn : l.length ≤ 1000000) (hl : ShortL l) (hc : c.short) (hd : d.short) :
    Calls Tryz.prog 91 #[v, cutV c, cutV d] w fun e w' => ∃ v' L', e = .returned v' ∧ (∃ ob', L' = E ++ ob' ∧ SlS v' (addL l c d) ob') ∧ Own M W w' L' := by
  obtain ⟨A, cap, rfl⟩ := hv.form
  refine (add_any A cap l ob c d w hv (Own.lend (hO.sub E)) hn hl hc hd).mono fun e w' ⟨v', ob', h1, h2, h3⟩ => ⟨v', E ++ ob', h1, ⟨ob', rfl, h2⟩, ?_⟩
  have hp : Own M W w (ob ++ E) := hO.perm List.perm_append_comm
  exact (Own.join hp h3).perm List.perm_append_comm
theorem unshare_call {M : List Nat} {W w : World} {v : Value} {l : List Sp} {E ob : List Blk} (hO : Own M W w (E ++ ob)) (hv : SlS v l ob) (hn : l.length ≤ 1000000) (hl : ShortL l) :
    Calls Tryz.prog 92 #[v] w fun e w' => ∃ v' L', e = .returned v' ∧ (∃ ob', L' = E ++ ob' ∧ SlS v' l ob') ∧ Own M W w' L' := by
  obtain ⟨A, cap, rfl⟩ := hv.form
  refine (unshare_any A cap l ob w hv (Own.lend (hO.sub E)) hn hl).mono fun e w' ⟨ob', h1, h2, h3⟩ => ⟨_, E ++ ob', h1, ⟨ob', rfl, h2⟩, ?_⟩
  have hp : Own M W w (ob ++ E) := hO.perm List.perm_append_comm
  exact (Own.join hp h3).perm List.perm_append_comm
theorem end_short (k : Int) : (endC k).short := ⟨Nat.zero_le 1000000, Nat.zero_le 1000000⟩
structure NotB (l : List Sp) (k : Nat) (v : Value) (out : List Sp) (f : Cu) (ob : List Blk) : Prop where
  le : k ≤ l.length
  sl : SlS v out ob
  len : out.length ≤ k
  short : ShortL out
  fs : f.short
  eq : (l.take k).foldl nstep ([], endC (-1)) = (out, f)
theorem NotB.start (l : List Sp) : NotB l 0 (.slice none 0 0) [] (endC (-1)) [] := ⟨Nat.zero_le _, Sl.nil _ _, Nat.le_refl _, fun s hs => by simp at hs, end_short _, by rw [List.take_zero]; rfl⟩
theorem NotB.step {l : List Sp} {k : Nat} {v v2 : Value} {out : List Sp} {f : Cu} {ob ob2 : List Blk} (h : NotB l k v out f ob) (hk : k < l.length) {s : Sp} (hs : l[k] = s) (hss : s.short) (h2 : SlS v2 (addL out f s.lo) ob2) : NotB l (k + 1) v2 (addL out f s.lo) s.hi ob2 :=
  ⟨by omega, h2, by have := h.len; have := add_len out f s.lo; omega, add_short h.short h.fs hss.1, hss.2, by rw [List.take_succ_eq_append_getElem hk, List.foldl_append, h.eq, hs]; rfl⟩
theorem not4_any (A : Option Addr) (cap : Nat) (l : List Sp) (W : World) (hv : Reads spanC W W.heap.size A l) (hn : l.length ≤ 300000) (hl : ShortL l) :
    Calls Tryz.prog 54 #[.slice A l.length cap] W fun e w' => ∃ v' ob', e = .returned v' ∧ SlS v' (if rowMay l then notL l else []) ob' ∧ Own [] W w' ob' := by
  refine calls_ok (n := 30) Tryz.func54 rfl (by kernel_rfl) (by kernel_rfl) ?_
  refine ok_seq ?_
  refine ok_region ?_
  refine s_val (.slice none 0 0) (by kernel_rfl) (fun _ => by kernel_rfl) ?_
  refine s_nil ?_
  refine fin_seq ?_
  refine ok_seq ?_
  refine ok_seq ?_
  refine ok_region ?_
  refine s_val (.slice A l.length cap) (by kernel_rfl) (fun _ => by kernel_rfl) ?_
  refine s_call (k := 90) (args := #[.slice A l.length cap]) (.bool (rowMay l)) (by kernel_rfl) (fun _ => by kernel_rfl) (fun w hO => may4_any A cap l w (hv.on hO.below hO.size) (by omega) hl) ?_
  cases h1 : rowMay l with
  | true =>
    refine s_val (.bool false) (by kernel_rfl) (fun _ => by kernel_rfl) ?_
    refine s_nil ?_
    refine fin_seq ?_
    refine ok_false (by kernel_rfl) ?_
    refine ok_skip ?_
    refine fin_seq ?_
    refine ok_seq ?_
    refine ok_region ?_
    refine s_val (.slice none 0 0) (by kernel_rfl) (fun _ => by kernel_rfl) ?_
    refine s_nil ?_
    refine fin_seq ?_
    refine ok_seq ?_
    refine ok_region ?_
    refine s_val (.agg #[.int .i64 (-1), .int .i64 0, .int .i64 0, .int .i64 0, .string ⟨#[]⟩, .string ⟨#[]⟩, .bool false]) (by kernel_rfl) (fun _ => by kernel_rfl) ?_
    refine s_alloc_at (.agg #[.int .i64 0, .int .i64 0, .int .i64 0, .int .i64 0, .string ⟨#[]⟩, .string ⟨#[]⟩, .bool false]) (by kernel_rfl) rfl (by kernel_rfl) (fun b1 => ?_)
    refine s_store_at 0 ⟨b1, #[.int .i64 0, .int .i64 0, .int .i64 0, .int .i64 0, .string ⟨#[]⟩, .string ⟨#[]⟩, .bool false], 48⟩ (off := 0) (.agg #[.int .i64 (-1), .int .i64 0, .int .i64 0, .int .i64 0, .string ⟨#[]⟩, .string ⟨#[]⟩, .bool false]) (by kernel_rfl) rfl rfl (by kernel_rfl) (by kernel_rfl) (by kernel_rfl) (by kernel_rfl) (by kernel_rfl) ?_
    refine s_nil ?_
    refine fin_seq ?_
    refine ok_seq ?_
    refine ok_seq ?_
    refine ok_region ?_
    refine s_val (.slice A l.length cap) (by kernel_rfl) (fun _ => by kernel_rfl) ?_
    refine s_val (.int .i64 (l.length : Int)) (by kernel_rfl) (fun _ => by kernel_rfl) ?_
    refine s_val (.int .i64 0) (by kernel_rfl) (fun _ => by kernel_rfl) ?_
    refine s_nil ?_
    refine fin_seq ?_
    refine ok_block ?_
    refine ok_loop (fun L f m => ∃ (k : Nat) (v : Value) (out : List Sp) (fc : Cu) (ob : List Blk) (j : Nat → Value), (NotB l k v out fc ob) ∧ L = ⟨b1, (cutV fc).cells, 48⟩ :: ob ∧ f = upds j [(3, v), (4, .pointer (some ⟨b1, 0, none⟩)), (11, .slice A l.length cap), (12, .int .i64 (l.length : Int)), (13, .int .i64 (k : Int))] ∧ m = l.length - k) (l.length - 0) ⟨0, _, [], endC (-1), [], _, NotB.start l, rfl, upds_self _ ⟨by kernel_rfl, by kernel_rfl, by kernel_rfl, by kernel_rfl, by kernel_rfl, trivial⟩, rfl⟩ ?_
    rintro L f m ⟨k, v, out, fc, ob, j, hrel, rfl, rfl, rfl⟩
    have hkl := hrel.le; have hlen := hrel.len
    refine ok_seq ?_
    refine ok_region ?_
    by_cases h2 : (k : Int) < (l.length : Int)
    · skip
      have hk : k < l.length := by omega
      obtain ⟨b, off, hA, hlt, hcell⟩ := hv (by omega)
      obtain ⟨s, hs⟩ : ∃ s, l[k] = s := ⟨_, rfl⟩
      have hsk : s.short := hs ▸ hl l[k] (List.getElem_mem hk)
      refine s_dec (p := (k : Int) < (l.length : Int)) true (by kernel_rfl) (fun _ => by kernel_rfl) (decide_eq_true (h2)) ?_
      refine s_nil ?_
      refine fin_seq ?_
      refine ok_seq ?_
      refine ok_true (by kernel_rfl) ?_
      refine ok_skip ?_
      refine fin_seq ?_
      refine ok_seq ?_
      refine ok_block ?_
      refine ok_seq ?_
      refine ok_region ?_
      refine s_val (.pointer (some ⟨b, off + k * 14, none⟩)) (by kernel_rfl) (run_ixA (b := b) (off := off) (c := cap) (n := l.length) (k := .i64) (j := (k : Int)) (e := 50) (sz := 14) rfl (by kernel_rfl) hA (by kernel_rfl) (by kernel_rfl) (by kernel_rfl) (by omega) (by omega) (by omega)) ?_
      refine s_old (spanV s) (a := ⟨b, off + k * 14, none⟩) (by kernel_rfl) rfl (by kernel_rfl) (fun w hO => elem_load spanC_len (fun j u h => (hO.below.cell (p := ⟨b, off + j, none⟩) hlt).trans (hcell j u h)) k 0 hk (by omega) _ (by rw [hs]; kernel_rfl)) ?_
      refine s_alloc_at (.agg #[.int .i64 0, .int .i64 0, .int .i64 0, .int .i64 0, .string ⟨#[]⟩, .string ⟨#[]⟩, .bool false, .int .i64 0, .int .i64 0, .int .i64 0, .int .i64 0, .string ⟨#[]⟩, .string ⟨#[]⟩, .bool false]) (by kernel_rfl) rfl (by kernel_rfl) (fun b2 => ?_)
      refine s_store_at 0 ⟨b2, #[.int .i64 0, .int .i64 0, .int .i64 0, .int .i64 0, .string ⟨#[]⟩, .string ⟨#[]⟩, .bool false, .int .i64 0, .int .i64 0, .int .i64 0, .int .i64 0, .string ⟨#[]⟩, .string ⟨#[]⟩, .bool false], 50⟩ (off := 0) (spanV s) (by kernel_rfl) rfl rfl (by kernel_rfl) (by kernel_rfl) (by kernel_rfl) (by kernel_rfl) (by kernel_rfl) ?_
      refine s_nil ?_
      refine fin_seq ?_
      refine ok_seq ?_
      refine ok_region ?_
      refine s_val (v) (by kernel_rfl) (fun _ => by kernel_rfl) ?_
      refine s_load 1 ⟨b1, (cutV fc).cells, 48⟩ (off := 0) (.agg #[.int .i64 fc.e, .int .i64 fc.v.maj, .int .i64 fc.v.min, .int .i64 fc.v.pat, .string (mkS fc.v.pre), .string (mkS fc.v.build), .bool fc.aft]) (by kernel_rfl) rfl (by kernel_rfl) (by kernel_rfl) (by kernel_rfl) ?_
      refine s_val (.pointer (some ⟨b2, 0, none⟩)) (by kernel_rfl) (fun _ => by kernel_rfl) ?_
      refine s_load 0 ⟨b2, (spanV s).cells, 50⟩ (off := 0) (.agg #[.int .i64 s.lo.e, .int .i64 s.lo.v.maj, .int .i64 s.lo.v.min, .int .i64 s.lo.v.pat, .string (mkS s.lo.v.pre), .string (mkS s.lo.v.build), .bool s.lo.aft]) (by kernel_rfl) rfl (by kernel_rfl) (by kernel_rfl) (by kernel_rfl) ?_
      refine s_callo (k := 91) (args := #[v, cutV fc, cutV s.lo]) (fun v' L' => ∃ ob', L' = [⟨b2, (spanV s).cells, 50⟩, ⟨b1, (cutV fc).cells, 48⟩] ++ ob' ∧ SlS v' (addL out fc s.lo) ob') (by kernel_rfl) (fun _ => by kernel_rfl) (fun w hO => add_call (E := [⟨b2, (spanV s).cells, 50⟩, ⟨b1, (cutV fc).cells, 48⟩]) fc s.lo hO hrel.sl (by omega) hrel.short hrel.fs hsk.1) (fun v2 L2 hv2 => ?_)
      obtain ⟨ob2, rfl, hs2⟩ := hv2
      refine s_val (v2) (by kernel_rfl) (fun _ => by kernel_rfl) ?_
      refine s_nil ?_
      refine fin_seq ?_
      refine ok_region ?_
      refine s_val (.pointer (some ⟨b2, 7, none⟩)) (by kernel_rfl) (fun _ => by kernel_rfl) ?_
      refine s_load 0 ⟨b2, (spanV s).cells, 50⟩ (off := 7) (.agg #[.int .i64 s.hi.e, .int .i64 s.hi.v.maj, .int .i64 s.hi.v.min, .int .i64 s.hi.v.pat, .string (mkS s.hi.v.pre), .string (mkS s.hi.v.build), .bool s.hi.aft]) (by kernel_rfl) rfl (by kernel_rfl) (by kernel_rfl) (by kernel_rfl) ?_
      refine s_store_at 1 ⟨b1, (cutV fc).cells, 48⟩ (off := 0) (.agg #[.int .i64 s.hi.e, .int .i64 s.hi.v.maj, .int .i64 s.hi.v.min, .int .i64 s.hi.v.pat, .string (mkS s.hi.v.pre), .string (mkS s.hi.v.build), .bool s.hi.aft]) (by kernel_rfl) rfl rfl (by kernel_rfl) (by kernel_rfl) (by kernel_rfl) (by kernel_rfl) (by kernel_rfl) ?_
      refine s_nil ?_
      refine fin_block ?_
      refine fin_seq ?_
      refine ok_region ?_
      refine s_sum (k := .i64) (((k + 1 : Nat) : Int)) (by kernel_rfl) (fun _ => by kernel_rfl) (IntWalk.i64_in _ (by omega)) ?_
      refine s_val (.int .i64 ((k + 1 : Nat) : Int)) (by kernel_rfl) (fun _ => by kernel_rfl) ?_
      refine s_nil ?_
      refine fin_take (fun w hO => Own.sub [_] hO) ?_
      exact fin_round (m' := l.length - (k + 1)) (by omega) ⟨k + 1, v2, addL out fc s.lo, s.hi, ob2, _, hrel.step hk hs hsk hs2, rfl, upds_self _ ⟨by kernel_rfl, by kernel_rfl, by kernel_rfl, by kernel_rfl, by kernel_rfl, trivial⟩, rfl⟩
    · skip
      refine s_dec (p := (k : Int) < (l.length : Int)) false (by kernel_rfl) (fun _ => by kernel_rfl) (decide_eq_false (h2)) ?_
      refine s_nil ?_
      refine fin_seq ?_
      refine ok_seq ?_
      refine ok_false (by kernel_rfl) ?_
      refine ok_exit ?_
      refine fin_seq_exit ?_
      refine fin_round_exit ?_
      refine fin_block_exit ?_
      refine fin_seq ?_
      refine ok_seq ?_
      refine ok_region ?_
      refine s_val (v) (by kernel_rfl) (fun _ => by kernel_rfl) ?_
      refine s_load 0 ⟨b1, (cutV fc).cells, 48⟩ (off := 0) (.agg #[.int .i64 fc.e, .int .i64 fc.v.maj, .int .i64 fc.v.min, .int .i64 fc.v.pat, .string (mkS fc.v.pre), .string (mkS fc.v.build), .bool fc.aft]) (by kernel_rfl) rfl (by kernel_rfl) (by kernel_rfl) (by kernel_rfl) ?_
      refine s_val (.agg #[.int .i64 1, .int .i64 0, .int .i64 0, .int .i64 0, .string ⟨#[]⟩, .string ⟨#[]⟩, .bool false]) (by kernel_rfl) (fun _ => by kernel_rfl) ?_
      refine s_callo (k := 91) (args := #[v, cutV fc, cutV (endC 1)]) (fun v' L' => ∃ ob', L' = [⟨b1, (cutV fc).cells, 48⟩] ++ ob' ∧ SlS v' (addL out fc (endC 1)) ob') (by kernel_rfl) (fun _ => by kernel_rfl) (fun w hO => add_call (E := [⟨b1, (cutV fc).cells, 48⟩]) fc (endC 1) hO hrel.sl (by omega) hrel.short hrel.fs (end_short 1)) (fun v3 L2 hv2 => ?_)
      obtain ⟨ob3, rfl, hs3⟩ := hv2
      refine s_callo (k := 92) (args := #[v3]) (fun v' L' => ∃ ob', L' = [⟨b1, (cutV fc).cells, 48⟩] ++ ob' ∧ SlS v' (addL out fc (endC 1)) ob') (by kernel_rfl) (fun _ => by kernel_rfl) (fun w hO => unshare_call (E := [⟨b1, (cutV fc).cells, 48⟩]) hO hs3 (by have := add_len out fc (endC 1); omega) (add_short hrel.short hrel.fs (end_short 1))) (fun v4 L2 hv2 => ?_)
      obtain ⟨ob4, rfl, hs4⟩ := hv2
      refine s_val (v4) (by kernel_rfl) (fun _ => by kernel_rfl) ?_
      refine s_nil ?_
      refine fin_seq ?_
      refine ok_ret ?_
      refine fin_ret (v4) Tryz.results54 (by kernel_rfl) ?_
      exact fun w hO => ⟨v4, ob4, rfl, by rw [if_pos rfl, show notL l = addL out fc (endC 1) from by rw [← notG_eq h1]; unfold notG; have he := hrel.eq; rw [List.take_of_length_le (by omega)] at he; rw [he]]; exact hs4, Own.sub [_] hO⟩
  | false =>
    refine s_val (.bool true) (by kernel_rfl) (fun _ => by kernel_rfl) ?_
    refine s_nil ?_
    refine fin_seq ?_
    refine ok_true (by kernel_rfl) ?_
    refine ok_seq ?_
    refine ok_region ?_
    refine s_val (.slice none 0 0) (by kernel_rfl) (fun _ => by kernel_rfl) ?_
    refine s_nil ?_
    refine fin_seq ?_
    refine ok_ret ?_
    refine fin_seq_ret ?_
    refine fin_ret (.slice none 0 0) Tryz.results54 (by kernel_rfl) ?_
    exact fun w hO => ⟨_, [], rfl, by rw [if_neg (by decide)]; exact Sl.nil _ _, by simpa using hO⟩
end Go.Proofs.YtjabcbagggicaaaGreatDoor
end

section
/-
  slices.SortFunc of valid spans by their beginnings: a permutation of them, sorted. (By the library's contract of slices.SortFunc at a struct.)
-/
namespace Go.Proofs.YtjabcbagggicaaaGreatDoor
open Go.RowKit
set_option maxRecDepth 100000
set_option linter.unusedVariables false
set_option linter.unusedSimpArgs false
set_option maxHeartbeats 2000000


abbrev VSp := {s : Sp // s.may = true ∧ s.short}
instance : Inhabited VSp := ⟨⟨⟨endC (-1), endC 1⟩, by decide, end_short _, end_short _⟩⟩
def encV (x : VSp) : List Value := spanC x.1
def cfV (x y : VSp) : Int := cmpC x.1.lo y.1.lo
theorem swoV : Go.Sort.SWO (ltOf cfV) := by
  have ml : ∀ x : VSp, x.1.lo.may = true := fun x => (span_mays x.2.1).1
  refine ⟨fun x => ?_, fun x y z h1 h2 => ?_, fun x y z h1 h2 => ?_⟩
  · unfold ltOf cfV; rw [cut_self]; rfl
  · unfold ltOf cfV at *
    rw [decide_eq_true_eq] at *
    exact clt_trans (ml x) (ml y) (ml z) h1 h2
  · unfold ltOf cfV at *
    rw [decide_eq_false_iff_not] at *
    have := cle_trans (ml z) (ml y) (ml x) (cle_flip h2) (cle_flip h1)
    have h3 := cut_anti (a := x.1.lo) (b := z.1.lo)
    omega
theorem make1_any (s t : Sp) (W : World) (hs : s.short) (ht : t.short) :
    Calls Tryz.prog 126 #[spanV s, spanV t] W fun e w' => e = .returned (.int .i64 (cmpC s.lo t.lo)) ∧ Below W.heap.size W w' := by
  refine calls_ok (n := 10) Tryz.func126 rfl (by kernel_rfl) (by kernel_rfl) ?_
  refine ok_seq ?_
  refine ok_region ?_
  refine s_box (spanV s) (by kernel_rfl) rfl (by kernel_rfl) (fun b1 => ?_)
  refine s_box (spanV t) (by kernel_rfl) rfl (by kernel_rfl) (fun b2 => ?_)
  refine s_val (.int .i64 0) (by kernel_rfl) (fun _ => by kernel_rfl) ?_
  refine s_nil ?_
  refine fin_seq ?_
  refine ok_seq ?_
  refine ok_region ?_
  refine s_val (.pointer (some ⟨b1, 0, none⟩)) (by kernel_rfl) (fun _ => by kernel_rfl) ?_
  refine s_load 1 ⟨b1, (spanV s).cells, 50⟩ (off := 0) (.agg #[.int .i64 s.lo.e, .int .i64 s.lo.v.maj, .int .i64 s.lo.v.min, .int .i64 s.lo.v.pat, .string (mkS s.lo.v.pre), .string (mkS s.lo.v.build), .bool s.lo.aft]) (by kernel_rfl) rfl (by kernel_rfl) (by kernel_rfl) (by kernel_rfl) ?_
  refine s_val (.pointer (some ⟨b2, 0, none⟩)) (by kernel_rfl) (fun _ => by kernel_rfl) ?_
  refine s_load 0 ⟨b2, (spanV t).cells, 50⟩ (off := 0) (.agg #[.int .i64 t.lo.e, .int .i64 t.lo.v.maj, .int .i64 t.lo.v.min, .int .i64 t.lo.v.pat, .string (mkS t.lo.v.pre), .string (mkS t.lo.v.build), .bool t.lo.aft]) (by kernel_rfl) rfl (by kernel_rfl) (by kernel_rfl) (by kernel_rfl) ?_
  refine s_call (k := 127) (args := #[.agg #[.int .i64 s.lo.e, .int .i64 s.lo.v.maj, .int .i64 s.lo.v.min, .int .i64 s.lo.v.pat, .string (mkS s.lo.v.pre), .string (mkS s.lo.v.build), .bool s.lo.aft], .agg #[.int .i64 t.lo.e, .int .i64 t.lo.v.maj, .int .i64 t.lo.v.min, .int .i64 t.lo.v.pat, .string (mkS t.lo.v.pre), .string (mkS t.lo.v.build), .bool t.lo.aft]]) (.int .i64 (cmpC s.lo t.lo)) (by kernel_rfl) (fun _ => by kernel_rfl) (fun w _ => cmpC_any s.lo t.lo w hs.1 ht.1) ?_
  refine s_val (.int .i64 (cmpC s.lo t.lo)) (by kernel_rfl) (fun _ => by kernel_rfl) ?_
  refine s_nil ?_
  refine fin_seq ?_
  refine ok_ret ?_
  refine fin_ret (.int .i64 (cmpC s.lo t.lo)) Tryz.results126 (by kernel_rfl) ?_
  exact fun w hO => ⟨rfl, hO.below⟩
theorem lays4 (blk off size : Nat) (w : World) : CmpLays Tryz.prog 126 #[] encV 14 cfV blk off size w := fun m os dk _ x y =>
  (make1_any x.1 y.1 _ x.2.2 y.2.2).mono fun e w' ⟨h1, h2⟩ => ⟨h1, h2.asGrow⟩
theorem flatK_list (d : Array VSp) : (Go.Sort.flatK encV 14 d).toList = d.toList.flatMap encV := by
  apply List.ext_getElem?
  intro t
  have hlen : (d.toList.flatMap encV).length = d.size * 14 := by rw [flat_len (g := encV) (sz := 14) (fun x : VSp => spanC_len x.1)]; simp
  by_cases ht : t < d.size * 14
  · have hk : t / 14 < d.toList.length := by simp; omega
    have h1 : (Go.Sort.flatK encV 14 d).toList[t]? = some (Go.Sort.flatK encV 14 d)[t]! := by
      rw [getElem!_pos _ t (by simpa using ht), Array.getElem?_toList, Array.getElem?_eq_getElem (by simpa using ht)]
    have h2 := flat_at (g := encV) (sz := 14) (fun x : VSp => spanC_len x.1) d.toList (t / 14) hk
    have h3 : (d.toList.flatMap encV)[t]? = (encV d.toList[t / 14])[t % 14]? := by
      have e : t = t / 14 * 14 + t % 14 := by omega
      have hm : t % 14 < 14 := Nat.mod_lt _ (by decide)
      rw [← h2, List.getElem?_take, if_pos hm, List.getElem?_drop, ← e]
    rw [h1, h3, Go.Sort.get_flatK encV 14 d t ht]
    have hd : d[t / 14]! = d.toList[t / 14] := by rw [getElem!_pos d (t / 14) (by simpa using hk)]; simp
    have hlt : t % 14 < (encV d.toList[t / 14]).length := by rw [show (encV d.toList[t / 14]).length = 14 from spanC_len _]; exact Nat.mod_lt _ (by decide)
    rw [hd, List.getElem?_eq_getElem hlt, getElem!_pos (encV d.toList[t / 14]) (t % 14) hlt]
  · rw [List.getElem?_eq_none (by simpa using Nat.le_of_not_lt ht), List.getElem?_eq_none (by rw [hlen]; omega)]
theorem take_put (cur F : Array Value) (h : F.size ≤ cur.size) : (Go.Sort.putCells id 0 F cur).toList.take F.size = F.toList := by
  apply List.ext_getElem?
  intro j
  by_cases hj : j < F.size
  · rw [List.getElem?_take_of_lt hj, Array.getElem?_toList]
    simp [Go.Sort.putCells, hj, show j < cur.size by omega]
  · rw [List.getElem?_take_eq_none (by omega), List.getElem?_eq_none (by simp; omega)]
theorem size_put (cur F : Array Value) : (Go.Sort.putCells id 0 F cur).size = cur.size := by simp [Go.Sort.putCells]
theorem perm_val {l m : List VSp} (h : l.Perm m) : (l.map (·.1)).Perm (m.map (·.1)) := h.map _
theorem sorted_of (l : List VSp) (h : ∀ i j (hi : i < j) (hj : j < l.length), ¬ cmpC l[j].1.lo (l[i]'(by omega)).1.lo < 0) : SortedC (l.map (·.1)) := by
  induction l with
  | nil => trivial
  | cons s r ih =>
    refine ⟨fun t ht => ?_, ih fun i j hi hj => h (i + 1) (j + 1) (by omega) (by simpa using hj)⟩
    obtain ⟨y, hy, rfl⟩ := List.mem_map.1 ht
    obtain ⟨j, hj, rfl⟩ := List.mem_iff_getElem.1 hy
    exact cle_flip (h 0 (j + 1) (by omega) (by simpa using hj))
theorem lift_list (l : List Sp) (hm : ∀ s ∈ l, s.may = true ∧ s.short) : ∃ m : List VSp, m.map (·.1) = l := by
  induction l with
  | nil => exact ⟨[], rfl⟩
  | cons s r ih =>
    obtain ⟨m, e⟩ := ih (fun t ht => hm t (List.mem_cons_of_mem _ ht))
    exact ⟨⟨s, hm s (List.mem_cons_self ..)⟩ :: m, by rw [List.map_cons, e]⟩
theorem sort_any (g cap : Nat) (cur : Array Value) (l : List Sp) (W : World) (hm : ∀ s ∈ l, s.may = true ∧ s.short) (hO : Own [g] W W [⟨g, cur, 50⟩]) (hcap : l.length ≤ cap) (hmax : cap ≤ maxLen) (hsz : cur.size = cap * 14) (hcur : cur.toList.take (l.length * 14) = l.flatMap spanC) (hn : l.length ≤ 1000000) :
    Calls Tryz.prog 125 #[.slice (some ⟨g, 0, none⟩) l.length cap, .func (.func 126) #[] #[]] W fun e w' =>
      e = .returned (.tuple #[]) ∧ ∃ l' cur', l'.Perm l ∧ SortedC l' ∧ cur'.size = cap * 14 ∧ cur'.toList.take (l.length * 14) = l'.flatMap spanC ∧ Own [g] W w' [⟨g, cur', 50⟩] := by
  obtain ⟨m, rfl⟩ := lift_list l hm
  have hlen : (m.map (·.1)).length = m.toArray.size := by simp
  have hg : W.heap[g]? = some (.cells cur 50) := hO.held _ List.mem_cons_self
  have hglt : g < W.heap.size := hO.lt (x := ⟨g, cur, 50⟩) List.mem_cons_self
  have hflat : (m.map (·.1)).flatMap spanC = m.flatMap encV := by rw [List.flatMap_map]; rfl
  have hH : Go.Sort.HoldsK encV 14 W g 0 m.toArray := by
    intro j hj
    have hj' : j < m.length * 14 := by simpa using hj
    have e : (Go.Sort.flatK encV 14 m.toArray).toList[j]? = cur.toList[j]? := by
      rw [flatK_list, show m.toArray.toList = m from by simp, ← hflat, ← hcur, List.getElem?_take, if_pos (by simpa using hj')]
    have e2 : cur[j]? = some (Go.Sort.flatK encV 14 m.toArray)[j]! := by
      rw [← Array.getElem?_toList, ← e, Array.getElem?_toList, Array.getElem?_eq_getElem hj, getElem!_pos _ j hj]
    refine ⟨?_, by simp [World.frozen?, hg]⟩
    simp only [World.cell?, hg, Nat.zero_add]
    simpa using e2
  have hcon := Tryz.slices_SortFunc 14 Tryz.isAgg50 Tryz.sizeOf50 encV (fun x => spanC_len x.1) (fun x v hv => span_cells x.1 v hv) cfV swoV 126 #[] g 0 cap m.toArray W
    (enters_of Tryz.func126 (by kernel_rfl) rfl) (lays4 g 0 m.toArray.size W) hH hglt (by simp at hlen ⊢; rw [List.length_map] at hn; omega)
  rw [hlen]
  change Calls Tryz.prog 125 _ _ _ at hcon
  refine hcon.mono fun e w' ⟨he, d', n, os, hp, hs, hw⟩ => ⟨he, d'.toList.map (·.1), Go.Sort.putCells id 0 (Go.Sort.flatK encV 14 d') cur, ?_, ?_, ?_, ?_, ?_⟩
  · have h2 := hp.2.2
    have hsz2 := hp.1
    rw [show d'.extract 0 m.toArray.size = d' from by rw [← hsz2]; simp, show m.toArray.extract 0 m.toArray.size = m.toArray from by simp] at h2
    have := perm_val h2
    simpa using this
  · refine sorted_of _ fun i j hi hj => ?_
    have hj' : j < d'.size := by simpa using hj
    have := hs i j (Nat.zero_le _) hi (by rw [← hp.1]; exact hj')
    unfold ltOf cfV at this
    rw [decide_eq_false_iff_not, getElem!_pos d' j hj', getElem!_pos d' i (by omega)] at this
    simpa using this
  · rw [size_put]; exact hsz
  · have hF : (Go.Sort.flatK encV 14 d').size = m.toArray.size * 14 := by rw [Go.Sort.size_flatK, hp.1]
    have := take_put cur (Go.Sort.flatK encV 14 d') (by rw [hF, hsz, ← hlen]; exact Nat.mul_le_mul_right _ hcap)
    rw [hF, flatK_list] at this
    rw [this, List.flatMap_map]; rfl
  · subst hw
    have hheap : ∀ k, k < W.heap.size → (sortWorldK encV 14 W g 0 n d' os).heap[k]? = (Go.Sort.putRowK encV 14 (Go.Sort.ahead W n) g 0 d').heap[k]? := fun k hk => by
      show ((Go.Sort.putRowK encV 14 (Go.Sort.ahead W n) g 0 d').heap ++ os)[k]? = _
      rw [Array.getElem?_append_left (by rw [Go.Sort.size_putRowK]; exact hk)]
    refine ⟨rfl, rfl, rfl, ?_, Nat.le_add_right _ _, fun k hk hne => ?_, fun x hx => ?_, fun x hx => .inr (by rw [List.mem_singleton] at hx; rw [hx]; exact List.mem_singleton_self _), by simp⟩
    · show W.heap.size ≤ ((Go.Sort.putRowK encV 14 (Go.Sort.ahead W n) g 0 d').heap ++ os).size
      rw [Array.size_append, Go.Sort.size_putRowK]; exact Nat.le_add_right _ _
    · rw [hheap k hk]
      have hne' : g ≠ k := fun e => hne (by simp [e])
      simp [Go.Sort.putRowK, Go.Sort.putRow, Go.Sort.mapBlock, Go.Sort.ahead, Array.getElem?_modify, hne']
    · obtain rfl : x = _ := by simpa using hx
      show (sortWorldK encV 14 W g 0 n d' os).heap[g]? = _
      rw [hheap g hglt]
      simp [Go.Sort.putRowK, Go.Sort.putRow, Go.Sort.mapBlock, Go.Sort.ahead, Array.getElem?_modify, hg, Go.Sort.onCells]
end Go.Proofs.YtjabcbagggicaaaGreatDoor
end

section
/-
  slices.Clone of spans; the sort, of a caller that holds other blocks; package row's Make.
-/
namespace Go.Proofs.YtjabcbagggicaaaGreatDoor
open Go.RowKit
set_option maxRecDepth 100000
set_option linter.unusedVariables false
set_option linter.unusedSimpArgs false
set_option maxHeartbeats 2000000


theorem clone4_any (A : Option Addr) (cap : Nat) (l : List Sp) (W : World) (hv : Reads spanC W W.heap.size A l) (hn : l.length ≤ 1000000) :
    Calls Tryz.prog 124 #[.slice A l.length cap] W fun e w' => ∃ v' ob', e = .returned v' ∧ SlS v' l ob' ∧ Own [] W w' ob' := by
  cases A with
  | none =>
    obtain rfl : l = [] := by
      cases l with
      | nil => rfl
      | cons x r => obtain ⟨b, off, e, _⟩ := hv (by simp); cases e
    refine calls_ok (n := 8) Tryz.func124 rfl (by kernel_rfl) (by kernel_rfl) ?_
    refine ok_seq ?_
    refine ok_region ?_
    refine s_val (.slice none 0 0) (by kernel_rfl) (fun _ => by kernel_rfl) ?_
    refine s_nil ?_
    refine fin_seq ?_
    refine ok_seq ?_
    refine ok_seq ?_
    refine ok_region ?_
    refine s_val (.slice none (([] : List Sp).length) cap) (by kernel_rfl) (fun _ => by kernel_rfl) ?_
    refine s_val (.bool true) (by kernel_rfl) (fun _ => by kernel_rfl) ?_
    refine s_nil ?_
    refine fin_seq ?_
    refine ok_true (by kernel_rfl) ?_
    refine ok_seq ?_
    refine ok_region ?_
    refine s_val (.slice none 0 0) (by kernel_rfl) (fun _ => by kernel_rfl) ?_
    refine s_nil ?_
    refine fin_seq ?_
    refine ok_ret ?_
    refine fin_seq_ret ?_
    refine fin_ret (.slice none 0 0) Tryz.results124 (by kernel_rfl) ?_
    exact fun w hO => ⟨_, [], rfl, Sl.nil _ _, by simpa using hO⟩
  | some a =>
    refine calls_ok (n := 8) Tryz.func124 rfl (by kernel_rfl) (by kernel_rfl) ?_
    refine ok_seq ?_
    refine ok_region ?_
    refine s_val (.slice none 0 0) (by kernel_rfl) (fun _ => by kernel_rfl) ?_
    refine s_nil ?_
    refine fin_seq ?_
    refine ok_seq ?_
    refine ok_seq ?_
    refine ok_region ?_
    refine s_val (.slice (some a) l.length cap) (by kernel_rfl) (fun _ => by kernel_rfl) ?_
    refine s_val (.bool false) (by kernel_rfl) (fun _ => by kernel_rfl) ?_
    refine s_nil ?_
    refine fin_seq ?_
    refine ok_false (by kernel_rfl) ?_
    refine ok_skip ?_
    refine fin_seq ?_
    refine ok_seq ?_
    refine ok_region ?_
    refine s_lit 50 #[] (by kernel_rfl) rfl (fun _ => by kernel_rfl) (fun b1 => ?_)
    refine s_val (.slice (some a) l.length cap) (by kernel_rfl) (fun _ => by kernel_rfl) ?_
    obtain ⟨i, z, e1, e2, e3, e4, e5⟩ := span_info
    refine s_cast (L' := [] ++ [⟨b1, #[], 50⟩] ++ []) rfl ?_
    refine s_appendR (E := []) (ob := [⟨b1, #[], 50⟩]) (L0 := []) (sz := 14) (l := l) (A := some a) (c := cap) (n := 0) (xs := []) spanC_len (by kernel_rfl) rfl Tryz.underlying34 e1 e2 e3 e4 (by kernel_rfl) ⟨rfl, .inr ⟨b1, 0, #[], rfl, rfl, Nat.le_refl _, Nat.zero_le _, rfl, rfl⟩⟩ (by kernel_rfl) (fun w hO => hv.on hO.below hO.size) span_cells (by unfold maxLen; omega) (by rw [e5]; omega) (fun va oa hva => ?_)
    refine s_val (va) (by kernel_rfl) (fun _ => by kernel_rfl) ?_
    refine s_nil ?_
    refine fin_seq ?_
    refine ok_ret ?_
    refine fin_ret (va) Tryz.results124 (by kernel_rfl) ?_
    exact fun w hO => ⟨va, oa, rfl, hva.to (by simp) (by simp), by simpa using hO⟩
theorem sort_call {M : List Nat} {W w : World} {v : Value} {l : List Sp} {E ob : List Blk} (hO : Own M W w (E ++ ob)) (hv : SlS v l ob) (hn : l.length ≤ 1000000) (hm : ∀ s ∈ l, s.may = true ∧ s.short) :
    Calls Tryz.prog 125 #[v, .func (.func 126) #[] #[]] w fun e w' => ∃ v' L', e = .returned v' ∧ (∃ l' ob', v' = .tuple #[] ∧ L' = E ++ ob' ∧ l'.Perm l ∧ SortedC l' ∧ SlS v l' ob') ∧ Own M W w' L' := by
  obtain ⟨A, cap, rfl⟩ := hv.form
  by_cases h0 : l.length = 0
  · obtain rfl : l = [] := List.eq_nil_of_length_eq_zero h0
    have h := Tryz.slices_SortFunc_none (α := Nat) A cap (.func (.func 126) #[] #[]) w
    change Calls Tryz.prog 125 _ _ _ at h
    exact h.mono fun e w' ⟨h1, h2⟩ => ⟨_, E ++ ob, h1, ⟨[], ob, rfl, rfl, List.Perm.refl _, trivial, hv⟩, h2 ▸ hO⟩
  · unfold SlS at hv
    obtain ⟨g, cur, rfl, rfl, hcap, hmax, hsz, hcur⟩ := hv.block (by omega)
    refine (sort_any g cap cur l w hm (Own.lend (hO.sub E)) hcap hmax hsz hcur hn).mono fun e w' ⟨h1, l', cur', h2, h3, h4, h5, h6⟩ => ⟨_, E ++ [⟨g, cur', 50⟩], h1, ⟨l', _, rfl, rfl, h2, h3, ?_⟩, ?_⟩
    · unfold SlS
      have hl := h2.length_eq
      rw [← hl] at h5 hcap ⊢
      exact ⟨by rw [flat_len spanC_len], .inr ⟨g, cap, cur', rfl, rfl, hcap, hmax, h4, h5⟩⟩
    · have hp : Own M W w ([⟨g, cur, 50⟩] ++ E) := hO.perm List.perm_append_comm
      exact (Own.join hp h6).perm List.perm_append_comm
structure Merged (d : List Sp) (k : Nat) (V : Option Addr) (c : Nat) (out : List Sp) (ob : List Blk) : Prop where
  le : k ≤ d.length
  sl : Sl 50 14 (.slice V out.length c) out.length (out.flatMap spanC) ob
  len : out.length ≤ k
  short : ShortL out
  eq : (d.take k).foldl mstep [] = out
theorem Merged.start (d : List Sp) : Merged d 0 none 0 [] [] := ⟨Nat.zero_le _, Sl.nil _ _, Nat.le_refl _, fun s hs => by simp at hs, by rw [List.take_zero]; rfl⟩
theorem mstep_app {out : List Sp} {s : Sp} (h : ∀ t ∈ out.getLast?, cmpC t.hi s.lo < 0) : mstep out s = out ++ [s] := by
  unfold mstep
  cases hg : out.getLast? with
  | none => have : out = [] := by simpa using hg
            subst this; rfl
  | some t => dsimp only; rw [if_pos (h t hg)]
theorem mstep_set {out : List Sp} {s t : Sp} (h0 : 0 < out.length) (ht : out[out.length - 1]'(by omega) = t) (h : ¬ cmpC t.hi s.lo < 0) : mstep out s = out.set (out.length - 1) ⟨t.lo, maxC t.hi s.hi⟩ := by
  have hg : out.getLast? = some t := by rw [List.getLast?_eq_getElem?, List.getElem?_eq_getElem (by omega), ht]
  unfold mstep
  rw [hg]
  dsimp only
  rw [if_neg h, List.dropLast_eq_take, List.set_eq_take_append_cons_drop, if_pos (by omega), List.drop_of_length_le (by omega)]
theorem mstep_short {out : List Sp} {s : Sp} (ho : ShortL out) (hs : s.short) : ShortL (mstep out s) := by
  unfold mstep
  split
  · intro x hx; obtain rfl : x = _ := by simpa using hx
    exact hs
  · rename_i t ht
    split
    · intro x hx
      rcases List.mem_append.1 hx with h | h
      · exact ho x h
      · obtain rfl : x = _ := by simpa using h
        exact hs
    · intro x hx
      rcases List.mem_append.1 hx with h | h
      · exact ho x (List.dropLast_subset _ h)
      · obtain rfl : x = _ := by simpa using h
        exact ⟨(ho t (List.mem_of_getLast? ht)).1, maxC_short (ho t (List.mem_of_getLast? ht)).2 hs.2⟩
theorem Merged.step {d : List Sp} {k : Nat} {V V2 : Option Addr} {c c2 : Nat} {out out2 : List Sp} {ob ob2 : List Blk} (h : Merged d k V c out ob) (hk : k < d.length) {s : Sp} (hs : d[k] = s) (hss : s.short) (he : mstep out s = out2) (h2 : Sl 50 14 (.slice V2 out2.length c2) out2.length (out2.flatMap spanC) ob2) : Merged d (k + 1) V2 c2 out2 ob2 :=
  ⟨by omega, h2, by have := h.len; have := mstep_len out s; rw [he] at this; omega, he ▸ mstep_short h.short hss, by rw [List.take_succ_eq_append_getElem hk, List.foldl_append, h.eq, hs]; exact he⟩
end Go.Proofs.YtjabcbagggicaaaGreatDoor
end
