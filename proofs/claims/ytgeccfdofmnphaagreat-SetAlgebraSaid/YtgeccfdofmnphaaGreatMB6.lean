/-
  What the statements' proofs lean on, part 6: each part begins with a remark that says what it proves and on what conditions.
-/
import Derived.Below
import Derived.ChangeSame
import Derived.ProofKit
import Derived.OpenShut
import Derived.LaidSub
import Derived.Carry
import Derived.SliceStrings
import Derived.Lib.LaidTab
import Derived.Deep.DeepHandedRow
import Derived.ChangeArms
import Derived.Deep.Fields
import Derived.DataReads
import Derived.ChangeOld
import Derived.Test.YtgeccfdofmnphaaGreatMB5

section
/-
  Package set's Make: any two rows of at most 100000 spans whose strings have at most a million bytes as a set; nothing that was there is changed.
-/
namespace Go.Proofs.YtgeccfdofmnphaaGreat
open Go.RowKit
set_option maxRecDepth 100000
set_option linter.unusedVariables false
set_option linter.unusedSimpArgs false
set_option maxHeartbeats 2000000

theorem own_mk5 {M : List Nat} {W w : World} {x y : Blk} {A B : List Blk} (h : Own M W w (A ++ (x :: (B ++ [y])))) : Own M W w (x :: y :: A) :=
  (h.sublist ((List.Sublist.refl A).append (List.Sublist.cons_cons x (List.sublist_append_right B [y])))).perm (List.perm_append_comm (l₁ := A) (l₂ := [x, y]))
theorem own_mk6 {M : List Nat} {W w : World} {x y : Blk} {A B : List Blk} (h : Own M W w (A ++ (x :: y :: B))) : Own M W w (x :: y :: (A ++ B)) :=
  h.perm (by have e : A ++ ([x, y] ++ B) = A ++ [x, y] ++ B := (List.append_assoc ..).symm
             show (A ++ ([x, y] ++ B)).Perm ([x, y] ++ (A ++ B))
             rw [e, ← List.append_assoc]
             exact List.Perm.append_right B List.perm_append_comm)
set_option maxHeartbeats 4000000 in
theorem sMake_any (A B : Option Addr) (c d : Nat) (l q : List Sp) (W : World) (hv : Reads spanC W W.heap.size A l) (hu : Reads spanC W W.heap.size B q) (hn : l.length ≤ 100000) (hk : q.length ≤ 100000) (hl : ShortL l) (hm : ShortL q) (ca : l.length ≤ c) (cb : q.length ≤ d) :
    Calls Tryz.prog 12 #[.slice A l.length c, .slice B q.length d] W fun e w' => ∃ v' ob', e = .returned (.tuple #[v', .bool (rowMay l && rowMay q)]) ∧ SetO v' (if rowMay l && rowMay q then ⟨makeRel l, q⟩ else noneT) ob' ∧ Own [] W w' ob' := by
  refine calls_ok (n := 52) Tryz.func12 rfl (by kernel_rfl) (by kernel_rfl) ?_
  refine ok_seq ?_
  refine ok_region ?_
  refine s_alloc_at (.agg #[.slice none 0 0, .slice none 0 0]) (by kernel_rfl) rfl (by kernel_rfl) (fun b1 => ?_)
  refine s_val (.bool false) (by kernel_rfl) (fun _ => by kernel_rfl) ?_
  refine s_nil ?_
  refine fin_seq ?_
  refine ok_seq ?_
  refine ok_seq ?_
  refine ok_region ?_
  refine s_val (.slice A l.length c) (by kernel_rfl) (fun _ => by kernel_rfl) ?_
  refine s_call (k := 42) (args := #[.slice A l.length c]) (.bool (rowMay l)) (by kernel_rfl) (fun _ => by kernel_rfl) (fun w hO => may4_any A c l w (hv.on hO.below hO.below.size) (Nat.le_trans hn (by decide)) hl) ?_
  cases h1 : rowMay l with
  | true =>
    refine s_val (.bool false) (by kernel_rfl) (fun _ => by kernel_rfl) ?_
    refine s_val (.bool false) (by kernel_rfl) (fun _ => by kernel_rfl) ?_
    refine s_val (.slice B q.length d) (by kernel_rfl) (fun _ => by kernel_rfl) ?_
    refine s_call (k := 42) (args := #[.slice B q.length d]) (.bool (rowMay q)) (by kernel_rfl) (fun _ => by kernel_rfl) (fun w hO => may4_any B d q w (hu.on hO.below hO.below.size) (Nat.le_trans hk (by decide)) hm) ?_
    cases h2 : rowMay q with
    | true =>
      refine s_val (.bool false) (by kernel_rfl) (fun _ => by kernel_rfl) ?_
      refine s_val (.bool false) (by kernel_rfl) (fun _ => by kernel_rfl) ?_
      refine s_nil ?_
      refine fin_seq ?_
      refine ok_false (by kernel_rfl) ?_
      refine ok_skip ?_
      refine fin_seq ?_
      refine ok_seq ?_
      refine ok_region ?_
      refine s_val (.slice none 0 0) (by kernel_rfl) (fun _ => by kernel_rfl) ?_
      refine s_nil ?_
      refine fin_seq ?_
      refine ok_seq ?_
      refine ok_seq ?_
      refine ok_region ?_
      refine s_val (.slice A l.length c) (by kernel_rfl) (fun _ => by kernel_rfl) ?_
      refine s_val (.int .i64 (l.length : Int)) (by kernel_rfl) (fun _ => by kernel_rfl) ?_
      refine s_val (.int .i64 0) (by kernel_rfl) (fun _ => by kernel_rfl) ?_
      refine s_nil ?_
      refine fin_seq ?_
      refine ok_block ?_
      refine ok_cast (L' := [] ++ [⟨b1, #[.slice none 0 0, .slice none 0 0], 24⟩]) rfl ?_
      refine ok_loop (fun L f m => ∃ (k : Nat) (u : Value) (acc : List Sp) (ob : List Blk) (j : Nat → Value), (MkI l k u acc ob) ∧ L = ob ++ [⟨b1, #[.slice none 0 0, .slice none 0 0], 24⟩] ∧ f = upds j [(1, .slice B q.length d), (4, .pointer (some ⟨b1, 0, none⟩)), (6, u), (19, .slice A l.length c), (20, .int .i64 (l.length : Int)), (21, .int .i64 (k : Int))] ∧ m = l.length - k) (l.length - 0) ⟨0, _, [], [], _, ⟨Nat.zero_le _, Sl.nil _ _, rfl⟩, rfl, upds_self _ ⟨by kernel_rfl, by kernel_rfl, by kernel_rfl, by kernel_rfl, by kernel_rfl, by kernel_rfl, trivial⟩, rfl⟩ ?_
      rintro L f m ⟨k, u, acc, ob, j, hrel, rfl, rfl, rfl⟩
      have hkl := hrel.le
      refine ok_seq ?_
      refine ok_region ?_
      by_cases h3 : (k : Int) < (l.length : Int)
      · skip
        have hlk : k < l.length := by omega
        obtain ⟨b, off, hA, hlt, hcell⟩ := hv (by omega)
        obtain ⟨s, he⟩ : ∃ s, l[k] = s := ⟨_, rfl⟩
        have hsk : s.short := he ▸ hl _ (List.getElem_mem _)
        have hsm : s.lo.may = true ∧ s.hi.may = true := span_mays (he ▸ row_mem h1 _ (List.getElem_mem _))
        obtain ⟨x, hx⟩ : ∃ x, turnC s.lo = x := ⟨_, rfl⟩
        obtain ⟨y, hy⟩ : ∃ y, turnC s.hi = y := ⟨_, rfl⟩
        have hxS : x.short := hx ▸ turn_short hsk.1
        have hyS : y.short := hy ▸ turn_short hsk.2
        refine s_dec (p := (k : Int) < (l.length : Int)) true (by kernel_rfl) (fun _ => by kernel_rfl) (decide_eq_true (h3)) ?_
        refine s_nil ?_
        refine fin_seq ?_
        refine ok_seq ?_
        refine ok_true (by kernel_rfl) ?_
        refine ok_skip ?_
        refine fin_seq ?_
        refine ok_seq ?_
        refine ok_block ?_
        refine ok_seq ?_
        refine ok_region ?_
        refine s_val (.pointer (some ⟨b, off + k * 14, none⟩)) (by kernel_rfl) (run_ixA (b := b) (off := off) (c := c) (n := l.length) (k := .i64) (j := (k : Int)) (e := 50) (sz := 14) rfl (by kernel_rfl) hA (by kernel_rfl) (by kernel_rfl) (by kernel_rfl) (by omega) (by omega) (by omega)) ?_
        refine s_old (spanV s) (a := ⟨b, off + k * 14, none⟩) (by kernel_rfl) rfl (by kernel_rfl) (fun w hO => elem_load spanC_len (fun j u h => (hO.below.cell (p := ⟨b, off + j, none⟩) hlt).trans (hcell j u h)) k 0 hlk (by omega) _ (by rw [he]; kernel_rfl)) ?_
        refine s_alloc_at (.agg #[.int .i64 0, .int .i64 0, .int .i64 0, .int .i64 0, .string ⟨#[]⟩, .string ⟨#[]⟩, .bool false, .int .i64 0, .int .i64 0, .int .i64 0, .int .i64 0, .string ⟨#[]⟩, .string ⟨#[]⟩, .bool false]) (by kernel_rfl) rfl (by kernel_rfl) (fun b2 => ?_)
        refine s_store_at 0 ⟨b2, #[.int .i64 0, .int .i64 0, .int .i64 0, .int .i64 0, .string ⟨#[]⟩, .string ⟨#[]⟩, .bool false, .int .i64 0, .int .i64 0, .int .i64 0, .int .i64 0, .string ⟨#[]⟩, .string ⟨#[]⟩, .bool false], 50⟩ (off := 0) (spanV s) (by kernel_rfl) rfl rfl (by kernel_rfl) (by kernel_rfl) (by kernel_rfl) (by kernel_rfl) (by kernel_rfl) ?_
        refine s_nil ?_
        refine fin_seq ?_
        refine ok_seq ?_
        refine ok_drawt 7 (by kernel_rfl) (by kernel_rfl) (by kernel_rfl) ?_
        simp only [List.take_succ_cons, List.take_zero, List.drop_succ_cons, List.drop_zero]
        refine q_val (.pointer (some ⟨b2, 0, none⟩)) (by kernel_rfl) (fun _ => by kernel_rfl) ?_
        refine q_load 0 ⟨b2, (spanV s).cells, 50⟩ (off := 0) (.agg #[.int .i64 s.lo.e, .int .i64 s.lo.v.maj, .int .i64 s.lo.v.min, .int .i64 s.lo.v.pat, .string (mkS s.lo.v.pre), .string (mkS s.lo.v.build), .bool s.lo.aft]) (by kernel_rfl) rfl (by kernel_rfl) (by kernel_rfl) (by kernel_rfl) ?_
        refine q_call (k := 43) (args := #[.agg #[.int .i64 s.lo.e, .int .i64 s.lo.v.maj, .int .i64 s.lo.v.min, .int .i64 s.lo.v.pat, .string (mkS s.lo.v.pre), .string (mkS s.lo.v.build), .bool s.lo.aft]]) (cutV x) (by kernel_rfl) (fun _ => by kernel_rfl) (fun w _ => ret_v (by rw [hx]) (toRel_any s.lo w hsk.1 hsm.1)) ?_
        refine q_val (.pointer (some ⟨b2, 7, none⟩)) (by kernel_rfl) (fun _ => by kernel_rfl) ?_
        refine q_load 0 ⟨b2, (spanV s).cells, 50⟩ (off := 7) (.agg #[.int .i64 s.hi.e, .int .i64 s.hi.v.maj, .int .i64 s.hi.v.min, .int .i64 s.hi.v.pat, .string (mkS s.hi.v.pre), .string (mkS s.hi.v.build), .bool s.hi.aft]) (by kernel_rfl) rfl (by kernel_rfl) (by kernel_rfl) (by kernel_rfl) ?_
        refine q_call (k := 43) (args := #[.agg #[.int .i64 s.hi.e, .int .i64 s.hi.v.maj, .int .i64 s.hi.v.min, .int .i64 s.hi.v.pat, .string (mkS s.hi.v.pre), .string (mkS s.hi.v.build), .bool s.hi.aft]]) (cutV y) (by kernel_rfl) (fun _ => by kernel_rfl) (fun w _ => ret_v (by rw [hy]) (toRel_any s.hi w hsk.2 hsm.2)) ?_
        refine q_val (.agg #[.int .i64 x.e, .int .i64 x.v.maj, .int .i64 x.v.min, .int .i64 x.v.pat, .string (mkS x.v.pre), .string (mkS x.v.build), .bool x.aft, .int .i64 y.e, .int .i64 y.v.maj, .int .i64 y.v.min, .int .i64 y.v.pat, .string (mkS y.v.pre), .string (mkS y.v.build), .bool y.aft]) (by kernel_rfl) (fun _ => by kernel_rfl) ?_
        refine q_nil ?_
        refine s_store_at 0 ⟨b2, (spanV s).cells, 50⟩ (off := 0) (.agg #[.int .i64 x.e, .int .i64 x.v.maj, .int .i64 x.v.min, .int .i64 x.v.pat, .string (mkS x.v.pre), .string (mkS x.v.build), .bool x.aft, .int .i64 y.e, .int .i64 y.v.maj, .int .i64 y.v.min, .int .i64 y.v.pat, .string (mkS y.v.pre), .string (mkS y.v.build), .bool y.aft]) (by kernel_rfl) rfl rfl (by kernel_rfl) (by kernel_rfl) (by kernel_rfl) (by kernel_rfl) (by kernel_rfl) ?_
        refine s_nil ?_
        refine fin_seq ?_
        refine ok_seq ?_
        refine ok_region ?_
        refine s_load 0 ⟨b2, #[.int .i64 x.e, .int .i64 x.v.maj, .int .i64 x.v.min, .int .i64 x.v.pat, .string (mkS x.v.pre), .string (mkS x.v.build), .bool x.aft, .int .i64 y.e, .int .i64 y.v.maj, .int .i64 y.v.min, .int .i64 y.v.pat, .string (mkS y.v.pre), .string (mkS y.v.build), .bool y.aft], 50⟩ (off := 0) (.agg #[.int .i64 x.e, .int .i64 x.v.maj, .int .i64 x.v.min, .int .i64 x.v.pat, .string (mkS x.v.pre), .string (mkS x.v.build), .bool x.aft, .int .i64 y.e, .int .i64 y.v.maj, .int .i64 y.v.min, .int .i64 y.v.pat, .string (mkS y.v.pre), .string (mkS y.v.build), .bool y.aft]) (by kernel_rfl) rfl (by kernel_rfl) (by kernel_rfl) (by kernel_rfl) ?_
        refine s_call (k := 44) (args := #[.agg #[.int .i64 x.e, .int .i64 x.v.maj, .int .i64 x.v.min, .int .i64 x.v.pat, .string (mkS x.v.pre), .string (mkS x.v.build), .bool x.aft, .int .i64 y.e, .int .i64 y.v.maj, .int .i64 y.v.min, .int .i64 y.v.pat, .string (mkS y.v.pre), .string (mkS y.v.build), .bool y.aft]]) (.bool ((⟨x, y⟩ : Sp).may)) (by kernel_rfl) (fun _ => by kernel_rfl) (fun w _ => spanMay_any ⟨x, y⟩ w ⟨hxS, hyS⟩) ?_
        refine s_nil ?_
        refine fin_seq ?_
        cases h4 : (⟨x, y⟩ : Sp).may with
        | true =>
          refine ok_true (by kernel_rfl) ?_
          refine ok_region ?_
          refine s_val (u) (by kernel_rfl) (fun _ => by kernel_rfl) ?_
          refine s_load 0 ⟨b2, #[.int .i64 x.e, .int .i64 x.v.maj, .int .i64 x.v.min, .int .i64 x.v.pat, .string (mkS x.v.pre), .string (mkS x.v.build), .bool x.aft, .int .i64 y.e, .int .i64 y.v.maj, .int .i64 y.v.min, .int .i64 y.v.pat, .string (mkS y.v.pre), .string (mkS y.v.build), .bool y.aft], 50⟩ (off := 0) (.agg #[.int .i64 x.e, .int .i64 x.v.maj, .int .i64 x.v.min, .int .i64 x.v.pat, .string (mkS x.v.pre), .string (mkS x.v.build), .bool x.aft, .int .i64 y.e, .int .i64 y.v.maj, .int .i64 y.v.min, .int .i64 y.v.pat, .string (mkS y.v.pre), .string (mkS y.v.build), .bool y.aft]) (by kernel_rfl) rfl (by kernel_rfl) (by kernel_rfl) (by kernel_rfl) ?_
          refine s_lit 50 #[.int .i64 x.e, .int .i64 x.v.maj, .int .i64 x.v.min, .int .i64 x.v.pat, .string (mkS x.v.pre), .string (mkS x.v.build), .bool x.aft, .int .i64 y.e, .int .i64 y.v.maj, .int .i64 y.v.min, .int .i64 y.v.pat, .string (mkS y.v.pre), .string (mkS y.v.build), .bool y.aft] (by kernel_rfl) rfl (fun _ => by kernel_rfl) (fun b3 => ?_)
          obtain ⟨i0, z0, e1, e2, e3, e4, e5⟩ := span_info
          have hln : acc.length ≤ k := by rw [hrel.eq]; exact turnL_len l k
          refine s_cast (L' := [⟨b3, #[.int .i64 x.e, .int .i64 x.v.maj, .int .i64 x.v.min, .int .i64 x.v.pat, .string (mkS x.v.pre), .string (mkS x.v.build), .bool x.aft, .int .i64 y.e, .int .i64 y.v.maj, .int .i64 y.v.min, .int .i64 y.v.pat, .string (mkS y.v.pre), .string (mkS y.v.build), .bool y.aft], 50⟩, ⟨b2, #[.int .i64 x.e, .int .i64 x.v.maj, .int .i64 x.v.min, .int .i64 x.v.pat, .string (mkS x.v.pre), .string (mkS x.v.build), .bool x.aft, .int .i64 y.e, .int .i64 y.v.maj, .int .i64 y.v.min, .int .i64 y.v.pat, .string (mkS y.v.pre), .string (mkS y.v.build), .bool y.aft], 50⟩] ++ ob ++ [⟨b1, #[.slice none 0 0, .slice none 0 0], 24⟩]) (by rw [List.append_assoc]; kernel_rfl) ?_
          refine s_append (sz := 14) (by kernel_rfl) rfl Tryz.underlying22 e1 e2 e3 e4 (by kernel_rfl) hrel.sl (a := ⟨b3, 0, none⟩) (m := 1) (c := 1) (news := spanC ⟨x, y⟩) (by kernel_rfl) rfl (fun w hO j u hj => ?_) (span_cells _) (by unfold maxLen; omega) (by rw [e5]; omega) (fun u2 ob2 hu2 => ?_)
          · rw [add_off, cell_of_row w b3 (0 + j) (spanC ⟨x, y⟩).toArray 50 _ (hO.held ⟨b3, (spanC ⟨x, y⟩).toArray, 50⟩ (List.mem_append_left _ (List.mem_append_left _ (List.mem_cons_self ..))))]; simpa using hj
          refine s_val (u2) (by kernel_rfl) (fun _ => by kernel_rfl) ?_
          refine s_nil ?_
          refine fin_block ?_
          refine fin_seq ?_
          refine ok_region ?_
          refine s_sum (k := .i64) (((k + 1 : Nat) : Int)) (by kernel_rfl) (fun _ => by kernel_rfl) (IntWalk.i64_in _ (by omega)) ?_
          refine s_val (.int .i64 ((k + 1 : Nat) : Int)) (by kernel_rfl) (fun _ => by kernel_rfl) ?_
          refine s_nil ?_
          refine fin_take (L' := ob2 ++ [⟨b1, #[.slice none 0 0, .slice none 0 0], 24⟩]) (fun w hO => own_drop hO) ?_
          exact fin_round (m' := l.length - (k + 1)) (by omega) ⟨k + 1, u2, _, ob2, _, hrel.grow hlk he hx hy (by assumption) hu2, rfl, upds_self _ ⟨by kernel_rfl, by kernel_rfl, by kernel_rfl, by kernel_rfl, by kernel_rfl, by kernel_rfl, trivial⟩, rfl⟩
        | false =>
          refine ok_false (by kernel_rfl) ?_
          refine ok_skip ?_
          refine fin_block ?_
          refine fin_seq ?_
          refine ok_region ?_
          refine s_sum (k := .i64) (((k + 1 : Nat) : Int)) (by kernel_rfl) (fun _ => by kernel_rfl) (IntWalk.i64_in _ (by omega)) ?_
          refine s_val (.int .i64 ((k + 1 : Nat) : Int)) (by kernel_rfl) (fun _ => by kernel_rfl) ?_
          refine s_nil ?_
          refine fin_take (L' := ob ++ [⟨b1, #[.slice none 0 0, .slice none 0 0], 24⟩]) (fun w hO => Own.sub [_] hO) ?_
          exact fin_round (m' := l.length - (k + 1)) (by omega) ⟨k + 1, u, acc, ob, _, hrel.keep hlk he hx hy (by assumption), rfl, upds_self _ ⟨by kernel_rfl, by kernel_rfl, by kernel_rfl, by kernel_rfl, by kernel_rfl, by kernel_rfl, trivial⟩, rfl⟩
      · skip
        refine s_dec (p := (k : Int) < (l.length : Int)) false (by kernel_rfl) (fun _ => by kernel_rfl) (decide_eq_false (h3)) ?_
        refine s_nil ?_
        refine fin_seq ?_
        refine ok_seq ?_
        refine ok_false (by kernel_rfl) ?_
        refine ok_exit ?_
        refine fin_seq_exit ?_
        refine fin_round_exit ?_
        refine fin_block_exit ?_
        refine fin_seq ?_
        refine ok_seq ?_
        refine ok_region ?_
        refine s_alloc_at (.agg #[.slice none 0 0, .slice none 0 0]) (by kernel_rfl) rfl (by kernel_rfl) (fun b2 => ?_)
        refine s_nil ?_
        refine fin_seq ?_
        refine ok_seq ?_
        refine ok_region ?_
        refine s_val (u) (by kernel_rfl) (fun _ => by kernel_rfl) ?_
        have hke : acc = (l.map turnS).filter (·.may) := by have h := hrel.eq; unfold turnL at h; rwa [List.take_of_length_le (by omega)] at h
        have hall : allMay acc = true := allMay_mem.2 (by rw [hrel.eq]; exact turnL_may l k)
        have hsh : ShortL acc := fun s hs => sp_short (allMay_mem.1 hall s hs)
        have hln : acc.length ≤ k := by rw [hrel.eq]; exact turnL_len l k
        have hsl := hrel.sl
        clear hrel
        obtain ⟨C, cc, rfl⟩ := hsl.form
        refine s_callo (k := 45) (args := #[.slice C acc.length cc]) (fun v' L' => ∃ mv ob', v' = .tuple #[mv, .bool true] ∧ L' = ob' ++ (⟨b2, #[.slice none 0 0, .slice none 0 0], 24⟩ :: (ob ++ ([⟨b1, #[.slice none 0 0, .slice none 0 0], 24⟩]))) ∧ SlS mv (makeRel l) ob') (by kernel_rfl) (fun _ => by kernel_rfl) (fun w hO => (make4_any C cc acc w (Sl.reads hsl rfl hO (fun x hx => by simp [hx])) (by omega) hsh).mono fun e w' ⟨v', ob', k1, k2, k3⟩ => ⟨_, _, k1, ⟨v', ob', by rw [hall], rfl, by rw [hall, if_pos rfl, hke] at k2; exact k2⟩, Own.joinN hO k3⟩) (fun tv L2 hv2 => ?_)
        obtain ⟨v2, o2, rfl, rfl, hr2⟩ := hv2
        obtain ⟨V2, c2, rfl⟩ := hr2.form
        refine s_take (L' := ⟨b2, #[.slice none 0 0, .slice none 0 0], 24⟩ :: ⟨b1, #[.slice none 0 0, .slice none 0 0], 24⟩ :: o2) (fun w hO => own_mk5 hO) ?_
        refine s_val (.tuple #[.slice V2 ((makeRel l).length) c2, .bool true]) (by kernel_rfl) (fun _ => by kernel_rfl) ?_
        refine s_val (.slice V2 ((makeRel l).length) c2) (by kernel_rfl) (fun _ => by kernel_rfl) ?_
        refine s_val (.bool true) (by kernel_rfl) (fun _ => by kernel_rfl) ?_
        refine s_val (.pointer (some ⟨b2, 0, none⟩)) (by kernel_rfl) (fun _ => by kernel_rfl) ?_
        refine s_store_at 0 ⟨b2, #[.slice none 0 0, .slice none 0 0], 24⟩ (off := 0) (.slice V2 ((makeRel l).length) c2) (by kernel_rfl) rfl rfl (by kernel_rfl) (by kernel_rfl) (by kernel_rfl) (by kernel_rfl) (by kernel_rfl) ?_
        refine s_nil ?_
        refine fin_seq ?_
        refine ok_seq ?_
        refine ok_region ?_
        refine s_val (.slice B q.length d) (by kernel_rfl) (fun _ => by kernel_rfl) ?_
        have hqa : allMay q = true := allMay_mem.2 (row_mem h2)
        refine s_callo (k := 45) (args := #[.slice B q.length d]) (fun v' L' => ∃ mv ob', v' = .tuple #[mv, .bool true] ∧ L' = ob' ++ (⟨b2, #[.slice V2 ((makeRel l).length) c2, .slice none 0 0], 24⟩ :: (⟨b1, #[.slice none 0 0, .slice none 0 0], 24⟩ :: (o2))) ∧ SlS mv q ob') (by kernel_rfl) (fun _ => by kernel_rfl) (fun w hO => (make4_any B d q w (hu.on hO.below hO.below.size) (Nat.le_trans hk (by decide)) hm).mono fun e w' ⟨v', ob', k1, k2, k3⟩ => ⟨_, _, k1, ⟨v', ob', by rw [hqa], rfl, by rw [hqa, if_pos rfl, make_self h2] at k2; exact k2⟩, Own.joinN hO k3⟩) (fun tv L3 hv3 => ?_)
        obtain ⟨v3, o3, rfl, rfl, hr3⟩ := hv3
        obtain ⟨V3, c3, rfl⟩ := hr3.form
        refine s_take (L' := ⟨b2, #[.slice V2 ((makeRel l).length) c2, .slice none 0 0], 24⟩ :: ⟨b1, #[.slice none 0 0, .slice none 0 0], 24⟩ :: (o3 ++ o2)) (fun w hO => own_mk6 hO) ?_
        refine s_val (.tuple #[.slice V3 q.length c3, .bool true]) (by kernel_rfl) (fun _ => by kernel_rfl) ?_
        refine s_val (.slice V3 q.length c3) (by kernel_rfl) (fun _ => by kernel_rfl) ?_
        refine s_val (.bool true) (by kernel_rfl) (fun _ => by kernel_rfl) ?_
        refine s_val (.pointer (some ⟨b2, 1, none⟩)) (by kernel_rfl) (fun _ => by kernel_rfl) ?_
        refine s_store_at 0 ⟨b2, #[.slice V2 ((makeRel l).length) c2, .slice none 0 0], 24⟩ (off := 1) (.slice V3 q.length c3) (by kernel_rfl) rfl rfl (by kernel_rfl) (by kernel_rfl) (by kernel_rfl) (by kernel_rfl) (by kernel_rfl) ?_
        refine s_nil ?_
        refine fin_seq ?_
        refine ok_seq ?_
        refine ok_region ?_
        refine s_load 0 ⟨b2, #[.slice V2 ((makeRel l).length) c2, .slice V3 q.length c3], 24⟩ (off := 0) (.agg #[.slice V2 ((makeRel l).length) c2, .slice V3 q.length c3]) (by kernel_rfl) rfl (by kernel_rfl) (by kernel_rfl) (by kernel_rfl) ?_
        refine s_store_at 1 ⟨b1, #[.slice none 0 0, .slice none 0 0], 24⟩ (off := 0) (.agg #[.slice V2 ((makeRel l).length) c2, .slice V3 q.length c3]) (by kernel_rfl) rfl rfl (by kernel_rfl) (by kernel_rfl) (by kernel_rfl) (by kernel_rfl) (by kernel_rfl) ?_
        refine s_val (.bool true) (by kernel_rfl) (fun _ => by kernel_rfl) ?_
        refine s_nil ?_
        refine fin_seq ?_
        refine ok_ret ?_
        refine fin_cell2 1 ⟨b1, #[.slice V2 ((makeRel l).length) c2, .slice V3 q.length c3], 24⟩ (off := 0) (.agg #[.slice V2 ((makeRel l).length) c2, .slice V3 q.length c3]) (.bool true) Tryz.results12 (by kernel_rfl) (by kernel_rfl) (by kernel_rfl) (by kernel_rfl) ?_
        exact fun w hO => ⟨_, _, rfl, by rw [if_pos (by simp [h1, h2])]; exact ⟨_, _, o2, o3, rfl, rfl, hr2, hr3⟩, own_tl (own_tl hO)⟩
    | false =>
      refine s_val (.bool true) (by kernel_rfl) (fun _ => by kernel_rfl) ?_
      refine s_val (.bool true) (by kernel_rfl) (fun _ => by kernel_rfl) ?_
      refine s_nil ?_
      refine fin_seq ?_
      refine ok_true (by kernel_rfl) ?_
      refine ok_seq ?_
      refine ok_region ?_
      refine s_call (k := 37) (args := #[]) (.agg #[.slice none 0 0, .slice none 0 0]) (by kernel_rfl) (fun _ => by kernel_rfl) (fun w _ => sNone_any w) ?_
      refine s_store_at 0 ⟨b1, #[.slice none 0 0, .slice none 0 0], 24⟩ (off := 0) (.agg #[.slice none 0 0, .slice none 0 0]) (by kernel_rfl) rfl rfl (by kernel_rfl) (by kernel_rfl) (by kernel_rfl) (by kernel_rfl) (by kernel_rfl) ?_
      refine s_val (.bool false) (by kernel_rfl) (fun _ => by kernel_rfl) ?_
      refine s_nil ?_
      refine fin_seq ?_
      refine ok_ret ?_
      refine fin_seq_ret ?_
      refine fin_cell2 0 ⟨b1, #[.slice none 0 0, .slice none 0 0], 24⟩ (off := 0) (.agg #[.slice none 0 0, .slice none 0 0]) (.bool false) Tryz.results12 (by kernel_rfl) (by kernel_rfl) (by kernel_rfl) (by kernel_rfl) ?_
      exact fun w hO => ⟨_, [], by first | rfl | (simp [h1, h2]; done), by rw [if_neg (by simp [h1, h2])]; exact SetO.none, own_nil hO⟩
  | false =>
    refine s_val (.bool true) (by kernel_rfl) (fun _ => by kernel_rfl) ?_
    refine s_val (.bool true) (by kernel_rfl) (fun _ => by kernel_rfl) ?_
    refine s_skip (by kernel_rfl) ?_
    refine s_skip (by kernel_rfl) ?_
    refine s_skip (by kernel_rfl) ?_
    refine s_val (.bool true) (by kernel_rfl) (fun _ => by kernel_rfl) ?_
    refine s_nil ?_
    refine fin_seq ?_
    refine ok_true (by kernel_rfl) ?_
    refine ok_seq ?_
    refine ok_region ?_
    refine s_call (k := 37) (args := #[]) (.agg #[.slice none 0 0, .slice none 0 0]) (by kernel_rfl) (fun _ => by kernel_rfl) (fun w _ => sNone_any w) ?_
    refine s_store_at 0 ⟨b1, #[.slice none 0 0, .slice none 0 0], 24⟩ (off := 0) (.agg #[.slice none 0 0, .slice none 0 0]) (by kernel_rfl) rfl rfl (by kernel_rfl) (by kernel_rfl) (by kernel_rfl) (by kernel_rfl) (by kernel_rfl) ?_
    refine s_val (.bool false) (by kernel_rfl) (fun _ => by kernel_rfl) ?_
    refine s_nil ?_
    refine fin_seq ?_
    refine ok_ret ?_
    refine fin_seq_ret ?_
    refine fin_cell2 0 ⟨b1, #[.slice none 0 0, .slice none 0 0], 24⟩ (off := 0) (.agg #[.slice none 0 0, .slice none 0 0]) (.bool false) Tryz.results12 (by kernel_rfl) (by kernel_rfl) (by kernel_rfl) (by kernel_rfl) ?_
    exact fun w hO => ⟨_, [], by first | rfl | (simp [h1]; done), by rw [if_neg (by simp [h1])]; exact SetO.none, own_nil hO⟩
end Go.Proofs.YtgeccfdofmnphaaGreat
end

section
/-
  Package set's Exact: what it returns for any version whose strings have at most a million bytes; nothing that was there is changed.
-/
namespace Go.Proofs.YtgeccfdofmnphaaGreat
open Go.RowKit
set_option maxRecDepth 100000
set_option linter.unusedVariables false
set_option linter.unusedSimpArgs false
set_option maxHeartbeats 2000000

theorem own_ex5 {M : List Nat} {W w : World} {x l y z : Blk} {A : List Blk} (h : Own M W w (A ++ (x :: l :: y :: z :: []))) : Own M W w (x :: y :: A) :=
  (h.sublist ((List.Sublist.refl A).append (List.Sublist.cons_cons x (List.Sublist.cons l (List.Sublist.cons_cons y (List.nil_sublist [z])))))).perm (List.perm_append_comm (l₁ := A) (l₂ := [x, y]))
theorem reads_nil (w : World) (n : Nat) : Reads spanC w n none ([] : List Sp) := fun h0 => absurd h0 (Nat.lt_irrefl 0)
theorem short_nil : ShortL [] := fun s hs => by simp at hs
theorem one_short {v : Ver} (h : v.short) : ShortL (onePre v) := fun s hs => by
  rw [List.mem_singleton.1 hs]; exact ⟨core_short h, core_short h⟩
theorem makeRel_nil : makeRel [] = [] := by
  unfold makeRel
  exact make_self rfl
theorem makeRel_one {v : Ver} (hv : v.may = true) (hp : v.pre = []) : makeRel (onePre v) = oneRel v := by
  have e : (onePre v).map turnS = oneRel v := by
    show [Sp.mk (turnC ⟨0, coreV v, false⟩) (turnC ⟨0, coreV v, true⟩)] = [⟨relA v, relB v⟩]
    have h1 : turnC ⟨0, coreV v, false⟩ = relA v := by
      unfold turnC
      rw [if_neg (by simp), if_neg (by simp)]; rfl
    have h2 : turnC ⟨0, coreV v, true⟩ = relB v := by
      unfold turnC
      rw [if_neg (by simp), if_pos ⟨rfl, hp⟩]; rfl
    rw [h1, h2]
  have h := (oneRel_ok hv).1
  unfold makeRel
  rw [e, List.filter_eq_self.2 (fun s hs => row_mem h s hs), make_self h]
theorem exact_make1 {v : Ver} (hv : v.may = true) (hp : v.pre = []) : (if rowMay (onePre v) && rowMay [] then (⟨makeRel (onePre v), []⟩ : St) else noneT) = exactT v := by
  rw [if_pos (by rw [(onePre_ok hv).1]; rfl), makeRel_one hv hp]
  unfold exactT
  rw [if_pos hv, if_pos hp]
theorem exact_make2 {v : Ver} (hv : v.may = true) (hp : ¬ v.pre = []) : (if rowMay [] && rowMay (onePre v) then (⟨makeRel [], onePre v⟩ : St) else noneT) = exactT v := by
  rw [if_pos (by rw [(onePre_ok hv).1]; rfl), makeRel_nil]
  unfold exactT
  rw [if_pos hv, if_neg hp]
theorem sExact_any (v : Ver) (W : World) (hv : v.short) : Calls Tryz.prog 19 #[verV v] W fun e w' => ∃ v' ob', e = .returned v' ∧ SetO v' (exactT v) ob' ∧ Own [] W w' ob' := by
  refine calls_ok (n := 31) Tryz.func19 rfl (by kernel_rfl) (by kernel_rfl) ?_
  refine ok_seq ?_
  refine ok_region ?_
  refine s_box (verV v) (by kernel_rfl) rfl (by kernel_rfl) (fun b1 => ?_)
  refine s_alloc_at (.agg #[.slice none 0 0, .slice none 0 0]) (by kernel_rfl) rfl (by kernel_rfl) (fun b2 => ?_)
  refine s_nil ?_
  refine fin_seq ?_
  refine ok_seq ?_
  refine ok_seq ?_
  refine ok_region ?_
  refine s_load 1 ⟨b1, (verV v).cells, 26⟩ (off := 0) (verV v) (by kernel_rfl) rfl (by kernel_rfl) (by kernel_rfl) (by kernel_rfl) ?_
  refine s_call (k := 58) (args := #[verV v]) (.bool v.may) (by kernel_rfl) (fun _ => by kernel_rfl) (fun w _ => may_any v w (Nat.lt_of_le_of_lt hv.1 (by decide)) (Nat.lt_of_le_of_lt hv.2 (by decide))) ?_
  cases h1 : v.may with
  | true =>
    refine s_val (.bool false) (by kernel_rfl) (fun _ => by kernel_rfl) ?_
    refine s_nil ?_
    refine fin_seq ?_
    refine ok_false (by kernel_rfl) ?_
    refine ok_skip ?_
    refine fin_seq ?_
    refine ok_seq ?_
    refine ok_region ?_
    refine s_load 1 ⟨b1, (verV v).cells, 26⟩ (off := 0) (verV v) (by kernel_rfl) rfl (by kernel_rfl) (by kernel_rfl) (by kernel_rfl) ?_
    refine s_call (k := 59) (args := #[verV v]) (verV (coreV v)) (by kernel_rfl) (fun _ => by kernel_rfl) (fun w _ => core_any v w hv.1) ?_
    refine s_store_at 1 ⟨b1, (verV v).cells, 26⟩ (off := 0) (verV (coreV v)) (by kernel_rfl) rfl rfl (by kernel_rfl) (by kernel_rfl) (by kernel_rfl) (by kernel_rfl) (by kernel_rfl) ?_
    refine s_nil ?_
    refine fin_seq ?_
    refine ok_seq ?_
    refine ok_region ?_
    refine s_load 1 ⟨b1, (verV (coreV v)).cells, 26⟩ (off := 0) (verV (coreV v)) (by kernel_rfl) rfl (by kernel_rfl) (by kernel_rfl) (by kernel_rfl) ?_
    refine s_val (.agg #[.int .i64 0, .int .i64 ((coreV v).maj), .int .i64 ((coreV v).min), .int .i64 ((coreV v).pat), .string (mkS (coreV v).pre), .string (mkS (coreV v).build), .bool false]) (by kernel_rfl) (fun _ => by kernel_rfl) ?_
    refine s_load 1 ⟨b1, (verV (coreV v)).cells, 26⟩ (off := 0) (verV (coreV v)) (by kernel_rfl) rfl (by kernel_rfl) (by kernel_rfl) (by kernel_rfl) ?_
    refine s_val (.agg #[.int .i64 0, .int .i64 ((coreV v).maj), .int .i64 ((coreV v).min), .int .i64 ((coreV v).pat), .string (mkS (coreV v).pre), .string (mkS (coreV v).build), .bool true]) (by kernel_rfl) (fun _ => by kernel_rfl) ?_
    refine s_val (.agg #[.int .i64 0, .int .i64 ((coreV v).maj), .int .i64 ((coreV v).min), .int .i64 ((coreV v).pat), .string (mkS (coreV v).pre), .string (mkS (coreV v).build), .bool false, .int .i64 0, .int .i64 ((coreV v).maj), .int .i64 ((coreV v).min), .int .i64 ((coreV v).pat), .string (mkS (coreV v).pre), .string (mkS (coreV v).build), .bool true]) (by kernel_rfl) (fun _ => by kernel_rfl) ?_
    refine s_lit 50 #[.int .i64 0, .int .i64 ((coreV v).maj), .int .i64 ((coreV v).min), .int .i64 ((coreV v).pat), .string (mkS (coreV v).pre), .string (mkS (coreV v).build), .bool false, .int .i64 0, .int .i64 ((coreV v).maj), .int .i64 ((coreV v).min), .int .i64 ((coreV v).pat), .string (mkS (coreV v).pre), .string (mkS (coreV v).build), .bool true] (by kernel_rfl) rfl (fun _ => by kernel_rfl) (fun b3 => ?_)
    refine s_val (.slice (some ⟨b3, 0, none⟩) 1 1) (by kernel_rfl) (fun _ => by kernel_rfl) ?_
    refine s_nil ?_
    refine fin_seq ?_
    refine ok_seq ?_
    refine ok_region ?_
    refine s_alloc_at (.agg #[.slice none 0 0, .slice none 0 0]) (by kernel_rfl) rfl (by kernel_rfl) (fun b4 => ?_)
    refine s_nil ?_
    refine fin_seq ?_
    refine ok_seq ?_
    refine ok_seq ?_
    refine ok_region ?_
    refine s_val (.pointer (some ⟨b1, 3, none⟩)) (by kernel_rfl) (fun _ => by kernel_rfl) ?_
    refine s_load 3 ⟨b1, (verV (coreV v)).cells, 26⟩ (off := 3) (.string (mkS (coreV v).pre)) (by kernel_rfl) rfl (by kernel_rfl) (by kernel_rfl) (by kernel_rfl) ?_
    by_cases h2 : ((coreV v).pre : List UInt8) = []
    · skip
      refine s_val (.bool true) (by kernel_rfl) (run_streql (a := ((coreV v).pre)) (b := ([])) rfl (by kernel_rfl) (by kernel_rfl) (decide_eq_true (h2))) ?_
      refine s_nil ?_
      refine fin_seq ?_
      refine ok_true (by kernel_rfl) ?_
      refine ok_region ?_
      refine s_val (.slice (some ⟨b3, 0, none⟩) 1 1) (by kernel_rfl) (fun _ => by kernel_rfl) ?_
      refine s_callo (k := 12) (args := #[.slice (some ⟨b3, 0, none⟩) 1 1, .slice none 0 0]) (fun v' L' => ∃ mv ob', v' = .tuple #[mv, .bool (rowMay (onePre v) && rowMay [])] ∧ L' = ob' ++ (⟨b4, #[.slice none 0 0, .slice none 0 0], 24⟩ :: ⟨b3, #[.int .i64 0, .int .i64 ((coreV v).maj), .int .i64 ((coreV v).min), .int .i64 ((coreV v).pat), .string (mkS (coreV v).pre), .string (mkS (coreV v).build), .bool false, .int .i64 0, .int .i64 ((coreV v).maj), .int .i64 ((coreV v).min), .int .i64 ((coreV v).pat), .string (mkS (coreV v).pre), .string (mkS (coreV v).build), .bool true], 50⟩ :: ⟨b2, #[.slice none 0 0, .slice none 0 0], 24⟩ :: ⟨b1, (verV (coreV v)).cells, 26⟩ :: []) ∧ SetO mv (exactT v) ob') (by kernel_rfl) (fun _ => by kernel_rfl) (fun w hO => (sMake_any (some ⟨b3, 0, none⟩) none 1 0 (onePre v) [] w (Sl.reads (sls_lit ⟨⟨0, coreV v, false⟩, ⟨0, coreV v, true⟩⟩ b3 #[.int .i64 0, .int .i64 ((coreV v).maj), .int .i64 ((coreV v).min), .int .i64 ((coreV v).pat), .string (mkS (coreV v).pre), .string (mkS (coreV v).build), .bool false, .int .i64 0, .int .i64 ((coreV v).maj), .int .i64 ((coreV v).min), .int .i64 ((coreV v).pat), .string (mkS (coreV v).pre), .string (mkS (coreV v).build), .bool true] (by kernel_rfl)) rfl hO (fun x hx => by rw [List.mem_singleton.1 hx]; exact List.mem_cons_of_mem _ List.mem_cons_self)) (reads_nil _ _) (by show 1 ≤ _; decide) (Nat.zero_le _) (one_short hv) short_nil (Nat.le_refl 1) (Nat.le_refl 0)).mono fun e w' ⟨v', ob', k1, k2, k3⟩ => ⟨_, _, k1, ⟨v', ob', rfl, rfl, by rw [exact_make1 h1 h2] at k2; exact k2⟩, Own.joinN hO k3⟩) (fun tv L1 hv1 => ?_)
      obtain ⟨v1, o1, rfl, rfl, hr1⟩ := hv1
      obtain ⟨V1, U1, c1, d1, rfl⟩ := hr1.form
      refine s_take (L' := ⟨b4, #[.slice none 0 0, .slice none 0 0], 24⟩ :: ⟨b2, #[.slice none 0 0, .slice none 0 0], 24⟩ :: o1) (fun w hO => own_ex5 hO) ?_
      refine s_val (.tuple #[.agg #[.slice V1 ((exactT v).rel.length) c1, .slice U1 ((exactT v).pre.length) d1], .bool (rowMay (onePre v) && rowMay [])]) (by kernel_rfl) (fun _ => by kernel_rfl) ?_
      refine s_val (.agg #[.slice V1 ((exactT v).rel.length) c1, .slice U1 ((exactT v).pre.length) d1]) (by kernel_rfl) (fun _ => by kernel_rfl) ?_
      refine s_val (.bool (rowMay (onePre v) && rowMay [])) (by kernel_rfl) (fun _ => by kernel_rfl) ?_
      refine s_store_at 0 ⟨b4, #[.slice none 0 0, .slice none 0 0], 24⟩ (off := 0) (.agg #[.slice V1 ((exactT v).rel.length) c1, .slice U1 ((exactT v).pre.length) d1]) (by kernel_rfl) rfl rfl (by kernel_rfl) (by kernel_rfl) (by kernel_rfl) (by kernel_rfl) (by kernel_rfl) ?_
      refine s_nil ?_
      refine fin_seq ?_
      refine ok_seq ?_
      refine ok_region ?_
      refine s_load 0 ⟨b4, #[.slice V1 ((exactT v).rel.length) c1, .slice U1 ((exactT v).pre.length) d1], 24⟩ (off := 0) (.agg #[.slice V1 ((exactT v).rel.length) c1, .slice U1 ((exactT v).pre.length) d1]) (by kernel_rfl) rfl (by kernel_rfl) (by kernel_rfl) (by kernel_rfl) ?_
      refine s_store_at 1 ⟨b2, #[.slice none 0 0, .slice none 0 0], 24⟩ (off := 0) (.agg #[.slice V1 ((exactT v).rel.length) c1, .slice U1 ((exactT v).pre.length) d1]) (by kernel_rfl) rfl rfl (by kernel_rfl) (by kernel_rfl) (by kernel_rfl) (by kernel_rfl) (by kernel_rfl) ?_
      refine s_nil ?_
      refine fin_seq ?_
      refine ok_ret ?_
      refine fin_cell 1 ⟨b2, #[.slice V1 ((exactT v).rel.length) c1, .slice U1 ((exactT v).pre.length) d1], 24⟩ (off := 0) (.agg #[.slice V1 ((exactT v).rel.length) c1, .slice U1 ((exactT v).pre.length) d1]) Tryz.results19 (by kernel_rfl) (by kernel_rfl) (by kernel_rfl) ?_
      exact fun w hO => ⟨_, o1, rfl, hr1, own_tl (own_tl hO)⟩
    · skip
      refine s_val (.bool false) (by kernel_rfl) (run_streql (a := ((coreV v).pre)) (b := ([])) rfl (by kernel_rfl) (by kernel_rfl) (decide_eq_false (h2))) ?_
      refine s_nil ?_
      refine fin_seq ?_
      refine ok_false (by kernel_rfl) ?_
      refine ok_region ?_
      refine s_val (.slice (some ⟨b3, 0, none⟩) 1 1) (by kernel_rfl) (fun _ => by kernel_rfl) ?_
      refine s_callo (k := 12) (args := #[.slice none 0 0, .slice (some ⟨b3, 0, none⟩) 1 1]) (fun v' L' => ∃ mv ob', v' = .tuple #[mv, .bool (rowMay [] && rowMay (onePre v))] ∧ L' = ob' ++ (⟨b4, #[.slice none 0 0, .slice none 0 0], 24⟩ :: ⟨b3, #[.int .i64 0, .int .i64 ((coreV v).maj), .int .i64 ((coreV v).min), .int .i64 ((coreV v).pat), .string (mkS (coreV v).pre), .string (mkS (coreV v).build), .bool false, .int .i64 0, .int .i64 ((coreV v).maj), .int .i64 ((coreV v).min), .int .i64 ((coreV v).pat), .string (mkS (coreV v).pre), .string (mkS (coreV v).build), .bool true], 50⟩ :: ⟨b2, #[.slice none 0 0, .slice none 0 0], 24⟩ :: ⟨b1, (verV (coreV v)).cells, 26⟩ :: []) ∧ SetO mv (exactT v) ob') (by kernel_rfl) (fun _ => by kernel_rfl) (fun w hO => (sMake_any none (some ⟨b3, 0, none⟩) 0 1 [] (onePre v) w (reads_nil _ _) (Sl.reads (sls_lit ⟨⟨0, coreV v, false⟩, ⟨0, coreV v, true⟩⟩ b3 #[.int .i64 0, .int .i64 ((coreV v).maj), .int .i64 ((coreV v).min), .int .i64 ((coreV v).pat), .string (mkS (coreV v).pre), .string (mkS (coreV v).build), .bool false, .int .i64 0, .int .i64 ((coreV v).maj), .int .i64 ((coreV v).min), .int .i64 ((coreV v).pat), .string (mkS (coreV v).pre), .string (mkS (coreV v).build), .bool true] (by kernel_rfl)) rfl hO (fun x hx => by rw [List.mem_singleton.1 hx]; exact List.mem_cons_of_mem _ List.mem_cons_self)) (Nat.zero_le _) (by show 1 ≤ _; decide) short_nil (one_short hv) (Nat.le_refl 0) (Nat.le_refl 1)).mono fun e w' ⟨v', ob', k1, k2, k3⟩ => ⟨_, _, k1, ⟨v', ob', rfl, rfl, by rw [exact_make2 h1 h2] at k2; exact k2⟩, Own.joinN hO k3⟩) (fun tv L1 hv1 => ?_)
      obtain ⟨v1, o1, rfl, rfl, hr1⟩ := hv1
      obtain ⟨V1, U1, c1, d1, rfl⟩ := hr1.form
      refine s_take (L' := ⟨b4, #[.slice none 0 0, .slice none 0 0], 24⟩ :: ⟨b2, #[.slice none 0 0, .slice none 0 0], 24⟩ :: o1) (fun w hO => own_ex5 hO) ?_
      refine s_val (.tuple #[.agg #[.slice V1 ((exactT v).rel.length) c1, .slice U1 ((exactT v).pre.length) d1], .bool (rowMay [] && rowMay (onePre v))]) (by kernel_rfl) (fun _ => by kernel_rfl) ?_
      refine s_val (.agg #[.slice V1 ((exactT v).rel.length) c1, .slice U1 ((exactT v).pre.length) d1]) (by kernel_rfl) (fun _ => by kernel_rfl) ?_
      refine s_val (.bool (rowMay [] && rowMay (onePre v))) (by kernel_rfl) (fun _ => by kernel_rfl) ?_
      refine s_store_at 0 ⟨b4, #[.slice none 0 0, .slice none 0 0], 24⟩ (off := 0) (.agg #[.slice V1 ((exactT v).rel.length) c1, .slice U1 ((exactT v).pre.length) d1]) (by kernel_rfl) rfl rfl (by kernel_rfl) (by kernel_rfl) (by kernel_rfl) (by kernel_rfl) (by kernel_rfl) ?_
      refine s_nil ?_
      refine fin_seq ?_
      refine ok_seq ?_
      refine ok_region ?_
      refine s_load 0 ⟨b4, #[.slice V1 ((exactT v).rel.length) c1, .slice U1 ((exactT v).pre.length) d1], 24⟩ (off := 0) (.agg #[.slice V1 ((exactT v).rel.length) c1, .slice U1 ((exactT v).pre.length) d1]) (by kernel_rfl) rfl (by kernel_rfl) (by kernel_rfl) (by kernel_rfl) ?_
      refine s_store_at 1 ⟨b2, #[.slice none 0 0, .slice none 0 0], 24⟩ (off := 0) (.agg #[.slice V1 ((exactT v).rel.length) c1, .slice U1 ((exactT v).pre.length) d1]) (by kernel_rfl) rfl rfl (by kernel_rfl) (by kernel_rfl) (by kernel_rfl) (by kernel_rfl) (by kernel_rfl) ?_
      refine s_nil ?_
      refine fin_seq ?_
      refine ok_ret ?_
      refine fin_cell 1 ⟨b2, #[.slice V1 ((exactT v).rel.length) c1, .slice U1 ((exactT v).pre.length) d1], 24⟩ (off := 0) (.agg #[.slice V1 ((exactT v).rel.length) c1, .slice U1 ((exactT v).pre.length) d1]) Tryz.results19 (by kernel_rfl) (by kernel_rfl) (by kernel_rfl) ?_
      exact fun w hO => ⟨_, o1, rfl, hr1, own_tl (own_tl hO)⟩
  | false =>
    refine s_val (.bool true) (by kernel_rfl) (fun _ => by kernel_rfl) ?_
    refine s_nil ?_
    refine fin_seq ?_
    refine ok_true (by kernel_rfl) ?_
    refine ok_seq ?_
    refine ok_region ?_
    refine s_call (k := 37) (args := #[]) (.agg #[.slice none 0 0, .slice none 0 0]) (by kernel_rfl) (fun _ => by kernel_rfl) (fun w _ => sNone_any w) ?_
    refine s_store_at 0 ⟨b2, #[.slice none 0 0, .slice none 0 0], 24⟩ (off := 0) (.agg #[.slice none 0 0, .slice none 0 0]) (by kernel_rfl) rfl rfl (by kernel_rfl) (by kernel_rfl) (by kernel_rfl) (by kernel_rfl) (by kernel_rfl) ?_
    refine s_nil ?_
    refine fin_seq ?_
    refine ok_ret ?_
    refine fin_seq_ret ?_
    refine fin_cell 0 ⟨b2, #[.slice none 0 0, .slice none 0 0], 24⟩ (off := 0) (.agg #[.slice none 0 0, .slice none 0 0]) Tryz.results19 (by kernel_rfl) (by kernel_rfl) (by kernel_rfl) ?_
    exact fun w hO => ⟨_, [], rfl, by unfold exactT; rw [if_neg (by simp [h1])]; exact SetO.none, own_nil hO⟩
end Go.Proofs.YtgeccfdofmnphaaGreat
end

section
/-
  linchpinlaw0.Set: the set that the list's numbers name. Conditions: a list that can be read, i at most 50000.
-/
namespace Go.Proofs.YtgeccfdofmnphaaGreat
open Go.RowKit
set_option maxRecDepth 100000
set_option linter.unusedVariables false
set_option linter.unusedSimpArgs false
set_option maxHeartbeats 2000000

def setG (l : List Int) (i : Nat) : St := ⟨makeRel (rowG l i), rowG l (i + 49)⟩
theorem makeRel_rf {l : List Sp} {n : Nat} (h : l.length ≤ n) : RF (makeRel l) (2 + 2 * n) := RF.make (makeRel_mays l) (Nat.le_trans (List.length_filter_le _ _) (by rw [List.length_map]; exact h))
end Go.Proofs.YtgeccfdofmnphaaGreat
end

section
/-
  Sets: what the laws over them lean on. No condition.
-/
namespace Go.Proofs.YtgeccfdofmnphaaGreat
open Go.RowKit
set_option maxRecDepth 100000
set_option linter.unusedVariables false
set_option linter.unusedSimpArgs false
set_option maxHeartbeats 2000000

instance : DecidableEq St := fun a b => decidable_of_iff (a.rel = b.rel ∧ a.pre = b.pre) ⟨fun h => St.eq h.1 h.2, fun h => by rw [h]; exact ⟨rfl, rfl⟩⟩
theorem apart_b {a b : St} {n m : Nat} (ha : SF a n) (hb : SF b m) : (a.may && b.may && decide ((andT a b).rel = []) && decide ((andT a b).pre = [])) = decide (andT a b = noneT) := by
  rw [ha.may, hb.may, Bool.true_and, Bool.true_and, ← Bool.decide_and]; exact decide_eq_decide.2 ⟨fun h => St.eq h.1 h.2, fun h => by rw [h]; exact ⟨rfl, rfl⟩⟩
theorem same_b (a b : St) : (decide (a.rel = b.rel) && decide (a.pre = b.pre)) = decide (a = b) := by
  rw [← Bool.decide_and]; exact decide_eq_decide.2 ⟨fun h => St.eq h.1 h.2, fun h => by rw [h]; exact ⟨rfl, rfl⟩⟩
end Go.Proofs.YtgeccfdofmnphaaGreat
end

section
/-
  linchpinlaw5's awake: it returns true; nothing that was there is changed.
-/
namespace Go.Proofs.YtgeccfdofmnphaaGreat
open Go.RowKit
set_option maxRecDepth 100000
set_option linter.unusedVariables false
set_option linter.unusedSimpArgs false
set_option maxHeartbeats 2000000

def aV5 : Ver := ⟨1, 0, 0, [], []⟩
def aP5 : Ver := ⟨1, 0, 0, [97], []⟩
theorem aV5_may : aV5.may = true := by decide +kernel
theorem aP5_may : aP5.may = true := by decide +kernel
theorem aV5_short : aV5.short := ⟨by decide, by decide⟩
theorem aP5_short : aP5.short := ⟨by decide, by decide⟩
theorem aC00 : cmpR aV5 aV5 = 0 := by decide +kernel
theorem aC11 : cmpR aP5 aP5 = 0 := by decide +kernel
theorem aC01 : ¬ cmpR aV5 aP5 = 0 := by decide +kernel
theorem aH00 : setHas (exactT aV5) aV5 = true := (exact_has aV5_may aV5_may).trans (decide_eq_true aC00)
theorem aH01 : setHas (exactT aV5) aP5 = false := (exact_has aV5_may aP5_may).trans (decide_eq_false aC01)
theorem aH11 : setHas (exactT aP5) aP5 = true := (exact_has aP5_may aP5_may).trans (decide_eq_true aC11)
theorem aA01 : andT (exactT aV5) (exactT aP5) = noneT := (exact_apart aV5_may aP5_may).2 aC01
theorem awake5_any (W : World) : Calls Tryz.prog 11 #[] W fun e w' => e = .returned (.bool true) ∧ Below W.heap.size W w' := by
  refine calls_ok (n := 39) Tryz.func11 rfl (by kernel_rfl) (by kernel_rfl) ?_
  refine ok_seq ?_
  refine ok_region ?_
  refine s_val (.bool false) (by kernel_rfl) (fun _ => by kernel_rfl) ?_
  refine s_nil ?_
  refine fin_seq ?_
  refine ok_seq ?_
  refine ok_region ?_
  refine s_val (.agg #[.int .i64 1, .int .i64 0, .int .i64 0, .string ⟨#[]⟩, .string ⟨#[]⟩]) (by kernel_rfl) (fun _ => by kernel_rfl) ?_
  refine s_val (.agg #[.int .i64 1, .int .i64 0, .int .i64 0, .string ⟨#[97]⟩, .string ⟨#[]⟩]) (by kernel_rfl) (fun _ => by kernel_rfl) ?_
  refine s_alloc_at (.agg #[.int .i64 0, .int .i64 0, .int .i64 0, .string ⟨#[]⟩, .string ⟨#[]⟩]) (by kernel_rfl) rfl (by kernel_rfl) (fun b1 => ?_)
  refine s_alloc_at (.agg #[.int .i64 0, .int .i64 0, .int .i64 0, .string ⟨#[]⟩, .string ⟨#[]⟩]) (by kernel_rfl) rfl (by kernel_rfl) (fun b2 => ?_)
  refine s_store_at 1 ⟨b1, #[.int .i64 0, .int .i64 0, .int .i64 0, .string ⟨#[]⟩, .string ⟨#[]⟩], 26⟩ (off := 0) (.agg #[.int .i64 1, .int .i64 0, .int .i64 0, .string ⟨#[]⟩, .string ⟨#[]⟩]) (by kernel_rfl) rfl rfl (by kernel_rfl) (by kernel_rfl) (by kernel_rfl) (by kernel_rfl) (by kernel_rfl) ?_
  refine s_store_at 0 ⟨b2, #[.int .i64 0, .int .i64 0, .int .i64 0, .string ⟨#[]⟩, .string ⟨#[]⟩], 26⟩ (off := 0) (.agg #[.int .i64 1, .int .i64 0, .int .i64 0, .string ⟨#[97]⟩, .string ⟨#[]⟩]) (by kernel_rfl) rfl rfl (by kernel_rfl) (by kernel_rfl) (by kernel_rfl) (by kernel_rfl) (by kernel_rfl) ?_
  refine s_nil ?_
  refine fin_seq ?_
  refine ok_seq ?_
  refine ok_region ?_
  refine s_load 1 ⟨b1, #[.int .i64 1, .int .i64 0, .int .i64 0, .string ⟨#[]⟩, .string ⟨#[]⟩], 26⟩ (off := 0) (.agg #[.int .i64 1, .int .i64 0, .int .i64 0, .string ⟨#[]⟩, .string ⟨#[]⟩]) (by kernel_rfl) rfl (by kernel_rfl) (by kernel_rfl) (by kernel_rfl) ?_
  refine s_callo (k := 19) (args := #[.agg #[.int .i64 1, .int .i64 0, .int .i64 0, .string ⟨#[]⟩, .string ⟨#[]⟩]]) (fun v' L' => ∃ ob', L' = ob' ++ ([⟨b2, #[.int .i64 1, .int .i64 0, .int .i64 0, .string ⟨#[97]⟩, .string ⟨#[]⟩], 26⟩, ⟨b1, #[.int .i64 1, .int .i64 0, .int .i64 0, .string ⟨#[]⟩, .string ⟨#[]⟩], 26⟩]) ∧ SetO v' (exactT aV5) ob') (by kernel_rfl) (fun _ => by kernel_rfl) (fun w hO => (sExact_any aV5 w aV5_short).mono fun e w' ⟨v', ob', k1, k2, k3⟩ => ⟨v', _, k1, ⟨ob', rfl, k2⟩, Own.joinN hO k3⟩) (fun v1 L1 hv1 => ?_)
  obtain ⟨o1, rfl, hr1⟩ := hv1
  obtain ⟨V1, U1, c1, d1, rfl⟩ := hr1.form
  refine s_alloc_at (.agg #[.slice none 0 0, .slice none 0 0]) (by kernel_rfl) rfl (by kernel_rfl) (fun b3 => ?_)
  refine s_store_at 0 ⟨b3, #[.slice none 0 0, .slice none 0 0], 24⟩ (off := 0) (.agg #[.slice V1 ((exactT aV5).rel.length) c1, .slice U1 ((exactT aV5).pre.length) d1]) (by kernel_rfl) rfl rfl (by kernel_rfl) (by kernel_rfl) (by kernel_rfl) (by kernel_rfl) (by kernel_rfl) ?_
  refine s_nil ?_
  refine fin_seq ?_
  refine ok_seq ?_
  refine ok_anyh (by kernel_rfl) ?_
  refine h_load 0 [] _ 0 ⟨b3, #[.slice V1 ((exactT aV5).rel.length) c1, .slice U1 ((exactT aV5).pre.length) d1], 24⟩ (off := 0) (.agg #[.slice V1 ((exactT aV5).rel.length) c1, .slice U1 ((exactT aV5).pre.length) d1]) rfl (by kernel_rfl) (by kernel_rfl) (by kernel_rfl) (pq_seq pq_body) (by kernel_rfl) rfl (by kernel_rfl) (by kernel_rfl) (by kernel_rfl) ?_
  refine h_loadm 1 [] _ ⟨b1, #[.int .i64 1, .int .i64 0, .int .i64 0, .string ⟨#[]⟩, .string ⟨#[]⟩], 26⟩ (off := 0) (.agg #[.int .i64 1, .int .i64 0, .int .i64 0, .string ⟨#[]⟩, .string ⟨#[]⟩]) rfl (by kernel_rfl) (by kernel_rfl) (by kernel_rfl) (pq_seq pq_body) (by kernel_rfl) rfl (by simp) (by kernel_rfl) (by kernel_rfl) ?_
  refine h_one 2 (by kernel_rfl) ?_
  refine hs_call [] _ (k := 16) (args := #[.agg #[.slice V1 ((exactT aV5).rel.length) c1, .slice U1 ((exactT aV5).pre.length) d1], .agg #[.int .i64 1, .int .i64 0, .int .i64 0, .string ⟨#[]⟩, .string ⟨#[]⟩]]) (.bool true) rfl (by kernel_rfl) (fun _ => by kernel_rfl) (fun w hO => ret_b (aH00) (sHas_any V1 U1 c1 d1 (exactT aV5) aV5 w (SetO.inn hr1 hO (fun x hx => by simp [hx]) (exact_sf aV5) (by decide)) aV5_short hr1.caps)) ?_
  refine h_take 3 [] _ (.bool true) rfl (by kernel_rfl) (by kernel_rfl) (by kernel_rfl) (pq_seq pq_body) (by kernel_rfl) (fun _ _ => by kernel_rfl) ?_
  refine h_load 4 [] _ 0 ⟨b3, #[.slice V1 ((exactT aV5).rel.length) c1, .slice U1 ((exactT aV5).pre.length) d1], 24⟩ (off := 0) (.agg #[.slice V1 ((exactT aV5).rel.length) c1, .slice U1 ((exactT aV5).pre.length) d1]) rfl (by kernel_rfl) (by kernel_rfl) (by kernel_rfl) (pq_seq pq_body) (by kernel_rfl) rfl (by kernel_rfl) (by kernel_rfl) (by kernel_rfl) ?_
  refine h_loadm 5 [] _ ⟨b2, #[.int .i64 1, .int .i64 0, .int .i64 0, .string ⟨#[97]⟩, .string ⟨#[]⟩], 26⟩ (off := 0) (.agg #[.int .i64 1, .int .i64 0, .int .i64 0, .string ⟨#[97]⟩, .string ⟨#[]⟩]) rfl (by kernel_rfl) (by kernel_rfl) (by kernel_rfl) (pq_seq pq_body) (by kernel_rfl) rfl (by simp) (by kernel_rfl) (by kernel_rfl) ?_
  refine h_one 6 (by kernel_rfl) ?_
  refine hs_call [] _ (k := 16) (args := #[.agg #[.slice V1 ((exactT aV5).rel.length) c1, .slice U1 ((exactT aV5).pre.length) d1], .agg #[.int .i64 1, .int .i64 0, .int .i64 0, .string ⟨#[97]⟩, .string ⟨#[]⟩]]) (.bool false) rfl (by kernel_rfl) (fun _ => by kernel_rfl) (fun w hO => ret_b (aH01) (sHas_any V1 U1 c1 d1 (exactT aV5) aP5 w (SetO.inn hr1 hO (fun x hx => by simp [hx]) (exact_sf aV5) (by decide)) aP5_short hr1.caps)) ?_
  refine h_take 7 [] _ (.bool true) rfl (by kernel_rfl) (by kernel_rfl) (by kernel_rfl) (pq_seq pq_body) (by kernel_rfl) (fun _ _ => by kernel_rfl) ?_
  refine h_take 8 [] _ (.bool true) rfl (by kernel_rfl) (by kernel_rfl) (by kernel_rfl) (pq_seq pq_body) (by kernel_rfl) (fun _ _ => by kernel_rfl) ?_
  refine h_take 9 [] _ (.bool true) rfl (by kernel_rfl) (by kernel_rfl) (by kernel_rfl) (pq_seq pq_body) (by kernel_rfl) (fun _ _ => by kernel_rfl) ?_
  refine h_loadm 10 [] _ ⟨b2, #[.int .i64 1, .int .i64 0, .int .i64 0, .string ⟨#[97]⟩, .string ⟨#[]⟩], 26⟩ (off := 0) (.agg #[.int .i64 1, .int .i64 0, .int .i64 0, .string ⟨#[97]⟩, .string ⟨#[]⟩]) rfl (by kernel_rfl) (by kernel_rfl) (by kernel_rfl) (pq_seq pq_body) (by kernel_rfl) rfl (by simp) (by kernel_rfl) (by kernel_rfl) ?_
  refine h_loadm 12 [] _ ⟨b2, #[.int .i64 1, .int .i64 0, .int .i64 0, .string ⟨#[97]⟩, .string ⟨#[]⟩], 26⟩ (off := 0) (.agg #[.int .i64 1, .int .i64 0, .int .i64 0, .string ⟨#[97]⟩, .string ⟨#[]⟩]) rfl (by kernel_rfl) (by kernel_rfl) (by kernel_rfl) (pq_seq pq_body) (by kernel_rfl) rfl (by simp) (by kernel_rfl) (by kernel_rfl) ?_
  refine h_one 11 (by kernel_rfl) ?_
  refine hl_callx _ (k := 19) (args := #[.agg #[.int .i64 1, .int .i64 0, .int .i64 0, .string ⟨#[97]⟩, .string ⟨#[]⟩]]) (fun v' L' => ∃ ob', L' = ob' ++ ([] ++ (⟨b3, #[.slice V1 ((exactT aV5).rel.length) c1, .slice U1 ((exactT aV5).pre.length) d1], 24⟩ :: (o1 ++ ([⟨b2, #[.int .i64 1, .int .i64 0, .int .i64 0, .string ⟨#[97]⟩, .string ⟨#[]⟩], 26⟩, ⟨b1, #[.int .i64 1, .int .i64 0, .int .i64 0, .string ⟨#[]⟩, .string ⟨#[]⟩], 26⟩])))) ∧ SetO v' (exactT aP5) ob') rfl (by kernel_rfl) (fun _ => by kernel_rfl) (fun w hO => (sExact_any aP5 w aP5_short).mono fun e w' ⟨v', ob', k1, k2, k3⟩ => ⟨v', _, k1, ⟨ob', rfl, k2⟩, Own.joinN hO k3⟩) (fun v' L' ⟨ob', e, _⟩ w hO => by subst e; exact Own.sub [] (Own.sub ob' hO)) (fun v2 L2 hv2 => ?_)
  obtain ⟨o2, rfl, hr2⟩ := hv2
  obtain ⟨V2, U2, c2, d2, rfl⟩ := hr2.form
  refine h_cast (L' := (o2 ++ ([] : List Blk)) ++ (⟨b3, #[.slice V1 ((exactT aV5).rel.length) c1, .slice U1 ((exactT aV5).pre.length) d1], 24⟩ :: (o1 ++ ([⟨b2, #[.int .i64 1, .int .i64 0, .int .i64 0, .string ⟨#[97]⟩, .string ⟨#[]⟩], 26⟩, ⟨b1, #[.int .i64 1, .int .i64 0, .int .i64 0, .string ⟨#[]⟩, .string ⟨#[]⟩], 26⟩])))) (List.append_assoc _ _ _).symm ?_
  refine h_one 13 (by kernel_rfl) ?_
  refine hs_call (o2 ++ ([] : List Blk)) _ (k := 16) (args := #[.agg #[.slice V2 ((exactT aP5).rel.length) c2, .slice U2 ((exactT aP5).pre.length) d2], .agg #[.int .i64 1, .int .i64 0, .int .i64 0, .string ⟨#[97]⟩, .string ⟨#[]⟩]]) (.bool true) rfl (by kernel_rfl) (fun _ => by kernel_rfl) (fun w hO => ret_b (aH11) (sHas_any V2 U2 c2 d2 (exactT aP5) aP5 w (SetO.inn hr2 hO (fun x hx => by simp [hx]) (exact_sf aP5) (by decide)) aP5_short hr2.caps)) ?_
  refine h_take 14 (o2 ++ ([] : List Blk)) _ (.bool true) rfl (by kernel_rfl) (by kernel_rfl) (by kernel_rfl) (pq_seq pq_body) (by kernel_rfl) (fun _ _ => by kernel_rfl) ?_
  refine h_take 15 (o2 ++ ([] : List Blk)) _ (.bool true) rfl (by kernel_rfl) (by kernel_rfl) (by kernel_rfl) (pq_seq pq_body) (by kernel_rfl) (fun _ _ => by kernel_rfl) ?_
  refine h_one 16 (by kernel_rfl) ?_
  refine hs_call (o2 ++ ([] : List Blk)) _ (k := 37) (args := #[]) (.agg #[.slice none 0 0, .slice none 0 0]) rfl (by kernel_rfl) (fun _ => by kernel_rfl) (fun w _ => sNone_any w) ?_
  refine h_one 17 (by kernel_rfl) ?_
  refine hl_callx _ (k := 25) (args := #[.agg #[.slice none 0 0, .slice none 0 0]]) (fun v' L' => ∃ ob', L' = ob' ++ ((o2 ++ ([] : List Blk)) ++ (⟨b3, #[.slice V1 ((exactT aV5).rel.length) c1, .slice U1 ((exactT aV5).pre.length) d1], 24⟩ :: (o1 ++ ([⟨b2, #[.int .i64 1, .int .i64 0, .int .i64 0, .string ⟨#[97]⟩, .string ⟨#[]⟩], 26⟩, ⟨b1, #[.int .i64 1, .int .i64 0, .int .i64 0, .string ⟨#[]⟩, .string ⟨#[]⟩], 26⟩])))) ∧ SetO v' (notT noneT) ob') rfl (by kernel_rfl) (fun _ => by kernel_rfl) (fun w hO => (sNot_any none none 0 0 noneT w (none_in _ _) ⟨Nat.le_refl 0, Nat.le_refl 0⟩).mono fun e w' ⟨v', ob', k1, k2, k3⟩ => ⟨v', _, k1, ⟨ob', rfl, by rw [if_pos (none_sf).may] at k2; exact k2⟩, Own.joinN hO k3⟩) (fun v' L' ⟨ob', e, _⟩ w hO => by subst e; exact Own.sub (o2 ++ ([] : List Blk)) (Own.sub ob' hO)) (fun v3 L2 hv2 => ?_)
  obtain ⟨o3, rfl, hr3⟩ := hv2
  obtain ⟨V3, U3, c3, d3, rfl⟩ := hr3.form
  refine h_cast (L' := (o3 ++ (o2 ++ ([] : List Blk))) ++ (⟨b3, #[.slice V1 ((exactT aV5).rel.length) c1, .slice U1 ((exactT aV5).pre.length) d1], 24⟩ :: (o1 ++ ([⟨b2, #[.int .i64 1, .int .i64 0, .int .i64 0, .string ⟨#[97]⟩, .string ⟨#[]⟩], 26⟩, ⟨b1, #[.int .i64 1, .int .i64 0, .int .i64 0, .string ⟨#[]⟩, .string ⟨#[]⟩], 26⟩])))) (List.append_assoc _ _ _).symm ?_
  refine h_one 18 (by kernel_rfl) ?_
  refine hl_callx _ (k := 36) (args := #[]) (fun v' L' => ∃ ob', L' = ob' ++ ((o3 ++ (o2 ++ ([] : List Blk))) ++ (⟨b3, #[.slice V1 ((exactT aV5).rel.length) c1, .slice U1 ((exactT aV5).pre.length) d1], 24⟩ :: (o1 ++ ([⟨b2, #[.int .i64 1, .int .i64 0, .int .i64 0, .string ⟨#[97]⟩, .string ⟨#[]⟩], 26⟩, ⟨b1, #[.int .i64 1, .int .i64 0, .int .i64 0, .string ⟨#[]⟩, .string ⟨#[]⟩], 26⟩])))) ∧ SetO v' (allT) ob') rfl (by kernel_rfl) (fun _ => by kernel_rfl) (fun w hO => (sAll_any w).mono fun e w' ⟨v', ob', k1, k2, k3⟩ => ⟨v', _, k1, ⟨ob', rfl, k2⟩, Own.joinN hO k3⟩) (fun v' L' ⟨ob', e, _⟩ w hO => by subst e; exact Own.sub (o3 ++ (o2 ++ ([] : List Blk))) (Own.sub ob' hO)) (fun v4 L2 hv2 => ?_)
  obtain ⟨o4, rfl, hr4⟩ := hv2
  obtain ⟨V4, U4, c4, d4, rfl⟩ := hr4.form
  refine h_cast (L' := (o4 ++ (o3 ++ (o2 ++ ([] : List Blk)))) ++ (⟨b3, #[.slice V1 ((exactT aV5).rel.length) c1, .slice U1 ((exactT aV5).pre.length) d1], 24⟩ :: (o1 ++ ([⟨b2, #[.int .i64 1, .int .i64 0, .int .i64 0, .string ⟨#[97]⟩, .string ⟨#[]⟩], 26⟩, ⟨b1, #[.int .i64 1, .int .i64 0, .int .i64 0, .string ⟨#[]⟩, .string ⟨#[]⟩], 26⟩])))) (List.append_assoc _ _ _).symm ?_
  refine h_one 19 (by kernel_rfl) ?_
  refine hs_call (o4 ++ (o3 ++ (o2 ++ ([] : List Blk)))) _ (k := 33) (args := #[.agg #[.slice V3 ((notT noneT).rel.length) c3, .slice U3 ((notT noneT).pre.length) d3], .agg #[.slice V4 ((allT).rel.length) c4, .slice U4 ((allT).pre.length) d4]]) (.bool true) rfl (by kernel_rfl) (fun _ => by kernel_rfl) (fun w hO => ret_b ((same_b _ _).trans (decide_eq_true (notT_none))) (sSame_any V3 U3 V4 U4 c3 d3 c4 d4 (notT noneT) allT w (SetO.inn hr3 hO (fun x hx => by simp [hx]) ((none_sf).not) (by decide)) (SetO.inn hr4 hO (fun x hx => by simp [hx]) (all_sf) (by decide)) hr3.caps hr4.caps)) ?_
  refine h_take 20 (o4 ++ (o3 ++ (o2 ++ ([] : List Blk)))) _ (.bool true) rfl (by kernel_rfl) (by kernel_rfl) (by kernel_rfl) (pq_seq pq_body) (by kernel_rfl) (fun _ _ => by kernel_rfl) ?_
  refine h_take 21 (o4 ++ (o3 ++ (o2 ++ ([] : List Blk)))) _ (.bool true) rfl (by kernel_rfl) (by kernel_rfl) (by kernel_rfl) (pq_seq pq_body) (by kernel_rfl) (fun _ _ => by kernel_rfl) ?_
  refine h_load 22 (o4 ++ (o3 ++ (o2 ++ ([] : List Blk)))) _ 0 ⟨b3, #[.slice V1 ((exactT aV5).rel.length) c1, .slice U1 ((exactT aV5).pre.length) d1], 24⟩ (off := 0) (.agg #[.slice V1 ((exactT aV5).rel.length) c1, .slice U1 ((exactT aV5).pre.length) d1]) rfl (by kernel_rfl) (by kernel_rfl) (by kernel_rfl) (pq_seq pq_body) (by kernel_rfl) rfl (by kernel_rfl) (by kernel_rfl) (by kernel_rfl) ?_
  refine h_loadm 23 (o4 ++ (o3 ++ (o2 ++ ([] : List Blk)))) _ ⟨b2, #[.int .i64 1, .int .i64 0, .int .i64 0, .string ⟨#[97]⟩, .string ⟨#[]⟩], 26⟩ (off := 0) (.agg #[.int .i64 1, .int .i64 0, .int .i64 0, .string ⟨#[97]⟩, .string ⟨#[]⟩]) rfl (by kernel_rfl) (by kernel_rfl) (by kernel_rfl) (pq_seq pq_body) (by kernel_rfl) rfl (by simp) (by kernel_rfl) (by kernel_rfl) ?_
  refine h_one 24 (by kernel_rfl) ?_
  refine hl_callx _ (k := 19) (args := #[.agg #[.int .i64 1, .int .i64 0, .int .i64 0, .string ⟨#[97]⟩, .string ⟨#[]⟩]]) (fun v' L' => ∃ ob', L' = ob' ++ ((o4 ++ (o3 ++ (o2 ++ ([] : List Blk)))) ++ (⟨b3, #[.slice V1 ((exactT aV5).rel.length) c1, .slice U1 ((exactT aV5).pre.length) d1], 24⟩ :: (o1 ++ ([⟨b2, #[.int .i64 1, .int .i64 0, .int .i64 0, .string ⟨#[97]⟩, .string ⟨#[]⟩], 26⟩, ⟨b1, #[.int .i64 1, .int .i64 0, .int .i64 0, .string ⟨#[]⟩, .string ⟨#[]⟩], 26⟩])))) ∧ SetO v' (exactT aP5) ob') rfl (by kernel_rfl) (fun _ => by kernel_rfl) (fun w hO => (sExact_any aP5 w aP5_short).mono fun e w' ⟨v', ob', k1, k2, k3⟩ => ⟨v', _, k1, ⟨ob', rfl, k2⟩, Own.joinN hO k3⟩) (fun v' L' ⟨ob', e, _⟩ w hO => by subst e; exact Own.sub (o4 ++ (o3 ++ (o2 ++ ([] : List Blk)))) (Own.sub ob' hO)) (fun v5 L2 hv2 => ?_)
  obtain ⟨o5, rfl, hr5⟩ := hv2
  obtain ⟨V5, U5, c5, d5, rfl⟩ := hr5.form
  refine h_cast (L' := (o5 ++ (o4 ++ (o3 ++ (o2 ++ ([] : List Blk))))) ++ (⟨b3, #[.slice V1 ((exactT aV5).rel.length) c1, .slice U1 ((exactT aV5).pre.length) d1], 24⟩ :: (o1 ++ ([⟨b2, #[.int .i64 1, .int .i64 0, .int .i64 0, .string ⟨#[97]⟩, .string ⟨#[]⟩], 26⟩, ⟨b1, #[.int .i64 1, .int .i64 0, .int .i64 0, .string ⟨#[]⟩, .string ⟨#[]⟩], 26⟩])))) (List.append_assoc _ _ _).symm ?_
  refine h_one 25 (by kernel_rfl) ?_
  refine hs_call (o5 ++ (o4 ++ (o3 ++ (o2 ++ ([] : List Blk))))) _ (k := 31) (args := #[.agg #[.slice V1 ((exactT aV5).rel.length) c1, .slice U1 ((exactT aV5).pre.length) d1], .agg #[.slice V5 ((exactT aP5).rel.length) c5, .slice U5 ((exactT aP5).pre.length) d5]]) (.bool true) rfl (by kernel_rfl) (fun _ => by kernel_rfl) (fun w hO => ret_b ((apart_b (exact_sf aV5) (exact_sf aP5)).trans (decide_eq_true (aA01))) (sApart_any V1 U1 V5 U5 c1 d1 c5 d5 (exactT aV5) (exactT aP5) w (SetO.inn hr1 hO (fun x hx => by simp [hx]) (exact_sf aV5) (by decide)) (SetO.inn hr5 hO (fun x hx => by simp [hx]) (exact_sf aP5) (by decide)) hr1.caps hr5.caps (Nat.le_trans (exact_sf aV5).rel.len (by decide)) (Nat.le_trans (exact_sf aV5).pre.len (by decide)) (Nat.le_trans (exact_sf aP5).rel.len (by decide)) (Nat.le_trans (exact_sf aP5).pre.len (by decide)))) ?_
  refine h_take 26 (o5 ++ (o4 ++ (o3 ++ (o2 ++ ([] : List Blk))))) _ (.bool true) rfl (by kernel_rfl) (by kernel_rfl) (by kernel_rfl) (pq_seq pq_body) (by kernel_rfl) (fun _ _ => by kernel_rfl) ?_
  refine h_take 27 (o5 ++ (o4 ++ (o3 ++ (o2 ++ ([] : List Blk))))) _ (.bool true) rfl (by kernel_rfl) (by kernel_rfl) (by kernel_rfl) (pq_seq pq_body) (by kernel_rfl) (fun _ _ => by kernel_rfl) ?_
  refine h_load 28 (o5 ++ (o4 ++ (o3 ++ (o2 ++ ([] : List Blk))))) _ 0 ⟨b3, #[.slice V1 ((exactT aV5).rel.length) c1, .slice U1 ((exactT aV5).pre.length) d1], 24⟩ (off := 0) (.agg #[.slice V1 ((exactT aV5).rel.length) c1, .slice U1 ((exactT aV5).pre.length) d1]) rfl (by kernel_rfl) (by kernel_rfl) (by kernel_rfl) (pq_seq pq_body) (by kernel_rfl) rfl (by kernel_rfl) (by kernel_rfl) (by kernel_rfl) ?_
  refine h_one 29 (by kernel_rfl) ?_
  refine hs_call (o5 ++ (o4 ++ (o3 ++ (o2 ++ ([] : List Blk))))) _ (k := 14) (args := #[.agg #[.slice V1 ((exactT aV5).rel.length) c1, .slice U1 ((exactT aV5).pre.length) d1]]) (.bool true) rfl (by kernel_rfl) (fun _ => by kernel_rfl) (fun w hO => ret_b (exact_sf aV5).may (sMay_any V1 U1 c1 d1 (exactT aV5) w (SetO.inn hr1 hO (fun x hx => by simp [hx]) (exact_sf aV5) (by decide)) hr1.caps)) ?_
  refine h_take 30 (o5 ++ (o4 ++ (o3 ++ (o2 ++ ([] : List Blk))))) _ (.bool true) rfl (by kernel_rfl) (by kernel_rfl) (by kernel_rfl) (pq_seq pq_body) (by kernel_rfl) (fun _ _ => by kernel_rfl) ?_
  refine h_take 31 (o5 ++ (o4 ++ (o3 ++ (o2 ++ ([] : List Blk))))) _ (.bool true) rfl (by kernel_rfl) (by kernel_rfl) (by kernel_rfl) (pq_seq pq_body) (by kernel_rfl) (fun _ _ => by kernel_rfl) ?_
  refine h_drop (o5 ++ (o4 ++ (o3 ++ (o2 ++ ([] : List Blk))))) ?_
  refine h_done (by kernel_rfl) ?_
  refine fin_seq ?_
  refine ok_ret ?_
  refine fin_ret (.bool true) Tryz.results11 (by kernel_rfl) ?_
  exact fun w hO => ⟨rfl, hO.below⟩
end Go.Proofs.YtgeccfdofmnphaaGreat
end

section
/-
  linchpinlaw5: few: are the spans of a set at most eight a row with strings of at most 60 bytes; nothing that was there is changed.
-/
namespace Go.Proofs.YtgeccfdofmnphaaGreat
open Go.RowKit
set_option maxRecDepth 100000
set_option linter.unusedVariables false
set_option linter.unusedSimpArgs false
set_option maxHeartbeats 2000000


def part60 (s : Sp) : Bool := decide (s.lo.v.pre.length ≤ 60) && decide (s.lo.v.build.length ≤ 60) && decide (s.hi.v.pre.length ≤ 60) && decide (s.hi.v.build.length ≤ 60)
def partL (l : List Sp) : Bool := decide (l.length ≤ 8) && l.all part60
theorem part_short {l : List Sp} (h : partL l = true) : ShortL l ∧ l.length ≤ 8 := by
  unfold partL at h
  rw [Bool.and_eq_true, decide_eq_true_eq, List.all_eq_true] at h
  refine ⟨fun s hs => ?_, h.1⟩
  have := h.2 s hs
  unfold part60 at this
  simp only [Bool.and_eq_true, decide_eq_true_eq] at this
  exact ⟨⟨by omega, by omega⟩, ⟨by omega, by omega⟩⟩
theorem part_end {l : List Sp} {k : Nat} (hk : k ≤ 8) (hl : l.length ≤ k) (h : (l.take k).all part60 = true) : partL l = true := by
  unfold partL
  rw [List.take_of_length_le hl] at h
  rw [h, decide_eq_true (by omega)]; rfl
theorem part_long {l : List Sp} (h : ¬ l.length ≤ 8) : partL l = false := by unfold partL; rw [decide_eq_false h]; rfl
theorem part_bad {l : List Sp} {k : Nat} (hk : k < l.length) (h : part60 l[k] = false) : partL l = false := by
  unfold partL
  cases h2 : l.all part60 with
  | false => simp
  | true => rw [List.all_eq_true.1 h2 _ (List.getElem_mem hk)] at h; cases h
theorem part_step {l : List Sp} {k : Nat} (hk : k < l.length) (h : (l.take k).all part60 = true) (h2 : part60 l[k] = true) : (l.take (k + 1)).all part60 = true := by
  rw [List.take_succ_eq_append_getElem hk, List.all_append, h]
  simp [h2]
theorem part5_any (A : Option Addr) (cap : Nat) (l : List Sp) (W : World) (hv : Reads spanC W W.heap.size A l) :
    Calls Tryz.prog 41 #[.slice A l.length cap] W fun e w' => e = .returned (.bool (partL l)) ∧ Below W.heap.size W w' := by
  refine calls_ok (n := 56) Tryz.func41 rfl (by kernel_rfl) (by kernel_rfl) ?_
  refine ok_seq ?_
  refine ok_region ?_
  refine s_val (.bool false) (by kernel_rfl) (fun _ => by kernel_rfl) ?_
  refine s_nil ?_
  refine fin_seq ?_
  refine ok_seq ?_
  refine ok_seq ?_
  refine ok_region ?_
  refine s_val (.int .i64 0) (by kernel_rfl) (fun _ => by kernel_rfl) ?_
  refine s_nil ?_
  refine fin_seq ?_
  refine ok_block ?_
  refine ok_loop (fun L f m => ∃ (k : Nat) (j : Nat → Value), (k ≤ l.length ∧ k ≤ 8 ∧ (l.take k).all part60 = true) ∧ L = [] ∧ f = upds j [(0, .slice A l.length cap), (3, .int .i64 (k : Int))] ∧ m = l.length - k) (l.length - 0) ⟨0, _, ⟨Nat.zero_le _, Nat.zero_le _, by rw [List.take_zero]; rfl⟩, rfl, upds_self _ ⟨by kernel_rfl, by kernel_rfl, trivial⟩, rfl⟩ ?_
  rintro L f m ⟨k, j, hrel, rfl, rfl, rfl⟩
  have hkl := hrel.1; have hk8 := hrel.2.1
  refine ok_seq ?_
  refine ok_seq ?_
  refine ok_region ?_
  refine s_val (.int .i64 (k : Int)) (by kernel_rfl) (fun _ => by kernel_rfl) ?_
  refine s_val (.slice A l.length cap) (by kernel_rfl) (fun _ => by kernel_rfl) ?_
  refine s_val (.int .i64 (l.length : Int)) (by kernel_rfl) (fun _ => by kernel_rfl) ?_
  by_cases h1 : (k : Int) < (l.length : Int)
  · skip
    have hk : k < l.length := by omega
    obtain ⟨b, off, hA, hlt, hcell⟩ := hv (by omega)
    obtain ⟨s, hs⟩ : ∃ s, l[k] = s := ⟨_, rfl⟩
    have z0 : ((mkS s.lo.v.pre).size : Int) = s.lo.v.pre.length := by rw [mkS_sz]
    have z1 : ((mkS s.lo.v.build).size : Int) = s.lo.v.build.length := by rw [mkS_sz]
    have z2 : ((mkS s.hi.v.pre).size : Int) = s.hi.v.pre.length := by rw [mkS_sz]
    have z3 : ((mkS s.hi.v.build).size : Int) = s.hi.v.build.length := by rw [mkS_sz]
    refine s_dec (p := (k : Int) < (l.length : Int)) true (by kernel_rfl) (fun _ => by kernel_rfl) (decide_eq_true (h1)) ?_
    refine s_nil ?_
    refine fin_seq ?_
    refine ok_true (by kernel_rfl) ?_
    refine ok_skip ?_
    refine fin_seq ?_
    refine ok_seq ?_
    refine ok_block ?_
    refine ok_seq ?_
    refine ok_region ?_
    refine s_val (.int .i64 (k : Int)) (by kernel_rfl) (fun _ => by kernel_rfl) ?_
    by_cases h2 : (7 : Int) < (k : Int)
    · skip
      refine s_dec (p := (7 : Int) < (k : Int)) true (by kernel_rfl) (fun _ => by kernel_rfl) (decide_eq_true (h2)) ?_
      refine s_val (.bool true) (by kernel_rfl) (fun _ => by kernel_rfl) ?_
      refine s_skip (by kernel_rfl) ?_
      refine s_skip (by kernel_rfl) ?_
      refine s_skip (by kernel_rfl) ?_
      refine s_skip (by kernel_rfl) ?_
      refine s_skip (by kernel_rfl) ?_
      refine s_skip (by kernel_rfl) ?_
      refine s_skip (by kernel_rfl) ?_
      refine s_skip (by kernel_rfl) ?_
      refine s_skip (by kernel_rfl) ?_
      refine s_val (.bool true) (by kernel_rfl) (fun _ => by kernel_rfl) ?_
      refine s_val (.bool true) (by kernel_rfl) (fun _ => by kernel_rfl) ?_
      refine s_skip (by kernel_rfl) ?_
      refine s_skip (by kernel_rfl) ?_
      refine s_skip (by kernel_rfl) ?_
      refine s_skip (by kernel_rfl) ?_
      refine s_skip (by kernel_rfl) ?_
      refine s_skip (by kernel_rfl) ?_
      refine s_skip (by kernel_rfl) ?_
      refine s_skip (by kernel_rfl) ?_
      refine s_skip (by kernel_rfl) ?_
      refine s_val (.bool true) (by kernel_rfl) (fun _ => by kernel_rfl) ?_
      refine s_val (.bool true) (by kernel_rfl) (fun _ => by kernel_rfl) ?_
      refine s_skip (by kernel_rfl) ?_
      refine s_skip (by kernel_rfl) ?_
      refine s_skip (by kernel_rfl) ?_
      refine s_skip (by kernel_rfl) ?_
      refine s_skip (by kernel_rfl) ?_
      refine s_skip (by kernel_rfl) ?_
      refine s_skip (by kernel_rfl) ?_
      refine s_skip (by kernel_rfl) ?_
      refine s_skip (by kernel_rfl) ?_
      refine s_val (.bool true) (by kernel_rfl) (fun _ => by kernel_rfl) ?_
      refine s_val (.bool true) (by kernel_rfl) (fun _ => by kernel_rfl) ?_
      refine s_skip (by kernel_rfl) ?_
      refine s_skip (by kernel_rfl) ?_
      refine s_skip (by kernel_rfl) ?_
      refine s_skip (by kernel_rfl) ?_
      refine s_skip (by kernel_rfl) ?_
      refine s_skip (by kernel_rfl) ?_
      refine s_skip (by kernel_rfl) ?_
      refine s_skip (by kernel_rfl) ?_
      refine s_skip (by kernel_rfl) ?_
      refine s_val (.bool true) (by kernel_rfl) (fun _ => by kernel_rfl) ?_
      refine s_nil ?_
      refine fin_seq ?_
      refine ok_true (by kernel_rfl) ?_
      refine ok_seq ?_
      refine ok_region ?_
      refine s_val (.bool false) (by kernel_rfl) (fun _ => by kernel_rfl) ?_
      refine s_nil ?_
      refine fin_seq ?_
      refine ok_ret ?_
      refine fin_block_ret ?_
      refine fin_seq_ret ?_
      refine fin_round_ret ?_
      refine fin_block_ret ?_
      refine fin_seq_ret ?_
      refine fin_ret (.bool false) Tryz.results41 (by kernel_rfl) ?_
      exact fun w hO => ⟨by rw [part_long (by omega)], hO.below⟩
    · skip
      refine s_dec (p := (7 : Int) < (k : Int)) false (by kernel_rfl) (fun _ => by kernel_rfl) (decide_eq_false (h2)) ?_
      refine s_val (.bool false) (by kernel_rfl) (fun _ => by kernel_rfl) ?_
      refine s_val (.slice A l.length cap) (by kernel_rfl) (fun _ => by kernel_rfl) ?_
      refine s_val (.int .i64 (k : Int)) (by kernel_rfl) (fun _ => by kernel_rfl) ?_
      refine s_val (.pointer (some ⟨b, off + k * 14, none⟩)) (by kernel_rfl) (run_ixA (b := b) (off := off) (c := cap) (n := l.length) (k := .i64) (j := (k : Int)) (e := 50) (sz := 14) rfl (by kernel_rfl) hA (by kernel_rfl) (by kernel_rfl) (by kernel_rfl) (by omega) (by omega) (by omega)) ?_
      refine s_val (.pointer (some ⟨b, off + k * 14 + 0, none⟩)) (by kernel_rfl) (fun _ => by kernel_rfl) ?_
      refine s_val (.pointer (some ⟨b, off + k * 14 + 1, none⟩)) (by kernel_rfl) (fun _ => by kernel_rfl) ?_
      refine s_val (.pointer (some ⟨b, off + k * 14 + 4, none⟩)) (by kernel_rfl) (fun _ => by kernel_rfl) ?_
      refine s_old (.string (mkS s.lo.v.pre)) (a := ⟨b, off + k * 14 + 4, none⟩) (by kernel_rfl) rfl (by kernel_rfl) (fun w hO => elem_load spanC_len (fun j u h => (hO.below.cell (p := ⟨b, off + j, none⟩) hlt).trans (hcell j u h)) k 4 hk (by omega) _ (by rw [hs]; kernel_rfl)) ?_
      refine s_val (.int .i64 ((mkS s.lo.v.pre).size)) (by kernel_rfl) (fun _ => by kernel_rfl) ?_
      by_cases h3 : (60 : Int) < (mkS s.lo.v.pre).size
      · skip
        refine s_dec (p := (60 : Int) < (mkS s.lo.v.pre).size) true (by kernel_rfl) (fun _ => by kernel_rfl) (decide_eq_true (h3)) ?_
        refine s_val (.bool true) (by kernel_rfl) (fun _ => by kernel_rfl) ?_
        refine s_val (.bool true) (by kernel_rfl) (fun _ => by kernel_rfl) ?_
        refine s_skip (by kernel_rfl) ?_
        refine s_skip (by kernel_rfl) ?_
        refine s_skip (by kernel_rfl) ?_
        refine s_skip (by kernel_rfl) ?_
        refine s_skip (by kernel_rfl) ?_
        refine s_skip (by kernel_rfl) ?_
        refine s_skip (by kernel_rfl) ?_
        refine s_skip (by kernel_rfl) ?_
        refine s_skip (by kernel_rfl) ?_
        refine s_val (.bool true) (by kernel_rfl) (fun _ => by kernel_rfl) ?_
        refine s_val (.bool true) (by kernel_rfl) (fun _ => by kernel_rfl) ?_
        refine s_skip (by kernel_rfl) ?_
        refine s_skip (by kernel_rfl) ?_
        refine s_skip (by kernel_rfl) ?_
        refine s_skip (by kernel_rfl) ?_
        refine s_skip (by kernel_rfl) ?_
        refine s_skip (by kernel_rfl) ?_
        refine s_skip (by kernel_rfl) ?_
        refine s_skip (by kernel_rfl) ?_
        refine s_skip (by kernel_rfl) ?_
        refine s_val (.bool true) (by kernel_rfl) (fun _ => by kernel_rfl) ?_
        refine s_val (.bool true) (by kernel_rfl) (fun _ => by kernel_rfl) ?_
        refine s_skip (by kernel_rfl) ?_
        refine s_skip (by kernel_rfl) ?_
        refine s_skip (by kernel_rfl) ?_
        refine s_skip (by kernel_rfl) ?_
        refine s_skip (by kernel_rfl) ?_
        refine s_skip (by kernel_rfl) ?_
        refine s_skip (by kernel_rfl) ?_
        refine s_skip (by kernel_rfl) ?_
        refine s_skip (by kernel_rfl) ?_
        refine s_val (.bool true) (by kernel_rfl) (fun _ => by kernel_rfl) ?_
        refine s_nil ?_
        refine fin_seq ?_
        refine ok_true (by kernel_rfl) ?_
        refine ok_seq ?_
        refine ok_region ?_
        refine s_val (.bool false) (by kernel_rfl) (fun _ => by kernel_rfl) ?_
        refine s_nil ?_
        refine fin_seq ?_
        refine ok_ret ?_
        refine fin_block_ret ?_
        refine fin_seq_ret ?_
        refine fin_round_ret ?_
        refine fin_block_ret ?_
        refine fin_seq_ret ?_
        refine fin_ret (.bool false) Tryz.results41 (by kernel_rfl) ?_
        exact fun w hO => ⟨by rw [part_bad hk (by rw [hs]; unfold part60; simp; omega)], hO.below⟩
      · skip
        refine s_dec (p := (60 : Int) < (mkS s.lo.v.pre).size) false (by kernel_rfl) (fun _ => by kernel_rfl) (decide_eq_false (h3)) ?_
        refine s_val (.bool false) (by kernel_rfl) (fun _ => by kernel_rfl) ?_
        refine s_val (.bool false) (by kernel_rfl) (fun _ => by kernel_rfl) ?_
        refine s_val (.slice A l.length cap) (by kernel_rfl) (fun _ => by kernel_rfl) ?_
        refine s_val (.int .i64 (k : Int)) (by kernel_rfl) (fun _ => by kernel_rfl) ?_
        refine s_val (.pointer (some ⟨b, off + k * 14, none⟩)) (by kernel_rfl) (run_ixA (b := b) (off := off) (c := cap) (n := l.length) (k := .i64) (j := (k : Int)) (e := 50) (sz := 14) rfl (by kernel_rfl) hA (by kernel_rfl) (by kernel_rfl) (by kernel_rfl) (by omega) (by omega) (by omega)) ?_
        refine s_val (.pointer (some ⟨b, off + k * 14 + 0, none⟩)) (by kernel_rfl) (fun _ => by kernel_rfl) ?_
        refine s_val (.pointer (some ⟨b, off + k * 14 + 1, none⟩)) (by kernel_rfl) (fun _ => by kernel_rfl) ?_
        refine s_val (.pointer (some ⟨b, off + k * 14 + 5, none⟩)) (by kernel_rfl) (fun _ => by kernel_rfl) ?_
        refine s_old (.string (mkS s.lo.v.build)) (a := ⟨b, off + k * 14 + 5, none⟩) (by kernel_rfl) rfl (by kernel_rfl) (fun w hO => elem_load spanC_len (fun j u h => (hO.below.cell (p := ⟨b, off + j, none⟩) hlt).trans (hcell j u h)) k 5 hk (by omega) _ (by rw [hs]; kernel_rfl)) ?_
        refine s_val (.int .i64 ((mkS s.lo.v.build).size)) (by kernel_rfl) (fun _ => by kernel_rfl) ?_
        by_cases h4 : (60 : Int) < (mkS s.lo.v.build).size
        · skip
          refine s_dec (p := (60 : Int) < (mkS s.lo.v.build).size) true (by kernel_rfl) (fun _ => by kernel_rfl) (decide_eq_true (h4)) ?_
          refine s_val (.bool true) (by kernel_rfl) (fun _ => by kernel_rfl) ?_
          refine s_val (.bool true) (by kernel_rfl) (fun _ => by kernel_rfl) ?_
          refine s_skip (by kernel_rfl) ?_
          refine s_skip (by kernel_rfl) ?_
          refine s_skip (by kernel_rfl) ?_
          refine s_skip (by kernel_rfl) ?_
          refine s_skip (by kernel_rfl) ?_
          refine s_skip (by kernel_rfl) ?_
          refine s_skip (by kernel_rfl) ?_
          refine s_skip (by kernel_rfl) ?_
          refine s_skip (by kernel_rfl) ?_
          refine s_val (.bool true) (by kernel_rfl) (fun _ => by kernel_rfl) ?_
          refine s_val (.bool true) (by kernel_rfl) (fun _ => by kernel_rfl) ?_
          refine s_skip (by kernel_rfl) ?_
          refine s_skip (by kernel_rfl) ?_
          refine s_skip (by kernel_rfl) ?_
          refine s_skip (by kernel_rfl) ?_
          refine s_skip (by kernel_rfl) ?_
          refine s_skip (by kernel_rfl) ?_
          refine s_skip (by kernel_rfl) ?_
          refine s_skip (by kernel_rfl) ?_
          refine s_skip (by kernel_rfl) ?_
          refine s_val (.bool true) (by kernel_rfl) (fun _ => by kernel_rfl) ?_
          refine s_nil ?_
          refine fin_seq ?_
          refine ok_true (by kernel_rfl) ?_
          refine ok_seq ?_
          refine ok_region ?_
          refine s_val (.bool false) (by kernel_rfl) (fun _ => by kernel_rfl) ?_
          refine s_nil ?_
          refine fin_seq ?_
          refine ok_ret ?_
          refine fin_block_ret ?_
          refine fin_seq_ret ?_
          refine fin_round_ret ?_
          refine fin_block_ret ?_
          refine fin_seq_ret ?_
          refine fin_ret (.bool false) Tryz.results41 (by kernel_rfl) ?_
          exact fun w hO => ⟨by rw [part_bad hk (by rw [hs]; unfold part60; simp; omega)], hO.below⟩
        · skip
          refine s_dec (p := (60 : Int) < (mkS s.lo.v.build).size) false (by kernel_rfl) (fun _ => by kernel_rfl) (decide_eq_false (h4)) ?_
          refine s_val (.bool false) (by kernel_rfl) (fun _ => by kernel_rfl) ?_
          refine s_val (.bool false) (by kernel_rfl) (fun _ => by kernel_rfl) ?_
          refine s_val (.slice A l.length cap) (by kernel_rfl) (fun _ => by kernel_rfl) ?_
          refine s_val (.int .i64 (k : Int)) (by kernel_rfl) (fun _ => by kernel_rfl) ?_
          refine s_val (.pointer (some ⟨b, off + k * 14, none⟩)) (by kernel_rfl) (run_ixA (b := b) (off := off) (c := cap) (n := l.length) (k := .i64) (j := (k : Int)) (e := 50) (sz := 14) rfl (by kernel_rfl) hA (by kernel_rfl) (by kernel_rfl) (by kernel_rfl) (by omega) (by omega) (by omega)) ?_
          refine s_val (.pointer (some ⟨b, off + k * 14 + 7, none⟩)) (by kernel_rfl) (fun _ => by kernel_rfl) ?_
          refine s_val (.pointer (some ⟨b, off + k * 14 + 8, none⟩)) (by kernel_rfl) (fun _ => by kernel_rfl) ?_
          refine s_val (.pointer (some ⟨b, off + k * 14 + 11, none⟩)) (by kernel_rfl) (fun _ => by kernel_rfl) ?_
          refine s_old (.string (mkS s.hi.v.pre)) (a := ⟨b, off + k * 14 + 11, none⟩) (by kernel_rfl) rfl (by kernel_rfl) (fun w hO => elem_load spanC_len (fun j u h => (hO.below.cell (p := ⟨b, off + j, none⟩) hlt).trans (hcell j u h)) k 11 hk (by omega) _ (by rw [hs]; kernel_rfl)) ?_
          refine s_val (.int .i64 ((mkS s.hi.v.pre).size)) (by kernel_rfl) (fun _ => by kernel_rfl) ?_
          by_cases h5 : (60 : Int) < (mkS s.hi.v.pre).size
          · skip
            refine s_dec (p := (60 : Int) < (mkS s.hi.v.pre).size) true (by kernel_rfl) (fun _ => by kernel_rfl) (decide_eq_true (h5)) ?_
            refine s_val (.bool true) (by kernel_rfl) (fun _ => by kernel_rfl) ?_
            refine s_val (.bool true) (by kernel_rfl) (fun _ => by kernel_rfl) ?_
            refine s_skip (by kernel_rfl) ?_
            refine s_skip (by kernel_rfl) ?_
            refine s_skip (by kernel_rfl) ?_
            refine s_skip (by kernel_rfl) ?_
            refine s_skip (by kernel_rfl) ?_
            refine s_skip (by kernel_rfl) ?_
            refine s_skip (by kernel_rfl) ?_
            refine s_skip (by kernel_rfl) ?_
            refine s_skip (by kernel_rfl) ?_
            refine s_val (.bool true) (by kernel_rfl) (fun _ => by kernel_rfl) ?_
            refine s_nil ?_
            refine fin_seq ?_
            refine ok_true (by kernel_rfl) ?_
            refine ok_seq ?_
            refine ok_region ?_
            refine s_val (.bool false) (by kernel_rfl) (fun _ => by kernel_rfl) ?_
            refine s_nil ?_
            refine fin_seq ?_
            refine ok_ret ?_
            refine fin_block_ret ?_
            refine fin_seq_ret ?_
            refine fin_round_ret ?_
            refine fin_block_ret ?_
            refine fin_seq_ret ?_
            refine fin_ret (.bool false) Tryz.results41 (by kernel_rfl) ?_
            exact fun w hO => ⟨by rw [part_bad hk (by rw [hs]; unfold part60; simp; omega)], hO.below⟩
          · skip
            refine s_dec (p := (60 : Int) < (mkS s.hi.v.pre).size) false (by kernel_rfl) (fun _ => by kernel_rfl) (decide_eq_false (h5)) ?_
            refine s_val (.bool false) (by kernel_rfl) (fun _ => by kernel_rfl) ?_
            refine s_val (.bool false) (by kernel_rfl) (fun _ => by kernel_rfl) ?_
            refine s_val (.slice A l.length cap) (by kernel_rfl) (fun _ => by kernel_rfl) ?_
            refine s_val (.int .i64 (k : Int)) (by kernel_rfl) (fun _ => by kernel_rfl) ?_
            refine s_val (.pointer (some ⟨b, off + k * 14, none⟩)) (by kernel_rfl) (run_ixA (b := b) (off := off) (c := cap) (n := l.length) (k := .i64) (j := (k : Int)) (e := 50) (sz := 14) rfl (by kernel_rfl) hA (by kernel_rfl) (by kernel_rfl) (by kernel_rfl) (by omega) (by omega) (by omega)) ?_
            refine s_val (.pointer (some ⟨b, off + k * 14 + 7, none⟩)) (by kernel_rfl) (fun _ => by kernel_rfl) ?_
            refine s_val (.pointer (some ⟨b, off + k * 14 + 8, none⟩)) (by kernel_rfl) (fun _ => by kernel_rfl) ?_
            refine s_val (.pointer (some ⟨b, off + k * 14 + 12, none⟩)) (by kernel_rfl) (fun _ => by kernel_rfl) ?_
            refine s_old (.string (mkS s.hi.v.build)) (a := ⟨b, off + k * 14 + 12, none⟩) (by kernel_rfl) rfl (by kernel_rfl) (fun w hO => elem_load spanC_len (fun j u h => (hO.below.cell (p := ⟨b, off + j, none⟩) hlt).trans (hcell j u h)) k 12 hk (by omega) _ (by rw [hs]; kernel_rfl)) ?_
            refine s_val (.int .i64 ((mkS s.hi.v.build).size)) (by kernel_rfl) (fun _ => by kernel_rfl) ?_
            by_cases h6 : (60 : Int) < (mkS s.hi.v.build).size
            · skip
              refine s_dec (p := (60 : Int) < (mkS s.hi.v.build).size) true (by kernel_rfl) (fun _ => by kernel_rfl) (decide_eq_true (h6)) ?_
              refine s_val (.bool true) (by kernel_rfl) (fun _ => by kernel_rfl) ?_
              refine s_nil ?_
              refine fin_seq ?_
              refine ok_true (by kernel_rfl) ?_
              refine ok_seq ?_
              refine ok_region ?_
              refine s_val (.bool false) (by kernel_rfl) (fun _ => by kernel_rfl) ?_
              refine s_nil ?_
              refine fin_seq ?_
              refine ok_ret ?_
              refine fin_block_ret ?_
              refine fin_seq_ret ?_
              refine fin_round_ret ?_
              refine fin_block_ret ?_
              refine fin_seq_ret ?_
              refine fin_ret (.bool false) Tryz.results41 (by kernel_rfl) ?_
              exact fun w hO => ⟨by rw [part_bad hk (by rw [hs]; unfold part60; simp; omega)], hO.below⟩
            · skip
              refine s_dec (p := (60 : Int) < (mkS s.hi.v.build).size) false (by kernel_rfl) (fun _ => by kernel_rfl) (decide_eq_false (h6)) ?_
              refine s_val (.bool false) (by kernel_rfl) (fun _ => by kernel_rfl) ?_
              refine s_nil ?_
              refine fin_seq ?_
              refine ok_false (by kernel_rfl) ?_
              refine ok_skip ?_
              refine fin_block ?_
              refine fin_seq ?_
              refine ok_region ?_
              refine s_val (.int .i64 (k : Int)) (by kernel_rfl) (fun _ => by kernel_rfl) ?_
              refine s_sum (k := .i64) (((k + 1 : Nat) : Int)) (by kernel_rfl) (fun _ => by kernel_rfl) (IntWalk.i64_in _ (by omega)) ?_
              refine s_val (.int .i64 ((k + 1 : Nat) : Int)) (by kernel_rfl) (fun _ => by kernel_rfl) ?_
              refine s_nil ?_
              exact fin_round (m' := l.length - (k + 1)) (by omega) ⟨k + 1, _, ⟨by omega, by omega, part_step hk hrel.2.2 (by rw [hs]; unfold part60; simp; omega)⟩, rfl, upds_self _ ⟨by kernel_rfl, by kernel_rfl, trivial⟩, rfl⟩
  · skip
    refine s_dec (p := (k : Int) < (l.length : Int)) false (by kernel_rfl) (fun _ => by kernel_rfl) (decide_eq_false (h1)) ?_
    refine s_nil ?_
    refine fin_seq ?_
    refine ok_false (by kernel_rfl) ?_
    refine ok_exit ?_
    refine fin_seq_exit ?_
    refine fin_round_exit ?_
    refine fin_block_exit ?_
    refine fin_seq ?_
    refine ok_seq ?_
    refine ok_region ?_
    refine s_val (.bool true) (by kernel_rfl) (fun _ => by kernel_rfl) ?_
    refine s_nil ?_
    refine fin_seq ?_
    refine ok_ret ?_
    refine fin_ret (.bool true) Tryz.results41 (by kernel_rfl) ?_
    exact fun w hO => ⟨by rw [part_end hk8 (by omega) hrel.2.2], hO.below⟩
def fewT (a : St) : Bool := partL a.rel && partL a.pre
theorem fewT_short {a : St} (h : fewT a = true) : ShortL a.rel ∧ ShortL a.pre ∧ a.rel.length ≤ 8 ∧ a.pre.length ≤ 8 := by
  unfold fewT at h
  rw [Bool.and_eq_true] at h
  exact ⟨(part_short h.1).1, (part_short h.2).1, (part_short h.1).2, (part_short h.2).2⟩
theorem few5_any (A B : Option Addr) (c d : Nat) (a : St) (W : World) (hr : Reads spanC W W.heap.size A a.rel) (hp : Reads spanC W W.heap.size B a.pre) : Calls Tryz.prog 10 #[.agg #[.slice A a.rel.length c, .slice B a.pre.length d]] W fun e w' => e = .returned (.bool (fewT a)) ∧ Below W.heap.size W w' := by
  refine calls_ok (n := 11) Tryz.func10 rfl (by kernel_rfl) (by kernel_rfl) ?_
  refine ok_seq ?_
  refine ok_region ?_
  refine s_box (.agg #[.slice A a.rel.length c, .slice B a.pre.length d]) (by kernel_rfl) rfl (by kernel_rfl) (fun b1 => ?_)
  refine s_val (.bool false) (by kernel_rfl) (fun _ => by kernel_rfl) ?_
  refine s_nil ?_
  refine fin_seq ?_
  refine ok_seq ?_
  refine ok_region ?_
  refine s_val (.pointer (some ⟨b1, 0, none⟩)) (by kernel_rfl) (fun _ => by kernel_rfl) ?_
  refine s_load 0 ⟨b1, #[.slice A a.rel.length c, .slice B a.pre.length d], 24⟩ (off := 0) (.slice A a.rel.length c) (by kernel_rfl) rfl (by kernel_rfl) (by kernel_rfl) (by kernel_rfl) ?_
  refine s_call (k := 41) (args := #[.slice A a.rel.length c]) (.bool (partL a.rel)) (by kernel_rfl) (fun _ => by kernel_rfl) (fun w hO => part5_any A c a.rel w (hr.on hO.below hO.size)) ?_
  refine s_val (.bool (partL a.rel)) (by kernel_rfl) (fun _ => by kernel_rfl) ?_
  cases h1 : partL a.rel with
  | true =>
    refine s_val (.pointer (some ⟨b1, 1, none⟩)) (by kernel_rfl) (fun _ => by kernel_rfl) ?_
    refine s_load 0 ⟨b1, #[.slice A a.rel.length c, .slice B a.pre.length d], 24⟩ (off := 1) (.slice B a.pre.length d) (by kernel_rfl) rfl (by kernel_rfl) (by kernel_rfl) (by kernel_rfl) ?_
    refine s_call (k := 41) (args := #[.slice B a.pre.length d]) (.bool (partL a.pre)) (by kernel_rfl) (fun _ => by kernel_rfl) (fun w hO => part5_any B d a.pre w (hp.on hO.below hO.size)) ?_
    refine s_val (.bool (partL a.pre)) (by kernel_rfl) (fun _ => by kernel_rfl) ?_
    refine s_val (.bool (partL a.pre)) (by kernel_rfl) (fun _ => by kernel_rfl) ?_
    refine s_nil ?_
    refine fin_seq ?_
    refine ok_ret ?_
    refine fin_ret (.bool (partL a.pre)) Tryz.results10 (by kernel_rfl) ?_
    exact fun w hO => ⟨by unfold fewT; simp [h1], hO.below⟩
  | false =>
    refine s_skip (by kernel_rfl) ?_
    refine s_skip (by kernel_rfl) ?_
    refine s_skip (by kernel_rfl) ?_
    refine s_val (.bool false) (by kernel_rfl) (fun _ => by kernel_rfl) ?_
    refine s_val (.bool false) (by kernel_rfl) (fun _ => by kernel_rfl) ?_
    refine s_nil ?_
    refine fin_seq ?_
    refine ok_ret ?_
    refine fin_ret (.bool false) Tryz.results10 (by kernel_rfl) ?_
    exact fun w hO => ⟨by unfold fewT; simp [h1], hO.below⟩
end Go.Proofs.YtgeccfdofmnphaaGreat
end

section
/-
  Sets that are parameters: what the laws over them lean on. No condition.
-/
namespace Go.Proofs.YtgeccfdofmnphaaGreat
open Go.RowKit
set_option maxRecDepth 100000
set_option linter.unusedVariables false
set_option linter.unusedSimpArgs false
set_option maxHeartbeats 2000000

theorem if_sf {p : Bool} {x : St} {n : Nat} (h : p = true → SF x n) : SF (if p then x else noneT) n := by
  cases p with
  | true => exact h rfl
  | false => exact none_sf.le (Nat.zero_le n)
theorem SetIn.few {w : World} {n : Nat} {A B : Option Addr} {a : St} (hr : Reads spanC w n A a.rel) (hp : Reads spanC w n B a.pre) (h : fewT a = true) : SetIn w n A B a :=
  ⟨hr, hp, Nat.le_trans (fewT_short h).2.2.1 (by decide), Nat.le_trans (fewT_short h).2.2.2 (by decide), (fewT_short h).1, (fewT_short h).2.1⟩
end Go.Proofs.YtgeccfdofmnphaaGreat
end

section
/-
  What every statement of this seat's proof leans on at its end: from 'the call returns true and below the heap's old end nothing has changed' to the row's own words; the table that the row lists, read as a walk needs it. Conditions: none of its own.
-/
namespace Go.Proofs.YtgeccfdofmnphaaGreat
open Go.ChangeShapes Go.WideShapes Go.ChangeAt Go.RowKit

theorem own : ownKnob Tryz.prog.godebug = none := by kernel_rfl

theorem trodAll_stays {H : Type} {enc : TypeId × Value → H} {P : Program} (hl : laidOutB P = true) {W W' : World} (hb : Below W.heap.size W W') :
    ∀ (ts : List TypeId), (∀ t ∈ ts, P.readableRec t = true ∧ t < P.types.size) → ∀ (vs : List Value) (ds : List (DataW H)) (ps : List MemPlace), DataW.TrodAll enc P W 0 (fun _ => true) true ts vs ds ps → (∀ p ∈ ps, p.block < W.heap.size) →
      DataW.TrodAll enc P W' 0 (fun b => decide (b < W.heap.size)) true ts vs ds ps
  | [], _, vs, ds, ps, h, _ => by
    obtain ⟨rfl, rfl, rfl⟩ := trodAll_nil h
    exact trodAll_mk0
  | t :: ts, hr, vs, ds, ps, h, hlt => by
    obtain ⟨v, vs', d, ds', p, q, rfl, rfl, rfl, hd, hrest⟩ := trodAll_cons h
    exact ⟨p, q, Go.RowKit.Below.trod hl (hr t (by simp)).1 (hr t (by simp)).2 hd hb.old (fun x hx => hlt x (by simp [hx])), trodAll_stays hl hb ts (fun t' ht' => hr t' (by simp [ht'])) vs' ds' q hrest (fun x hx => hlt x (by simp [hx])), rfl⟩

/-- The end of a statement's row: the call has returned true, and below the heap's old end nothing has changed. -/
theorem law_end {H : Type} {enc : TypeId × Value → H} {P : Program} {f : Func} {s : ChangeSpec} {W W' : World} {args : Array Value} {ds gs : List (DataW H)} {before : List MemPlace} {T : TypeId}
    (hl : laidOutB P = true) (hr : ∀ t ∈ f.params.toList, P.readableRec t = true ∧ t < P.types.size) (hv : s.vars = []) (hT : f.resultTypes = #[T]) (hB : P.underlying T = some .bool)
    (hW : DataW.Whole enc P f.params.toList s.vars false W args.toList ds gs before) (hf : s.fn H (ds ++ gs) = { results := [.lit (.bool true)], args := ds }) (hb : Below W.heap.size W W') :
    s.post enc P f false true false false W args (.bool true) W' := by
  have hlt : ∀ p ∈ before, p.block < W.heap.size := fun p hp => hW.lt p hp
  have hW' := hW
  obtain ⟨p, q, hA, hV, rfl, _, _⟩ := hW
  rw [hv] at hV
  obtain ⟨rfl, rfl⟩ := trodVars_none hV
  have h2 := trodAll_stays hl hb _ hr _ _ _ hA (fun x hx => hlt x (by simp [hx]))
  refine ⟨ds, [], p ++ [], [], p, [], hW', ?_, ?_, ?_, World.keptBut_mono (fun x hx => ⟨hx, Or.inr (Or.inl (by simpa using hx))⟩) (hb.frame (· ∈ p ++ [])), fun h => by cases h⟩
  · rw [hf, hT]
    exact trodAll_cons_mk (shut_bool hB true) trodAll_mk0
  · rw [hf]; exact h2
  · rw [hf, hv]; rfl
theorem laidOut : laidOutB Tryz.prog = true := by kernel_rfl

/-- The cells that a table of integers lays. -/
def tabCells : DataW Unit → Array Value
  | .agg l => (l.map fun d => match d with | .lit (.int k n) => Value.int k n | _ => Value.int .i64 0).toArray
  | _ => #[]
def layAt (h : Array Obj) (g : Nat) (d : DataW Unit) : Array Obj := h.modify g fun
  | .cells _ t frozen => .cells (tabCells d) t frozen
  | o => o

end Go.Proofs.YtgeccfdofmnphaaGreat
end

section
/-
  Parameters that are versions, cuts or spans: what they are, out of the row's own conditions.
-/
namespace Go.Proofs.YtgeccfdofmnphaaGreat
open Go.ChangeShapes Go.WideShapes Go.ChangeAt Go.RowKit Go.Deep
set_option maxRecDepth 100000
set_option linter.unusedVariables false
set_option linter.unusedSimpArgs false

theorem mk_self (p : ByteArray) : mkS p.data.toList = p := by unfold mkS; simp
def Ver.wide (v : Ver) : Prop := v.pre.length ≤ maxLen ∧ v.build.length ≤ maxLen
def Ver.i64 (v : Ver) : Prop := ((-9223372036854775808 ≤ v.maj ∧ v.maj ≤ 9223372036854775807) ∧ (-9223372036854775808 ≤ v.min ∧ v.min ≤ 9223372036854775807)) ∧ (-9223372036854775808 ≤ v.pat ∧ v.pat ≤ 9223372036854775807)
theorem wf_i64 {a : Int} (h : (Lit.int .i64 a).wf = true) : -9223372036854775808 ≤ a ∧ a ≤ 9223372036854775807 := bounds_i64 h
section
variable {H : Type} {enc : TypeId × Value → H} {W : World}
theorem cells_int {fuel : Nat} {cs : List Value} {x : DataW H × List MemPlace} (h : DataW.trod enc Tryz.prog W 0 (fun _ => true) true fuel 3 cs = some x) : ∃ a, cs = [.int .i64 a] ∧ (-9223372036854775808 ≤ a ∧ a ≤ 9223372036854775807) := by
  obtain ⟨a, e, _, hw⟩ := DataW.trod_int Tryz.underlying3 h
  exact ⟨a, e, wf_i64 hw⟩
theorem cells_str {fuel : Nat} {cs : List Value} {x : DataW H × List MemPlace} (h : DataW.trod enc Tryz.prog W 0 (fun _ => true) true fuel 9 cs = some x) : ∃ p : List UInt8, cs = [.string (mkS p)] ∧ p.length ≤ maxLen := by
  obtain ⟨p, e, _, hw⟩ := DataW.trod_string Tryz.underlying9 h
  exact ⟨p.data.toList, by rw [mk_self]; exact e, by rw [len_data]; exact hw⟩
theorem cells_bool {fuel : Nat} {cs : List Value} {x : DataW H × List MemPlace} (h : DataW.trod enc Tryz.prog W 0 (fun _ => true) true fuel 4 cs = some x) : ∃ a, cs = [.bool a] := by
  obtain ⟨a, e, _⟩ := DataW.trod_bool Tryz.underlying4 h
  exact ⟨a, e⟩
theorem size_int : Tryz.prog.cellsOf 3 = 1 := by kernel_rfl
theorem size_str : Tryz.prog.cellsOf 9 = 1 := by kernel_rfl
theorem size_bool : Tryz.prog.cellsOf 4 = 1 := by kernel_rfl
theorem size_ver : Tryz.prog.cellsOf 26 = 5 := by kernel_rfl
theorem size_cut : Tryz.prog.cellsOf 48 = 7 := by kernel_rfl
theorem size_span : Tryz.prog.cellsOf 50 = 14 := by kernel_rfl
set_option maxRecDepth 100000 in
theorem cells_ver {fuel : Nat} {cs : List Value} {x : DataW H × List MemPlace} (h : DataW.trod enc Tryz.prog W 0 (fun _ => true) true fuel 26 cs = some x) : ∃ v : Ver, cs = (verV v).cells.toList ∧ v.wide ∧ v.i64 := by
  obtain ⟨xs, n, _, _, hl, hxl, hg⟩ := DataW.trod_struct Tryz.underlying26 h
  rw [size_ver] at hl
  match cs, hl with
  | [c0, c1, c2, c3, c4], _ =>
    have g : ∀ i, i < 5 → ∃ y, xs[i]? = some y := fun i hi => ⟨_, List.getElem?_eq_getElem (by rw [hxl]; exact hi)⟩
    obtain ⟨y0, e0⟩ := g 0 (by omega)
    obtain ⟨y1, e1⟩ := g 1 (by omega)
    obtain ⟨y2, e2⟩ := g 2 (by omega)
    obtain ⟨y3, e3⟩ := g 3 (by omega)
    obtain ⟨y4, e4⟩ := g 4 (by omega)
    obtain ⟨a, ha, wa⟩ := cells_int ((hg 0 _ rfl).trans e0)
    obtain ⟨b, hb, wb⟩ := cells_int ((hg 1 _ rfl).trans e1)
    obtain ⟨c, hc, wc⟩ := cells_int ((hg 2 _ rfl).trans e2)
    obtain ⟨p, hp, wp⟩ := cells_str ((hg 3 _ rfl).trans e3)
    obtain ⟨q, hq, wq⟩ := cells_str ((hg 4 _ rfl).trans e4)
    have ha2 : List.take (Tryz.prog.cellsOf 3) (List.drop 0 [c0, c1, c2, c3, c4]) = _ := ha
    have hb2 : List.take (Tryz.prog.cellsOf 3) (List.drop 1 [c0, c1, c2, c3, c4]) = _ := hb
    have hc2 : List.take (Tryz.prog.cellsOf 3) (List.drop 2 [c0, c1, c2, c3, c4]) = _ := hc
    have hp2 : List.take (Tryz.prog.cellsOf 9) (List.drop 3 [c0, c1, c2, c3, c4]) = _ := hp
    have hq2 : List.take (Tryz.prog.cellsOf 9) (List.drop 4 [c0, c1, c2, c3, c4]) = _ := hq
    rw [size_int] at ha2 hb2 hc2
    rw [size_str] at hp2 hq2
    obtain rfl : c0 = _ := List.singleton_inj.1 ha2
    obtain rfl : c1 = _ := List.singleton_inj.1 hb2
    obtain rfl : c2 = _ := List.singleton_inj.1 hc2
    obtain rfl : c3 = _ := List.singleton_inj.1 hp2
    obtain rfl : c4 = _ := List.singleton_inj.1 hq2
    exact ⟨⟨a, b, c, p, q⟩, rfl, ⟨wp, wq⟩, ⟨⟨wa, wb⟩, wc⟩⟩
def Cu.wide (c : Cu) : Prop := c.v.wide ∧ c.v.i64 ∧ (-9223372036854775808 ≤ c.e ∧ c.e ≤ 9223372036854775807)
set_option maxRecDepth 100000 in
theorem cells_cut {fuel : Nat} {cs : List Value} {x : DataW H × List MemPlace} (h : DataW.trod enc Tryz.prog W 0 (fun _ => true) true fuel 48 cs = some x) : ∃ c : Cu, cs = (cutV c).cells.toList ∧ c.wide := by
  obtain ⟨xs, n, _, _, hl, hxl, hg⟩ := DataW.trod_struct Tryz.underlying48 h
  rw [size_cut] at hl
  match cs, hl with
  | [c0, c1, c2, c3, c4, c5, c6], _ =>
    have g : ∀ i, i < 3 → ∃ y, xs[i]? = some y := fun i hi => ⟨_, List.getElem?_eq_getElem (by rw [hxl]; exact hi)⟩
    obtain ⟨y0, e0⟩ := g 0 (by omega)
    obtain ⟨y1, e1⟩ := g 1 (by omega)
    obtain ⟨y2, e2⟩ := g 2 (by omega)
    obtain ⟨a, ha, wa⟩ := cells_int ((hg 0 _ rfl).trans e0)
    obtain ⟨v, hv, w1, w2⟩ := cells_ver ((hg 1 _ rfl).trans e1)
    obtain ⟨b, hb⟩ := cells_bool ((hg 2 _ rfl).trans e2)
    have ha2 : List.take (Tryz.prog.cellsOf 3) (List.drop 0 [c0, c1, c2, c3, c4, c5, c6]) = _ := ha
    have hv2 : List.take (Tryz.prog.cellsOf 26) (List.drop 1 [c0, c1, c2, c3, c4, c5, c6]) = _ := hv
    have hb2 : List.take (Tryz.prog.cellsOf 4) (List.drop 6 [c0, c1, c2, c3, c4, c5, c6]) = _ := hb
    rw [size_int] at ha2
    rw [size_ver] at hv2
    rw [size_bool] at hb2
    obtain rfl : c0 = _ := List.singleton_inj.1 ha2
    obtain rfl : c6 = _ := List.singleton_inj.1 hb2
    have hv3 : [c1, c2, c3, c4, c5] = (verV v).cells.toList := hv2
    refine ⟨⟨a, v, b⟩, ?_, w1, w2, wa⟩
    show .int .i64 a :: ([c1, c2, c3, c4, c5] ++ [.bool b]) = _
    rw [hv3]; rfl
def Sp.wide (s : Sp) : Prop := s.lo.wide ∧ s.hi.wide
set_option maxRecDepth 100000 in
theorem cells_span {fuel : Nat} {cs : List Value} {x : DataW H × List MemPlace} (h : DataW.trod enc Tryz.prog W 0 (fun _ => true) true fuel 50 cs = some x) : ∃ s : Sp, cs = (spanV s).cells.toList ∧ s.wide := by
  obtain ⟨xs, n, _, _, hl, hxl, hg⟩ := DataW.trod_struct Tryz.underlying50 h
  rw [size_span] at hl
  have g : ∀ i, i < 2 → ∃ y, xs[i]? = some y := fun i hi => ⟨_, List.getElem?_eq_getElem (by rw [hxl]; exact hi)⟩
  obtain ⟨y0, e0⟩ := g 0 (by omega)
  obtain ⟨y1, e1⟩ := g 1 (by omega)
  obtain ⟨a, ha, wa⟩ := cells_cut ((hg 0 _ rfl).trans e0)
  obtain ⟨b, hb, wb⟩ := cells_cut ((hg 1 _ rfl).trans e1)
  have ha2 : List.take (Tryz.prog.cellsOf 48) (List.drop 0 cs) = _ := ha
  have hb2 : List.take (Tryz.prog.cellsOf 48) (List.drop 7 cs) = _ := hb
  rw [size_cut] at ha2 hb2
  refine ⟨⟨a, b⟩, ?_, wa, wb⟩
  have e : cs = List.take 7 (List.drop 0 cs) ++ List.take 7 (List.drop 7 cs) := by
    rw [List.drop_zero, List.take_of_length_le (show (List.drop 7 cs).length ≤ 7 by rw [List.length_drop, hl]; decide), List.take_append_drop]
  rw [e, ha2, hb2]; rfl
theorem cells_back {v : Value} {cs : Array Value} {l : List Value} (h : v = .agg cs) (e : v.cells.toList = l) : v = .agg l.toArray := by
  subst h
  have : cs.toList = l := e
  rw [← this]
theorem open_verV {base : Nat} {v : Value} {d : DataW H} {ps : List MemPlace} (hval : Value.okWide Tryz.prog W .any base 26 v) (h : DataW.Trod enc Tryz.prog W 0 (fun _ => true) true 26 v d ps) : ∃ u : Ver, v = verV u ∧ u.wide ∧ u.i64 := by
  obtain ⟨cs, hc, _⟩ := okWide_struct Tryz.underlying26 hval
  obtain ⟨fuel, hf⟩ := h
  obtain ⟨u, e, w1, w2⟩ := cells_ver hf
  exact ⟨u, (cells_back hc e).trans rfl, w1, w2⟩
end
end Go.Proofs.YtgeccfdofmnphaaGreat
end

section
/-
  A parameter that is a slice of spans: it reads as a list, out of the row's own conditions.
-/
namespace Go.Proofs.YtgeccfdofmnphaaGreat
open Go.ChangeShapes Go.WideShapes Go.ChangeAt Go.RowKit Go.Deep
set_option maxRecDepth 100000
set_option linter.unusedVariables false
set_option linter.unusedSimpArgs false

theorem list_of {α : Type} {p : Nat → α → Prop} : ∀ (n : Nat), (∀ i, i < n → ∃ x, p i x) → ∃ l : List α, l.length = n ∧ ∀ i (h : i < l.length), p i l[i]
  | 0, _ => ⟨[], rfl, fun i h => absurd h (Nat.not_lt_zero _)⟩
  | n + 1, h => by
    obtain ⟨l, hl, hp⟩ := list_of n fun i hi => h i (Nat.lt_succ_of_lt hi)
    obtain ⟨x, hx⟩ := h n (Nat.lt_succ_self n)
    refine ⟨l ++ [x], by simp [hl], fun i hi => ?_⟩
    by_cases h1 : i < l.length
    · rw [List.getElem_append_left h1]; exact hp i h1
    · have : i = n := by simp at hi; omega
      subst this
      rw [List.getElem_append_right (by omega)]
      simpa [hl] using hx
theorem cell_spot {w : World} {a : Addr} {v : Value} (h : w.cell? a = some v) : a.spot = none := by
  unfold World.cell? at h
  split at h
  · split at h
    · cases h
    · rename_i hs; simpa using hs
  · cases h
theorem addr_at {a : Addr} (h : a.spot = none) (k : Nat) : a.add k = ⟨a.block, a.off + k, none⟩ := by
  obtain ⟨b, o, s⟩ := a
  obtain rfl : s = none := h
  exact add_off b o k
end Go.Proofs.YtgeccfdofmnphaaGreat
end

section
/-
  A parameter that is a set: both its rows read as lists, out of the row's own conditions.
-/
namespace Go.Proofs.YtgeccfdofmnphaaGreat
open Go.ChangeShapes Go.WideShapes Go.ChangeAt Go.RowKit Go.Deep
set_option maxRecDepth 100000
set_option linter.unusedVariables false
set_option linter.unusedSimpArgs false

theorem size_spans : Tryz.prog.cellsOf 22 = 1 := by kernel_rfl
theorem size_set : Tryz.prog.cellsOf 24 = 2 := by kernel_rfl
theorem cells_spans {H : Type} {enc : TypeId × Value → H} {W : World} {fuel : Nat} {cs : List Value} {x : DataW H × List MemPlace} (h : DataW.trod enc Tryz.prog W 0 (fun _ => true) true fuel 22 cs = some x) : ∃ (A : Option Addr) (cap : Nat) (l : List Sp), cs = [.slice A l.length cap] ∧ Reads spanC W W.heap.size A l ∧ l.length ≤ cap ∧ cap ≤ maxLen ∧ ∀ s ∈ l, s.wide := by
  rcases DataW.trod_slice Tryz.underlying22 h with ⟨hcs, _⟩ | ⟨a, len, cap, elems, rest, n, _, hcs, _, hb, hl, hm, hlen, hel, _, _⟩
  · exact ⟨none, 0, [], hcs, fun h => by simp at h, Nat.le_refl _, Nat.zero_le _, fun s hs => by simp at hs⟩
  · subst hcs
    rw [size_span] at hel
    obtain ⟨l, hll, hp⟩ := list_of (p := fun i (s : Sp) => s.wide ∧ W.cells? 0 (a.add (i * 14)) 14 = some (spanC s)) len fun i hi => by
      have h1 := hel i hi
      rw [List.getElem?_eq_getElem (by omega)] at h1
      obtain ⟨cs, e1, e2⟩ := Option.bind_eq_some_iff.1 h1
      obtain ⟨s, e3, hw⟩ := cells_span e2
      exact ⟨s, hw, by rw [e1, e3]; rfl⟩
    refine ⟨some a, cap, l, by rw [hll], fun h0 => ?_, by omega, hm, fun s hs => ?_⟩
    · have c0 := (hp 0 h0).2
      have hc : ∀ i (hi : i < l.length) j u, (spanC l[i])[j]? = some u → W.cell? ((a.add (i * 14)).add j) = some u := fun i hi j u hj => by
        obtain ⟨_, hn, hx⟩ := World.cells?_some (hp i hi).2
        have hj14 : j < 14 := by have := (List.getElem?_eq_some_iff.1 hj).1; rwa [spanC_len] at this
        first | rw [hx j hj14, hj] | (have := hx j hj14; rw [this]; exact hj)
      have s0 : (spanC l[0])[0]? = some (.int .i64 l[0].lo.e) := rfl
      have sp : a.spot = none := by
        have := cell_spot (hc 0 h0 0 _ s0)
        simpa [Addr.add] using this
      refine ⟨a.block, a.off, ?_, ?_, fun k u hk => ?_⟩
      · obtain ⟨b, o, s⟩ := a
        obtain rfl : s = none := sp
        rfl
      · have := World.cells?_block c0 (by decide)
        rwa [addr_at sp] at this
      · have hkl : k < l.length * 14 := by have := (List.getElem?_eq_some_iff.1 hk).1; rwa [flat_len spanC_len] at this
        have hi : k / 14 < l.length := by omega
        have e : k = k / 14 * 14 + k % 14 := by omega
        have hm14 : k % 14 < 14 := Nat.mod_lt _ (by decide)
        have h2 := flat_at spanC_len l (k / 14) hi
        have h3 : (spanC l[k / 14])[k % 14]? = some u := by
          rw [← h2, List.getElem?_take, if_pos hm14, List.getElem?_drop, ← e]; exact hk
        have := hc (k / 14) hi (k % 14) u h3
        rw [addr_at sp, add_off, show a.off + k / 14 * 14 + k % 14 = a.off + k from by omega] at this
        exact this
    · obtain ⟨i, hi, rfl⟩ := List.mem_iff_getElem.1 hs
      exact (hp i hi).1
set_option maxRecDepth 100000 in
theorem open_set {H : Type} {enc : TypeId × Value → H} {W : World} {base : Nat} {v : Value} {d : DataW H} {ps : List MemPlace} (hval : Value.okWide Tryz.prog W .any base 24 v)
    (h : DataW.Trod enc Tryz.prog W 0 (fun _ => true) true 24 v d ps) : ∃ (A B : Option Addr) (c c2 : Nat) (s : St), v = .agg #[.slice A s.rel.length c, .slice B s.pre.length c2] ∧ Reads spanC W W.heap.size A s.rel ∧ Reads spanC W W.heap.size B s.pre ∧ (s.rel.length ≤ c ∧ s.pre.length ≤ c2) := by
  obtain ⟨cs, hc, _⟩ := okWide_struct Tryz.underlying24 hval
  obtain ⟨fuel, hf⟩ := h
  obtain ⟨xs, n, _, _, hl, hxl, hg⟩ := DataW.trod_struct Tryz.underlying24 hf
  rw [size_set] at hl
  have g : ∀ i, i < 2 → ∃ y, xs[i]? = some y := fun i hi => ⟨_, List.getElem?_eq_getElem (by rw [hxl]; exact hi)⟩
  obtain ⟨y0, e0⟩ := g 0 (by omega)
  obtain ⟨y1, e1⟩ := g 1 (by omega)
  obtain ⟨A, c, l, ha, ra, ca, _, _⟩ := cells_spans ((hg 0 _ rfl).trans e0)
  obtain ⟨B, c2, m, hb, rb, cb, _, _⟩ := cells_spans ((hg 1 _ rfl).trans e1)
  have ha2 : List.take (Tryz.prog.cellsOf 22) (List.drop 0 v.cells.toList) = _ := ha
  have hb2 : List.take (Tryz.prog.cellsOf 22) (List.drop 1 v.cells.toList) = _ := hb
  rw [size_spans] at ha2 hb2
  refine ⟨A, B, c, c2, ⟨l, m⟩, ?_, ra, rb, ca, cb⟩
  have e : v.cells.toList = List.take 1 (List.drop 0 v.cells.toList) ++ List.take 1 (List.drop 1 v.cells.toList) := by
    rw [List.drop_zero, List.take_of_length_le (show (List.drop 1 v.cells.toList).length ≤ 1 by rw [List.length_drop, hl]; decide), List.take_append_drop]
  rw [ha2, hb2] at e
  exact (cells_back hc e).trans rfl
end Go.Proofs.YtgeccfdofmnphaaGreat
end
