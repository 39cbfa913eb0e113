/-
  What the statements' proofs lean on, part 3: each part begins with a remark that says what it proves and on what conditions.
-/
import Derived.Maps.Range
import Derived.Sort.KeysCollected
import Derived.Sort.OwnSorted
import Derived.Lib.Strings
import Derived.Laws.Rows
import Derived.Outline
import Derived.Deep.LoopGhost
import Derived.Lib.OthersKept
import Derived.Lib.Slices
import Derived.Lib.Walk
import Derived.Lib.Builder
import Derived.Lib.AppendStr
import Derived.Lib.UnsafeStr
import Derived.WalkKit
import Derived.Laws.Externs
import Derived.Shelf.RegionOpenPlain
import Derived.Lib.AppendIntMem
import Derived.Lib.ItoaLen
import Derived.Lib.SliceRun
import Derived.Lib.Small
import Derived.Deep.RegionHeld3
import Derived.IntWalk
import Derived.StillTailTactics
import Derived.Laws.StructEq
import Derived.WalkLawsBesides
import Derived.Test.YtglbfknmeojfkaaFA2

section
/-
  linchpinref11: Put: what it returns reads as the rising list with the text put in; nothing that was there is changed. Conditions: as the theorem names.
-/
namespace Go.Proofs.Ytglbfknmeojfkaa
open Go.RowKit
set_option maxRecDepth 100000
set_option linter.unusedVariables false
set_option linter.unusedSimpArgs false
set_option linter.unnecessarySimpa false
set_option maxHeartbeats 2000000

theorem str_info9 : ∃ i z, Try.prog.info? 9 = some i ∧ i.zero = some z ∧ i.size = 1 ∧ z.cells.size = 1 ∧ i.bytes = 16 := by
  have h := infoStr
  cases hi : Try.prog.info? 9 with
  | none => rw [hi] at h; cases h
  | some i =>
    rw [hi] at h
    simp only [Option.map_some, Option.some.injEq, Prod.mk.injEq] at h
    exact ⟨i, _, rfl, h.1, h.2.1, rfl, h.2.2⟩
theorem put_new {l : List (List UInt8)} {s : List UInt8} {k : Nat} (hk : k ≤ l.length) (h : ∀ x ∈ l.take k, Op.bytesLess x s = true) (h2 : ∀ hk : k < l.length, Op.bytesLess l[k] s = false ∧ ¬ l[k] = s) : putT l s = l.take k ++ [s] ++ l.drop k := by
  rw [put_at k h, List.append_assoc]
  congr 1
  by_cases hl : k < l.length
  · rw [List.drop_eq_getElem_cons hl, putT, if_neg (by rw [(h2 hl).1]; simp), if_neg (h2 hl).2]; rfl
  · rw [List.drop_of_length_le (by omega)]; rfl
theorem put_old {l : List (List UInt8)} {s : List UInt8} {k : Nat} (hk : k < l.length) (h : ∀ x ∈ l.take k, Op.bytesLess x s = true) (h2 : Op.bytesLess l[k] s = false) (h3 : l[k] = s) : putT l s = l := by
  rw [put_at k h, List.drop_eq_getElem_cons hk, putT, if_neg (by rw [h2]; simp), if_pos h3, ← List.drop_eq_getElem_cons hk, List.take_append_drop]
theorem strV_one (s : List UInt8) : ∀ u ∈ [Value.string (mkS s)], u.oneCell' = true := fun u hu => by rw [List.mem_singleton.1 hu]; rfl
theorem strV_cells (l : List (List UInt8)) : ∀ u ∈ strV l, u.oneCell' = true := fun u hu => by
  unfold strV at hu
  obtain ⟨x, _, rfl⟩ := List.mem_map.1 hu; rfl
/-- A slice of strings that reads in a world as it is, with what is known of its place and its room. -/
structure RdP (w : World) (v : Value) (l : List (List UInt8)) : Prop where
  ex : ∃ A cap, v = .slice A l.length cap ∧ Reads strC w w.heap.size A l ∧ l.length ≤ cap ∧ (l = [] → A = none ∧ cap = 0)
theorem RdP.nil (w : World) : RdP w (.slice none 0 0) [] := ⟨none, 0, rfl, fun h => by simp at h, Nat.le_refl _, fun _ => ⟨rfl, rfl⟩⟩
theorem RdP.on {w w' : World} {v : Value} {l : List (List UInt8)} (h : RdP w v l) (hb : Below w.heap.size w w') : RdP w' v l := by
  obtain ⟨A, cap, e, h1, h2⟩ := h.ex
  exact ⟨A, cap, e, h1.on hb hb.size, h2⟩
theorem rdp_own {W w : World} {v : Value} {l : List (List UInt8)} {ob L : List Blk} (h : SlT v l ob) (hO : Own [] W w L) (hs : ∀ x ∈ ob, x ∈ L) (hl : l ≠ []) : RdP w v l := by
  obtain ⟨A, cap, rfl⟩ := h.form
  obtain ⟨g, hg, hc⟩ := Sl.at0 h (by cases l with | nil => exact absurd rfl hl | cons a r => simp)
  exact ⟨A, cap, rfl, SlT.reads h rfl hO hs, hc, fun e => absurd e hl⟩
theorem cells_take {w : World} {B : Nat} {A : Option Addr} {b off : Nat} {l : List (List UInt8)} (h : Reads strC w B A l) (hA : A = some ⟨b, off, none⟩) (hl : l ≠ []) (k j : Nat) (u : Value) (hj : (strV (l.take k))[j]? = some u) : w.cell? (Addr.add ⟨b, off, none⟩ j) = some u := by
  obtain ⟨b', off', e, _, hc⟩ := h (by cases l with | nil => exact absurd rfl hl | cons a r => simp)
  rw [hA] at e
  injection e with e
  injection e with q1 q2
  subst q1; subst q2
  rw [add_off]
  refine hc j u ?_
  have e2 : strV (l.take k) = (l.flatMap strC).take k := by rw [← strV_flat]; unfold strV; rw [List.map_take]
  rw [e2] at hj
  rw [List.getElem?_take] at hj
  split at hj
  · exact hj
  · cases hj
theorem cells_drop {w : World} {B : Nat} {A : Option Addr} {b off cap : Nat} {l : List (List UInt8)} (h : Reads strC w B A l) (hA : A = some ⟨b, off, none⟩) (hl : l ≠ []) (hcap : l.length ≤ cap) (k j : Nat) (u : Value) (hj : (strV (l.drop k))[j]? = some u) : w.cell? (Addr.add ⟨b, off + (if cap = k then 0 else k * 1), none⟩ j) = some u := by
  obtain ⟨b', off', e, _, hc⟩ := h (by cases l with | nil => exact absurd rfl hl | cons a r => simp)
  rw [hA] at e
  injection e with e
  injection e with q1 q2
  subst q1; subst q2
  have hjl : j < (l.drop k).length := by have := (List.getElem?_eq_some_iff.1 hj).1; rwa [strV_length] at this
  rw [List.length_drop] at hjl
  rw [add_off, if_neg (by omega)]
  have e2 : strV (l.drop k) = (l.flatMap strC).drop k := by rw [← strV_flat]; unfold strV; rw [List.map_drop]
  rw [e2, List.getElem?_drop] at hj
  rw [show off + k * 1 + j = off + (k + j) by omega]
  exact hc (k + j) u hj
theorem r11Put_cons (A : Option Addr) (cap bp off : Nat) (l : List (List UInt8)) (s : List UInt8) (W : World) (hA : A = some ⟨bp, off, none⟩) (hl0 : l ≠ []) (hcap : l.length ≤ cap) (hv : Reads strC W W.heap.size A l) (hn : l.length ≤ 1000000) : Calls Try.prog 42 #[.slice A l.length cap, .string (mkS s)] W fun e w' => ∃ v, e = .returned v ∧ RdP w' v (putT l s) ∧ Below W.heap.size W w' := by
  refine calls_ok (n := 44) Try.func42 rfl (by kernel_rfl) (by kernel_rfl) ?_
  refine ok_seq ?_
  refine ok_region ?_
  refine s_val (.slice none 0 0) (by kernel_rfl) (fun _ => by kernel_rfl) ?_
  refine s_nil ?_
  refine fin_seq ?_
  refine ok_seq ?_
  refine ok_region ?_
  refine s_val (.int .i64 0) (by kernel_rfl) (fun _ => by kernel_rfl) ?_
  refine s_nil ?_
  refine fin_seq ?_
  refine ok_seq ?_
  refine ok_block ?_
  refine ok_loop (fun L f m => ∃ (k : Nat) (j : Nat → Value), (k ≤ l.length ∧ ∀ x ∈ l.take k, Op.bytesLess x s = true) ∧ L = [] ∧ f = upds j [(0, .slice A l.length cap), (1, .string (mkS s)), (5, .int .i64 (k : Int))] ∧ m = l.length - k) (l.length - 0) ⟨0, _, ⟨Nat.zero_le _, fun x hx => by simp at hx⟩, rfl, upds_self _ ⟨by kernel_rfl, by kernel_rfl, by kernel_rfl, trivial⟩, rfl⟩ ?_
  rintro L f m ⟨k, j, hrel, rfl, rfl, rfl⟩
  have hk6 := hrel.1
  refine ok_seq ?_
  refine ok_seq ?_
  refine ok_region ?_
  refine s_val (.int .i64 (k : Int)) (by kernel_rfl) (fun _ => by kernel_rfl) ?_
  refine s_val (.slice A l.length cap) (by kernel_rfl) (fun _ => by kernel_rfl) ?_
  refine s_val (.int .i64 (l.length : Int)) (by kernel_rfl) (fun _ => by kernel_rfl) ?_
  by_cases h1 : (k : Int) < (l.length : Int)
  · skip
    have hkl : k < l.length := by omega
    obtain ⟨x, hx⟩ : ∃ x, l[k] = x := ⟨_, rfl⟩
    refine s_dec (p := (k : Int) < (l.length : Int)) true (by kernel_rfl) (fun _ => by kernel_rfl) (decide_eq_true (h1)) ?_
    refine s_val (.bool true) (by kernel_rfl) (fun _ => by kernel_rfl) ?_
    refine s_val (.slice A l.length cap) (by kernel_rfl) (fun _ => by kernel_rfl) ?_
    refine s_val (.int .i64 (k : Int)) (by kernel_rfl) (fun _ => by kernel_rfl) ?_
    refine s_val (.pointer (some ⟨bp, off + k * 1, none⟩)) (by kernel_rfl) (run_ixA (b := bp) (off := off) (c := cap) (n := l.length) (k := .i64) (j := (k : Int)) (e := 9) (sz := 1) rfl (by kernel_rfl) hA (by kernel_rfl) (by kernel_rfl) (by kernel_rfl) (by omega) (by omega) (by omega)) ?_
    refine s_old (.string (mkS x)) (a := ⟨bp, off + k * 1, none⟩) (by kernel_rfl) rfl (by kernel_rfl) (fun w hO => Reads.load strC_len (hv.on hO.below hO.size) hA k 0 hkl (by omega) _ (by rw [hx]; kernel_rfl)) ?_
    refine s_val (.string (mkS s)) (by kernel_rfl) (fun _ => by kernel_rfl) ?_
    cases h2 : Op.bytesLess x s with
    | true =>
      refine s_val (.bool true) (by kernel_rfl) (run_strlss (a := x) (b := s) rfl (by kernel_rfl) (by kernel_rfl) h2) ?_
      refine s_val (.bool true) (by kernel_rfl) (fun _ => by kernel_rfl) ?_
      refine s_nil ?_
      refine fin_seq ?_
      refine ok_true (by kernel_rfl) ?_
      refine ok_skip ?_
      refine fin_seq ?_
      refine ok_block ?_
      refine ok_region ?_
      refine s_val (.int .i64 (k : Int)) (by kernel_rfl) (fun _ => by kernel_rfl) ?_
      refine s_sum (k := .i64) (((k + 1 : Nat) : Int)) (by kernel_rfl) (fun _ => by kernel_rfl) (IntWalk.i64_in _ (by omega)) ?_
      refine s_val (.int .i64 ((k + 1 : Nat) : Int)) (by kernel_rfl) (fun _ => by kernel_rfl) ?_
      refine s_nil ?_
      refine fin_block ?_
      exact fin_round (m' := l.length - (k + 1)) (by omega) ⟨k + 1, _, ⟨by omega, mem_step hkl hrel.2 (by rw [hx]; exact h2)⟩, rfl, upds_self _ ⟨by kernel_rfl, by kernel_rfl, by kernel_rfl, trivial⟩, rfl⟩
    | false =>
      refine s_val (.bool false) (by kernel_rfl) (run_strlss (a := x) (b := s) rfl (by kernel_rfl) (by kernel_rfl) h2) ?_
      refine s_val (.bool false) (by kernel_rfl) (fun _ => by kernel_rfl) ?_
      refine s_nil ?_
      refine fin_seq ?_
      refine ok_false (by kernel_rfl) ?_
      refine ok_exit ?_
      refine fin_seq_exit ?_
      refine fin_round_exit ?_
      refine fin_block_exit ?_
      refine fin_seq ?_
      refine ok_seq ?_
      refine ok_seq ?_
      refine ok_region ?_
      refine s_val (.int .i64 (k : Int)) (by kernel_rfl) (fun _ => by kernel_rfl) ?_
      refine s_val (.slice A l.length cap) (by kernel_rfl) (fun _ => by kernel_rfl) ?_
      refine s_val (.int .i64 (l.length : Int)) (by kernel_rfl) (fun _ => by kernel_rfl) ?_
      refine s_dec (p := (k : Int) < (l.length : Int)) true (by kernel_rfl) (fun _ => by kernel_rfl) (decide_eq_true (h1)) ?_
      refine s_val (.bool true) (by kernel_rfl) (fun _ => by kernel_rfl) ?_
      refine s_val (.slice A l.length cap) (by kernel_rfl) (fun _ => by kernel_rfl) ?_
      refine s_val (.int .i64 (k : Int)) (by kernel_rfl) (fun _ => by kernel_rfl) ?_
      refine s_val (.pointer (some ⟨bp, off + k * 1, none⟩)) (by kernel_rfl) (run_ixA (b := bp) (off := off) (c := cap) (n := l.length) (k := .i64) (j := (k : Int)) (e := 9) (sz := 1) rfl (by kernel_rfl) hA (by kernel_rfl) (by kernel_rfl) (by kernel_rfl) (by omega) (by omega) (by omega)) ?_
      refine s_old (.string (mkS x)) (a := ⟨bp, off + k * 1, none⟩) (by kernel_rfl) rfl (by kernel_rfl) (fun w hO => Reads.load strC_len (hv.on hO.below hO.size) hA k 0 hkl (by omega) _ (by rw [hx]; kernel_rfl)) ?_
      refine s_val (.string (mkS s)) (by kernel_rfl) (fun _ => by kernel_rfl) ?_
      by_cases h3 : (x : List UInt8) = s
      · skip
        refine s_val (.bool true) (by kernel_rfl) (run_streql (a := x) (b := s) rfl (by kernel_rfl) (by kernel_rfl) (decide_eq_true (h3))) ?_
        refine s_val (.bool true) (by kernel_rfl) (fun _ => by kernel_rfl) ?_
        refine s_nil ?_
        refine fin_seq ?_
        refine ok_true (by kernel_rfl) ?_
        refine ok_seq ?_
        refine ok_region ?_
        refine s_val (.slice A l.length cap) (by kernel_rfl) (fun _ => by kernel_rfl) ?_
        refine s_val (.slice A l.length cap) (by kernel_rfl) (fun _ => by kernel_rfl) ?_
        refine s_nil ?_
        refine fin_seq ?_
        refine ok_ret ?_
        refine fin_seq_ret ?_
        refine fin_ret (.slice A l.length cap) Try.results42 (by kernel_rfl) ?_
        exact fun w hO => ⟨_, rfl, by rw [put_old hkl hrel.2 (by rw [hx]; exact h2) (by rw [hx]; exact h3)]; exact ⟨A, cap, rfl, hv.on hO.below hO.size, hcap, fun e => absurd e hl0⟩, hO.below⟩
      · skip
        refine s_val (.bool false) (by kernel_rfl) (run_streql (a := x) (b := s) rfl (by kernel_rfl) (by kernel_rfl) (decide_eq_false (h3))) ?_
        refine s_val (.bool false) (by kernel_rfl) (fun _ => by kernel_rfl) ?_
        refine s_nil ?_
        refine fin_seq ?_
        refine ok_false (by kernel_rfl) ?_
        refine ok_skip ?_
        refine fin_seq ?_
        refine ok_seq ?_
        refine ok_anyh (by kernel_rfl) ?_
        refine h_take 0 [] _ (.slice A l.length cap) rfl (by kernel_rfl) (by kernel_rfl) (by kernel_rfl) (pq_seq pq_body) (by kernel_rfl) (fun _ _ => by kernel_rfl) ?_
        refine h_take 1 [] _ (.int .i64 (k : Int)) rfl (by kernel_rfl) (by kernel_rfl) (by kernel_rfl) (pq_seq pq_body) (by kernel_rfl) (fun _ _ => by kernel_rfl) ?_
        refine h_take 2 [] _ (.slice (some ⟨bp, off, none⟩) k cap) rfl (by kernel_rfl) (by kernel_rfl) (by kernel_rfl) (pq_seq pq_body) (by kernel_rfl) (fun w _ => run_slhi (b := bp) (off := off) (n := l.length) (c := cap) (k := .i64) (j := (k : Int)) (sz := 1) rfl (by rw [← hA]; kernel_rfl) (by kernel_rfl) Try.underlying30 (by kernel_rfl) (by omega) (by omega) w) ?_
        refine h_take 4 [] _ (.string (mkS s)) rfl (by kernel_rfl) (by kernel_rfl) (by kernel_rfl) (pq_seq pq_body) (by kernel_rfl) (fun _ _ => by kernel_rfl) ?_
        refine h_take 7 [] _ (.slice A l.length cap) rfl (by kernel_rfl) (by kernel_rfl) (by kernel_rfl) (pq_seq pq_body) (by kernel_rfl) (fun _ _ => by kernel_rfl) ?_
        refine h_take 8 [] _ (.int .i64 (k : Int)) rfl (by kernel_rfl) (by kernel_rfl) (by kernel_rfl) (pq_seq pq_body) (by kernel_rfl) (fun _ _ => by kernel_rfl) ?_
        refine h_take 9 [] _ (.slice (some ⟨bp, off + (if cap = k then 0 else k * 1), none⟩) (l.length - k) (cap - k)) rfl (by kernel_rfl) (by kernel_rfl) (by kernel_rfl) (pq_seq pq_body) (by kernel_rfl) (fun w _ => run_sllo (b := bp) (off := off) (n := l.length) (c := cap) (k := .i64) (j := (k : Int)) (sz := 1) rfl (by rw [← hA]; kernel_rfl) (by kernel_rfl) Try.underlying30 (by kernel_rfl) (by omega) (by omega) w) ?_
        refine h_two 3 5 (by kernel_rfl) ?_ ?_
        · skip
          obtain ⟨i1, z1, ea1, eb1, ec1, ed1, ee1⟩ := str_info9
          refine hs_cast (L' := ([] : List Blk) ++ ([] : List Blk) ++ ([] : List Blk)) (by simp) ?_
          refine hl_append (E := ([] : List Blk)) (ob := ([] : List Blk)) (R := ([] : List Blk)) (sz := 1) _ rfl (by kernel_rfl) rfl Try.underlying30 ea1 eb1 ec1 ed1 (by kernel_rfl) (Sl.nil 9 1) (a := ⟨bp, off, none⟩) (m := k) (c := cap) (news := (strV (l.take k))) (by kernel_rfl) (by rw [strV_length, List.length_take]; omega) (fun w hO j u hj => ?_) (strV_cells _) (by unfold maxLen; first | omega | (simp only [List.length_append, List.length_take, List.length_drop, List.length_cons, List.length_nil]; omega)) (by rw [ee1]; first | omega | (simp only [List.length_append, List.length_take, List.length_drop, List.length_cons, List.length_nil]; omega)) (fun ob' w h => Own.sub (([] : List Blk) ++ ob' ++ ([] : List Blk)) (by simpa using h)) (fun va1 o1 hva1 => ?_)
          · exact cells_take (hv.on hO.below hO.size) hA hl0 k j u hj
          have hs1 : SlT va1 (l.take k) o1 := Sl.to hva1 (by first | (simp [List.length_take, List.length_drop]; done) | (simp [List.length_take, List.length_drop]; omega)) (by simp [strV])
          obtain ⟨V1, c1, rfl⟩ := hs1.form
          refine h_cast (L' := (o1 ++ ([] : List Blk)) ++ ([])) (by simp) ?_
          refine h_one 5 (by kernel_rfl) ?_
          refine hl_lit _ 9 #[.string (mkS s)] rfl (by kernel_rfl) rfl (fun w hO => Own.sub (o1 ++ ([] : List Blk)) hO) (fun _ => by kernel_rfl) (fun b1 => ?_)
          refine h_one 6 (by kernel_rfl) ?_
          obtain ⟨i2, z2, ea2, eb2, ec2, ed2, ee2⟩ := str_info9
          refine hs_cast (L' := (⟨b1, #[.string (mkS s)], 9⟩ :: ([] : List Blk)) ++ o1 ++ ([] : List Blk)) (by simp) ?_
          refine hl_append (E := (⟨b1, #[.string (mkS s)], 9⟩ :: ([] : List Blk))) (ob := o1) (R := ([] : List Blk)) (sz := 1) _ rfl (by kernel_rfl) rfl Try.underlying30 ea2 eb2 ec2 ed2 (by kernel_rfl) hs1 (a := ⟨b1, 0, none⟩) (m := 1) (c := 1) (news := [.string (mkS s)]) (by kernel_rfl) (by kernel_rfl) (fun w hO j u hj => ?_) (strV_one s) (by unfold maxLen; first | omega | (simp only [List.length_append, List.length_take, List.length_drop, List.length_cons, List.length_nil]; omega)) (by rw [ee2]; first | omega | (simp only [List.length_append, List.length_take, List.length_drop, List.length_cons, List.length_nil]; omega)) (fun ob' w h => Own.sub ((⟨b1, #[.string (mkS s)], 9⟩ :: ([] : List Blk)) ++ ob' ++ ([] : List Blk)) (by simpa using h)) (fun va2 o2 hva2 => ?_)
          · rw [add_off, cell_of_row w b1 (0 + j) #[.string (mkS s)] 9 _ (hO.held ⟨b1, #[.string (mkS s)], 9⟩ (by simp))]; simpa using hj
          have hs2 : SlT va2 ((l.take k) ++ [s]) o2 := Sl.to hva2 (by first | (simp [List.length_take, List.length_drop]; done) | (simp [List.length_take, List.length_drop]; omega)) (by simp [strV])
          obtain ⟨V2, c2, rfl⟩ := hs2.form
          refine h_cast (L' := (⟨b1, #[.string (mkS s)], 9⟩ :: (o2 ++ ([] : List Blk))) ++ ([])) (by simp) ?_
          refine h_one 10 (by kernel_rfl) ?_
          obtain ⟨i3, z3, ea3, eb3, ec3, ed3, ee3⟩ := str_info9
          refine hs_cast (L' := (⟨b1, #[.string (mkS s)], 9⟩ :: ([] : List Blk)) ++ o2 ++ ([] : List Blk)) (by simp) ?_
          refine hl_append (E := (⟨b1, #[.string (mkS s)], 9⟩ :: ([] : List Blk))) (ob := o2) (R := ([] : List Blk)) (sz := 1) _ rfl (by kernel_rfl) rfl Try.underlying30 ea3 eb3 ec3 ed3 (by kernel_rfl) hs2 (a := ⟨bp, off + (if cap = k then 0 else k * 1), none⟩) (m := (l.length - k)) (c := (cap - k)) (news := (strV (l.drop k))) (by kernel_rfl) (by rw [strV_length, List.length_drop]; omega) (fun w hO j u hj => ?_) (strV_cells _) (by unfold maxLen; first | omega | (simp only [List.length_append, List.length_take, List.length_drop, List.length_cons, List.length_nil]; omega)) (by rw [ee3]; first | omega | (simp only [List.length_append, List.length_take, List.length_drop, List.length_cons, List.length_nil]; omega)) (fun ob' w h => Own.sub ((⟨b1, #[.string (mkS s)], 9⟩ :: ([] : List Blk)) ++ ob' ++ ([] : List Blk)) (by simpa using h)) (fun va3 o3 hva3 => ?_)
          · exact cells_drop (hv.on hO.below hO.size) hA hl0 hcap k j u hj
          have hs3 : SlT va3 (((l.take k) ++ [s]) ++ l.drop k) o3 := Sl.to hva3 (by first | (simp [List.length_take, List.length_drop]; done) | (simp [List.length_take, List.length_drop]; omega)) (by simp [strV])
          obtain ⟨V3, c3, rfl⟩ := hs3.form
          refine h_cast (L' := (⟨b1, #[.string (mkS s)], 9⟩ :: (o3 ++ ([] : List Blk))) ++ ([])) (by simp) ?_
          refine h_take 11 (⟨b1, #[.string (mkS s)], 9⟩ :: (o3 ++ ([] : List Blk))) _ (.slice V3 ((((l.take k) ++ [s]) ++ l.drop k).length) c3) rfl (by kernel_rfl) (by kernel_rfl) (by kernel_rfl) (pq_seq pq_body) (by kernel_rfl) (fun _ _ => by kernel_rfl) ?_
          refine h_done (by kernel_rfl) ?_
          refine fin_seq ?_
          refine ok_ret ?_
          refine fin_ret (.slice V3 ((((l.take k) ++ [s]) ++ l.drop k).length) c3) Try.results42 (by kernel_rfl) ?_
          exact fun w hO => ⟨_, rfl, by rw [put_new hk6 hrel.2 (fun hk => ⟨by rw [hx]; exact h2, by rw [hx]; exact h3⟩)]; exact rdp_own hs3 hO (fun x hx => by simp [hx]) (by simp), hO.below⟩
        · skip
          refine hl_lit _ 9 #[.string (mkS s)] rfl (by kernel_rfl) rfl (fun w hO => Own.sub [] hO) (fun _ => by kernel_rfl) (fun b1 => ?_)
          refine h_one 3 (by kernel_rfl) ?_
          obtain ⟨i4, z4, ea4, eb4, ec4, ed4, ee4⟩ := str_info9
          refine hs_cast (L' := (⟨b1, #[.string (mkS s)], 9⟩ :: ([] : List Blk)) ++ ([] : List Blk) ++ ([] : List Blk)) (by simp) ?_
          refine hl_append (E := (⟨b1, #[.string (mkS s)], 9⟩ :: ([] : List Blk))) (ob := ([] : List Blk)) (R := ([] : List Blk)) (sz := 1) _ rfl (by kernel_rfl) rfl Try.underlying30 ea4 eb4 ec4 ed4 (by kernel_rfl) (Sl.nil 9 1) (a := ⟨bp, off, none⟩) (m := k) (c := cap) (news := (strV (l.take k))) (by kernel_rfl) (by rw [strV_length, List.length_take]; omega) (fun w hO j u hj => ?_) (strV_cells _) (by unfold maxLen; first | omega | (simp only [List.length_append, List.length_take, List.length_drop, List.length_cons, List.length_nil]; omega)) (by rw [ee4]; first | omega | (simp only [List.length_append, List.length_take, List.length_drop, List.length_cons, List.length_nil]; omega)) (fun ob' w h => Own.sub ((⟨b1, #[.string (mkS s)], 9⟩ :: ([] : List Blk)) ++ ob' ++ ([] : List Blk)) (by simpa using h)) (fun va4 o4 hva4 => ?_)
          · exact cells_take (hv.on hO.below hO.size) hA hl0 k j u hj
          have hs4 : SlT va4 (l.take k) o4 := Sl.to hva4 (by first | (simp [List.length_take, List.length_drop]; done) | (simp [List.length_take, List.length_drop]; omega)) (by simp [strV])
          obtain ⟨V4, c4, rfl⟩ := hs4.form
          refine h_cast (L' := (⟨b1, #[.string (mkS s)], 9⟩ :: (o4 ++ ([] : List Blk))) ++ ([])) (by simp) ?_
          refine h_one 6 (by kernel_rfl) ?_
          obtain ⟨i5, z5, ea5, eb5, ec5, ed5, ee5⟩ := str_info9
          refine hs_cast (L' := (⟨b1, #[.string (mkS s)], 9⟩ :: ([] : List Blk)) ++ o4 ++ ([] : List Blk)) (by simp) ?_
          refine hl_append (E := (⟨b1, #[.string (mkS s)], 9⟩ :: ([] : List Blk))) (ob := o4) (R := ([] : List Blk)) (sz := 1) _ rfl (by kernel_rfl) rfl Try.underlying30 ea5 eb5 ec5 ed5 (by kernel_rfl) hs4 (a := ⟨b1, 0, none⟩) (m := 1) (c := 1) (news := [.string (mkS s)]) (by kernel_rfl) (by kernel_rfl) (fun w hO j u hj => ?_) (strV_one s) (by unfold maxLen; first | omega | (simp only [List.length_append, List.length_take, List.length_drop, List.length_cons, List.length_nil]; omega)) (by rw [ee5]; first | omega | (simp only [List.length_append, List.length_take, List.length_drop, List.length_cons, List.length_nil]; omega)) (fun ob' w h => Own.sub ((⟨b1, #[.string (mkS s)], 9⟩ :: ([] : List Blk)) ++ ob' ++ ([] : List Blk)) (by simpa using h)) (fun va5 o5 hva5 => ?_)
          · rw [add_off, cell_of_row w b1 (0 + j) #[.string (mkS s)] 9 _ (hO.held ⟨b1, #[.string (mkS s)], 9⟩ (by simp))]; simpa using hj
          have hs5 : SlT va5 ((l.take k) ++ [s]) o5 := Sl.to hva5 (by first | (simp [List.length_take, List.length_drop]; done) | (simp [List.length_take, List.length_drop]; omega)) (by simp [strV])
          obtain ⟨V5, c5, rfl⟩ := hs5.form
          refine h_cast (L' := (⟨b1, #[.string (mkS s)], 9⟩ :: (o5 ++ ([] : List Blk))) ++ ([])) (by simp) ?_
          refine h_one 10 (by kernel_rfl) ?_
          obtain ⟨i6, z6, ea6, eb6, ec6, ed6, ee6⟩ := str_info9
          refine hs_cast (L' := (⟨b1, #[.string (mkS s)], 9⟩ :: ([] : List Blk)) ++ o5 ++ ([] : List Blk)) (by simp) ?_
          refine hl_append (E := (⟨b1, #[.string (mkS s)], 9⟩ :: ([] : List Blk))) (ob := o5) (R := ([] : List Blk)) (sz := 1) _ rfl (by kernel_rfl) rfl Try.underlying30 ea6 eb6 ec6 ed6 (by kernel_rfl) hs5 (a := ⟨bp, off + (if cap = k then 0 else k * 1), none⟩) (m := (l.length - k)) (c := (cap - k)) (news := (strV (l.drop k))) (by kernel_rfl) (by rw [strV_length, List.length_drop]; omega) (fun w hO j u hj => ?_) (strV_cells _) (by unfold maxLen; first | omega | (simp only [List.length_append, List.length_take, List.length_drop, List.length_cons, List.length_nil]; omega)) (by rw [ee6]; first | omega | (simp only [List.length_append, List.length_take, List.length_drop, List.length_cons, List.length_nil]; omega)) (fun ob' w h => Own.sub ((⟨b1, #[.string (mkS s)], 9⟩ :: ([] : List Blk)) ++ ob' ++ ([] : List Blk)) (by simpa using h)) (fun va6 o6 hva6 => ?_)
          · exact cells_drop (hv.on hO.below hO.size) hA hl0 hcap k j u hj
          have hs6 : SlT va6 (((l.take k) ++ [s]) ++ l.drop k) o6 := Sl.to hva6 (by first | (simp [List.length_take, List.length_drop]; done) | (simp [List.length_take, List.length_drop]; omega)) (by simp [strV])
          obtain ⟨V6, c6, rfl⟩ := hs6.form
          refine h_cast (L' := (⟨b1, #[.string (mkS s)], 9⟩ :: (o6 ++ ([] : List Blk))) ++ ([])) (by simp) ?_
          refine h_take 11 (⟨b1, #[.string (mkS s)], 9⟩ :: (o6 ++ ([] : List Blk))) _ (.slice V6 ((((l.take k) ++ [s]) ++ l.drop k).length) c6) rfl (by kernel_rfl) (by kernel_rfl) (by kernel_rfl) (pq_seq pq_body) (by kernel_rfl) (fun _ _ => by kernel_rfl) ?_
          refine h_done (by kernel_rfl) ?_
          refine fin_seq ?_
          refine ok_ret ?_
          refine fin_ret (.slice V6 ((((l.take k) ++ [s]) ++ l.drop k).length) c6) Try.results42 (by kernel_rfl) ?_
          exact fun w hO => ⟨_, rfl, by rw [put_new hk6 hrel.2 (fun hk => ⟨by rw [hx]; exact h2, by rw [hx]; exact h3⟩)]; exact rdp_own hs6 hO (fun x hx => by simp [hx]) (by simp), hO.below⟩
  · skip
    refine s_dec (p := (k : Int) < (l.length : Int)) false (by kernel_rfl) (fun _ => by kernel_rfl) (decide_eq_false (h1)) ?_
    refine s_val (.bool false) (by kernel_rfl) (fun _ => by kernel_rfl) ?_
    refine s_skip (by kernel_rfl) ?_
    refine s_skip (by kernel_rfl) ?_
    refine s_skip (by kernel_rfl) ?_
    refine s_skip (by kernel_rfl) ?_
    refine s_skip (by kernel_rfl) ?_
    refine s_skip (by kernel_rfl) ?_
    refine s_val (.bool false) (by kernel_rfl) (fun _ => by kernel_rfl) ?_
    refine s_nil ?_
    refine fin_seq ?_
    refine ok_false (by kernel_rfl) ?_
    refine ok_exit ?_
    refine fin_seq_exit ?_
    refine fin_round_exit ?_
    refine fin_block_exit ?_
    refine fin_seq ?_
    refine ok_seq ?_
    refine ok_seq ?_
    refine ok_region ?_
    refine s_val (.int .i64 (k : Int)) (by kernel_rfl) (fun _ => by kernel_rfl) ?_
    refine s_val (.slice A l.length cap) (by kernel_rfl) (fun _ => by kernel_rfl) ?_
    refine s_val (.int .i64 (l.length : Int)) (by kernel_rfl) (fun _ => by kernel_rfl) ?_
    refine s_dec (p := (k : Int) < (l.length : Int)) false (by kernel_rfl) (fun _ => by kernel_rfl) (decide_eq_false (h1)) ?_
    refine s_val (.bool false) (by kernel_rfl) (fun _ => by kernel_rfl) ?_
    refine s_skip (by kernel_rfl) ?_
    refine s_skip (by kernel_rfl) ?_
    refine s_skip (by kernel_rfl) ?_
    refine s_skip (by kernel_rfl) ?_
    refine s_skip (by kernel_rfl) ?_
    refine s_skip (by kernel_rfl) ?_
    refine s_val (.bool false) (by kernel_rfl) (fun _ => by kernel_rfl) ?_
    refine s_nil ?_
    refine fin_seq ?_
    refine ok_false (by kernel_rfl) ?_
    refine ok_skip ?_
    refine fin_seq ?_
    refine ok_seq ?_
    refine ok_anyh (by kernel_rfl) ?_
    refine h_take 0 [] _ (.slice A l.length cap) rfl (by kernel_rfl) (by kernel_rfl) (by kernel_rfl) (pq_seq pq_body) (by kernel_rfl) (fun _ _ => by kernel_rfl) ?_
    refine h_take 1 [] _ (.int .i64 (k : Int)) rfl (by kernel_rfl) (by kernel_rfl) (by kernel_rfl) (pq_seq pq_body) (by kernel_rfl) (fun _ _ => by kernel_rfl) ?_
    refine h_take 2 [] _ (.slice (some ⟨bp, off, none⟩) k cap) rfl (by kernel_rfl) (by kernel_rfl) (by kernel_rfl) (pq_seq pq_body) (by kernel_rfl) (fun w _ => run_slhi (b := bp) (off := off) (n := l.length) (c := cap) (k := .i64) (j := (k : Int)) (sz := 1) rfl (by rw [← hA]; kernel_rfl) (by kernel_rfl) Try.underlying30 (by kernel_rfl) (by omega) (by omega) w) ?_
    refine h_take 4 [] _ (.string (mkS s)) rfl (by kernel_rfl) (by kernel_rfl) (by kernel_rfl) (pq_seq pq_body) (by kernel_rfl) (fun _ _ => by kernel_rfl) ?_
    refine h_take 7 [] _ (.slice A l.length cap) rfl (by kernel_rfl) (by kernel_rfl) (by kernel_rfl) (pq_seq pq_body) (by kernel_rfl) (fun _ _ => by kernel_rfl) ?_
    refine h_take 8 [] _ (.int .i64 (k : Int)) rfl (by kernel_rfl) (by kernel_rfl) (by kernel_rfl) (pq_seq pq_body) (by kernel_rfl) (fun _ _ => by kernel_rfl) ?_
    refine h_take 9 [] _ (.slice (some ⟨bp, off + (if cap = k then 0 else k * 1), none⟩) (l.length - k) (cap - k)) rfl (by kernel_rfl) (by kernel_rfl) (by kernel_rfl) (pq_seq pq_body) (by kernel_rfl) (fun w _ => run_sllo (b := bp) (off := off) (n := l.length) (c := cap) (k := .i64) (j := (k : Int)) (sz := 1) rfl (by rw [← hA]; kernel_rfl) (by kernel_rfl) Try.underlying30 (by kernel_rfl) (by omega) (by omega) w) ?_
    refine h_two 3 5 (by kernel_rfl) ?_ ?_
    · skip
      obtain ⟨i7, z7, ea7, eb7, ec7, ed7, ee7⟩ := str_info9
      refine hs_cast (L' := ([] : List Blk) ++ ([] : List Blk) ++ ([] : List Blk)) (by simp) ?_
      refine hl_append (E := ([] : List Blk)) (ob := ([] : List Blk)) (R := ([] : List Blk)) (sz := 1) _ rfl (by kernel_rfl) rfl Try.underlying30 ea7 eb7 ec7 ed7 (by kernel_rfl) (Sl.nil 9 1) (a := ⟨bp, off, none⟩) (m := k) (c := cap) (news := (strV (l.take k))) (by kernel_rfl) (by rw [strV_length, List.length_take]; omega) (fun w hO j u hj => ?_) (strV_cells _) (by unfold maxLen; first | omega | (simp only [List.length_append, List.length_take, List.length_drop, List.length_cons, List.length_nil]; omega)) (by rw [ee7]; first | omega | (simp only [List.length_append, List.length_take, List.length_drop, List.length_cons, List.length_nil]; omega)) (fun ob' w h => Own.sub (([] : List Blk) ++ ob' ++ ([] : List Blk)) (by simpa using h)) (fun va7 o7 hva7 => ?_)
      · exact cells_take (hv.on hO.below hO.size) hA hl0 k j u hj
      have hs7 : SlT va7 (l.take k) o7 := Sl.to hva7 (by first | (simp [List.length_take, List.length_drop]; done) | (simp [List.length_take, List.length_drop]; omega)) (by simp [strV])
      obtain ⟨V7, c7, rfl⟩ := hs7.form
      refine h_cast (L' := (o7 ++ ([] : List Blk)) ++ ([])) (by simp) ?_
      refine h_one 5 (by kernel_rfl) ?_
      refine hl_lit _ 9 #[.string (mkS s)] rfl (by kernel_rfl) rfl (fun w hO => Own.sub (o7 ++ ([] : List Blk)) hO) (fun _ => by kernel_rfl) (fun b1 => ?_)
      refine h_one 6 (by kernel_rfl) ?_
      obtain ⟨i8, z8, ea8, eb8, ec8, ed8, ee8⟩ := str_info9
      refine hs_cast (L' := (⟨b1, #[.string (mkS s)], 9⟩ :: ([] : List Blk)) ++ o7 ++ ([] : List Blk)) (by simp) ?_
      refine hl_append (E := (⟨b1, #[.string (mkS s)], 9⟩ :: ([] : List Blk))) (ob := o7) (R := ([] : List Blk)) (sz := 1) _ rfl (by kernel_rfl) rfl Try.underlying30 ea8 eb8 ec8 ed8 (by kernel_rfl) hs7 (a := ⟨b1, 0, none⟩) (m := 1) (c := 1) (news := [.string (mkS s)]) (by kernel_rfl) (by kernel_rfl) (fun w hO j u hj => ?_) (strV_one s) (by unfold maxLen; first | omega | (simp only [List.length_append, List.length_take, List.length_drop, List.length_cons, List.length_nil]; omega)) (by rw [ee8]; first | omega | (simp only [List.length_append, List.length_take, List.length_drop, List.length_cons, List.length_nil]; omega)) (fun ob' w h => Own.sub ((⟨b1, #[.string (mkS s)], 9⟩ :: ([] : List Blk)) ++ ob' ++ ([] : List Blk)) (by simpa using h)) (fun va8 o8 hva8 => ?_)
      · rw [add_off, cell_of_row w b1 (0 + j) #[.string (mkS s)] 9 _ (hO.held ⟨b1, #[.string (mkS s)], 9⟩ (by simp))]; simpa using hj
      have hs8 : SlT va8 ((l.take k) ++ [s]) o8 := Sl.to hva8 (by first | (simp [List.length_take, List.length_drop]; done) | (simp [List.length_take, List.length_drop]; omega)) (by simp [strV])
      obtain ⟨V8, c8, rfl⟩ := hs8.form
      refine h_cast (L' := (⟨b1, #[.string (mkS s)], 9⟩ :: (o8 ++ ([] : List Blk))) ++ ([])) (by simp) ?_
      refine h_one 10 (by kernel_rfl) ?_
      obtain ⟨i9, z9, ea9, eb9, ec9, ed9, ee9⟩ := str_info9
      refine hs_cast (L' := (⟨b1, #[.string (mkS s)], 9⟩ :: ([] : List Blk)) ++ o8 ++ ([] : List Blk)) (by simp) ?_
      refine hl_append (E := (⟨b1, #[.string (mkS s)], 9⟩ :: ([] : List Blk))) (ob := o8) (R := ([] : List Blk)) (sz := 1) _ rfl (by kernel_rfl) rfl Try.underlying30 ea9 eb9 ec9 ed9 (by kernel_rfl) hs8 (a := ⟨bp, off + (if cap = k then 0 else k * 1), none⟩) (m := (l.length - k)) (c := (cap - k)) (news := (strV (l.drop k))) (by kernel_rfl) (by rw [strV_length, List.length_drop]; omega) (fun w hO j u hj => ?_) (strV_cells _) (by unfold maxLen; first | omega | (simp only [List.length_append, List.length_take, List.length_drop, List.length_cons, List.length_nil]; omega)) (by rw [ee9]; first | omega | (simp only [List.length_append, List.length_take, List.length_drop, List.length_cons, List.length_nil]; omega)) (fun ob' w h => Own.sub ((⟨b1, #[.string (mkS s)], 9⟩ :: ([] : List Blk)) ++ ob' ++ ([] : List Blk)) (by simpa using h)) (fun va9 o9 hva9 => ?_)
      · exact cells_drop (hv.on hO.below hO.size) hA hl0 hcap k j u hj
      have hs9 : SlT va9 (((l.take k) ++ [s]) ++ l.drop k) o9 := Sl.to hva9 (by first | (simp [List.length_take, List.length_drop]; done) | (simp [List.length_take, List.length_drop]; omega)) (by simp [strV])
      obtain ⟨V9, c9, rfl⟩ := hs9.form
      refine h_cast (L' := (⟨b1, #[.string (mkS s)], 9⟩ :: (o9 ++ ([] : List Blk))) ++ ([])) (by simp) ?_
      refine h_take 11 (⟨b1, #[.string (mkS s)], 9⟩ :: (o9 ++ ([] : List Blk))) _ (.slice V9 ((((l.take k) ++ [s]) ++ l.drop k).length) c9) rfl (by kernel_rfl) (by kernel_rfl) (by kernel_rfl) (pq_seq pq_body) (by kernel_rfl) (fun _ _ => by kernel_rfl) ?_
      refine h_done (by kernel_rfl) ?_
      refine fin_seq ?_
      refine ok_ret ?_
      refine fin_ret (.slice V9 ((((l.take k) ++ [s]) ++ l.drop k).length) c9) Try.results42 (by kernel_rfl) ?_
      exact fun w hO => ⟨_, rfl, by rw [put_new hk6 hrel.2 (fun hk => absurd hk (by omega))]; exact rdp_own hs9 hO (fun x hx => by simp [hx]) (by simp), hO.below⟩
    · skip
      refine hl_lit _ 9 #[.string (mkS s)] rfl (by kernel_rfl) rfl (fun w hO => Own.sub [] hO) (fun _ => by kernel_rfl) (fun b1 => ?_)
      refine h_one 3 (by kernel_rfl) ?_
      obtain ⟨i10, z10, ea10, eb10, ec10, ed10, ee10⟩ := str_info9
      refine hs_cast (L' := (⟨b1, #[.string (mkS s)], 9⟩ :: ([] : List Blk)) ++ ([] : List Blk) ++ ([] : List Blk)) (by simp) ?_
      refine hl_append (E := (⟨b1, #[.string (mkS s)], 9⟩ :: ([] : List Blk))) (ob := ([] : List Blk)) (R := ([] : List Blk)) (sz := 1) _ rfl (by kernel_rfl) rfl Try.underlying30 ea10 eb10 ec10 ed10 (by kernel_rfl) (Sl.nil 9 1) (a := ⟨bp, off, none⟩) (m := k) (c := cap) (news := (strV (l.take k))) (by kernel_rfl) (by rw [strV_length, List.length_take]; omega) (fun w hO j u hj => ?_) (strV_cells _) (by unfold maxLen; first | omega | (simp only [List.length_append, List.length_take, List.length_drop, List.length_cons, List.length_nil]; omega)) (by rw [ee10]; first | omega | (simp only [List.length_append, List.length_take, List.length_drop, List.length_cons, List.length_nil]; omega)) (fun ob' w h => Own.sub ((⟨b1, #[.string (mkS s)], 9⟩ :: ([] : List Blk)) ++ ob' ++ ([] : List Blk)) (by simpa using h)) (fun va10 o10 hva10 => ?_)
      · exact cells_take (hv.on hO.below hO.size) hA hl0 k j u hj
      have hs10 : SlT va10 (l.take k) o10 := Sl.to hva10 (by first | (simp [List.length_take, List.length_drop]; done) | (simp [List.length_take, List.length_drop]; omega)) (by simp [strV])
      obtain ⟨V10, c10, rfl⟩ := hs10.form
      refine h_cast (L' := (⟨b1, #[.string (mkS s)], 9⟩ :: (o10 ++ ([] : List Blk))) ++ ([])) (by simp) ?_
      refine h_one 6 (by kernel_rfl) ?_
      obtain ⟨i11, z11, ea11, eb11, ec11, ed11, ee11⟩ := str_info9
      refine hs_cast (L' := (⟨b1, #[.string (mkS s)], 9⟩ :: ([] : List Blk)) ++ o10 ++ ([] : List Blk)) (by simp) ?_
      refine hl_append (E := (⟨b1, #[.string (mkS s)], 9⟩ :: ([] : List Blk))) (ob := o10) (R := ([] : List Blk)) (sz := 1) _ rfl (by kernel_rfl) rfl Try.underlying30 ea11 eb11 ec11 ed11 (by kernel_rfl) hs10 (a := ⟨b1, 0, none⟩) (m := 1) (c := 1) (news := [.string (mkS s)]) (by kernel_rfl) (by kernel_rfl) (fun w hO j u hj => ?_) (strV_one s) (by unfold maxLen; first | omega | (simp only [List.length_append, List.length_take, List.length_drop, List.length_cons, List.length_nil]; omega)) (by rw [ee11]; first | omega | (simp only [List.length_append, List.length_take, List.length_drop, List.length_cons, List.length_nil]; omega)) (fun ob' w h => Own.sub ((⟨b1, #[.string (mkS s)], 9⟩ :: ([] : List Blk)) ++ ob' ++ ([] : List Blk)) (by simpa using h)) (fun va11 o11 hva11 => ?_)
      · rw [add_off, cell_of_row w b1 (0 + j) #[.string (mkS s)] 9 _ (hO.held ⟨b1, #[.string (mkS s)], 9⟩ (by simp))]; simpa using hj
      have hs11 : SlT va11 ((l.take k) ++ [s]) o11 := Sl.to hva11 (by first | (simp [List.length_take, List.length_drop]; done) | (simp [List.length_take, List.length_drop]; omega)) (by simp [strV])
      obtain ⟨V11, c11, rfl⟩ := hs11.form
      refine h_cast (L' := (⟨b1, #[.string (mkS s)], 9⟩ :: (o11 ++ ([] : List Blk))) ++ ([])) (by simp) ?_
      refine h_one 10 (by kernel_rfl) ?_
      obtain ⟨i12, z12, ea12, eb12, ec12, ed12, ee12⟩ := str_info9
      refine hs_cast (L' := (⟨b1, #[.string (mkS s)], 9⟩ :: ([] : List Blk)) ++ o11 ++ ([] : List Blk)) (by simp) ?_
      refine hl_append (E := (⟨b1, #[.string (mkS s)], 9⟩ :: ([] : List Blk))) (ob := o11) (R := ([] : List Blk)) (sz := 1) _ rfl (by kernel_rfl) rfl Try.underlying30 ea12 eb12 ec12 ed12 (by kernel_rfl) hs11 (a := ⟨bp, off + (if cap = k then 0 else k * 1), none⟩) (m := (l.length - k)) (c := (cap - k)) (news := (strV (l.drop k))) (by kernel_rfl) (by rw [strV_length, List.length_drop]; omega) (fun w hO j u hj => ?_) (strV_cells _) (by unfold maxLen; first | omega | (simp only [List.length_append, List.length_take, List.length_drop, List.length_cons, List.length_nil]; omega)) (by rw [ee12]; first | omega | (simp only [List.length_append, List.length_take, List.length_drop, List.length_cons, List.length_nil]; omega)) (fun ob' w h => Own.sub ((⟨b1, #[.string (mkS s)], 9⟩ :: ([] : List Blk)) ++ ob' ++ ([] : List Blk)) (by simpa using h)) (fun va12 o12 hva12 => ?_)
      · exact cells_drop (hv.on hO.below hO.size) hA hl0 hcap k j u hj
      have hs12 : SlT va12 (((l.take k) ++ [s]) ++ l.drop k) o12 := Sl.to hva12 (by first | (simp [List.length_take, List.length_drop]; done) | (simp [List.length_take, List.length_drop]; omega)) (by simp [strV])
      obtain ⟨V12, c12, rfl⟩ := hs12.form
      refine h_cast (L' := (⟨b1, #[.string (mkS s)], 9⟩ :: (o12 ++ ([] : List Blk))) ++ ([])) (by simp) ?_
      refine h_take 11 (⟨b1, #[.string (mkS s)], 9⟩ :: (o12 ++ ([] : List Blk))) _ (.slice V12 ((((l.take k) ++ [s]) ++ l.drop k).length) c12) rfl (by kernel_rfl) (by kernel_rfl) (by kernel_rfl) (pq_seq pq_body) (by kernel_rfl) (fun _ _ => by kernel_rfl) ?_
      refine h_done (by kernel_rfl) ?_
      refine fin_seq ?_
      refine ok_ret ?_
      refine fin_ret (.slice V12 ((((l.take k) ++ [s]) ++ l.drop k).length) c12) Try.results42 (by kernel_rfl) ?_
      exact fun w hO => ⟨_, rfl, by rw [put_new hk6 hrel.2 (fun hk => absurd hk (by omega))]; exact rdp_own hs12 hO (fun x hx => by simp [hx]) (by simp), hO.below⟩
theorem r11Put_nil (s : List UInt8) (W : World) : Calls Try.prog 42 #[.slice none 0 0, .string (mkS s)] W fun e w' => ∃ v, e = .returned v ∧ RdP w' v (putT [] s) ∧ Below W.heap.size W w' := by
  refine calls_ok (n := 44) Try.func42 rfl (by kernel_rfl) (by kernel_rfl) ?_
  refine ok_seq ?_
  refine ok_region ?_
  refine s_val (.slice none 0 0) (by kernel_rfl) (fun _ => by kernel_rfl) ?_
  refine s_nil ?_
  refine fin_seq ?_
  refine ok_seq ?_
  refine ok_region ?_
  refine s_val (.int .i64 0) (by kernel_rfl) (fun _ => by kernel_rfl) ?_
  refine s_nil ?_
  refine fin_seq ?_
  refine ok_seq ?_
  refine ok_block ?_
  refine ok_loop (fun L f m => ∃ (k : Nat) (j : Nat → Value), (True) ∧ L = [] ∧ f = upds j [(0, .slice none 0 0), (1, .string (mkS s)), (5, .int .i64 0)] ∧ m = 0) (0) ⟨0, _, trivial, rfl, upds_self _ ⟨by kernel_rfl, by kernel_rfl, by kernel_rfl, trivial⟩, rfl⟩ ?_
  rintro L f m ⟨k, j, hrel, rfl, rfl, rfl⟩
  refine ok_seq ?_
  refine ok_seq ?_
  refine ok_region ?_
  refine s_val (.int .i64 0) (by kernel_rfl) (fun _ => by kernel_rfl) ?_
  refine s_val (.slice none 0 0) (by kernel_rfl) (fun _ => by kernel_rfl) ?_
  refine s_val (.int .i64 (0 : Int)) (by kernel_rfl) (fun _ => by kernel_rfl) ?_
  refine s_val (.bool false) (by kernel_rfl) (fun _ => by kernel_rfl) ?_
  refine s_val (.bool false) (by kernel_rfl) (fun _ => by kernel_rfl) ?_
  refine s_skip (by kernel_rfl) ?_
  refine s_skip (by kernel_rfl) ?_
  refine s_skip (by kernel_rfl) ?_
  refine s_skip (by kernel_rfl) ?_
  refine s_skip (by kernel_rfl) ?_
  refine s_skip (by kernel_rfl) ?_
  refine s_val (.bool false) (by kernel_rfl) (fun _ => by kernel_rfl) ?_
  refine s_nil ?_
  refine fin_seq ?_
  refine ok_false (by kernel_rfl) ?_
  refine ok_exit ?_
  refine fin_seq_exit ?_
  refine fin_round_exit ?_
  refine fin_block_exit ?_
  refine fin_seq ?_
  refine ok_seq ?_
  refine ok_seq ?_
  refine ok_region ?_
  refine s_val (.int .i64 0) (by kernel_rfl) (fun _ => by kernel_rfl) ?_
  refine s_val (.slice none 0 0) (by kernel_rfl) (fun _ => by kernel_rfl) ?_
  refine s_val (.int .i64 (0 : Int)) (by kernel_rfl) (fun _ => by kernel_rfl) ?_
  refine s_val (.bool false) (by kernel_rfl) (fun _ => by kernel_rfl) ?_
  refine s_val (.bool false) (by kernel_rfl) (fun _ => by kernel_rfl) ?_
  refine s_skip (by kernel_rfl) ?_
  refine s_skip (by kernel_rfl) ?_
  refine s_skip (by kernel_rfl) ?_
  refine s_skip (by kernel_rfl) ?_
  refine s_skip (by kernel_rfl) ?_
  refine s_skip (by kernel_rfl) ?_
  refine s_val (.bool false) (by kernel_rfl) (fun _ => by kernel_rfl) ?_
  refine s_nil ?_
  refine fin_seq ?_
  refine ok_false (by kernel_rfl) ?_
  refine ok_skip ?_
  refine fin_seq ?_
  refine ok_seq ?_
  refine ok_anyh (by kernel_rfl) ?_
  refine h_take 0 [] _ (.slice none 0 0) rfl (by kernel_rfl) (by kernel_rfl) (by kernel_rfl) (pq_seq pq_body) (by kernel_rfl) (fun _ _ => by kernel_rfl) ?_
  refine h_take 1 [] _ (.int .i64 0) rfl (by kernel_rfl) (by kernel_rfl) (by kernel_rfl) (pq_seq pq_body) (by kernel_rfl) (fun _ _ => by kernel_rfl) ?_
  refine h_take 2 [] _ (.slice none 0 0) rfl (by kernel_rfl) (by kernel_rfl) (by kernel_rfl) (pq_seq pq_body) (by kernel_rfl) (fun w _ => fun w => by kernel_rfl w) ?_
  refine h_take 4 [] _ (.string (mkS s)) rfl (by kernel_rfl) (by kernel_rfl) (by kernel_rfl) (pq_seq pq_body) (by kernel_rfl) (fun _ _ => by kernel_rfl) ?_
  refine h_take 7 [] _ (.slice none 0 0) rfl (by kernel_rfl) (by kernel_rfl) (by kernel_rfl) (pq_seq pq_body) (by kernel_rfl) (fun _ _ => by kernel_rfl) ?_
  refine h_take 8 [] _ (.int .i64 0) rfl (by kernel_rfl) (by kernel_rfl) (by kernel_rfl) (pq_seq pq_body) (by kernel_rfl) (fun _ _ => by kernel_rfl) ?_
  refine h_take 9 [] _ (.slice none 0 0) rfl (by kernel_rfl) (by kernel_rfl) (by kernel_rfl) (pq_seq pq_body) (by kernel_rfl) (fun w _ => fun w => by kernel_rfl w) ?_
  refine h_two 3 5 (by kernel_rfl) ?_ ?_
  · skip
    obtain ⟨i1, z1, ea1, eb1, ec1, ed1, ee1⟩ := str_info9
    refine hl_append_nil (ob := ([] : List Blk)) (sz := 1) _ rfl (by kernel_rfl) (fun w hO => Own.sub ([] : List Blk) (by simpa using hO)) rfl Try.underlying30 ea1 (by kernel_rfl) (Sl.nil 9 1) rfl ?_
    refine h_cast (L' := [] ++ ([])) (by simp) ?_
    refine h_one 5 (by kernel_rfl) ?_
    refine hl_lit _ 9 #[.string (mkS s)] rfl (by kernel_rfl) rfl (fun w hO => Own.sub [] hO) (fun _ => by kernel_rfl) (fun b1 => ?_)
    refine h_one 6 (by kernel_rfl) ?_
    obtain ⟨i2, z2, ea2, eb2, ec2, ed2, ee2⟩ := str_info9
    refine hs_cast (L' := (⟨b1, #[.string (mkS s)], 9⟩ :: ([] : List Blk)) ++ ([] : List Blk) ++ ([] : List Blk)) (by simp) ?_
    refine hl_append (E := (⟨b1, #[.string (mkS s)], 9⟩ :: ([] : List Blk))) (ob := ([] : List Blk)) (R := ([] : List Blk)) (sz := 1) _ rfl (by kernel_rfl) rfl Try.underlying30 ea2 eb2 ec2 ed2 (by kernel_rfl) (Sl.nil 9 1) (a := ⟨b1, 0, none⟩) (m := 1) (c := 1) (news := [.string (mkS s)]) (by kernel_rfl) (by kernel_rfl) (fun w hO j u hj => ?_) (strV_one s) (by unfold maxLen; first | omega | (simp only [List.length_append, List.length_take, List.length_drop, List.length_cons, List.length_nil]; omega)) (by rw [ee2]; first | omega | (simp only [List.length_append, List.length_take, List.length_drop, List.length_cons, List.length_nil]; omega)) (fun ob' w h => Own.sub ((⟨b1, #[.string (mkS s)], 9⟩ :: ([] : List Blk)) ++ ob' ++ ([] : List Blk)) (by simpa using h)) (fun va2 o2 hva2 => ?_)
    · rw [add_off, cell_of_row w b1 (0 + j) #[.string (mkS s)] 9 _ (hO.held ⟨b1, #[.string (mkS s)], 9⟩ (by simp))]; simpa using hj
    have hs2 : SlT va2 ([s]) o2 := Sl.to hva2 (by first | (simp [List.length_take, List.length_drop]; done) | (simp [List.length_take, List.length_drop]; omega)) (by simp [strV])
    obtain ⟨V2, c2, rfl⟩ := hs2.form
    refine h_cast (L' := (⟨b1, #[.string (mkS s)], 9⟩ :: (o2 ++ ([] : List Blk))) ++ ([])) (by simp) ?_
    refine h_one 10 (by kernel_rfl) ?_
    obtain ⟨i3, z3, ea3, eb3, ec3, ed3, ee3⟩ := str_info9
    refine hl_append_nil (ob := o2) (sz := 1) _ rfl (by kernel_rfl) (fun w hO => Own.sub (⟨b1, #[.string (mkS s)], 9⟩ :: (o2 ++ ([] : List Blk))) (by simpa using hO)) rfl Try.underlying30 ea3 (by kernel_rfl) hs2 rfl ?_
    refine h_cast (L' := (⟨b1, #[.string (mkS s)], 9⟩ :: (o2 ++ ([] : List Blk))) ++ ([])) (by simp) ?_
    refine h_take 11 (⟨b1, #[.string (mkS s)], 9⟩ :: (o2 ++ ([] : List Blk))) _ (.slice V2 (([s]).length) c2) rfl (by kernel_rfl) (by kernel_rfl) (by kernel_rfl) (pq_seq pq_body) (by kernel_rfl) (fun _ _ => by kernel_rfl) ?_
    refine h_done (by kernel_rfl) ?_
    refine fin_seq ?_
    refine ok_ret ?_
    refine fin_ret (.slice V2 (([s]).length) c2) Try.results42 (by kernel_rfl) ?_
    exact fun w hO => ⟨_, rfl, rdp_own hs2 hO (fun x hx => by simp [hx]) (by simp [putT]), hO.below⟩
  · skip
    refine hl_lit _ 9 #[.string (mkS s)] rfl (by kernel_rfl) rfl (fun w hO => Own.sub [] hO) (fun _ => by kernel_rfl) (fun b1 => ?_)
    refine h_one 3 (by kernel_rfl) ?_
    obtain ⟨i4, z4, ea4, eb4, ec4, ed4, ee4⟩ := str_info9
    refine hl_append_nil (ob := ([] : List Blk)) (sz := 1) _ rfl (by kernel_rfl) (fun w hO => Own.sub (⟨b1, #[.string (mkS s)], 9⟩ :: ([] : List Blk)) (by simpa using hO)) rfl Try.underlying30 ea4 (by kernel_rfl) (Sl.nil 9 1) rfl ?_
    refine h_cast (L' := [⟨b1, #[.string (mkS s)], 9⟩] ++ ([])) (by simp) ?_
    refine h_one 6 (by kernel_rfl) ?_
    obtain ⟨i5, z5, ea5, eb5, ec5, ed5, ee5⟩ := str_info9
    refine hs_cast (L' := (⟨b1, #[.string (mkS s)], 9⟩ :: ([] : List Blk)) ++ ([] : List Blk) ++ ([] : List Blk)) (by simp) ?_
    refine hl_append (E := (⟨b1, #[.string (mkS s)], 9⟩ :: ([] : List Blk))) (ob := ([] : List Blk)) (R := ([] : List Blk)) (sz := 1) _ rfl (by kernel_rfl) rfl Try.underlying30 ea5 eb5 ec5 ed5 (by kernel_rfl) (Sl.nil 9 1) (a := ⟨b1, 0, none⟩) (m := 1) (c := 1) (news := [.string (mkS s)]) (by kernel_rfl) (by kernel_rfl) (fun w hO j u hj => ?_) (strV_one s) (by unfold maxLen; first | omega | (simp only [List.length_append, List.length_take, List.length_drop, List.length_cons, List.length_nil]; omega)) (by rw [ee5]; first | omega | (simp only [List.length_append, List.length_take, List.length_drop, List.length_cons, List.length_nil]; omega)) (fun ob' w h => Own.sub ((⟨b1, #[.string (mkS s)], 9⟩ :: ([] : List Blk)) ++ ob' ++ ([] : List Blk)) (by simpa using h)) (fun va5 o5 hva5 => ?_)
    · rw [add_off, cell_of_row w b1 (0 + j) #[.string (mkS s)] 9 _ (hO.held ⟨b1, #[.string (mkS s)], 9⟩ (by simp))]; simpa using hj
    have hs5 : SlT va5 ([s]) o5 := Sl.to hva5 (by first | (simp [List.length_take, List.length_drop]; done) | (simp [List.length_take, List.length_drop]; omega)) (by simp [strV])
    obtain ⟨V5, c5, rfl⟩ := hs5.form
    refine h_cast (L' := (⟨b1, #[.string (mkS s)], 9⟩ :: (o5 ++ ([] : List Blk))) ++ ([])) (by simp) ?_
    refine h_one 10 (by kernel_rfl) ?_
    obtain ⟨i6, z6, ea6, eb6, ec6, ed6, ee6⟩ := str_info9
    refine hl_append_nil (ob := o5) (sz := 1) _ rfl (by kernel_rfl) (fun w hO => Own.sub (⟨b1, #[.string (mkS s)], 9⟩ :: (o5 ++ ([] : List Blk))) (by simpa using hO)) rfl Try.underlying30 ea6 (by kernel_rfl) hs5 rfl ?_
    refine h_cast (L' := (⟨b1, #[.string (mkS s)], 9⟩ :: (o5 ++ ([] : List Blk))) ++ ([])) (by simp) ?_
    refine h_take 11 (⟨b1, #[.string (mkS s)], 9⟩ :: (o5 ++ ([] : List Blk))) _ (.slice V5 (([s]).length) c5) rfl (by kernel_rfl) (by kernel_rfl) (by kernel_rfl) (pq_seq pq_body) (by kernel_rfl) (fun _ _ => by kernel_rfl) ?_
    refine h_done (by kernel_rfl) ?_
    refine fin_seq ?_
    refine ok_ret ?_
    refine fin_ret (.slice V5 (([s]).length) c5) Try.results42 (by kernel_rfl) ?_
    exact fun w hO => ⟨_, rfl, rdp_own hs5 hO (fun x hx => by simp [hx]) (by simp [putT]), hO.below⟩
theorem r11Put_any {v : Value} {l : List (List UInt8)} (s : List UInt8) (W : World) (hv : RdP W v l) (hn : l.length ≤ 1000000) : Calls Try.prog 42 #[v, .string (mkS s)] W fun e w' => ∃ v, e = .returned v ∧ RdP w' v (putT l s) ∧ Below W.heap.size W w' := by
  obtain ⟨A, cap, rfl, h1, h2, h3⟩ := hv.ex
  by_cases hl : l = []
  · subst hl
    obtain ⟨rfl, rfl⟩ := h3 rfl
    exact r11Put_nil s W
  · obtain ⟨b, off, hA, _, _⟩ := h1 (by cases l with | nil => exact absurd rfl hl | cons a r => simp)
    exact r11Put_cons A cap b off l s W hA hl h2 h1 hn
end Go.Proofs.Ytglbfknmeojfkaa
end

section
/-
  linchpinref11: Close: what it returns; nothing that was there is changed. Conditions: as the theorem names.
-/
namespace Go.Proofs.Ytglbfknmeojfkaa
open Go.RowKit
set_option maxRecDepth 100000
set_option linter.unusedVariables false
set_option linter.unusedSimpArgs false
set_option linter.unnecessarySimpa false
set_option maxHeartbeats 2000000

/-- What came in, in a world as it is. -/
structure At (W : World) (A : Option Addr) (xs : List Fv) (B : Option Addr) (asked : List (List UInt8)) (w : World) : Prop where
  hv : FtIn w w.heap.size A xs
  hu : Reads strC w w.heap.size B asked
  hb : Below W.heap.size W w
theorem At.on {W w w' : World} {A B : Option Addr} {xs : List Fv} {asked : List (List UInt8)} (h : At W A xs B asked w) (hb : Below w.heap.size w w') : At W A xs B asked w' := ⟨h.hv.on hb hb.size, h.hu.on hb hb.size, h.hb.trans (hb.mono h.hb.size)⟩
theorem putK_snoc {k : Int} {val : List UInt8 → List UInt8} : ∀ (r acc : List (List UInt8)) (s : List UInt8), putK k val acc (r ++ [s]) = if (kindT s).1 = k then putT (putK k val acc r) (val s) else putK k val acc r
  | [], acc, s => rfl
  | a :: r, acc, s => by rw [List.cons_append, putK, putK_snoc, putK]
theorem collK_snoc {k : Int} {val : List UInt8 → List UInt8} {l : List Ft} : ∀ (r acc : List (List UInt8)) (f : List UInt8), collK k val l acc (r ++ [f]) = putK k val (collK k val l acc r) (ofT l f)
  | [], acc, f => rfl
  | a :: r, acc, f => by rw [List.cons_append, collK, collK_snoc, collK]
theorem putK_yes {k : Int} {val : List UInt8 → List UInt8} {acc r : List (List UInt8)} {i : Nat} {s : List UInt8} (hi : i < r.length) (hs : r[i] = s) (h : (kindT s).1 = k) : putK k val acc (r.take (i + 1)) = putT (putK k val acc (r.take i)) (val s) := by
  rw [List.take_succ_eq_append_getElem hi, hs, putK_snoc, if_pos h]
theorem putK_no {k : Int} {val : List UInt8 → List UInt8} {acc r : List (List UInt8)} {i : Nat} {s : List UInt8} (hi : i < r.length) (hs : r[i] = s) (h : ¬ (kindT s).1 = k) : putK k val acc (r.take (i + 1)) = putK k val acc (r.take i) := by
  rw [List.take_succ_eq_append_getElem hi, hs, putK_snoc, if_neg h]
theorem collK_step {k : Int} {val : List UInt8 → List UInt8} {l : List Ft} {acc r : List (List UInt8)} {i : Nat} {f : List UInt8} (hi : i < r.length) (hf : r[i] = f) : collK k val l acc (r.take (i + 1)) = putK k val (collK k val l acc (r.take i)) (ofT l f) := by
  rw [List.take_succ_eq_append_getElem hi, hf, collK_snoc]
theorem rounds_succ {l : List Ft} : ∀ (n : Nat) (on : List (List UInt8)), rounds l (n + 1) on = roundT l (rounds l n on) (rounds l n on)
  | 0, on => rfl
  | n + 1, on => by rw [rounds, rounds_succ n, rounds]
theorem asks_step {asked : List (List UInt8)} {i : Nat} {a : List UInt8} (hi : i < asked.length) (ha : asked[i] = a) : asksT (asked.take (i + 1)) = putT (asksT (asked.take i)) a := by
  unfold asksT
  rw [List.take_succ_eq_append_getElem hi, ha, List.foldl_append]; rfl
theorem putK_len {k : Int} {val : List UInt8 → List UInt8} : ∀ {r acc : List (List UInt8)}, (putK k val acc r).length ≤ acc.length + r.length
  | [], acc => Nat.le_refl _
  | s :: r, acc => by
    have h := putK_len (k := k) (val := val) (r := r) (acc := if (kindT s).1 = k then putT acc (val s) else acc)
    have h2 := put_len (l := acc) (s := val s)
    rw [putK, List.length_cons]
    split at h <;> simp_all <;> omega
theorem collK_len {k : Int} {val : List UInt8 → List UInt8} {l : List Ft} {m : Nat} (hm : ∀ f, (ofT l f).length ≤ m) : ∀ {r acc : List (List UInt8)}, (collK k val l acc r).length ≤ acc.length + r.length * m
  | [], acc => by simp [collK]
  | f :: r, acc => by
    have h := collK_len (k := k) (val := val) hm (r := r) (acc := putK k val acc (ofT l f))
    have h2 := putK_len (k := k) (val := val) (r := ofT l f) (acc := acc)
    have h3 := hm f
    rw [collK, List.length_cons, Nat.add_mul, Nat.one_mul]; omega
theorem asks_len : ∀ {r acc : List (List UInt8)}, (r.foldl putT acc).length ≤ acc.length + r.length
  | [], acc => Nat.le_refl _
  | s :: r, acc => by
    have h := asks_len (r := r) (acc := putT acc s)
    have h2 := put_len (l := acc) (s := s)
    rw [List.foldl_cons, List.length_cons]; omega
theorem of_short {xs : List Fv} {n s : List UInt8} (ht : ∀ x ∈ xs, ∀ s ∈ x.of, s.length ≤ 1000000) (h : s ∈ ofT (ftOf xs) n) : s.length ≤ 1000000 := by
  obtain ⟨f, hf, hs⟩ := ofT_mem h
  obtain ⟨x, hx, rfl⟩ := List.mem_map.1 hf
  exact ht x hx s hs
theorem of_six {l : List Ft} (hm : mayF l = true) (n : List UInt8) : (ofT l n).length ≤ 6 := by
  unfold mayF at hm
  simp only [Bool.and_eq_true, decide_eq_true_eq] at hm
  unfold ofT
  split
  · rename_i f hf
    have h1 := List.all_eq_true.1 hm.2 f (List.mem_of_find?_eq_some hf)
    unfold itemsT at h1
    simp only [Bool.and_eq_true, decide_eq_true_eq] at h1
    exact h1.1.1
  · simp
theorem may_eight {l : List Ft} (hm : mayF l = true) : l.length ≤ 8 := by
  unfold mayF at hm
  simp only [Bool.and_eq_true, decide_eq_true_eq] at hm
  exact hm.1.1.1
/-- All that is on at a round. -/
theorem rounds_ten {l : List Ft} {asked : List (List UInt8)} (hm : mayF l = true) (ha : ∀ a ∈ asked, isT l a = true) (n : Nat) : (rounds l n (asksT asked)).length ≤ 9 := by
  have h0 : riseT (asksT asked) = true := asks_rise rfl
  have hri : riseT (l.map Ft.name) = true := by
    have := hm
    unfold mayF at this
    simp only [Bool.and_eq_true, decide_eq_true_eq] at this
    exact this.1.2
  have h1 := (rise_len (rounds_rise (n := n) h0) (put_rise (s := dfl) hri) fun z hz => by
    have hz2 : isT l z = true := isT_on hm ha (rounds_on (fun x hx => by
      rcases asks_mem.1 hx with h | h
      · cases h
      · exact .ask h) z hz)
    unfold isT at hz2
    rw [Bool.or_eq_true, decide_eq_true_eq] at hz2
    rcases hz2 with rfl | hz2
    · exact put_mem.2 (.inl rfl)
    · exact put_mem.2 (.inr (findT_mem hz2))).1
  have h2 := put_len (l := l.map Ft.name) (s := dfl)
  rw [List.length_map] at h2
  have := may_eight hm
  omega
end Go.Proofs.Ytglbfknmeojfkaa
end

section
/-
  Package feature: Find, has, mayOf, May: what they return; nothing that was there is changed. Conditions: as each theorem names.
-/
namespace Go.Proofs.Ytglbfknmeojfkaa
open Go.RowKit
set_option maxRecDepth 100000
set_option linter.unusedVariables false
set_option linter.unusedSimpArgs false
set_option linter.unnecessarySimpa false
set_option maxHeartbeats 2000000

theorem tless_or (a b : List UInt8) : (Op.bytesLess a b || decide (a = b)) = !Op.bytesLess b a := by
  cases h : Op.bytesLess b a with
  | true => rw [lt_asy h, decide_eq_false (fun e => by rw [e, lt_irr] at h; cases h)]; rfl
  | false =>
    by_cases e : a = b
    · rw [decide_eq_true e]; simp
    · rw [lt_tri b a h (fun q => e q.symm)]; rfl
/-- '<=' on strings of bytes. -/
theorem run_strleq {P : Program} {ρ : Operand → Value} {o : Oper} {t t' : TypeId} {x y : Operand} {a b : List UInt8} (ho : o.op = .binOp .leq t x y t') (hx : ρ x = .string (mkS a)) (hy : ρ y = .string (mkS b)) (w : World) : (execOp ρ o).run P w = .ok (.value (.bool (!Op.bytesLess b a))) w := by
  have e : binOp .leq t (.string (mkS a)) (.string (mkS b)) = pure (.bool (!Op.bytesLess b a)) := by
    have : binOp .leq t (.string (mkS a)) (.string (mkS b)) = pure (.bool (Op.bytesLess (mkS a).toList (mkS b).toList || (mkS a).toList == (mkS b).toList)) := by simp [binOp, Op.stringOp]
    rw [this, str_beq, Lib.toList_data, Lib.toList_data, mk_data, mk_data, tless_or]
  unfold execOp
  simp only [ho, hx, hy, Sem.run_bind, guard_str, Result.andThen_ok, e, Sem.run_pure]
section
variable {M : List Nat} {P : Program} {n : Nat} {W : World} {Q : Exit → Act → World → Prop} {c : Xc}
def leqOp (o : Oper) : Bool := match o.op with
  | .binOp .leq _ _ _ _ => true
  | _ => false
def leqX (o : Oper) (i : Nat) : Operand := match o.op with
  | .binOp _ _ x y _ => if i = 0 then x else y
  | _ => .tmp 0
theorem x_sle (d : Nat) (h : List Nat) (s u : List UInt8) (hg : Good M P n W Q ((xgo P n (d + 50000) h c).put (.bool (!Op.bytesLess u s))))
    (hkt : (xgl P n (d + 50000) h c, xW n (xgo P n (d + 50000) h c), leqOp (xO (xgo P n (d + 50000) h c)), ev n (xgo P n (d + 50000) h c).f (leqX (xO (xgo P n (d + 50000) h c)) 0), ev n (xgo P n (d + 50000) h c).f (leqX (xO (xgo P n (d + 50000) h c)) 1)) = (xgr P n (d + 50000) h c, true, true, .string (mkS s), .string (mkS u)) := by kernel_rfl) : Good M P n W Q c := by
  simp only [Prod.mk.injEq] at hkt
  obtain ⟨hk, e1, e2, e3, e4⟩ := hkt
  refine xgo_ok h c hk (put_val e1 (fun w => ?_) hg)
  generalize xO (xgo P n (d + 50000) h c) = o at *
  unfold leqOp at e2
  split at e2
  · rename_i t x y t' ho
    have hx : leqX o 0 = x := by unfold leqX; rw [ho]; rfl
    have hy : leqX o 1 = y := by unfold leqX; rw [ho]; rfl
    rw [hx] at e3; rw [hy] at e4
    exact run_strleq ho e3 e4 w
  · cases e2
end
theorem findfn_any (x : Fv) (n : List UInt8) (b : Nat) (W : World) (hc : W.heap[b]? = some (.cells #[.string (mkS n)] 9)) : Calls Try.prog 37 #[fvV x, .pointer (some ⟨b, 0, none⟩)] W fun e w' => e = .returned (.bool (decide (x.name = n))) ∧ Below W.heap.size W w' := by
  have hb : b < W.heap.size := (Array.getElem?_eq_some_iff.1 hc).1
  refine x_enter Try.func37 (x_box [] fun b2 => x_old 6 [0] 9 b 0 (.string (mkS n)) (fun w hO => run_readAt (by kernel_rfl) ((hO.below.block b hb).trans hc)) (x_seq 7 [] x.name n (fun h => ?_) (fun h => ?_)))
  · exact x_ret [] (.bool true) fun w hO => ⟨by rw [decide_eq_true h], hO.below⟩
  · exact x_ret [] (.bool false) fun w hO => ⟨by rw [decide_eq_false h], hO.below⟩
theorem idx11_any (A : Option Addr) (cap : Nat) (xs : List Fv) (n : List UInt8) (b : Nat) (W : World) (hv : FtIn W W.heap.size A xs) (hc : W.heap[b]? = some (.cells #[.string (mkS n)] 9)) : Calls Try.prog 36 #[.slice A xs.length cap, .func (.func 37) #[] #[.pointer (some ⟨b, 0, none⟩)]] W fun e w' => e = .returned (.int .i64 (findI (ftOf xs) n)) ∧ Below W.heap.size W w' := by
  have hb : b < W.heap.size := (Array.getElem?_eq_some_iff.1 hc).1
  have hn := hv.n
  refine x_enter Try.func36 (x_loop (α := Nat) (fun i => [(0, .slice A xs.length cap), (1, .func (.func 37) #[] #[.pointer (some ⟨b, 0, none⟩)]), (7, .int .i64 (xs.length : Int)), (8, .int .i64 (i : Int))]) (fun _ => []) (fun i m => (i ≤ xs.length ∧ ∀ y ∈ xs.take i, ¬ y.name = n) ∧ m = xs.length - i) 0 xs.length [] ⟨⟨Nat.zero_le _, fun y h => by simp at h⟩, rfl⟩ ?_)
  rintro i mm g kk ⟨⟨hi, hno⟩, hmm⟩ nx hkk
  subst hkk
  refine x_br 9 [] ((i : Int) < (xs.length : Int)) (fun h9 => ?_) (fun h9 => ?_)
  rotate_left
  · refine x_ret [] (.int .i64 (-1)) fun w hO => ⟨?_, hO.below⟩
    have hall := mem_end (p := fun y : Fv => ¬ y.name = n) (show xs.length ≤ i by omega) hno
    rw [findI, findI_none (l := ftOf xs) fun f hf => by obtain ⟨y, hy, rfl⟩ := List.mem_map.1 hf; exact hall y hy]
  have hj : i < xs.length := by omega
  obtain ⟨eb, eo, hA, hel⟩ := hv.top.elem fvC_len i hj
  have hgo := mem_step (p := fun y : Fv => ¬ y.name = n) hj hno
  have hel0 : ∀ w, Below W.heap.size W w → (loadVar 57 ⟨eb, eo + i * 2 + 0, none⟩).run Try.prog w = .ok (fvV xs[i]) w := fun w hw => hel w hw _ 0 _ (by kernel_rfl)
  have hcf : ∀ w, Below W.heap.size W w → Calls Try.prog 37 #[fvV xs[i], .pointer (some ⟨b, 0, none⟩)] w fun e w' => e = .returned (.bool (decide (xs[i].name = n))) ∧ Below w.heap.size w w' := fun w hw => findfn_any xs[i] n b w ((hw.block b hb).trans hc)
  refine x_ixA 14 [] hA xs.length cap i 2 hj (x_old 15 [] 57 eb (eo + i * 2 + 0) (fvV xs[i]) (fun w hO => hel0 w hO.below) (x_call (v := .bool (decide (xs[i].name = n))) [] (fun w hO => hcf w hO.below) (x_now 16 (xs[i].name = n) (fun h16 => ?_) (fun h16 => ?_))))
  · refine x_ret [] (.int .i64 (i : Int)) fun w hO => ⟨?_, hO.below⟩
    rw [findI, findI_at (l := ftOf xs) (i := i) (by rw [ftOf_len]; exact hj) (by rw [ftOf_get hj rfl]; exact h16) (fun f hf => by rw [← ftOf_take] at hf; obtain ⟨y, hy, rfl⟩ := List.mem_map.1 hf; exact hno y hy)]
  · exact x_i 18 [] ((i + 1 : Nat) : Int) (nx (i + 1) (xs.length - (i + 1)) [] (by omega) ⟨⟨hj, hgo h16⟩, rfl⟩ (by kernel_rfl) (by kernel_rfl))
theorem fFind_at (A : Option Addr) (cap : Nat) (xs : List Fv) (n : List UInt8) (W : World) (hv : FtIn W W.heap.size A xs) : Calls Try.prog 15 #[.slice A xs.length cap, .string (mkS n)] W fun e w' => e = .returned (.int .i64 (findI (ftOf xs) n)) ∧ Below W.heap.size W w' := by
  refine x_enter Try.func15 (x_box [] fun b => x_val 6 [] (.func (.func 37) #[] #[.pointer (some ⟨b, 0, none⟩)]) (fun w => by kernel_rfl) (x_call (v := .int .i64 (findI (ftOf xs) n)) [] (fun w hO => idx11_any A cap xs n b w (hv.on hO.below hO.size) ((hO.past 0 [⟨b, #[.string (mkS n)], 9⟩]).get (i := 0) rfl)) (x_ret [] _ fun w hO => ⟨rfl, hO.below⟩)))
theorem fhas_any (A : Option Addr) (cap : Nat) (xs : List Fv) (n : List UInt8) (W : World) (hv : FtIn W W.heap.size A xs) : Calls Try.prog 38 #[.slice A xs.length cap, .string (mkS n)] W fun e w' => e = .returned (.bool (isT (ftOf xs) n)) ∧ Below W.heap.size W w' := by
  refine x_enter Try.func38 (x_seq 6 [] n dfl (fun h => ?_) (fun h => ?_))
  · exact x_ret [] (.bool true) fun w hO => ⟨by rw [findI_isT, decide_eq_true h]; rfl, hO.below⟩
  · refine x_call (v := .int .i64 (findI (ftOf xs) n)) [] (fun w hO => fFind_at A cap xs n w (hv.on hO.below hO.size)) ?_
    exact x_ret [] (.bool (decide (0 ≤ findI (ftOf xs) n))) fun w hO => ⟨by rw [findI_isT, decide_eq_false h]; rfl, hO.below⟩
/-- The last of the first i texts. -/
def lastT (l : List (List UInt8)) (i : Nat) : List UInt8 := if h : 0 < i ∧ i - 1 < l.length then l[i - 1] else []
theorem lastT_succ {l : List (List UInt8)} {i : Nat} (hi : i < l.length) : lastT l (i + 1) = l[i] := by
  unfold lastT; rw [dif_pos ⟨Nat.succ_pos _, by simpa using hi⟩]; rfl
theorem less_nil {s : List UInt8} (h : s ≠ []) : Op.bytesLess [] s = true := by
  cases s with
  | nil => exact absurd rfl h
  | cons _ _ => rfl
theorem fmayOf_any (A : Option Addr) (cap : Nat) (xs : List Fv) (B : Option Addr) (capb : Nat) (of : List (List UInt8)) (W : World) (hv : FtIn W W.heap.size A xs) (hu : Reads strC W W.heap.size B of) (hn : of.length ≤ 1000) (ht : ∀ s ∈ of, s.length ≤ 1000000) : Calls Try.prog 34 #[.slice B of.length capb, .slice A xs.length cap] W fun e w' => e = .returned (.bool (itemsT (ftOf xs) of)) ∧ Below W.heap.size W w' := by
  refine x_enter Try.func34 (x_br 13 [] ((6 : Int) < (of.length : Int)) (fun h13 => ?_) (fun h13 => ?_))
  · exact x_ret [] (.bool false) fun w hO => ⟨by rw [items_not (.inl (by omega))], hO.below⟩
  refine x_loop (α := Nat) (fun i => [(0, .slice B of.length capb), (1, .slice A xs.length cap), (5, .string (mkS (lastT of i))), (14, .slice B of.length capb), (15, .int .i64 (of.length : Int)), (16, .int .i64 (i : Int))]) (fun _ => []) (fun i m => (i ≤ of.length ∧ (∀ s ∈ of.take i, okItem (ftOf xs) s = true) ∧ ∀ z (hz : z + 1 < of.length), z + 1 < i → Op.bytesLess (of[z]'(by omega)) of[z + 1] = true) ∧ m = of.length - i) 0 of.length [] ⟨⟨Nat.zero_le _, fun y h => by simp at h, fun z hz h => by omega⟩, rfl⟩ ?_
  rintro i mm g kk ⟨⟨hi, hok, hup⟩, hmm⟩ nx hkk
  subst hkk
  refine x_br 17 [] ((i : Int) < (of.length : Int)) (fun h17 => ?_) (fun h17 => ?_)
  rotate_left
  · exact x_ret [] (.bool true) fun w hO => ⟨by rw [items_yes (by omega) (rise_iff.2 fun z hz => hup z hz (by omega)) (mem_end (by omega) hok)], hO.below⟩
  have hj : i < of.length := by omega
  have hsm : of[i] ∈ of := List.getElem_mem hj
  have hlast : i ≠ 0 → lastT of i = of[i - 1]'(by omega) := fun h => by unfold lastT; rw [dif_pos ⟨by omega, by omega⟩]
  have hgo := mem_step (p := fun s => okItem (ftOf xs) s = true) hj hok
  have hl1 := lastT_succ hj
  obtain ⟨eb, eo, hA, hel⟩ := hu.elem strC_len i hj
  have hsh := ht _ hsm
  have hel' := fun w hO ty => hel w hO ty 0 (.string (mkS of[i]))
  have hbig := hup
  obtain ⟨s, hs⟩ : ∃ s, of[i] = s := ⟨_, rfl⟩
  simp only [hs] at hsh hsm hgo hl1 hel'
  have hno : okItem (ftOf xs) s = false → itemsT (ftOf xs) of = false := fun h => items_not (.inr (.inr ⟨s, hsm, h⟩))
  refine x_ixA 18 [] hA of.length capb i 1 hj (x_old 19 [] 9 eb (eo + i * 1 + 0) (.string (mkS s)) (fun w hO => hel' w hO.below _ (by kernel_rfl)) (x_call (v := .tuple #[.int .i64 (kindT s).1, .string (mkS (kindT s).2.1), .string (mkS (kindT s).2.2)]) [] (fun w hO => fItem_at s w hsh) (x_br 27 [] ((kindT s).1 = 0) (fun h27 => ?_) (fun h27 => ?_))))
  · exact x_ret [] (.bool false) fun w hO => ⟨by rw [hno (by unfold okItem; simp [h27])], hO.below⟩
  refine x_sle 31 [] s (lastT of i) (x_nowb 31 (!Op.bytesLess (lastT of i) s) (fun h31 => ?_) (fun h31 => ?_))
  · refine x_ret [] (.bool false) fun w hO => ⟨?_, hO.below⟩
    have h0 : i ≠ 0 := fun h0 => by
      subst h0
      have : lastT of 0 = [] := by unfold lastT; rw [dif_neg (by omega)]
      rw [this, less_nil (fun e => h27 (by rw [e]; decide))] at h31; cases h31
    rw [hlast h0] at h31
    have : riseT of = false := by
      cases hr : riseT of with
      | false => rfl
      | true =>
        have q := rise_iff.1 hr (i - 1) (by omega)
        have e2 : of[i - 1 + 1]'(by omega) = s := by rw [← hs]; congr 1; omega
        rw [e2] at q
        rw [q] at h31; cases h31
    rw [items_not (.inr (.inl this))]
  have hup2 : ∀ z (hz : z + 1 < of.length), z + 1 < i + 1 → Op.bytesLess (of[z]'(by omega)) of[z + 1] = true := fun z hz hzi => by
    rcases Nat.lt_succ_iff_lt_or_eq.1 hzi with q | q
    · exact hup z hz q
    · have h0 : i ≠ 0 := by omega
      rw [hlast h0] at h31
      have e1 : of[i - 1]'(by omega) = of[z]'(by omega) := by congr 1; omega
      have e2 : of[z + 1] = s := by rw [← hs]; congr 1
      rw [← e1, e2]; simpa using h31
  refine x_br 35 [] ((kindT s).1 = 1) (fun h35 => ?_) (fun h35 => ?_)
  · have hc : ∀ w, Below W.heap.size W w → Calls Try.prog 38 #[.slice A xs.length cap, .string (mkS (kindT s).2.1)] w fun e w' => e = .returned (.bool (isT (ftOf xs) (kindT s).2.1)) ∧ Below w.heap.size w w' := fun w hb => fhas_any A cap xs _ w (hv.on hb hb.size)
    refine x_call (v := .bool (isT (ftOf xs) (kindT s).2.1)) [] (fun w hO => hc w hO.below) (x_nowb 39 (isT (ftOf xs) (kindT s).2.1) (fun h39 => ?_) (fun h39 => ?_))
    · exact x_i 44 [] ((i + 1 : Nat) : Int) (x_ren 5 [] (.string (mkS s)) (.string (mkS (lastT of (i + 1)))) (by rw [hl1]) (nx (i + 1) (of.length - (i + 1)) [] (by omega) ⟨⟨hj, hgo (by unfold okItem; simp [h35, h39]), hup2⟩, rfl⟩ (by kernel_rfl) (by kernel_rfl)))
    · exact x_ret [] (.bool false) fun w hO => ⟨by rw [hno (by unfold okItem; simp [h35, h39])], hO.below⟩
  · exact x_i 44 [] ((i + 1 : Nat) : Int) (x_ren 5 [] (.string (mkS s)) (.string (mkS (lastT of (i + 1)))) (by rw [hl1]) (nx (i + 1) (of.length - (i + 1)) [] (by omega) ⟨⟨hj, hgo (by unfold okItem; simp [h27, h35]), hup2⟩, rfl⟩ (by kernel_rfl) (by kernel_rfl)))
end Go.Proofs.Ytglbfknmeojfkaa
end

section
/-
  Package feature: May: what it returns; nothing that was there is changed. Condition: features that can be read.
-/
namespace Go.Proofs.Ytglbfknmeojfkaa
open Go.RowKit
set_option maxRecDepth 100000
set_option linter.unusedVariables false
set_option linter.unusedSimpArgs false
set_option linter.unnecessarySimpa false
set_option maxHeartbeats 2000000

theorem fMay_at (A : Option Addr) (cap : Nat) (xs : List Fv) (W : World) (hv : FtIn W W.heap.size A xs) : Calls Try.prog 13 #[.slice A xs.length cap] W fun e w' => e = .returned (.bool (mayF (ftOf xs))) ∧ Below W.heap.size W w' := by
  refine x_enter Try.func13 (x_br 8 [] ((8 : Int) < (xs.length : Int)) (fun h8 => ?_) (fun h8 => ?_))
  · exact x_ret [] (.bool false) fun w hO => ⟨by rw [may11_not (.inl (by rw [ftOf_len]; omega))], hO.below⟩
  refine x_loop (α := Nat) (fun i => [(0, .slice A xs.length cap), (3, .string (mkS (lastT (xs.map Fv.name) i))), (9, .slice A xs.length cap), (10, .int .i64 (xs.length : Int)), (11, .int .i64 (i : Int))]) (fun _ => []) (fun i m => UpTo xs i ∧ m = xs.length - i) 0 xs.length [] ⟨UpTo.zero xs, rfl⟩ ?_
  rintro i mm g kk ⟨hup, hmm⟩ nx hkk
  subst hkk
  refine x_br 12 [] ((i : Int) < (xs.length : Int)) (fun h12 => ?_) (fun h12 => ?_)
  rotate_left
  · exact x_ret [] (.bool true) fun w hO => ⟨by rw [hup.may (by omega) (by omega)], hO.below⟩
  have hj : i < xs.length := by omega
  have hxm : xs[i] ∈ xs := List.getElem_mem hj
  have hnl : i < (xs.map Fv.name).length := by rw [List.length_map]; exact hj
  have hl1 : lastT (xs.map Fv.name) (i + 1) = xs[i].name := by rw [lastT_succ hnl, List.getElem_map]
  have hlast : ∀ h0 : 0 < i, lastT (xs.map Fv.name) i = (xs[i - 1]'(by omega)).name := fun h => by unfold lastT; rw [dif_pos ⟨h, by omega⟩, List.getElem_map]
  obtain ⟨eb, eo, hA, hel⟩ := hv.top.elem fvC_len i hj
  have hnm := hv.name _ hxm
  refine x_ixA 13 [] hA xs.length cap i 2 hj (x_old 14 [] 57 eb (eo + i * 2 + 0) (fvV xs[i]) (fun w hO => hel w hO.below _ 0 _ (by kernel_rfl)) (x_alloc [] fun b5 => x_call (v := .bool (wdL xs[i].name)) [0, 0] (fun w hO => iWord_any _ w hnm) (x_nowb 17 (wdL xs[i].name) (fun h17 => ?_) (fun h17 => ?_))))
  rotate_left
  · exact x_ret [] (.bool false) fun w hO => ⟨by rw [may_no1 hxm h17], hO.below⟩
  refine x_sle 23 [0] xs[i].name (lastT (xs.map Fv.name) i) (x_nowb 23 (!Op.bytesLess (lastT (xs.map Fv.name) i) xs[i].name) (fun h23 => ?_) (fun h23 => ?_))
  · refine x_ret [] (.bool false) fun w hO => ⟨?_, hO.below⟩
    have h0 : 0 < i := Nat.pos_of_ne_zero fun h0 => by
      subst h0
      have : lastT (xs.map Fv.name) 0 = [] := by unfold lastT; rw [dif_neg (by omega)]
      rw [this, less_nil (fun e => by rw [e] at h17; revert h17; decide)] at h23; cases h23
    rw [hlast h0] at h23
    have e2 : xs[i - 1 + 1]'(by omega) = xs[i] := by congr 1; omega
    rw [may_no2 (z := i - 1) (by omega) (by rw [e2]; simpa using h23)]
  have h2 : ∀ h0 : 0 < i, Op.bytesLess (xs[i - 1]'(by omega)).name xs[i].name = true := fun h0 => by rw [← hlast h0]; simpa using h23
  have hc : ∀ w, Below W.heap.size W w → Calls Try.prog 34 #[.slice xs[i].A xs[i].of.length xs[i].cap, .slice A xs.length cap] w fun e w' => e = .returned (.bool (itemsT (ftOf xs) xs[i].of)) ∧ Below w.heap.size w w' := fun w hb => fmayOf_any A cap xs xs[i].A xs[i].cap xs[i].of w (hv.on hb hb.size) ((hv.each _ hxm).on hb hb.size) (hv.m _ hxm) (hv.text _ hxm)
  refine x_call (v := .bool (itemsT (ftOf xs) xs[i].of)) [0] (fun w hO => hc w hO.below) (x_nowb 29 (itemsT (ftOf xs) xs[i].of) (fun h29 => ?_) (fun h29 => ?_))
  rotate_left
  · exact x_ret [] (.bool false) fun w hO => ⟨by rw [may_no3 hxm h29], hO.below⟩
  exact x_ren 3 [0] (.string (mkS xs[i].name)) (.string (mkS (lastT (xs.map Fv.name) (i + 1)))) (by rw [hl1]) (x_i 34 [] ((i + 1 : Nat) : Int) (x_take [] [] (fun w hO => hO.no) (nx (i + 1) (xs.length - (i + 1)) [] (by omega) ⟨hup.next hj h17 h2 h29, rfl⟩ (by kernel_rfl) (by kernel_rfl))))
end Go.Proofs.Ytglbfknmeojfkaa
end

section
/-
  Maps from strings to bools that the call made, as sets of texts: made, asked, written, ranged over. No condition of its own but what each theorem names.
-/
namespace Go.Proofs.Ytglbfknmeojfkaa
open Go.RowKit
set_option linter.unusedVariables false
set_option linter.unusedSimpArgs false
set_option maxRecDepth 100000

theorem keyed : Maps.Keyed Try.prog 9 := Maps.string_keyed (by kernel_rfl)
theorem mapTy : Try.prog.underlying 61 = some (.map 9 4) := by kernel_rfl
theorem boolTy : Try.prog.underlying 4 = some .bool := by kernel_rfl
theorem strTy : Try.prog.underlying 9 = some .string := by kernel_rfl
theorem zeroB (w : World) : (zeroValue 4).run Try.prog w = .ok (.bool false) w := by kernel_rfl
theorem mkey {s : List UInt8} (hs : s.length ≤ 1000000) : keyOf Try.prog 9 (.string (mkS s)) = some (.string s) := by
  have := WideMaps.keyOf_string_mk (P := Try.prog) (k := 9) strTy (s := mkS s) (by rw [mkS_sz]; unfold maxLen; omega)
  rw [mk_data] at this; exact this
noncomputable abbrev BoolE : Value → Option (DataW Unit × List MemPlace) := plainElem Try.prog 4
theorem boolE (b : Bool) : BoolE (.bool b) = some (.lit (.bool b), []) := plainElem_bool boolTy b
theorem boolE_inv {v : Value} {z : DataW Unit × List MemPlace} (h : BoolE v = some z) : ∃ b, v = .bool b ∧ z = (.lit (.bool b), []) := by
  unfold BoolE plainElem at h
  rw [boolTy] at h
  cases v <;> simp at h
  exact ⟨_, rfl, h.symm⟩
/-- Block b is a map in which the texts a stand, each as true. -/
structure MapS (w : World) (b : Nat) (a : List (List UInt8)) : Prop where
  ex : ∃ D : DataW Unit, w.ownsMap Try.prog 9 BoolE b a.length D ∧ (∀ s, Maps.has D (.string s) = decide (s ∈ a)) ∧ ∀ s zd, s ∈ a → D.atKey (.string s) zd = .lit (.bool true)
theorem MapS.lt {w : World} {b : Nat} {a : List (List UInt8)} (h : MapS w b a) : b < w.heap.size := by
  obtain ⟨D, h1, _⟩ := h.ex; exact h1.lt
theorem MapS.kept {w w' : World} {b : Nat} {a : List (List UInt8)} (h : MapS w b a) (hk : w'.heap[b]? = w.heap[b]?) : MapS w' b a := by
  obtain ⟨D, ⟨es, clock, hb, r⟩, h2⟩ := h.ex
  exact ⟨D, ⟨es, clock, hk.trans hb, r⟩, h2⟩
theorem MapS.cells {w : World} {b : Nat} {a : List (List UInt8)} (h : MapS w b a) {cs : Array Value} {T : TypeId} : ¬ w.heap[b]? = some (.cells cs T) := by
  obtain ⟨D, ⟨es, clock, hb, r⟩, h2⟩ := h.ex
  rw [hb]; exact fun e => by cases e
theorem MapS.made (w : World) : MapS (w.alloc (.map #[] 0)) w.heap.size [] :=
  ⟨.map [], World.ownsMap_made w _ _ _, fun s => by rfl, fun s zd h => by cases h⟩
theorem MapS.look {w : World} {b : Nat} {a : List (List UInt8)} (h : MapS w b a) {s : List UInt8} (hs : s.length ≤ 1000000) : (Instr.lookup 61 (.map (some b)) (.string (mkS s)) false).run Try.prog w = .ok (.bool (decide (s ∈ a))) w := by
  obtain ⟨D, h1, h2, h3⟩ := h.ex
  obtain ⟨v, ps, hrun, hv⟩ := h1.lookup keyed mapTy (zeroB w) (boolE false) (mkey hs)
  obtain ⟨c, rfl, hc⟩ := boolE_inv hv
  rw [hrun]
  have e : D.atKey (.string s) (.lit (.bool false)) = .lit (.bool c) := (Prod.mk.inj hc).1
  by_cases hm : s ∈ a
  · rw [h3 s _ hm] at e
    cases e
    rw [decide_eq_true hm]
  · rw [Maps.atKey_of_not_has (by rw [h2 s, decide_eq_false hm])] at e
    cases e
    rw [decide_eq_false hm]
/-- What a store into a map leaves as it was. -/
structure Turned (b : Nat) (w w' : World) : Prop where
  os : w'.os = w.os
  tape : w'.tape = w.tape
  output : w'.output = w.output
  size : w'.heap.size = w.heap.size
  drawn : w.drawn ≤ w'.drawn
  block : ∀ k, k ≠ b → w'.heap[k]? = w.heap[k]?
theorem turned_set {w : World} {b c c' : Nat} {es es' : Array MapEntry} (hb : w.heap[b]? = some (.map es c)) : Turned b w (ChangeMaps.setBlock w b (.map es' c')) :=
  ⟨rfl, rfl, rfl, by simp [ChangeMaps.setBlock], Nat.le_refl _, fun k hk => ChangeMaps.heap_setBlock_other hb _ hk⟩
theorem Turned.own {b : Nat} {w w' : World} (h : Turned b w w') : Own [b] w w' [] :=
  ⟨h.os, h.tape, h.output, Nat.le_of_eq h.size.symm, h.drawn, fun k _ hk => h.block k (fun e => hk (List.mem_singleton.2 e)), by simp, by simp, by simp⟩
theorem MapS.put {w : World} {b : Nat} {a : List (List UInt8)} (h : MapS w b a) {s : List UInt8} (hs : s.length ≤ 1000000) (hn : a.length ≤ 1000000) : ∃ w', (Instr.mapUpdate 61 (.map (some b)) (.string (mkS s)) (.bool true)).run Try.prog w = .ok () w' ∧ MapS w' b (s :: a) ∧ Turned b w w' := by
  obtain ⟨D, h1, h2, h3⟩ := h.ex
  have hm := h1.isMap
  obtain ⟨w', hrun, hown, es, clock, es', clock', hb, rfl⟩ := h1.store keyed mapTy (by unfold maxLen; omega) (mkey hs) (boolE true)
  refine ⟨_, hrun, ⟨D.put (.string s) (.lit (.bool true)), hown, fun x => ?_, fun x zd hx => ?_⟩, turned_set hb⟩
  · by_cases e : x = s
    · subst e
      rw [Maps.has_put_same hm (keyed.key (mkey hs)), decide_eq_true (List.mem_cons_self ..)]
    · rw [Maps.has_put_other (fun q => e (by cases q; rfl)), h2 x]
      simp [e]
  · by_cases e : x = s
    · subst e
      exact Maps.atKey_put_same hm (keyed.key (mkey hs)) _ _
    · rw [Maps.atKey_put_other (fun q => e (by cases q; rfl))]
      exact h3 x zd ((List.mem_cons.1 hx).resolve_left e)
/-- A range over such a map: what has come. -/
structure RanS (w : World) (b r : Nat) (a xs : List (List UInt8)) (m : Nat) : Prop where
  ex : ∃ (D : DataW Unit) (left : Lit → Bool), w.ranges Try.prog 9 BoolE b r a.length D left m ∧ (∀ s, left (.string s) = (decide (s ∈ a) && decide (s ∉ xs)))
  nd : xs.Nodup
  sub : ∀ s ∈ xs, s ∈ a
theorem RanS.kept {w w' : World} {b r : Nat} {a xs : List (List UInt8)} {m : Nat} (h : RanS w b r a xs m) (hb : w'.heap[b]? = w.heap[b]?) (hr : w'.heap[r]? = w.heap[r]?) : RanS w' b r a xs m := by
  obtain ⟨D, left, ⟨es, clock, since, seen, c0, h1, h2, h3, h4, h5, h6⟩, h7⟩ := h.ex
  exact ⟨⟨D, left, ⟨es, clock, since, seen, c0, hb.trans h1, h2, h3, h4, hr.trans h5, h6⟩, h7⟩, h.nd, h.sub⟩
theorem RanS.lt {w : World} {b r : Nat} {a xs : List (List UInt8)} {m : Nat} (h : RanS w b r a xs m) : b < w.heap.size ∧ r < w.heap.size := by
  obtain ⟨D, left, h1, _⟩ := h.ex
  exact ⟨h1.owns.lt, h1.lt⟩
theorem MapS.range {w : World} {b : Nat} {a : List (List UInt8)} (h : MapS w b a) : ∃ w' m, (Instr.range 61 (.map (some b))).run Try.prog w = .ok (.pointer (some ⟨w.heap.size, 0, none⟩)) w' ∧ RanS w' b w.heap.size a [] m ∧ Below w.heap.size w w' := by
  obtain ⟨D, h1, h2, h3⟩ := h.ex
  obtain ⟨es, clock, hb, r⟩ := id h1
  have hrun := run_range_map w 61 9 4 b es clock mapTy hb
  obtain ⟨w', hr, hg, _⟩ := h1.range keyed mapTy
  have e : w' = w.alloc (.mapIter (some b) clock #[] clock) := by
    rw [hrun] at hr; injection hr with _ e; exact e.symm
  refine ⟨w', _, hr, ⟨⟨D, _, hg, fun s => ?_⟩, List.nodup_nil, fun s h => by cases h⟩, ?_⟩
  · rw [h2 s]; simp
  · rw [e]; exact (Below.refl _ _).alloc (Nat.le_refl _) _
/-- One step: nothing is left, and all have come; or one more. -/
theorem RanS.next {w : World} {b r : Nat} {a xs : List (List UInt8)} {m : Nat} (h : RanS w b r a xs m) (ty : TypeId) :
    ((∀ s ∈ a, s ∈ xs) ∧ (Instr.next (.pointer (some ⟨r, 0, none⟩)) false ty).run Try.prog w = .ok (.tuple #[.bool false]) w) ∨
    ∃ s c w' m', s ∈ a ∧ s ∉ xs ∧ (Instr.next (.pointer (some ⟨r, 0, none⟩)) false ty).run Try.prog w = .ok (.tuple #[.bool true, .string (mkS s), .bool c]) w' ∧ RanS w' b r a (xs ++ [s]) m' ∧ m' < m ∧ Turned r w w' ∧ (Instr.entry (.pointer (some ⟨r, 0, none⟩))).run Try.prog w' = .ok (.tuple #[.string (mkS s), .bool c]) w' := by
  obtain ⟨D, left, h1, h2⟩ := h.ex
  rcases h1.next keyed ty with ⟨_, hl, hrun⟩ | ⟨key, v, kl, y, w', cnt', hk, hl, hv, hat, hrun, hr, hlt, hg, hsz, hen⟩
  · refine .inl ⟨fun s hs => Classical.byContradiction fun q => ?_, hrun⟩
    have := hl (.string s)
    rw [h2, decide_eq_true hs, decide_eq_true q] at this
    cases this
  · obtain ⟨x, rfl, rfl, hx⟩ := Maps.keyOf_str strTy hk
    rw [h2] at hl
    rw [Bool.and_eq_true, decide_eq_true_eq, decide_eq_true_eq] at hl
    obtain ⟨c, rfl, rfl⟩ := boolE_inv hv
    refine .inr ⟨x, c, w', cnt', hl.1, hl.2, hrun, ⟨⟨D, _, hr, fun s => ?_⟩, ?_, fun s hs => ?_⟩, hlt, ⟨hg.os, hg.tape, hg.output, hsz, run_drawn _ _ _ hrun, fun k hk => ?_⟩, hen⟩
    · show (left (.string s) && !(Lit.string s).sameKey (.string x)) = _
      rw [h2 s]
      by_cases e : s = x
      · subst e
        rw [WideAt.sameKey_self (keyed.key hk)]
        simp
      · rw [Maps.sameKey_ne (fun q => e (by cases q; rfl))]
        simp [e]
    · rw [List.nodup_append]
      exact ⟨h.nd, by simp, fun y hy z hz => by rw [List.mem_singleton.1 hz]; exact fun q => hl.2 (q ▸ hy)⟩
    · rcases List.mem_append.1 hs with hs | hs
      · exact h.sub s hs
      · rw [List.mem_singleton.1 hs]; exact hl.1
    · by_cases hk2 : k < w.heap.size
      · exact hg.block k hk2 (fun q => hk (Option.some.inj q))
      · rw [Array.getElem?_eq_none (by omega), Array.getElem?_eq_none (by omega)]
end Go.Proofs.Ytglbfknmeojfkaa
end

section
/-
  Great steps over the model's own instructions (maps: made, asked, written, ranged over). No condition of their own.
-/
namespace Go.Proofs.Ytglbfknmeojfkaa
open Go.RowKit
set_option linter.unusedVariables false
set_option linter.unusedSimpArgs false

/-- The instruction that an operation is, where it gives a value. -/
def xIns (ρ : Operand → Value) (o : Oper) : Option (Sem Value) := match o.op with
  | .makeMap t none => some (Instr.makeMap t none)
  | .lookup t m x c => some (Instr.lookup t (ρ m) (ρ x) c)
  | .range t x => some (Instr.range t (ρ x))
  | .next it s => some (Instr.next (ρ it) s o.type)
  | .entry it => some (Instr.entry (ρ it))
  | _ => none
def xUpd (ρ : Operand → Value) (o : Oper) : Option (Sem Unit) := match o.op with
  | .mapUpdate t m k x => some (Instr.mapUpdate t (ρ m) (ρ k) (ρ x))
  | _ => none
theorem ins_run {P : Program} {ρ : Operand → Value} {o : Oper} {s : Sem Value} (h : xIns ρ o = some s) {w w' : World} {v : Value} (hr : s.run P w = .ok v w') : (execOp ρ o).run P w = .ok (.value v) w' := by
  unfold xIns at h
  unfold execOp
  cases ho : o.op <;> rw [ho] at h <;> try (cases h; done)
  case makeMap t r =>
    cases r with
    | none => cases h; simp only [Option.map_none, Sem.run_bind, hr, Result.andThen_ok, Sem.run_pure]
    | some _ => cases h
  all_goals (cases h; simp only [Sem.run_bind, hr, Result.andThen_ok, Sem.run_pure])
theorem upd_run {P : Program} {ρ : Operand → Value} {o : Oper} {s : Sem Unit} (h : xUpd ρ o = some s) {w w' : World} (hr : s.run P w = .ok () w') : (execOp ρ o).run P w = .ok .skip w' := by
  unfold xUpd at h
  unfold execOp
  cases ho : o.op <;> rw [ho] at h <;> try (cases h; done)
  all_goals (cases h; simp only [Sem.run_bind, hr, Result.andThen_ok, Sem.run_pure])
section
variable {M : List Nat} {P : Program} {n : Nat} {W : World} {Q : Exit → Act → World → Prop} {c : Xc}
/-- An instruction that may change the world. -/
theorem x_ins (h : List Nat) (s : Sem Value) (hs : ∀ w, Own M W w (xgo P n nS h c).L → ∃ v w' M' L', s.run P w = .ok v w' ∧ Own M' w' w' L' ∧ Good M' P n w' Q (xNx (xgo P n nS h c) L' v))
    (hkt : (xgl P n nS h c, (xgo P n nS h c).top, want (xA (xgo P n nS h c)) n (xgo P n nS h c).f (xO (xgo P n nS h c)), xNl (xgo P n nS h c).k, xIns (ev n (xgo P n nS h c).f) (xO (xgo P n nS h c))) = (xgr P n nS h c, .ops (xA (xgo P n nS h c)) (xO (xgo P n nS h c) :: xT (xgo P n nS h c)), true, true, some s) := by kernel_rfl) : Good M P n W Q c := by
  simp only [Prod.mk.injEq] at hkt
  obtain ⟨hk, e1, e2, e3, e4⟩ := hkt
  exact x_opW h (fun w hO => by
    obtain ⟨v, w', M', L', h1, h2, h3⟩ := hs w hO
    exact ⟨v, w', M', L', ins_run e4 h1, h2, h3⟩) (by simp only [Prod.mk.injEq]; exact ⟨hk, e1, e2, e3⟩)
theorem x_upd (h : List Nat) (s : Sem Unit) (hs : ∀ w, Own M W w (xgo P n nS h c).L → ∃ w' M' L', s.run P w = .ok () w' ∧ Own M' w' w' L' ∧ Good M' P n w' Q (xNx (xgo P n nS h c) L' undef))
    (hkt : (xgl P n nS h c, (xgo P n nS h c).top, want (xA (xgo P n nS h c)) n (xgo P n nS h c).f (xO (xgo P n nS h c)), xNl (xgo P n nS h c).k, xUpd (ev n (xgo P n nS h c).f) (xO (xgo P n nS h c))) = (xgr P n nS h c, .ops (xA (xgo P n nS h c)) (xO (xgo P n nS h c) :: xT (xgo P n nS h c)), true, true, some s) := by kernel_rfl) : Good M P n W Q c := by
  simp only [Prod.mk.injEq] at hkt
  obtain ⟨hk, e1, e2, e3, e4⟩ := hkt
  exact x_opS h (fun w hO => by
    obtain ⟨w', M', L', h1, h2, h3⟩ := hs w hO
    exact ⟨w', M', L', upd_run e4 h1, h2, h3⟩) (by simp only [Prod.mk.injEq]; exact ⟨hk, e1, e2, e3⟩)
/-- An instruction that only reads. -/
theorem x_rd (h : List Nat) (s : Sem Value) (v : Value) (hs : ∀ w, Own M W w (xgo P n nS h c).L → s.run P w = .ok v w) (hg : Good M P n W Q ((xgo P n nS h c).put v))
    (hkt : (xgl P n nS h c, xW n (xgo P n nS h c), xIns (ev n (xgo P n nS h c).f) (xO (xgo P n nS h c))) = (xgr P n nS h c, true, some s) := by kernel_rfl) : Good M P n W Q c := by
  simp only [Prod.mk.injEq] at hkt
  obtain ⟨hk, e1, e2⟩ := hkt
  exact xgo_ok h c hk (put_read e1 (fun w hO => ins_run e2 (hs w hO)) hg)
/-- A drawn region, so many steps ahead (for one whose operations are all calls and loads): its first m operations in each order, the others (behind all of them) one by one. -/
theorem x_drawF (fu : Fuel1) (m : Nat) (h : List Nat) (hg : Good M P n W Q ⟨.hps ((xDr (xrun P n nS fu h c)).toList.take m).toArray (Array.replicate m false) m (xrun P n nS fu h c).L, .tl (xDr (xrun P n nS fu h c)) ((xDr (xrun P n nS fu h c)).toList.drop m) :: (xrun P n nS fu h c).k, (xrun P n nS fu h c).L, (xrun P n nS fu h c).f⟩)
    (hkt : (xl P n nS fu h c, (xrun P n nS fu h c).top, P.follows .mixedOrders, preB .any (xDr (xrun P n nS fu h c)).toList m) = (xr P n nS (fuel12 fu) h c, .code (.region (xId (xrun P n nS fu h c)) (xDr (xrun P n nS fu h c)) true), true, true) := by kernel_rfl) : Good M P n W Q c := by
  simp only [Prod.mk.injEq] at hkt
  obtain ⟨hk, e1, e2, e3⟩ := hkt
  refine xrun_ok fu h c hk ?_
  generalize xrun P n nS fu h c = d at hg e1 e3 ⊢
  generalize xDr d = a at hg e1 e3
  obtain ⟨l, rfl⟩ : ∃ l : List Oper, a = l.toArray := ⟨a.toList, by simp⟩
  have : d = ⟨.code (.region (xId d) l.toArray true), d.k, d.L, d.f⟩ := by rw [← e1]
  rw [this]
  have hg' : Good M P n W Q ⟨.hps (l.take m).toArray (Array.replicate m false) m d.L, .tl l.toArray (l.drop m) :: d.k, d.L, d.f⟩ := by simpa using hg
  exact ⟨fun hq => ok_drawh m d.L e2 (by simpa using e3) (hg'.go hq fun _ h => h)⟩
end

end Go.Proofs.Ytglbfknmeojfkaa
end

section
/-
  A slice of strings of one's own, sorted by slices.Sort; what the order of texts is; an iterator's entry in a world that holds the same. Conditions: as each theorem names.
-/
namespace Go.Proofs.Ytglbfknmeojfkaa
open Go.RowKit
set_option maxRecDepth 100000
set_option linter.unusedVariables false
set_option linter.unusedSimpArgs false

theorem less_lt : ∀ a b : List UInt8, Op.bytesLess a b = true ↔ a < b
  | [], [] => by simp [Op.bytesLess]
  | _ :: _, [] => by simp [Op.bytesLess]
  | [], _ :: _ => by simp [Op.bytesLess]
  | a :: x, b :: y => by
    rw [Op.bytesLess, List.cons_lt_cons_iff]
    simp only [Bool.or_eq_true, Bool.and_eq_true, decide_eq_true_eq, beq_iff_eq, less_lt x y]
theorem rise_pair : ∀ {l : List (List UInt8)}, l.Pairwise (fun a b => leB a b = true) → l.Nodup → riseT l = true
  | [], _, _ => rfl
  | a :: r, h, hn => by
    obtain ⟨h1, h2⟩ := List.pairwise_cons.1 h
    obtain ⟨n1, n2⟩ := List.nodup_cons.1 hn
    refine riseT_cons (rise_pair h2 n2) fun x hx => ?_
    have hle : a ≤ x := of_decide_eq_true (h1 x hx)
    cases hb : Op.bytesLess a x with
    | true => rfl
    | false =>
      have := lt_tri a x hb (fun e => n1 (e ▸ hx))
      exact absurd ((less_lt x a).1 this) (List.not_lt.2 hle)
theorem sort_rise {l : List (List UInt8)} (hn : l.Nodup) : riseT (l.mergeSort leB) = true := by
  refine rise_pair (List.pairwise_mergeSort ?_ ?_ l) ((List.mergeSort_perm l leB).nodup_iff.2 hn)
  · intro a b c h1 h2
    exact decide_eq_true (List.le_trans (of_decide_eq_true h1) (of_decide_eq_true h2))
  · intro a b
    rw [Bool.or_eq_true, decide_eq_true_eq, decide_eq_true_eq]
    exact List.le_total a b
theorem fsort_any {v : Value} {xs : List (List UInt8)} {ob : List Blk} {w : World} (h : SlT v xs ob) (hO : Own (ob.map Blk.b) w w ob) (hn : xs.length ≤ 1000000) : Calls Try.prog 57 #[v] w fun e w' => ∃ ob', e = .returned (.tuple #[]) ∧ SlT v (xs.mergeSort leB) ob' ∧ Own (ob.map Blk.b) w w' ob' ∧ ob'.map Blk.b = ob.map Blk.b := by
  obtain ⟨h1, h2⟩ := h
  have hl : (xs.mergeSort leB).length = xs.length := List.length_mergeSort xs
  rcases h2 with ⟨rfl, h3, rfl⟩ | ⟨g, cap, cur, rfl, rfl, h3, h4, h5, h6⟩
  · obtain rfl := List.eq_nil_of_length_eq_zero h3
    refine (Try.slices_Sort_string_none none 0 w).mono fun e w' ⟨e1, e2⟩ => ⟨[], e1, ⟨by simp [strV], .inl ⟨rfl, by simp, rfl⟩⟩, e2 ▸ hO, rfl⟩
  · have hb : w.heap[g]? = some (.cells cur 9) := hO.held ⟨g, cur, 9⟩ (List.mem_singleton.2 rfl)
    have hgl : g < w.heap.size := (Array.getElem?_eq_some_iff.1 hb).1
    have ht : cur.toList.take xs.length = xs.map encStr := by rw [Nat.mul_one] at h6; exact h6
    refine (Try.slices_Sort_string g 0 cap xs w (holds_of_block hb ht) hgl (by omega)).mono fun e w' ⟨e1, nn, os, e2⟩ => ?_
    have hg := grownBy_sorted (w := w) (g := g) (n := nn) (os := os) (xs.mergeSort leB).toArray
    have hs := heap_sorted (n := nn) (os := os) (xs.mergeSort leB).toArray hb
    have hd : w.drawn ≤ w'.drawn := by rw [e2]; exact Nat.le_add_right _ _
    rw [← e2] at hg hs
    refine ⟨[⟨g, Go.Sort.putCells encStr 0 (xs.mergeSort leB).toArray cur, 9⟩], e1, ⟨?_, .inr ⟨g, cap, _, by rw [hl], rfl, by omega, h4, by simp [Go.Sort.putCells, h5], ?_⟩⟩, ⟨hg.os, hg.tape, hg.output, hg.size, hd, fun k hk hm => hg.block k hk (fun q => hm (by simp only [List.map_cons, List.map_nil, List.mem_singleton]; exact Option.some.inj q)), ?_, fun x hx => .inr (by rw [List.mem_singleton.1 hx]; simp), by simp⟩, rfl⟩
    · rw [strV_length]; omega
    · rw [Nat.mul_one]
      exact take_putCells cur (xs.mergeSort leB) (by omega)
    · intro x hx; rw [List.mem_singleton.1 hx]; exact hs
theorem entry_kept {P : Program} {w w' : World} {b r since c0 clock : Nat} {seen : Array Nat} {es : Array MapEntry} {v : Value} (hr : w.heap[r]? = some (.mapIter (some b) since seen c0)) (hb : w.heap[b]? = some (.map es clock)) (hr' : w'.heap[r]? = some (.mapIter (some b) since seen c0)) (hb' : w'.heap[b]? = some (.map es clock))
    (h : (Instr.entry (.pointer (some ⟨r, 0, none⟩))).run P w = .ok v w) : (Instr.entry (.pointer (some ⟨r, 0, none⟩))).run P w' = .ok v w' := by
  simp only [Instr.entry, getObj, Sem.run_bind, Sem.run, hr, hb, hr', hb', Result.andThen] at h ⊢
  cases hs : seen.back? with
  | none => simp [hs, stuck, Sem.run] at h
  | some s =>
    simp only [hs, getObj, Sem.run_bind, Sem.run, hb, hb', Result.andThen] at h ⊢
    by_cases hc : (clock != c0) = true
    · simp [hc, unsupported, Sem.run] at h
    · simp only [hc, Bool.false_eq_true, if_false] at h ⊢
      cases hf : es.find? (fun e => e.born == s) with
      | none => simp [hf, unsupported, Sem.run] at h
      | some e =>
        simp only [hf, Sem.run] at h ⊢
        injection h with h1 _
        rw [h1]; rfl
theorem RanS.entry {w w' : World} {b r m : Nat} {a xs : List (List UInt8)} {v : Value} (h : RanS w b r a xs m) (hb : w'.heap[b]? = w.heap[b]?) (hr : w'.heap[r]? = w.heap[r]?) (he : (Instr.entry (.pointer (some ⟨r, 0, none⟩))).run Try.prog w = .ok v w) : (Instr.entry (.pointer (some ⟨r, 0, none⟩))).run Try.prog w' = .ok v w' := by
  obtain ⟨D, left, ⟨es, clock, since, seen, c0, h1, _, _, _, h2, _⟩, _⟩ := h.ex
  exact entry_kept h2 h1 (hr.trans h2) (hb.trans h1) he
theorem RanS.cells {w : World} {b r m : Nat} {a xs : List (List UInt8)} (h : RanS w b r a xs m) {x : Nat} {cs : Array Value} {T : TypeId} (hx : w.heap[x]? = some (.cells cs T)) : b ≠ x ∧ r ≠ x := by
  obtain ⟨D, left, ⟨es, clock, since, seen, c0, h1, _, _, _, h2, _⟩, _⟩ := h.ex
  exact ⟨fun e => (by rw [e, hx] at h1; cases h1), fun e => (by rw [e, hx] at h2; cases h2)⟩
end Go.Proofs.Ytglbfknmeojfkaa
end

section
/-
  Package feature: sorted: the texts of a map, rising, in new memory. Conditions: at most a thousand texts of at most a million bytes.
-/
namespace Go.Proofs.Ytglbfknmeojfkaa
open Go.RowKit
set_option maxRecDepth 100000
set_option linter.unusedVariables false
set_option linter.unusedSimpArgs false
set_option linter.unnecessarySimpa false
set_option maxHeartbeats 2000000

theorem lent_keep {w w2 : World} {ob ob2 : List Blk} {x : Nat} (h : Own (ob.map Blk.b) w w2 ob2) (hx : x < w.heap.size) (hn : ∀ y ∈ ob, y.b ≠ x) : w2.heap[x]? = w.heap[x]? :=
  h.kept x hx fun q => by obtain ⟨y, hy, e⟩ := List.mem_map.1 q; exact hn y hy e
theorem turned_lent {w w2 : World} {r : Nat} {ob : List Blk} (h : Own (ob.map Blk.b) w w ob) (ht : Turned r w w2) (hn : ∀ y ∈ ob, y.b ≠ r) : Own (ob.map Blk.b) w2 w2 ob :=
  ⟨rfl, rfl, rfl, Nat.le_refl _, Nat.le_refl _, fun _ _ _ => rfl, fun y hy => (ht.block y.b (hn y hy)).trans (h.held y hy), fun y hy => .inr (List.mem_map.2 ⟨y, hy, rfl⟩), h.apart⟩
theorem nodup_sub {α : Type} [DecidableEq α] : ∀ (l m : List α), l.Nodup → (∀ x ∈ l, x ∈ m) → l.length ≤ m.length
  | [], m, _, _ => Nat.zero_le _
  | x :: l, m, hn, hs => by
    have hx := hs x (List.mem_cons_self ..)
    have h1 := List.length_erase_of_mem hx
    have hn2 := List.nodup_cons.1 hn
    have h2 := nodup_sub l (m.erase x) hn2.2 fun y hy => (List.mem_erase_of_ne (by rintro rfl; exact hn2.1 hy)).2 (hs y (List.mem_cons_of_mem _ hy))
    have h3 : 0 < m.length := List.length_pos_of_mem hx
    rw [List.length_cons]; omega
theorem own_back {M : List Nat} {W w w6 : World} {ob : List Blk} (hb : Below W.heap.size W w6) (hO : Own M w w6 ob) (hge : ∀ y ∈ ob, W.heap.size ≤ y.b) : Own [] W w6 ob :=
  ⟨hb.os, hb.tape, hb.output, hb.size, hb.drawn, fun k hk _ => hb.block k hk, hO.held, fun y hy => .inl (hge y hy), hO.apart⟩
/-- A slice of one's own that is nil where it is empty. -/
def SlE (v : Value) (l : List (List UInt8)) (ob : List Blk) : Prop := SlT v l ob ∧ (l = [] → v = .slice none 0 0)
theorem fsorted_any (b : Nat) (a : List (List UInt8)) (W : World) (hm : MapS W b a) (ha : a.length ≤ 1000) (hs : ∀ s ∈ a, s.length ≤ 1000000) : Calls Try.prog 40 #[.map (some b)] W fun e w' => ∃ v ob, e = .returned v ∧ (∃ l, SlE v l ob ∧ riseT l = true ∧ ∀ x, x ∈ l ↔ x ∈ a) ∧ Own [] W w' ob := by
  refine x_enter Try.func40 (x_ins [] (Instr.range 61 (.map (some b))) fun w0 hO0 => ?_)
  obtain ⟨w1, m1, hrun1, hR1, hB1⟩ := (hm.kept (hO0.below.block b hm.lt)).range
  refine ⟨_, w1, [], [], hrun1, Own.start _ _, ?_⟩
  have hW1 : Below W.heap.size W w1 := hO0.below.trans (hB1.mono hO0.size)
  obtain ⟨r, hr⟩ : ∃ r, w0.heap.size = r := ⟨_, rfl⟩
  have hrW : W.heap.size ≤ r := hr ▸ hO0.size
  rw [hr] at hR1 ⊢
  refine x_loopW (α := List (List UInt8) × Value × List Blk) (fun (_, v, _) => [(3, v), (6, .pointer (some ⟨r, 0, none⟩))]) (fun (_, _, ob) => ob.map Blk.b) (fun (_, _, ob) => ob) (fun (xs, v, ob) w m => RanS w b r a xs m ∧ SlE v xs ob ∧ Below W.heap.size W w ∧ ∀ y ∈ ob, W.heap.size ≤ y.b) ([], .slice none 0 0, []) m1 [] (fun w hO => ⟨⟨hR1.kept (hO.below.block b hR1.lt.1) (hO.below.block r hR1.lt.2), ⟨Sl.nil _ _, fun _ => rfl⟩, hW1.trans (hO.below.mono hW1.size), fun y hy => by cases hy⟩, Own.start _ _⟩) ?_
  rintro ⟨xs, v, ob⟩ w m g ⟨hR, ⟨hv, hv0⟩, hW, hob⟩ hO
  have hxl : xs.length ≤ 1000 := Nat.le_trans (nodup_sub _ _ hR.nd hR.sub) ha
  have hne : ∀ y ∈ ob, y.b ≠ b ∧ y.b ≠ r := fun y hy => by
    have := hR.cells (hO.held y hy)
    exact ⟨fun e => this.1 e.symm, fun e => this.2 e.symm⟩
  have hMW : ∀ z ∈ ob.map Blk.b, W.heap.size ≤ z := fun z hz => by obtain ⟨y, hy, rfl⟩ := List.mem_map.1 hz; exact hob y hy
  refine x_ins [] (Instr.next (.pointer (some ⟨r, 0, none⟩)) false 0) fun w2 hO2x => ?_
  have hO2 : Own (ob.map Blk.b) w w2 ob := hO2x.past 0 ob
  have hR2 : RanS w2 b r a xs m := hR.kept (lent_keep hO2 hR.lt.1 fun y hy => (hne y hy).1) (lent_keep hO2 hR.lt.2 fun y hy => (hne y hy).2)
  have hW2 : Below W.heap.size W w2 := hW.trans (hO2.under hMW hW.size)
  rcases hR2.next 0 with ⟨hall, hrun⟩ | ⟨s, c, w3, m', hsa, hsx, hrun, hR3, hlt, hT, hen⟩
  · refine ⟨_, w2, ob.map Blk.b, ob, hrun, hO2.lend, x_outW (.exit 0) [] (x_callW (k := 57) (args := #[v]) [] fun w4 hO4x => ?_) rfl⟩
    have hO4 : Own (ob.map Blk.b) w2 w4 ob := hO4x.past 0 ob
    have hW4 : Below W.heap.size W w4 := hW2.trans (hO4.under hMW hW2.size)
    refine (fsort_any hv hO4.lend (by omega)).mono fun e w5 ⟨ob', e1, hv', hO5, hbb⟩ => ⟨.tuple #[], ob'.map Blk.b, ob', e1, hO5.lend, ?_⟩
    have hge : ∀ y ∈ ob', W.heap.size ≤ y.b := fun y hy => hMW _ (by rw [← hbb]; exact List.mem_map.2 ⟨y, hy, rfl⟩)
    have hW5 : Below W.heap.size W w5 := hW4.trans (hO5.under hMW hW4.size)
    refine x_ret [] v fun w6 hO6x => ?_
    have hO6 : Own (ob'.map Blk.b) w5 w6 ob' := hO6x.past 0 ob'
    refine ⟨v, ob', rfl, ⟨_, ⟨hv', fun e => hv0 (List.eq_nil_of_length_eq_zero (by rw [← List.length_mergeSort (le := leB) xs, e]; rfl))⟩, sort_rise hR.nd, fun x => ?_⟩, own_back (hW5.trans (hO6.under (fun z hz => hMW z (hbb ▸ hz)) hW5.size)) hO6 hge⟩
    rw [(List.mergeSort_perm xs leB).mem_iff]
    exact ⟨hR.sub x, hall x⟩
  · have hW3 : Below W.heap.size W w3 := hW2.trans ((hT.own.under (B := W.heap.size) (fun z hz => by rw [List.mem_singleton.1 hz]; exact hrW) hW2.size))
    refine ⟨_, w3, ob.map Blk.b, ob, hrun, turned_lent hO2.lend hT fun y hy => (hne y hy).2, ?_⟩
    have hent : ∀ w4, Own (ob.map Blk.b) w3 w4 ob → (Instr.entry (.pointer (some ⟨r, 0, none⟩))).run Try.prog w4 = .ok (.tuple #[.string (mkS s), .bool c]) w4 := fun w4 hO4 => hR3.entry (lent_keep hO4 hR3.lt.1 fun y hy => (hne y hy).1) (lent_keep hO4 hR3.lt.2 fun y hy => (hne y hy).2) hen
    refine x_rd [] (Instr.entry (.pointer (some ⟨r, 0, none⟩))) (.tuple #[.string (mkS s), .bool c]) (fun w4 hO4 => hent w4 (hO4.past 0 ob)) ?_
    refine x_call (v := .string (mkS s)) [] (fun w4 _ => iClone_any s w4 (hs s hsa)) (x_lit [] 1 9 #[.string (mkS s)] fun bl => ?_)
    refine x_app (m := 1) (cp := 1) [] [⟨bl, #[.string (mkS s)], 9⟩] ob [] 0 (⟨bl, #[.string (mkS s)], 9⟩ :: ob) (fun w hO => hO.cast (by simp)) hv (by omega) fun v' ob' hv' => ?_
    refine x_nxW (xs ++ [s], v', ob') m' [] hlt fun w5 hO5x => ?_
    have hO5 : Own (ob.map Blk.b) w3 w5 ([(⟨bl, #[.string (mkS s)], 9⟩ : Blk)] ++ ob' ++ []) := hO5x.past 0 _
    have hsub : ∀ y ∈ ob', y ∈ [(⟨bl, #[.string (mkS s)], 9⟩ : Blk)] ++ ob' ++ [] := fun y hy => List.mem_append_left _ (List.mem_append_right _ hy)
    have hOo : Own (ob.map Blk.b) w3 w5 ob' := hO5.sublist (List.Sublist.trans (List.sublist_append_right _ _) (List.sublist_append_left _ _))
    refine ⟨⟨hR3.kept (lent_keep hOo hR3.lt.1 fun y hy => (hne y hy).1) (lent_keep hOo hR3.lt.2 fun y hy => (hne y hy).2), ⟨SlT.add hv', fun e => absurd e (by simp)⟩, hW3.trans (hOo.under hMW hW3.size), fun y hy => ?_⟩, hOo.lend⟩
    rcases hOo.base y hy with q | q
    · exact Nat.le_trans hW3.size q
    · exact hMW _ q
end Go.Proofs.Ytglbfknmeojfkaa
end

section
/-
  Plain: what a walk that turns features on one by one, depth first, gathers: three sets. No program is named here.
-/
namespace Go.Proofs.Ytglbfknmeojfkaa
set_option linter.unusedVariables false
set_option linter.unusedSimpArgs false

abbrev Tx3 := List (List UInt8)
/-- What an item turns on is there. -/
structure Ful (a b c : Tx3) (s : List UInt8) : Prop where
  one : (kindT s).1 = 1 → wordOf s ∈ a
  two : (kindT s).1 = 2 → wordOf s ∈ b
  three : (kindT s).1 = 3 → s ∈ c
theorem Ful.mono {a b c a' b' c' : Tx3} {s : List UInt8} (h : Ful a b c s) (ha : ∀ x ∈ a, x ∈ a') (hb : ∀ x ∈ b, x ∈ b') (hc : ∀ x ∈ c, x ∈ c') : Ful a' b' c' s :=
  ⟨fun k => ha _ (h.one k), fun k => hb _ (h.two k), fun k => hc _ (h.three k)⟩
/-- All features that there may be; how many of them are not on. -/
def uniT (l : List Ft) : Tx3 := putT (l.map Ft.name) dfl
def remT (l : List Ft) (a : Tx3) : Nat := ((uniT l).filter fun x => decide (x ∉ a)).length
theorem uni_is {l : List Ft} {n : List UInt8} (h : isT l n = true) : n ∈ uniT l := by
  unfold isT at h
  rw [Bool.or_eq_true, decide_eq_true_eq] at h
  rcases h with rfl | h
  · exact put_mem.2 (.inl rfl)
  · exact put_mem.2 (.inr (findT_mem h))
theorem uni_len {l : List Ft} (h : mayF l = true) : (uniT l).length ≤ 9 := by
  unfold mayF at h
  simp only [Bool.and_eq_true, decide_eq_true_eq] at h
  have := put_len (l := l.map Ft.name) (s := dfl)
  rw [List.length_map] at this
  unfold uniT; omega
theorem filter_lt {p q : List UInt8 → Bool} : ∀ {l : Tx3} {n : List UInt8}, (∀ x, q x = true → p x = true) → n ∈ l → p n = true → q n = false → (l.filter q).length + 1 ≤ (l.filter p).length
  | [], n, _, h, _, _ => by cases h
  | y :: r, n, hqp, h, h1, h2 => by
    have hle : ∀ r : Tx3, (r.filter q).length ≤ (r.filter p).length := fun r => by
      induction r with
      | nil => exact Nat.le_refl _
      | cons z r ih =>
        cases hq : q z with
        | true => rw [List.filter_cons_of_pos hq, List.filter_cons_of_pos (hqp z hq)]; exact Nat.succ_le_succ ih
        | false =>
          rw [List.filter_cons_of_neg (by simp [hq])]
          cases hp : p z with
          | true => rw [List.filter_cons_of_pos hp]; exact Nat.le_succ_of_le ih
          | false => rw [List.filter_cons_of_neg (by simp [hp])]; exact ih
    rcases List.mem_cons.1 h with rfl | h
    · rw [List.filter_cons_of_neg (by simp [h2]), List.filter_cons_of_pos h1]
      exact Nat.succ_le_succ (hle r)
    · have ih := filter_lt hqp h h1 h2
      cases hq : q y with
      | true => rw [List.filter_cons_of_pos hq, List.filter_cons_of_pos (hqp y hq)]; exact Nat.succ_le_succ ih
      | false =>
        rw [List.filter_cons_of_neg (by simp [hq])]
        cases hp : p y with
        | true => rw [List.filter_cons_of_pos hp]; exact Nat.le_succ_of_le ih
        | false => rw [List.filter_cons_of_neg (by simp [hp])]; exact ih
theorem rem_cons {l : List Ft} {a : Tx3} {n : List UInt8} (hn : n ∉ a) (hu : n ∈ uniT l) : remT l (n :: a) + 1 ≤ remT l a := by
  refine filter_lt (fun x h => ?_) hu (decide_eq_true hn) (decide_eq_false fun h => h (List.mem_cons_self ..))
  have := of_decide_eq_true h
  exact decide_eq_true fun q => this (List.mem_cons_of_mem _ q)
/-- What the walk from one feature on does. -/
structure AddG (l : List Ft) (n : List UInt8) (a b c a' b' c' : Tx3) : Prop where
  ma : ∀ x ∈ a, x ∈ a'
  mb : ∀ x ∈ b, x ∈ b'
  mc : ∀ x ∈ c, x ∈ c'
  me : n ∈ a'
  ful : ∀ x ∈ a', x ∉ a → ∀ s ∈ ofT l x, Ful a' b' c' s
  on : ∀ x ∈ a', x ∈ a ∨ On l [n] x
  op : ∀ x ∈ b', x ∈ b ∨ ∃ f ∈ a', ∃ s ∈ ofT l f, (kindT s).1 = 2 ∧ x = wordOf s
  pu : ∀ x ∈ c', x ∈ c ∨ ∃ f ∈ a', ∃ s ∈ ofT l f, (kindT s).1 = 3 ∧ x = s
  ca : a'.length + remT l a' ≤ a.length + remT l a
  cb : b'.length + 6 * a.length ≤ b.length + 6 * a'.length
  cc : c'.length + 6 * a.length ≤ c.length + 6 * a'.length
  la : a.length ≤ a'.length
theorem AddG.refl {l : List Ft} {n : List UInt8} {a b c : Tx3} (h : n ∈ a) : AddG l n a b c a b c :=
  ⟨fun _ h => h, fun _ h => h, fun _ h => h, h, fun _ h q => absurd h q, fun _ h => .inl h, fun _ h => .inl h, fun _ h => .inl h, Nat.le_refl _, Nat.le_refl _, Nat.le_refl _, Nat.le_refl _⟩
theorem On.trans {l : List Ft} {n y : List UInt8} {asked : Tx3} (h : On l asked y) {x : List UInt8} (hx : On l [y] x) : On l asked x := by
  induction hx with
  | ask q => rw [List.mem_singleton.1 q]; exact h
  | of _ hs hk ih => exact .of ih hs hk
/-- In the midst of one feature's items. -/
structure AddL (l : List Ft) (n : List UInt8) (a b c : Tx3) (i : Nat) (a' b' c' : Tx3) : Prop where
  ma : ∀ x ∈ a, x ∈ a'
  mb : ∀ x ∈ b, x ∈ b'
  mc : ∀ x ∈ c, x ∈ c'
  me : n ∈ a'
  ful : ∀ x ∈ a', x ∉ a → x ≠ n → ∀ s ∈ ofT l x, Ful a' b' c' s
  done : ∀ s ∈ (ofT l n).take i, Ful a' b' c' s
  on : ∀ x ∈ a', x ∈ a ∨ On l [n] x
  op : ∀ x ∈ b', x ∈ b ∨ ∃ f ∈ a', ∃ s ∈ ofT l f, (kindT s).1 = 2 ∧ x = wordOf s
  pu : ∀ x ∈ c', x ∈ c ∨ ∃ f ∈ a', ∃ s ∈ ofT l f, (kindT s).1 = 3 ∧ x = s
  ca : a'.length + remT l a' ≤ a.length + remT l a
  cb : b'.length + 6 * (a.length + 1) ≤ b.length + 6 * a'.length + i
  cc : c'.length + 6 * (a.length + 1) ≤ c.length + 6 * a'.length + i
  la : a.length + 1 ≤ a'.length
theorem AddL.start {l : List Ft} {n : List UInt8} {a b c : Tx3} (hn : n ∉ a) (hu : n ∈ uniT l) : AddL l n a b c 0 (n :: a) b c := by
  have hr := rem_cons hn hu
  refine ⟨fun x h => List.mem_cons_of_mem _ h, fun _ h => h, fun _ h => h, List.mem_cons_self .., fun x h h1 h2 => ?_, fun s h => by simp at h, fun x h => ?_, fun _ h => .inl h, fun _ h => .inl h, ?_, ?_, ?_, ?_⟩
  · rcases List.mem_cons.1 h with h | h
    · exact absurd h h2
    · exact absurd h h1
  · rcases List.mem_cons.1 h with h | h
    · exact .inr (.ask (by rw [h]; exact List.mem_singleton.2 rfl))
    · exact .inl h
  · simp only [List.length_cons]; omega
  · simp only [List.length_cons]; omega
  · simp only [List.length_cons]; omega
  · simp
theorem AddL.len {l : List Ft} {n : List UInt8} {a b c a' b' c' : Tx3} {i : Nat} (h : AddL l n a b c i a' b' c') : remT l a' < remT l a := by have := h.ca; have := h.la; omega
theorem done_succ {l : List Ft} {n s : List UInt8} {a b c : Tx3} {i : Nat} (hi : i < (ofT l n).length) (hs : (ofT l n)[i] = s) (h : ∀ s ∈ (ofT l n).take i, Ful a b c s) (hf : Ful a b c s) : ∀ s ∈ (ofT l n).take (i + 1), Ful a b c s := fun t ht => by
  rw [List.take_succ_eq_append_getElem hi, List.mem_append, List.mem_singleton, hs] at ht
  rcases ht with ht | rfl
  · exact h t ht
  · exact hf
theorem AddL.one {l : List Ft} {n s : List UInt8} {a b c a' b' c' a2 b2 c2 : Tx3} {i : Nat} (h : AddL l n a b c i a' b' c') (hi : i < (ofT l n).length) (hs : (ofT l n)[i] = s) (hk : (kindT s).1 = 1) (g : AddG l (wordOf s) a' b' c' a2 b2 c2) : AddL l n a b c (i + 1) a2 b2 c2 := by
  have hsm : s ∈ ofT l n := hs ▸ List.getElem_mem hi
  refine ⟨fun x q => g.ma x (h.ma x q), fun x q => g.mb x (h.mb x q), fun x q => g.mc x (h.mc x q), g.ma _ h.me, fun x q q1 q2 t ht => ?_, ?_, fun x q => ?_, fun x q => ?_, fun x q => ?_, ?_, ?_, ?_, ?_⟩
  · by_cases hx : x ∈ a'
    · exact (h.ful x hx q1 q2 t ht).mono g.ma g.mb g.mc
    · exact g.ful x q hx t ht
  · exact done_succ hi hs (fun t ht => (h.done t ht).mono g.ma g.mb g.mc) ⟨fun _ => g.me, fun k => (by rw [hk] at k; cases k), fun k => (by rw [hk] at k; cases k)⟩
  · rcases g.on x q with q | q
    · exact h.on x q
    · exact .inr (On.trans (n := n) (.of (.ask (List.mem_singleton.2 rfl)) hsm hk) q)
  · rcases g.op x q with q | q
    · rcases h.op x q with q | ⟨f, hf, r⟩
      · exact .inl q
      · exact .inr ⟨f, g.ma f hf, r⟩
    · exact .inr q
  · rcases g.pu x q with q | q
    · rcases h.pu x q with q | ⟨f, hf, r⟩
      · exact .inl q
      · exact .inr ⟨f, g.ma f hf, r⟩
    · exact .inr q
  · have := h.ca; have := g.ca; omega
  · have := h.cb; have := g.cb; omega
  · have := h.cc; have := g.cc; omega
  · have := h.la; have := g.la; omega
theorem AddL.two {l : List Ft} {n s : List UInt8} {a b c a' b' c' : Tx3} {i : Nat} (h : AddL l n a b c i a' b' c') (hi : i < (ofT l n).length) (hs : (ofT l n)[i] = s) (hk : (kindT s).1 = 2) : AddL l n a b c (i + 1) a' (wordOf s :: b') c' := by
  have hsm : s ∈ ofT l n := hs ▸ List.getElem_mem hi
  have mb : ∀ x ∈ b', x ∈ wordOf s :: b' := fun x q => List.mem_cons_of_mem _ q
  refine ⟨h.ma, fun x q => mb x (h.mb x q), h.mc, h.me, fun x q q1 q2 t ht => (h.ful x q q1 q2 t ht).mono (fun _ q => q) mb (fun _ q => q), ?_, h.on, fun x q => ?_, h.pu, h.ca, ?_, ?_, h.la⟩
  · exact done_succ hi hs (fun t ht => (h.done t ht).mono (fun _ q => q) mb (fun _ q => q)) ⟨fun k => (by rw [hk] at k; cases k), fun _ => List.mem_cons_self .., fun k => (by rw [hk] at k; cases k)⟩
  · rcases List.mem_cons.1 q with q | q
    · exact .inr ⟨n, h.me, s, hsm, hk, q⟩
    · exact h.op x q
  · have := h.cb; simp only [List.length_cons]; omega
  · have := h.cc; omega
theorem AddL.three {l : List Ft} {n s : List UInt8} {a b c a' b' c' : Tx3} {i : Nat} (h : AddL l n a b c i a' b' c') (hi : i < (ofT l n).length) (hs : (ofT l n)[i] = s) (hk : (kindT s).1 = 3) : AddL l n a b c (i + 1) a' b' (s :: c') := by
  have hsm : s ∈ ofT l n := hs ▸ List.getElem_mem hi
  have mc : ∀ x ∈ c', x ∈ s :: c' := fun x q => List.mem_cons_of_mem _ q
  refine ⟨h.ma, h.mb, fun x q => mc x (h.mc x q), h.me, fun x q q1 q2 t ht => (h.ful x q q1 q2 t ht).mono (fun _ q => q) (fun _ q => q) mc, ?_, h.on, h.op, fun x q => ?_, h.ca, ?_, ?_, h.la⟩
  · exact done_succ hi hs (fun t ht => (h.done t ht).mono (fun _ q => q) (fun _ q => q) mc) ⟨fun k => (by rw [hk] at k; cases k), fun k => (by rw [hk] at k; cases k), fun _ => List.mem_cons_self ..⟩
  · rcases List.mem_cons.1 q with q | q
    · exact .inr ⟨n, h.me, s, hsm, hk, q⟩
    · exact h.pu x q
  · have := h.cb; omega
  · have := h.cc; simp only [List.length_cons]; omega
theorem AddL.none {l : List Ft} {n s : List UInt8} {a b c a' b' c' : Tx3} {i : Nat} (h : AddL l n a b c i a' b' c') (hi : i < (ofT l n).length) (hs : (ofT l n)[i] = s) (h1 : ¬ (kindT s).1 = 1) (h2 : ¬ (kindT s).1 = 2) (h3 : ¬ (kindT s).1 = 3) : AddL l n a b c (i + 1) a' b' c' :=
  ⟨h.ma, h.mb, h.mc, h.me, h.ful, done_succ hi hs h.done ⟨fun k => absurd k h1, fun k => absurd k h2, fun k => absurd k h3⟩, h.on, h.op, h.pu, h.ca, by have := h.cb; omega, by have := h.cc; omega, h.la⟩
theorem AddL.fin {l : List Ft} {n : List UInt8} {a b c a' b' c' : Tx3} {i : Nat} (h : AddL l n a b c i a' b' c') (hi : i = (ofT l n).length) (h6 : (ofT l n).length ≤ 6) : AddG l n a b c a' b' c' := by
  refine ⟨h.ma, h.mb, h.mc, h.me, fun x q q1 t ht => ?_, h.on, h.op, h.pu, h.ca, by have := h.cb; omega, by have := h.cc; omega, by have := h.la; omega⟩
  by_cases e : x = n
  · exact h.done t (by rw [hi, List.take_length, ← e]; exact ht)
  · exact h.ful x q q1 e t ht
/-- After the first of those that are asked for. -/
structure AddT (l : List Ft) (asked : Tx3) (a b c : Tx3) : Prop where
  me : ∀ x ∈ asked, x ∈ a
  ful : ∀ x ∈ a, ∀ s ∈ ofT l x, Ful a b c s
  on : ∀ x ∈ a, On l asked x
  op : ∀ x ∈ b, ∃ f ∈ a, ∃ s ∈ ofT l f, (kindT s).1 = 2 ∧ x = wordOf s
  pu : ∀ x ∈ c, ∃ f ∈ a, ∃ s ∈ ofT l f, (kindT s).1 = 3 ∧ x = s
  ca : a.length + remT l a ≤ (uniT l).length
  cb : b.length ≤ 6 * a.length
  cc : c.length ≤ 6 * a.length
theorem AddT.start (l : List Ft) : AddT l [] [] [] [] := by
  refine ⟨fun _ h => h, fun _ h => (by cases h), fun _ h => (by cases h), fun _ h => (by cases h), fun _ h => (by cases h), ?_, Nat.zero_le _, Nat.zero_le _⟩
  rw [List.length_nil, Nat.zero_add]; exact List.length_filter_le ..
theorem AddT.step {l : List Ft} {asked a b c a' b' c' : Tx3} {n : List UInt8} (h : AddT l asked a b c) (g : AddG l n a b c a' b' c') : AddT l (asked ++ [n]) a' b' c' := by
  have h1 : ∀ x ∈ asked, x ∈ asked ++ [n] := fun x q => List.mem_append_left _ q
  refine ⟨fun x q => ?_, fun x q t ht => ?_, fun x q => ?_, fun x q => ?_, fun x q => ?_, ?_, ?_, ?_⟩
  · rcases List.mem_append.1 q with q | q
    · exact g.ma _ (h.me _ q)
    · rw [List.mem_singleton.1 q]; exact g.me
  · by_cases hx : x ∈ a
    · exact (h.ful x hx t ht).mono g.ma g.mb g.mc
    · exact g.ful x q hx t ht
  · rcases g.on x q with q | q
    · exact on_mono h1 (h.on x q)
    · exact on_mono (fun y hy => by rw [List.mem_singleton.1 hy]; exact List.mem_append_right _ (List.mem_singleton.2 rfl)) q
  · rcases g.op x q with q | q
    · obtain ⟨f, hf, r⟩ := h.op x q; exact ⟨f, g.ma f hf, r⟩
    · exact q
  · rcases g.pu x q with q | q
    · obtain ⟨f, hf, r⟩ := h.pu x q; exact ⟨f, g.ma f hf, r⟩
    · exact q
  · have := g.ca; have := h.ca; omega
  · have := g.cb; have := h.cb; omega
  · have := g.cc; have := h.cc; omega
theorem AddT.le {l : List Ft} {asked a b c : Tx3} (hm : mayF l = true) (h : AddT l asked a b c) : a.length ≤ 9 ∧ b.length ≤ 54 ∧ c.length ≤ 54 := by
  have := uni_len hm; have := h.ca; have := h.cb; have := h.cc; omega
theorem AddT.all {l : List Ft} {asked a b c : Tx3} (h : AddT l asked a b c) (x : List UInt8) : x ∈ a ↔ On l asked x :=
  ⟨h.on x, fun q => by
    induction q with
    | ask q => exact h.me _ q
    | of hf hs hk ih => exact (h.ful _ ih _ hs).one hk⟩
/-- The three rising lists of what has been gathered are what Close answers. -/
theorem AddT.answers {l : List Ft} {asked a b c ra rb rc : Tx3} (hm : mayF l = true) (ha : ∀ x ∈ asked, isT l x = true) (h : AddT l asked a b c) (r1 : riseT ra = true) (r2 : riseT rb = true) (r3 : riseT rc = true) (m1 : ∀ x, x ∈ ra ↔ x ∈ a) (m2 : ∀ x, x ∈ rb ↔ x ∈ b) (m3 : ∀ x, x ∈ rc ↔ x ∈ c) :
    errF l asked = 0 ∧ ra = onF l asked ∧ rb = optF l asked ∧ rc = pullF l asked := by
  have he := errF_yes hm ha
  obtain ⟨z1, z2, z3⟩ := clo_yes he
  have e1 : ra = onT l asked := on_is hm ha r1 fun x => (m1 x).trans (h.all x)
  have ea : ∀ x, x ∈ onT l asked ↔ x ∈ a := fun x => by rw [← e1]; exact m1 x
  rw [z1, z2, z3]
  refine ⟨he, e1, opts_is r2 fun x => ?_, pulls_is r3 fun x => ?_⟩
  · rw [m2]
    constructor
    · intro q; obtain ⟨f, hf, r⟩ := h.op x q; exact ⟨f, (ea f).2 hf, r⟩
    · rintro ⟨f, hf, s, hs, hk, e⟩; rw [e]; exact (h.ful f ((ea f).1 hf) s hs).two hk
  · rw [m3]
    constructor
    · intro q; obtain ⟨f, hf, r⟩ := h.pu x q; exact ⟨f, (ea f).2 hf, r⟩
    · rintro ⟨f, hf, s, hs, hk, e⟩; rw [e]; exact (h.ful f ((ea f).1 hf) s hs).three hk
end Go.Proofs.Ytglbfknmeojfkaa
end

section
/-
  Package feature: (*closure).add: what it puts into its three maps. Conditions: as the theorem names.
-/
namespace Go.Proofs.Ytglbfknmeojfkaa
open Go.RowKit
set_option maxRecDepth 100000
set_option linter.unusedVariables false
set_option linter.unusedSimpArgs false
set_option linter.unnecessarySimpa false
set_option maxHeartbeats 4000000

/-- Where a closure lies: its block, its three maps, its list; what is older than B is never written. -/
structure CPl where
  A : Option Addr
  cap : Nat
  xs : List Fv
  cb : Nat
  b1 : Nat
  b2 : Nat
  b3 : Nat
  B : Nat
  n12 : b1 ≠ b2
  n13 : b1 ≠ b3
  n23 : b2 ≠ b3
  l1 : B ≤ b1
  l2 : B ≤ b2
  l3 : B ≤ b3
abbrev CPl.l (p : CPl) : List Ft := ftOf p.xs
abbrev CPl.cs (p : CPl) : Array Value := #[.slice p.A p.xs.length p.cap, .map (some p.b1), .map (some p.b2), .map (some p.b3)]
abbrev CPl.L (p : CPl) : List Blk := [⟨p.cb, p.cs, 63⟩]
abbrev CPl.bs (p : CPl) : List Nat := [p.b1, p.b2, p.b3]
structure Cl (p : CPl) (w : World) (a b c : List (List UInt8)) : Prop where
  hc : w.heap[p.cb]? = some (.cells p.cs 63)
  ft : FtIn w p.B p.A p.xs
  m1 : MapS w p.b1 a
  m2 : MapS w p.b2 b
  m3 : MapS w p.b3 c
  hB : p.B ≤ w.heap.size
section
variable {p : CPl} {w w' : World} {a b c : List (List UInt8)}
theorem Cl.own (h : Cl p w a b c) : Own [p.cb] w w p.L :=
  ⟨rfl, rfl, rfl, Nat.le_refl _, Nat.le_refl _, fun _ _ _ => rfl, fun x hx => by rw [List.mem_singleton.1 hx]; exact h.hc, fun x hx => .inr (by rw [List.mem_singleton.1 hx]; exact List.mem_singleton.2 rfl), by simp⟩
theorem Cl.see (h : Cl p w a b c) (hO : Own [p.cb] w w' p.L) : Below w.heap.size w w' := h.own.same hO fun m hm => ⟨_, List.mem_singleton.2 rfl, (List.mem_singleton.1 hm).symm⟩
theorem Cl.on (h : Cl p w a b c) (hb : Below w.heap.size w w') : Cl p w' a b c :=
  ⟨(hb.block _ (Array.getElem?_eq_some_iff.1 h.hc).1).trans h.hc, h.ft.on (hb.mono h.hB) (Nat.le_refl _), h.m1.kept (hb.block _ h.m1.lt), h.m2.kept (hb.block _ h.m2.lt), h.m3.kept (hb.block _ h.m3.lt), Nat.le_trans h.hB hb.size⟩
theorem Cl.bsB (p : CPl) : ∀ m ∈ p.bs, p.B ≤ m := fun m hm => by
  rcases List.mem_cons.1 hm with rfl | hm
  · exact p.l1
  rcases List.mem_cons.1 hm with rfl | hm
  · exact p.l2
  rw [List.mem_singleton.1 hm]; exact p.l3
theorem Cl.turn (h : Cl p w a b c) {x : Nat} (hx : x ∈ p.bs) (hT : Turned x w w') : w'.heap[p.cb]? = some (.cells p.cs 63) ∧ FtIn w' p.B p.A p.xs ∧ p.B ≤ w'.heap.size ∧ Own p.bs w w' [] := by
  have hxc : p.cb ≠ x := fun e => by
    rcases List.mem_cons.1 hx with rfl | hx
    · exact h.m1.cells (e ▸ h.hc)
    rcases List.mem_cons.1 hx with rfl | hx
    · exact h.m2.cells (e ▸ h.hc)
    · rw [List.mem_singleton.1 hx] at e; exact h.m3.cells (e ▸ h.hc)
  have hb : Below p.B w w' := hT.own.under (fun m hm => by rw [List.mem_singleton.1 hm]; exact Cl.bsB p x hx) h.hB
  exact ⟨(hT.block _ hxc).trans h.hc, h.ft.on hb (Nat.le_refl _), by rw [hT.size]; exact h.hB, hT.own.more fun m hm => by rw [List.mem_singleton.1 hm]; exact hx⟩
theorem Cl.put1 (h : Cl p w a b c) {s : List UInt8} (hs : s.length ≤ 1000000) (hn : a.length ≤ 1000000) : ∃ w', (Instr.mapUpdate 61 (.map (some p.b1)) (.string (mkS s)) (.bool true)).run Try.prog w = .ok () w' ∧ Cl p w' (s :: a) b c ∧ Own p.bs w w' [] := by
  obtain ⟨w', hr, hm, hT⟩ := h.m1.put hs hn
  obtain ⟨k1, k2, k3, k4⟩ := h.turn (List.mem_cons_self ..) hT
  exact ⟨w', hr, ⟨k1, k2, hm, h.m2.kept (hT.block _ p.n12.symm), h.m3.kept (hT.block _ p.n13.symm), k3⟩, k4⟩
theorem Cl.put2 (h : Cl p w a b c) {s : List UInt8} (hs : s.length ≤ 1000000) (hn : b.length ≤ 1000000) : ∃ w', (Instr.mapUpdate 61 (.map (some p.b2)) (.string (mkS s)) (.bool true)).run Try.prog w = .ok () w' ∧ Cl p w' a (s :: b) c ∧ Own p.bs w w' [] := by
  obtain ⟨w', hr, hm, hT⟩ := h.m2.put hs hn
  obtain ⟨k1, k2, k3, k4⟩ := h.turn (List.mem_cons_of_mem _ (List.mem_cons_self ..)) hT
  exact ⟨w', hr, ⟨k1, k2, h.m1.kept (hT.block _ p.n12), hm, h.m3.kept (hT.block _ p.n23.symm), k3⟩, k4⟩
theorem Cl.put3 (h : Cl p w a b c) {s : List UInt8} (hs : s.length ≤ 1000000) (hn : c.length ≤ 1000000) : ∃ w', (Instr.mapUpdate 61 (.map (some p.b3)) (.string (mkS s)) (.bool true)).run Try.prog w = .ok () w' ∧ Cl p w' a b (s :: c) ∧ Own p.bs w w' [] := by
  obtain ⟨w', hr, hm, hT⟩ := h.m3.put hs hn
  obtain ⟨k1, k2, k3, k4⟩ := h.turn (List.mem_cons_of_mem _ (List.mem_cons_of_mem _ (List.mem_cons_self ..))) hT
  exact ⟨w', hr, ⟨k1, k2, h.m1.kept (hT.block _ p.n13), h.m2.kept (hT.block _ p.n23), hm, k3⟩, k4⟩
end
theorem kind_four (s : List UInt8) : (kindT s).1 = 0 ∨ (kindT s).1 = 1 ∨ (kindT s).1 = 2 ∨ (kindT s).1 = 3 := by
  unfold kindT
  split
  · exact .inr (.inl rfl)
  · split
    · exact .inr (.inr (.inl rfl))
    · split
      · split
        · exact .inr (.inr (.inr rfl))
        · exact .inl rfl
      · exact .inl rfl
theorem is_word {l : List Ft} {n s : List UInt8} (hm : mayF l = true) (hs : s ∈ ofT l n) (hk : (kindT s).1 = 1) : isT l (wordOf s) = true := by
  unfold mayF at hm
  simp only [Bool.and_eq_true, decide_eq_true_eq] at hm
  obtain ⟨f, hfl, hsf⟩ := ofT_mem hs
  have h1 := List.all_eq_true.1 hm.2 f hfl
  unfold itemsT at h1
  simp only [Bool.and_eq_true, decide_eq_true_eq] at h1
  have h2 := List.all_eq_true.1 h1.2 _ hsf
  unfold okItem at h2
  simp [hk] at h2
  exact h2
theorem word_short {s : List UInt8} (hs : s.length ≤ 1000000) (hk : (kindT s).1 = 1 ∨ (kindT s).1 = 2) : (wordOf s).length ≤ 1000000 := by
  rcases hk with hk | hk
  · rw [kind_one hk]; exact hs
  · have := congrArg List.length (kind_two hk)
    rw [List.length_cons] at this; omega
theorem fadd_any (p : CPl) (hm : mayF p.l = true) : ∀ (m : Nat) (n : List UInt8) (a b c : List (List UInt8)) (W : World), remT p.l a < m → Cl p W a b c → isT p.l n = true → n.length ≤ 1000000 → a.length + remT p.l a ≤ 9 → b.length ≤ 6 * a.length → c.length ≤ 6 * a.length →
    Calls Try.prog 39 #[.pointer (some ⟨p.cb, 0, none⟩), .string (mkS n)] W fun e w' => ∃ a' b' c', e = .returned (.tuple #[]) ∧ Cl p w' a' b' c' ∧ AddG p.l n a b c a' b' c' ∧ Own p.bs W w' [] := by
  intro m
  induction m with
  | zero => intro n a b c W h; omega
  | succ m ih =>
  intro n a b c W hrem h hn hns ha hb hc
  refine x_enterL h.own Try.func39 (x_rd [0] (Instr.lookup 61 (.map (some p.b1)) (.string (mkS n)) false) (.bool (decide (n ∈ a))) (fun w hO => (h.on (h.see (hO.past 0 p.L))).m1.look hns) (x_now 15 (n ∈ a) (fun hin => ?_) (fun hin => ?_)))
  · refine x_ret0 [] fun w hO => ?_
    have hb := h.see (hO.past 0 p.L)
    exact ⟨a, b, c, rfl, h.on hb, AddG.refl hin, hb.no.more (fun m hm => by cases hm)⟩
  refine x_upd [0] (Instr.mapUpdate 61 (.map (some p.b1)) (.string (mkS n)) (.bool true)) fun w1 hO1 => ?_
  have hb1 := h.see (hO1.past 0 p.L)
  obtain ⟨w2, hrun, h2, hW12⟩ := (h.on hb1).put1 hns (by omega)
  have hW2 : Own p.bs W w2 [] := (hb1.no.more (fun m hm => by cases hm)).and hW12
  have hstart : AddL p.l n a b c 0 (n :: a) b c := AddL.start hin (uni_is hn)
  refine ⟨w2, [p.cb], p.L, hrun, h2.own, ?_⟩
  have hfind : ∀ w, Own [p.cb] w2 w p.L → Calls Try.prog 15 #[.slice p.A p.xs.length p.cap, .string (mkS n)] w fun e w' => e = .returned (.int .i64 (findI p.l n)) ∧ Below w.heap.size w w' := fun w hO => by
    have hh := h2.on (h2.see hO)
    exact fFind_at p.A p.cap p.xs n w (hh.ft.on (Below.refl _ _) hh.hB)
  cases hf : findT p.l n with
  | none =>
    have hfi : findI p.l n = -1 := by unfold findI; rw [hf]
    rw [hfi] at hfind
    refine x_call (v := .int .i64 (-1)) [0] (fun w hO => hfind w (hO.past 0 p.L)) (x_ret0 [] fun w hO => ?_)
    have hbw := h2.see (hO.past 0 p.L)
    have h0 : ofT p.l n = [] := ofT_none hf
    exact ⟨_, _, _, rfl, h2.on hbw, hstart.fin (by rw [h0]; simp) (by rw [h0]; simp), hW2.and (hbw.no.more (fun m hm => by cases hm))⟩
  | some j =>
    have hfi : findI p.l n = (j : Int) := by unfold findI; rw [hf]
    rw [hfi] at hfind
    obtain ⟨hjl, hof⟩ := ofT_at hf
    have hj : j < p.xs.length := by rw [← ftOf_len]; exact hjl
    rw [ftOf_get hj rfl] at hof
    have hxm : p.xs[j] ∈ p.xs := List.getElem_mem hj
    have h6 := of_six hm n
    obtain ⟨eb, eo, hA, hel⟩ := h2.ft.top.elem fvC_len j hj
    obtain ⟨x, hx⟩ : ∃ x, p.xs[j] = x := ⟨_, rfl⟩
    have hel1 : ∀ w, Below p.B w2 w → (loadVar 30 ⟨eb, eo + j * 2 + 1, none⟩).run Try.prog w = .ok (.slice x.A x.of.length x.cap) w := fun w hw => hel w hw _ 1 _ (by rw [hx]; kernel_rfl)
    rw [hx] at hof hxm
    have hxof : x.of = ofT p.l n := hof.symm
    refine x_call (v := .int .i64 (j : Int)) [0] (fun w hO => hfind w (hO.past 0 p.L)) (x_br 28 [] ((j : Int) < 0) (fun h28 => absurd h28 (by omega)) (fun _ => ?_))
    refine x_ixA 34 [0] hA p.xs.length p.cap j 2 hj (x_old 36 [] 30 eb (eo + j * 2 + 1) (.slice x.A x.of.length x.cap) (fun w hO => hel1 w ((h2.see (hO.past 0 p.L)).mono h2.hB)) ?_)
    refine x_loopW (α := Nat × List (List UInt8) × List (List UInt8) × List (List UInt8)) (fun (i, _, _, _) => [(0, .pointer (some ⟨p.cb, 0, none⟩)), (36, .slice x.A x.of.length x.cap), (37, .int .i64 (x.of.length : Int)), (38, .int .i64 (i : Int))]) (fun _ => [p.cb]) (fun _ => p.L) (fun (i, t1, t2, t3) w m' => Cl p w t1 t2 t3 ∧ AddL p.l n a b c i t1 t2 t3 ∧ Own p.bs W w [] ∧ i ≤ x.of.length ∧ m' = x.of.length - i) (0, n :: a, b, c) x.of.length [] (fun w hO => ?_) ?_
    · have hbw := h2.see (hO.past 0 p.L)
      have hh := h2.on hbw
      exact ⟨⟨hh, hstart, hW2.and (hbw.no.more (fun m hm => by cases hm)), Nat.zero_le _, rfl⟩, hh.own⟩
    rintro ⟨i, t1, t2, t3⟩ w mm g ⟨hC, hL, hWw, hi, hmm⟩ hO
    refine x_br 39 [] ((i : Int) < (x.of.length : Int)) (fun h39 => ?_) (fun h39 => ?_)
    rotate_left
    · refine x_outW (.exit 0) [] (x_end0 [] fun w3 hO3 => ?_) rfl
      have hbw := hC.see (hO3.past 0 p.L)
      exact ⟨t1, t2, t3, rfl, hC.on hbw, hL.fin (by rw [← hxof]; omega) h6, hWw.and (hbw.no.more (fun m hm => by cases hm))⟩
    have hil : i < x.of.length := by omega
    have hil2 : i < (ofT p.l n).length := by rw [← hxof]; exact hil
    obtain ⟨s, hs⟩ : ∃ s, x.of[i] = s := ⟨_, rfl⟩
    have hs2 : (ofT p.l n)[i] = s := by rw [← hs]; simp only [hxof]
    have hsx : s ∈ x.of := hs ▸ List.getElem_mem hil
    have hsn : s ∈ ofT p.l n := by rw [← hxof]; exact hsx
    have hss := hC.ft.text x hxm s hsx
    obtain ⟨fb, fo, hA2, hel2⟩ := (hC.ft.each x hxm).elem strC_len i hil
    have hel3 : ∀ w3, Below p.B w w3 → (loadVar 9 ⟨fb, fo + i * 1 + 0, none⟩).run Try.prog w3 = .ok (.string (mkS s)) w3 := fun w3 hw => hel2 w3 hw _ 0 _ (by rw [hs]; kernel_rfl)
    refine x_ixA 40 [] hA2 x.of.length x.cap i 1 hil (x_old 41 [] 9 fb (fo + i * 1 + 0) (.string (mkS s)) (fun w3 hO3 => hel3 w3 ((hC.see (hO3.past 0 p.L)).mono hC.hB)) ?_)
    have hitem : ∀ w3, Calls Try.prog 10 #[.string (mkS s)] w3 fun e w' => e = .returned (.tuple #[.int .i64 (kindT s).1, .string (mkS (wordOf s)), .string (mkS (kindT s).2.2)]) ∧ Below w3.heap.size w3 w' := fun w3 => fItem_at s w3 hss
    have hb6 := hL.cb; have hc6 := hL.cc; have ha6 := hL.ca; have hl6 := hL.la
    have hx6 : x.of.length ≤ 6 := by rw [hxof]; exact h6
    rcases kind_four s with hk | hk | hk | hk
    · rw [hk] at hitem
      refine x_call (v := .tuple #[.int .i64 0, .string (mkS (wordOf s)), .string (mkS (kindT s).2.2)]) [] (fun w3 _ => hitem w3) (x_i 68 [] ((i + 1 : Nat) : Int) (x_nxW (i + 1, t1, t2, t3) (x.of.length - (i + 1)) [] (by omega) fun w3 hO3 => ?_))
      have hbw := hC.see (hO3.past 0 p.L)
      exact ⟨⟨hC.on hbw, hL.none hil2 hs2 (by omega) (by omega) (by omega), hWw.and (hbw.no.more (fun m hm => by cases hm)), hil, rfl⟩, (hC.on hbw).own⟩
    · rw [hk] at hitem
      refine x_call (v := .tuple #[.int .i64 1, .string (mkS (wordOf s)), .string (mkS (kindT s).2.2)]) [] (fun w3 _ => hitem w3) (x_callW (k := 39) (args := #[.pointer (some ⟨p.cb, 0, none⟩), .string (mkS (wordOf s))]) [] fun w3 hO3 => ?_)
      have hbw := hC.see (hO3.past 0 p.L)
      have hlen := hL.len
      refine (ih (wordOf s) t1 t2 t3 w3 (by omega) (hC.on hbw) (is_word hm hsn hk) (word_short hss (.inl hk)) (by omega) (by omega) (by omega)).mono fun e w4 ⟨u1, u2, u3, e1, hC4, hG, hW4⟩ => ⟨.tuple #[], [p.cb], p.L, e1, hC4.own, ?_⟩
      have hW5 : Own p.bs W w4 [] := (hWw.and (hbw.no.more (fun m hm => by cases hm))).and hW4
      refine x_i 68 [] ((i + 1 : Nat) : Int) (x_nxW (i + 1, u1, u2, u3) (x.of.length - (i + 1)) [] (by omega) fun w5 hO5 => ?_)
      have hbw5 := hC4.see (hO5.past 0 p.L)
      exact ⟨⟨hC4.on hbw5, hL.one hil2 hs2 hk hG, hW5.and (hbw5.no.more (fun m hm => by cases hm)), hil, rfl⟩, (hC4.on hbw5).own⟩
    · rw [hk] at hitem
      refine x_call (v := .tuple #[.int .i64 2, .string (mkS (wordOf s)), .string (mkS (kindT s).2.2)]) [] (fun w3 _ => hitem w3) (x_upd [0] (Instr.mapUpdate 61 (.map (some p.b2)) (.string (mkS (wordOf s))) (.bool true)) fun w3 hO3 => ?_)
      have hbw := hC.see (hO3.past 0 p.L)
      obtain ⟨w4, hrun4, hC4, hW4⟩ := (hC.on hbw).put2 (word_short hss (.inr hk)) (by omega)
      have hW5 : Own p.bs W w4 [] := (hWw.and (hbw.no.more (fun m hm => by cases hm))).and hW4
      refine ⟨w4, [p.cb], p.L, hrun4, hC4.own, x_i 68 [] ((i + 1 : Nat) : Int) (x_nxW (i + 1, t1, wordOf s :: t2, t3) (x.of.length - (i + 1)) [] (by omega) fun w5 hO5 => ?_)⟩
      have hbw5 := hC4.see (hO5.past 0 p.L)
      exact ⟨⟨hC4.on hbw5, hL.two hil2 hs2 hk, hW5.and (hbw5.no.more (fun m hm => by cases hm)), hil, rfl⟩, (hC4.on hbw5).own⟩
    · rw [hk] at hitem
      refine x_call (v := .tuple #[.int .i64 3, .string (mkS (wordOf s)), .string (mkS (kindT s).2.2)]) [] (fun w3 _ => hitem w3) (x_upd [0] (Instr.mapUpdate 61 (.map (some p.b3)) (.string (mkS s)) (.bool true)) fun w3 hO3 => ?_)
      have hbw := hC.see (hO3.past 0 p.L)
      obtain ⟨w4, hrun4, hC4, hW4⟩ := (hC.on hbw).put3 hss (by omega)
      have hW5 : Own p.bs W w4 [] := (hWw.and (hbw.no.more (fun m hm => by cases hm))).and hW4
      refine ⟨w4, [p.cb], p.L, hrun4, hC4.own, x_i 68 [] ((i + 1 : Nat) : Int) (x_nxW (i + 1, t1, t2, s :: t3) (x.of.length - (i + 1)) [] (by omega) fun w5 hO5 => ?_)⟩
      have hbw5 := hC4.see (hO5.past 0 p.L)
      exact ⟨⟨hC4.on hbw5, hL.three hil2 hs2 hk, hW5.and (hbw5.no.more (fun m hm => by cases hm)), hil, rfl⟩, (hC4.on hbw5).own⟩
end Go.Proofs.Ytglbfknmeojfkaa
end

section
/-
  Package feature: Close: what it returns, in new memory; nothing that was there is changed. Conditions: features and texts that can be read; bounds.
-/
namespace Go.Proofs.Ytglbfknmeojfkaa
open Go.RowKit
set_option maxRecDepth 100000
set_option linter.unusedVariables false
set_option linter.unusedSimpArgs false
set_option linter.unnecessarySimpa false
set_option maxHeartbeats 4000000

/-- What Close hands back. -/
structure ClR (l : List Ft) (asked : List (List UInt8)) (v1 v2 v3 : Value) (o1 o2 o3 : List Blk) : Prop where
  on : SlE v1 (onF l asked) o1
  op : SlE v2 (optF l asked) o2
  pu : SlE v3 (pullF l asked) o3
theorem ClR.no {l : List Ft} {asked : List (List UInt8)} (h : ¬ errF l asked = 0) : ClR l asked (.slice none 0 0) (.slice none 0 0) (.slice none 0 0) [] [] [] := by
  obtain ⟨z1, z2, z3⟩ := clo_no h
  exact ⟨z1 ▸ ⟨Sl.nil _ _, fun _ => rfl⟩, z2 ▸ ⟨Sl.nil _ _, fun _ => rfl⟩, z3 ▸ ⟨Sl.nil _ _, fun _ => rfl⟩⟩
theorem on_short {xs : List Fv} {asked : List (List UInt8)} (ht : ∀ x ∈ xs, ∀ s ∈ x.of, s.length ≤ 1000000) (ha : ∀ x ∈ asked, x.length ≤ 1000000) {x : List UInt8} (h : On (ftOf xs) asked x) : x.length ≤ 1000000 := by
  cases h with
  | ask h => exact ha _ h
  | of hf hs hk => exact word_short (of_short ht hs) (.inl hk)
theorem fClose_own (A B : Option Addr) (cap capb : Nat) (xs : List Fv) (asked : List (List UInt8)) (W : World) (hv : FtIn W W.heap.size A xs) (hu : Reads strC W W.heap.size B asked) (hn : asked.length ≤ 1000) (hta : ∀ a ∈ asked, a.length ≤ 1000000) : Calls Try.prog 17 #[.slice A xs.length cap, .slice B asked.length capb] W fun e w' => ∃ v1 v2 v3 o1 o2 o3, e = .returned (.tuple #[v1, v2, v3, .int .i64 (errF (ftOf xs) asked)]) ∧ ClR (ftOf xs) asked v1 v2 v3 o1 o2 o3 ∧ Own [] W w' (o1 ++ o2 ++ o3) := by
  have hmay : ∀ w, Below W.heap.size W w → Calls Try.prog 13 #[.slice A xs.length cap] w fun e w' => e = .returned (.bool (mayF (ftOf xs))) ∧ Below w.heap.size w w' := fun w hb => fMay_at A cap xs w (hv.on hb hb.size)
  have hhas : ∀ s w, Below W.heap.size W w → Calls Try.prog 38 #[.slice A xs.length cap, .string (mkS s)] w fun e w' => e = .returned (.bool (isT (ftOf xs) s)) ∧ Below w.heap.size w w' := fun s w hb => fhas_any A cap xs s w (hv.on hb hb.size)
  refine x_enter Try.func17 (x_call (v := .bool (mayF (ftOf xs))) [] (fun w hO => hmay w hO.below) (x_nowb 12 (mayF (ftOf xs)) (fun hm => ?_) (fun hm => ?_)))
  rotate_left
  · have he : errF (ftOf xs) asked = 1 := by unfold errF; rw [hm]; rfl
    refine x_ret4 [] (.slice none 0 0) (.slice none 0 0) (.slice none 0 0) (.int .i64 1) fun w hO => ?_
    exact ⟨_, _, _, [], [], [], by rw [he], ClR.no (by rw [he]; decide), hO.no⟩
  refine x_ins [] (Instr.makeMap 61 none) fun w0 hO0 => ?_
  obtain ⟨b1, e1⟩ : ∃ b, b = w0.heap.size := ⟨_, rfl⟩
  refine ⟨.map (some b1), _, [], [], by rw [e1]; exact run_makeMap _ _, Own.start _ _, ?_⟩
  have hW0 := hO0.below
  refine x_ins [] (Instr.makeMap 61 none) fun w1 hO1 => ?_
  obtain ⟨b2, e2⟩ : ∃ b, b = w1.heap.size := ⟨_, rfl⟩
  refine ⟨.map (some b2), _, [], [], by rw [e2]; exact run_makeMap _ _, Own.start _ _, ?_⟩
  have hb1 := hO1.below
  refine x_ins [] (Instr.makeMap 61 none) fun w2 hO2 => ?_
  obtain ⟨b3, e3⟩ : ∃ b, b = w2.heap.size := ⟨_, rfl⟩
  refine ⟨.map (some b3), _, [], [], by rw [e3]; exact run_makeMap _ _, Own.start _ _, x_alloc [] fun cb => ?_⟩
  have hb2 := hO2.below
  have s1 : w0.heap.size + 1 ≤ w1.heap.size := by have := hb1.size; simpa using this
  have s2 : w1.heap.size + 1 ≤ w2.heap.size := by have := hb2.size; simpa using this
  have s0 := hW0.size
  have hm1 : MapS (w0.alloc (.map #[] 0)) b1 [] := e1 ▸ MapS.made w0
  have hm2 : MapS (w1.alloc (.map #[] 0)) b2 [] := e2 ▸ MapS.made w1
  have hm3 : MapS (w2.alloc (.map #[] 0)) b3 [] := e3 ▸ MapS.made w2
  have hm1' : MapS w1 b1 [] := hm1.kept (hb1.block _ hm1.lt)
  have hm1a : MapS (w1.alloc (.map #[] 0)) b1 [] := hm1'.kept (Below.heap_alloc w1 _ _ hm1'.lt)
  have hm1b : MapS w2 b1 [] := hm1a.kept (hb2.block _ hm1a.lt)
  have hm1c : MapS (w2.alloc (.map #[] 0)) b1 [] := hm1b.kept (Below.heap_alloc w2 _ _ hm1b.lt)
  have hm2b : MapS w2 b2 [] := hm2.kept (hb2.block _ hm2.lt)
  have hm2c : MapS (w2.alloc (.map #[] 0)) b2 [] := hm2b.kept (Below.heap_alloc w2 _ _ hm2b.lt)
  have hW3 : Below W.heap.size W (w2.alloc (.map #[] 0)) := by
    have q1 : Below W.heap.size W w1 := (hW0.alloc s0 _).trans (hb1.mono (by simp; omega))
    have q2 : Below W.heap.size W w2 := (q1.alloc (by omega) _).trans (hb2.mono (by simp; omega))
    exact q2.alloc (by omega) _
  obtain ⟨p, hp⟩ : ∃ p : CPl, p = ⟨A, cap, xs, cb, b1, b2, b3, W.heap.size, by omega, by omega, by omega, by omega, by omega, by omega⟩ := ⟨_, rfl⟩
  have eB : p.B = W.heap.size := by rw [hp]
  have ecb : cb = p.cb := by rw [hp]
  have eb1 : b1 = p.b1 := by rw [hp]
  have eb2 : b2 = p.b2 := by rw [hp]
  have eb3 : b3 = p.b3 := by rw [hp]
  have eA : A = p.A := by rw [hp]
  have ecap : cap = p.cap := by rw [hp]
  have exs : xs = p.xs := by rw [hp]
  clear hp
  subst ecb; subst eb1; subst eb2; subst eb3; subst eA; subst ecap; subst exs
  have hC0 : ∀ w, Own [] (w2.alloc (.map #[] 0)) w p.L → Cl p w [] [] [] ∧ W.heap.size ≤ p.cb ∧ Below W.heap.size W w := fun w hO => by
    have hb := hO.below
    have hWw : Below W.heap.size W w := hW3.trans (hb.mono (by simp; omega))
    refine ⟨⟨hO.held _ (List.mem_singleton.2 rfl), eB ▸ hv.on hWw (Nat.le_refl _), hm1c.kept (hb.block _ hm1c.lt), hm2c.kept (hb.block _ hm2c.lt), hm3.kept (hb.block _ hm3.lt), eB ▸ hWw.size⟩, ?_, hWw⟩
    rcases hO.base _ (List.mem_singleton.2 rfl) with q | q
    · have : W.heap.size ≤ (w2.alloc (.map #[] 0)).heap.size := by simp; omega
      exact Nat.le_trans this q
    · cases q
  refine x_loopW (α := Nat × List (List UInt8) × List (List UInt8) × List (List UInt8)) (fun (i, _, _, _) => [(0, .slice p.A p.xs.length p.cap), (8, .pointer (some ⟨p.cb, 0, none⟩)), (19, .slice B asked.length capb), (20, .int .i64 (asked.length : Int)), (21, .int .i64 (i : Int))]) (fun _ => [p.cb]) (fun _ => p.L) (fun (i, t1, t2, t3) w m' => Cl p w t1 t2 t3 ∧ AddT p.l (asked.take i) t1 t2 t3 ∧ (∀ x ∈ asked.take i, isT p.l x = true) ∧ (Below W.heap.size W w ∧ W.heap.size ≤ p.cb) ∧ i ≤ asked.length ∧ m' = asked.length - i) (0, [], [], []) asked.length [0] (fun w hO => ?_) ?_
  · obtain ⟨k1, k2, k3⟩ := hC0 w (hO.past 0 p.L)
    exact ⟨⟨k1, AddT.start _, fun x h => by simp at h, ⟨k3, k2⟩, Nat.zero_le _, rfl⟩, k1.own⟩
  rintro ⟨i, t1, t2, t3⟩ w mm g ⟨hC, hT, his, ⟨hW, hcb⟩, hi, hmm⟩ hO
  refine x_br 22 [] ((i : Int) < (asked.length : Int)) (fun h22 => ?_) (fun h22 => ?_)
  · have hil : i < asked.length := by omega
    obtain ⟨s, hs⟩ : ∃ s, asked[i] = s := ⟨_, rfl⟩
    have hsa : s ∈ asked := hs ▸ List.getElem_mem hil
    have hss := hta s hsa
    obtain ⟨fb, fo, hA2, hel2⟩ := hu.elem strC_len i hil
    have hel3 : ∀ w3, Below W.heap.size W w3 → (loadVar 9 ⟨fb, fo + i * 1 + 0, none⟩).run Try.prog w3 = .ok (.string (mkS s)) w3 := fun w3 hw => hel2 w3 hw _ 0 _ (by rw [hs]; kernel_rfl)
    have hsee : ∀ w3, Own [p.cb] w w3 p.L → Below W.heap.size W w3 := fun w3 hO3 => hW.trans ((hC.see hO3).mono hW.size)
    have hhas' := hhas s
    refine x_ixA 23 [] hA2 asked.length capb i 1 hil (x_old 24 [] 9 fb (fo + i * 1 + 0) (.string (mkS s)) (fun w3 hO3 => hel3 w3 (hsee w3 (hO3.past 0 p.L))) (x_call (v := .bool (isT p.l s)) [] (fun w3 hO3 => hhas' w3 (hsee w3 (hO3.past 0 p.L))) (x_nowb 27 (isT p.l s) (fun h27 => ?_) (fun h27 => ?_))))
    rotate_left
    · have he : errF p.l asked = 11 := by
        unfold errF
        rw [hm, if_pos rfl, if_neg]
        intro q
        have := List.all_eq_true.1 q s hsa
        rw [h27] at this; cases this
      refine x_outW .ret [] (x_ret4 [] (.slice none 0 0) (.slice none 0 0) (.slice none 0 0) (.int .i64 11) fun w3 hO3 => ?_) rfl
      exact ⟨_, _, _, [], [], [], by rw [he], ClR.no (by rw [he]; decide), (hsee w3 (hO3.past 0 p.L)).no⟩
    refine x_callW (k := 39) (args := #[.pointer (some ⟨p.cb, 0, none⟩), .string (mkS s)]) [] fun w3 hO3 => ?_
    have hb3 := hC.see (hO3.past 0 p.L)
    have hW3' := hsee w3 (hO3.past 0 p.L)
    have hlen := hT.ca; have hlu : (uniT p.l).length ≤ 9 := uni_len hm
    have hcb' := hT.cb; have hcc' := hT.cc
    refine (fadd_any p hm _ s t1 t2 t3 w3 (Nat.lt_succ_self _) (hC.on hb3) h27 hss (by omega) (by omega) (by omega)).mono fun e w4 ⟨u1, u2, u3, f1, hC4, hG, hW4⟩ => ⟨.tuple #[], [p.cb], p.L, f1, hC4.own, ?_⟩
    have hW5 : Below W.heap.size W w4 := hW3'.trans (hW4.under (fun m hm => eB ▸ Cl.bsB p m hm) hW3'.size)
    refine x_i 31 [] ((i + 1 : Nat) : Int) (x_nxW (i + 1, u1, u2, u3) (asked.length - (i + 1)) [] (by omega) fun w5 hO5 => ?_)
    have hb5 := hC4.see (hO5.past 0 p.L)
    have htk : asked.take (i + 1) = asked.take i ++ [s] := by rw [List.take_succ_eq_append_getElem hil, hs]
    refine ⟨⟨hC4.on hb5, htk ▸ hT.step hG, fun x hx => ?_, ⟨hW5.trans (hb5.mono hW5.size), hcb⟩, hil, rfl⟩, (hC4.on hb5).own⟩
    rw [htk] at hx
    rcases List.mem_append.1 hx with hx | hx
    · exact his x hx
    · rw [List.mem_singleton.1 hx]; exact h27
  have hia : asked.take i = asked := List.take_of_length_le (by omega)
  rw [hia] at hT his
  have ⟨n1, n2, n3⟩ := hT.le hm
  have h1s : ∀ s ∈ t1, s.length ≤ 1000000 := fun s hs => on_short hv.text hta (hT.on s hs)
  have h2s : ∀ s ∈ t2, s.length ≤ 1000000 := fun s hs => by
    obtain ⟨f, hf, y, hy, hk, rfl⟩ := hT.op s hs
    exact word_short (of_short hv.text hy) (.inr hk)
  have h3s : ∀ s ∈ t3, s.length ≤ 1000000 := fun s hs => by
    obtain ⟨f, hf, y, hy, hk, rfl⟩ := hT.pu s hs
    exact of_short hv.text hy
  have hsee : ∀ {w3 : World} {R : List Blk}, Own [p.cb] w w3 (p.L ++ R) → Cl p w3 t1 t2 t3 ∧ Below W.heap.size W w3 := fun {w3 R} hO3 => by
    have hb := hC.see (hO3.sublist (List.sublist_append_left _ _))
    exact ⟨hC.on hb, hW.trans (hb.mono hW.size)⟩
  have R1 : List (List UInt8) → Value → List Blk → Prop := fun t v ob => ∃ l, SlE v l ob ∧ riseT l = true ∧ ∀ x, x ∈ l ↔ x ∈ t
  refine x_outW (.exit 0) [] (x_drawF (.s (.s (.s .z))) 11 [] (x_h1 [0, 0, 0] 2 (xh_callM (R := fun v ob => ∃ l, SlE v l ob ∧ riseT l = true ∧ ∀ x, x ∈ l ↔ x ∈ t1) (fun w3 hO3 => fsorted_any p.b1 t1 w3 (hsee (R := []) (hO3.past 0 (p.L ++ []))).1.m1 (by omega) h1s) fun v1 o1 k1 => ?_))) rfl
  refine x_h1 [] 5 (xh_callM (R := fun v ob => ∃ l, SlE v l ob ∧ riseT l = true ∧ ∀ x, x ∈ l ↔ x ∈ t2) (fun w3 hO3 => fsorted_any p.b2 t2 w3 (hsee (R := o1) (hO3.past 0 (p.L ++ o1))).1.m2 (by omega) h2s) fun v2 o2 k2 => ?_)
  refine x_h1 [] 8 (xh_callM (R := fun v ob => ∃ l, SlE v l ob ∧ riseT l = true ∧ ∀ x, x ∈ l ↔ x ∈ t3) (fun w3 hO3 => fsorted_any p.b3 t3 w3 (hsee (R := o1 ++ o2) ((hO3.past 0 (p.L ++ o1 ++ o2)).cast (List.append_assoc ..))).1.m3 (by omega) h3s) fun v3 o3 k3 => ?_)
  refine x_ret4 [] v1 v2 v3 (.int .i64 0) fun w3 hO3x => ?_
  have hO3 : Own [p.cb] w w3 (p.L ++ (o1 ++ o2 ++ o3)) := (hO3x.past 0 (p.L ++ o1 ++ o2 ++ o3)).cast (by simp only [List.append_assoc])
  obtain ⟨l1, c1, r1, z1⟩ := k1
  obtain ⟨l2, c2, r2, z2⟩ := k2
  obtain ⟨l3, c3, r3, z3⟩ := k3
  obtain ⟨he, q1, q2, q3⟩ := hT.answers hm his r1 r2 r3 z1 z2 z3
  refine ⟨v1, v2, v3, o1, o2, o3, by rw [he], ⟨q1 ▸ c1, q2 ▸ c2, q3 ▸ c3⟩, own_back (hsee hO3).2 (hO3.sublist (List.sublist_append_right _ _)) fun y hy => ?_⟩
  rcases hO3.base y (List.mem_append_right _ hy) with q | q
  · exact Nat.le_trans hW.size q
  · rw [List.mem_singleton.1 q]; exact hcb
end Go.Proofs.Ytglbfknmeojfkaa
end

section
/-
  Package feature: what Item, May, Find, Close return, in the words that the laws want. Conditions: as each theorem names.
-/
namespace Go.Proofs.Ytglbfknmeojfkaa
open Go.RowKit
set_option maxRecDepth 100000
set_option linter.unusedVariables false
set_option linter.unusedSimpArgs false

def FeLib (W : World) : Prop := True
theorem FeLib.on {W w : World} (h : FeLib W) (hb : Below W.heap.size W w) : FeLib w := trivial
theorem fItem_any (s : List UInt8) (W : World) (hs : s.length ≤ 1000000) (hK : FeLib W) : Calls Try.prog 10 #[.string (mkS s)] W fun e w' => e = .returned (.tuple #[.int .i64 (kindT s).1, .string (mkS (kindT s).2.1), .string (mkS (kindT s).2.2)]) ∧ Below W.heap.size W w' := fItem_at s W hs
theorem fFind_any (A : Option Addr) (cap : Nat) (xs : List Fv) (n : List UInt8) (W : World) (hv : FtIn W W.heap.size A xs) (hK : FeLib W) : Calls Try.prog 15 #[.slice A xs.length cap, .string (mkS n)] W fun e w' => e = .returned (.int .i64 (findI (ftOf xs) n)) ∧ Below W.heap.size W w' := fFind_at A cap xs n W hv
theorem fMay_any (A : Option Addr) (cap : Nat) (xs : List Fv) (W : World) (hv : FtIn W W.heap.size A xs) (hK : FeLib W) : Calls Try.prog 13 #[.slice A xs.length cap] W fun e w' => e = .returned (.bool (mayF (ftOf xs))) ∧ Below W.heap.size W w' := fMay_at A cap xs W hv
theorem rdp_sle {W w : World} {v : Value} {l : List (List UInt8)} {ob L : List Blk} (h : SlE v l ob) (hO : Own [] W w L) (hs : ∀ x ∈ ob, x ∈ L) : RdP w v l := by
  by_cases hl : l = []
  · rw [h.2 hl, hl]; exact RdP.nil w
  · exact rdp_own h.1 hO hs hl
theorem fClose_any (A B : Option Addr) (cap capb : Nat) (xs : List Fv) (asked : List (List UInt8)) (W : World) (hv : FtIn W W.heap.size A xs) (hu : Reads strC W W.heap.size B asked) (hn : asked.length ≤ 1000) (hta : ∀ a ∈ asked, a.length ≤ 1000000) (hK : FeLib W) : Calls Try.prog 17 #[.slice A xs.length cap, .slice B asked.length capb] W fun e w' => ∃ v1 v2 v3, e = .returned (.tuple #[v1, v2, v3, .int .i64 (errF (ftOf xs) asked)]) ∧ RdP w' v1 (onF (ftOf xs) asked) ∧ RdP w' v2 (optF (ftOf xs) asked) ∧ RdP w' v3 (pullF (ftOf xs) asked) ∧ Below W.heap.size W w' :=
  (fClose_own A B cap capb xs asked W hv hu hn hta).mono fun e w' ⟨v1, v2, v3, o1, o2, o3, h1, h2, h3⟩ =>
    ⟨v1, v2, v3, h1, rdp_sle h2.on h3 (fun x hx => List.mem_append_left _ (List.mem_append_left _ hx)), rdp_sle h2.op h3 (fun x hx => List.mem_append_left _ (List.mem_append_right _ hx)), rdp_sle h2.pu h3 (fun x hx => List.mem_append_right _ hx), h3.below⟩
end Go.Proofs.Ytglbfknmeojfkaa
end

section
/-
  Package ident's Number and the document's own answer's Number: both return, for every string and in every world, the number that numB finds, and whether it finds one. Conditions: none.
-/
namespace Go.Proofs.Ytglbfknmeojfkaa
open Go.RowKit

theorem ret_num {a b : Int} {p q : Bool} (h : a = b) (h2 : p = q) : Ending.returned (.tuple #[.int .i64 a, .bool p]) = .returned (.tuple #[.int .i64 b, .bool q]) := by rw [h, h2]
theorem numV_none {s : ByteArray} (h : numGo 0 true s.data.toList = none) : numV s = 0 := by unfold numV numB; rw [h]; rfl
theorem numOk_none {s : ByteArray} (h : numGo 0 true s.data.toList = none) : numOk s = false := by unfold numOk numB; rw [h]; rfl
theorem numV_some {s : ByteArray} {n : Nat} (h : numGo 0 true s.data.toList = some n) : numV s = n := by unfold numV numB; rw [h]; rfl
theorem numOk_some {s : ByteArray} {n : Nat} (h : numGo 0 true s.data.toList = some n) : numOk s = true := by unfold numOk numB; rw [h]; rfl
theorem digB_range {n : Nat} (h : digB n = true) : 48 ≤ n ∧ n ≤ 57 := by unfold digB at h; simp at h; omega

theorem foldV_snoc (l : List UInt8) (c : UInt8) (n : Nat) : foldV n (l ++ [c]) = foldV n l * 10 + (c.toNat - 48) := by rw [foldV_append]; rfl
theorem take_snoc (s : ByteArray) (k : Nat) (h : k < s.size) : s.data.toList.take (k + 1) = s.data.toList.take k ++ [s[k]] := by
  rw [List.take_succ_eq_append_getElem (by simpa using h)]; rfl
theorem allDig_snoc (l : List UInt8) (c : UInt8) : allDig (l ++ [c]) = (allDig l && digB c.toNat) := by rw [allDig_append]; unfold allDig; rw [List.all_cons, List.all_nil, Bool.and_true]
theorem allDig_bad (s : ByteArray) (k : Nat) (h : k < s.size) (hd : digB s[k].toNat = false) : allDig s.data.toList = false := by
  have e : s.data.toList = s.data.toList.take k ++ s[k] :: s.data.toList.drop (k + 1) := by rw [← drop_cons s k h, List.take_append_drop]
  rw [e, allDig_append]
  have : allDig (s[k] :: s.data.toList.drop (k + 1)) = false := by unfold allDig; rw [List.all_cons, hd]; rfl
  rw [this, Bool.and_false]
theorem len_data (s : ByteArray) : s.data.toList.length = s.size := by simp
theorem head_data (s : ByteArray) (h : 0 < s.size) : s.data.toList.head? = some s[0] := by
  have := drop_cons s 0 h
  rw [List.drop_zero] at this
  rw [this]; rfl
theorem ten_le {k : Nat} (h : k ≤ 8) : 10 ^ k ≤ 100000000 := Nat.pow_le_pow_right (by omega) h

set_option maxHeartbeats 2000000 in
theorem rnumber_any (s : ByteArray) (w : World) (hs : s.size ≤ maxLen) :
    Calls Try.prog 102 #[.string s] w fun e w' => e = .returned (.tuple #[.int .i64 (numV s), .bool (numOk s)]) ∧ w = w' := by
  unfold maxLen at hs
  have HREF := Lib.hid (numGo_ref s.data.toList)
  by_cases h0 : s.size < 1
  · have HN : numGo 0 true s.data.toList = none := by rw [HREF.out, numRef, if_pos (Or.inl (by rw [len_data]; exact h0))]
    have HV := Lib.hid (numV_none HN)
    have HO := Lib.hid (numOk_none HN)
    clear HN
    go_enter Try.func102, Try.ntmps102
    go_wp2
    go_ret2
    exact ⟨ret_num HV.out.symm HO.out.symm, rfl⟩
  · have hp0 : 0 < s.size := by omega
    by_cases h9 : s.size ≤ 9
    · by_cases hz : 1 < s.size ∧ (s[0].toNat : Int) = 48
      · have HN : numGo 0 true s.data.toList = none := by
          rw [HREF.out, numRef, if_pos (Or.inr (Or.inr ⟨by rw [len_data]; exact hz.1, by rw [head_data s hp0, show s[0] = 48 from UInt8.toNat_inj.1 (by have := hz.2; show s[0].toNat = 48; omega)]⟩))]
        have HV := Lib.hid (numV_none HN)
        have HO := Lib.hid (numOk_none HN)
        clear HN
        have hb : ((s[0].toNat : Int) == 48) = true := by simp [hz.2]
        have h1 : 1 < s.size := hz.1
        clear hz
        go_enter Try.func102, Try.ntmps102
        go_wp2
        go_ret2
        exact ⟨ret_num HV.out.symm HO.out.symm, rfl⟩
      · have HN : Hid (numGo 0 true s.data.toList = if allDig s.data.toList = true ∧ foldV 0 s.data.toList ≤ 9999 then some (foldV 0 s.data.toList) else none) := by
          show _ = _
          rw [HREF.out, numRef, if_neg]
          rintro (h | h | h)
          · rw [len_data] at h; omega
          · rw [len_data] at h; omega
          · rw [len_data, head_data s hp0] at h
            refine hz ⟨h.1, ?_⟩
            have := Option.some.inj h.2
            rw [this]; rfl
        have hb : 1 < s.size → ((s[0].toNat : Int) == 48) = false := fun h => beq_int_false (fun e => hz ⟨h, e⟩)
        clear hz
        by_cases h1 : 1 < s.size
        · have hb1 := hb h1
          clear hb
          go_enter Try.func102, Try.ntmps102
          go_wp2
          go_loop [4, 5] (fun v i => ∃ k n : Nat, k ≤ s.size ∧ v = .int .i64 n ∧ i = .int .i64 k ∧ Hid (n < 10 ^ k) ∧ Hid (n = foldV 0 (s.data.toList.take k)) ∧ Hid (allDig (s.data.toList.take k) = true)) (fun _ i => s.size - (intOf i).toNat)
          case atStart => exact ⟨0, 0, Nat.zero_le _, rfl, rfl, by show 0 < 10 ^ 0; omega, rfl, rfl⟩
          case round =>
            obtain ⟨k, n, hk, rfl, rfl, HP, HF, HA⟩ := hrel
            by_cases hp : k < s.size
            · by_cases hd : digB s[k].toNat = true
              · have HG := Lib.hid hd
                obtain ⟨hlo, hhi⟩ := digB_range hd
                clear hd
                have hn8 : n ≤ 100000000 := Nat.le_of_lt (Nat.lt_of_lt_of_le HP.out (ten_le (by omega)))
                go_wp2_with (go_at_call 56; refine (rdigit_is _ true HG.out _).mono ?_; rintro e w' ⟨rfl, rfl⟩)
                go_round
                case rel =>
                  refine ⟨k + 1, n * 10 + (s[k].toNat - 48), by omega, by go_num, by go_num, ?_, ?_, ?_⟩
                  · have := HP.out
                    show _ < 10 ^ (k + 1)
                    rw [Nat.pow_succ]; omega
                  · show _ = _
                    rw [take_snoc s k hp, foldV_snoc, ← HF.out]
                  · show _ = _
                    rw [take_snoc s k hp, allDig_snoc, HA.out, HG.out]; rfl
                case measure => simp [intOf]; omega
              · have HG := Lib.hid (Bool.eq_false_iff.2 hd)
                clear hd
                go_wp2_with (go_at_call 56; refine (rdigit_is _ false HG.out _).mono ?_; rintro e w' ⟨rfl, rfl⟩)
                go_ret2
                have HM : numGo 0 true s.data.toList = none := by rw [HN.out, allDig_bad s k hp HG.out]; simp
                exact ⟨ret_num (numV_none HM).symm (numOk_none HM).symm, rfl⟩
            · have HT : Hid (s.data.toList.take k = s.data.toList) := List.take_of_length_le (by rw [len_data]; omega)
              by_cases h4 : n ≤ 9999
              · go_wp2
                go_ret2
                have HM : numGo 0 true s.data.toList = some n := by
                  have e1 := HF.out
                  have e2 := HA.out
                  rw [HT.out] at e1 e2
                  rw [HN.out, e2, ← e1, if_pos ⟨rfl, h4⟩]
                exact ⟨ret_num (numV_some HM).symm (numOk_some HM).symm, rfl⟩
              · go_wp2
                go_ret2
                have HM : numGo 0 true s.data.toList = none := by
                  have e1 := HF.out
                  rw [HT.out] at e1
                  rw [HN.out, ← e1, if_neg (fun h => h4 h.2)]
                exact ⟨ret_num (numV_none HM).symm (numOk_none HM).symm, rfl⟩
        · clear hb
          go_enter Try.func102, Try.ntmps102
          go_wp2
          go_loop [4, 5] (fun v i => ∃ k n : Nat, k ≤ s.size ∧ v = .int .i64 n ∧ i = .int .i64 k ∧ Hid (n < 10 ^ k) ∧ Hid (n = foldV 0 (s.data.toList.take k)) ∧ Hid (allDig (s.data.toList.take k) = true)) (fun _ i => s.size - (intOf i).toNat)
          case atStart => exact ⟨0, 0, Nat.zero_le _, rfl, rfl, by show 0 < 10 ^ 0; omega, rfl, rfl⟩
          case round =>
            obtain ⟨k, n, hk, rfl, rfl, HP, HF, HA⟩ := hrel
            by_cases hp : k < s.size
            · by_cases hd : digB s[k].toNat = true
              · have HG := Lib.hid hd
                obtain ⟨hlo, hhi⟩ := digB_range hd
                clear hd
                have hn8 : n ≤ 100000000 := Nat.le_of_lt (Nat.lt_of_lt_of_le HP.out (ten_le (by omega)))
                go_wp2_with (go_at_call 56; refine (rdigit_is _ true HG.out _).mono ?_; rintro e w' ⟨rfl, rfl⟩)
                go_round
                case rel =>
                  refine ⟨k + 1, n * 10 + (s[k].toNat - 48), by omega, by go_num, by go_num, ?_, ?_, ?_⟩
                  · have := HP.out
                    show _ < 10 ^ (k + 1)
                    rw [Nat.pow_succ]; omega
                  · show _ = _
                    rw [take_snoc s k hp, foldV_snoc, ← HF.out]
                  · show _ = _
                    rw [take_snoc s k hp, allDig_snoc, HA.out, HG.out]; rfl
                case measure => simp [intOf]; omega
              · have HG := Lib.hid (Bool.eq_false_iff.2 hd)
                clear hd
                go_wp2_with (go_at_call 56; refine (rdigit_is _ false HG.out _).mono ?_; rintro e w' ⟨rfl, rfl⟩)
                go_ret2
                have HM : numGo 0 true s.data.toList = none := by rw [HN.out, allDig_bad s k hp HG.out]; simp
                exact ⟨ret_num (numV_none HM).symm (numOk_none HM).symm, rfl⟩
            · have HT : Hid (s.data.toList.take k = s.data.toList) := List.take_of_length_le (by rw [len_data]; omega)
              by_cases h4 : n ≤ 9999
              · go_wp2
                go_ret2
                have HM : numGo 0 true s.data.toList = some n := by
                  have e1 := HF.out
                  have e2 := HA.out
                  rw [HT.out] at e1 e2
                  rw [HN.out, e2, ← e1, if_pos ⟨rfl, h4⟩]
                exact ⟨ret_num (numV_some HM).symm (numOk_some HM).symm, rfl⟩
              · go_wp2
                go_ret2
                have HM : numGo 0 true s.data.toList = none := by
                  have e1 := HF.out
                  rw [HT.out] at e1
                  rw [HN.out, ← e1, if_neg (fun h => h4 h.2)]
                exact ⟨ret_num (numV_none HM).symm (numOk_none HM).symm, rfl⟩
    · have HN : numGo 0 true s.data.toList = none := by rw [HREF.out, numRef, if_pos (Or.inr (Or.inl (by rw [len_data]; omega)))]
      have HV := Lib.hid (numV_none HN)
      have HO := Lib.hid (numOk_none HN)
      clear HN
      go_enter Try.func102, Try.ntmps102
      go_wp2
      go_ret2
      exact ⟨ret_num HV.out.symm HO.out.symm, rfl⟩
end Go.Proofs.Ytglbfknmeojfkaa
end

section
/-
  Package version: digit, numeric and list: what they return for every string of at most 2^32 - 16 bytes; nothing that was there is changed.
-/
namespace Go.Proofs.Ytglbfknmeojfkaa
open Go.RowKit

theorem allDig_cons_ok (c : UInt8) (r : List UInt8) (h : digB c.toNat = true) : allDig (c :: r) = allDig r := by unfold allDig; rw [List.all_cons, h, Bool.true_and]
theorem allDig_cons_bad (c : UInt8) (r : List UInt8) (h : digB c.toNat = false) : allDig (c :: r) = false := by unfold allDig; rw [List.all_cons, h, Bool.false_and]

theorem tagC_dig (c : UInt8) (h : digB c.toNat = true) : tagC c = true := by unfold tagC; rw [h]; simp
theorem tagC_let (c : UInt8) (h : letB c.toNat = true) : tagC c = true := by unfold tagC; rw [h]; simp
theorem tagC_dash (c : UInt8) (h : (c.toNat : Int) = 45) : tagC c = true := by unfold tagC; rw [decide_eq_true h]; simp
theorem tagC_bad (c : UInt8) (h1 : digB c.toNat = false) (h2 : letB c.toNat = false) (h3 : ¬ (c.toNat : Int) = 45) : tagC c = false := by unfold tagC; rw [h1, h2, decide_eq_false h3]; rfl
theorem all_ok (c : UInt8) (r : List UInt8) (h : tagC c = true) : (c :: r).all tagC = r.all tagC := by rw [List.all_cons, h, Bool.true_and]
theorem all_bad (c : UInt8) (r : List UInt8) (h : tagC c = false) : (c :: r).all tagC = false := by rw [List.all_cons, h, Bool.false_and]
def lcells (l : List (List UInt8)) : Array Value := #[.string (mkS (tg l 0)), .string (mkS (tg l 1)), .string (mkS (tg l 2)), .string (mkS (tg l 3))]

theorem tagOk_short {t : List UInt8} (h : t = []) : tagOk t = false := by subst h; decide
theorem tagOk_long {t : List UInt8} (h : 8 < t.length) : tagOk t = false := by
  unfold tagOk; rw [decide_eq_false (by omega)]; rfl
theorem tagOk_mid {t : List UInt8} (h : t ≠ []) (h2 : t.length ≤ 8) : tagOk t = t.all tagC := by
  unfold tagOk
  have : 1 ≤ t.length := by cases t <;> simp at h ⊢
  rw [decide_eq_true ⟨this, h2⟩, Bool.true_and]
theorem heap_new (w : World) (o : Obj) : (w.alloc o).heap[w.heap.size]? = some o := by
  show (w.heap.push o)[w.heap.size]? = some o
  simp
theorem cell_row {w : World} {g j : Nat} {cs : Array Value} {t : TypeId} (hg : w.heap[g]? = some (.cells cs t (0, 0))) (hj : j < cs.size) : w.cell? ⟨g, j, none⟩ = some cs[j] ∧ w.frozen? ⟨g, j, none⟩ = false := by
  refine ⟨by rw [cell_of_row w g j cs t (0, 0) hg]; simp [hj], by simp [World.frozen?, hg]⟩
def LEnd (s : List UInt8) (w : World) (e : Ending) (w' : World) : Prop := e = .returned (.tuple #[.agg (lcells (lst s).1), .bool (lst s).2]) ∧ Below w.heap.size w w'

end Go.Proofs.Ytglbfknmeojfkaa
end

section
/-
  Plain mathematics for chapter 2: versions, their strings, and that a string is read back.
-/
namespace Go.Proofs.Ytglbfknmeojfkaa
open Go.RowKit

structure Ver where
  maj : Int
  min : Int
  pat : Int
  pre : List UInt8
  build : List UInt8
deriving DecidableEq

def numOkI (n : Int) : Bool := decide (0 ≤ n ∧ n ≤ 9999)
def Ver.may (v : Ver) : Bool := numOkI v.maj && numOkI v.min && numOkI v.pat && preOk v.pre && listOk v.build
def Ver.zero : Ver := ⟨0, 0, 0, [], []⟩
def Ver.rel (a b c : Int) : Ver := ⟨a, b, c, [], []⟩
def tailS (c : UInt8) (l : List UInt8) : List UInt8 := if l.isEmpty then [] else c :: l
def numsL (v : Ver) : List UInt8 := Lib.itoa v.maj ++ 46 :: (Lib.itoa v.min ++ 46 :: Lib.itoa v.pat)
def Ver.text (v : Ver) : List UInt8 := numsL v ++ tailS 45 v.pre ++ tailS 43 v.build
def Ver.print (v : Ver) : List UInt8 := if v.may then v.text else []

/-! ### The numbers -/
theorem itoa_nat {n : Int} (h : numOkI n = true) : Lib.itoa n = Lib.decDigits n.toNat := by
  unfold numOkI at h; simp at h
  unfold Lib.itoa; rw [if_neg (by omega)]
/-! ### Tags hold no plus; their lists neither -/
/-! ### Reading a string: what package version guesses, and the document's own answer -/
def numD (l : List UInt8) : Int := ((numGo 0 true l).getD 0 : Nat)
def guess (s : List UInt8) : Ver :=
  let r := (cutAt 43 s).1
  let q := (cutAt 45 r).1
  let x := cutAt 46 q
  let y := cutAt 46 x.2.1
  ⟨numD x.1, numD y.1, numD y.2.1, (cutAt 45 r).2.1, (cutAt 43 s).2.1⟩
def three (l : List (List UInt8)) : Option (Int × Int × Int) :=
  match l with
  | [x, y, z] => if numI x && numI y && numI z then some (numD x, numD y, numD z) else none
  | _ => none
def parseR (s : List UInt8) : Option Ver :=
  let b := cutAt 43 s
  let p := cutAt 45 b.1
  match three (pcs p.1) with
  | none => none
  | some (x, y, z) =>
    if (p.2.2 && p.2.1.isEmpty) || (b.2.2 && b.2.1.isEmpty) then none
    else if (Ver.mk x y z p.2.1 b.2.1).may then some ⟨x, y, z, p.2.1, b.2.1⟩ else none
def parseI (s : List UInt8) : Option Ver := if (guess s).print = s then some (guess s) else none

theorem may_nums {v : Ver} (h : v.may = true) : numOkI v.maj = true ∧ numOkI v.min = true ∧ numOkI v.pat = true := by
  unfold Ver.may at h; simp only [Bool.and_eq_true] at h
  exact ⟨h.1.1.1.1, h.1.1.1.2, h.1.1.2⟩
end Go.Proofs.Ytglbfknmeojfkaa
end

section
/-
  Package version: mayPre, numbers, release, number and May: what they return for strings of at most 2^32 - 16 bytes; nothing that was there is changed.
-/
namespace Go.Proofs.Ytglbfknmeojfkaa
open Go.RowKit

theorem numV_mk (t : List UInt8) : numV (mkS t) = numD t := by unfold numV numB numD; rw [mk_data]
theorem numOk_mk (t : List UInt8) : numOk (mkS t) = numI t := by unfold numOk numB numI; rw [mk_data]
/-- A version as a value. -/
def verV (v : Ver) : Value := .agg #[.int .i64 v.maj, .int .i64 v.min, .int .i64 v.pat, .string (mkS v.pre), .string (mkS v.build)]
def nth3 (a b c : Int) (k : Nat) : Int := if k = 0 then a else if k = 1 then b else c
/-- The cells of a box that holds a version, in a later world. -/
theorem box_cells {w w1 : World} {T : TypeId} {cs : Array Value} (hb : Below (w.alloc (.cells cs T)).heap.size (w.alloc (.cells cs T)) w1) (j : Nat) (hj : j < cs.size) : w1.cell? ⟨w.heap.size, j, none⟩ = some cs[j] ∧ w1.frozen? ⟨w.heap.size, j, none⟩ = false := by
  have h : w1.heap[w.heap.size]? = some (.cells cs T) := (hb.block _ (by simp)).trans (heap_new w _)
  exact cell_row h hj
end Go.Proofs.Ytglbfknmeojfkaa
end

section
/-
  A slice that the call has made, behind calls that change nothing of what was there.
-/
namespace Go.Proofs.Ytglbfknmeojfkaa
open Go.RowKit

end Go.Proofs.Ytglbfknmeojfkaa
end

section
/-
  strings.Builder as this program holds it: what copyCheck, WriteByte and WriteString do to a builder that the call itself has made: it holds the bytes that it held and the new ones; nothing else that was there is changed. Condition: at most 2^47 bytes.
-/
namespace Go.Proofs.Ytglbfknmeojfkaa
open Go.RowKit

end Go.Proofs.Ytglbfknmeojfkaa
end

section
/-
  Package ident's Digits and the document's own answer's Digits: both return, for every int, its decimal digits, preceded by a minus sign if it is negative. Condition: the library's table of powers of ten reads as it is laid.
-/
namespace Go.Proofs.Ytglbfknmeojfkaa
open Go.RowKit

def HasTab (w : World) : Prop := Lib.TabBelow Try.prog w.heap.size w "internal/strconv.uint64pow10" .u64 Lib.pow10Tab
def digS (n : Int) : ByteArray := ⟨(Lib.itoa n).toArray⟩

theorem ret_str {a b : ByteArray} (h : a = b) : Ending.returned (.string a) = .returned (.string b) := by rw [h]
theorem of_list {t : ByteArray} {l : List UInt8} (h : l = t.data.toList) : t = ⟨l.toArray⟩ := by subst h; rfl
def one (x : Int) : ByteArray := ⟨#[UInt8.ofNat x.toNat]⟩
theorem one_list (n : Nat) : (one (48 + (n : Int) % 10)).data.toList = [UInt8.ofNat (48 + n % 10)] := by
  unfold one
  rw [show (48 + (n : Int) % 10).toNat = 48 + n % 10 from by omega]
theorem conv1 (w : World) (x : Int) : (convert 96 9 (.slice (some ⟨w.heap.size, 0, none⟩) 1 1)).run Try.prog (w.alloc (.cells #[.int .u8 x] 5)) = .ok (.string (one x)) (w.alloc (.cells #[.int .u8 x] 5)) := by
  refine (run_convert_bytes_arg (P := Try.prog) _ 96 5 Try.underlying96 Try.underlying5 w.heap.size 0 1 1 [x] rfl ?_ 9 Try.underlying9).trans ?_
  · intro i hi
    obtain rfl : i = 0 := by omega
    simp
  · rfl

theorem dec_start (n : Nat) : Lib.decDigits n = (if n < 10 then [] else Lib.decDigits (n / 10)) ++ [UInt8.ofNat (48 + n % 10)] := by
  rw [Lib.decDigits]
  by_cases h : n < 10
  · rw [dif_pos h, if_pos h, Nat.mod_eq_of_lt h]; rfl
  · rw [dif_neg h, if_neg h]
def decS (n : Nat) : ByteArray := ⟨(Lib.decDigits n).toArray⟩
set_option maxHeartbeats 1000000 in
theorem whole_any (n : Nat) (hn : n ≤ 18446744073709551615) (w : World) :
    Calls Try.prog 99 #[.int .u64 n] w fun e w' => e = .returned (.string (decS n)) ∧ Below w.heap.size w w' := by
  have hcv := fun (w : World) (x : Int) => conv1 w x
  go_enter Try.func99, Try.ntmps99
  go_wp2
  go_loopw [0, 3] (fun v s wr => ∃ (m : Nat) (t : ByteArray), v = .int .u64 m ∧ s = .string t ∧ m ≤ 18446744073709551615 ∧ Below w.heap.size w wr ∧ t.size ≤ 20 ∧ Hid (Lib.decDigits n = (if m < 10 then [] else Lib.decDigits (m / 10)) ++ t.data.toList)) (fun v _ _ => (intOf v).toNat)
  case atStart => exact ⟨n, _, rfl, rfl, hn, (Below.refl _ w).alloc (Nat.le_refl _) _, by show 1 ≤ 20; omega, by show _ = _; rw [one_list]; exact dec_start n⟩
  case round =>
    obtain ⟨m, t, rfl, rfl, hm, hb, ht, HR⟩ := hrel
    have hsz := hb.size
    by_cases h9 : 9 < m
    · have hos : (one (48 + (m : Int) / 10 % 10)).size ≤ 1 := Nat.le_of_eq rfl
      go_wp2
      go_roundw
      case rel =>
        have HE : Lib.decDigits n = (if m / 10 < 10 then [] else Lib.decDigits (m / 10 / 10)) ++ (one (48 + ((m / 10 : Nat) : Int) % 10) ++ t).data.toList := by
          rw [HR.out, if_neg (by omega), dec_start (m / 10), ByteArray.data_append, Array.toList_append, one_list, List.append_assoc]
        rw [show ((m / 10 : Nat) : Int) = (m : Int) / 10 from by omega] at HE
        refine ⟨m / 10, _, by go_num, rfl, by omega, hb.alloc hsz _, ?_, HE⟩
        have hl := congrArg List.length HE
        rw [Lib.decDigits_length, List.length_append] at hl
        have := Lib.nDigits_le20 n (by omega)
        have hz : (one (48 + (m : Int) / 10 % 10) ++ t).data.toList.length = (one (48 + (m : Int) / 10 % 10) ++ t).size := by simp
        omega
      case measure => simp [intOf]; omega
    · go_wp2
      go_ret
      have HE := HR.out
      rw [if_pos (by omega), List.nil_append] at HE
      exact ⟨ret_str (of_list HE), hb⟩

set_option maxHeartbeats 1000000 in
theorem rdigits_any (n : Int) (h0 : -9223372036854775808 ≤ n) (h1 : n ≤ 9223372036854775807) (w : World) :
    Calls Try.prog 88 #[.int .i64 n] w fun e w' => e = .returned (.string (digS n)) ∧ Below w.heap.size w w' := by
  by_cases hn : n < 0
  · obtain ⟨u, hu1, rfl⟩ : ∃ u : Nat, 1 ≤ u ∧ n = -(u : Int) := ⟨n.natAbs, by omega, by omega⟩
    go_enter Try.func88, Try.ntmps88
    go_wp2_with fail
    rw [show (-(-(u : Int) + 1) + 1) = (u : Int) from by omega]
    refine (whole_any u (by omega) _).mono ?_
    rintro e w' ⟨rfl, hb⟩
    have hl : (decS u).size ≤ 20 := by
      show (Lib.decDigits u).toArray.size ≤ 20
      rw [List.size_toArray, Lib.decDigits_length]
      exact Lib.nDigits_le20 u (by omega)
    go_wp2
    go_ret
    exact ⟨ret_str (by unfold decS digS; rw [Lib.itoa_neg u (by omega)]; apply ByteArray.ext; simp), hb⟩
  · obtain ⟨u, rfl⟩ : ∃ u : Nat, n = (u : Int) := ⟨n.toNat, by omega⟩
    go_enter Try.func88, Try.ntmps88
    go_wp2_with (go_at_call 99; refine (whole_any u (by omega) _).mono ?_; rintro e w' ⟨rfl, hb⟩)
    go_ret
    exact ⟨ret_str (by unfold decS digS; rw [Lib.itoa_nonneg]), hb⟩
end Go.Proofs.Ytglbfknmeojfkaa
end

section
/-
  Package ident's Join and the document's own answer's Join: both return, for every slice of strings and every byte, the strings with the byte between adjacent ones. Condition: the result has at most a billion bytes.
-/
namespace Go.Proofs.Ytglbfknmeojfkaa
open Go.RowKit

theorem joinL_snoc (b : UInt8) (P : List (List UInt8)) (x : List UInt8) : joinL b (P ++ [x]) = if P = [] then x else joinL b P ++ b :: x := by
  induction P with
  | nil => rfl
  | cons y r ih =>
    rw [if_neg (by simp)]
    cases r with
    | nil => rfl
    | cons z r2 =>
      rw [List.cons_append, List.cons_append, joinL, ← List.cons_append, ih, if_neg (by simp), joinL, List.append_assoc]; rfl
theorem joinL_take_le (b : UInt8) (l : List (List UInt8)) : ∀ k, (joinL b (l.take k)).length ≤ (joinL b l).length := by
  intro k
  induction l generalizing k with
  | nil => simp
  | cons y r ih =>
    cases k with
    | zero => simp [joinL]
    | succ k =>
      cases r with
      | nil => simp
      | cons z r2 =>
        cases k with
        | zero => simp [joinL]
        | succ k =>
          have := ih (k + 1)
          rw [List.take_succ_cons] at this ⊢
          rw [List.take_succ_cons, joinL, joinL]
          simp only [List.length_append, List.length_cons]
          omega

/-- A slice value that reads as the list l of strings, below block B. -/
def ReadsT (w : World) (B : Nat) (v : Value) (l : List (List UInt8)) : Prop :=
  ∃ A cap, v = .slice A l.length cap ∧ (0 < l.length → ∃ ad : Addr, A = some ad ∧ ad.block < B ∧ ∀ j (h : j < l.length), w.cell? (ad.add j) = some (.string (mkS l[j])))
theorem addr_block (a : Addr) (n : Nat) : (a.add n).block = a.block := by unfold Addr.add; split <;> rfl
theorem ReadsT.of_own {w : World} {base : Nat} {e : TypeId} {v : Value} {l : List (List UInt8)} (h : w.ownsRow base e 1 v l.length (strV l)) : ReadsT w w.heap.size v l := by
  rcases h.2 with ⟨rfl, h0⟩ | ⟨g, cap, cur, rfl, hg, hh, hn, _⟩
  · exact ⟨none, 0, by rw [h0], fun hpos => by omega⟩
  · refine ⟨some ⟨g, 0, none⟩, cap, rfl, fun hpos => ⟨⟨g, 0, none⟩, rfl, (Array.getElem?_eq_some_iff.1 hh).1, fun j hj => ?_⟩⟩
    exact h.cells (g := g) rfl j _ (by unfold strV; rw [List.getElem?_map, List.getElem?_eq_getElem hj]; rfl)

theorem one_mk (b : UInt8) : one (b.toNat : Int) = mkS [b] := by
  unfold one mkS
  simp
theorem take_snocL (l : List (List UInt8)) (k : Nat) (h : k < l.length) : l.take (k + 1) = l.take k ++ [l[k]] := by
  rw [List.take_succ_eq_append_getElem h]
theorem take_nil_iff (l : List (List UInt8)) (k : Nat) (h : k < l.length) (h0 : 0 < k) : l.take k ≠ [] := by
  intro e; have := congrArg List.length e; rw [List.length_take, List.length_nil] at this; omega

/-- Read as strings in the elder way. -/
theorem SlT.readsT {v : Value} {l : List (List UInt8)} {ob L : List Blk} {M : List Nat} {W w : World} (h : SlT v l ob) (hO : Own M W w L) (hs : ∀ x ∈ ob, x ∈ L) : ReadsT w w.heap.size v l := by
  obtain ⟨A, cap, rfl⟩ := h.form
  refine ⟨A, cap, rfl, fun h0 => ?_⟩
  obtain ⟨b, off, e, hlt, hc⟩ := SlT.reads h rfl hO hs h0
  refine ⟨⟨b, off, none⟩, e, hlt, fun j hj => ?_⟩
  rw [add_off]
  refine hc j _ ?_
  rw [← strV_flat]
  unfold strV
  rw [List.getElem?_map, List.getElem?_eq_getElem hj]; rfl
end Go.Proofs.Ytglbfknmeojfkaa
end

section
/-
  Package version: Print: it returns the string of a valid version, and the empty string for any other; nothing that was there is changed. Conditions: strings of at most a million bytes; the library's table of powers of ten reads as it is laid.
-/
namespace Go.Proofs.Ytglbfknmeojfkaa
open Go.RowKit

def digs (a b c : Int) : List (List UInt8) := [Lib.itoa a, Lib.itoa b, Lib.itoa c]
theorem dec_len (n : Nat) (h : n ≤ 9999) : (Lib.decDigits n).length ≤ 4 := by
  rw [Lib.decDigits_length]
  unfold Lib.nDigits
  split
  · omega
  · unfold Lib.nDigits
    split
    · omega
    · unfold Lib.nDigits
      split
      · omega
      · rw [Lib.nDigits_small (by omega)]; omega
theorem itoa_len {n : Int} (h : numOkI n = true) : (Lib.itoa n).length ≤ 4 := by
  rw [itoa_nat h]
  apply dec_len
  unfold numOkI at h; simp at h; omega
end Go.Proofs.Ytglbfknmeojfkaa
end

section
/-
  Package version: Parse: it returns the version that the document's own reading (parseR) finds, and OK; or the zero version and ErrVersion; nothing that was there is changed. Conditions: a string of at most a million bytes; the library's table of powers of ten reads as it is laid.
-/
namespace Go.Proofs.Ytglbfknmeojfkaa
open Go.RowKit

def parV (s : List UInt8) : Ver := (parseR s).getD Ver.zero
def parE (s : List UInt8) : Int := if (parseR s).isSome then 0 else 5
def PEnd (s : List UInt8) (w : World) (e : Ending) (w' : World) : Prop := e = .returned (.tuple #[verV (parV s), .int .i64 (parE s)]) ∧ Below w.heap.size w w'

end Go.Proofs.Ytglbfknmeojfkaa
end

section
/-
  Package version: Bump and Next: what they return for every version and every part; nothing that was there is changed. Conditions: strings of at most a million bytes.
-/
namespace Go.Proofs.Ytglbfknmeojfkaa
open Go.RowKit

def bumpN (v : Ver) (k : Nat) : Ver := if k = 0 then Ver.rel (v.maj + 1) 0 0 else if k = 1 then Ver.rel v.maj (v.min + 1) 0 else Ver.rel v.maj v.min (v.pat + 1)
def bumpOk (v : Ver) (part : Int) : Bool := v.may && decide (0 ≤ part ∧ part < 3) && !(nth3 v.maj v.min v.pat part.toNat == 9999)
def bumpV (v : Ver) (part : Int) : Ver := if bumpOk v part then bumpN v part.toNat else Ver.zero
def BEnd (v : Ver) (part : Int) (w : World) (e : Ending) (w' : World) : Prop := e = .returned (.tuple #[verV (bumpV v part), .bool (bumpOk v part)]) ∧ Below w.heap.size w w'

/-! ### Next -/
def nextOk (v : Ver) : Bool := v.may && (!v.pre.isEmpty || bumpOk v 2 || bumpOk v 1 || bumpOk v 0)
def nextV (v : Ver) : Ver :=
  if v.may then (if v.pre.isEmpty then (if bumpOk v 2 then bumpV v 2 else if bumpOk v 1 then bumpV v 1 else if bumpOk v 0 then bumpV v 0 else Ver.zero) else Ver.rel v.maj v.min v.pat) else Ver.zero
def NEnd (v : Ver) (w : World) (e : Ending) (w' : World) : Prop := e = .returned (.tuple #[verV (nextV v), .bool (nextOk v)]) ∧ Below w.heap.size w w'
/-- What the loop over the parts 2, 1, 0 finds from a part on. -/
def findB (v : Ver) : Nat → Ver × Bool
  | 0 => (Ver.zero, false)
  | k + 1 => if bumpOk v k then (bumpV v k, true) else findB v k
end Go.Proofs.Ytglbfknmeojfkaa
end

section
/-
  Plain mathematics for chapter 2: the order of versions. A version's key is a list of numbers; Compare is the order of keys, read as lists.
-/
namespace Go.Proofs.Ytglbfknmeojfkaa
open Go.RowKit

/-! ### Lists of numbers -/
def cmpL : List Nat → List Nat → Int
  | [], [] => 0
  | [], _ :: _ => -1
  | _ :: _, [] => 1
  | a :: l, b :: m => if a < b then -1 else if b < a then 1 else cmpL l m
theorem cmpL_cons (a b : Nat) (l m : List Nat) : cmpL (a :: l) (b :: m) = if a < b then -1 else if b < a then 1 else cmpL l m := rfl
theorem cmpL_self (a : List Nat) : cmpL a a = 0 := by
  induction a with
  | nil => rfl
  | cons x l ih => rw [cmpL, if_neg (by omega), if_neg (by omega)]; exact ih
theorem cmpL_anti (a : List Nat) : ∀ b, cmpL b a = - cmpL a b := by
  induction a with
  | nil => intro b; cases b <;> rfl
  | cons x l ih =>
    intro b
    cases b with
    | nil => rfl
    | cons y m =>
      rw [cmpL, cmpL]
      by_cases h1 : x < y
      · rw [if_neg (by omega), if_pos h1, if_pos h1]; rfl
      · by_cases h2 : y < x
        · rw [if_pos h2, if_neg h1, if_pos h2]
        · rw [if_neg h2, if_neg h1, if_neg h1, if_neg h2]; exact ih m
theorem cmpL_range (a : List Nat) : ∀ b, cmpL a b = -1 ∨ cmpL a b = 0 ∨ cmpL a b = 1 := by
  induction a with
  | nil => intro b; cases b <;> simp [cmpL]
  | cons x l ih =>
    intro b
    cases b with
    | nil => simp [cmpL]
    | cons y m =>
      rw [cmpL]
      split
      · simp
      · split
        · simp
        · exact ih m
theorem cmpL_zero (a : List Nat) : ∀ b, cmpL a b = 0 → a = b := by
  induction a with
  | nil => intro b; cases b <;> simp [cmpL]
  | cons x l ih =>
    intro b
    cases b with
    | nil => simp [cmpL]
    | cons y m =>
      rw [cmpL]
      split
      · intro h; omega
      · split
        · intro h; omega
        · intro h; rw [ih m h, show x = y from by omega]
theorem cmpL_trans (a : List Nat) : ∀ b c, cmpL a b ≤ 0 → cmpL b c ≤ 0 → cmpL a c ≤ 0 ∧ (cmpL a c = 0 → cmpL a b = 0 ∧ cmpL b c = 0) := by
  induction a with
  | nil =>
    intro b c h1 h2
    cases b with
    | nil => cases c <;> simp [cmpL]
    | cons y m =>
      cases c with
      | nil => simp [cmpL] at h2
      | cons z n => simp [cmpL]
  | cons x l ih =>
    intro b c h1 h2
    cases b with
    | nil => simp [cmpL] at h1
    | cons y m =>
      cases c with
      | nil => simp [cmpL] at h2
      | cons z n =>
        simp only [cmpL_cons] at h1 h2 ⊢
        by_cases a1 : x < y
        · simp only [if_pos a1] at h1 ⊢
          by_cases a2 : y < z
          · have : x < z := by omega
            simp only [if_pos this]; omega
          · by_cases a3 : z < y
            · simp only [if_neg a2, if_pos a3] at h2; omega
            · have : x < z := by omega
              simp only [if_pos this]; omega
        · by_cases a1' : y < x
          · simp only [if_neg a1, if_pos a1'] at h1; omega
          · simp only [if_neg a1, if_neg a1'] at h1 ⊢
            obtain rfl : x = y := by omega
            by_cases a2 : x < z
            · simp only [if_pos a2]; omega
            · by_cases a3 : z < x
              · simp only [if_neg a2, if_pos a3] at h2; omega
              · simp only [if_neg a2, if_neg a3] at h2 ⊢
                exact ih m n h1 h2

/-! ### Keys -/
def oneR (a b : List UInt8) : Int :=
  if numer a && numer b then Lib.compareInt (numD a) (numD b) else if numer a then -1 else if numer b then 1 else Lib.compareBytes a b
def presL : List (List UInt8) → List (List UInt8) → Int
  | [], [] => 0
  | [], _ :: _ => -1
  | _ :: _, [] => 1
  | a :: l, b :: m => if oneR a b ≠ 0 then oneR a b else presL l m
def presR (a b : List UInt8) : Int := if a = b then 0 else if a = [] then 1 else if b = [] then -1 else presL (pcs a) (pcs b)
def tagKey (t : List UInt8) : List Nat := if numer t then [1, (numD t).toNat] else 2 :: (t.map (fun c => c.toNat + 1) ++ [0])
def tailKey (l : List (List UInt8)) : List Nat := l.flatMap tagKey ++ [0]
def preKey (p : List UInt8) : List Nat := if p = [] then [3] else tailKey (pcs p)
def Ver.key (v : Ver) : List Nat := v.maj.toNat :: v.min.toNat :: v.pat.toNat :: preKey v.pre

theorem numD_nat (t : List UInt8) : 0 ≤ numD t := by unfold numD; omega
theorem cmpL_bytes (a : List UInt8) : ∀ (b : List UInt8) (x y : List Nat), cmpL (a.map (fun c => c.toNat + 1) ++ 0 :: x) (b.map (fun c => c.toNat + 1) ++ 0 :: y) = if Lib.compareBytes a b ≠ 0 then Lib.compareBytes a b else cmpL x y := by
  induction a with
  | nil =>
    intro b x y
    cases b with
    | nil => simp [cmpL, Lib.compareBytes]
    | cons c r => simp [cmpL, Lib.compareBytes]
  | cons c r ih =>
    intro b x y
    cases b with
    | nil => simp [cmpL, Lib.compareBytes]
    | cons d q =>
      simp only [List.map_cons, List.cons_append, cmpL_cons]
      by_cases h1 : c < d
      · have h1' : c.toNat < d.toNat := UInt8.lt_iff_toNat_lt.1 h1
        have e : Lib.compareBytes (c :: r) (d :: q) = -1 := by rw [Lib.compareBytes, if_pos h1]
        rw [e, if_pos (by omega)]; rfl
      · by_cases h2 : d < c
        · have h2' : d.toNat < c.toNat := UInt8.lt_iff_toNat_lt.1 h2
          have e : Lib.compareBytes (c :: r) (d :: q) = 1 := by rw [Lib.compareBytes, if_neg h1, if_pos h2]
          rw [e, if_neg (by omega), if_pos (by omega)]; rfl
        · have a1 : ¬ c.toNat < d.toNat := fun h => h1 (UInt8.lt_iff_toNat_lt.2 h)
          have a2 : ¬ d.toNat < c.toNat := fun h => h2 (UInt8.lt_iff_toNat_lt.2 h)
          have e : Lib.compareBytes (c :: r) (d :: q) = Lib.compareBytes r q := by rw [Lib.compareBytes, if_neg h1, if_neg h2]
          rw [e, if_neg (by omega), if_neg (by omega)]
          exact ih q x y
theorem cmpL_tag (a b : List UInt8) (x y : List Nat) : cmpL (tagKey a ++ x) (tagKey b ++ y) = if oneR a b ≠ 0 then oneR a b else cmpL x y := by
  unfold tagKey oneR
  cases ha : numer a <;> cases hb : numer b
  · have := cmpL_bytes a b x y
    simpa [cmpL] using this
  · simp [cmpL]
  · simp [cmpL]
  · have h1 := numD_nat a
    have h2 := numD_nat b
    simp only [Bool.and_true, if_true, List.cons_append, List.nil_append, cmpL, Lib.compareInt]
    by_cases h : numD a < numD b
    · rw [if_pos h, if_pos (by omega : (numD a).toNat < (numD b).toNat)]; rfl
    · by_cases h' : numD b < numD a
      · rw [if_neg h, if_pos h', if_neg (by omega : ¬ (numD a).toNat < (numD b).toNat), if_pos (by omega : (numD b).toNat < (numD a).toNat)]; rfl
      · rw [if_neg h, if_neg h', if_neg (by omega : ¬ (numD a).toNat < (numD b).toNat), if_neg (by omega : ¬ (numD b).toNat < (numD a).toNat)]; rfl
theorem tag_cons (a : List UInt8) : ∃ k r, tagKey a = k :: r ∧ 0 < k ∧ k < 3 := by
  unfold tagKey; split
  · exact ⟨_, _, rfl, by omega, by omega⟩
  · exact ⟨_, _, rfl, by omega, by omega⟩
theorem cmpL_tail (l : List (List UInt8)) : ∀ m, cmpL (tailKey l) (tailKey m) = presL l m := by
  induction l with
  | nil =>
    intro m
    cases m with
    | nil => rfl
    | cons b m =>
      obtain ⟨k, r, e, h, _⟩ := tag_cons b
      unfold tailKey
      rw [List.flatMap_cons, e]
      simp [cmpL, presL, h]
  | cons a l ih =>
    intro m
    cases m with
    | nil =>
      obtain ⟨k, r, e, h, _⟩ := tag_cons a
      unfold tailKey
      rw [List.flatMap_cons, e]
      simp [cmpL, presL, h]
    | cons b m =>
      have := ih m
      unfold tailKey at this ⊢
      rw [List.flatMap_cons, List.flatMap_cons, List.append_assoc, List.append_assoc, cmpL_tag, this, presL]
theorem tail_small (l : List (List UInt8)) : ∃ k r, tailKey l = k :: r ∧ k < 3 := by
  unfold tailKey
  cases l with
  | nil => exact ⟨0, [], rfl, by omega⟩
  | cons a l =>
    obtain ⟨k, r, e, _, h⟩ := tag_cons a
    exact ⟨k, r ++ (l.flatMap tagKey ++ [0]), by rw [List.flatMap_cons, e]; simp, h⟩
theorem presR_key (a b : List UInt8) : presR a b = cmpL (preKey a) (preKey b) := by
  unfold presR
  by_cases h : a = b
  · rw [if_pos h, h, cmpL_self]
  · rw [if_neg h]
    unfold preKey
    by_cases ha : a = []
    · have hb : b ≠ [] := fun e => h (ha.trans e.symm)
      rw [if_pos ha, if_pos ha, if_neg hb]
      obtain ⟨k, r, e, hk⟩ := tail_small (pcs b)
      rw [e, cmpL, if_neg (by omega), if_pos hk]
    · rw [if_neg ha, if_neg ha]
      by_cases hb : b = []
      · rw [if_pos hb, if_pos hb]
        obtain ⟨k, r, e, hk⟩ := tail_small (pcs a)
        rw [e, cmpL, if_pos hk]
      · rw [if_neg hb, if_neg hb]; exact (cmpL_tail _ _).symm

/-! ### The document's own Compare -/
def cmpN (v w : Ver) : Int :=
  if Lib.compareInt v.maj w.maj ≠ 0 then Lib.compareInt v.maj w.maj
  else if Lib.compareInt v.min w.min ≠ 0 then Lib.compareInt v.min w.min
  else Lib.compareInt v.pat w.pat
def cmpR (v w : Ver) : Int := if v.may && w.may then (if cmpN v w ≠ 0 then cmpN v w else presR v.pre w.pre) else 0
theorem may_nat {v : Ver} (h : v.may = true) : (0 ≤ v.maj ∧ v.maj ≤ 9999) ∧ (0 ≤ v.min ∧ v.min ≤ 9999) ∧ (0 ≤ v.pat ∧ v.pat ≤ 9999) := by
  obtain ⟨h1, h2, h3⟩ := may_nums h
  unfold numOkI at h1 h2 h3; simp at h1 h2 h3
  exact ⟨h1, h2, h3⟩
theorem cmpL_num {a b : Int} (ha : 0 ≤ a) (hb : 0 ≤ b) (x y : List Nat) : cmpL (a.toNat :: x) (b.toNat :: y) = if Lib.compareInt a b ≠ 0 then Lib.compareInt a b else cmpL x y := by
  rw [cmpL]
  unfold Lib.compareInt
  by_cases h : a < b
  · rw [if_pos h, if_pos (by omega)]; rfl
  · by_cases h' : b < a
    · rw [if_neg h, if_pos h', if_neg (by omega), if_pos (by omega)]; rfl
    · rw [if_neg h, if_neg h', if_neg (by omega), if_neg (by omega)]; rfl
theorem cmpR_key {v w : Ver} (hv : v.may = true) (hw : w.may = true) : cmpR v w = cmpL v.key w.key := by
  obtain ⟨v1, v2, v3⟩ := may_nat hv
  obtain ⟨w1, w2, w3⟩ := may_nat hw
  unfold cmpR
  rw [hv, hw, presR_key]
  unfold Ver.key
  rw [cmpL_num v1.1 w1.1, cmpL_num v2.1 w2.1, cmpL_num v3.1 w3.1]
  unfold cmpN
  simp only [Bool.and_true, if_true]
  by_cases h1 : Lib.compareInt v.maj w.maj = 0
  · by_cases h2 : Lib.compareInt v.min w.min = 0
    · simp [h1, h2]
    · simp [h1, h2]
  · simp [h1]

/-! ### What package version does -/
def oneP (a b : List UInt8) : Int :=
  if numI a && numI b then Lib.compareInt (numD a) (numD b) else if numI a && !b.isEmpty then -1 else if numI b && !a.isEmpty then 1 else Lib.compareBytes a b
def seqP : Nat → List (List UInt8) → List (List UInt8) → Int
  | 0, _, _ => 0
  | n + 1, l, m => if oneP (tg l 0) (tg m 0) ≠ 0 then oneP (tg l 0) (tg m 0) else seqP n l.tail m.tail
def fine (t : List UInt8) : Bool := tagOk t && preT t
/-- What comparePre returns. -/
def cpre (a b : List UInt8) : Int := if a = [] then 1 else if b = [] then -1 else seqP 4 (lst a).1 (lst b).1
theorem cmpR_bad {v w : Ver} (h : v.may = false ∨ w.may = false) : cmpR v w = 0 := by
  unfold cmpR
  rw [if_neg]
  rcases h with h | h <;> simp [h]
def coreV (v : Ver) : Ver := { v with build := [] }
theorem compareInt_self (x : Int) : Lib.compareInt x x = 0 := by unfold Lib.compareInt; simp
theorem cmpR_core {v w : Ver} (h : coreV v = coreV w) : cmpR v w = 0 := by
  unfold coreV at h
  simp only [Ver.mk.injEq, and_true] at h
  obtain ⟨h1, h2, h3, h4⟩ := h
  unfold cmpR cmpN presR
  rw [h1, h2, h3, h4]
  simp [compareInt_self]
end Go.Proofs.Ytglbfknmeojfkaa
end

section
/-
  Plain mathematics for chapter 2: what follows from the order of versions: total, Build ignored, the next release, the zone of a release's pre-releases; and the versions that numbers name.
-/
namespace Go.Proofs.Ytglbfknmeojfkaa
open Go.RowKit

/-! ### Order -/
theorem core_may {v : Ver} (h : v.may = true) : (coreV v).may = true := by
  have e : listOk [] = true := by decide
  unfold Ver.may at h ⊢; simp only [Bool.and_eq_true] at h ⊢
  exact ⟨⟨h.1.1, h.1.2⟩, e⟩
theorem order_self {a : Ver} : cmpR a a = 0 := cmpR_core rfl
theorem order_core {a b : Ver} (ha : a.may = true) (hb : b.may = true) : cmpR (coreV a) b = cmpR a b := by
  rw [cmpR_key (core_may ha) hb, cmpR_key ha hb]; rfl
/-! ### Numbers as one -/
def Ver.code (v : Ver) : Int := (v.maj * 10000 + v.min) * 10000 + v.pat
/-! ### The next release; bumps -/
end Go.Proofs.Ytglbfknmeojfkaa
end

section
/-
  Plain mathematics for chapter 2: the next release is greater than the version, and no release lies between.
-/
namespace Go.Proofs.Ytglbfknmeojfkaa
open Go.RowKit

end Go.Proofs.Ytglbfknmeojfkaa
end

section
/-
  Plain mathematics of chapter 6: comparators and their strings; a string is read as the comparator whose string it is. No condition of its own.
-/
namespace Go.Proofs.Ytglbfknmeojfkaa
set_option linter.unusedVariables false
set_option linter.unusedSimpArgs false

structure Co where
  op : Int
  parts : Int
  v : Ver
deriving DecidableEq
def signL (op : Int) : List UInt8 := if op = 1 then [61] else if op = 2 then [33, 61] else if op = 3 then [60] else if op = 4 then [60, 61] else if op = 5 then [62] else if op = 6 then [62, 61] else if op = 7 then [94] else if op = 8 then [126] else []
def Co.may (c : Co) : Bool := decide (1 ≤ c.op ∧ c.op ≤ 9) && c.v.may && decide (c.v.build = []) && (if c.op = 9 then decide (0 ≤ c.parts ∧ c.parts ≤ 2) else decide (1 ≤ c.parts ∧ c.parts ≤ 3)) && decide (3 ≤ c.parts ∨ c.v.pre = []) && decide (0 < c.parts ∨ c.v.maj = 0) && decide (1 < c.parts ∨ c.v.min = 0) && decide (2 < c.parts ∨ c.v.pat = 0)
theorem Co.facts {c : Co} (h : c.may = true) : (1 ≤ c.op ∧ c.op ≤ 9) ∧ c.v.may = true ∧ c.v.build = [] ∧ (c.op = 9 → 0 ≤ c.parts ∧ c.parts ≤ 2) ∧ (¬ c.op = 9 → 1 ≤ c.parts ∧ c.parts ≤ 3) ∧ (3 ≤ c.parts ∨ c.v.pre = []) ∧ (0 < c.parts ∨ c.v.maj = 0) ∧ (1 < c.parts ∨ c.v.min = 0) ∧ (2 < c.parts ∨ c.v.pat = 0) := by
  unfold Co.may at h
  simp only [Bool.and_eq_true, decide_eq_true_eq] at h
  obtain ⟨⟨⟨⟨⟨⟨⟨h1, h2⟩, h3⟩, h4⟩, h5⟩, h6⟩, h7⟩, h8⟩ := h
  refine ⟨h1, h2, h3, fun e => ?_, fun e => ?_, h5, h6, h7, h8⟩
  · rw [if_pos e] at h4; exact of_decide_eq_true h4
  · rw [if_neg e] at h4; exact of_decide_eq_true h4
theorem Co.may_iff {c : Co} : c.may = true ↔ (1 ≤ c.op ∧ c.op ≤ 9) ∧ c.v.may = true ∧ c.v.build = [] ∧ (c.op = 9 → 0 ≤ c.parts ∧ c.parts ≤ 2) ∧ (¬ c.op = 9 → 1 ≤ c.parts ∧ c.parts ≤ 3) ∧ (3 ≤ c.parts ∨ c.v.pre = []) ∧ (0 < c.parts ∨ c.v.maj = 0) ∧ (1 < c.parts ∨ c.v.min = 0) ∧ (2 < c.parts ∨ c.v.pat = 0) := by
  refine ⟨Co.facts, fun ⟨h1, h2, h3, k9, kn, h5, h6, h7, h8⟩ => ?_⟩
  unfold Co.may
  rw [decide_eq_true h1, h2, decide_eq_true h3, decide_eq_true h5, decide_eq_true h6, decide_eq_true h7, decide_eq_true h8]
  by_cases e : c.op = 9
  · rw [if_pos e, decide_eq_true (k9 e)]; rfl
  · rw [if_neg e, decide_eq_true (kn e)]; rfl
def numsN (v : Ver) (n : Nat) : List (List UInt8) := [Lib.itoa v.maj, Lib.itoa v.min, Lib.itoa v.pat].take n
def Co.rest (c : Co) : List UInt8 := if c.op = 9 then joinL 46 (numsN c.v c.parts.toNat ++ [[42]]) else joinL 46 (numsN c.v c.parts.toNat) ++ tailS 45 c.v.pre
def Co.text (c : Co) : List UInt8 := signL c.op ++ c.rest
def Co.print (c : Co) : List UInt8 := if c.may then c.text else []

def beginsL (s t : List UInt8) : Bool := decide (s.take t.length = t)
/-- The operator of a string, and what stands behind its sign. -/
def splitC (s : List UInt8) : Int × List UInt8 :=
  if beginsL s [33, 61] then (2, s.drop 2) else if beginsL s [60, 61] then (4, s.drop 2) else if beginsL s [62, 61] then (6, s.drop 2) else if beginsL s [61] then (1, s.drop 1)
  else if beginsL s [60] then (3, s.drop 1) else if beginsL s [62] then (5, s.drop 1) else if beginsL s [94] then (7, s.drop 1) else if beginsL s [126] then (8, s.drop 1)
  else if s.getLast? = some 42 then (9, s) else (7, s)
def guessL (op : Int) (rest : List UInt8) : List (List UInt8) := if op = 9 then (pcs (cutAt 45 rest).1).dropLast else pcs (cutAt 45 rest).1
def guessC (op : Int) (rest : List UInt8) : Option Co :=
  if (guessL op rest).length ≤ 3 ∧ (guessL op rest).all numI = true then
    some ⟨op, (guessL op rest).length, ⟨numD (tg (guessL op rest) 0), numD (tg (guessL op rest) 1), numD (tg (guessL op rest) 2), (cutAt 45 rest).2.1, []⟩⟩
  else none
def fits (s : List UInt8) (c : Co) : Bool := !decide (c.print = []) && (decide (c.print = s) || decide (c.print = 94 :: s))
def parseC (s : List UInt8) : Option Co := (guessC (splitC s).1 (splitC s).2).filter (fits s)

theorem co_print {c : Co} (h : c.may = true) : c.print = c.text := by unfold Co.print; rw [h]; rfl
/-! ### The numbers between dots -/
theorem nums_mem {v : Ver} (hv : v.may = true) {n : Nat} {x : List UInt8} (h : x ∈ numsN v n) : ∃ k : Int, numOkI k = true ∧ x = Lib.itoa k := by
  obtain ⟨h1, h2, h3⟩ := may_nums hv
  unfold numsN at h
  have h := List.mem_of_mem_take h
  simp only [List.mem_cons, List.not_mem_nil, or_false] at h
  rcases h with rfl | rfl | rfl
  · exact ⟨_, h1, rfl⟩
  · exact ⟨_, h2, rfl⟩
  · exact ⟨_, h3, rfl⟩
theorem numsN_len (v : Ver) {n : Nat} (h : n ≤ 3) : (numsN v n).length = n := by
  unfold numsN
  rw [List.length_take]
  simp; omega
/-! ### What is behind the sign is read back -/
/-! ### The sign -/
end Go.Proofs.Ytglbfknmeojfkaa
end

section
/-
  linchpinlaw0: Place, At, From, Version and Release: what they return for every list of numbers; nothing that was there is changed.
-/
namespace Go.Proofs.Ytglbfknmeojfkaa
open Go.RowKit



def numT (k : Nat) : Int := (([0, 1, 2, 3, 0, 1, 10, 9999] : List Int)[k]?).getD 0
def preT14 (k : Nat) : List UInt8 := (([[], [], [], [], [48], [49], [50], [49, 49], [97], [97, 46, 49], [97, 46, 98], [98], [48, 46, 48], [114, 99, 46, 49]] : List (List UInt8))[k]?).getD []
def bldT (k : Nat) : List UInt8 := (([[], [], [], [], [48, 48, 55], [120, 46, 49]] : List (List UInt8))[k]?).getD []
def genV (l : List Int) (i : Nat) : Ver := ⟨numT (plc (atL l i) 8).toNat, numT (plc (atL l (i + 1)) 8).toNat, numT (plc (atL l (i + 2)) 8).toNat, preT14 (plc (atL l (i + 3)) 14).toNat, bldT (plc (atL l (i + 4)) 6).toNat⟩
def GEnd (u : Ver) (w : World) (e : Ending) (w' : World) : Prop := e = .returned (verV u) ∧ Below w.heap.size w w'
end Go.Proofs.Ytglbfknmeojfkaa
end

section
/-
  What linchpinlaw0's Version makes is valid and short.
-/
namespace Go.Proofs.Ytglbfknmeojfkaa
open Go.RowKit

end Go.Proofs.Ytglbfknmeojfkaa
end

section
/-
  Plain mathematics for chapter 3: cuts, their order, what stands ahead of a version, spans; and the cuts that numbers name.
-/
namespace Go.Proofs.Ytglbfknmeojfkaa
open Go.RowKit
set_option linter.unusedVariables false
set_option linter.unusedSimpArgs false

structure Cu where
  e : Int
  v : Ver
  aft : Bool
deriving DecidableEq

def Cu.may (c : Cu) : Bool := if c.e = 0 then c.v.may && c.v.build.isEmpty else decide (c.e = -1 ∨ c.e = 1) && decide (c.v = Ver.zero) && !c.aft
def b01 (b : Bool) : Int := if b then 1 else 0
def lex (x y : Int) : Int := if x = 0 then y else x
def cmpC (a b : Cu) : Int := if a.may && b.may then lex (Lib.compareInt a.e b.e) (lex (cmpR a.v b.v) (Lib.compareInt (b01 a.aft) (b01 b.aft))) else 0
theorem zero_may : Ver.zero.may = true := by decide
theorem may_v {c : Cu} (h : c.may = true) : c.v.may = true := by
  unfold Cu.may at h
  split at h
  · rw [Bool.and_eq_true] at h; exact h.1
  · simp only [Bool.and_eq_true, decide_eq_true_eq] at h; rw [h.1.2]; exact zero_may
theorem may_e {c : Cu} (h : c.may = true) : (c.e = 0 ∧ c.v.build = []) ∨ ((c.e = -1 ∨ c.e = 1) ∧ c.v = Ver.zero ∧ c.aft = false) := by
  unfold Cu.may at h
  split at h
  · rename_i h0; rw [Bool.and_eq_true] at h; exact .inl ⟨h0, List.isEmpty_iff.1 h.2⟩
  · simp only [Bool.and_eq_true, decide_eq_true_eq, Bool.not_eq_true'] at h; exact .inr ⟨h.1.1, h.1.2, h.2⟩
theorem cmpR_range {v w : Ver} : cmpR v w = -1 ∨ cmpR v w = 0 ∨ cmpR v w = 1 := by
  by_cases hv : v.may = true
  · by_cases hw : w.may = true
    · rw [cmpR_key hv hw]; exact cmpL_range _ _
    · exact .inr (.inl (cmpR_bad (.inr (by simpa using hw))))
  · exact .inr (.inl (cmpR_bad (.inl (by simpa using hv))))
theorem ci_range (x y : Int) : Lib.compareInt x y = -1 ∨ Lib.compareInt x y = 0 ∨ Lib.compareInt x y = 1 := by
  unfold Lib.compareInt
  by_cases h : x < y
  · rw [if_pos h]; simp
  · rw [if_neg h]
    by_cases h2 : y < x
    · rw [if_pos h2]; simp
    · rw [if_neg h2]; simp
theorem cmpC_good {a b : Cu} (ha : a.may = true) (hb : b.may = true) : cmpC a b = lex (Lib.compareInt a.e b.e) (lex (cmpR a.v b.v) (Lib.compareInt (b01 a.aft) (b01 b.aft))) := by
  unfold cmpC; rw [ha, hb]; rfl
theorem cmpC_range (a b : Cu) : cmpC a b = -1 ∨ cmpC a b = 0 ∨ cmpC a b = 1 := by
  unfold cmpC lex
  have h1 := ci_range a.e b.e
  have h2 := cmpR_range (v := a.v) (w := b.v)
  have h3 := ci_range (b01 a.aft) (b01 b.aft)
  split
  · split
    · split
      · exact h3
      · exact h2
    · exact h1
  · simp

/-! ### Orders put one behind the other -/
structure Ord3 {α : Type} (c : α → α → Int) : Prop where
  anti : ∀ x y, c y x = - c x y
  on : ∀ x y z, c x y ≤ 0 → c y z ≤ 0 → c x z ≤ 0 ∧ (c x z = 0 → c x y = 0 ∧ c y z = 0)
  same : ∀ x y z, c x y = 0 → c y z = 0 → c x z = 0
theorem lex_ord {α : Type} {c d : α → α → Int} (hc : Ord3 c) (hd : Ord3 d) : Ord3 (fun x y => lex (c x y) (d x y)) := by
  refine ⟨fun x y => ?_, fun x y z h1 h2 => ?_, fun x y z h1 h2 => ?_⟩
  · have a := hc.anti x y; have b := hd.anti x y
    show lex (c y x) (d y x) = - lex (c x y) (d x y)
    unfold lex
    by_cases h : c x y = 0
    · rw [if_pos h, if_pos (by omega)]; exact b
    · rw [if_neg h, if_neg (by omega)]; exact a
  · have a := hc.on x y z; have b := hd.on x y z; have s := hc.same x y z
    show lex _ _ ≤ 0 ∧ (lex _ _ = 0 → lex _ _ = 0 ∧ lex _ _ = 0)
    replace h1 : lex (c x y) (d x y) ≤ 0 := h1
    replace h2 : lex (c y z) (d y z) ≤ 0 := h2
    unfold lex at h1 h2 ⊢
    by_cases p : c x y = 0
    · by_cases q : c y z = 0
      · rw [if_pos p] at h1 ⊢; rw [if_pos q] at h2 ⊢; rw [if_pos (s p q)]; exact b h1 h2
      · rw [if_pos p] at h1 ⊢; rw [if_neg q] at h2 ⊢
        obtain ⟨a1, a2⟩ := a (by omega) h2
        have : c x z ≠ 0 := fun e => q (a2 e).2
        rw [if_neg this]; exact ⟨a1, fun e => absurd e this⟩
    · rw [if_neg p] at h1 ⊢
      have h2' : c y z ≤ 0 := by
        by_cases q : c y z = 0
        · omega
        · rw [if_neg q] at h2; exact h2
      obtain ⟨a1, a2⟩ := a h1 h2'
      have : c x z ≠ 0 := fun e => p (a2 e).1
      rw [if_neg this]; exact ⟨a1, fun e => absurd e this⟩
  · have s := hc.same x y z; have t := hd.same x y z
    show lex _ _ = 0
    replace h1 : lex (c x y) (d x y) = 0 := h1
    replace h2 : lex (c y z) (d y z) = 0 := h2
    unfold lex at h1 h2 ⊢
    by_cases p : c x y = 0
    · by_cases q : c y z = 0
      · rw [if_pos p] at h1; rw [if_pos q] at h2; rw [if_pos (s p q)]; exact t h1 h2
      · rw [if_neg q] at h2; exact absurd h2 q
    · rw [if_neg p] at h1; exact absurd h1 p
theorem ci_ord {α : Type} (f : α → Int) : Ord3 (fun x y => Lib.compareInt (f x) (f y)) := by
  refine ⟨fun x y => ?_, fun x y z => ?_, fun x y z => ?_⟩ <;> unfold Lib.compareInt <;> (repeat' split) <;> omega
theorem cmpL_ord {α : Type} (f : α → List Nat) : Ord3 (fun x y => cmpL (f x) (f y)) := by
  refine ⟨fun x y => cmpL_anti _ _, fun x y z => cmpL_trans _ _ _, fun x y z h1 h2 => ?_⟩
  show cmpL (f x) (f z) = 0
  rw [cmpL_zero _ _ h1, cmpL_zero _ _ h2]; exact cmpL_self _
def cmpK (a b : Cu) : Int := lex (Lib.compareInt a.e b.e) (lex (cmpL a.v.key b.v.key) (Lib.compareInt (b01 a.aft) (b01 b.aft)))
theorem cmpK_ord : Ord3 cmpK := lex_ord (ci_ord (fun c : Cu => c.e)) (lex_ord (cmpL_ord (fun c : Cu => c.v.key)) (ci_ord (fun c : Cu => b01 c.aft)))
theorem cmpC_K {a b : Cu} (ha : a.may = true) (hb : b.may = true) : cmpC a b = cmpK a b := by
  rw [cmpC_good ha hb, cmpR_key (may_v ha) (may_v hb)]; rfl
theorem cmpC_bad {a b : Cu} (h : a.may = false ∨ b.may = false) : cmpC a b = 0 := by
  unfold cmpC
  rcases h with h | h <;> rw [h] <;> simp
theorem cut_anti {a b : Cu} : cmpC b a = - cmpC a b := by
  cases ha : a.may with
  | true =>
    cases hb : b.may with
    | true => rw [cmpC_K ha hb, cmpC_K hb ha]; exact cmpK_ord.anti _ _
    | false => rw [cmpC_bad (.inl hb), cmpC_bad (.inr hb)]; rfl
  | false => rw [cmpC_bad (a := a) (.inl ha), cmpC_bad (b := a) (.inr ha)]; rfl
theorem cut_on {a b c : Cu} (ha : a.may = true) (hb : b.may = true) (hc : c.may = true) (h1 : cmpC a b ≤ 0) (h2 : cmpC b c ≤ 0) : cmpC a c ≤ 0 ∧ (cmpC a c = 0 → cmpC a b = 0 ∧ cmpC b c = 0) := by
  rw [cmpC_K ha hb] at h1 ⊢; rw [cmpC_K hb hc] at h2 ⊢; rw [cmpC_K ha hc]; exact cmpK_ord.on _ _ _ h1 h2
/-! ### Ahead of a version -/
def endC (e : Int) : Cu := ⟨e, Ver.zero, false⟩
def posC (v : Ver) : Cu := ⟨0, coreV v, false⟩
theorem posC_may {v : Ver} (h : v.may = true) : (posC v).may = true := by
  unfold posC Cu.may
  rw [if_pos rfl, core_may h]; rfl
def aheadC (c : Cu) (v : Ver) : Bool := c.may && v.may && (if c.e = 0 then decide (cmpR c.v v < 0 ∨ (cmpR c.v v = 0 ∧ c.aft = false)) else decide (c.e < 0))
theorem cmpR_coreR {a v : Ver} (ha : a.may = true) (hv : v.may = true) : cmpR a (coreV v) = cmpR a v := by
  rw [cmpR_key ha (core_may hv), cmpR_key ha hv]; rfl
theorem ahead_pos {c : Cu} {v : Ver} (hc : c.may = true) (hv : v.may = true) : aheadC c v = decide (cmpC c (posC v) ≤ 0) := by
  rw [cmpC_good hc (posC_may hv)]
  unfold aheadC
  rw [hc, hv]
  show (true && true && _) = decide (lex (Lib.compareInt c.e 0) (lex (cmpR c.v (coreV v)) (Lib.compareInt (b01 c.aft) (b01 false))) ≤ 0)
  rw [cmpR_coreR (may_v hc) hv]
  rcases may_e hc with ⟨h, _⟩ | ⟨h, h2, h3⟩
  · rw [if_pos h, h, compareInt_self]
    unfold lex
    rw [if_pos rfl]
    rcases cmpR_range (v := c.v) (w := v) with e | e | e <;> rw [e] <;> cases c.aft <;> decide
  · rw [if_neg (by omega)]
    rcases h with h | h <;> rw [h]
    · rw [show Lib.compareInt (-1) 0 = -1 from by decide]; unfold lex; simp
    · rw [show Lib.compareInt 1 0 = 1 from by decide]; unfold lex; simp
/-- Who stands ahead of a cut that is ahead of a version is ahead of it. -/
theorem ahead_on {a b : Cu} {v : Ver} (ha : a.may = true) (hb : b.may = true) (hv : v.may = true) (h : cmpC a b ≤ 0) (h2 : aheadC b v = true) : aheadC a v = true := by
  rw [ahead_pos hb hv, decide_eq_true_eq] at h2
  rw [ahead_pos ha hv, decide_eq_true_eq]
  exact (cut_on ha hb (posC_may hv) h h2).1
/-! ### The order as the code finds it -/
def lessC (a b : Cu) : Bool := if a.e = b.e then (if cmpR a.v b.v = -1 then true else if cmpR a.v b.v = 1 then false else !a.aft && b.aft) else decide (a.e < b.e)
/-! ### Spans -/
structure Sp where
  lo : Cu
  hi : Cu
def Sp.may (s : Sp) : Bool := decide (cmpC s.lo s.hi = -1)
def holdsC (s : Sp) (v : Ver) : Bool := s.may && aheadC s.lo v && !aheadC s.hi v
theorem beside {v w : Ver} (hv : v.may = true) (hw : w.may = true) : (Sp.mk ⟨0, coreV v, false⟩ ⟨0, coreV v, true⟩).may = true ∧ holdsC ⟨⟨0, coreV v, false⟩, ⟨0, coreV v, true⟩⟩ w = decide (cmpR v w = 0) := by
  have m1 : (Cu.mk 0 (coreV v) false).may = true := posC_may hv
  have m2 : (Cu.mk 0 (coreV v) true).may = true := by unfold Cu.may; rw [if_pos rfl, core_may hv]; rfl
  have hs : (Sp.mk ⟨0, coreV v, false⟩ ⟨0, coreV v, true⟩).may = true := by
    unfold Sp.may
    rw [cmpC_good m1 m2]
    dsimp only
    rw [order_self]; rfl
  refine ⟨hs, ?_⟩
  unfold holdsC aheadC
  rw [hs, m1, m2, hw]
  dsimp only
  rw [if_pos rfl, if_pos rfl, order_core hv hw]
  rcases cmpR_range (v := v) (w := w) with e | e | e <;> rw [e] <;> rfl
theorem between {a b : Cu} {v : Ver} (ha : a.may = true) (hb : b.may = true) (hv : v.may = true) (h1 : aheadC a v = true) (h2 : aheadC b v = false) : cmpC a b = -1 := by
  have h3 : ¬ cmpC b a ≤ 0 := fun h => by rw [ahead_on hb ha hv h h1] at h2; cases h2
  have := cut_anti (a := a) (b := b)
  rcases cmpC_range a b with e | e | e <;> omega
/-! ### The cuts that numbers name -/
def genC (l : List Int) (i : Nat) : Cu :=
  if plc (atL l (i + 5)) 9 < 2 then endC (2 * plc (atL l (i + 5)) 9 - 1) else ⟨0, coreV (genV l i), decide (plc (atL l (i + 5)) 2 = 1)⟩
end Go.Proofs.Ytglbfknmeojfkaa
end

section
/-
  Equality of structs, whole: versions and cuts. No condition.
-/
namespace Go.Proofs.Ytglbfknmeojfkaa
open Go.RowKit
set_option linter.unusedVariables false
set_option linter.unusedSimpArgs false

/-- A cut as a value. -/
def cutV (c : Cu) : Value := .agg #[.int .i64 c.e, .int .i64 c.v.maj, .int .i64 c.v.min, .int .i64 c.v.pat, .string (mkS c.v.pre), .string (mkS c.v.build), .bool c.aft]
def spanV (s : Sp) : Value := .agg #[.int .i64 s.lo.e, .int .i64 s.lo.v.maj, .int .i64 s.lo.v.min, .int .i64 s.lo.v.pat, .string (mkS s.lo.v.pre), .string (mkS s.lo.v.build), .bool s.lo.aft, .int .i64 s.hi.e, .int .i64 s.hi.v.maj, .int .i64 s.hi.v.min, .int .i64 s.hi.v.pat, .string (mkS s.hi.v.pre), .string (mkS s.hi.v.build), .bool s.hi.aft]
end Go.Proofs.Ytglbfknmeojfkaa
end

section
/-
  Package version: compareTag, comparePre and Compare: what they return; nothing that was there is changed. Conditions: strings of at most a million bytes.
-/
namespace Go.Proofs.Ytglbfknmeojfkaa
open Go.RowKit

def or3 (x y z : Int) : Int := if x ≠ 0 then x else if y ≠ 0 then y else z
def nthI (x y z : Int) (k : Nat) : Int := if k = 0 then x else if k = 1 then y else z
end Go.Proofs.Ytglbfknmeojfkaa
end

section
/-
  Package version: Compare: the order that the document names; nothing that was there is changed. Conditions: strings of at most a million bytes.
-/
namespace Go.Proofs.Ytglbfknmeojfkaa
open Go.RowKit

end Go.Proofs.Ytglbfknmeojfkaa
end

section
/-
  The document's own answer for chapter 2 (linchpinref2): Numeric, tag, tags, num and May: the same plain functions as package version's. Conditions: strings of at most a million bytes.
-/
namespace Go.Proofs.Ytglbfknmeojfkaa
open Go.RowKit

set_option maxHeartbeats 1000000 in
theorem rnumeric_any (s : ByteArray) (w : World) (hs : s.size ≤ maxLen) :
    Calls Try.prog 103 #[.string s] w fun e w' => e = .returned (.bool (numer s.data.toList)) ∧ w = w' := by
  unfold maxLen at hs
  go_enter Try.func103, Try.ntmps103
  go_wp2
  go_loop [3] (fun i => ∃ k : Nat, k ≤ s.size ∧ i = .int .i64 k ∧ Hid (allDig (s.data.toList.drop k) = allDig s.data.toList)) (fun i => s.size - (intOf i).toNat)
  case atStart => exact ⟨0, Nat.zero_le _, rfl, rfl⟩
  case round =>
    obtain ⟨k, hk, rfl, HR⟩ := hrel
    by_cases hp : k < s.size
    · have HD := Lib.hid (drop_cons s k hp)
      by_cases h1 : ((s[k]'hp).toNat : Int) < 48
      · go_wp2
        go_ret
        exact ⟨ret_bool (by unfold numer; rw [← HR.out, HD.out, allDig_cons_bad _ _ (by unfold digB; simp; omega), Bool.and_false]), rfl⟩
      · by_cases h2 : (57 : Int) < (s[k]'hp).toNat
        · go_wp2
          go_ret
          exact ⟨ret_bool (by unfold numer; rw [← HR.out, HD.out, allDig_cons_bad _ _ (by unfold digB; simp; omega), Bool.and_false]), rfl⟩
        · go_wp2
          go_round
          case rel => exact ⟨k + 1, by omega, by go_num, by rw [← HR.out, HD.out, allDig_cons_ok _ _ (by unfold digB; simp; omega)]; rfl⟩
          case measure => simp [intOf]; omega
    · have HD := Lib.hid (drop_end s k hp)
      have hl : s.data.toList.length = s.size := len_data s
      by_cases h0 : s.size = 0
      · have he : s.data.toList = [] := List.eq_nil_of_length_eq_zero (by omega)
        have h0i : ¬ (0 : Int) < s.size := by omega
        have HE := Lib.hid he
        clear he h0 hl
        go_wp2
        go_ret
        exact ⟨ret_bool (by unfold numer; rw [HE.out]; simp; exact ByteArray.ext (Array.toList_inj.1 HE.out)), rfl⟩
      · have he : s.data.toList.isEmpty = false := by
          cases h : s.data.toList with
          | nil => rw [h] at hl; simp at hl; omega
          | cons _ _ => rfl
        have h0i : (0 : Int) < s.size := by omega
        have HE := Lib.hid he
        clear he h0 hl
        go_wp2
        go_ret
        exact ⟨ret_bool (by unfold numer; rw [HE.out, ← HR.out, HD.out]; simp [allDig]; omega), rfl⟩

set_option maxHeartbeats 2000000 in
theorem rtag_any (s : ByteArray) (w : World) (hs : s.size ≤ maxLen) :
    Calls Try.prog 101 #[.string s] w fun e w' => e = .returned (.bool (tagOk s.data.toList)) ∧ w = w' := by
  unfold maxLen at hs
  have hl : s.data.toList.length = s.size := len_data s
  by_cases h1 : s.size < 1
  · have HT : Hid (tagOk s.data.toList = false) := tagOk_short (List.eq_nil_of_length_eq_zero (by omega))
    clear hl
    go_enter Try.func101, Try.ntmps101
    go_wp2
    go_ret
    exact ⟨ret_bool HT.out.symm, rfl⟩
  · by_cases h8 : 8 < s.size
    · have HT : Hid (tagOk s.data.toList = false) := tagOk_long (by omega)
      clear hl
      go_enter Try.func101, Try.ntmps101
      go_wp2
      go_ret
      exact ⟨ret_bool HT.out.symm, rfl⟩
    · have HT : Hid (tagOk s.data.toList = s.data.toList.all tagC) := tagOk_mid (by intro e; rw [e] at hl; simp at hl; omega) (by omega)
      clear hl
      go_enter Try.func101, Try.ntmps101
      go_wp2
      go_loop [3] (fun i => ∃ k : Nat, k ≤ s.size ∧ i = .int .i64 k ∧ Hid ((s.data.toList.drop k).all tagC = s.data.toList.all tagC)) (fun i => s.size - (intOf i).toNat)
      case atStart => exact ⟨0, Nat.zero_le _, rfl, rfl⟩
      case round =>
        obtain ⟨k, hk, rfl, HR⟩ := hrel
        by_cases hp : k < s.size
        · have HD := Lib.hid (drop_cons s k hp)
          by_cases hL : (97 : Int) ≤ (s[k]'hp).toNat ∧ ((s[k]'hp).toNat : Int) ≤ 122
          · obtain ⟨hla, hlb⟩ := hL
            go_wp2
            go_round
            case rel => exact ⟨k + 1, by omega, by go_num, by rw [← HR.out, HD.out, all_ok _ _ (tagC_let _ (by unfold letB; simp; omega))]; rfl⟩
            case measure => simp [intOf]; omega
          · have hL2 : ((s[k]'hp).toNat : Int) < 97 ∨ (122 : Int) < (s[k]'hp).toNat := by omega
            by_cases hG : (48 : Int) ≤ (s[k]'hp).toNat ∧ ((s[k]'hp).toNat : Int) ≤ 57
            · obtain ⟨hga, hgb⟩ := hG
              have hL3 : ((s[k]'hp).toNat : Int) < 97 := by omega
              clear hL hL2
              go_wp2
              go_round
              case rel => exact ⟨k + 1, by omega, by go_num, by rw [← HR.out, HD.out, all_ok _ _ (tagC_dig _ (by unfold digB; simp; omega))]; rfl⟩
              case measure => simp [intOf]; omega
            · have hG2 : ((s[k]'hp).toNat : Int) < 48 ∨ (57 : Int) < (s[k]'hp).toNat := by omega
              by_cases h3 : ((s[k]'hp).toNat : Int) = 45
              · have h3b : (((s[k]'hp).toNat : Int) != 45) = false := by simp [h3]
                have hL3 : ((s[k]'hp).toNat : Int) < 97 := by omega
                have hG3 : ((s[k]'hp).toNat : Int) < 48 := by omega
                have H3 := Lib.hid h3
                clear h3 hL hL2 hG hG2
                go_wp2
                go_round
                case rel => exact ⟨k + 1, by omega, by go_num, by rw [← HR.out, HD.out, all_ok _ _ (tagC_dash _ H3.out)]; rfl⟩
                case measure => simp [intOf]; omega
              · have h3b : (((s[k]'hp).toNat : Int) != 45) = true := by simpa using h3
                have HB : Hid (s.data.toList.all tagC = false) := by
                  show _ = _
                  rw [← HR.out, HD.out, all_bad _ _ (tagC_bad _ (by unfold digB; simp; omega) (by unfold letB; simp; omega) h3)]
                clear hL hG h3
                rcases hL2 with hL2 | hL2 <;> rcases hG2 with hG2 | hG2
                · go_wp2
                  go_ret
                  exact ⟨ret_bool (by rw [HT.out, HB.out]), rfl⟩
                · have h9 : (48 : Int) ≤ (s[k]'hp).toNat := by omega
                  go_wp2
                  go_ret
                  exact ⟨ret_bool (by rw [HT.out, HB.out]), rfl⟩
                · exfalso; omega
                · have h9 : (97 : Int) ≤ (s[k]'hp).toNat := by omega
                  have h7 : (48 : Int) ≤ (s[k]'hp).toNat := by omega
                  go_wp2
                  go_ret
                  exact ⟨ret_bool (by rw [HT.out, HB.out]), rfl⟩
        · have HD := Lib.hid (drop_end s k hp)
          go_wp2
          go_ret
          exact ⟨ret_bool (by rw [HT.out, ← HR.out, HD.out]; rfl), rfl⟩

theorem rnum_any (n : Int) (w : World) :
    Calls Try.prog 97 #[.int .i64 n] w fun e w' => e = .returned (.bool (numOkI n)) ∧ w = w' := by
  unfold numOkI
  go_enter Try.func97, Try.ntmps97
  go_wp2
  all_goals go_ret
  all_goals exact ⟨ret_bool (by simp; try omega), rfl⟩

theorem rnumber_mk (t : List UInt8) (w : World) (ht : t.length ≤ maxLen) :
    Calls Try.prog 102 #[.string (mkS t)] w fun e w' => e = .returned (.tuple #[.int .i64 (numD t), .bool (numI t)]) ∧ w = w' := by
  have := rnumber_any (mkS t) w (by rw [mkS_sz]; exact ht)
  rw [numV_mk, numOk_mk] at this
  exact this
theorem rnumeric_mk (t : List UInt8) (w : World) (ht : t.length ≤ maxLen) :
    Calls Try.prog 103 #[.string (mkS t)] w fun e w' => e = .returned (.bool (numer t)) ∧ w = w' := by
  have := rnumeric_any (mkS t) w (by rw [mkS_sz]; exact ht)
  rw [mk_data] at this
  exact this
theorem rtag_mk (t : List UInt8) (w : World) (ht : t.length ≤ maxLen) :
    Calls Try.prog 101 #[.string (mkS t)] w fun e w' => e = .returned (.bool (tagOk t)) ∧ w = w' := by
  have := rtag_any (mkS t) w (by rw [mkS_sz]; exact ht)
  rw [mk_data] at this
  exact this
theorem rsplit_mk (s : List UInt8) (w : World) (hs : s.length ≤ 1000000) :
    Calls Try.prog 32 #[.string (mkS s), .int .u8 46] w fun e w' => ∃ v, e = .returned v ∧ w'.ownsRow w.heap.size 9 1 v (pcs s).length (strV (pcs s)) ∧ Below w.heap.size w w' := by
  have := rsplit_any (mkS s) 46 w (by rw [mkS_sz]; exact hs)
  unfold piecesOf at this
  rw [mk_data] at this
  exact this
theorem pcs_mem_len (s : List UInt8) : ∀ x ∈ pcs s, x.length ≤ s.length := by
  intro x hx
  have := split_le 46 s [] x hx
  simpa using this
/-- tags: at the flag pre. -/
def tagsB (s : List UInt8) (b : Bool) : Bool := s.isEmpty || (decide ((pcs s).length ≤ 4) && (pcs s).all fun t => tagOk t && !(b && numer t && !numI t))
theorem all_both {α : Type} (p q r : α → Bool) (h : ∀ x, r x = (p x && q x)) (l : List α) : l.all r = (l.all p && l.all q) := by
  induction l with
  | nil => rfl
  | cons a l ih =>
    rw [List.all_cons, List.all_cons, List.all_cons, ih, h]
    cases p a <;> cases q a <;> simp
theorem tagsB_pre (s : List UInt8) : tagsB s true = preOk s := by
  unfold tagsB preOk listOk preT
  cases s.isEmpty
  · simp only [Bool.false_or, Bool.true_and, Bool.and_assoc]
    congr 1
    refine all_both _ _ _ (fun t => ?_) _
    cases tagOk t <;> cases numer t <;> cases numI t <;> rfl
  · rfl
theorem tagsB_build (s : List UInt8) : tagsB s false = listOk s := by
  unfold tagsB listOk
  simp

def tagF (b : Bool) (t : List UInt8) : Bool := tagOk t && !(b && numer t && !numI t)
theorem tagsB_eq (s : List UInt8) (b : Bool) : tagsB s b = (s.isEmpty || (decide ((pcs s).length ≤ 4) && (pcs s).all (tagF b))) := rfl
theorem all_cut {l : List (List UInt8)} {p : List UInt8 → Bool} (k : Nat) (h : k < l.length) (hb : p l[k] = false) : l.all p = false := by
  rw [Bool.eq_false_iff]; intro e
  have := List.all_eq_true.1 e l[k] (List.getElem_mem h)
  rw [this] at hb; cases hb
theorem all_done {l : List (List UInt8)} {p : List UInt8 → Bool} (h : ∀ j (hj : j < l.length), p l[j] = true) : l.all p = true := by
  rw [List.all_eq_true]
  intro x hx
  obtain ⟨j, hj, rfl⟩ := List.getElem_of_mem hx
  exact h j hj

set_option maxHeartbeats 4000000 in
set_option maxRecDepth 100000 in
theorem rtags_any (s : List UInt8) (b : Bool) (w : World) (hs : s.length ≤ 1000000) :
    Calls Try.prog 98 #[.string (mkS s), .bool b] w fun e w' => e = .returned (.bool (tagsB s b)) ∧ Below w.heap.size w w' := by
  have es := (show (mkS s).toList.isEmpty = s.isEmpty by rw [Lib.toList_data, mk_data])
  have HT := Lib.hid (tagsB_eq s b)
  cases he : s.isEmpty with
  | true =>
    rw [he] at es HT
    clear he
    go_enter Try.func98, Try.ntmps98
    go_wp2
    go_ret
    exact ⟨ret_bool (by rw [HT.out]; rfl), Below.refl _ _⟩
  | false =>
    rw [he] at es HT
    clear he
    have HM := Lib.hid (pcs_mem_len s)
    have cS := fun w' => rsplit_mk s w' hs
    have hne : 0 < (pcs s).length := by
      have := splitL_ne 46 s []
      cases h : pcs s with
      | nil => exact absurd h this
      | cons _ _ => simp
    obtain ⟨l, hl⟩ : ∃ l, pcs s = l := ⟨_, rfl⟩
    rw [hl] at cS HM hne HT
    clear hl
    go_enter Try.func98, Try.ntmps98
    go_wp2_with fail
    refine (cS _).mono ?_
    rintro e w1 ⟨v, rfl, hown, hb1⟩
    obtain ⟨A, cap, rfl, hcell⟩ := ReadsT.of_own hown
    obtain ⟨ad, rfl, hlt, hc⟩ := hcell hne
    have HC := Lib.hid hc
    clear hc hcell hown cS
    by_cases h4 : 4 < l.length
    · have h4i : (4 : Int) < l.length := by omega
      go_wp2
      go_ret
      exact ⟨ret_bool (by rw [HT.out, decide_eq_false (by omega)]; rfl), hb1⟩
    · have h4i : ¬ (4 : Int) < l.length := by omega
      go_wp2
      go_loop [6] (fun x => ∃ k : Nat, k ≤ l.length ∧ x = .int .i64 k ∧ Hid (∀ j (hj : j < l.length), j < k → tagF b l[j] = true)) (fun x => l.length - (intOf x).toNat)
      case atStart => exact ⟨0, by omega, rfl, fun j hj h => by omega⟩
      case round =>
        obtain ⟨k, hk, rfl, HR⟩ := hrel
        by_cases hp : k < l.length
        · have hki : (k : Int) < l.length := by omega
          have hck := HC.out k hp
          have ht : l[k].length ≤ maxLen := by have := HM.out l[k] (List.getElem_mem hp); unfold maxLen; omega
          have cT := fun w' => rtag_mk l[k] w' ht
          have cN := fun w' => rnumber_mk l[k] w' ht
          have cD := fun w' => rnumeric_mk l[k] w' ht
          have HF : Hid (tagF b l[k] = (tagOk l[k] && !(b && numer l[k] && !numI l[k]))) := rfl
          obtain ⟨g1, e1⟩ : ∃ g, tagOk l[k] = g := ⟨_, rfl⟩
          obtain ⟨g2, e2⟩ : ∃ g, numer l[k] = g := ⟨_, rfl⟩
          obtain ⟨g3, e3⟩ : ∃ g, numI l[k] = g := ⟨_, rfl⟩
          rw [e1] at cT HF
          rw [e2] at cD HF
          rw [e3] at cN HF
          clear e1 e2 e3
          cases hf : (g1 && !(b && g2 && !g3)) with
          | true =>
            have HFT : Hid (tagF b l[k] = true) := by show _ = _; rw [HF.out, hf]
            clear HF
            cases g1 <;> cases b <;> cases g2 <;> cases g3 <;> simp at hf
            all_goals
              go_wp2_with (first
                | (go_at_call 101; refine (cT _).mono ?_; rintro e w2 ⟨rfl, rfl⟩)
                | (go_at_call 102; refine (cN _).mono ?_; rintro e w3 ⟨rfl, rfl⟩)
                | (go_at_call 103; refine (cD _).mono ?_; rintro e w4 ⟨rfl, rfl⟩))
              go_round
              case rel => exact ⟨k + 1, by omega, by go_num, fun j hj h => by
                by_cases hjk : j < k
                · exact HR.out j hj hjk
                · obtain rfl : j = k := by omega
                  exact HFT.out⟩
              case measure => simp [intOf]; omega
          | false =>
            have HFT : Hid (tagF b l[k] = false) := by show _ = _; rw [HF.out, hf]
            clear HF
            cases g1 <;> cases b <;> cases g2 <;> cases g3 <;> simp at hf
            all_goals
              go_wp2_with (first
                | (go_at_call 101; refine (cT _).mono ?_; rintro e w2 ⟨rfl, rfl⟩)
                | (go_at_call 102; refine (cN _).mono ?_; rintro e w3 ⟨rfl, rfl⟩)
                | (go_at_call 103; refine (cD _).mono ?_; rintro e w4 ⟨rfl, rfl⟩))
              go_ret
              exact ⟨ret_bool (by rw [HT.out, all_cut k hp HFT.out]; simp), hb1⟩
        · have hki : ¬ (k : Int) < l.length := by omega
          have hall := all_done (l := l) (p := tagF b) (fun j hj => HR.out j hj (by omega))
          have HA := Lib.hid hall
          clear hall
          go_wp2
          go_ret
          exact ⟨ret_bool (by rw [HT.out, HA.out, decide_eq_true (by omega)]; rfl), hb1⟩

set_option maxHeartbeats 4000000 in
set_option maxRecDepth 100000 in
theorem rmay_any (v : Ver) (w : World) (hp : v.pre.length ≤ 1000000) (hq : v.build.length ≤ 1000000) :
    Calls Try.prog 87 #[verV v] w fun e w' => e = .returned (.bool v.may) ∧ Below w.heap.size w w' := by
  have HM : Hid (v.may = (numOkI v.maj && numOkI v.min && numOkI v.pat && tagsB v.pre true && tagsB v.build false)) := by
    show _ = _
    rw [tagsB_pre, tagsB_build]; rfl
  have cP := fun w' => rtags_any v.pre true w' hp
  have cQ := fun w' => rtags_any v.build false w' hq
  have c1 := fun w' => rnum_any v.maj w'
  have c2 := fun w' => rnum_any v.min w'
  have c3 := fun w' => rnum_any v.pat w'
  obtain ⟨m, hm⟩ : ∃ m, v.may = m := ⟨_, rfl⟩
  rw [hm] at HM ⊢
  obtain ⟨g1, e1⟩ : ∃ g, numOkI v.maj = g := ⟨_, rfl⟩
  obtain ⟨g2, e2⟩ : ∃ g, numOkI v.min = g := ⟨_, rfl⟩
  obtain ⟨g3, e3⟩ : ∃ g, numOkI v.pat = g := ⟨_, rfl⟩
  obtain ⟨g4, e4⟩ : ∃ g, tagsB v.pre true = g := ⟨_, rfl⟩
  obtain ⟨g5, e5⟩ : ∃ g, tagsB v.build false = g := ⟨_, rfl⟩
  rw [e1, e2, e3, e4, e5] at HM
  rw [e1] at c1
  rw [e2] at c2
  rw [e3] at c3
  rw [e4] at cP
  rw [e5] at cQ
  clear e1 e2 e3 e4 e5 hm
  obtain ⟨a, b, c, p, q⟩ := v
  unfold verV
  dsimp only at c1 c2 c3 cP cQ ⊢
  have hcases : g1 = false ∨ (g1 = true ∧ g2 = false) ∨ (g1 = true ∧ g2 = true ∧ g3 = false) ∨ (g1 = true ∧ g2 = true ∧ g3 = true ∧ g4 = false) ∨ (g1 = true ∧ g2 = true ∧ g3 = true ∧ g4 = true) := by
    cases g1 <;> cases g2 <;> cases g3 <;> cases g4 <;> simp
  rcases hcases with rfl | ⟨rfl, rfl⟩ | ⟨rfl, rfl, rfl⟩ | ⟨rfl, rfl, rfl, rfl⟩ | ⟨rfl, rfl, rfl, rfl⟩
  · go_enter Try.func87, Try.ntmps87
    go_wp2_with fail
    refine (c1 _).mono ?_
    rintro e w1 ⟨rfl, rfl⟩
    go_wp2
    go_ret
    exact ⟨ret_bool (by rw [HM.out]; rfl), (Below.refl _ _).alloc (Nat.le_refl _) _⟩
  · go_enter Try.func87, Try.ntmps87
    go_wp2_with fail
    refine (c1 _).mono ?_
    rintro e w1 ⟨rfl, rfl⟩
    go_wp2_with fail
    refine (c2 _).mono ?_
    rintro e w1 ⟨rfl, rfl⟩
    go_wp2
    go_ret
    exact ⟨ret_bool (by rw [HM.out]; rfl), (Below.refl _ _).alloc (Nat.le_refl _) _⟩
  · go_enter Try.func87, Try.ntmps87
    go_wp2_with fail
    refine (c1 _).mono ?_
    rintro e w1 ⟨rfl, rfl⟩
    go_wp2_with fail
    refine (c2 _).mono ?_
    rintro e w1 ⟨rfl, rfl⟩
    go_wp2_with fail
    refine (c3 _).mono ?_
    rintro e w1 ⟨rfl, rfl⟩
    go_wp2
    go_ret
    exact ⟨ret_bool (by rw [HM.out]; rfl), (Below.refl _ _).alloc (Nat.le_refl _) _⟩
  · go_enter Try.func87, Try.ntmps87
    go_wp2_with fail
    refine (c1 _).mono ?_
    rintro e w1 ⟨rfl, rfl⟩
    go_wp2_with fail
    refine (c2 _).mono ?_
    rintro e w1 ⟨rfl, rfl⟩
    go_wp2_with fail
    refine (c3 _).mono ?_
    rintro e w1 ⟨rfl, rfl⟩
    go_wp2_with fail
    refine (cP _).mono ?_
    rintro e w1 ⟨rfl, hb1⟩
    go_wp2
    go_ret
    exact ⟨ret_bool (by rw [HM.out]; rfl), ((Below.refl _ _).alloc (Nat.le_refl _) _).trans (hb1.mono (by simp))⟩
  · go_enter Try.func87, Try.ntmps87
    go_wp2_with fail
    refine (c1 _).mono ?_
    rintro e w1 ⟨rfl, rfl⟩
    go_wp2_with fail
    refine (c2 _).mono ?_
    rintro e w1 ⟨rfl, rfl⟩
    go_wp2_with fail
    refine (c3 _).mono ?_
    rintro e w1 ⟨rfl, rfl⟩
    go_wp2_with fail
    refine (cP _).mono ?_
    rintro e w1 ⟨rfl, hb1⟩
    obtain ⟨k4, m4⟩ := box_cells hb1 4 (by simp)
    simp only [List.getElem_toArray, List.getElem_cons_succ, List.getElem_cons_zero] at k4
    have hbw : Below w.heap.size w w1 := ((Below.refl _ _).alloc (Nat.le_refl _) _).trans (hb1.mono (by simp))
    go_wp2_with fail
    refine (cQ _).mono ?_
    rintro e w2 ⟨rfl, hb2⟩
    go_wp2
    go_ret
    exact ⟨ret_bool (by rw [HM.out]; rfl), hbw.trans (hb2.mono hbw.size)⟩
end Go.Proofs.Ytglbfknmeojfkaa
end

section
/-
  The document's own answer for chapter 2 (linchpinref2): Ints, Texts, one, pres, Compare and Core. Conditions: strings of at most a million bytes.
-/
namespace Go.Proofs.Ytglbfknmeojfkaa
open Go.RowKit

end Go.Proofs.Ytglbfknmeojfkaa
end

section
/-
  Package cut and the document's own answer for chapter 3: May, Compare, Ahead, SpanMay, Holds of both: what they return for cuts and versions whose strings have at most a million bytes; nothing that was there is changed.
-/
namespace Go.Proofs.Ytglbfknmeojfkaa
open Go.RowKit
set_option maxRecDepth 100000
set_option linter.unusedVariables false
set_option linter.unusedSimpArgs false
set_option maxHeartbeats 2000000

def Cu.short (c : Cu) : Prop := c.v.pre.length ≤ 1000000 ∧ c.v.build.length ≤ 1000000
def Ver.short (v : Ver) : Prop := v.pre.length ≤ 1000000 ∧ v.build.length ≤ 1000000
def Sp.short (s : Sp) : Prop := s.lo.short ∧ s.hi.short
end Go.Proofs.Ytglbfknmeojfkaa
end

section
/-
  Plain mathematics for chapter 4: rows of spans; what a row holds, cut by cut; a valid row is what it holds; the row that stretches between rising cuts come to.
-/
namespace Go.Proofs.Ytglbfknmeojfkaa
open Go.RowKit
set_option linter.unusedVariables false
set_option linter.unusedSimpArgs false

/-! ### The order of valid cuts -/
/-! ### Rows -/
def rowMay : List Sp → Bool
  | [] => true
  | [s] => s.may
  | s :: t :: r => s.may && decide (cmpC s.hi t.lo < 0) && rowMay (t :: r)
def inSp (s : Sp) (c : Cu) : Bool := decide (cmpC s.lo c ≤ 0) && decide (cmpC c s.hi < 0)
def den (l : List Sp) (c : Cu) : Bool := l.any (inSp · c)
def rowHas (l : List Sp) (v : Ver) : Bool := rowMay l && l.any (holdsC · v)
/-! ### A row out of stretches between rising cuts -/
def growL (l : List Sp) (c d : Cu) : List Sp :=
  match l.getLast? with
  | some s => if cmpC s.hi c = 0 then l.dropLast ++ [⟨s.lo, d⟩] else l ++ [⟨c, d⟩]
  | none => [⟨c, d⟩]
def buildL (p : Cu → Cu → Bool) : List Sp → List Cu → List Sp
  | out, c :: d :: r => buildL p (if p c d then growL out c d else out) (d :: r)
  | out, _ => out
/-- The stretch that a cut stands in. -/
def pick (p : Cu → Cu → Bool) (x : Cu) : List Cu → Bool
  | c :: d :: r => (p c d && inSp ⟨c, d⟩ x) || pick p x (d :: r)
  | _ => false
def Rise : List Cu → Prop
  | c :: d :: r => c.may = true ∧ cmpC c d < 0 ∧ Rise (d :: r)
  | [c] => c.may = true
  | [] => True
/-! ### The cuts of spans -/
def putL (c : Cu) : List Cu → List Cu
  | [] => [c]
  | d :: r => if cmpC d c < 0 then d :: putL c r else if cmpC d c = 0 then d :: r else c :: d :: r
def cutsL (l : List Sp) : List Cu := l.foldl (fun out s => putL s.hi (putL s.lo out)) [endC (-1), endC 1]
def AllMay (l : List Cu) : Prop := ∀ x ∈ l, x.may = true
/-- Rising cuts from the first to the last one. -/
structure Ends (l : List Cu) : Prop where
  rise : Rise l
  head : l.head? = some (endC (-1))
  last : l.getLast? = some (endC 1)
/-! ### A stretch lies in a span as its cuts do -/
def inL (l : List Sp) (c d : Cu) : Bool := l.any fun s => decide (cmpC s.lo c ≤ 0) && decide (cmpC d s.hi ≤ 0)
/-! ### What the document's own answer makes -/
def makeL (l : List Sp) : List Sp := buildL (inL l) [] (cutsL l)
def orL (a b : List Sp) : List Sp := makeL (a ++ b)
def andL (a b : List Sp) : List Sp := buildL (fun c d => inL a c d && inL b c d) [] (cutsL (a ++ b))
def notL (a : List Sp) : List Sp := buildL (fun c d => !inL a c d) [] (cutsL a)
end Go.Proofs.Ytglbfknmeojfkaa
end

section
/-
  linchpinref4: in, ..: what they return; nothing that was there is changed.
-/
namespace Go.Proofs.Ytglbfknmeojfkaa
open Go.RowKit
set_option maxRecDepth 100000
set_option linter.unusedVariables false
set_option linter.unusedSimpArgs false
set_option maxHeartbeats 2000000

def spanC (s : Sp) : List Value := (spanV s).cells.toList
def ShortL (l : List Sp) : Prop := ∀ s ∈ l, s.short
end Go.Proofs.Ytglbfknmeojfkaa
end

section
/-
  linchpinref4.Same: two rows, span by span; nothing that was there is changed.
-/
namespace Go.Proofs.Ytglbfknmeojfkaa
open Go.RowKit
set_option maxRecDepth 100000
set_option linter.unusedVariables false
set_option linter.unusedSimpArgs false
set_option maxHeartbeats 2000000

deriving instance DecidableEq for Sp
end Go.Proofs.Ytglbfknmeojfkaa
end

section
/-
  linchpinref4: May, Has, Same: what they return for slices of spans whose strings have at most a million bytes; nothing that was there is changed.
-/
namespace Go.Proofs.Ytglbfknmeojfkaa
open Go.RowKit
set_option maxRecDepth 100000
set_option linter.unusedVariables false
set_option linter.unusedSimpArgs false
set_option maxHeartbeats 2000000

end Go.Proofs.Ytglbfknmeojfkaa
end

section
/-
  linchpinref4.grow: a row with a stretch behind it; it may write into the slice that it is lent; of all other memory nothing is changed.
-/
namespace Go.Proofs.Ytglbfknmeojfkaa
open Go.RowKit
set_option maxRecDepth 100000
set_option linter.unusedVariables false
set_option linter.unusedSimpArgs false
set_option maxHeartbeats 2000000

end Go.Proofs.Ytglbfknmeojfkaa
end

section
/-
  linchpinref4.put: a cut into its place among rising ones; what it hands back is the slice that came in, or a new one; of all other memory nothing is changed.
-/
namespace Go.Proofs.Ytglbfknmeojfkaa
open Go.RowKit
set_option maxRecDepth 100000
set_option linter.unusedVariables false
set_option linter.unusedSimpArgs false
set_option maxHeartbeats 2000000

def cutC (s : Cu) : List Value := (cutV s).cells.toList
def ShortC (l : List Cu) : Prop := ∀ s ∈ l, s.short
end Go.Proofs.Ytglbfknmeojfkaa
end

section
/-
  linchpinref4.cuts: the rising cuts of spans that came in, in a new slice; of all other memory nothing is changed.
-/
namespace Go.Proofs.Ytglbfknmeojfkaa
open Go.RowKit
set_option maxRecDepth 100000
set_option linter.unusedVariables false
set_option linter.unusedSimpArgs false
set_option maxHeartbeats 2000000

end Go.Proofs.Ytglbfknmeojfkaa
end

section
/-
  linchpinref4.Not: the stretches between cuts, a loop that grows a row of its own.
-/
namespace Go.Proofs.Ytglbfknmeojfkaa
open Go.RowKit
set_option maxRecDepth 100000
set_option linter.unusedVariables false
set_option linter.unusedSimpArgs false
set_option maxHeartbeats 2000000

section
variable {M : List Nat} {P : Program} {n : Nat} {ops : Array Oper} {W : World} {Q : Exit → Act → World → Prop} {L0 L : List Blk} {f : Nat → Value} {fuel : Nat} {listed : Array Bool} {rest : List Oper} {o : Oper}
end
end Go.Proofs.Ytglbfknmeojfkaa
end

section
/-
  linchpinref4.Make: a row out of any spans.
-/
namespace Go.Proofs.Ytglbfknmeojfkaa
open Go.RowKit
set_option maxRecDepth 100000
set_option linter.unusedVariables false
set_option linter.unusedSimpArgs false
set_option maxHeartbeats 2000000

def allMay (l : List Sp) : Bool := l.all (·.may)
end Go.Proofs.Ytglbfknmeojfkaa
end

section
/-
  linchpinref4.And, Or.
-/
namespace Go.Proofs.Ytglbfknmeojfkaa
open Go.RowKit
set_option maxRecDepth 100000
set_option linter.unusedVariables false
set_option linter.unusedSimpArgs false
set_option maxHeartbeats 2000000

end Go.Proofs.Ytglbfknmeojfkaa
end

section
/-
  linchpinref4.Within.
-/
namespace Go.Proofs.Ytglbfknmeojfkaa
open Go.RowKit
set_option maxRecDepth 100000
set_option linter.unusedVariables false
set_option linter.unusedSimpArgs false
set_option maxHeartbeats 2000000

end Go.Proofs.Ytglbfknmeojfkaa
end

section
/-
  Plain mathematics of rows as package row computes them: a span behind a row, the contrary, both, the merging of sorted spans. No condition of their own.
-/
namespace Go.Proofs.Ytglbfknmeojfkaa
set_option linter.unusedVariables false
set_option linter.unusedSimpArgs false

def minC (a b : Cu) : Cu := if 0 < cmpC a b then b else a
def maxC (a b : Cu) : Cu := if 0 < cmpC a b then a else b
/-- A row with a stretch behind it, if it is one. -/
def addL (l : List Sp) (c d : Cu) : List Sp := if (Sp.mk c d).may then l ++ [⟨c, d⟩] else l
/-! ### The contrary -/
def nstep (p : List Sp × Cu) (s : Sp) : List Sp × Cu := (addL p.1 p.2 s.lo, s.hi)
def notG (l : List Sp) : List Sp := addL (l.foldl nstep ([], endC (-1))).1 (l.foldl nstep ([], endC (-1))).2 (endC 1)
/-! ### Both -/
def andG : Nat → List Sp → List Sp → List Sp → List Sp
  | n + 1, out, s :: a, u :: b => if s.hi = minC s.hi u.hi then andG n (addL out (maxC s.lo u.lo) (minC s.hi u.hi)) a (u :: b) else andG n (addL out (maxC s.lo u.lo) (minC s.hi u.hi)) (s :: a) b
  | _, out, _, _ => out
/-! ### Sorted spans merged -/
def mstep (out : List Sp) (s : Sp) : List Sp :=
  match out.getLast? with
  | none => [s]
  | some t => if cmpC t.hi s.lo < 0 then out ++ [s] else out.dropLast ++ [⟨t.lo, maxC t.hi s.hi⟩]
def SortedC : List Sp → Prop
  | [] => True
  | s :: r => (∀ t ∈ r, cmpC s.lo t.lo ≤ 0) ∧ SortedC r
end Go.Proofs.Ytglbfknmeojfkaa
end

section
/-
  Plain mathematics: the laws of rows; a valid version's Pre is short. No condition of their own.
-/
namespace Go.Proofs.Ytglbfknmeojfkaa
set_option linter.unusedVariables false
set_option linter.unusedSimpArgs false

/-- A valid row of at most n spans. -/
structure RF (l : List Sp) (n : Nat) : Prop where
  may : rowMay l = true
  len : l.length ≤ n
section
variable {a b c : List Sp} (ha : rowMay a = true) (hb : rowMay b = true) (hc : rowMay c = true)
include ha in
end
end Go.Proofs.Ytglbfknmeojfkaa
end

section
/-
  Package row's small functions: order, the test of Has; slices.IndexFunc, ContainsFunc with it.
-/
namespace Go.Proofs.Ytglbfknmeojfkaa
open Go.RowKit
set_option maxRecDepth 100000
set_option linter.unusedVariables false
set_option linter.unusedSimpArgs false
set_option maxHeartbeats 2000000


/-- The place of the first span that holds v, or -1. -/
def idxP (v : Ver) : List Sp → Int → Int
  | [], _ => -1
  | s :: r, k => if holdsC s v then k else idxP v r (k + 1)
end Go.Proofs.Ytglbfknmeojfkaa
end

section
/-
  Package row's May, Has.
-/
namespace Go.Proofs.Ytglbfknmeojfkaa
open Go.RowKit
set_option maxRecDepth 100000
set_option linter.unusedVariables false
set_option linter.unusedSimpArgs false
set_option maxHeartbeats 2000000


end Go.Proofs.Ytglbfknmeojfkaa
end

section
/-
  Plain mathematics: a row and its spans one by one. No condition of its own.
-/
namespace Go.Proofs.Ytglbfknmeojfkaa
set_option linter.unusedVariables false
set_option linter.unusedSimpArgs false

end Go.Proofs.Ytglbfknmeojfkaa
end

section
/-
  Plain mathematics of sets: the cuts that Rel may have, one Rel for one set of releases, Or, And, Not, Make, Exact. No condition of their own.
-/
namespace Go.Proofs.Ytglbfknmeojfkaa
set_option linter.unusedVariables false
set_option linter.unusedSimpArgs false

def leastV (v : Ver) : Bool := decide (v.maj = 0) && decide (v.min = 0) && decide (v.pat = 0)
/-- May a cut be one of Rel? -/
def rightC (c : Cu) : Bool := decide (¬ c.e = 0) || (!c.aft && decide (c.v.pre = []) && !leastV c.v)
def AllRight (l : List Sp) : Prop := ∀ s ∈ l, rightC s.lo = true ∧ rightC s.hi = true
/-- A cut of Rel as a number; a cut as the number of the release at or below it. -/
def valC (c : Cu) : Int := if c.e = -1 then 0 else if c.e = 1 then 1000000000000 else c.v.code
def muI (v : Ver) : Int := if v.pre = [] then v.code else v.code - 1
def mu (x : Cu) : Int := if x.e = 0 then (if muI x.v < 0 then 0 else muI x.v) else 0
def denN (l : List Sp) (n : Int) : Bool := l.any fun s => decide (valC s.lo ≤ n) && decide (n < valC s.hi)
/-! ### Where the cuts of a row come from -/
end Go.Proofs.Ytglbfknmeojfkaa
end

section
/-
  Plain mathematics of sets: Make of two rows, the set of one version. No condition of their own.
-/
namespace Go.Proofs.Ytglbfknmeojfkaa
set_option linter.unusedVariables false
set_option linter.unusedSimpArgs false

def relV (v : Ver) : Ver := Ver.rel v.maj v.min v.pat
/-- The cut before, and the cut behind, the release with the numbers of v, as Rel has them. -/
def relA (v : Ver) : Cu := if leastV v then endC (-1) else ⟨0, relV v, false⟩
def relB (v : Ver) : Cu := if nextOk (relV v) then ⟨0, nextV (relV v), false⟩ else endC 1
def turnC (c : Cu) : Cu := if ¬ c.e = 0 then c else if c.aft = true ∧ c.v.pre = [] then relB c.v else relA c.v
def turnS (s : Sp) : Sp := ⟨turnC s.lo, turnC s.hi⟩
def makeRel (l : List Sp) : List Sp := makeL ((l.map turnS).filter (·.may))
/-- The Rel of one release. -/
def oneRel (v : Ver) : List Sp := [⟨relA v, relB v⟩]
/-- The Pre of one version with a Pre. -/
def onePre (v : Ver) : List Sp := [⟨⟨0, coreV v, false⟩, ⟨0, coreV v, true⟩⟩]
end Go.Proofs.Ytglbfknmeojfkaa
end

section
/-
  Plain mathematics of sets: a set as two rows; the set of one version; equal at the edges, equal everywhere; the laws. No condition of their own.
-/
namespace Go.Proofs.Ytglbfknmeojfkaa
set_option linter.unusedVariables false
set_option linter.unusedSimpArgs false

/-- A set: its releases, its other versions. -/
structure St where
  rel : List Sp
  pre : List Sp
def St.may (s : St) : Bool := rowMay s.rel && rowMay s.pre && s.rel.all fun x => rightC x.lo && rightC x.hi
/-- A valid set of at most n spans a row. -/
structure SF (s : St) (n : Nat) : Prop where
  rel : RF s.rel n
  pre : RF s.pre n
  right : AllRight s.rel
def setHas (s : St) (v : Ver) : Bool := s.may && v.may && (if v.pre = [] then rowHas s.rel v else rowHas s.pre v)
def noneT : St := ⟨[], []⟩
def wholeL : List Sp := [⟨endC (-1), endC 1⟩]
def allT : St := ⟨wholeL, wholeL⟩
def orT (a b : St) : St := ⟨orL a.rel b.rel, orL a.pre b.pre⟩
def andT (a b : St) : St := ⟨andL a.rel b.rel, andL a.pre b.pre⟩
def notT (a : St) : St := ⟨notL a.rel, notL a.pre⟩
def minusT (a b : St) : St := andT a (notT b)
def exactT (v : Ver) : St := if v.may then (if v.pre = [] then ⟨oneRel v, []⟩ else ⟨[], onePre v⟩) else noneT
/-! ### Valid -/
/-! ### What they have -/
section
variable {a b : St} {n m : Nat} {v : Ver} (ha : SF a n) (hb : SF b m) (hv : v.may = true)
include ha hb hv
end
/-! ### Just one version -/
/-! ### Equal at the edges -/
/-- The releases at which a Rel may turn, as numbers. -/
def edgeN (l : List Sp) : List Int := l.flatMap fun s => [s.lo, s.hi].filterMap fun c => if c.e = 0 then some c.v.code else none
/-! ### Laws of rows, once more -/
end Go.Proofs.Ytglbfknmeojfkaa
end

section
/-
  Plain mathematics for chapter 2: what is bumped lies above the version and its next release.
-/
namespace Go.Proofs.Ytglbfknmeojfkaa
open Go.RowKit

end Go.Proofs.Ytglbfknmeojfkaa
end

section
/-
  Plain mathematics of chapter 6: the region and the zone of a comparator: which versions they have. No condition of its own.
-/
namespace Go.Proofs.Ytglbfknmeojfkaa
set_option linter.unusedVariables false
set_option linter.unusedSimpArgs false

/-- The cut at which the number k turns. -/
def highC (v : Ver) : Nat → Cu
  | 0 => if bumpOk v 0 then ⟨0, bumpV v 0, false⟩ else endC 1
  | k + 1 => if bumpOk v ((k + 1 : Nat) : Int) then ⟨0, bumpV v ((k + 1 : Nat) : Int), false⟩ else highC v k
def turnsK (c : Co) : Nat := if 0 < c.v.maj ∨ c.parts = 1 then 0 else if 0 < c.v.min ∨ c.parts = 2 then 1 else 2
def Co.low (c : Co) : Cu := ⟨0, coreV c.v, false⟩
def Co.aft (c : Co) : Cu := if c.parts < 3 ∧ 0 < c.parts then highC c.v (c.parts - 1).toNat else ⟨0, coreV c.v, true⟩
def Co.span (c : Co) : Cu × Cu :=
  if c.op = 1 ∨ c.op = 2 then (c.low, c.aft) else if c.op = 3 then (endC (-1), c.low) else if c.op = 4 then (endC (-1), c.aft) else if c.op = 5 then (c.aft, endC 1) else if c.op = 6 then (c.low, endC 1)
  else if c.op = 7 then (c.low, highC c.v (turnsK c)) else if c.op = 8 then (c.low, highC c.v (min (c.parts - 1) 1).toNat) else if c.parts = 0 then (endC (-1), endC 1) else (c.low, highC c.v (c.parts - 1).toNat)
def oneRow (lo hi : Cu) : List Sp := addL [] lo hi
def Co.region (c : Co) : List Sp := if c.may then (if c.op = 2 then notL (oneRow c.span.1 c.span.2) else oneRow c.span.1 c.span.2) else []
def Co.zone (c : Co) : List Sp := if c.may && !decide (c.v.pre = []) then [⟨⟨0, { c.v with pre := [48], build := [] }, false⟩, ⟨0, { c.v with pre := [], build := [] }, false⟩⟩] else []

/-! ### Rows of one span -/
/-! ### The cuts -/
/-- The number of the release at which the number k turns. -/
def upN (v : Ver) (k : Nat) : Int := if k = 0 then (v.maj + 1) * 100000000 else if k = 1 then v.maj * 100000000 + (v.min + 1) * 10000 else v.code + 1
/-! ### By numbers: a release and a comparator without a Pre -/
/-! ### Three numbers: the order alone tells -/
/-- What the order of versions says of the six first operators. -/
def ordB (op n : Int) : Bool := if op = 1 then decide (n = 0) else if op = 2 then decide (¬ n = 0) else if op = 3 then decide (n < 0) else if op = 4 then decide (n ≤ 0) else if op = 5 then decide (0 < n) else decide (0 ≤ n)
end Go.Proofs.Ytglbfknmeojfkaa
end

section
/-
  Plain mathematics of chapter 6: what numbers alone tell of a region; the zone; regions that are each other's contrary; regions within regions. No condition of its own.
-/
namespace Go.Proofs.Ytglbfknmeojfkaa
set_option linter.unusedVariables false
set_option linter.unusedSimpArgs false

def beginsB (c : Co) (v : Ver) (p : Int) : Bool := (decide (p < 1) || decide (v.maj = c.v.maj)) && (decide (p < 2) || decide (v.min = c.v.min)) && (decide (p < 3) || decide (v.pat = c.v.pat))
def overB (c : Co) (v : Ver) : Bool := if ¬ v.maj = c.v.maj ∨ c.parts = 1 then decide (c.v.maj < v.maj) else if ¬ v.min = c.v.min ∨ c.parts = 2 then decide (c.v.min < v.min) else decide (c.v.pat < v.pat)
def saysN (c : Co) : Int := if 0 < c.v.maj ∨ c.parts = 1 then 1 else if 0 < c.v.min ∨ c.parts = 2 then 2 else 3
def saysB (c : Co) (v : Ver) : Bool :=
  if c.op = 1 ∨ c.op = 9 then beginsB c v c.parts else if c.op = 2 then !beginsB c v c.parts else if c.op = 3 then !beginsB c v c.parts && !overB c v else if c.op = 4 then beginsB c v c.parts || !overB c v
  else if c.op = 5 then overB c v else if c.op = 6 then beginsB c v c.parts || overB c v else if c.op = 8 then beginsB c v (min c.parts 2) && (beginsB c v c.parts || overB c v)
  else beginsB c v (saysN c) && (beginsB c v c.parts || overB c v)
def truncN (v : Ver) (q : Nat) : Int := if q = 1 then v.maj * 100000000 else if q = 2 then v.maj * 100000000 + v.min * 10000 else v.code
end Go.Proofs.Ytglbfknmeojfkaa
end

section
/-
  Plain mathematics of chapter 6: the zone; regions that are each other's contrary; regions within regions. No condition of its own.
-/
namespace Go.Proofs.Ytglbfknmeojfkaa
set_option linter.unusedVariables false
set_option linter.unusedSimpArgs false

/-! ### The zone -/
def leastP (v : Ver) : Ver := { v with pre := [48], build := [] }
def bareV (v : Ver) : Ver := { v with pre := [], build := [] }
/-! ### Other operators -/
def withO (c : Co) (o : Int) : Co := { c with op := o }
/-! ### Within -/
end Go.Proofs.Ytglbfknmeojfkaa
end

section
/-
  linchpinlaw0's Version and Cut at any place: the version, the cut that the list's numbers name.
-/
namespace Go.Proofs.Ytglbfknmeojfkaa
open Go.RowKit
set_option linter.unusedSimpArgs false
set_option maxRecDepth 100000
set_option linter.unusedVariables false
set_option maxHeartbeats 2000000

end Go.Proofs.Ytglbfknmeojfkaa
end

section
/-
  Plain: the comparator that linchpinlaw0.Comp makes of a list of numbers; a comparator as a value. No condition of its own.
-/
namespace Go.Proofs.Ytglbfknmeojfkaa
set_option linter.unusedVariables false
set_option linter.unusedSimpArgs false

def coV (c : Co) : Value := .agg #[.int .i64 c.op, .int .i64 c.parts, .int .i64 c.v.maj, .int .i64 c.v.min, .int .i64 c.v.pat, .string (mkS c.v.pre), .string (mkS c.v.build)]
def Co.short (c : Co) : Prop := c.v.short
/-- A version of which only the first p numbers are told. -/
def toldV (p : Int) (v : Ver) : Ver := ⟨if p < 1 then 0 else v.maj, if p < 2 then 0 else v.min, if p < 3 then 0 else v.pat, if p < 3 then [] else v.pre, []⟩
def genCo (l : List Int) (i : Nat) : Co :=
  ⟨1 + plc (atL l (i + 5)) 9, if 1 + plc (atL l (i + 5)) 9 = 9 then plc (atL l (i + 6)) 3 else 1 + plc (atL l (i + 6)) 3, toldV (if 1 + plc (atL l (i + 5)) 9 = 9 then plc (atL l (i + 6)) 3 else 1 + plc (atL l (i + 6)) 3) (genV l i)⟩
end Go.Proofs.Ytglbfknmeojfkaa
end

section
/-
  Equality of comparators, whole. No condition.
-/
namespace Go.Proofs.Ytglbfknmeojfkaa
open Go.RowKit
set_option linter.unusedVariables false
set_option linter.unusedSimpArgs false

end Go.Proofs.Ytglbfknmeojfkaa
end

section
/-
  linchpinlaw0.Spans, Row: the spans, the row that the list's numbers name.
-/
namespace Go.Proofs.Ytglbfknmeojfkaa
open Go.RowKit
set_option maxRecDepth 100000
set_option linter.unusedVariables false
set_option linter.unusedSimpArgs false
set_option maxHeartbeats 2000000

def ordSp (c d : Cu) : Sp := if 0 < cmpC c d then ⟨d, c⟩ else ⟨c, d⟩
def spG (l : List Int) (i n : Nat) : Sp := ordSp (genC l (i + 12 * n - 11)) (genC l (i + 12 * n - 5))
def spansG (l : List Int) (i : Nat) : Nat → List Sp
  | 0 => []
  | n + 1 => (if (spG l i (n + 1)).may then [spG l i (n + 1)] else []) ++ spansG l i n
end Go.Proofs.Ytglbfknmeojfkaa
end

section
/-
  linchpinlaw0.Row: the row that the list's numbers name.
-/
namespace Go.Proofs.Ytglbfknmeojfkaa
open Go.RowKit
set_option maxRecDepth 100000
set_option linter.unusedVariables false
set_option linter.unusedSimpArgs false
set_option maxHeartbeats 2000000

def rowG (l : List Int) (i : Nat) : List Sp := makeL (spansG l i (plc (atL l i) (4 + 1 : Nat)).toNat)
end Go.Proofs.Ytglbfknmeojfkaa
end

section
/-
  The document's own answer for chapter 2 (linchpinref2): Bump and Next: the same values as package version's. Conditions: strings of at most a million bytes.
-/
namespace Go.Proofs.Ytglbfknmeojfkaa
open Go.RowKit

end Go.Proofs.Ytglbfknmeojfkaa
end

section
/-
  linchpinref5: least, right, ahead, behind, turned, None: what they return; nothing that was there is changed.
-/
namespace Go.Proofs.Ytglbfknmeojfkaa
open Go.RowKit
set_option maxRecDepth 100000
set_option linter.unusedVariables false
set_option linter.unusedSimpArgs false
set_option maxHeartbeats 2000000

end Go.Proofs.Ytglbfknmeojfkaa
end

section
/-
  The document's own Join (linchpinref1): joinL, for lists whose whole length is at most 10^9.
-/
namespace Go.Proofs.Ytglbfknmeojfkaa
open Go.RowKit

set_option maxHeartbeats 2000000 in
theorem rjoin_any (v : Value) (l : List (List UInt8)) (b : UInt8) (w : World) (hv : ReadsT w w.heap.size v l) (hl : (joinL b l).length ≤ 1000000000) (hn : l.length ≤ 1000000000) :
    Calls Try.prog 70 #[v, .int .u8 b.toNat] w fun e w' => e = .returned (.string (mkS (joinL b l))) ∧ Below w.heap.size w w' := by
  have hcv := fun (w : World) (x : Int) => conv1 w x
  obtain ⟨A, cap, rfl, hcell⟩ := hv
  go_enter Try.func70, Try.ntmps70
  go_wp2
  go_loopw [5, 6] (fun sv iv wr => ∃ (k : Nat), iv = .int .i64 k ∧ k ≤ l.length ∧ sv = .string (mkS (joinL b (l.take k))) ∧ Below w.heap.size w wr) (fun _ iv _ => l.length - (intOf iv).toNat)
  case atStart => exact ⟨0, rfl, Nat.zero_le _, rfl, Below.refl _ _⟩
  case round =>
    obtain ⟨k, rfl, hk, rfl, hb⟩ := hrel
    have hsz := hb.size
    by_cases hp : k < l.length
    · obtain ⟨ad, rfl, hlt, hc⟩ := hcell (by omega)
      have hck : wr.cell? (ad.add k) = some (.string (mkS l[k])) := (hb.cell (by rw [addr_block]; exact hlt)).trans (hc k hp)
      have hln : (joinL b (l.take (k + 1))).length ≤ 1000000000 := Nat.le_trans (joinL_take_le b l (k + 1)) hl
      have HJ := Lib.hid (joinL_snoc b (l.take k) l[k])
      rw [← take_snocL l k hp] at HJ
      clear hc hcell
      by_cases h0 : k = 0
      · subst h0
        have hx1 : (mkS (joinL b [])).size ≤ 0 := by rw [mkS_size]; simp [joinL]
        have hx2 : (mkS l[0]).size ≤ 1000000000 := by
          rw [mkS_size]; rw [HJ.out, if_pos List.take_zero] at hln; exact hln
        have hck0 : wr.cell? ad = some (.string (mkS l[0])) := hck
        clear hck
        go_wp2
        go_roundw
        case rel => exact ⟨0 + 1, by go_num, by omega, by rw [HJ.out, if_pos List.take_zero, mkS_append]; rfl, hb⟩
        case measure => simp [intOf]; omega
      · have h0p : 0 < k := by omega
        have hlen : (joinL b (l.take k)).length + (l[k].length + 1) ≤ 1000000000 := by
          rw [HJ.out, if_neg (take_nil_iff l k hp h0p), List.length_append, List.length_cons] at hln; exact hln
        have hx1 : (mkS (joinL b (l.take k))).size + ((mkS l[k]).size + 1) ≤ 1000000000 := by rw [mkS_size, mkS_size]; exact hlen
        have hx2 : (one (b.toNat : Int)).size ≤ 1 := Nat.le_refl _
        have hx3 : (mkS (joinL b (l.take k)) ++ one (b.toNat : Int)).size ≤ (mkS (joinL b (l.take k))).size + 1 := by rw [ByteArray.size_append]; omega
        clear hlen
        have hck2 := fun o => (World.cell?_alloc_lt wr o (ad.add k) (by rw [addr_block]; omega)).trans hck
        clear hck
        go_wp2
        go_roundw
        case rel => exact ⟨k + 1, by go_num, by omega, by rw [HJ.out, if_neg (take_nil_iff l k hp h0p), one_mk, mkS_append, mkS_append, List.append_assoc]; rfl, hb.alloc hsz _⟩
        case measure => simp [intOf]; omega
    · obtain rfl : k = l.length := by omega
      go_wp2
      go_ret
      exact ⟨ret_str (by rw [List.take_length]), hb⟩

end Go.Proofs.Ytglbfknmeojfkaa
end

section
/-
  Slices of strings in the way of Rx: what linchpinref1's Split returns as an own block; literals; reading. No condition of its own.
-/
namespace Go.Proofs.Ytglbfknmeojfkaa
open Go.RowKit
set_option linter.unusedVariables false
set_option linter.unusedSimpArgs false

end Go.Proofs.Ytglbfknmeojfkaa
end
