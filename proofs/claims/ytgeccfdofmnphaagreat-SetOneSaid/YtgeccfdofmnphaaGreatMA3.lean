/-
  What the statements' proofs lean on, part 3: each part begins with a remark that says what it proves and on what conditions.
-/
import Derived.Tactics
import Derived.Lib.AppendZerosOnto
import Derived.Lib.SliceRun
import Derived.Outline
import Derived.Test.YtgeccfdofmnphaaGreatMA2

section
/-
  linchpinref4.put: a cut into its place among rising ones; what it hands back is the slice that came in, or a new one; of all other memory nothing is changed.
-/
namespace Go.Proofs.YtgeccfdofmnphaaGreat
open Go.RowKit
set_option maxRecDepth 100000
set_option linter.unusedVariables false
set_option linter.unusedSimpArgs false
set_option maxHeartbeats 2000000

theorem putL_at {c : Cu} : ∀ {l : List Cu} (k : Nat) (hk : k < l.length), (∀ x ∈ l.take k, cmpC x c < 0) → cmpC l[k] c = 0 → putL c l = l
  | [], k, hk, _, _ => by simp at hk
  | d :: r, 0, hk, _, h => by
    have h' : cmpC d c = 0 := h
    unfold putL
    rw [if_neg (by omega), if_pos h']
  | d :: r, k + 1, hk, ht, h => by
    have hd : cmpC d c < 0 := ht d (by simp)
    unfold putL
    rw [if_pos hd, putL_at (l := r) k (by simpa using hk) (fun x hx => ht x (by simp [hx])) h]
theorem putL_ins {c : Cu} : ∀ {l : List Cu} (k : Nat) (hk : k ≤ l.length), (∀ x ∈ l.take k, cmpC x c < 0) → (∀ h : k < l.length, ¬ cmpC l[k] c < 0 ∧ ¬ cmpC l[k] c = 0) → putL c l = l.take k ++ c :: l.drop k
  | [], k, hk, _, _ => by obtain rfl : k = 0 := by simpa using hk
                          rfl
  | d :: r, 0, hk, _, h => by
    have h' : ¬ cmpC d c < 0 ∧ ¬ cmpC d c = 0 := h (by simp)
    unfold putL
    rw [if_neg h'.1, if_neg h'.2]; rfl
  | d :: r, k + 1, hk, ht, h => by
    have hd : cmpC d c < 0 := ht d (by simp)
    unfold putL
    rw [if_pos hd, putL_ins (l := r) k (by simpa using hk) (fun x hx => ht x (by simp [hx])) (fun h0 => h (by simpa using h0))]; rfl
def cutC (s : Cu) : List Value := (cutV s).cells.toList
theorem cutC_len (s : Cu) : (cutC s).length = 7 := rfl
def ShortC (l : List Cu) : Prop := ∀ s ∈ l, s.short
/-- The value v is a slice of the cuts l that lies in ob. -/
def SlC (v : Value) (l : List Cu) (ob : List Blk) : Prop := Sl 48 7 v l.length (l.flatMap cutC) ob
theorem cutInfo : (Tryz.prog.info? 48).map (fun i => (i.zero.map (·.cells.size), i.size, i.bytes)) = some (some 7, 7, 72) := by kernel_rfl
theorem cut_info : ∃ i z, Tryz.prog.info? 48 = some i ∧ i.zero = some z ∧ i.size = 7 ∧ z.cells.size = 7 ∧ i.bytes = 72 := by
  have h := cutInfo
  cases hi : Tryz.prog.info? 48 with
  | none => rw [hi] at h; cases h
  | some i =>
    rw [hi] at h
    simp only [Option.map_some, Option.some.injEq, Prod.mk.injEq] at h
    cases hz : i.zero with
    | none => rw [hz] at h; simp at h
    | some z => rw [hz] at h; simp at h; exact ⟨i, z, rfl, hz, h.2.1, h.1, h.2.2⟩
theorem cut_cells (s : Cu) : ∀ u ∈ cutC s, u.oneCell' = true := by
  intro u hu
  unfold cutC cutV at hu
  simp only [Value.cells, List.mem_cons, List.not_mem_nil, or_false] at hu
  rcases hu with rfl | rfl | rfl | rfl | rfl | rfl | rfl <;> rfl
theorem cuts_cells (l : List Cu) : ∀ u ∈ l.flatMap cutC, u.oneCell' = true := fun u hu => by
  obtain ⟨x, _, hx⟩ := List.mem_flatMap.1 hu
  exact cut_cells x u hx
theorem flat_drop {α : Type} {g : α → List Value} {sz : Nat} (hg : ∀ x, (g x).length = sz) (l : List α) (k : Nat) (hk : k ≤ l.length) : (l.drop k).flatMap g = (l.flatMap g).drop (k * sz) := by
  have e : l.flatMap g = (l.take k).flatMap g ++ (l.drop k).flatMap g := by rw [← List.flatMap_append, List.take_append_drop]
  have e2 : ((l.take k).flatMap g).length = k * sz := by rw [flat_len hg, List.length_take, Nat.min_eq_left hk]
  rw [e, ← e2, List.drop_left]
theorem flat_take {α : Type} {g : α → List Value} {sz : Nat} (hg : ∀ x, (g x).length = sz) (l : List α) (k : Nat) (hk : k ≤ l.length) : (l.take k).flatMap g = (l.flatMap g).take (k * sz) := by
  have e : l.flatMap g = (l.take k).flatMap g ++ (l.drop k).flatMap g := by rw [← List.flatMap_append, List.take_append_drop]
  have e2 : ((l.take k).flatMap g).length = k * sz := by rw [flat_len hg, List.length_take, Nat.min_eq_left hk]
  rw [e, ← e2, List.take_left]
theorem head_cells {α : Type} {g : α → List Value} {sz : Nat} (hg : ∀ x, (g x).length = sz) {cur : Array Value} {l : List α} (ht : cur.toList.take (l.length * sz) = l.flatMap g) (k : Nat) (hk : k ≤ l.length) {j : Nat} {u : Value} (hj : ((l.take k).flatMap g)[j]? = some u) : cur[0 + j]? = some u := by
  rw [flat_take hg l k hk, ← ht, List.take_take, Nat.min_eq_left (Nat.mul_le_mul_right _ hk), List.getElem?_take] at hj
  split at hj
  · rw [Nat.zero_add]; simpa using hj
  · cases hj
theorem tail_cells {α : Type} {g : α → List Value} {sz : Nat} (hg : ∀ x, (g x).length = sz) {cur : Array Value} {l : List α} (ht : cur.toList.take (l.length * sz) = l.flatMap g) (k cap : Nat) (hk : k ≤ l.length) (hc : l.length ≤ cap) {j : Nat} {u : Value} (hj : ((l.drop k).flatMap g)[j]? = some u) : cur[(0 + if cap = k then 0 else k * sz) + j]? = some u := by
  by_cases h : cap = k
  · have : l.drop k = [] := List.drop_of_length_le (by omega)
    rw [this] at hj; simp at hj
  · rw [if_neg h, Nat.zero_add]
    rw [flat_drop hg l k hk, ← ht, List.getElem?_drop, List.getElem?_take] at hj
    split at hj
    · simpa using hj
    · cases hj
theorem Sl.to {T : TypeId} {sz : Nat} {v : Value} {n n' : Nat} {xs xs' : List Value} {ob : List Blk} (h : Sl T sz v n xs ob) (e : n = n') (e' : xs = xs') : Sl T sz v n' xs' ob := by subst e; subst e'; exact h

theorem put_any (A : Option Addr) (cap : Nat) (l : List Cu) (ob : List Blk) (c : Cu) (W : World) (hv : SlC (.slice A l.length cap) l ob) (hO : Own (ob.map Blk.b) W W ob) (h0 : 0 < l.length) (hn : l.length ≤ 3000000) (hl : ShortC l) (hc : c.short) :
    Calls Tryz.prog 118 #[.slice A l.length cap, cutV c] W fun e w' => ∃ v' ob', e = .returned v' ∧ SlC v' (putL c l) ob' ∧ Own (ob.map Blk.b) W w' ob' := by
  unfold SlC at hv ⊢
  obtain ⟨g, cur, rfl, rfl, hcap, hmax, hsz, hcur⟩ := hv.block h0
  refine calls_okL (n := 46) hO Tryz.func118 rfl (by kernel_rfl) (by kernel_rfl) ?_
  refine ok_seq ?_
  refine ok_region ?_
  refine s_box (cutV c) (by kernel_rfl) rfl (by kernel_rfl) (fun b1 => ?_)
  refine s_val (.slice none 0 0) (by kernel_rfl) (fun _ => by kernel_rfl) ?_
  refine s_nil ?_
  refine fin_seq ?_
  refine ok_seq ?_
  refine ok_region ?_
  refine s_val (.int .i64 0) (by kernel_rfl) (fun _ => by kernel_rfl) ?_
  refine s_nil ?_
  refine fin_seq ?_
  refine ok_seq ?_
  refine ok_block ?_
  refine ok_loop (fun L f m => ∃ (k : Nat) (j : Nat → Value), (k ≤ l.length ∧ ∀ x ∈ l.take k, cmpC x c < 0) ∧ L = [⟨b1, (cutV c).cells, 48⟩, ⟨g, cur, 48⟩] ∧ f = upds j [(0, .slice (some ⟨g, 0, none⟩) l.length cap), (3, .pointer (some ⟨b1, 0, none⟩)), (5, .int .i64 (k : Int))] ∧ m = l.length - k) (l.length - 0) ⟨0, _, ⟨Nat.zero_le _, by simp⟩, rfl, upds_self _ ⟨by kernel_rfl, by kernel_rfl, by kernel_rfl, trivial⟩, rfl⟩ ?_
  rintro L f m ⟨k, j, hrel, rfl, rfl, rfl⟩
  have hkl := hrel.1
  refine ok_seq ?_
  refine ok_seq ?_
  refine ok_draw (by kernel_rfl) (by kernel_rfl) ?_
  refine q_val (.int .i64 (k : Int)) (by kernel_rfl) (fun _ => by kernel_rfl) ?_
  refine q_val (.slice (some ⟨g, 0, none⟩) l.length cap) (by kernel_rfl) (fun _ => by kernel_rfl) ?_
  refine q_val (.int .i64 (l.length : Int)) (by kernel_rfl) (fun _ => by kernel_rfl) ?_
  by_cases h1 : (k : Int) < (l.length : Int)
  · skip
    have hk : k < l.length := by omega
    obtain ⟨s, hs⟩ : ∃ s, l[k] = s := ⟨_, rfl⟩
    have hsk : s.short := hs ▸ hl _ (List.getElem_mem _)
    refine q_dec (p := (k : Int) < (l.length : Int)) true (by kernel_rfl) (fun _ => by kernel_rfl) (decide_eq_true (h1)) ?_
    refine q_val (.bool true) (by kernel_rfl) (fun _ => by kernel_rfl) ?_
    refine q_val (.slice (some ⟨g, 0, none⟩) l.length cap) (by kernel_rfl) (fun _ => by kernel_rfl) ?_
    refine q_val (.int .i64 (k : Int)) (by kernel_rfl) (fun _ => by kernel_rfl) ?_
    refine q_val (.pointer (some ⟨g, k * 7, none⟩)) (by kernel_rfl) (run_ixsl (b := g) (off := 0) (n := l.length) (c := cap) (k := .i64) (j := (k : Int)) (e := 48) (sz := 7) rfl (by kernel_rfl) (by kernel_rfl) (by kernel_rfl) (by kernel_rfl) (by omega) (by omega) (by show 0 + k * 7 = k * 7; omega)) ?_
    refine q_load 1 ⟨g, cur, 48⟩ (off := k * 7) (cutV s) (by kernel_rfl) rfl (by kernel_rfl) (by kernel_rfl) (read_part cutC_len hcur k 0 (by omega) (by omega) _ (by rw [hs]; kernel_rfl)) ?_
    refine q_load 0 ⟨b1, (cutV c).cells, 48⟩ (off := 0) (cutV c) (by kernel_rfl) rfl (by kernel_rfl) (by kernel_rfl) (by kernel_rfl) ?_
    refine q_call (k := 85) (args := #[cutV s, cutV c]) (.int .i64 (cmpC s c)) (by kernel_rfl) (fun _ => by kernel_rfl) (fun w _ => rcmpC_any s c w hsk hc) ?_
    by_cases h2 : (cmpC s c : Int) < 0
    · skip
      refine q_dec (p := (cmpC s c : Int) < 0) true (by kernel_rfl) (fun _ => by kernel_rfl) (decide_eq_true (h2)) ?_
      refine q_val (.bool true) (by kernel_rfl) (fun _ => by kernel_rfl) ?_
      refine q_nil ?_
      refine fin_seq ?_
      refine ok_true (by kernel_rfl) ?_
      refine ok_skip ?_
      refine fin_seq ?_
      refine ok_block ?_
      refine ok_region ?_
      refine s_val (.int .i64 (k : Int)) (by kernel_rfl) (fun _ => by kernel_rfl) ?_
      refine s_sum (k := .i64) (((k + 1 : Nat) : Int)) (by kernel_rfl) (fun _ => by kernel_rfl) (IntWalk.i64_in _ (by omega)) ?_
      refine s_val (.int .i64 ((k + 1 : Nat) : Int)) (by kernel_rfl) (fun _ => by kernel_rfl) ?_
      refine s_nil ?_
      refine fin_block ?_
      have hnext : ∀ x ∈ l.take (k + 1), cmpC x c < 0 := by rw [List.take_succ_eq_append_getElem hk, hs]; intro x hx; rcases List.mem_append.1 hx with h | h; exact hrel.2 x h; obtain rfl : x = s := by simpa using h
                                                            assumption
      exact fin_round (m' := l.length - (k + 1)) (by omega) ⟨k + 1, _, ⟨by omega, hnext⟩, rfl, upds_self _ ⟨by kernel_rfl, by kernel_rfl, by kernel_rfl, trivial⟩, rfl⟩
    · skip
      refine q_dec (p := (cmpC s c : Int) < 0) false (by kernel_rfl) (fun _ => by kernel_rfl) (decide_eq_false (h2)) ?_
      refine q_val (.bool false) (by kernel_rfl) (fun _ => by kernel_rfl) ?_
      refine q_nil ?_
      refine fin_seq ?_
      refine ok_false (by kernel_rfl) ?_
      refine ok_exit ?_
      refine fin_seq_exit ?_
      refine fin_round_exit ?_
      refine fin_block_exit ?_
      refine fin_seq ?_
      refine ok_seq ?_
      refine ok_seq ?_
      refine ok_draw (by kernel_rfl) (by kernel_rfl) ?_
      refine q_val (.int .i64 (k : Int)) (by kernel_rfl) (fun _ => by kernel_rfl) ?_
      refine q_val (.slice (some ⟨g, 0, none⟩) l.length cap) (by kernel_rfl) (fun _ => by kernel_rfl) ?_
      refine q_val (.int .i64 (l.length : Int)) (by kernel_rfl) (fun _ => by kernel_rfl) ?_
      refine q_dec (p := (k : Int) < (l.length : Int)) true (by kernel_rfl) (fun _ => by kernel_rfl) (decide_eq_true (h1)) ?_
      refine q_val (.bool true) (by kernel_rfl) (fun _ => by kernel_rfl) ?_
      refine q_val (.slice (some ⟨g, 0, none⟩) l.length cap) (by kernel_rfl) (fun _ => by kernel_rfl) ?_
      refine q_val (.int .i64 (k : Int)) (by kernel_rfl) (fun _ => by kernel_rfl) ?_
      refine q_val (.pointer (some ⟨g, k * 7, none⟩)) (by kernel_rfl) (run_ixsl (b := g) (off := 0) (n := l.length) (c := cap) (k := .i64) (j := (k : Int)) (e := 48) (sz := 7) rfl (by kernel_rfl) (by kernel_rfl) (by kernel_rfl) (by kernel_rfl) (by omega) (by omega) (by show 0 + k * 7 = k * 7; omega)) ?_
      refine q_load 1 ⟨g, cur, 48⟩ (off := k * 7) (cutV s) (by kernel_rfl) rfl (by kernel_rfl) (by kernel_rfl) (read_part cutC_len hcur k 0 (by omega) (by omega) _ (by rw [hs]; kernel_rfl)) ?_
      refine q_load 0 ⟨b1, (cutV c).cells, 48⟩ (off := 0) (cutV c) (by kernel_rfl) rfl (by kernel_rfl) (by kernel_rfl) (by kernel_rfl) ?_
      refine q_call (k := 85) (args := #[cutV s, cutV c]) (.int .i64 (cmpC s c)) (by kernel_rfl) (fun _ => by kernel_rfl) (fun w _ => rcmpC_any s c w hsk hc) ?_
      by_cases h3 : (cmpC s c : Int) = 0
      · skip
        refine q_dec (p := (cmpC s c : Int) = 0) true (by kernel_rfl) (fun _ => by kernel_rfl) (decide_eq_true (h3)) ?_
        refine q_val (.bool true) (by kernel_rfl) (fun _ => by kernel_rfl) ?_
        refine q_nil ?_
        refine fin_seq ?_
        refine ok_true (by kernel_rfl) ?_
        refine ok_seq ?_
        refine ok_region ?_
        refine s_val (.slice (some ⟨g, 0, none⟩) l.length cap) (by kernel_rfl) (fun _ => by kernel_rfl) ?_
        refine s_val (.slice (some ⟨g, 0, none⟩) l.length cap) (by kernel_rfl) (fun _ => by kernel_rfl) ?_
        refine s_nil ?_
        refine fin_seq ?_
        refine ok_ret ?_
        refine fin_seq_ret ?_
        refine fin_ret (.slice (some ⟨g, 0, none⟩) l.length cap) Tryz.results118 (by kernel_rfl) ?_
        refine fun w hO => ⟨_, [⟨g, cur, 48⟩], rfl, ?_, Own.take hO (fun x hx => by simp only [List.mem_singleton] at hx; subst hx; simp) (by simp)⟩
        rw [putL_at k hk hrel.2 (by rw [hs]; assumption)]; exact hv
      · skip
        refine q_dec (p := (cmpC s c : Int) = 0) false (by kernel_rfl) (fun _ => by kernel_rfl) (decide_eq_false (h3)) ?_
        refine q_val (.bool false) (by kernel_rfl) (fun _ => by kernel_rfl) ?_
        refine q_nil ?_
        refine fin_seq ?_
        refine ok_false (by kernel_rfl) ?_
        refine ok_skip ?_
        refine fin_seq ?_
        refine ok_seq ?_
        obtain ⟨i, z, e1, e2, e3, e4, e5⟩ := cut_info
        refine ok_anyhL [⟨b1, (cutV c).cells, 48⟩, ⟨g, cur, 48⟩] (by kernel_rfl) (fun w hO => hO) ?_
        refine hl_take 0 _ (.slice (some ⟨g, 0, none⟩) l.length cap) rfl (by kernel_rfl) (by kernel_rfl) (by kernel_rfl) (pq_seq pq_body) (fun w hO => hO) (by kernel_rfl) (fun _ _ => by kernel_rfl) ?_
        refine hl_take 1 _ (.int .i64 (k : Int)) rfl (by kernel_rfl) (by kernel_rfl) (by kernel_rfl) (pq_seq pq_body) (fun w hO => hO) (by kernel_rfl) (fun _ _ => by kernel_rfl) ?_
        refine hl_take 2 _ (.slice (some ⟨g, 0, none⟩) k cap) rfl (by kernel_rfl) (by kernel_rfl) (by kernel_rfl) (pq_seq pq_body) (fun w hO => hO) (by kernel_rfl) (fun w _ => run_slhi (b := g) (off := 0) (n := l.length) (c := cap) (k := .i64) (j := (k : Int)) (e := 48) (sz := 7) rfl (by kernel_rfl) (by kernel_rfl) (by kernel_rfl) (by kernel_rfl) (by omega) (by omega) w) ?_
        refine hl_load 4 _ 0 ⟨b1, (cutV c).cells, 48⟩ (off := 0) (cutV c) rfl (by kernel_rfl) (by kernel_rfl) (by kernel_rfl) (pq_seq pq_body) (fun w hO => hO) (by kernel_rfl) rfl rfl (by kernel_rfl) (by kernel_rfl) ?_
        refine hl_take 7 _ (.slice (some ⟨g, 0, none⟩) l.length cap) rfl (by kernel_rfl) (by kernel_rfl) (by kernel_rfl) (pq_seq pq_body) (fun w hO => hO) (by kernel_rfl) (fun _ _ => by kernel_rfl) ?_
        refine hl_take 8 _ (.int .i64 (k : Int)) rfl (by kernel_rfl) (by kernel_rfl) (by kernel_rfl) (pq_seq pq_body) (fun w hO => hO) (by kernel_rfl) (fun _ _ => by kernel_rfl) ?_
        refine hl_take 9 _ (.slice (some ⟨g, 0 + (if cap = k then 0 else k * 7), none⟩) (l.length - k) (cap - k)) rfl (by kernel_rfl) (by kernel_rfl) (by kernel_rfl) (pq_seq pq_body) (fun w hO => hO) (by kernel_rfl) (fun w _ => run_sllo (b := g) (off := 0) (n := l.length) (c := cap) (k := .i64) (j := (k : Int)) (e := 48) (sz := 7) rfl (by kernel_rfl) (by kernel_rfl) (by kernel_rfl) (by kernel_rfl) (by omega) (by omega) w) ?_
        refine h_cast (L' := [] ++ [] ++ [⟨b1, (cutV c).cells, 48⟩, ⟨g, cur, 48⟩]) rfl ?_
        refine h_two 3 5 (by kernel_rfl) ?_ ?_
        · skip
          refine hl_append (E := []) (ob := []) (R := [⟨b1, (cutV c).cells, 48⟩, ⟨g, cur, 48⟩]) (sz := 7) _ rfl (by kernel_rfl) rfl Tryz.underlying70 e1 e2 e3 e4 (by kernel_rfl) (Sl.nil 48 7) (a := ⟨g, 0, none⟩) (m := k) (c := cap) (news := (l.take k).flatMap cutC) (by kernel_rfl) (by rw [flat_len cutC_len, List.length_take, Nat.min_eq_left (by omega)]) (fun w hO j u hj => ?_) (cuts_cells _) (by unfold maxLen; omega) (by rw [e5]; omega) (fun ob' w hO => Own.sub ([] ++ ob') hO) (fun va oa hva => ?_)
          · rw [add_off, cell_of_row w g (0 + j) cur 48 _ (hO.held ⟨g, cur, 48⟩ (by simp))]; exact head_cells cutC_len hcur k (by omega) hj
          refine h_one 5 (by kernel_rfl) ?_
          refine hl_lit _ 48 #[.int .i64 c.e, .int .i64 c.v.maj, .int .i64 c.v.min, .int .i64 c.v.pat, .string (mkS c.v.pre), .string (mkS c.v.build), .bool c.aft] rfl (by kernel_rfl) rfl (fun w hO => Own.sub ([] ++ oa) hO) (fun _ => by kernel_rfl) (fun b2 => ?_)
          refine h_cast (L' := [⟨b2, #[.int .i64 c.e, .int .i64 c.v.maj, .int .i64 c.v.min, .int .i64 c.v.pat, .string (mkS c.v.pre), .string (mkS c.v.build), .bool c.aft], 48⟩] ++ oa ++ [⟨b1, (cutV c).cells, 48⟩, ⟨g, cur, 48⟩]) (by simp) ?_
          refine h_one 6 (by kernel_rfl) ?_
          refine hl_append (E := [⟨b2, #[.int .i64 c.e, .int .i64 c.v.maj, .int .i64 c.v.min, .int .i64 c.v.pat, .string (mkS c.v.pre), .string (mkS c.v.build), .bool c.aft], 48⟩]) (ob := oa) (R := [⟨b1, (cutV c).cells, 48⟩, ⟨g, cur, 48⟩]) (sz := 7) _ rfl (by kernel_rfl) rfl Tryz.underlying70 e1 e2 e3 e4 (by kernel_rfl) hva (a := ⟨b2, 0, none⟩) (m := 1) (c := 1) (news := cutC c) (by kernel_rfl) (rfl) (fun w hO j u hj => ?_) (cut_cells _) (by unfold maxLen; omega) (by rw [e5]; omega) (fun ob' w hO => Own.sub ([⟨b2, #[.int .i64 c.e, .int .i64 c.v.maj, .int .i64 c.v.min, .int .i64 c.v.pat, .string (mkS c.v.pre), .string (mkS c.v.build), .bool c.aft], 48⟩] ++ ob') hO) (fun vb oq hvb => ?_)
          · rw [add_off, cell_of_row w b2 (0 + j) (cutC c).toArray 48 _ (hO.held ⟨b2, (cutC c).toArray, 48⟩ (List.mem_append_left _ (List.mem_append_left _ (List.mem_cons_self ..))))]; simpa using hj
          refine h_one 10 (by kernel_rfl) ?_
          refine hl_append (E := [⟨b2, #[.int .i64 c.e, .int .i64 c.v.maj, .int .i64 c.v.min, .int .i64 c.v.pat, .string (mkS c.v.pre), .string (mkS c.v.build), .bool c.aft], 48⟩]) (ob := oq) (R := [⟨b1, (cutV c).cells, 48⟩, ⟨g, cur, 48⟩]) (sz := 7) _ rfl (by kernel_rfl) rfl Tryz.underlying70 e1 e2 e3 e4 (by kernel_rfl) hvb (a := ⟨g, 0 + (if cap = k then 0 else k * 7), none⟩) (m := l.length - k) (c := cap - k) (news := (l.drop k).flatMap cutC) (by kernel_rfl) (by rw [flat_len cutC_len, List.length_drop]) (fun w hO j u hj => ?_) (cuts_cells _) (by unfold maxLen; omega) (by rw [e5]; omega) (fun ob' w hO => Own.sub ([⟨b2, #[.int .i64 c.e, .int .i64 c.v.maj, .int .i64 c.v.min, .int .i64 c.v.pat, .string (mkS c.v.pre), .string (mkS c.v.build), .bool c.aft], 48⟩] ++ ob') hO) (fun vc oc hvc => ?_)
          · rw [add_off, cell_of_row w g _ cur 48 _ (hO.held ⟨g, cur, 48⟩ (by simp))]; exact tail_cells cutC_len hcur k cap (by omega) hcap hj
          refine hl_take 11 _ vc rfl (by kernel_rfl) (by kernel_rfl) (by kernel_rfl) (pq_seq pq_body) (fun w hO => Own.sub ([⟨b2, #[.int .i64 c.e, .int .i64 c.v.maj, .int .i64 c.v.min, .int .i64 c.v.pat, .string (mkS c.v.pre), .string (mkS c.v.build), .bool c.aft], 48⟩] ++ oc) hO) (by kernel_rfl) (fun _ _ => by kernel_rfl) ?_
          refine h_done (by kernel_rfl) ?_
          refine fin_seq ?_
          refine ok_ret ?_
          refine fin_ret (vc) Tryz.results118 (by kernel_rfl) ?_
          refine fun w hO => ⟨vc, oc, rfl, ?_, Own.take hO (fun x hx => List.mem_append_left _ (List.mem_append_right _ hx)) ?_⟩
          · rw [putL_ins k (by omega) hrel.2 (fun h => by first | omega | (rw [hs]; exact ⟨by assumption, by assumption⟩))]
            exact hvc.to (by simp; omega) (by simp)
          · have := hO.apart; rw [List.map_append, List.map_append, List.nodup_append] at this; exact (List.nodup_append.1 this.1).2.1
        · skip
          refine hl_lit _ 48 #[.int .i64 c.e, .int .i64 c.v.maj, .int .i64 c.v.min, .int .i64 c.v.pat, .string (mkS c.v.pre), .string (mkS c.v.build), .bool c.aft] rfl (by kernel_rfl) rfl (fun w hO => hO) (fun _ => by kernel_rfl) (fun b2 => ?_)
          refine h_cast (L' := [⟨b2, #[.int .i64 c.e, .int .i64 c.v.maj, .int .i64 c.v.min, .int .i64 c.v.pat, .string (mkS c.v.pre), .string (mkS c.v.build), .bool c.aft], 48⟩] ++ [] ++ [⟨b1, (cutV c).cells, 48⟩, ⟨g, cur, 48⟩]) rfl ?_
          refine h_one 3 (by kernel_rfl) ?_
          refine hl_append (E := [⟨b2, #[.int .i64 c.e, .int .i64 c.v.maj, .int .i64 c.v.min, .int .i64 c.v.pat, .string (mkS c.v.pre), .string (mkS c.v.build), .bool c.aft], 48⟩]) (ob := []) (R := [⟨b1, (cutV c).cells, 48⟩, ⟨g, cur, 48⟩]) (sz := 7) _ rfl (by kernel_rfl) rfl Tryz.underlying70 e1 e2 e3 e4 (by kernel_rfl) (Sl.nil 48 7) (a := ⟨g, 0, none⟩) (m := k) (c := cap) (news := (l.take k).flatMap cutC) (by kernel_rfl) (by rw [flat_len cutC_len, List.length_take, Nat.min_eq_left (by omega)]) (fun w hO j u hj => ?_) (cuts_cells _) (by unfold maxLen; omega) (by rw [e5]; omega) (fun ob' w hO => Own.sub ([⟨b2, #[.int .i64 c.e, .int .i64 c.v.maj, .int .i64 c.v.min, .int .i64 c.v.pat, .string (mkS c.v.pre), .string (mkS c.v.build), .bool c.aft], 48⟩] ++ ob') hO) (fun va oa hva => ?_)
          · rw [add_off, cell_of_row w g (0 + j) cur 48 _ (hO.held ⟨g, cur, 48⟩ (by simp))]; exact head_cells cutC_len hcur k (by omega) hj
          refine h_one 6 (by kernel_rfl) ?_
          refine hl_append (E := [⟨b2, #[.int .i64 c.e, .int .i64 c.v.maj, .int .i64 c.v.min, .int .i64 c.v.pat, .string (mkS c.v.pre), .string (mkS c.v.build), .bool c.aft], 48⟩]) (ob := oa) (R := [⟨b1, (cutV c).cells, 48⟩, ⟨g, cur, 48⟩]) (sz := 7) _ rfl (by kernel_rfl) rfl Tryz.underlying70 e1 e2 e3 e4 (by kernel_rfl) hva (a := ⟨b2, 0, none⟩) (m := 1) (c := 1) (news := cutC c) (by kernel_rfl) (rfl) (fun w hO j u hj => ?_) (cut_cells _) (by unfold maxLen; omega) (by rw [e5]; omega) (fun ob' w hO => Own.sub ([⟨b2, #[.int .i64 c.e, .int .i64 c.v.maj, .int .i64 c.v.min, .int .i64 c.v.pat, .string (mkS c.v.pre), .string (mkS c.v.build), .bool c.aft], 48⟩] ++ ob') hO) (fun vb oq hvb => ?_)
          · rw [add_off, cell_of_row w b2 (0 + j) (cutC c).toArray 48 _ (hO.held ⟨b2, (cutC c).toArray, 48⟩ (List.mem_append_left _ (List.mem_append_left _ (List.mem_cons_self ..))))]; simpa using hj
          refine h_one 10 (by kernel_rfl) ?_
          refine hl_append (E := [⟨b2, #[.int .i64 c.e, .int .i64 c.v.maj, .int .i64 c.v.min, .int .i64 c.v.pat, .string (mkS c.v.pre), .string (mkS c.v.build), .bool c.aft], 48⟩]) (ob := oq) (R := [⟨b1, (cutV c).cells, 48⟩, ⟨g, cur, 48⟩]) (sz := 7) _ rfl (by kernel_rfl) rfl Tryz.underlying70 e1 e2 e3 e4 (by kernel_rfl) hvb (a := ⟨g, 0 + (if cap = k then 0 else k * 7), none⟩) (m := l.length - k) (c := cap - k) (news := (l.drop k).flatMap cutC) (by kernel_rfl) (by rw [flat_len cutC_len, List.length_drop]) (fun w hO j u hj => ?_) (cuts_cells _) (by unfold maxLen; omega) (by rw [e5]; omega) (fun ob' w hO => Own.sub ([⟨b2, #[.int .i64 c.e, .int .i64 c.v.maj, .int .i64 c.v.min, .int .i64 c.v.pat, .string (mkS c.v.pre), .string (mkS c.v.build), .bool c.aft], 48⟩] ++ ob') hO) (fun vc oc hvc => ?_)
          · rw [add_off, cell_of_row w g _ cur 48 _ (hO.held ⟨g, cur, 48⟩ (by simp))]; exact tail_cells cutC_len hcur k cap (by omega) hcap hj
          refine hl_take 11 _ vc rfl (by kernel_rfl) (by kernel_rfl) (by kernel_rfl) (pq_seq pq_body) (fun w hO => Own.sub ([⟨b2, #[.int .i64 c.e, .int .i64 c.v.maj, .int .i64 c.v.min, .int .i64 c.v.pat, .string (mkS c.v.pre), .string (mkS c.v.build), .bool c.aft], 48⟩] ++ oc) hO) (by kernel_rfl) (fun _ _ => by kernel_rfl) ?_
          refine h_done (by kernel_rfl) ?_
          refine fin_seq ?_
          refine ok_ret ?_
          refine fin_ret (vc) Tryz.results118 (by kernel_rfl) ?_
          refine fun w hO => ⟨vc, oc, rfl, ?_, Own.take hO (fun x hx => List.mem_append_left _ (List.mem_append_right _ hx)) ?_⟩
          · rw [putL_ins k (by omega) hrel.2 (fun h => by first | omega | (rw [hs]; exact ⟨by assumption, by assumption⟩))]
            exact hvc.to (by simp; omega) (by simp)
          · have := hO.apart; rw [List.map_append, List.map_append, List.nodup_append] at this; exact (List.nodup_append.1 this.1).2.1
  · skip
    refine q_dec (p := (k : Int) < (l.length : Int)) false (by kernel_rfl) (fun _ => by kernel_rfl) (decide_eq_false (h1)) ?_
    refine q_val (.bool false) (by kernel_rfl) (fun _ => by kernel_rfl) ?_
    refine q_skip (by kernel_rfl) ?_
    refine q_skip (by kernel_rfl) ?_
    refine q_skip (by kernel_rfl) ?_
    refine q_skip (by kernel_rfl) ?_
    refine q_skip (by kernel_rfl) ?_
    refine q_skip (by kernel_rfl) ?_
    refine q_skip (by kernel_rfl) ?_
    refine q_val (.bool false) (by kernel_rfl) (fun _ => by kernel_rfl) ?_
    refine q_nil ?_
    refine fin_seq ?_
    refine ok_false (by kernel_rfl) ?_
    refine ok_exit ?_
    refine fin_seq_exit ?_
    refine fin_round_exit ?_
    refine fin_block_exit ?_
    refine fin_seq ?_
    refine ok_seq ?_
    refine ok_seq ?_
    refine ok_draw (by kernel_rfl) (by kernel_rfl) ?_
    refine q_val (.int .i64 (k : Int)) (by kernel_rfl) (fun _ => by kernel_rfl) ?_
    refine q_val (.slice (some ⟨g, 0, none⟩) l.length cap) (by kernel_rfl) (fun _ => by kernel_rfl) ?_
    refine q_val (.int .i64 (l.length : Int)) (by kernel_rfl) (fun _ => by kernel_rfl) ?_
    refine q_dec (p := (k : Int) < (l.length : Int)) false (by kernel_rfl) (fun _ => by kernel_rfl) (decide_eq_false (h1)) ?_
    refine q_val (.bool false) (by kernel_rfl) (fun _ => by kernel_rfl) ?_
    refine q_skip (by kernel_rfl) ?_
    refine q_skip (by kernel_rfl) ?_
    refine q_skip (by kernel_rfl) ?_
    refine q_skip (by kernel_rfl) ?_
    refine q_skip (by kernel_rfl) ?_
    refine q_skip (by kernel_rfl) ?_
    refine q_skip (by kernel_rfl) ?_
    refine q_val (.bool false) (by kernel_rfl) (fun _ => by kernel_rfl) ?_
    refine q_nil ?_
    refine fin_seq ?_
    refine ok_false (by kernel_rfl) ?_
    refine ok_skip ?_
    refine fin_seq ?_
    refine ok_seq ?_
    obtain ⟨i, z, e1, e2, e3, e4, e5⟩ := cut_info
    refine ok_anyhL [⟨b1, (cutV c).cells, 48⟩, ⟨g, cur, 48⟩] (by kernel_rfl) (fun w hO => hO) ?_
    refine hl_take 0 _ (.slice (some ⟨g, 0, none⟩) l.length cap) rfl (by kernel_rfl) (by kernel_rfl) (by kernel_rfl) (pq_seq pq_body) (fun w hO => hO) (by kernel_rfl) (fun _ _ => by kernel_rfl) ?_
    refine hl_take 1 _ (.int .i64 (k : Int)) rfl (by kernel_rfl) (by kernel_rfl) (by kernel_rfl) (pq_seq pq_body) (fun w hO => hO) (by kernel_rfl) (fun _ _ => by kernel_rfl) ?_
    refine hl_take 2 _ (.slice (some ⟨g, 0, none⟩) k cap) rfl (by kernel_rfl) (by kernel_rfl) (by kernel_rfl) (pq_seq pq_body) (fun w hO => hO) (by kernel_rfl) (fun w _ => run_slhi (b := g) (off := 0) (n := l.length) (c := cap) (k := .i64) (j := (k : Int)) (e := 48) (sz := 7) rfl (by kernel_rfl) (by kernel_rfl) (by kernel_rfl) (by kernel_rfl) (by omega) (by omega) w) ?_
    refine hl_load 4 _ 0 ⟨b1, (cutV c).cells, 48⟩ (off := 0) (cutV c) rfl (by kernel_rfl) (by kernel_rfl) (by kernel_rfl) (pq_seq pq_body) (fun w hO => hO) (by kernel_rfl) rfl rfl (by kernel_rfl) (by kernel_rfl) ?_
    refine hl_take 7 _ (.slice (some ⟨g, 0, none⟩) l.length cap) rfl (by kernel_rfl) (by kernel_rfl) (by kernel_rfl) (pq_seq pq_body) (fun w hO => hO) (by kernel_rfl) (fun _ _ => by kernel_rfl) ?_
    refine hl_take 8 _ (.int .i64 (k : Int)) rfl (by kernel_rfl) (by kernel_rfl) (by kernel_rfl) (pq_seq pq_body) (fun w hO => hO) (by kernel_rfl) (fun _ _ => by kernel_rfl) ?_
    refine hl_take 9 _ (.slice (some ⟨g, 0 + (if cap = k then 0 else k * 7), none⟩) (l.length - k) (cap - k)) rfl (by kernel_rfl) (by kernel_rfl) (by kernel_rfl) (pq_seq pq_body) (fun w hO => hO) (by kernel_rfl) (fun w _ => run_sllo (b := g) (off := 0) (n := l.length) (c := cap) (k := .i64) (j := (k : Int)) (e := 48) (sz := 7) rfl (by kernel_rfl) (by kernel_rfl) (by kernel_rfl) (by kernel_rfl) (by omega) (by omega) w) ?_
    refine h_cast (L' := [] ++ [] ++ [⟨b1, (cutV c).cells, 48⟩, ⟨g, cur, 48⟩]) rfl ?_
    refine h_two 3 5 (by kernel_rfl) ?_ ?_
    · skip
      refine hl_append (E := []) (ob := []) (R := [⟨b1, (cutV c).cells, 48⟩, ⟨g, cur, 48⟩]) (sz := 7) _ rfl (by kernel_rfl) rfl Tryz.underlying70 e1 e2 e3 e4 (by kernel_rfl) (Sl.nil 48 7) (a := ⟨g, 0, none⟩) (m := k) (c := cap) (news := (l.take k).flatMap cutC) (by kernel_rfl) (by rw [flat_len cutC_len, List.length_take, Nat.min_eq_left (by omega)]) (fun w hO j u hj => ?_) (cuts_cells _) (by unfold maxLen; omega) (by rw [e5]; omega) (fun ob' w hO => Own.sub ([] ++ ob') hO) (fun va oa hva => ?_)
      · rw [add_off, cell_of_row w g (0 + j) cur 48 _ (hO.held ⟨g, cur, 48⟩ (by simp))]; exact head_cells cutC_len hcur k (by omega) hj
      refine h_one 5 (by kernel_rfl) ?_
      refine hl_lit _ 48 #[.int .i64 c.e, .int .i64 c.v.maj, .int .i64 c.v.min, .int .i64 c.v.pat, .string (mkS c.v.pre), .string (mkS c.v.build), .bool c.aft] rfl (by kernel_rfl) rfl (fun w hO => Own.sub ([] ++ oa) hO) (fun _ => by kernel_rfl) (fun b2 => ?_)
      refine h_cast (L' := [⟨b2, #[.int .i64 c.e, .int .i64 c.v.maj, .int .i64 c.v.min, .int .i64 c.v.pat, .string (mkS c.v.pre), .string (mkS c.v.build), .bool c.aft], 48⟩] ++ oa ++ [⟨b1, (cutV c).cells, 48⟩, ⟨g, cur, 48⟩]) (by simp) ?_
      refine h_one 6 (by kernel_rfl) ?_
      refine hl_append (E := [⟨b2, #[.int .i64 c.e, .int .i64 c.v.maj, .int .i64 c.v.min, .int .i64 c.v.pat, .string (mkS c.v.pre), .string (mkS c.v.build), .bool c.aft], 48⟩]) (ob := oa) (R := [⟨b1, (cutV c).cells, 48⟩, ⟨g, cur, 48⟩]) (sz := 7) _ rfl (by kernel_rfl) rfl Tryz.underlying70 e1 e2 e3 e4 (by kernel_rfl) hva (a := ⟨b2, 0, none⟩) (m := 1) (c := 1) (news := cutC c) (by kernel_rfl) (rfl) (fun w hO j u hj => ?_) (cut_cells _) (by unfold maxLen; omega) (by rw [e5]; omega) (fun ob' w hO => Own.sub ([⟨b2, #[.int .i64 c.e, .int .i64 c.v.maj, .int .i64 c.v.min, .int .i64 c.v.pat, .string (mkS c.v.pre), .string (mkS c.v.build), .bool c.aft], 48⟩] ++ ob') hO) (fun vb oq hvb => ?_)
      · rw [add_off, cell_of_row w b2 (0 + j) (cutC c).toArray 48 _ (hO.held ⟨b2, (cutC c).toArray, 48⟩ (List.mem_append_left _ (List.mem_append_left _ (List.mem_cons_self ..))))]; simpa using hj
      refine h_one 10 (by kernel_rfl) ?_
      refine hl_append (E := [⟨b2, #[.int .i64 c.e, .int .i64 c.v.maj, .int .i64 c.v.min, .int .i64 c.v.pat, .string (mkS c.v.pre), .string (mkS c.v.build), .bool c.aft], 48⟩]) (ob := oq) (R := [⟨b1, (cutV c).cells, 48⟩, ⟨g, cur, 48⟩]) (sz := 7) _ rfl (by kernel_rfl) rfl Tryz.underlying70 e1 e2 e3 e4 (by kernel_rfl) hvb (a := ⟨g, 0 + (if cap = k then 0 else k * 7), none⟩) (m := l.length - k) (c := cap - k) (news := (l.drop k).flatMap cutC) (by kernel_rfl) (by rw [flat_len cutC_len, List.length_drop]) (fun w hO j u hj => ?_) (cuts_cells _) (by unfold maxLen; omega) (by rw [e5]; omega) (fun ob' w hO => Own.sub ([⟨b2, #[.int .i64 c.e, .int .i64 c.v.maj, .int .i64 c.v.min, .int .i64 c.v.pat, .string (mkS c.v.pre), .string (mkS c.v.build), .bool c.aft], 48⟩] ++ ob') hO) (fun vc oc hvc => ?_)
      · rw [add_off, cell_of_row w g _ cur 48 _ (hO.held ⟨g, cur, 48⟩ (by simp))]; exact tail_cells cutC_len hcur k cap (by omega) hcap hj
      refine hl_take 11 _ vc rfl (by kernel_rfl) (by kernel_rfl) (by kernel_rfl) (pq_seq pq_body) (fun w hO => Own.sub ([⟨b2, #[.int .i64 c.e, .int .i64 c.v.maj, .int .i64 c.v.min, .int .i64 c.v.pat, .string (mkS c.v.pre), .string (mkS c.v.build), .bool c.aft], 48⟩] ++ oc) hO) (by kernel_rfl) (fun _ _ => by kernel_rfl) ?_
      refine h_done (by kernel_rfl) ?_
      refine fin_seq ?_
      refine ok_ret ?_
      refine fin_ret (vc) Tryz.results118 (by kernel_rfl) ?_
      refine fun w hO => ⟨vc, oc, rfl, ?_, Own.take hO (fun x hx => List.mem_append_left _ (List.mem_append_right _ hx)) ?_⟩
      · rw [putL_ins k (by omega) hrel.2 (fun h => by first | omega | (rw [hs]; exact ⟨by assumption, by assumption⟩))]
        exact hvc.to (by simp; omega) (by simp)
      · have := hO.apart; rw [List.map_append, List.map_append, List.nodup_append] at this; exact (List.nodup_append.1 this.1).2.1
    · skip
      refine hl_lit _ 48 #[.int .i64 c.e, .int .i64 c.v.maj, .int .i64 c.v.min, .int .i64 c.v.pat, .string (mkS c.v.pre), .string (mkS c.v.build), .bool c.aft] rfl (by kernel_rfl) rfl (fun w hO => hO) (fun _ => by kernel_rfl) (fun b2 => ?_)
      refine h_cast (L' := [⟨b2, #[.int .i64 c.e, .int .i64 c.v.maj, .int .i64 c.v.min, .int .i64 c.v.pat, .string (mkS c.v.pre), .string (mkS c.v.build), .bool c.aft], 48⟩] ++ [] ++ [⟨b1, (cutV c).cells, 48⟩, ⟨g, cur, 48⟩]) rfl ?_
      refine h_one 3 (by kernel_rfl) ?_
      refine hl_append (E := [⟨b2, #[.int .i64 c.e, .int .i64 c.v.maj, .int .i64 c.v.min, .int .i64 c.v.pat, .string (mkS c.v.pre), .string (mkS c.v.build), .bool c.aft], 48⟩]) (ob := []) (R := [⟨b1, (cutV c).cells, 48⟩, ⟨g, cur, 48⟩]) (sz := 7) _ rfl (by kernel_rfl) rfl Tryz.underlying70 e1 e2 e3 e4 (by kernel_rfl) (Sl.nil 48 7) (a := ⟨g, 0, none⟩) (m := k) (c := cap) (news := (l.take k).flatMap cutC) (by kernel_rfl) (by rw [flat_len cutC_len, List.length_take, Nat.min_eq_left (by omega)]) (fun w hO j u hj => ?_) (cuts_cells _) (by unfold maxLen; omega) (by rw [e5]; omega) (fun ob' w hO => Own.sub ([⟨b2, #[.int .i64 c.e, .int .i64 c.v.maj, .int .i64 c.v.min, .int .i64 c.v.pat, .string (mkS c.v.pre), .string (mkS c.v.build), .bool c.aft], 48⟩] ++ ob') hO) (fun va oa hva => ?_)
      · rw [add_off, cell_of_row w g (0 + j) cur 48 _ (hO.held ⟨g, cur, 48⟩ (by simp))]; exact head_cells cutC_len hcur k (by omega) hj
      refine h_one 6 (by kernel_rfl) ?_
      refine hl_append (E := [⟨b2, #[.int .i64 c.e, .int .i64 c.v.maj, .int .i64 c.v.min, .int .i64 c.v.pat, .string (mkS c.v.pre), .string (mkS c.v.build), .bool c.aft], 48⟩]) (ob := oa) (R := [⟨b1, (cutV c).cells, 48⟩, ⟨g, cur, 48⟩]) (sz := 7) _ rfl (by kernel_rfl) rfl Tryz.underlying70 e1 e2 e3 e4 (by kernel_rfl) hva (a := ⟨b2, 0, none⟩) (m := 1) (c := 1) (news := cutC c) (by kernel_rfl) (rfl) (fun w hO j u hj => ?_) (cut_cells _) (by unfold maxLen; omega) (by rw [e5]; omega) (fun ob' w hO => Own.sub ([⟨b2, #[.int .i64 c.e, .int .i64 c.v.maj, .int .i64 c.v.min, .int .i64 c.v.pat, .string (mkS c.v.pre), .string (mkS c.v.build), .bool c.aft], 48⟩] ++ ob') hO) (fun vb oq hvb => ?_)
      · rw [add_off, cell_of_row w b2 (0 + j) (cutC c).toArray 48 _ (hO.held ⟨b2, (cutC c).toArray, 48⟩ (List.mem_append_left _ (List.mem_append_left _ (List.mem_cons_self ..))))]; simpa using hj
      refine h_one 10 (by kernel_rfl) ?_
      refine hl_append (E := [⟨b2, #[.int .i64 c.e, .int .i64 c.v.maj, .int .i64 c.v.min, .int .i64 c.v.pat, .string (mkS c.v.pre), .string (mkS c.v.build), .bool c.aft], 48⟩]) (ob := oq) (R := [⟨b1, (cutV c).cells, 48⟩, ⟨g, cur, 48⟩]) (sz := 7) _ rfl (by kernel_rfl) rfl Tryz.underlying70 e1 e2 e3 e4 (by kernel_rfl) hvb (a := ⟨g, 0 + (if cap = k then 0 else k * 7), none⟩) (m := l.length - k) (c := cap - k) (news := (l.drop k).flatMap cutC) (by kernel_rfl) (by rw [flat_len cutC_len, List.length_drop]) (fun w hO j u hj => ?_) (cuts_cells _) (by unfold maxLen; omega) (by rw [e5]; omega) (fun ob' w hO => Own.sub ([⟨b2, #[.int .i64 c.e, .int .i64 c.v.maj, .int .i64 c.v.min, .int .i64 c.v.pat, .string (mkS c.v.pre), .string (mkS c.v.build), .bool c.aft], 48⟩] ++ ob') hO) (fun vc oc hvc => ?_)
      · rw [add_off, cell_of_row w g _ cur 48 _ (hO.held ⟨g, cur, 48⟩ (by simp))]; exact tail_cells cutC_len hcur k cap (by omega) hcap hj
      refine hl_take 11 _ vc rfl (by kernel_rfl) (by kernel_rfl) (by kernel_rfl) (pq_seq pq_body) (fun w hO => Own.sub ([⟨b2, #[.int .i64 c.e, .int .i64 c.v.maj, .int .i64 c.v.min, .int .i64 c.v.pat, .string (mkS c.v.pre), .string (mkS c.v.build), .bool c.aft], 48⟩] ++ oc) hO) (by kernel_rfl) (fun _ _ => by kernel_rfl) ?_
      refine h_done (by kernel_rfl) ?_
      refine fin_seq ?_
      refine ok_ret ?_
      refine fin_ret (vc) Tryz.results118 (by kernel_rfl) ?_
      refine fun w hO => ⟨vc, oc, rfl, ?_, Own.take hO (fun x hx => List.mem_append_left _ (List.mem_append_right _ hx)) ?_⟩
      · rw [putL_ins k (by omega) hrel.2 (fun h => by first | omega | (rw [hs]; exact ⟨by assumption, by assumption⟩))]
        exact hvc.to (by simp; omega) (by simp)
      · have := hO.apart; rw [List.map_append, List.map_append, List.nodup_append] at this; exact (List.nodup_append.1 this.1).2.1
end Go.Proofs.YtgeccfdofmnphaaGreat
end

section
/-
  linchpinref4.cuts: the rising cuts of spans that came in, in a new slice; of all other memory nothing is changed.
-/
namespace Go.Proofs.YtgeccfdofmnphaaGreat
open Go.RowKit
set_option maxRecDepth 100000
set_option linter.unusedVariables false
set_option linter.unusedSimpArgs false
set_option maxHeartbeats 2000000

theorem Own.lend {M : List Nat} {W w : World} {L : List Blk} (h : Own M W w L) : Own (L.map Blk.b) w w L :=
  ⟨rfl, rfl, rfl, Nat.le_refl _, Nat.le_refl _, fun _ _ _ => rfl, h.held, fun x hx => .inr (List.mem_map.2 ⟨x, hx, rfl⟩), h.apart⟩
theorem SlC.form {v : Value} {l : List Cu} {ob : List Blk} (h : SlC v l ob) : ∃ A cap, v = .slice A l.length cap := by
  rcases h.2 with ⟨h1, h2, _⟩ | ⟨g, cap, cur, h1, _⟩
  · exact ⟨none, 0, by rw [h1, h2]⟩
  · exact ⟨_, cap, h1⟩
theorem put_call {M : List Nat} {W w : World} {v : Value} {l : List Cu} {ob : List Blk} (c : Cu) (hO : Own M W w ob) (hv : SlC v l ob) (h0 : 0 < l.length) (hn : l.length ≤ 3000000) (hl : ShortC l) (hc : c.short) :
    Calls Tryz.prog 118 #[v, cutV c] w fun e w' => ∃ v' ob', e = .returned v' ∧ SlC v' (putL c l) ob' ∧ Own M W w' ob' := by
  obtain ⟨A, cap, rfl⟩ := hv.form
  refine (put_any A cap l ob c w hv hO.lend h0 hn hl hc).mono fun e w' ⟨v', ob', h1, h2, h3⟩ => ⟨v', ob', h1, h2, ?_⟩
  have := Own.join (R := []) (by simpa using hO) h3
  simpa using this
theorem putL_len (c : Cu) : ∀ (l : List Cu), (putL c l).length ≤ l.length + 1 ∧ 0 < (putL c l).length
  | [] => ⟨by simp [putL], by simp [putL]⟩
  | d :: r => by
    have ih := putL_len c r
    unfold putL
    split
    · simp; omega
    · split <;> simp
theorem putL_short {c : Cu} (hc : c.short) {l : List Cu} (hl : ShortC l) : ShortC (putL c l) := fun x hx => by
  rcases putL_mem c l x hx with rfl | h
  · exact hc
  · exact hl x h
theorem cuts_step (l : List Sp) (k : Nat) (hk : k < l.length) : cutsL (l.take (k + 1)) = putL l[k].hi (putL l[k].lo (cutsL (l.take k))) := by
  unfold cutsL
  rw [List.take_succ_eq_append_getElem hk, List.foldl_append]; rfl
theorem cuts_size (l : List Sp) (hl : ShortL l) : ∀ (k : Nat), k ≤ l.length → (cutsL (l.take k)).length ≤ 2 + 2 * k ∧ 0 < (cutsL (l.take k)).length ∧ ShortC (cutsL (l.take k))
  | 0, _ => ⟨by simp [cutsL], by simp [cutsL], fun x hx => by
      simp only [cutsL, List.take_zero, List.foldl_nil, List.mem_cons, List.not_mem_nil, or_false] at hx
      rcases hx with rfl | rfl <;> exact ⟨by simp [endC, Ver.zero], by simp [endC, Ver.zero]⟩⟩
  | k + 1, h => by
    have ih := cuts_size l hl k (by omega)
    have hs := hl l[k] (List.getElem_mem _)
    rw [cuts_step l k h]
    have e1 := putL_len l[k].lo (cutsL (l.take k))
    have e2 := putL_len l[k].hi (putL l[k].lo (cutsL (l.take k)))
    exact ⟨by omega, e2.2, putL_short hs.2 (putL_short hs.1 ih.2.2)⟩

theorem rfirst_any (W : World) : Calls Tryz.prog 101 #[] W fun e w' => e = .returned (cutV (endC (-1))) ∧ Below W.heap.size W w' := by
  refine calls_ok (n := 2) Tryz.func101 rfl (by kernel_rfl) (by kernel_rfl) ?_
  refine ok_seq ?_
  refine ok_region ?_
  refine s_alloc_at (.agg #[.int .i64 0, .int .i64 0, .int .i64 0, .int .i64 0, .string ⟨#[]⟩, .string ⟨#[]⟩, .bool false]) (by kernel_rfl) rfl (by kernel_rfl) (fun b1 => ?_)
  refine s_nil ?_
  refine fin_seq ?_
  refine ok_seq ?_
  refine ok_region ?_
  refine s_val (.agg #[.int .i64 (-1), .int .i64 0, .int .i64 0, .int .i64 0, .string ⟨#[]⟩, .string ⟨#[]⟩, .bool false]) (by kernel_rfl) (fun _ => by kernel_rfl) ?_
  refine s_store_at 0 ⟨b1, #[.int .i64 0, .int .i64 0, .int .i64 0, .int .i64 0, .string ⟨#[]⟩, .string ⟨#[]⟩, .bool false], 48⟩ (off := 0) (.agg #[.int .i64 (-1), .int .i64 0, .int .i64 0, .int .i64 0, .string ⟨#[]⟩, .string ⟨#[]⟩, .bool false]) (by kernel_rfl) rfl rfl (by kernel_rfl) (by kernel_rfl) (by kernel_rfl) (by kernel_rfl) (by kernel_rfl) ?_
  refine s_nil ?_
  refine fin_seq ?_
  refine ok_ret ?_
  refine fin_cell 0 ⟨b1, #[.int .i64 (-1), .int .i64 0, .int .i64 0, .int .i64 0, .string ⟨#[]⟩, .string ⟨#[]⟩, .bool false], 48⟩ (off := 0) (.agg #[.int .i64 (-1), .int .i64 0, .int .i64 0, .int .i64 0, .string ⟨#[]⟩, .string ⟨#[]⟩, .bool false]) Tryz.results101 (by kernel_rfl) (by kernel_rfl) (by kernel_rfl) ?_
  exact fun w hO => ⟨rfl, hO.below⟩
theorem rlast_any (W : World) : Calls Tryz.prog 103 #[] W fun e w' => e = .returned (cutV (endC (1))) ∧ Below W.heap.size W w' := by
  refine calls_ok (n := 2) Tryz.func103 rfl (by kernel_rfl) (by kernel_rfl) ?_
  refine ok_seq ?_
  refine ok_region ?_
  refine s_alloc_at (.agg #[.int .i64 0, .int .i64 0, .int .i64 0, .int .i64 0, .string ⟨#[]⟩, .string ⟨#[]⟩, .bool false]) (by kernel_rfl) rfl (by kernel_rfl) (fun b1 => ?_)
  refine s_nil ?_
  refine fin_seq ?_
  refine ok_seq ?_
  refine ok_region ?_
  refine s_val (.agg #[.int .i64 1, .int .i64 0, .int .i64 0, .int .i64 0, .string ⟨#[]⟩, .string ⟨#[]⟩, .bool false]) (by kernel_rfl) (fun _ => by kernel_rfl) ?_
  refine s_store_at 0 ⟨b1, #[.int .i64 0, .int .i64 0, .int .i64 0, .int .i64 0, .string ⟨#[]⟩, .string ⟨#[]⟩, .bool false], 48⟩ (off := 0) (.agg #[.int .i64 1, .int .i64 0, .int .i64 0, .int .i64 0, .string ⟨#[]⟩, .string ⟨#[]⟩, .bool false]) (by kernel_rfl) rfl rfl (by kernel_rfl) (by kernel_rfl) (by kernel_rfl) (by kernel_rfl) (by kernel_rfl) ?_
  refine s_nil ?_
  refine fin_seq ?_
  refine ok_ret ?_
  refine fin_cell 0 ⟨b1, #[.int .i64 1, .int .i64 0, .int .i64 0, .int .i64 0, .string ⟨#[]⟩, .string ⟨#[]⟩, .bool false], 48⟩ (off := 0) (.agg #[.int .i64 1, .int .i64 0, .int .i64 0, .int .i64 0, .string ⟨#[]⟩, .string ⟨#[]⟩, .bool false]) Tryz.results103 (by kernel_rfl) (by kernel_rfl) (by kernel_rfl) ?_
  exact fun w hO => ⟨rfl, hO.below⟩
theorem cuts_any (A : Option Addr) (cap : Nat) (l : List Sp) (W : World) (hv : Reads spanC W W.heap.size A l) (hn : l.length ≤ 1000000) (hl : ShortL l) :
    Calls Tryz.prog 87 #[.slice A l.length cap] W fun e w' => ∃ v' ob', e = .returned v' ∧ SlC v' (cutsL l) ob' ∧ Own [] W w' ob' := by
  refine calls_ok (n := 28) Tryz.func87 rfl (by kernel_rfl) (by kernel_rfl) ?_
  refine ok_seq ?_
  refine ok_region ?_
  refine s_val (.slice none 0 0) (by kernel_rfl) (fun _ => by kernel_rfl) ?_
  refine s_nil ?_
  refine fin_seq ?_
  refine ok_seq ?_
  refine ok_region ?_
  refine s_call (k := 101) (args := #[]) (cutV (endC (-1))) (by kernel_rfl) (fun _ => by kernel_rfl) (fun w _ => rfirst_any w) ?_
  refine s_call (k := 103) (args := #[]) (cutV (endC 1)) (by kernel_rfl) (fun _ => by kernel_rfl) (fun w _ => rlast_any w) ?_
  refine s_lit 48 #[.int .i64 ((endC (-1)).e), .int .i64 ((endC (-1)).v.maj), .int .i64 ((endC (-1)).v.min), .int .i64 ((endC (-1)).v.pat), .string (mkS (endC (-1)).v.pre), .string (mkS (endC (-1)).v.build), .bool ((endC (-1)).aft), .int .i64 ((endC 1).e), .int .i64 ((endC 1).v.maj), .int .i64 ((endC 1).v.min), .int .i64 ((endC 1).v.pat), .string (mkS (endC 1).v.pre), .string (mkS (endC 1).v.build), .bool ((endC 1).aft)] (by kernel_rfl) rfl (fun _ => by kernel_rfl) (fun b1 => ?_)
  refine s_val (.slice (some ⟨b1, 0, none⟩) 2 2) (by kernel_rfl) (fun _ => by kernel_rfl) ?_
  refine s_nil ?_
  refine fin_seq ?_
  refine ok_seq ?_
  refine ok_seq ?_
  refine ok_region ?_
  refine s_val (.int .i64 0) (by kernel_rfl) (fun _ => by kernel_rfl) ?_
  refine s_nil ?_
  refine fin_seq ?_
  refine ok_block ?_
  have hstart : SlC (.slice (some ⟨b1, 0, none⟩) 2 2) (cutsL (l.take 0)) [⟨b1, #[.int .i64 ((endC (-1)).e), .int .i64 ((endC (-1)).v.maj), .int .i64 ((endC (-1)).v.min), .int .i64 ((endC (-1)).v.pat), .string (mkS (endC (-1)).v.pre), .string (mkS (endC (-1)).v.build), .bool ((endC (-1)).aft), .int .i64 ((endC 1).e), .int .i64 ((endC 1).v.maj), .int .i64 ((endC 1).v.min), .int .i64 ((endC 1).v.pat), .string (mkS (endC 1).v.pre), .string (mkS (endC 1).v.build), .bool ((endC 1).aft)], 48⟩] := ⟨rfl, .inr ⟨b1, 2, _, rfl, rfl, Nat.le_refl _, by unfold maxLen; omega, rfl, rfl⟩⟩
  refine ok_cast (L' := [⟨b1, #[.int .i64 ((endC (-1)).e), .int .i64 ((endC (-1)).v.maj), .int .i64 ((endC (-1)).v.min), .int .i64 ((endC (-1)).v.pat), .string (mkS (endC (-1)).v.pre), .string (mkS (endC (-1)).v.build), .bool ((endC (-1)).aft), .int .i64 ((endC 1).e), .int .i64 ((endC 1).v.maj), .int .i64 ((endC 1).v.min), .int .i64 ((endC 1).v.pat), .string (mkS (endC 1).v.pre), .string (mkS (endC 1).v.build), .bool ((endC 1).aft)], 48⟩] ++ []) rfl ?_
  refine ok_loop (fun L f m => ∃ (k : Nat) (v : Value) (ob : List Blk) (j : Nat → Value), (k ≤ l.length ∧ SlC v (cutsL (l.take k)) ob) ∧ L = ob ++ [] ∧ f = upds j [(0, .slice A l.length cap), (3, v), (4, .int .i64 (k : Int))] ∧ m = l.length - k) (l.length - 0) ⟨0, _, [⟨b1, #[.int .i64 ((endC (-1)).e), .int .i64 ((endC (-1)).v.maj), .int .i64 ((endC (-1)).v.min), .int .i64 ((endC (-1)).v.pat), .string (mkS (endC (-1)).v.pre), .string (mkS (endC (-1)).v.build), .bool ((endC (-1)).aft), .int .i64 ((endC 1).e), .int .i64 ((endC 1).v.maj), .int .i64 ((endC 1).v.min), .int .i64 ((endC 1).v.pat), .string (mkS (endC 1).v.pre), .string (mkS (endC 1).v.build), .bool ((endC 1).aft)], 48⟩], _, ⟨Nat.zero_le _, hstart⟩, rfl, upds_self _ ⟨by kernel_rfl, by kernel_rfl, by kernel_rfl, trivial⟩, rfl⟩ ?_
  rintro L f m ⟨k, v, ob, j, hrel, rfl, rfl, rfl⟩
  have hkl := hrel.1
  refine ok_seq ?_
  refine ok_seq ?_
  refine ok_region ?_
  refine s_val (.int .i64 (k : Int)) (by kernel_rfl) (fun _ => by kernel_rfl) ?_
  refine s_val (.slice A l.length cap) (by kernel_rfl) (fun _ => by kernel_rfl) ?_
  refine s_val (.int .i64 (l.length : Int)) (by kernel_rfl) (fun _ => by kernel_rfl) ?_
  by_cases h1 : (k : Int) < (l.length : Int)
  · skip
    have hk : k < l.length := by omega
    obtain ⟨b, off, hA, hlt, hcell⟩ := hv (by omega)
    obtain ⟨s, hs⟩ : ∃ s, l[k] = s := ⟨_, rfl⟩
    have hsk : s.short := hs ▸ hl _ (List.getElem_mem _)
    have hcz := cuts_size l hl k hkl
    refine s_dec (p := (k : Int) < (l.length : Int)) true (by kernel_rfl) (fun _ => by kernel_rfl) (decide_eq_true (h1)) ?_
    refine s_nil ?_
    refine fin_seq ?_
    refine ok_true (by kernel_rfl) ?_
    refine ok_skip ?_
    refine fin_seq ?_
    refine ok_seq ?_
    refine ok_block ?_
    refine ok_cast (L' := ob) (by simp) ?_
    refine ok_anyhL [] (by kernel_rfl) (fun w hO => Own.take hO (by simp) (by simp)) ?_
    refine hl_take 0 _ (v) rfl (by kernel_rfl) (by kernel_rfl) (by kernel_rfl) (pq_block (pq_seq (pq_round (pq_block (pq_seq pq_body))))) (fun w hO => Own.take hO (by simp) (by simp)) (by kernel_rfl) (fun _ _ => by kernel_rfl) ?_
    refine hl_take 1 _ (.slice A l.length cap) rfl (by kernel_rfl) (by kernel_rfl) (by kernel_rfl) (pq_block (pq_seq (pq_round (pq_block (pq_seq pq_body))))) (fun w hO => Own.take hO (by simp) (by simp)) (by kernel_rfl) (fun _ _ => by kernel_rfl) ?_
    refine hl_take 2 _ (.int .i64 (k : Int)) rfl (by kernel_rfl) (by kernel_rfl) (by kernel_rfl) (pq_block (pq_seq (pq_round (pq_block (pq_seq pq_body))))) (fun w hO => Own.take hO (by simp) (by simp)) (by kernel_rfl) (fun _ _ => by kernel_rfl) ?_
    refine hl_take 3 _ (.pointer (some ⟨b, off + k * 14, none⟩)) rfl (by kernel_rfl) (by kernel_rfl) (by kernel_rfl) (pq_block (pq_seq (pq_round (pq_block (pq_seq pq_body))))) (fun w hO => Own.take hO (by simp) (by simp)) (by kernel_rfl) (fun w _ => run_ixA (b := b) (off := off) (c := cap) (n := l.length) (k := .i64) (j := (k : Int)) (e := 50) (sz := 14) rfl (by kernel_rfl) hA (by kernel_rfl) (by kernel_rfl) (by kernel_rfl) (by omega) (by omega) (by show off + k * 14 = off + k * 14; rfl) w) ?_
    refine hl_take 4 _ (.pointer (some ⟨b, off + k * 14 + 0, none⟩)) rfl (by kernel_rfl) (by kernel_rfl) (by kernel_rfl) (pq_block (pq_seq (pq_round (pq_block (pq_seq pq_body))))) (fun w hO => Own.take hO (by simp) (by simp)) (by kernel_rfl) (fun _ _ => by kernel_rfl) ?_
    refine hl_old 5 _ (a := ⟨b, off + k * 14 + 0, none⟩) (cutV s.lo) rfl (by kernel_rfl) (by kernel_rfl) (by kernel_rfl) (pq_block (pq_seq (pq_round (pq_block (pq_seq pq_body))))) (fun w hO => Own.take hO (by simp) (by simp)) (by kernel_rfl) rfl (by kernel_rfl) (fun w hO => elem_load spanC_len (fun j u h => (hO.below.cell (p := ⟨b, off + j, none⟩) hlt).trans (hcell j u h)) k 0 hk (by omega) _ (by rw [hs]; kernel_rfl)) ?_
    refine hl_take 7 _ (.slice A l.length cap) rfl (by kernel_rfl) (by kernel_rfl) (by kernel_rfl) (pq_block (pq_seq (pq_round (pq_block (pq_seq pq_body))))) (fun w hO => Own.take hO (by simp) (by simp)) (by kernel_rfl) (fun _ _ => by kernel_rfl) ?_
    refine hl_take 8 _ (.int .i64 (k : Int)) rfl (by kernel_rfl) (by kernel_rfl) (by kernel_rfl) (pq_block (pq_seq (pq_round (pq_block (pq_seq pq_body))))) (fun w hO => Own.take hO (by simp) (by simp)) (by kernel_rfl) (fun _ _ => by kernel_rfl) ?_
    refine hl_take 9 _ (.pointer (some ⟨b, off + k * 14, none⟩)) rfl (by kernel_rfl) (by kernel_rfl) (by kernel_rfl) (pq_block (pq_seq (pq_round (pq_block (pq_seq pq_body))))) (fun w hO => Own.take hO (by simp) (by simp)) (by kernel_rfl) (fun w _ => run_ixA (b := b) (off := off) (c := cap) (n := l.length) (k := .i64) (j := (k : Int)) (e := 50) (sz := 14) rfl (by kernel_rfl) hA (by kernel_rfl) (by kernel_rfl) (by kernel_rfl) (by omega) (by omega) (by show off + k * 14 = off + k * 14; rfl) w) ?_
    refine hl_take 10 _ (.pointer (some ⟨b, off + k * 14 + 7, none⟩)) rfl (by kernel_rfl) (by kernel_rfl) (by kernel_rfl) (pq_block (pq_seq (pq_round (pq_block (pq_seq pq_body))))) (fun w hO => Own.take hO (by simp) (by simp)) (by kernel_rfl) (fun _ _ => by kernel_rfl) ?_
    refine hl_old 11 _ (a := ⟨b, off + k * 14 + 7, none⟩) (cutV s.hi) rfl (by kernel_rfl) (by kernel_rfl) (by kernel_rfl) (pq_block (pq_seq (pq_round (pq_block (pq_seq pq_body))))) (fun w hO => Own.take hO (by simp) (by simp)) (by kernel_rfl) rfl (by kernel_rfl) (fun w hO => elem_load spanC_len (fun j u h => (hO.below.cell (p := ⟨b, off + j, none⟩) hlt).trans (hcell j u h)) k 7 hk (by omega) _ (by rw [hs]; kernel_rfl)) ?_
    have hp1 := putL_len s.lo (cutsL (l.take k))
    refine h_one 6 (by kernel_rfl) ?_
    refine hl_callx _ (k := 118) (args := #[v, cutV s.lo]) (fun v' L' => SlC v' (putL s.lo (cutsL (l.take k))) L') rfl (by kernel_rfl) (fun _ => by kernel_rfl) (fun w hO => put_call s.lo hO hrel.2 hcz.2.1 (by omega) hcz.2.2 hsk.1) (fun _ _ _ => (fun w hO => Own.take hO (by simp) (by simp))) (fun v1 ob1 hv1 => ?_)
    refine h_one 12 (by kernel_rfl) ?_
    refine hl_callx _ (k := 118) (args := #[v1, cutV s.hi]) (fun v' L' => SlC v' (putL s.hi (putL s.lo (cutsL (l.take k)))) L') rfl (by kernel_rfl) (fun _ => by kernel_rfl) (fun w hO => put_call s.hi hO hv1 hp1.2 (by omega) (putL_short hsk.1 hcz.2.2) hsk.2) (fun _ _ _ => (fun w hO => Own.take hO (by simp) (by simp))) (fun v2 ob2 hv2 => ?_)
    refine hl_take 13 _ (v2) rfl (by kernel_rfl) (by kernel_rfl) (by kernel_rfl) (pq_block (pq_seq (pq_round (pq_block (pq_seq pq_body))))) (fun w hO => Own.take hO (by simp) (by simp)) (by kernel_rfl) (fun _ _ => by kernel_rfl) ?_
    refine h_done (by kernel_rfl) ?_
    refine fin_cast (L' := ob2 ++ []) (by simp) ?_
    refine fin_block ?_
    refine fin_seq ?_
    refine ok_region ?_
    refine s_val (.int .i64 (k : Int)) (by kernel_rfl) (fun _ => by kernel_rfl) ?_
    refine s_sum (k := .i64) (((k + 1 : Nat) : Int)) (by kernel_rfl) (fun _ => by kernel_rfl) (IntWalk.i64_in _ (by omega)) ?_
    refine s_val (.int .i64 ((k + 1 : Nat) : Int)) (by kernel_rfl) (fun _ => by kernel_rfl) ?_
    refine s_nil ?_
    have hnext : SlC v2 (cutsL (l.take (k + 1))) ob2 := by rw [cuts_step l k hk, hs]; exact hv2
    exact fin_round (m' := l.length - (k + 1)) (by omega) ⟨k + 1, v2, ob2, _, ⟨by omega, hnext⟩, rfl, upds_self _ ⟨by kernel_rfl, by kernel_rfl, by kernel_rfl, trivial⟩, rfl⟩
  · skip
    refine s_dec (p := (k : Int) < (l.length : Int)) false (by kernel_rfl) (fun _ => by kernel_rfl) (decide_eq_false (h1)) ?_
    refine s_nil ?_
    refine fin_seq ?_
    refine ok_false (by kernel_rfl) ?_
    refine ok_exit ?_
    refine fin_seq_exit ?_
    refine fin_round_exit ?_
    refine fin_block_exit ?_
    refine fin_seq ?_
    refine ok_seq ?_
    refine ok_region ?_
    refine s_val (v) (by kernel_rfl) (fun _ => by kernel_rfl) ?_
    refine s_val (v) (by kernel_rfl) (fun _ => by kernel_rfl) ?_
    refine s_nil ?_
    refine fin_seq ?_
    refine ok_ret ?_
    refine fin_ret (v) Tryz.results87 (by kernel_rfl) ?_
    exact fun w hO => ⟨v, ob, rfl, by have h := hrel.2; rwa [List.take_of_length_le (by omega)] at h, by simpa using hO⟩
end Go.Proofs.YtgeccfdofmnphaaGreat
end

section
/-
  linchpinref4.Not: the stretches between cuts, a loop that grows a row of its own.
-/
namespace Go.Proofs.YtgeccfdofmnphaaGreat
open Go.RowKit
set_option maxRecDepth 100000
set_option linter.unusedVariables false
set_option linter.unusedSimpArgs false
set_option maxHeartbeats 2000000

section
variable {M : List Nat} {P : Program} {n : Nat} {ops : Array Oper} {W : World} {Q : Exit → Act → World → Prop} {L0 L : List Blk} {f : Nat → Value} {fuel : Nat} {listed : Array Bool} {rest : List Oper} {o : Oper}
theorem s_callo {k : FuncId} {args : Array Value} (R : Value → List Blk → Prop) (hw : want ops n f o = true) (he : ∀ w, (execOp (ev n f) o).run P w = .ok (.enter k args) w)
    (hc : ∀ w, Own M W w L → Calls P k args w fun e w' => ∃ v L', e = .returned v ∧ R v L' ∧ Own M W w' L') (h : ∀ v L', R v L' → Seg M P n ops W Q rest L' (upd f o.dst v)) : Seg M P n ops W Q (o :: rest) L f :=
  s_step hw fun w hO => wp_enter (he w) ((hc w hO).mono fun e w' ⟨v, L', e1, e2, e3⟩ => ⟨v, e1, (h v L' e2).go w' e3⟩)
theorem hl_sum {k : IntKind} (i : Nat) (oi : Oper) (z : Int) (hi : ops[i]? = some oi) (hs : Region.noSelect ops = true) (hf : Region.free .any ops listed i = true) (hr : (Region.ready .any ops listed).contains i = true)
    (hQ : PQ Q) (hsub : ∀ w, Own M W w L → Own M W w L0) (hw : want ops n f oi = true) (hrun : ∀ w, (execOp (ev n f) oi).run P w = .ok (.value (.int k (k.wrap z))) w) (hz : k.wrap z = z)
    (h : HSeg M P n ops W L0 Q fuel (listed.setIfInBounds i true) L (upd f oi.dst (.int k z))) : HSeg M P n ops W L0 Q (fuel + 1) listed L f :=
  hl_take i oi (.int k z) hi hs hf hr hQ hsub hw (fun w _ => by rw [hrun w, hz]) h
theorem Own.perm {w : World} {L' : List Blk} (h : Own M W w L) (hp : L.Perm L') : Own M W w L' :=
  h.take (fun x hx => hp.mem_iff.2 hx) ((hp.map Blk.b).nodup_iff.1 h.apart)
end
theorem SlS.form {v : Value} {l : List Sp} {ob : List Blk} (h : SlS v l ob) : ∃ A cap, v = .slice A l.length cap := by
  rcases h.2 with ⟨h1, h2, _⟩ | ⟨g, cap, cur, h1, _⟩
  · exact ⟨none, 0, by rw [h1, h2]⟩
  · exact ⟨_, cap, h1⟩
theorem grow_call {M : List Nat} {W w : World} {v : Value} {l : List Sp} {x : Blk} {ob : List Blk} (c d : Cu) (hO : Own M W w (x :: ob)) (hv : SlS v l ob) (hn : l.length ≤ 1000000) (hl : ShortL l) (hc : c.short) (hd : d.short) :
    Calls Tryz.prog 89 #[v, cutV c, cutV d] w fun e w' => ∃ v' L', e = .returned v' ∧ (∃ ob', L' = x :: ob' ∧ SlS v' (growL l c d) ob') ∧ Own M W w' L' := by
  obtain ⟨A, cap, rfl⟩ := hv.form
  refine (grow_any A cap l ob c d w hv (Own.lend (hO.sub [x])) hn hl hc hd).mono fun e w' ⟨v', ob', h1, h2, h3⟩ => ⟨v', x :: ob', h1, ⟨ob', rfl, h2⟩, ?_⟩
  have hp : Own M W w (ob ++ [x]) := hO.perm (List.perm_append_comm (l₁ := [x]) (l₂ := ob))
  exact (Own.join hp h3).perm (List.perm_append_comm (l₁ := ob') (l₂ := [x]))
theorem grow_len (l : List Sp) (c d : Cu) : (growL l c d).length ≤ l.length + 1 := by
  unfold growL
  split
  · split
    · first | (simp; done) | (simp; omega)
    · simp
  · simp
theorem grow_short {l : List Sp} {c d : Cu} (hl : ShortL l) (hc : c.short) (hd : d.short) : ShortL (growL l c d) := by
  unfold growL
  split
  · rename_i s hs
    split
    · intro x hx
      rcases List.mem_append.1 hx with h | h
      · exact hl x (List.dropLast_subset _ h)
      · obtain rfl : x = _ := by simpa using h
        exact ⟨(hl s (List.mem_of_getLast? hs)).1, hd⟩
    · intro x hx
      rcases List.mem_append.1 hx with h | h
      · exact hl x h
      · obtain rfl : x = _ := by simpa using h
        exact ⟨hc, hd⟩
  · intro x hx
    obtain rfl : x = _ := by simpa using hx
    exact ⟨hc, hd⟩
theorem build_step (p : Cu → Cu → Bool) (out : List Sp) (cs : List Cu) (k : Nat) (hk : k + 1 < cs.length) {c d : Cu} (hc : cs[k] = c) (hd : cs[k + 1] = d) : buildL p out (cs.drop k) = buildL p (if p c d then growL out c d else out) (cs.drop (k + 1)) := by
  rw [List.drop_eq_getElem_cons (show k < cs.length by omega), List.drop_eq_getElem_cons hk, hc, hd]
  conv => lhs; unfold buildL
theorem build_end (p : Cu → Cu → Bool) (out : List Sp) (cs : List Cu) (k : Nat) (hk : ¬ k + 1 < cs.length) : buildL p out (cs.drop k) = out := by
  have : (cs.drop k).length ≤ 1 := by rw [List.length_drop]; omega
  match h : cs.drop k with
  | [] => rfl
  | [x] => rfl
  | x :: y :: r => rw [h] at this; simp at this
structure Built (p : Cu → Cu → Bool) (cs : List Cu) (k : Nat) (v : Value) (out : List Sp) (ob : List Blk) : Prop where
  le : k ≤ cs.length
  sl : SlS v out ob
  len : out.length ≤ k
  short : ShortL out
  eq : buildL p [] cs = buildL p out (cs.drop k)
theorem Built.start (p : Cu → Cu → Bool) (cs : List Cu) : Built p cs 0 (.slice none 0 0) [] [] := ⟨Nat.zero_le _, Sl.nil _ _, Nat.le_refl _, fun s hs => by simp at hs, rfl⟩
theorem Built.keep {p : Cu → Cu → Bool} {cs : List Cu} {k : Nat} {v : Value} {out : List Sp} {ob : List Blk} (h : Built p cs k v out ob) (hk : k + 1 < cs.length) {c d : Cu} (hc : cs[k] = c) (hd : cs[k + 1] = d) (hp : p c d = false) : Built p cs (k + 1) v out ob :=
  ⟨by omega, h.sl, by have := h.len; omega, h.short, by rw [h.eq, build_step p out cs k hk hc hd, hp]; rfl⟩
theorem Built.grow {p : Cu → Cu → Bool} {cs : List Cu} {k : Nat} {v v2 : Value} {out : List Sp} {ob ob2 : List Blk} (h : Built p cs k v out ob) (hk : k + 1 < cs.length) {c d : Cu} (hc : cs[k] = c) (hd : cs[k + 1] = d) (hp : p c d = true) (hcs : c.short) (hds : d.short) (h2 : SlS v2 (growL out c d) ob2) : Built p cs (k + 1) v2 (growL out c d) ob2 :=
  ⟨by omega, h2, by have := h.len; have := grow_len out c d; omega, grow_short h.short hcs hds, by rw [h.eq, build_step p out cs k hk hc hd, hp]; rfl⟩

end Go.Proofs.YtgeccfdofmnphaaGreat
end

section
/-
  linchpinref4.Make: a row out of any spans.
-/
namespace Go.Proofs.YtgeccfdofmnphaaGreat
open Go.RowKit
set_option maxRecDepth 100000
set_option linter.unusedVariables false
set_option linter.unusedSimpArgs false
set_option maxHeartbeats 2000000

def allMay (l : List Sp) : Bool := l.all (·.may)
theorem allMay_mem {l : List Sp} : allMay l = true ↔ ∀ s ∈ l, s.may = true := by unfold allMay; rw [List.all_eq_true]
theorem allMay_take (l : List Sp) (k : Nat) (hk : k < l.length) (h : allMay (l.take k) = true) (hs : l[k].may = true) : allMay (l.take (k + 1)) = true := by
  rw [allMay_mem] at h ⊢
  rw [List.take_succ_eq_append_getElem hk]
  intro x hx
  rcases List.mem_append.1 hx with hx | hx
  · exact h x hx
  · obtain rfl : x = l[k] := by simpa using hx
    exact hs
theorem allMay_not (l : List Sp) (k : Nat) (hk : k < l.length) (hs : l[k].may = false) : allMay l = false := by
  cases h : allMay l with
  | false => rfl
  | true => rw [allMay_mem.1 h _ (List.getElem_mem hk)] at hs; cases hs

theorem rmake_any (A : Option Addr) (cap : Nat) (l : List Sp) (W : World) (hv : Reads spanC W W.heap.size A l) (hn : l.length ≤ 300000) (hl : ShortL l) :
    Calls Tryz.prog 50 #[.slice A l.length cap] W fun e w' => ∃ v' ob', e = .returned (.tuple #[v', .bool (allMay l)]) ∧ SlS v' (if allMay l then makeL l else []) ob' ∧ Own [] W w' ob' := by
  refine calls_ok (n := 52) Tryz.func50 rfl (by kernel_rfl) (by kernel_rfl) ?_
  refine ok_seq ?_
  refine ok_region ?_
  refine s_val (.slice none 0 0) (by kernel_rfl) (fun _ => by kernel_rfl) ?_
  refine s_val (.bool false) (by kernel_rfl) (fun _ => by kernel_rfl) ?_
  refine s_nil ?_
  refine fin_seq ?_
  refine ok_seq ?_
  refine ok_seq ?_
  refine ok_region ?_
  refine s_val (.int .i64 0) (by kernel_rfl) (fun _ => by kernel_rfl) ?_
  refine s_nil ?_
  refine fin_seq ?_
  refine ok_block ?_
  refine ok_loop (fun L f m => ∃ (k : Nat) (j : Nat → Value), (k ≤ l.length ∧ allMay (l.take k) = true) ∧ L = [] ∧ f = upds j [(0, .slice A l.length cap), (4, .int .i64 (k : Int))] ∧ m = l.length - k) (l.length - 0) ⟨0, _, ⟨Nat.zero_le _, by rw [List.take_zero]; rfl⟩, rfl, upds_self _ ⟨by kernel_rfl, by kernel_rfl, trivial⟩, rfl⟩ ?_
  rintro L f m ⟨k, j, hrel, rfl, rfl, rfl⟩
  have hkl := hrel.1
  refine ok_seq ?_
  refine ok_seq ?_
  refine ok_region ?_
  refine s_val (.int .i64 (k : Int)) (by kernel_rfl) (fun _ => by kernel_rfl) ?_
  refine s_val (.slice A l.length cap) (by kernel_rfl) (fun _ => by kernel_rfl) ?_
  refine s_val (.int .i64 (l.length : Int)) (by kernel_rfl) (fun _ => by kernel_rfl) ?_
  by_cases h1 : (k : Int) < (l.length : Int)
  · skip
    have hk : k < l.length := by omega
    obtain ⟨b, off, hA, hlt, hcell⟩ := hv (by omega)
    obtain ⟨s, hs⟩ : ∃ s, l[k] = s := ⟨_, rfl⟩
    have hsk : s.short := hs ▸ hl _ (List.getElem_mem _)
    refine s_dec (p := (k : Int) < (l.length : Int)) true (by kernel_rfl) (fun _ => by kernel_rfl) (decide_eq_true (h1)) ?_
    refine s_nil ?_
    refine fin_seq ?_
    refine ok_true (by kernel_rfl) ?_
    refine ok_skip ?_
    refine fin_seq ?_
    refine ok_seq ?_
    refine ok_block ?_
    refine ok_seq ?_
    refine ok_region ?_
    refine s_val (.slice A l.length cap) (by kernel_rfl) (fun _ => by kernel_rfl) ?_
    refine s_val (.int .i64 (k : Int)) (by kernel_rfl) (fun _ => by kernel_rfl) ?_
    refine s_val (.pointer (some ⟨b, off + k * 14, none⟩)) (by kernel_rfl) (run_ixA (b := b) (off := off) (c := cap) (n := l.length) (k := .i64) (j := (k : Int)) (e := 50) (sz := 14) rfl (by kernel_rfl) hA (by kernel_rfl) (by kernel_rfl) (by kernel_rfl) (by omega) (by omega) (by omega)) ?_
    refine s_old (spanV s) (a := ⟨b, off + k * 14, none⟩) (by kernel_rfl) rfl (by kernel_rfl) (fun w hO => elem_load spanC_len (fun j u h => (hO.below.cell (p := ⟨b, off + j, none⟩) hlt).trans (hcell j u h)) k 0 hk (by omega) _ (by rw [hs]; kernel_rfl)) ?_
    refine s_call (k := 49) (args := #[spanV s]) (.bool s.may) (by kernel_rfl) (fun _ => by kernel_rfl) (fun w _ => rspanMay_any s w hsk) ?_
    cases h2 : s.may with
    | true =>
      refine s_val (.bool false) (by kernel_rfl) (fun _ => by kernel_rfl) ?_
      refine s_nil ?_
      refine fin_seq ?_
      refine ok_false (by kernel_rfl) ?_
      refine ok_skip ?_
      refine fin_block ?_
      refine fin_seq ?_
      refine ok_region ?_
      refine s_val (.int .i64 (k : Int)) (by kernel_rfl) (fun _ => by kernel_rfl) ?_
      refine s_sum (k := .i64) (((k + 1 : Nat) : Int)) (by kernel_rfl) (fun _ => by kernel_rfl) (IntWalk.i64_in _ (by omega)) ?_
      refine s_val (.int .i64 ((k + 1 : Nat) : Int)) (by kernel_rfl) (fun _ => by kernel_rfl) ?_
      refine s_nil ?_
      have hnext : allMay (l.take (k + 1)) = true := allMay_take l k hk hrel.2 (by rw [hs]; assumption)
      exact fin_round (m' := l.length - (k + 1)) (by omega) ⟨k + 1, _, ⟨by omega, hnext⟩, rfl, upds_self _ ⟨by kernel_rfl, by kernel_rfl, trivial⟩, rfl⟩
    | false =>
      refine s_val (.bool true) (by kernel_rfl) (fun _ => by kernel_rfl) ?_
      refine s_nil ?_
      refine fin_seq ?_
      refine ok_true (by kernel_rfl) ?_
      refine ok_seq ?_
      refine ok_region ?_
      refine s_val (.slice none 0 0) (by kernel_rfl) (fun _ => by kernel_rfl) ?_
      refine s_val (.bool false) (by kernel_rfl) (fun _ => by kernel_rfl) ?_
      refine s_nil ?_
      refine fin_seq ?_
      refine ok_ret ?_
      refine fin_block_ret ?_
      refine fin_seq_ret ?_
      refine fin_round_ret ?_
      refine fin_block_ret ?_
      refine fin_seq_ret ?_
      refine fin_ret2 (.slice none 0 0) (.bool false) Tryz.results50 (by kernel_rfl) (by kernel_rfl) ?_
      exact fun w hO => ⟨_, [], by rw [allMay_not l k hk (by rw [hs]; assumption)], by rw [allMay_not l k hk (by rw [hs]; assumption), if_neg (by decide)]; exact Sl.nil _ _, by simpa using hO⟩
  · skip
    have hall : allMay l = true := by have h := hrel.2; rwa [List.take_of_length_le (by omega)] at h
    refine s_dec (p := (k : Int) < (l.length : Int)) false (by kernel_rfl) (fun _ => by kernel_rfl) (decide_eq_false (h1)) ?_
    refine s_nil ?_
    refine fin_seq ?_
    refine ok_false (by kernel_rfl) ?_
    refine ok_exit ?_
    refine fin_seq_exit ?_
    refine fin_round_exit ?_
    refine fin_block_exit ?_
    refine fin_seq ?_
    refine ok_seq ?_
    refine ok_region ?_
    refine s_val (.slice none 0 0) (by kernel_rfl) (fun _ => by kernel_rfl) ?_
    refine s_nil ?_
    refine fin_seq ?_
    refine ok_seq ?_
    refine ok_region ?_
    refine s_val (.slice A l.length cap) (by kernel_rfl) (fun _ => by kernel_rfl) ?_
    refine s_callo (k := 87) (args := #[.slice A l.length cap]) (fun v' L' => SlC v' (cutsL l) L') (by kernel_rfl) (fun _ => by kernel_rfl) (fun w hO => (cuts_any A cap l w (hv.on hO.below hO.size) (by omega) hl).mono fun e w' ⟨v', ob', h1, h2, h3⟩ => ⟨v', ob', h1, h2, by simpa using Own.joinN hO h3⟩) (fun cv oc hcv => ?_)
    have hcz := cuts_size l hl l.length (Nat.le_refl _)
    rw [List.take_length] at hcz
    obtain ⟨cs, hcs⟩ : ∃ cs, cs = cutsL l := ⟨_, rfl⟩
    rw [← hcs] at hcv hcz
    have hcsn := hcz.1
    have hcs0 := hcz.2.1
    have hcsS := hcz.2.2
    obtain ⟨B, ccap, rfl⟩ := hcv.form
    obtain ⟨g, cur, rfl, rfl, hccap, hcmax, hcsz, hcur⟩ := hcv.block hcs0
    refine s_val (.slice (some ⟨g, 0, none⟩) cs.length ccap) (by kernel_rfl) (fun _ => by kernel_rfl) ?_
    refine s_nil ?_
    refine fin_seq ?_
    refine ok_seq ?_
    refine ok_seq ?_
    refine ok_region ?_
    refine s_val (.int .i64 0) (by kernel_rfl) (fun _ => by kernel_rfl) ?_
    refine s_nil ?_
    refine fin_seq ?_
    refine ok_block ?_
    refine ok_loop (fun L f m => ∃ (k : Nat) (v : Value) (out : List Sp) (ob : List Blk) (j : Nat → Value), (Built (inL l) cs k v out ob) ∧ L = ⟨g, cur, 48⟩ :: ob ∧ f = upds j [(0, .slice A l.length cap), (5, v), (6, .slice (some ⟨g, 0, none⟩) cs.length ccap), (7, .int .i64 (k : Int))] ∧ m = cs.length - k) (cs.length - 0) ⟨0, _, [], [], _, Built.start _ cs, rfl, upds_self _ ⟨by kernel_rfl, by kernel_rfl, by kernel_rfl, by kernel_rfl, trivial⟩, rfl⟩ ?_
    rintro L f m ⟨k, v, out, ob, j, hrel, rfl, rfl, rfl⟩
    have hkl := hrel.le
    refine ok_seq ?_
    refine ok_seq ?_
    refine ok_region ?_
    refine s_val (.int .i64 (k : Int)) (by kernel_rfl) (fun _ => by kernel_rfl) ?_
    refine s_sum (k := .i64) (((k + 1 : Nat) : Int)) (by kernel_rfl) (fun _ => by kernel_rfl) (IntWalk.i64_in _ (by omega)) ?_
    refine s_val (.slice (some ⟨g, 0, none⟩) cs.length ccap) (by kernel_rfl) (fun _ => by kernel_rfl) ?_
    refine s_val (.int .i64 (cs.length : Int)) (by kernel_rfl) (fun _ => by kernel_rfl) ?_
    by_cases h3 : ((k + 1 : Nat) : Int) < (cs.length : Int)
    · skip
      have hk : k + 1 < cs.length := by omega
      obtain ⟨c, hc⟩ : ∃ c, cs[k] = c := ⟨_, rfl⟩
      obtain ⟨d, hd⟩ : ∃ d, cs[k + 1] = d := ⟨_, rfl⟩
      have hcS : c.short := hc ▸ hcsS _ (List.getElem_mem _)
      have hdS : d.short := hd ▸ hcsS _ (List.getElem_mem _)
      have hlen := hrel.len
      refine s_dec (p := ((k + 1 : Nat) : Int) < (cs.length : Int)) true (by kernel_rfl) (fun _ => by kernel_rfl) (decide_eq_true (h3)) ?_
      refine s_nil ?_
      refine fin_seq ?_
      refine ok_true (by kernel_rfl) ?_
      refine ok_skip ?_
      refine fin_seq ?_
      refine ok_seq ?_
      refine ok_block ?_
      refine ok_seq ?_
      refine ok_draw (by kernel_rfl) (by kernel_rfl) ?_
      refine q_val (.slice A l.length cap) (by kernel_rfl) (fun _ => by kernel_rfl) ?_
      refine q_val (.slice (some ⟨g, 0, none⟩) cs.length ccap) (by kernel_rfl) (fun _ => by kernel_rfl) ?_
      refine q_val (.int .i64 (k : Int)) (by kernel_rfl) (fun _ => by kernel_rfl) ?_
      refine q_val (.pointer (some ⟨g, k * 7, none⟩)) (by kernel_rfl) (run_ixsl (b := g) (off := 0) (n := cs.length) (c := ccap) (k := .i64) (j := (k : Int)) (e := 48) (sz := 7) rfl (by kernel_rfl) (by kernel_rfl) (by kernel_rfl) (by kernel_rfl) (by omega) (by omega) (by show 0 + k * 7 = k * 7; omega)) ?_
      refine q_load 0 ⟨g, cur, 48⟩ (off := k * 7) (cutV c) (by kernel_rfl) rfl (by kernel_rfl) (by kernel_rfl) (read_part cutC_len hcur k 0 (by omega) (by omega) _ (by rw [hc]; kernel_rfl)) ?_
      refine q_val (.slice (some ⟨g, 0, none⟩) cs.length ccap) (by kernel_rfl) (fun _ => by kernel_rfl) ?_
      refine q_val (.int .i64 (k : Int)) (by kernel_rfl) (fun _ => by kernel_rfl) ?_
      refine q_sum (k := .i64) (((k + 1 : Nat) : Int)) (by kernel_rfl) (fun _ => by kernel_rfl) (IntWalk.i64_in _ (by omega)) ?_
      refine q_val (.pointer (some ⟨g, (k + 1) * 7, none⟩)) (by kernel_rfl) (run_ixsl (b := g) (off := 0) (n := cs.length) (c := ccap) (k := .i64) (j := ((k + 1 : Nat) : Int)) (e := 48) (sz := 7) rfl (by kernel_rfl) (by kernel_rfl) (by kernel_rfl) (by kernel_rfl) (by omega) (by omega) (by show 0 + (k + 1) * 7 = (k + 1) * 7; omega)) ?_
      refine q_load 0 ⟨g, cur, 48⟩ (off := (k + 1) * 7) (cutV d) (by kernel_rfl) rfl (by kernel_rfl) (by kernel_rfl) (read_part cutC_len hcur (k + 1) 0 (by omega) (by omega) _ (by rw [hd]; kernel_rfl)) ?_
      refine q_call (k := 88) (args := #[.slice A l.length cap, cutV c, cutV d]) (.bool (inL l c d)) (by kernel_rfl) (fun _ => by kernel_rfl) (fun w hO => in_any A cap l c d w (hv.on hO.below hO.size) (by omega) hl hcS hdS) ?_
      refine q_nil ?_
      refine fin_seq ?_
      cases h4 : inL l c d with
      | true =>
        refine ok_true (by kernel_rfl) ?_
        refine ok_anyhL [⟨g, cur, 48⟩] (by kernel_rfl) (fun w hO => Own.take hO (by simp) (by simp)) ?_
        refine hl_take 0 _ (v) rfl (by kernel_rfl) (by kernel_rfl) (by kernel_rfl) (pq_block (pq_seq (pq_round (pq_block (pq_seq pq_body))))) (fun w hO => Own.take hO (by simp) (by simp)) (by kernel_rfl) (fun _ _ => by kernel_rfl) ?_
        refine hl_take 1 _ (.slice (some ⟨g, 0, none⟩) cs.length ccap) rfl (by kernel_rfl) (by kernel_rfl) (by kernel_rfl) (pq_block (pq_seq (pq_round (pq_block (pq_seq pq_body))))) (fun w hO => Own.take hO (by simp) (by simp)) (by kernel_rfl) (fun _ _ => by kernel_rfl) ?_
        refine hl_take 2 _ (.int .i64 (k : Int)) rfl (by kernel_rfl) (by kernel_rfl) (by kernel_rfl) (pq_block (pq_seq (pq_round (pq_block (pq_seq pq_body))))) (fun w hO => Own.take hO (by simp) (by simp)) (by kernel_rfl) (fun _ _ => by kernel_rfl) ?_
        refine hl_take 3 _ (.pointer (some ⟨g, k * 7, none⟩)) rfl (by kernel_rfl) (by kernel_rfl) (by kernel_rfl) (pq_block (pq_seq (pq_round (pq_block (pq_seq pq_body))))) (fun w hO => Own.take hO (by simp) (by simp)) (by kernel_rfl) (fun w _ => run_ixsl (b := g) (off := 0) (n := cs.length) (c := ccap) (k := .i64) (j := (k : Int)) (e := 48) (sz := 7) rfl (by kernel_rfl) (by kernel_rfl) (by kernel_rfl) (by kernel_rfl) (by omega) (by omega) (by show 0 + k * 7 = k * 7; omega) w) ?_
        refine hl_load 4 _ 0 ⟨g, cur, 48⟩ (off := k * 7) (cutV c) rfl (by kernel_rfl) (by kernel_rfl) (by kernel_rfl) (pq_block (pq_seq (pq_round (pq_block (pq_seq pq_body))))) (fun w hO => Own.take hO (by simp) (by simp)) (by kernel_rfl) rfl rfl (by kernel_rfl) (read_part cutC_len hcur k 0 (by omega) (by omega) _ (by rw [hc]; kernel_rfl)) ?_
        refine hl_take 5 _ (.slice (some ⟨g, 0, none⟩) cs.length ccap) rfl (by kernel_rfl) (by kernel_rfl) (by kernel_rfl) (pq_block (pq_seq (pq_round (pq_block (pq_seq pq_body))))) (fun w hO => Own.take hO (by simp) (by simp)) (by kernel_rfl) (fun _ _ => by kernel_rfl) ?_
        refine hl_take 6 _ (.int .i64 (k : Int)) rfl (by kernel_rfl) (by kernel_rfl) (by kernel_rfl) (pq_block (pq_seq (pq_round (pq_block (pq_seq pq_body))))) (fun w hO => Own.take hO (by simp) (by simp)) (by kernel_rfl) (fun _ _ => by kernel_rfl) ?_
        refine hl_sum (k := .i64) 7 _ ((k + 1 : Nat) : Int) rfl (by kernel_rfl) (by kernel_rfl) (by kernel_rfl) (pq_block (pq_seq (pq_round (pq_block (pq_seq pq_body))))) (fun w hO => Own.take hO (by simp) (by simp)) (by kernel_rfl) (fun _ => by kernel_rfl) (IntWalk.i64_in _ (by omega)) ?_
        refine hl_take 8 _ (.pointer (some ⟨g, (k + 1) * 7, none⟩)) rfl (by kernel_rfl) (by kernel_rfl) (by kernel_rfl) (pq_block (pq_seq (pq_round (pq_block (pq_seq pq_body))))) (fun w hO => Own.take hO (by simp) (by simp)) (by kernel_rfl) (fun w _ => run_ixsl (b := g) (off := 0) (n := cs.length) (c := ccap) (k := .i64) (j := ((k + 1 : Nat) : Int)) (e := 48) (sz := 7) rfl (by kernel_rfl) (by kernel_rfl) (by kernel_rfl) (by kernel_rfl) (by omega) (by omega) (by show 0 + (k + 1) * 7 = (k + 1) * 7; omega) w) ?_
        refine hl_load 9 _ 0 ⟨g, cur, 48⟩ (off := (k + 1) * 7) (cutV d) rfl (by kernel_rfl) (by kernel_rfl) (by kernel_rfl) (pq_block (pq_seq (pq_round (pq_block (pq_seq pq_body))))) (fun w hO => Own.take hO (by simp) (by simp)) (by kernel_rfl) rfl rfl (by kernel_rfl) (read_part cutC_len hcur (k + 1) 0 (by omega) (by omega) _ (by rw [hd]; kernel_rfl)) ?_
        refine h_one 10 (by kernel_rfl) ?_
        refine hl_callx _ (k := 89) (args := #[v, cutV c, cutV d]) (fun v' L' => ∃ ob', L' = ⟨g, cur, 48⟩ :: ob' ∧ SlS v' (growL out c d) ob') rfl (by kernel_rfl) (fun _ => by kernel_rfl) (fun w hO => grow_call c d hO hrel.sl (by omega) hrel.short hcS hdS) (fun v' L' ⟨ob', e, _⟩ => by subst e; exact (fun w hO => Own.take hO (by simp) (by simp))) (fun v2 L2 hv2 => ?_)
        obtain ⟨ob2, rfl, hs2⟩ := hv2
        refine hl_take 11 _ (v2) rfl (by kernel_rfl) (by kernel_rfl) (by kernel_rfl) (pq_block (pq_seq (pq_round (pq_block (pq_seq pq_body))))) (fun w hO => Own.take hO (by simp) (by simp)) (by kernel_rfl) (fun _ _ => by kernel_rfl) ?_
        refine h_done (by kernel_rfl) ?_
        refine fin_block ?_
        refine fin_seq ?_
        refine ok_region ?_
        refine s_val (.int .i64 (k : Int)) (by kernel_rfl) (fun _ => by kernel_rfl) ?_
        refine s_sum (k := .i64) (((k + 1 : Nat) : Int)) (by kernel_rfl) (fun _ => by kernel_rfl) (IntWalk.i64_in _ (by omega)) ?_
        refine s_val (.int .i64 ((k + 1 : Nat) : Int)) (by kernel_rfl) (fun _ => by kernel_rfl) ?_
        refine s_nil ?_
        exact fin_round (m' := cs.length - (k + 1)) (by omega) ⟨k + 1, v2, growL out c d, ob2, _, hrel.grow hk hc hd (by simp [h1, h3, h4]) hcS hdS hs2, rfl, upds_self _ ⟨by kernel_rfl, by kernel_rfl, by kernel_rfl, by kernel_rfl, trivial⟩, rfl⟩
      | false =>
        refine ok_false (by kernel_rfl) ?_
        refine ok_skip ?_
        refine fin_block ?_
        refine fin_seq ?_
        refine ok_region ?_
        refine s_val (.int .i64 (k : Int)) (by kernel_rfl) (fun _ => by kernel_rfl) ?_
        refine s_sum (k := .i64) (((k + 1 : Nat) : Int)) (by kernel_rfl) (fun _ => by kernel_rfl) (IntWalk.i64_in _ (by omega)) ?_
        refine s_val (.int .i64 ((k + 1 : Nat) : Int)) (by kernel_rfl) (fun _ => by kernel_rfl) ?_
        refine s_nil ?_
        exact fin_round (m' := cs.length - (k + 1)) (by omega) ⟨k + 1, v, out, ob, _, hrel.keep hk hc hd (by simp [h1, h3, h4]), rfl, upds_self _ ⟨by kernel_rfl, by kernel_rfl, by kernel_rfl, by kernel_rfl, trivial⟩, rfl⟩
    · skip
      refine s_dec (p := ((k + 1 : Nat) : Int) < (cs.length : Int)) false (by kernel_rfl) (fun _ => by kernel_rfl) (decide_eq_false (h3)) ?_
      refine s_nil ?_
      refine fin_seq ?_
      refine ok_false (by kernel_rfl) ?_
      refine ok_exit ?_
      refine fin_seq_exit ?_
      refine fin_round_exit ?_
      refine fin_block_exit ?_
      refine fin_seq ?_
      refine ok_seq ?_
      refine ok_region ?_
      refine s_val (v) (by kernel_rfl) (fun _ => by kernel_rfl) ?_
      refine s_val (v) (by kernel_rfl) (fun _ => by kernel_rfl) ?_
      refine s_val (.bool true) (by kernel_rfl) (fun _ => by kernel_rfl) ?_
      refine s_nil ?_
      refine fin_seq ?_
      refine ok_ret ?_
      refine fin_ret2 (v) (.bool true) Tryz.results50 (by kernel_rfl) (by kernel_rfl) ?_
      exact fun w hO => ⟨v, ob, by rw [hall], by rw [hall, if_pos rfl, show makeL l = out from by unfold makeL; rw [← hcs, hrel.eq, build_end _ _ _ _ (by omega)]]; exact hrel.sl, hO.sub [_]⟩
end Go.Proofs.YtgeccfdofmnphaaGreat
end

section
/-
  linchpinref4.And, Or.
-/
namespace Go.Proofs.YtgeccfdofmnphaaGreat
open Go.RowKit
set_option maxRecDepth 100000
set_option linter.unusedVariables false
set_option linter.unusedSimpArgs false
set_option maxHeartbeats 2000000

theorem both_short {a b : List Sp} (ha : ShortL a) (hb : ShortL b) : ShortL (a ++ b) := fun s hs => by
  rcases List.mem_append.1 hs with h | h
  · exact ha s h
  · exact hb s h

end Go.Proofs.YtgeccfdofmnphaaGreat
end

section
/-
  linchpinref4.Within.
-/
namespace Go.Proofs.YtgeccfdofmnphaaGreat
open Go.RowKit
set_option maxRecDepth 100000
set_option linter.unusedVariables false
set_option linter.unusedSimpArgs false
set_option maxHeartbeats 2000000

theorem build_len (p : Cu → Cu → Bool) : ∀ (cs : List Cu) (out : List Sp), (buildL p out cs).length ≤ out.length + cs.length
  | [], out => by unfold buildL; simp
  | [c], out => by unfold buildL; simp
  | c :: d :: r, out => by
    have ih := build_len p (d :: r) (if p c d then growL out c d else out)
    unfold buildL
    have : (if p c d = true then growL out c d else out).length ≤ out.length + 1 := by
      split
      · exact grow_len out c d
      · omega
    simp only [List.length_cons] at ih ⊢
    omega
end Go.Proofs.YtgeccfdofmnphaaGreat
end

section
/-
  linchpinlaw0's Version and Cut at any place: the version, the cut that the list's numbers name.
-/
namespace Go.Proofs.YtgeccfdofmnphaaGreat
open Go.RowKit
set_option linter.unusedSimpArgs false
set_option maxRecDepth 100000
set_option linter.unusedVariables false
set_option maxHeartbeats 2000000

theorem from_in {W : World} {v : Value} {l : List Int} (hv : ReadsI W W.heap.size v l) (hl : l.length ≤ 9223372036854775807) (i : Nat) (n : Int) (hi : i ≤ 1000000) (hn : 0 < n) (hn2 : n ≤ 1000000) {k : Int} (hk : plc (atL l i) n = k) :
    ∀ w, Below W.heap.size W w → Calls Tryz.prog 75 #[v, .int .i64 i, .int .i64 n] w fun e w' => e = .returned (.int .i64 k) ∧ Below w.heap.size w w' := fun w hb => by
  have h := from_any v l i n w ((hv.below hb).more hb.size) hl hi hn hn2
  rw [hk] at h
  exact h.mono fun _ _ ⟨e1, e2⟩ => ⟨e1, e2 ▸ Below.refl _ _⟩
theorem plc_nat' (v : Int) (n : Nat) (hn : 0 < n) : ∃ k : Nat, plc v n = (k : Int) ∧ k < n := by
  have h := plc_in v n (by omega)
  exact ⟨(plc v n).toNat, (Int.toNat_of_nonneg h.1).symm, by omega⟩
theorem rd_num : ∀ (k : Nat), k < 8 → readAt Tryz.prog 3 #[.int .i64 0, .int .i64 1, .int .i64 2, .int .i64 3, .int .i64 0, .int .i64 1, .int .i64 10, .int .i64 9999] k = some (.int .i64 (numT k))
  | 0, _ => by kernel_rfl
  | 1, _ => by kernel_rfl
  | 2, _ => by kernel_rfl
  | 3, _ => by kernel_rfl
  | 4, _ => by kernel_rfl
  | 5, _ => by kernel_rfl
  | 6, _ => by kernel_rfl
  | 7, _ => by kernel_rfl
theorem rd_pre : ∀ (k : Nat), k < 14 → readAt Tryz.prog 9 #[.string ⟨#[]⟩, .string ⟨#[]⟩, .string ⟨#[]⟩, .string ⟨#[]⟩, .string ⟨#[48]⟩, .string ⟨#[49]⟩, .string ⟨#[50]⟩, .string ⟨#[49, 49]⟩, .string ⟨#[97]⟩, .string ⟨#[97, 46, 49]⟩, .string ⟨#[97, 46, 98]⟩, .string ⟨#[98]⟩, .string ⟨#[48, 46, 48]⟩, .string ⟨#[114, 99, 46, 49]⟩] k = some (.string (mkS (preT14 k)))
  | 0, _ => by kernel_rfl
  | 1, _ => by kernel_rfl
  | 2, _ => by kernel_rfl
  | 3, _ => by kernel_rfl
  | 4, _ => by kernel_rfl
  | 5, _ => by kernel_rfl
  | 6, _ => by kernel_rfl
  | 7, _ => by kernel_rfl
  | 8, _ => by kernel_rfl
  | 9, _ => by kernel_rfl
  | 10, _ => by kernel_rfl
  | 11, _ => by kernel_rfl
  | 12, _ => by kernel_rfl
  | 13, _ => by kernel_rfl
theorem rd_bld : ∀ (k : Nat), k < 6 → readAt Tryz.prog 9 #[.string ⟨#[]⟩, .string ⟨#[]⟩, .string ⟨#[]⟩, .string ⟨#[]⟩, .string ⟨#[48, 48, 55]⟩, .string ⟨#[120, 46, 49]⟩] k = some (.string (mkS (bldT k)))
  | 0, _ => by kernel_rfl
  | 1, _ => by kernel_rfl
  | 2, _ => by kernel_rfl
  | 3, _ => by kernel_rfl
  | 4, _ => by kernel_rfl
  | 5, _ => by kernel_rfl

theorem gen_any (v : Value) (l : List Int) (i : Nat) (W : World) (hv : ReadsI W W.heap.size v l) (hl : l.length ≤ 9223372036854775807) (hi : i ≤ 100000) :
    Calls Tryz.prog 35 #[v, .int .i64 (i : Int)] W fun e w' => e = .returned (verV (genV l i)) ∧ Below W.heap.size W w' := by
  obtain ⟨k0, e0, q0⟩ := plc_nat' (atL l i) 8 (by omega)
  have f0 := from_in hv hl i 8 (by omega) (by omega) (by omega) e0
  obtain ⟨k1, e1, q1⟩ := plc_nat' (atL l (i + 1)) 8 (by omega)
  have f1 := from_in hv hl (i + 1) 8 (by omega) (by omega) (by omega) e1
  obtain ⟨k2, e2, q2⟩ := plc_nat' (atL l (i + 2)) 8 (by omega)
  have f2 := from_in hv hl (i + 2) 8 (by omega) (by omega) (by omega) e2
  obtain ⟨k3, e3, q3⟩ := plc_nat' (atL l (i + 3)) 14 (by omega)
  have f3 := from_in hv hl (i + 3) 14 (by omega) (by omega) (by omega) e3
  obtain ⟨k4, e4, q4⟩ := plc_nat' (atL l (i + 4)) 6 (by omega)
  have f4 := from_in hv hl (i + 4) 6 (by omega) (by omega) (by omega) e4
  have hg : genV l i = ⟨numT k0, numT k1, numT k2, preT14 k3, bldT k4⟩ := by unfold genV; rw [show plc (atL l i) 8 = _ from e0, show plc (atL l (i + 1)) 8 = _ from e1, show plc (atL l (i + 2)) 8 = _ from e2, show plc (atL l (i + 3)) 14 = _ from e3, show plc (atL l (i + 4)) 6 = _ from e4]; rfl
  rw [hg]
  refine calls_ok (n := 41) Tryz.func35 rfl (by kernel_rfl) (by kernel_rfl) ?_
  refine ok_seq ?_
  refine ok_region ?_
  refine s_alloc_at (.agg #[.int .i64 0, .int .i64 0, .int .i64 0, .string ⟨#[]⟩, .string ⟨#[]⟩]) (by kernel_rfl) rfl (by kernel_rfl) (fun b1 => ?_)
  refine s_nil ?_
  refine fin_seq ?_
  refine ok_seq ?_
  refine ok_region ?_
  refine s_val (.agg #[.int .i64 0, .int .i64 1, .int .i64 2, .int .i64 3, .int .i64 0, .int .i64 1, .int .i64 10, .int .i64 9999]) (by kernel_rfl) (fun _ => by kernel_rfl) ?_
  refine s_alloc_at (.agg #[.int .i64 0, .int .i64 0, .int .i64 0, .int .i64 0, .int .i64 0, .int .i64 0, .int .i64 0, .int .i64 0]) (by kernel_rfl) rfl (by kernel_rfl) (fun b2 => ?_)
  refine s_store_at 0 ⟨b2, #[.int .i64 0, .int .i64 0, .int .i64 0, .int .i64 0, .int .i64 0, .int .i64 0, .int .i64 0, .int .i64 0], 64⟩ (off := 0) (.agg #[.int .i64 0, .int .i64 1, .int .i64 2, .int .i64 3, .int .i64 0, .int .i64 1, .int .i64 10, .int .i64 9999]) (by kernel_rfl) rfl rfl (by kernel_rfl) (by kernel_rfl) (by kernel_rfl) (by kernel_rfl) (by kernel_rfl) ?_
  refine s_nil ?_
  refine fin_seq ?_
  refine ok_seq ?_
  refine ok_region ?_
  refine s_val (.agg #[.string ⟨#[]⟩, .string ⟨#[]⟩, .string ⟨#[]⟩, .string ⟨#[]⟩, .string ⟨#[48]⟩, .string ⟨#[49]⟩, .string ⟨#[50]⟩, .string ⟨#[49, 49]⟩, .string ⟨#[97]⟩, .string ⟨#[97, 46, 49]⟩, .string ⟨#[97, 46, 98]⟩, .string ⟨#[98]⟩, .string ⟨#[48, 46, 48]⟩, .string ⟨#[114, 99, 46, 49]⟩]) (by kernel_rfl) (fun _ => by kernel_rfl) ?_
  refine s_alloc_at (.agg #[.string ⟨#[]⟩, .string ⟨#[]⟩, .string ⟨#[]⟩, .string ⟨#[]⟩, .string ⟨#[]⟩, .string ⟨#[]⟩, .string ⟨#[]⟩, .string ⟨#[]⟩, .string ⟨#[]⟩, .string ⟨#[]⟩, .string ⟨#[]⟩, .string ⟨#[]⟩, .string ⟨#[]⟩, .string ⟨#[]⟩]) (by kernel_rfl) rfl (by kernel_rfl) (fun b3 => ?_)
  refine s_store_at 0 ⟨b3, #[.string ⟨#[]⟩, .string ⟨#[]⟩, .string ⟨#[]⟩, .string ⟨#[]⟩, .string ⟨#[]⟩, .string ⟨#[]⟩, .string ⟨#[]⟩, .string ⟨#[]⟩, .string ⟨#[]⟩, .string ⟨#[]⟩, .string ⟨#[]⟩, .string ⟨#[]⟩, .string ⟨#[]⟩, .string ⟨#[]⟩], 65⟩ (off := 0) (.agg #[.string ⟨#[]⟩, .string ⟨#[]⟩, .string ⟨#[]⟩, .string ⟨#[]⟩, .string ⟨#[48]⟩, .string ⟨#[49]⟩, .string ⟨#[50]⟩, .string ⟨#[49, 49]⟩, .string ⟨#[97]⟩, .string ⟨#[97, 46, 49]⟩, .string ⟨#[97, 46, 98]⟩, .string ⟨#[98]⟩, .string ⟨#[48, 46, 48]⟩, .string ⟨#[114, 99, 46, 49]⟩]) (by kernel_rfl) rfl rfl (by kernel_rfl) (by kernel_rfl) (by kernel_rfl) (by kernel_rfl) (by kernel_rfl) ?_
  refine s_nil ?_
  refine fin_seq ?_
  refine ok_seq ?_
  refine ok_region ?_
  refine s_val (.agg #[.string ⟨#[]⟩, .string ⟨#[]⟩, .string ⟨#[]⟩, .string ⟨#[]⟩, .string ⟨#[48, 48, 55]⟩, .string ⟨#[120, 46, 49]⟩]) (by kernel_rfl) (fun _ => by kernel_rfl) ?_
  refine s_alloc_at (.agg #[.string ⟨#[]⟩, .string ⟨#[]⟩, .string ⟨#[]⟩, .string ⟨#[]⟩, .string ⟨#[]⟩, .string ⟨#[]⟩]) (by kernel_rfl) rfl (by kernel_rfl) (fun b4 => ?_)
  refine s_store_at 0 ⟨b4, #[.string ⟨#[]⟩, .string ⟨#[]⟩, .string ⟨#[]⟩, .string ⟨#[]⟩, .string ⟨#[]⟩, .string ⟨#[]⟩], 66⟩ (off := 0) (.agg #[.string ⟨#[]⟩, .string ⟨#[]⟩, .string ⟨#[]⟩, .string ⟨#[]⟩, .string ⟨#[48, 48, 55]⟩, .string ⟨#[120, 46, 49]⟩]) (by kernel_rfl) rfl rfl (by kernel_rfl) (by kernel_rfl) (by kernel_rfl) (by kernel_rfl) (by kernel_rfl) ?_
  refine s_nil ?_
  refine fin_seq ?_
  refine ok_seq ?_
  refine ok_drawt 30 (by kernel_rfl) (by kernel_rfl) (by kernel_rfl) ?_
  simp only [List.take_succ_cons, List.take_zero, List.drop_succ_cons, List.drop_zero]
  refine q_val (v) (by kernel_rfl) (fun _ => by kernel_rfl) ?_
  refine q_val (.int .i64 ((i : Nat) : Int)) (by kernel_rfl) (fun _ => by kernel_rfl) ?_
  refine q_call (k := 75) (args := #[v, .int .i64 ((i : Nat) : Int), .int .i64 8]) (.int .i64 (k0 : Int)) (by kernel_rfl) (fun _ => by kernel_rfl) (fun w hO => f0 w hO.below) ?_
  refine q_val (.pointer (some ⟨b2, k0, none⟩)) (by kernel_rfl) (run_ixarr (b := b2) (off := 0) (k := .i64) (j := (k0 : Int)) (n := 8) (e := 3) (sz := 1) rfl (by kernel_rfl) (by kernel_rfl) (by kernel_rfl) (by kernel_rfl) (by omega) (by omega) (by omega)) ?_
  refine q_load 2 ⟨b2, #[.int .i64 0, .int .i64 1, .int .i64 2, .int .i64 3, .int .i64 0, .int .i64 1, .int .i64 10, .int .i64 9999], 64⟩ (off := k0) (.int .i64 (numT k0)) (by kernel_rfl) rfl (by kernel_rfl) (by kernel_rfl) (rd_num k0 q0) ?_
  refine q_val (v) (by kernel_rfl) (fun _ => by kernel_rfl) ?_
  refine q_val (.int .i64 ((i : Nat) : Int)) (by kernel_rfl) (fun _ => by kernel_rfl) ?_
  refine q_sum (k := .i64) (((i + 1 : Nat) : Int)) (by kernel_rfl) (fun _ => by kernel_rfl) (IntWalk.i64_in _ (by omega)) ?_
  refine q_call (k := 75) (args := #[v, .int .i64 ((i + 1 : Nat) : Int), .int .i64 8]) (.int .i64 (k1 : Int)) (by kernel_rfl) (fun _ => by kernel_rfl) (fun w hO => f1 w hO.below) ?_
  refine q_val (.pointer (some ⟨b2, k1, none⟩)) (by kernel_rfl) (run_ixarr (b := b2) (off := 0) (k := .i64) (j := (k1 : Int)) (n := 8) (e := 3) (sz := 1) rfl (by kernel_rfl) (by kernel_rfl) (by kernel_rfl) (by kernel_rfl) (by omega) (by omega) (by omega)) ?_
  refine q_load 2 ⟨b2, #[.int .i64 0, .int .i64 1, .int .i64 2, .int .i64 3, .int .i64 0, .int .i64 1, .int .i64 10, .int .i64 9999], 64⟩ (off := k1) (.int .i64 (numT k1)) (by kernel_rfl) rfl (by kernel_rfl) (by kernel_rfl) (rd_num k1 q1) ?_
  refine q_val (v) (by kernel_rfl) (fun _ => by kernel_rfl) ?_
  refine q_val (.int .i64 ((i : Nat) : Int)) (by kernel_rfl) (fun _ => by kernel_rfl) ?_
  refine q_sum (k := .i64) (((i + 2 : Nat) : Int)) (by kernel_rfl) (fun _ => by kernel_rfl) (IntWalk.i64_in _ (by omega)) ?_
  refine q_call (k := 75) (args := #[v, .int .i64 ((i + 2 : Nat) : Int), .int .i64 8]) (.int .i64 (k2 : Int)) (by kernel_rfl) (fun _ => by kernel_rfl) (fun w hO => f2 w hO.below) ?_
  refine q_val (.pointer (some ⟨b2, k2, none⟩)) (by kernel_rfl) (run_ixarr (b := b2) (off := 0) (k := .i64) (j := (k2 : Int)) (n := 8) (e := 3) (sz := 1) rfl (by kernel_rfl) (by kernel_rfl) (by kernel_rfl) (by kernel_rfl) (by omega) (by omega) (by omega)) ?_
  refine q_load 2 ⟨b2, #[.int .i64 0, .int .i64 1, .int .i64 2, .int .i64 3, .int .i64 0, .int .i64 1, .int .i64 10, .int .i64 9999], 64⟩ (off := k2) (.int .i64 (numT k2)) (by kernel_rfl) rfl (by kernel_rfl) (by kernel_rfl) (rd_num k2 q2) ?_
  refine q_val (v) (by kernel_rfl) (fun _ => by kernel_rfl) ?_
  refine q_val (.int .i64 ((i : Nat) : Int)) (by kernel_rfl) (fun _ => by kernel_rfl) ?_
  refine q_sum (k := .i64) (((i + 3 : Nat) : Int)) (by kernel_rfl) (fun _ => by kernel_rfl) (IntWalk.i64_in _ (by omega)) ?_
  refine q_call (k := 75) (args := #[v, .int .i64 ((i + 3 : Nat) : Int), .int .i64 14]) (.int .i64 (k3 : Int)) (by kernel_rfl) (fun _ => by kernel_rfl) (fun w hO => f3 w hO.below) ?_
  refine q_val (.pointer (some ⟨b3, k3, none⟩)) (by kernel_rfl) (run_ixarr (b := b3) (off := 0) (k := .i64) (j := (k3 : Int)) (n := 14) (e := 9) (sz := 1) rfl (by kernel_rfl) (by kernel_rfl) (by kernel_rfl) (by kernel_rfl) (by omega) (by omega) (by omega)) ?_
  refine q_load 1 ⟨b3, #[.string ⟨#[]⟩, .string ⟨#[]⟩, .string ⟨#[]⟩, .string ⟨#[]⟩, .string ⟨#[48]⟩, .string ⟨#[49]⟩, .string ⟨#[50]⟩, .string ⟨#[49, 49]⟩, .string ⟨#[97]⟩, .string ⟨#[97, 46, 49]⟩, .string ⟨#[97, 46, 98]⟩, .string ⟨#[98]⟩, .string ⟨#[48, 46, 48]⟩, .string ⟨#[114, 99, 46, 49]⟩], 65⟩ (off := k3) (.string (mkS (preT14 k3))) (by kernel_rfl) rfl (by kernel_rfl) (by kernel_rfl) (rd_pre k3 q3) ?_
  refine q_val (v) (by kernel_rfl) (fun _ => by kernel_rfl) ?_
  refine q_val (.int .i64 ((i : Nat) : Int)) (by kernel_rfl) (fun _ => by kernel_rfl) ?_
  refine q_sum (k := .i64) (((i + 4 : Nat) : Int)) (by kernel_rfl) (fun _ => by kernel_rfl) (IntWalk.i64_in _ (by omega)) ?_
  refine q_call (k := 75) (args := #[v, .int .i64 ((i + 4 : Nat) : Int), .int .i64 6]) (.int .i64 (k4 : Int)) (by kernel_rfl) (fun _ => by kernel_rfl) (fun w hO => f4 w hO.below) ?_
  refine q_val (.pointer (some ⟨b4, k4, none⟩)) (by kernel_rfl) (run_ixarr (b := b4) (off := 0) (k := .i64) (j := (k4 : Int)) (n := 6) (e := 9) (sz := 1) rfl (by kernel_rfl) (by kernel_rfl) (by kernel_rfl) (by kernel_rfl) (by omega) (by omega) (by omega)) ?_
  refine q_load 0 ⟨b4, #[.string ⟨#[]⟩, .string ⟨#[]⟩, .string ⟨#[]⟩, .string ⟨#[]⟩, .string ⟨#[48, 48, 55]⟩, .string ⟨#[120, 46, 49]⟩], 66⟩ (off := k4) (.string (mkS (bldT k4))) (by kernel_rfl) rfl (by kernel_rfl) (by kernel_rfl) (rd_bld k4 q4) ?_
  refine q_val (.agg #[.int .i64 (numT k0), .int .i64 (numT k1), .int .i64 (numT k2), .string (mkS (preT14 k3)), .string (mkS (bldT k4))]) (by kernel_rfl) (fun _ => by kernel_rfl) ?_
  refine q_nil ?_
  refine s_store_at 3 ⟨b1, #[.int .i64 0, .int .i64 0, .int .i64 0, .string ⟨#[]⟩, .string ⟨#[]⟩], 26⟩ (off := 0) (.agg #[.int .i64 (numT k0), .int .i64 (numT k1), .int .i64 (numT k2), .string (mkS (preT14 k3)), .string (mkS (bldT k4))]) (by kernel_rfl) rfl rfl (by kernel_rfl) (by kernel_rfl) (by kernel_rfl) (by kernel_rfl) (by kernel_rfl) ?_
  refine s_nil ?_
  refine fin_seq ?_
  refine ok_ret ?_
  refine fin_cell 3 ⟨b1, #[.int .i64 (numT k0), .int .i64 (numT k1), .int .i64 (numT k2), .string (mkS (preT14 k3)), .string (mkS (bldT k4))], 26⟩ (off := 0) (.agg #[.int .i64 (numT k0), .int .i64 (numT k1), .int .i64 (numT k2), .string (mkS (preT14 k3)), .string (mkS (bldT k4))]) Tryz.results35 (by kernel_rfl) (by kernel_rfl) (by kernel_rfl) ?_
  exact fun w hO => ⟨rfl, hO.below⟩
theorem genC_any (v : Value) (l : List Int) (i : Nat) (W : World) (hv : ReadsI W W.heap.size v l) (hl : l.length ≤ 9223372036854775807) (hi : i ≤ 100000) :
    Calls Tryz.prog 108 #[v, .int .i64 (i : Int)] W fun e w' => e = .returned (cutV (genC l i)) ∧ Below W.heap.size W w' := by
  obtain ⟨k0, e0, q0⟩ := plc_nat' (atL l (i + 5)) 9 (by omega)
  have f0 := from_in hv hl (i + 5) 9 (by omega) (by omega) (by omega) e0
  obtain ⟨k1, e1, q1⟩ := plc_nat' (atL l (i + 5)) 2 (by omega)
  have f1 := from_in hv hl (i + 5) 2 (by omega) (by omega) (by omega) e1
  refine calls_ok (n := 28) Tryz.func108 rfl (by kernel_rfl) (by kernel_rfl) ?_
  refine ok_seq ?_
  refine ok_region ?_
  refine s_alloc_at (.agg #[.int .i64 0, .int .i64 0, .int .i64 0, .int .i64 0, .string ⟨#[]⟩, .string ⟨#[]⟩, .bool false]) (by kernel_rfl) rfl (by kernel_rfl) (fun b1 => ?_)
  refine s_nil ?_
  refine fin_seq ?_
  refine ok_seq ?_
  refine ok_seq ?_
  refine ok_region ?_
  refine s_val (v) (by kernel_rfl) (fun _ => by kernel_rfl) ?_
  refine s_val (.int .i64 ((i : Nat) : Int)) (by kernel_rfl) (fun _ => by kernel_rfl) ?_
  refine s_sum (k := .i64) (((i + 5 : Nat) : Int)) (by kernel_rfl) (fun _ => by kernel_rfl) (IntWalk.i64_in _ (by omega)) ?_
  refine s_call (k := 75) (args := #[v, .int .i64 ((i + 5 : Nat) : Int), .int .i64 9]) (.int .i64 (k0 : Int)) (by kernel_rfl) (fun _ => by kernel_rfl) (fun w hO => f0 w hO.below) ?_
  refine s_val (.int .i64 (k0 : Int)) (by kernel_rfl) (fun _ => by kernel_rfl) ?_
  refine s_nil ?_
  refine fin_seq ?_
  refine ok_seq ?_
  refine ok_region ?_
  refine s_val (.int .i64 (k0 : Int)) (by kernel_rfl) (fun _ => by kernel_rfl) ?_
  by_cases h1 : ((k0 : Int) : Int) < 2
  · skip
    refine s_dec (p := ((k0 : Int) : Int) < 2) true (by kernel_rfl) (fun _ => by kernel_rfl) (decide_eq_true (h1)) ?_
    refine s_nil ?_
    refine fin_seq ?_
    refine ok_true (by kernel_rfl) ?_
    refine ok_seq ?_
    refine ok_region ?_
    refine s_val (.int .i64 (k0 : Int)) (by kernel_rfl) (fun _ => by kernel_rfl) ?_
    refine s_sum (k := .i64) ((2 : Int) * (k0 : Int)) (by kernel_rfl) (fun _ => by kernel_rfl) (IntWalk.i64_in _ (by omega)) ?_
    refine s_sum (k := .i64) ((((2 : Int) * (k0 : Int)) : Int) - 1) (by kernel_rfl) (fun _ => by kernel_rfl) (IntWalk.i64_in _ (by omega)) ?_
    refine s_val (.agg #[.int .i64 ((((2 : Int) * (k0 : Int)) : Int) - 1), .int .i64 0, .int .i64 0, .int .i64 0, .string ⟨#[]⟩, .string ⟨#[]⟩, .bool false]) (by kernel_rfl) (fun _ => by kernel_rfl) ?_
    refine s_store_at 0 ⟨b1, #[.int .i64 0, .int .i64 0, .int .i64 0, .int .i64 0, .string ⟨#[]⟩, .string ⟨#[]⟩, .bool false], 48⟩ (off := 0) (.agg #[.int .i64 ((((2 : Int) * (k0 : Int)) : Int) - 1), .int .i64 0, .int .i64 0, .int .i64 0, .string ⟨#[]⟩, .string ⟨#[]⟩, .bool false]) (by kernel_rfl) rfl rfl (by kernel_rfl) (by kernel_rfl) (by kernel_rfl) (by kernel_rfl) (by kernel_rfl) ?_
    refine s_nil ?_
    refine fin_seq ?_
    refine ok_ret ?_
    refine fin_seq_ret ?_
    refine fin_cell 0 ⟨b1, #[.int .i64 ((((2 : Int) * (k0 : Int)) : Int) - 1), .int .i64 0, .int .i64 0, .int .i64 0, .string ⟨#[]⟩, .string ⟨#[]⟩, .bool false], 48⟩ (off := 0) (.agg #[.int .i64 ((((2 : Int) * (k0 : Int)) : Int) - 1), .int .i64 0, .int .i64 0, .int .i64 0, .string ⟨#[]⟩, .string ⟨#[]⟩, .bool false]) Tryz.results108 (by kernel_rfl) (by kernel_rfl) (by kernel_rfl) ?_
    exact fun w hO => ⟨by rw [show cutV (genC l i) = .agg #[.int .i64 ((((2 : Int) * (k0 : Int)) : Int) - 1), .int .i64 0, .int .i64 0, .int .i64 0, .string ⟨#[]⟩, .string ⟨#[]⟩, .bool false] from by unfold genC; rw [show plc (atL l (i + 5)) 9 = _ from e0, show plc (atL l (i + 5)) 2 = _ from e1]; simp [h1]; rfl], hO.below⟩
  · skip
    refine s_dec (p := ((k0 : Int) : Int) < 2) false (by kernel_rfl) (fun _ => by kernel_rfl) (decide_eq_false (h1)) ?_
    refine s_nil ?_
    refine fin_seq ?_
    refine ok_false (by kernel_rfl) ?_
    refine ok_skip ?_
    refine fin_seq ?_
    refine ok_seq ?_
    refine ok_region ?_
    refine s_val (v) (by kernel_rfl) (fun _ => by kernel_rfl) ?_
    refine s_val (.int .i64 ((i : Nat) : Int)) (by kernel_rfl) (fun _ => by kernel_rfl) ?_
    refine s_call (k := 35) (args := #[v, .int .i64 ((i : Nat) : Int)]) (verV (genV l i)) (by kernel_rfl) (fun _ => by kernel_rfl) (fun w hO => gen_any v l i w ((hv.below hO.below).more hO.below.size) hl (by omega)) ?_
    refine s_alloc_at (.agg #[.int .i64 0, .int .i64 0, .int .i64 0, .string ⟨#[]⟩, .string ⟨#[]⟩]) (by kernel_rfl) rfl (by kernel_rfl) (fun b2 => ?_)
    refine s_store_at 0 ⟨b2, #[.int .i64 0, .int .i64 0, .int .i64 0, .string ⟨#[]⟩, .string ⟨#[]⟩], 26⟩ (off := 0) (verV (genV l i)) (by kernel_rfl) rfl rfl (by kernel_rfl) (by kernel_rfl) (by kernel_rfl) (by kernel_rfl) (by kernel_rfl) ?_
    refine s_nil ?_
    refine fin_seq ?_
    refine ok_seq ?_
    refine ok_region ?_
    refine s_val (.pointer (some ⟨b2, 4, none⟩)) (by kernel_rfl) (fun _ => by kernel_rfl) ?_
    refine s_store_at 0 ⟨b2, (verV (genV l i)).cells, 26⟩ (off := 4) (.string ⟨#[]⟩) (by kernel_rfl) rfl rfl (by kernel_rfl) (by kernel_rfl) (by kernel_rfl) (by kernel_rfl) (by kernel_rfl) ?_
    refine s_nil ?_
    refine fin_seq ?_
    refine ok_seq ?_
    refine ok_drawt 7 (by kernel_rfl) (by kernel_rfl) (by kernel_rfl) ?_
    simp only [List.take_succ_cons, List.take_zero, List.drop_succ_cons, List.drop_zero]
    refine q_load 0 ⟨b2, #[.int .i64 ((genV l i).maj), .int .i64 ((genV l i).min), .int .i64 ((genV l i).pat), .string (mkS (genV l i).pre), .string ⟨#[]⟩], 26⟩ (off := 0) (.agg #[.int .i64 ((genV l i).maj), .int .i64 ((genV l i).min), .int .i64 ((genV l i).pat), .string (mkS (genV l i).pre), .string ⟨#[]⟩]) (by kernel_rfl) rfl (by kernel_rfl) (by kernel_rfl) (by kernel_rfl) ?_
    refine q_val (v) (by kernel_rfl) (fun _ => by kernel_rfl) ?_
    refine q_val (.int .i64 ((i : Nat) : Int)) (by kernel_rfl) (fun _ => by kernel_rfl) ?_
    refine q_sum (k := .i64) (((i + 5 : Nat) : Int)) (by kernel_rfl) (fun _ => by kernel_rfl) (IntWalk.i64_in _ (by omega)) ?_
    refine q_call (k := 75) (args := #[v, .int .i64 ((i + 5 : Nat) : Int), .int .i64 2]) (.int .i64 (k1 : Int)) (by kernel_rfl) (fun _ => by kernel_rfl) (fun w hO => f1 w hO.below) ?_
    by_cases h2 : ((k1 : Int) : Int) = 1
    · skip
      refine q_dec (p := ((k1 : Int) : Int) = 1) true (by kernel_rfl) (fun _ => by kernel_rfl) (decide_eq_true (h2)) ?_
      refine q_val (.agg #[.int .i64 0, .int .i64 ((genV l i).maj), .int .i64 ((genV l i).min), .int .i64 ((genV l i).pat), .string (mkS (genV l i).pre), .string ⟨#[]⟩, .bool true]) (by kernel_rfl) (fun _ => by kernel_rfl) ?_
      refine q_nil ?_
      refine s_store_at 1 ⟨b1, #[.int .i64 0, .int .i64 0, .int .i64 0, .int .i64 0, .string ⟨#[]⟩, .string ⟨#[]⟩, .bool false], 48⟩ (off := 0) (.agg #[.int .i64 0, .int .i64 ((genV l i).maj), .int .i64 ((genV l i).min), .int .i64 ((genV l i).pat), .string (mkS (genV l i).pre), .string ⟨#[]⟩, .bool true]) (by kernel_rfl) rfl rfl (by kernel_rfl) (by kernel_rfl) (by kernel_rfl) (by kernel_rfl) (by kernel_rfl) ?_
      refine s_nil ?_
      refine fin_seq ?_
      refine ok_ret ?_
      refine fin_cell 1 ⟨b1, #[.int .i64 0, .int .i64 ((genV l i).maj), .int .i64 ((genV l i).min), .int .i64 ((genV l i).pat), .string (mkS (genV l i).pre), .string ⟨#[]⟩, .bool true], 48⟩ (off := 0) (.agg #[.int .i64 0, .int .i64 ((genV l i).maj), .int .i64 ((genV l i).min), .int .i64 ((genV l i).pat), .string (mkS (genV l i).pre), .string ⟨#[]⟩, .bool true]) Tryz.results108 (by kernel_rfl) (by kernel_rfl) (by kernel_rfl) ?_
      exact fun w hO => ⟨by rw [show cutV (genC l i) = .agg #[.int .i64 0, .int .i64 ((genV l i).maj), .int .i64 ((genV l i).min), .int .i64 ((genV l i).pat), .string (mkS (genV l i).pre), .string ⟨#[]⟩, .bool true] from by unfold genC; rw [show plc (atL l (i + 5)) 9 = _ from e0, show plc (atL l (i + 5)) 2 = _ from e1]; simp [h1, h2]; rfl], hO.below⟩
    · skip
      refine q_dec (p := ((k1 : Int) : Int) = 1) false (by kernel_rfl) (fun _ => by kernel_rfl) (decide_eq_false (h2)) ?_
      refine q_val (.agg #[.int .i64 0, .int .i64 ((genV l i).maj), .int .i64 ((genV l i).min), .int .i64 ((genV l i).pat), .string (mkS (genV l i).pre), .string ⟨#[]⟩, .bool false]) (by kernel_rfl) (fun _ => by kernel_rfl) ?_
      refine q_nil ?_
      refine s_store_at 1 ⟨b1, #[.int .i64 0, .int .i64 0, .int .i64 0, .int .i64 0, .string ⟨#[]⟩, .string ⟨#[]⟩, .bool false], 48⟩ (off := 0) (.agg #[.int .i64 0, .int .i64 ((genV l i).maj), .int .i64 ((genV l i).min), .int .i64 ((genV l i).pat), .string (mkS (genV l i).pre), .string ⟨#[]⟩, .bool false]) (by kernel_rfl) rfl rfl (by kernel_rfl) (by kernel_rfl) (by kernel_rfl) (by kernel_rfl) (by kernel_rfl) ?_
      refine s_nil ?_
      refine fin_seq ?_
      refine ok_ret ?_
      refine fin_cell 1 ⟨b1, #[.int .i64 0, .int .i64 ((genV l i).maj), .int .i64 ((genV l i).min), .int .i64 ((genV l i).pat), .string (mkS (genV l i).pre), .string ⟨#[]⟩, .bool false], 48⟩ (off := 0) (.agg #[.int .i64 0, .int .i64 ((genV l i).maj), .int .i64 ((genV l i).min), .int .i64 ((genV l i).pat), .string (mkS (genV l i).pre), .string ⟨#[]⟩, .bool false]) Tryz.results108 (by kernel_rfl) (by kernel_rfl) (by kernel_rfl) ?_
      exact fun w hO => ⟨by rw [show cutV (genC l i) = .agg #[.int .i64 0, .int .i64 ((genV l i).maj), .int .i64 ((genV l i).min), .int .i64 ((genV l i).pat), .string (mkS (genV l i).pre), .string ⟨#[]⟩, .bool false] from by unfold genC; rw [show plc (atL l (i + 5)) 9 = _ from e0, show plc (atL l (i + 5)) 2 = _ from e1]; simp [h1, h2]; rfl], hO.below⟩
end Go.Proofs.YtgeccfdofmnphaaGreat
end

section
/-
  linchpinlaw0.Spans, Row: the spans, the row that the list's numbers name.
-/
namespace Go.Proofs.YtgeccfdofmnphaaGreat
open Go.RowKit
set_option maxRecDepth 100000
set_option linter.unusedVariables false
set_option linter.unusedSimpArgs false
set_option maxHeartbeats 2000000

theorem Own.mid {M : List Nat} {W w : World} {E ob : List Blk} (h : Own M W w (E ++ ob ++ [])) : Own M W w (ob ++ []) := Own.sub E (by rw [← List.append_assoc]; exact h)
def ordSp (c d : Cu) : Sp := if 0 < cmpC c d then ⟨d, c⟩ else ⟨c, d⟩
def spG (l : List Int) (i n : Nat) : Sp := ordSp (genC l (i + 12 * n - 11)) (genC l (i + 12 * n - 5))
def spansG (l : List Int) (i : Nat) : Nat → List Sp
  | 0 => []
  | n + 1 => (if (spG l i (n + 1)).may then [spG l i (n + 1)] else []) ++ spansG l i n
theorem genC_short (l : List Int) (i : Nat) : (genC l i).short := ⟨by have := genC_pre l i; omega, by have := genC_bld l i; omega⟩
theorem spansG_may (l : List Int) (i : Nat) : ∀ n, ∀ s ∈ spansG l i n, s.may = true
  | 0, s, hs => by simp [spansG] at hs
  | n + 1, s, hs => by
    unfold spansG at hs
    rcases List.mem_append.1 hs with h | h
    · split at h
      · rename_i hm
        obtain rfl : s = _ := by simpa using h
        exact hm
      · simp at h
    · exact spansG_may l i n s h
theorem spansG_len (l : List Int) (i : Nat) : ∀ n, (spansG l i n).length ≤ n
  | 0 => by simp [spansG]
  | n + 1 => by
    have ih := spansG_len l i n
    unfold spansG
    split
    · simp; omega
    · simp; omega
structure SpI (l : List Int) (i N n : Nat) (z : Int) (u : Value) (acc : List Sp) (ob : List Blk) : Prop where
  z : z = (n : Int)
  sl : SlS u acc ob
  len : acc.length + n ≤ N
  eq : acc ++ spansG l i n = spansG l i N
theorem SpI.keep {l : List Int} {i N n : Nat} {z : Int} {u : Value} {acc : List Sp} {ob : List Blk} (h : SpI l i N n z u acc ob) (h0 : 0 < n) {s : Sp} (hs : spG l i n = s) (hm : s.may = false) : SpI l i N (n - 1) (z - 1) u acc ob :=
  ⟨by have := h.z; omega, h.sl, by have := h.len; omega, by
    obtain ⟨m, rfl⟩ : ∃ m, n = m + 1 := ⟨n - 1, by omega⟩
    have e := h.eq
    rw [show spansG l i (m + 1) = (if (spG l i (m + 1)).may then [spG l i (m + 1)] else []) ++ spansG l i m from rfl, hs, hm] at e
    simpa using e⟩
theorem SpI.grow {l : List Int} {i N n : Nat} {z : Int} {u u2 : Value} {acc : List Sp} {ob ob2 : List Blk} (h : SpI l i N n z u acc ob) (h0 : 0 < n) {s : Sp} (hs : spG l i n = s) (hm : s.may = true) (h2 : Sl 50 14 u2 (acc.length + 1) (acc.flatMap spanC ++ spanC s) ob2) : SpI l i N (n - 1) (z - 1) u2 (acc ++ [s]) ob2 :=
  ⟨by have := h.z; omega, h2.to (by simp) (by simp), by have := h.len; simp; omega, by
    obtain ⟨m, rfl⟩ : ∃ m, n = m + 1 := ⟨n - 1, by omega⟩
    have e := h.eq
    rw [show spansG l i (m + 1) = (if (spG l i (m + 1)).may then [spG l i (m + 1)] else []) ++ spansG l i m from rfl, hs, hm] at e
    simpa using e⟩

theorem spans_any (v : Value) (l : List Int) (i most : Nat) (W : World) (hv : ReadsI W W.heap.size v l) (hl : l.length ≤ 9223372036854775807) (hi : i ≤ 50000) (hm : most ≤ 1000) :
    Calls Tryz.prog 76 #[v, .int .i64 (i : Int), .int .i64 (most : Int)] W fun e w' => ∃ v' ob', e = .returned v' ∧ SlS v' (spansG l i (plc (atL l i) (most + 1 : Nat)).toNat) ob' ∧ Own [] W w' ob' := by
  obtain ⟨N, e0, q0⟩ := plc_nat' (atL l i) (most + 1) (by omega)
  have f0 := from_in hv hl i (most + 1 : Nat) (by omega) (by omega) (by omega) e0
  rw [e0, Int.toNat_natCast]
  refine calls_ok (n := 53) Tryz.func76 rfl (by kernel_rfl) (by kernel_rfl) ?_
  refine ok_seq ?_
  refine ok_region ?_
  refine s_val (.slice none 0 0) (by kernel_rfl) (fun _ => by kernel_rfl) ?_
  refine s_nil ?_
  refine fin_seq ?_
  refine ok_seq ?_
  refine ok_region ?_
  refine s_val (.slice none 0 0) (by kernel_rfl) (fun _ => by kernel_rfl) ?_
  refine s_nil ?_
  refine fin_seq ?_
  refine ok_seq ?_
  refine ok_seq ?_
  refine ok_region ?_
  refine s_val (v) (by kernel_rfl) (fun _ => by kernel_rfl) ?_
  refine s_val (.int .i64 (i : Int)) (by kernel_rfl) (fun _ => by kernel_rfl) ?_
  refine s_val (.int .i64 (most : Int)) (by kernel_rfl) (fun _ => by kernel_rfl) ?_
  refine s_sum (k := .i64) (((most + 1 : Nat) : Int)) (by kernel_rfl) (fun _ => by kernel_rfl) (IntWalk.i64_in _ (by omega)) ?_
  refine s_call (k := 75) (args := #[v, .int .i64 (i : Int), .int .i64 ((most + 1 : Nat) : Int)]) (.int .i64 (N : Int)) (by kernel_rfl) (fun _ => by kernel_rfl) (fun w hO => f0 w hO.below) ?_
  refine s_val (.int .i64 (N : Int)) (by kernel_rfl) (fun _ => by kernel_rfl) ?_
  refine s_nil ?_
  refine fin_seq ?_
  refine ok_block ?_
  refine ok_cast (L' := [] ++ []) rfl ?_
  refine ok_loop (fun L f m => ∃ (n : Nat) (z : Int) (u : Value) (acc : List Sp) (ob : List Blk) (j : Nat → Value), (SpI l i N n z u acc ob) ∧ L = ob ++ [] ∧ f = upds j [(0, v), (1, .int .i64 (i : Int)), (7, u), (8, .int .i64 z)] ∧ m = z.toNat) ((N : Int).toNat) ⟨N, _, _, [], [], _, ⟨rfl, Sl.nil _ _, by simp, rfl⟩, rfl, upds_self _ ⟨by kernel_rfl, by kernel_rfl, by kernel_rfl, by kernel_rfl, trivial⟩, rfl⟩ ?_
  rintro L f m ⟨n, z, u, acc, ob, j, hrel, rfl, rfl, rfl⟩
  refine ok_seq ?_
  refine ok_seq ?_
  refine ok_region ?_
  refine s_val (.int .i64 z) (by kernel_rfl) (fun _ => by kernel_rfl) ?_
  by_cases h1 : (0 : Int) < z
  · skip
    have hz := hrel.z
    have hlen := hrel.len
    obtain ⟨c, hc⟩ : ∃ c, genC l (i + 12 * n - 11) = c := ⟨_, rfl⟩
    obtain ⟨d, hd⟩ : ∃ d, genC l (i + 12 * n - 5) = d := ⟨_, rfl⟩
    have hcS : c.short := hc ▸ genC_short l _
    have hdS : d.short := hd ▸ genC_short l _
    have hsp : spG l i n = ordSp c d := by unfold spG; rw [hc, hd]
    refine s_dec (p := (0 : Int) < z) true (by kernel_rfl) (fun _ => by kernel_rfl) (decide_eq_true (h1)) ?_
    refine s_nil ?_
    refine fin_seq ?_
    refine ok_true (by kernel_rfl) ?_
    refine ok_skip ?_
    refine fin_seq ?_
    refine ok_seq ?_
    refine ok_block ?_
    refine ok_seq ?_
    refine ok_region ?_
    refine s_val (v) (by kernel_rfl) (fun _ => by kernel_rfl) ?_
    refine s_val (.int .i64 (i : Int)) (by kernel_rfl) (fun _ => by kernel_rfl) ?_
    refine s_val (.int .i64 z) (by kernel_rfl) (fun _ => by kernel_rfl) ?_
    refine s_sum (k := .i64) ((12 : Int) * z) (by kernel_rfl) (fun _ => by kernel_rfl) (IntWalk.i64_in _ (by omega)) ?_
    refine s_sum (k := .i64) (((i : Int) : Int) + ((12 : Int) * z)) (by kernel_rfl) (fun _ => by kernel_rfl) (IntWalk.i64_in _ (by omega)) ?_
    refine s_sum (k := .i64) (((((i : Int) : Int) + ((12 : Int) * z)) : Int) - 11) (by kernel_rfl) (fun _ => by kernel_rfl) (IntWalk.i64_in _ (by omega)) ?_
    refine s_call (k := 108) (args := #[v, .int .i64 (((((i : Int) : Int) + ((12 : Int) * z)) : Int) - 11)]) (cutV c) (by kernel_rfl) (fun _ => by kernel_rfl) (fun w hO => by rw [show ((((i : Int) : Int) + ((12 : Int) * z)) : Int) - 11 = ((i + 12 * n - 11 : Nat) : Int) from by omega, ← hc]; exact genC_any v l (i + 12 * n - 11) w ((hv.below hO.below).more hO.below.size) hl (by omega)) ?_
    refine s_val (v) (by kernel_rfl) (fun _ => by kernel_rfl) ?_
    refine s_val (.int .i64 (i : Int)) (by kernel_rfl) (fun _ => by kernel_rfl) ?_
    refine s_val (.int .i64 z) (by kernel_rfl) (fun _ => by kernel_rfl) ?_
    refine s_sum (k := .i64) ((12 : Int) * z) (by kernel_rfl) (fun _ => by kernel_rfl) (IntWalk.i64_in _ (by omega)) ?_
    refine s_sum (k := .i64) (((i : Int) : Int) + ((12 : Int) * z)) (by kernel_rfl) (fun _ => by kernel_rfl) (IntWalk.i64_in _ (by omega)) ?_
    refine s_sum (k := .i64) (((((i : Int) : Int) + ((12 : Int) * z)) : Int) - 5) (by kernel_rfl) (fun _ => by kernel_rfl) (IntWalk.i64_in _ (by omega)) ?_
    refine s_call (k := 108) (args := #[v, .int .i64 (((((i : Int) : Int) + ((12 : Int) * z)) : Int) - 5)]) (cutV d) (by kernel_rfl) (fun _ => by kernel_rfl) (fun w hO => by rw [show ((((i : Int) : Int) + ((12 : Int) * z)) : Int) - 5 = ((i + 12 * n - 5 : Nat) : Int) from by omega, ← hd]; exact genC_any v l (i + 12 * n - 5) w ((hv.below hO.below).more hO.below.size) hl (by omega)) ?_
    refine s_val (.agg #[.int .i64 c.e, .int .i64 c.v.maj, .int .i64 c.v.min, .int .i64 c.v.pat, .string (mkS c.v.pre), .string (mkS c.v.build), .bool c.aft, .int .i64 d.e, .int .i64 d.v.maj, .int .i64 d.v.min, .int .i64 d.v.pat, .string (mkS d.v.pre), .string (mkS d.v.build), .bool d.aft]) (by kernel_rfl) (fun _ => by kernel_rfl) ?_
    refine s_alloc_at (.agg #[.int .i64 0, .int .i64 0, .int .i64 0, .int .i64 0, .string ⟨#[]⟩, .string ⟨#[]⟩, .bool false, .int .i64 0, .int .i64 0, .int .i64 0, .int .i64 0, .string ⟨#[]⟩, .string ⟨#[]⟩, .bool false]) (by kernel_rfl) rfl (by kernel_rfl) (fun b1 => ?_)
    refine s_store_at 0 ⟨b1, #[.int .i64 0, .int .i64 0, .int .i64 0, .int .i64 0, .string ⟨#[]⟩, .string ⟨#[]⟩, .bool false, .int .i64 0, .int .i64 0, .int .i64 0, .int .i64 0, .string ⟨#[]⟩, .string ⟨#[]⟩, .bool false], 50⟩ (off := 0) (.agg #[.int .i64 c.e, .int .i64 c.v.maj, .int .i64 c.v.min, .int .i64 c.v.pat, .string (mkS c.v.pre), .string (mkS c.v.build), .bool c.aft, .int .i64 d.e, .int .i64 d.v.maj, .int .i64 d.v.min, .int .i64 d.v.pat, .string (mkS d.v.pre), .string (mkS d.v.build), .bool d.aft]) (by kernel_rfl) rfl rfl (by kernel_rfl) (by kernel_rfl) (by kernel_rfl) (by kernel_rfl) (by kernel_rfl) ?_
    refine s_nil ?_
    refine fin_seq ?_
    refine ok_seq ?_
    refine ok_seq ?_
    refine ok_region ?_
    refine s_val (.pointer (some ⟨b1, 0, none⟩)) (by kernel_rfl) (fun _ => by kernel_rfl) ?_
    refine s_load 0 ⟨b1, #[.int .i64 c.e, .int .i64 c.v.maj, .int .i64 c.v.min, .int .i64 c.v.pat, .string (mkS c.v.pre), .string (mkS c.v.build), .bool c.aft, .int .i64 d.e, .int .i64 d.v.maj, .int .i64 d.v.min, .int .i64 d.v.pat, .string (mkS d.v.pre), .string (mkS d.v.build), .bool d.aft], 50⟩ (off := 0) (.agg #[.int .i64 c.e, .int .i64 c.v.maj, .int .i64 c.v.min, .int .i64 c.v.pat, .string (mkS c.v.pre), .string (mkS c.v.build), .bool c.aft]) (by kernel_rfl) rfl (by kernel_rfl) (by kernel_rfl) (by kernel_rfl) ?_
    refine s_val (.pointer (some ⟨b1, 7, none⟩)) (by kernel_rfl) (fun _ => by kernel_rfl) ?_
    refine s_load 0 ⟨b1, #[.int .i64 c.e, .int .i64 c.v.maj, .int .i64 c.v.min, .int .i64 c.v.pat, .string (mkS c.v.pre), .string (mkS c.v.build), .bool c.aft, .int .i64 d.e, .int .i64 d.v.maj, .int .i64 d.v.min, .int .i64 d.v.pat, .string (mkS d.v.pre), .string (mkS d.v.build), .bool d.aft], 50⟩ (off := 7) (.agg #[.int .i64 d.e, .int .i64 d.v.maj, .int .i64 d.v.min, .int .i64 d.v.pat, .string (mkS d.v.pre), .string (mkS d.v.build), .bool d.aft]) (by kernel_rfl) rfl (by kernel_rfl) (by kernel_rfl) (by kernel_rfl) ?_
    refine s_call (k := 85) (args := #[.agg #[.int .i64 c.e, .int .i64 c.v.maj, .int .i64 c.v.min, .int .i64 c.v.pat, .string (mkS c.v.pre), .string (mkS c.v.build), .bool c.aft], .agg #[.int .i64 d.e, .int .i64 d.v.maj, .int .i64 d.v.min, .int .i64 d.v.pat, .string (mkS d.v.pre), .string (mkS d.v.build), .bool d.aft]]) (.int .i64 (cmpC c d)) (by kernel_rfl) (fun _ => by kernel_rfl) (fun w _ => rcmpC_any c d w hcS hdS) ?_
    by_cases h2 : (0 : Int) < cmpC c d
    · skip
      rw [show ordSp c d = ⟨d, c⟩ from if_pos h2] at hsp
      refine s_dec (p := (0 : Int) < cmpC c d) true (by kernel_rfl) (fun _ => by kernel_rfl) (decide_eq_true (h2)) ?_
      refine s_nil ?_
      refine fin_seq ?_
      refine ok_true (by kernel_rfl) ?_
      refine ok_region ?_
      refine s_val (.pointer (some ⟨b1, 7, none⟩)) (by kernel_rfl) (fun _ => by kernel_rfl) ?_
      refine s_load 0 ⟨b1, #[.int .i64 c.e, .int .i64 c.v.maj, .int .i64 c.v.min, .int .i64 c.v.pat, .string (mkS c.v.pre), .string (mkS c.v.build), .bool c.aft, .int .i64 d.e, .int .i64 d.v.maj, .int .i64 d.v.min, .int .i64 d.v.pat, .string (mkS d.v.pre), .string (mkS d.v.build), .bool d.aft], 50⟩ (off := 7) (.agg #[.int .i64 d.e, .int .i64 d.v.maj, .int .i64 d.v.min, .int .i64 d.v.pat, .string (mkS d.v.pre), .string (mkS d.v.build), .bool d.aft]) (by kernel_rfl) rfl (by kernel_rfl) (by kernel_rfl) (by kernel_rfl) ?_
      refine s_val (.pointer (some ⟨b1, 0, none⟩)) (by kernel_rfl) (fun _ => by kernel_rfl) ?_
      refine s_load 0 ⟨b1, #[.int .i64 c.e, .int .i64 c.v.maj, .int .i64 c.v.min, .int .i64 c.v.pat, .string (mkS c.v.pre), .string (mkS c.v.build), .bool c.aft, .int .i64 d.e, .int .i64 d.v.maj, .int .i64 d.v.min, .int .i64 d.v.pat, .string (mkS d.v.pre), .string (mkS d.v.build), .bool d.aft], 50⟩ (off := 0) (.agg #[.int .i64 c.e, .int .i64 c.v.maj, .int .i64 c.v.min, .int .i64 c.v.pat, .string (mkS c.v.pre), .string (mkS c.v.build), .bool c.aft]) (by kernel_rfl) rfl (by kernel_rfl) (by kernel_rfl) (by kernel_rfl) ?_
      refine s_val (.pointer (some ⟨b1, 0, none⟩)) (by kernel_rfl) (fun _ => by kernel_rfl) ?_
      refine s_store_at 0 ⟨b1, #[.int .i64 c.e, .int .i64 c.v.maj, .int .i64 c.v.min, .int .i64 c.v.pat, .string (mkS c.v.pre), .string (mkS c.v.build), .bool c.aft, .int .i64 d.e, .int .i64 d.v.maj, .int .i64 d.v.min, .int .i64 d.v.pat, .string (mkS d.v.pre), .string (mkS d.v.build), .bool d.aft], 50⟩ (off := 0) (.agg #[.int .i64 d.e, .int .i64 d.v.maj, .int .i64 d.v.min, .int .i64 d.v.pat, .string (mkS d.v.pre), .string (mkS d.v.build), .bool d.aft]) (by kernel_rfl) rfl rfl (by kernel_rfl) (by kernel_rfl) (by kernel_rfl) (by kernel_rfl) (by kernel_rfl) ?_
      refine s_val (.pointer (some ⟨b1, 7, none⟩)) (by kernel_rfl) (fun _ => by kernel_rfl) ?_
      refine s_store_at 0 ⟨b1, #[.int .i64 d.e, .int .i64 d.v.maj, .int .i64 d.v.min, .int .i64 d.v.pat, .string (mkS d.v.pre), .string (mkS d.v.build), .bool d.aft, .int .i64 d.e, .int .i64 d.v.maj, .int .i64 d.v.min, .int .i64 d.v.pat, .string (mkS d.v.pre), .string (mkS d.v.build), .bool d.aft], 50⟩ (off := 7) (.agg #[.int .i64 c.e, .int .i64 c.v.maj, .int .i64 c.v.min, .int .i64 c.v.pat, .string (mkS c.v.pre), .string (mkS c.v.build), .bool c.aft]) (by kernel_rfl) rfl rfl (by kernel_rfl) (by kernel_rfl) (by kernel_rfl) (by kernel_rfl) (by kernel_rfl) ?_
      refine s_nil ?_
      refine fin_seq ?_
      refine ok_seq ?_
      refine ok_region ?_
      refine s_load 0 ⟨b1, #[.int .i64 d.e, .int .i64 d.v.maj, .int .i64 d.v.min, .int .i64 d.v.pat, .string (mkS d.v.pre), .string (mkS d.v.build), .bool d.aft, .int .i64 c.e, .int .i64 c.v.maj, .int .i64 c.v.min, .int .i64 c.v.pat, .string (mkS c.v.pre), .string (mkS c.v.build), .bool c.aft], 50⟩ (off := 0) (.agg #[.int .i64 d.e, .int .i64 d.v.maj, .int .i64 d.v.min, .int .i64 d.v.pat, .string (mkS d.v.pre), .string (mkS d.v.build), .bool d.aft, .int .i64 c.e, .int .i64 c.v.maj, .int .i64 c.v.min, .int .i64 c.v.pat, .string (mkS c.v.pre), .string (mkS c.v.build), .bool c.aft]) (by kernel_rfl) rfl (by kernel_rfl) (by kernel_rfl) (by kernel_rfl) ?_
      refine s_call (k := 49) (args := #[.agg #[.int .i64 d.e, .int .i64 d.v.maj, .int .i64 d.v.min, .int .i64 d.v.pat, .string (mkS d.v.pre), .string (mkS d.v.build), .bool d.aft, .int .i64 c.e, .int .i64 c.v.maj, .int .i64 c.v.min, .int .i64 c.v.pat, .string (mkS c.v.pre), .string (mkS c.v.build), .bool c.aft]]) (.bool ((⟨d, c⟩ : Sp).may)) (by kernel_rfl) (fun _ => by kernel_rfl) (fun w _ => rspanMay_any ⟨d, c⟩ w ⟨hdS, hcS⟩) ?_
      refine s_nil ?_
      refine fin_seq ?_
      cases h3 : (⟨d, c⟩ : Sp).may with
      | true =>
        refine ok_true (by kernel_rfl) ?_
        refine ok_region ?_
        refine s_val (u) (by kernel_rfl) (fun _ => by kernel_rfl) ?_
        refine s_load 0 ⟨b1, #[.int .i64 d.e, .int .i64 d.v.maj, .int .i64 d.v.min, .int .i64 d.v.pat, .string (mkS d.v.pre), .string (mkS d.v.build), .bool d.aft, .int .i64 c.e, .int .i64 c.v.maj, .int .i64 c.v.min, .int .i64 c.v.pat, .string (mkS c.v.pre), .string (mkS c.v.build), .bool c.aft], 50⟩ (off := 0) (.agg #[.int .i64 d.e, .int .i64 d.v.maj, .int .i64 d.v.min, .int .i64 d.v.pat, .string (mkS d.v.pre), .string (mkS d.v.build), .bool d.aft, .int .i64 c.e, .int .i64 c.v.maj, .int .i64 c.v.min, .int .i64 c.v.pat, .string (mkS c.v.pre), .string (mkS c.v.build), .bool c.aft]) (by kernel_rfl) rfl (by kernel_rfl) (by kernel_rfl) (by kernel_rfl) ?_
        refine s_lit 50 #[.int .i64 d.e, .int .i64 d.v.maj, .int .i64 d.v.min, .int .i64 d.v.pat, .string (mkS d.v.pre), .string (mkS d.v.build), .bool d.aft, .int .i64 c.e, .int .i64 c.v.maj, .int .i64 c.v.min, .int .i64 c.v.pat, .string (mkS c.v.pre), .string (mkS c.v.build), .bool c.aft] (by kernel_rfl) rfl (fun _ => by kernel_rfl) (fun b2 => ?_)
        obtain ⟨i0, z0, e1, e2, e3, e4, e5⟩ := span_info
        refine s_cast (L' := [⟨b2, #[.int .i64 d.e, .int .i64 d.v.maj, .int .i64 d.v.min, .int .i64 d.v.pat, .string (mkS d.v.pre), .string (mkS d.v.build), .bool d.aft, .int .i64 c.e, .int .i64 c.v.maj, .int .i64 c.v.min, .int .i64 c.v.pat, .string (mkS c.v.pre), .string (mkS c.v.build), .bool c.aft], 50⟩, ⟨b1, #[.int .i64 d.e, .int .i64 d.v.maj, .int .i64 d.v.min, .int .i64 d.v.pat, .string (mkS d.v.pre), .string (mkS d.v.build), .bool d.aft, .int .i64 c.e, .int .i64 c.v.maj, .int .i64 c.v.min, .int .i64 c.v.pat, .string (mkS c.v.pre), .string (mkS c.v.build), .bool c.aft], 50⟩] ++ ob ++ []) (by rw [List.append_assoc]; kernel_rfl) ?_
        refine s_append (sz := 14) (by kernel_rfl) rfl Tryz.underlying22 e1 e2 e3 e4 (by kernel_rfl) hrel.sl (a := ⟨b2, 0, none⟩) (m := 1) (c := 1) (news := spanC ⟨d, c⟩) (by kernel_rfl) rfl (fun w hO j u hj => ?_) (span_cells _) (by unfold maxLen; omega) (by rw [e5]; omega) (fun u2 ob2 hu2 => ?_)
        · rw [add_off, cell_of_row w b2 (0 + j) (spanC ⟨d, c⟩).toArray 50 _ (hO.held ⟨b2, (spanC ⟨d, c⟩).toArray, 50⟩ (List.mem_append_left _ (List.mem_append_left _ (List.mem_cons_self ..))))]; simpa using hj
        refine s_val (u2) (by kernel_rfl) (fun _ => by kernel_rfl) ?_
        refine s_nil ?_
        refine fin_block ?_
        refine fin_seq ?_
        refine ok_region ?_
        refine s_val (.int .i64 z) (by kernel_rfl) (fun _ => by kernel_rfl) ?_
        refine s_sum (k := .i64) ((z : Int) - 1) (by kernel_rfl) (fun _ => by kernel_rfl) (IntWalk.i64_in _ (by omega)) ?_
        refine s_val (.int .i64 ((z : Int) - 1)) (by kernel_rfl) (fun _ => by kernel_rfl) ?_
        refine s_nil ?_
        refine fin_take (L' := ob2 ++ []) (fun w hO => Own.mid hO) ?_
        exact fin_round (m' := (z - 1).toNat) (by omega) ⟨n - 1, z - 1, u2, _, ob2, _, hrel.grow (by omega) hsp (by assumption) hu2, rfl, upds_self _ ⟨by kernel_rfl, by kernel_rfl, by kernel_rfl, by kernel_rfl, trivial⟩, rfl⟩
      | false =>
        refine ok_false (by kernel_rfl) ?_
        refine ok_skip ?_
        refine fin_block ?_
        refine fin_seq ?_
        refine ok_region ?_
        refine s_val (.int .i64 z) (by kernel_rfl) (fun _ => by kernel_rfl) ?_
        refine s_sum (k := .i64) ((z : Int) - 1) (by kernel_rfl) (fun _ => by kernel_rfl) (IntWalk.i64_in _ (by omega)) ?_
        refine s_val (.int .i64 ((z : Int) - 1)) (by kernel_rfl) (fun _ => by kernel_rfl) ?_
        refine s_nil ?_
        refine fin_take (L' := ob ++ []) (fun w hO => Own.sub [_] hO) ?_
        exact fin_round (m' := (z - 1).toNat) (by omega) ⟨n - 1, z - 1, u, acc, ob, _, hrel.keep (by omega) hsp (by assumption), rfl, upds_self _ ⟨by kernel_rfl, by kernel_rfl, by kernel_rfl, by kernel_rfl, trivial⟩, rfl⟩
    · skip
      rw [show ordSp c d = ⟨c, d⟩ from if_neg h2] at hsp
      refine s_dec (p := (0 : Int) < cmpC c d) false (by kernel_rfl) (fun _ => by kernel_rfl) (decide_eq_false (h2)) ?_
      refine s_nil ?_
      refine fin_seq ?_
      refine ok_false (by kernel_rfl) ?_
      refine ok_skip ?_
      refine fin_seq ?_
      refine ok_seq ?_
      refine ok_region ?_
      refine s_load 0 ⟨b1, #[.int .i64 c.e, .int .i64 c.v.maj, .int .i64 c.v.min, .int .i64 c.v.pat, .string (mkS c.v.pre), .string (mkS c.v.build), .bool c.aft, .int .i64 d.e, .int .i64 d.v.maj, .int .i64 d.v.min, .int .i64 d.v.pat, .string (mkS d.v.pre), .string (mkS d.v.build), .bool d.aft], 50⟩ (off := 0) (.agg #[.int .i64 c.e, .int .i64 c.v.maj, .int .i64 c.v.min, .int .i64 c.v.pat, .string (mkS c.v.pre), .string (mkS c.v.build), .bool c.aft, .int .i64 d.e, .int .i64 d.v.maj, .int .i64 d.v.min, .int .i64 d.v.pat, .string (mkS d.v.pre), .string (mkS d.v.build), .bool d.aft]) (by kernel_rfl) rfl (by kernel_rfl) (by kernel_rfl) (by kernel_rfl) ?_
      refine s_call (k := 49) (args := #[.agg #[.int .i64 c.e, .int .i64 c.v.maj, .int .i64 c.v.min, .int .i64 c.v.pat, .string (mkS c.v.pre), .string (mkS c.v.build), .bool c.aft, .int .i64 d.e, .int .i64 d.v.maj, .int .i64 d.v.min, .int .i64 d.v.pat, .string (mkS d.v.pre), .string (mkS d.v.build), .bool d.aft]]) (.bool ((⟨c, d⟩ : Sp).may)) (by kernel_rfl) (fun _ => by kernel_rfl) (fun w _ => rspanMay_any ⟨c, d⟩ w ⟨hcS, hdS⟩) ?_
      refine s_nil ?_
      refine fin_seq ?_
      cases h4 : (⟨c, d⟩ : Sp).may with
      | true =>
        refine ok_true (by kernel_rfl) ?_
        refine ok_region ?_
        refine s_val (u) (by kernel_rfl) (fun _ => by kernel_rfl) ?_
        refine s_load 0 ⟨b1, #[.int .i64 c.e, .int .i64 c.v.maj, .int .i64 c.v.min, .int .i64 c.v.pat, .string (mkS c.v.pre), .string (mkS c.v.build), .bool c.aft, .int .i64 d.e, .int .i64 d.v.maj, .int .i64 d.v.min, .int .i64 d.v.pat, .string (mkS d.v.pre), .string (mkS d.v.build), .bool d.aft], 50⟩ (off := 0) (.agg #[.int .i64 c.e, .int .i64 c.v.maj, .int .i64 c.v.min, .int .i64 c.v.pat, .string (mkS c.v.pre), .string (mkS c.v.build), .bool c.aft, .int .i64 d.e, .int .i64 d.v.maj, .int .i64 d.v.min, .int .i64 d.v.pat, .string (mkS d.v.pre), .string (mkS d.v.build), .bool d.aft]) (by kernel_rfl) rfl (by kernel_rfl) (by kernel_rfl) (by kernel_rfl) ?_
        refine s_lit 50 #[.int .i64 c.e, .int .i64 c.v.maj, .int .i64 c.v.min, .int .i64 c.v.pat, .string (mkS c.v.pre), .string (mkS c.v.build), .bool c.aft, .int .i64 d.e, .int .i64 d.v.maj, .int .i64 d.v.min, .int .i64 d.v.pat, .string (mkS d.v.pre), .string (mkS d.v.build), .bool d.aft] (by kernel_rfl) rfl (fun _ => by kernel_rfl) (fun b2 => ?_)
        obtain ⟨i0, z0, e1, e2, e3, e4, e5⟩ := span_info
        refine s_cast (L' := [⟨b2, #[.int .i64 c.e, .int .i64 c.v.maj, .int .i64 c.v.min, .int .i64 c.v.pat, .string (mkS c.v.pre), .string (mkS c.v.build), .bool c.aft, .int .i64 d.e, .int .i64 d.v.maj, .int .i64 d.v.min, .int .i64 d.v.pat, .string (mkS d.v.pre), .string (mkS d.v.build), .bool d.aft], 50⟩, ⟨b1, #[.int .i64 c.e, .int .i64 c.v.maj, .int .i64 c.v.min, .int .i64 c.v.pat, .string (mkS c.v.pre), .string (mkS c.v.build), .bool c.aft, .int .i64 d.e, .int .i64 d.v.maj, .int .i64 d.v.min, .int .i64 d.v.pat, .string (mkS d.v.pre), .string (mkS d.v.build), .bool d.aft], 50⟩] ++ ob ++ []) (by rw [List.append_assoc]; kernel_rfl) ?_
        refine s_append (sz := 14) (by kernel_rfl) rfl Tryz.underlying22 e1 e2 e3 e4 (by kernel_rfl) hrel.sl (a := ⟨b2, 0, none⟩) (m := 1) (c := 1) (news := spanC ⟨c, d⟩) (by kernel_rfl) rfl (fun w hO j u hj => ?_) (span_cells _) (by unfold maxLen; omega) (by rw [e5]; omega) (fun u2 ob2 hu2 => ?_)
        · rw [add_off, cell_of_row w b2 (0 + j) (spanC ⟨c, d⟩).toArray 50 _ (hO.held ⟨b2, (spanC ⟨c, d⟩).toArray, 50⟩ (List.mem_append_left _ (List.mem_append_left _ (List.mem_cons_self ..))))]; simpa using hj
        refine s_val (u2) (by kernel_rfl) (fun _ => by kernel_rfl) ?_
        refine s_nil ?_
        refine fin_block ?_
        refine fin_seq ?_
        refine ok_region ?_
        refine s_val (.int .i64 z) (by kernel_rfl) (fun _ => by kernel_rfl) ?_
        refine s_sum (k := .i64) ((z : Int) - 1) (by kernel_rfl) (fun _ => by kernel_rfl) (IntWalk.i64_in _ (by omega)) ?_
        refine s_val (.int .i64 ((z : Int) - 1)) (by kernel_rfl) (fun _ => by kernel_rfl) ?_
        refine s_nil ?_
        refine fin_take (L' := ob2 ++ []) (fun w hO => Own.mid hO) ?_
        exact fin_round (m' := (z - 1).toNat) (by omega) ⟨n - 1, z - 1, u2, _, ob2, _, hrel.grow (by omega) hsp (by assumption) hu2, rfl, upds_self _ ⟨by kernel_rfl, by kernel_rfl, by kernel_rfl, by kernel_rfl, trivial⟩, rfl⟩
      | false =>
        refine ok_false (by kernel_rfl) ?_
        refine ok_skip ?_
        refine fin_block ?_
        refine fin_seq ?_
        refine ok_region ?_
        refine s_val (.int .i64 z) (by kernel_rfl) (fun _ => by kernel_rfl) ?_
        refine s_sum (k := .i64) ((z : Int) - 1) (by kernel_rfl) (fun _ => by kernel_rfl) (IntWalk.i64_in _ (by omega)) ?_
        refine s_val (.int .i64 ((z : Int) - 1)) (by kernel_rfl) (fun _ => by kernel_rfl) ?_
        refine s_nil ?_
        refine fin_take (L' := ob ++ []) (fun w hO => Own.sub [_] hO) ?_
        exact fin_round (m' := (z - 1).toNat) (by omega) ⟨n - 1, z - 1, u, acc, ob, _, hrel.keep (by omega) hsp (by assumption), rfl, upds_self _ ⟨by kernel_rfl, by kernel_rfl, by kernel_rfl, by kernel_rfl, trivial⟩, rfl⟩
  · skip
    have hz := hrel.z
    have hlen := hrel.len
    refine s_dec (p := (0 : Int) < z) false (by kernel_rfl) (fun _ => by kernel_rfl) (decide_eq_false (h1)) ?_
    refine s_nil ?_
    refine fin_seq ?_
    refine ok_false (by kernel_rfl) ?_
    refine ok_exit ?_
    refine fin_seq_exit ?_
    refine fin_round_exit ?_
    refine fin_block_exit ?_
    refine fin_seq ?_
    refine ok_seq ?_
    refine ok_region ?_
    refine s_val (u) (by kernel_rfl) (fun _ => by kernel_rfl) ?_
    refine s_val (u) (by kernel_rfl) (fun _ => by kernel_rfl) ?_
    refine s_nil ?_
    refine fin_seq ?_
    refine ok_ret ?_
    refine fin_ret (u) Tryz.results76 (by kernel_rfl) ?_
    exact fun w hO => ⟨u, ob, rfl, by have e := hrel.eq; rw [show n = 0 from by omega, show spansG l i 0 = [] from rfl, List.append_nil] at e; rw [← e]; exact hrel.sl, by simpa using hO⟩
end Go.Proofs.YtgeccfdofmnphaaGreat
end

section
/-
  linchpinlaw0.Row: the row that the list's numbers name.
-/
namespace Go.Proofs.YtgeccfdofmnphaaGreat
open Go.RowKit
set_option maxRecDepth 100000
set_option linter.unusedVariables false
set_option linter.unusedSimpArgs false
set_option maxHeartbeats 2000000

theorem spG_short (l : List Int) (i n : Nat) : (spG l i n).short := by
  unfold spG ordSp
  split
  · exact ⟨genC_short l _, genC_short l _⟩
  · exact ⟨genC_short l _, genC_short l _⟩
theorem spansG_short (l : List Int) (i : Nat) : ∀ n, ShortL (spansG l i n)
  | 0 => fun s hs => by simp [spansG] at hs
  | n + 1 => fun s hs => by
    rw [show spansG l i (n + 1) = (if (spG l i (n + 1)).may then [spG l i (n + 1)] else []) ++ spansG l i n from rfl] at hs
    rcases List.mem_append.1 hs with h | h
    · split at h
      · obtain rfl : s = _ := by simpa using h
        exact spG_short l i _
      · simp at h
    · exact spansG_short l i n s h
def rowG (l : List Int) (i : Nat) : List Sp := makeL (spansG l i (plc (atL l i) (4 + 1 : Nat)).toNat)
theorem row_any (v : Value) (l : List Int) (i : Nat) (W : World) (hv : ReadsI W W.heap.size v l) (hl : l.length ≤ 9223372036854775807) (hi : i ≤ 50000) :
    Calls Tryz.prog 38 #[v, .int .i64 (i : Int)] W fun e w' => ∃ v' ob', e = .returned v' ∧ SlS v' (rowG l i) ob' ∧ Own [] W w' ob' := by
  refine calls_ok (n := 15) Tryz.func38 rfl (by kernel_rfl) (by kernel_rfl) ?_
  refine ok_seq ?_
  refine ok_region ?_
  refine s_val (.slice none 0 0) (by kernel_rfl) (fun _ => by kernel_rfl) ?_
  refine s_nil ?_
  refine fin_seq ?_
  refine ok_seq ?_
  refine ok_region ?_
  refine s_val (v) (by kernel_rfl) (fun _ => by kernel_rfl) ?_
  refine s_val (.int .i64 (i : Int)) (by kernel_rfl) (fun _ => by kernel_rfl) ?_
  obtain ⟨q, hq⟩ : ∃ q, spansG l i (plc (atL l i) (4 + 1 : Nat)).toNat = q := ⟨_, rfl⟩
  have hqm : ∀ s ∈ q, s.may = true := hq ▸ spansG_may l i _
  have hqs : ShortL q := hq ▸ spansG_short l i _
  have hqn : q.length ≤ 300000 := by rw [← hq]; have := spansG_len l i (plc (atL l i) (4 + 1 : Nat)).toNat; have := plc_in (atL l i) (4 + 1 : Nat) (by omega); omega
  refine s_callo (k := 76) (args := #[v, .int .i64 (i : Int), .int .i64 4]) (fun v' L' => SlS v' q L') (by kernel_rfl) (fun _ => by kernel_rfl) (fun w hO => (spans_any v l i 4 w ((hv.below hO.below).more hO.below.size) hl (by omega) (by omega)).mono fun e w' ⟨v', ob', h1, h2, h3⟩ => ⟨v', ob', h1, by rw [hq] at h2; exact h2, by simpa using Own.joinN hO h3⟩) (fun sv os hsv => ?_)
  obtain ⟨C, capc, rfl⟩ := hsv.form
  refine s_callo (k := 50) (args := #[.slice C q.length capc]) (fun v' L' => ∃ mv, v' = .tuple #[mv, .bool (allMay q)] ∧ SlS mv (if allMay q then makeL q else []) L') (by kernel_rfl) (fun _ => by kernel_rfl) (fun w hO => (rmake_any C capc q w (Sl.reads hsv rfl hO (fun x hx => hx)) hqn hqs).mono fun e w' ⟨v', ob', h1, h2, h3⟩ => ⟨_, ob', h1, ⟨v', rfl, h2⟩, Own.take (Own.joinN hO h3) (fun x hx => List.mem_append_left _ hx) h3.apart⟩) (fun tv om htv => ?_)
  obtain ⟨mv, rfl, hmv⟩ := htv
  refine s_val (.tuple #[mv, .bool (allMay q)]) (by kernel_rfl) (fun _ => by kernel_rfl) ?_
  refine s_val (mv) (by kernel_rfl) (fun _ => by kernel_rfl) ?_
  refine s_val (.bool (allMay q)) (by kernel_rfl) (fun _ => by kernel_rfl) ?_
  refine s_val (mv) (by kernel_rfl) (fun _ => by kernel_rfl) ?_
  refine s_val (.bool (allMay q)) (by kernel_rfl) (fun _ => by kernel_rfl) ?_
  refine s_nil ?_
  refine fin_seq ?_
  refine ok_seq ?_
  refine ok_region ?_
  refine s_val (mv) (by kernel_rfl) (fun _ => by kernel_rfl) ?_
  refine s_val (mv) (by kernel_rfl) (fun _ => by kernel_rfl) ?_
  refine s_nil ?_
  refine fin_seq ?_
  refine ok_ret ?_
  refine fin_ret (mv) Tryz.results38 (by kernel_rfl) ?_
  exact fun w hO => ⟨mv, om, rfl, by have hall : allMay q = true := allMay_mem.2 hqm; rw [hall, if_pos rfl] at hmv; unfold rowG; rw [hq]; exact hmv, hO⟩
end Go.Proofs.YtgeccfdofmnphaaGreat
end

section
/-
  Plain mathematics of rows as package row computes them: a span behind a row, the contrary, both, the merging of sorted spans. No condition of their own.
-/
namespace Go.Proofs.YtgeccfdofmnphaaGreat
set_option linter.unusedVariables false
set_option linter.unusedSimpArgs false

def minC (a b : Cu) : Cu := if 0 < cmpC a b then b else a
def maxC (a b : Cu) : Cu := if 0 < cmpC a b then a else b
theorem minC_may {a b : Cu} (ha : a.may = true) (hb : b.may = true) : (minC a b).may = true := by unfold minC; split <;> assumption
theorem maxC_may {a b : Cu} (ha : a.may = true) (hb : b.may = true) : (maxC a b).may = true := by unfold maxC; split <;> assumption
theorem minC_lt {a b x : Cu} (ha : a.may = true) (hb : b.may = true) (hx : x.may = true) : decide (cmpC x (minC a b) < 0) = (decide (cmpC x a < 0) && decide (cmpC x b < 0)) := by
  rw [← Bool.decide_and]
  refine decide_eq_decide.2 ?_
  unfold minC
  split
  · rename_i h
    exact ⟨fun h2 => ⟨clt_trans hx hb ha h2 (by have := cut_anti (a := a) (b := b); omega), h2⟩, fun h2 => h2.2⟩
  · rename_i h
    exact ⟨fun h2 => ⟨h2, clt_le hx ha hb h2 (by omega)⟩, fun h2 => h2.1⟩
theorem maxC_le {a b x : Cu} (ha : a.may = true) (hb : b.may = true) (hx : x.may = true) : decide (cmpC (maxC a b) x ≤ 0) = (decide (cmpC a x ≤ 0) && decide (cmpC b x ≤ 0)) := by
  rw [← Bool.decide_and]
  refine decide_eq_decide.2 ?_
  unfold maxC
  split
  · rename_i h
    exact ⟨fun h2 => ⟨h2, cle_trans hb ha hx (by have := cut_anti (a := a) (b := b); omega) h2⟩, fun h2 => h2.1⟩
  · rename_i h
    exact ⟨fun h2 => ⟨cle_trans ha hb hx (by omega) h2, h2⟩, fun h2 => h2.2⟩
theorem sp_may_of {c d : Cu} (h : cmpC c d < 0) : (Sp.mk c d).may = true := by
  unfold Sp.may
  have := cmpC_range c d
  rw [decide_eq_true_eq]; show cmpC c d = -1; omega
theorem sp_not_of {c d : Cu} (h : (Sp.mk c d).may = false) : ¬ cmpC c d < 0 := fun h2 => by rw [sp_may_of h2] at h; cases h
theorem in_none {c d x : Cu} (hc : c.may = true) (hd : d.may = true) (hx : x.may = true) (h : ¬ cmpC c d < 0) : inSp ⟨c, d⟩ x = false := by
  unfold inSp
  rw [Bool.and_eq_false_iff, decide_eq_false_iff_not, decide_eq_false_iff_not]
  by_cases h1 : cmpC c x ≤ 0
  · exact .inr fun h2 => h (cle_lt hc hx hd h1 h2)
  · exact .inl h1
/-- A row with a stretch behind it, if it is one. -/
def addL (l : List Sp) (c d : Cu) : List Sp := if (Sp.mk c d).may then l ++ [⟨c, d⟩] else l
theorem add_ok {out : List Sp} {c d : Cu} (ho : rowMay out = true) (hl : ∀ t ∈ out.getLast?, cmpC t.hi c < 0) : rowMay (addL out c d) = true := by
  unfold addL
  split
  · exact row_snoc ho (by assumption) hl
  · exact ho
theorem add_den {out : List Sp} {c d x : Cu} (hc : c.may = true) (hd : d.may = true) (hx : x.may = true) : den (addL out c d) x = (den out x || inSp ⟨c, d⟩ x) := by
  unfold addL
  split
  · rw [den_app]; unfold den; simp
  · rename_i h
    rw [in_none hc hd hx (sp_not_of (by simpa using h)), Bool.or_false]
theorem add_last {out : List Sp} {c d : Cu} : ∀ t ∈ (addL out c d).getLast?, t = ⟨c, d⟩ ∨ (t ∈ out.getLast? ∧ ¬ cmpC c d < 0) := by
  unfold addL
  split
  · intro t ht
    rw [List.getLast?_concat] at ht
    exact .inl (Option.some.inj ht).symm
  · rename_i h
    exact fun t ht => .inr ⟨ht, sp_not_of (by simpa using h)⟩
theorem add_len (l : List Sp) (c d : Cu) : (addL l c d).length ≤ l.length + 1 := by unfold addL; split <;> simp
/-! ### The contrary -/
def nstep (p : List Sp × Cu) (s : Sp) : List Sp × Cu := (addL p.1 p.2 s.lo, s.hi)
def notG (l : List Sp) : List Sp := addL (l.foldl nstep ([], endC (-1))).1 (l.foldl nstep ([], endC (-1))).2 (endC 1)
theorem den_cons (s : Sp) (l : List Sp) (x : Cu) : den (s :: l) x = (inSp s x || den l x) := by unfold den; rw [List.any_cons]
theorem den_after {s : Sp} {l : List Sp} {x : Cu} (h : rowMay (s :: l) = true) (hx : x.may = true) (hlt : cmpC x s.hi ≤ 0) : den l x = false :=
  den_before fun t ht => cle_lt hx (span_mays (row_head h)).2 (span_mays (row_mem h t (List.mem_cons_of_mem _ ht))).1 hlt (row_after h t ht)
theorem not_go : ∀ (l out : List Sp) (f : Cu), rowMay l = true → rowMay out = true → f.may = true → (∀ t ∈ out.getLast?, cmpC t.hi f < 0) → (∀ s ∈ l.head?, cmpC f s.lo ≤ 0) →
    rowMay (addL (l.foldl nstep (out, f)).1 (l.foldl nstep (out, f)).2 (endC 1)) = true ∧ ∀ x : Cu, x.may = true → cmpC x (endC 1) < 0 → den (addL (l.foldl nstep (out, f)).1 (l.foldl nstep (out, f)).2 (endC 1)) x = (den out x || (decide (cmpC f x ≤ 0) && !den l x))
  | [], out, f, hl, ho, hf, h1, h2 => ⟨add_ok ho h1, fun x hx he => by
      show den (addL out f (endC 1)) x = _
      rw [add_den hf last_may hx]
      unfold inSp
      rw [decide_eq_true he]
      simp [den]⟩
  | s :: r, out, f, hl, ho, hf, h1, h2 => by
    have hs := row_head hl
    obtain ⟨m1, m2⟩ := span_mays hs
    have hlt := sp_lt hs
    have hfs : cmpC f s.lo ≤ 0 := h2 s rfl
    have ih := not_go r (addL out f s.lo) s.hi (row_tail hl) (add_ok ho h1) m2 (fun t ht => by
      rcases add_last t ht with rfl | ⟨h3, h4⟩
      · exact hlt
      · exact clt_trans (span_mays (row_mem ho t (List.mem_of_getLast? h3))).2 hf m2 (h1 t h3) (cle_lt hf m1 m2 hfs hlt)) (fun t ht => by
        have := row_after hl t (List.mem_of_mem_head? ht); omega)
    refine ⟨ih.1, fun x hx he => ?_⟩
    show den (addL (r.foldl nstep (addL out f s.lo, s.hi)).1 (r.foldl nstep (addL out f s.lo, s.hi)).2 (endC 1)) x = _
    rw [ih.2 x hx he, add_den hf m1 hx, den_cons]
    unfold inSp
    show (den out x || (decide (cmpC f x ≤ 0) && decide (cmpC x s.lo < 0)) || _) = _
    by_cases c1 : cmpC x s.lo < 0
    · have c2 : cmpC x s.hi < 0 := clt_trans hx m1 m2 c1 hlt
      rw [decide_eq_true c1, den_after hl hx (by omega), decide_eq_false (show ¬ cmpC s.hi x ≤ 0 from by have := cut_anti (a := x) (b := s.hi); omega), decide_eq_false (show ¬ cmpC s.lo x ≤ 0 from by have := cut_anti (a := x) (b := s.lo); omega)]
      simp
    · rw [decide_eq_false c1]
      have c3 : cmpC s.lo x ≤ 0 := cle_flip c1
      rw [decide_eq_true c3, decide_eq_true (cle_trans hf m1 hx hfs c3)]
      by_cases c4 : cmpC x s.hi < 0
      · rw [decide_eq_true c4, decide_eq_false (show ¬ cmpC s.hi x ≤ 0 from by have := cut_anti (a := x) (b := s.hi); omega)]
        simp
      · rw [decide_eq_false c4, decide_eq_true (cle_flip c4)]
        simp
theorem notG_eq {l : List Sp} (h : rowMay l = true) : notG l = notL l := by
  have h1 := not_go l [] (endC (-1)) h rfl first_may (fun t ht => by simp at ht) (fun s hs => first_le (span_mays (row_mem h s (List.mem_of_mem_head? hs))).1)
  have h2 := not_ok h
  refine row_ext _ _ h1.1 h2.1 fun c hc he => ?_
  rw [h2.2 c hc he]
  show den (addL _ _ _) c = _
  rw [h1.2 c hc he, decide_eq_true (first_le hc)]
  simp [den]
/-! ### Both -/
def andG : Nat → List Sp → List Sp → List Sp → List Sp
  | n + 1, out, s :: a, u :: b => if s.hi = minC s.hi u.hi then andG n (addL out (maxC s.lo u.lo) (minC s.hi u.hi)) a (u :: b) else andG n (addL out (maxC s.lo u.lo) (minC s.hi u.hi)) (s :: a) b
  | _, out, _, _ => out
theorem min_is {a b : Cu} : a = minC a b ↔ cmpC a b ≤ 0 := by
  unfold minC
  split
  · rename_i h
    exact ⟨fun e => by have := cut_self a; rw [← e] at h; omega, fun h2 => by omega⟩
  · rename_i h
    exact ⟨fun _ => by omega, fun _ => rfl⟩
theorem maxC_ge {a b : Cu} (ha : a.may = true) (hb : b.may = true) : cmpC a (maxC a b) ≤ 0 ∧ cmpC b (maxC a b) ≤ 0 := by
  unfold maxC
  split
  · rename_i h
    exact ⟨by rw [cut_self]; decide, by have := cut_anti (a := a) (b := b); omega⟩
  · rename_i h
    exact ⟨by omega, by rw [cut_self]; decide⟩
theorem maxC_up {a b c d x : Cu} (ha : a.may = true) (hb : b.may = true) (hc : c.may = true) (hd : d.may = true) (hx : x.may = true) (h1 : cmpC a c ≤ 0) (h2 : cmpC b d ≤ 0) (h : cmpC x (maxC a b) < 0) : cmpC x (maxC c d) < 0 := by
  have g := maxC_ge hc hd
  have m := maxC_may hc hd
  unfold maxC at h
  split at h
  · exact clt_le hx ha m h (cle_trans ha hc m h1 g.1)
  · exact clt_le hx hb m h (cle_trans hb hd m h2 g.2)
theorem maxC_one {a b x : Cu} (ha : a.may = true) (hb : b.may = true) (hx : x.may = true) (h : cmpC x a < 0) : cmpC x (maxC a b) < 0 := clt_le hx ha (maxC_may ha hb) h (maxC_ge ha hb).1
theorem maxC_two {a b x : Cu} (ha : a.may = true) (hb : b.may = true) (hx : x.may = true) (h : cmpC x b < 0) : cmpC x (maxC a b) < 0 := clt_le hx hb (maxC_may ha hb) h (maxC_ge ha hb).2
theorem in_both {s u : Sp} {x : Cu} (hs : s.may = true) (hu : u.may = true) (hx : x.may = true) : inSp ⟨maxC s.lo u.lo, minC s.hi u.hi⟩ x = (inSp s x && inSp u x) := by
  unfold inSp
  rw [maxC_le (span_mays hs).1 (span_mays hu).1 hx, minC_lt (span_mays hs).2 (span_mays hu).2 hx]
  cases decide (cmpC s.lo x ≤ 0) <;> cases decide (cmpC u.lo x ≤ 0) <;> cases decide (cmpC x s.hi < 0) <;> cases decide (cmpC x u.hi < 0) <;> rfl
theorem and_go : ∀ (n : Nat) (out a b : List Sp), a.length + b.length ≤ n → rowMay out = true → rowMay a = true → rowMay b = true → (∀ t ∈ out.getLast?, ∀ s ∈ a.head?, ∀ u ∈ b.head?, cmpC t.hi (maxC s.lo u.lo) < 0) →
    rowMay (andG n out a b) = true ∧ ∀ x : Cu, x.may = true → den (andG n out a b) x = (den out x || (den a x && den b x))
  | 0, out, a, b, hn, ho, ha, hb, hl => by
    obtain rfl : a = [] := List.eq_nil_of_length_eq_zero (by omega)
    exact ⟨ho, fun x _ => by simp [andG, den]⟩
  | n + 1, out, [], b, hn, ho, ha, hb, hl => ⟨ho, fun x _ => by simp [andG, den]⟩
  | n + 1, out, s :: a, [], hn, ho, ha, hb, hl => ⟨ho, fun x _ => by simp [andG, den]⟩
  | n + 1, out, s :: a, u :: b, hn, ho, ha, hb, hl => by
    have hs := row_head ha
    have hu := row_head hb
    obtain ⟨s1, s2⟩ := span_mays hs
    obtain ⟨u1, u2⟩ := span_mays hu
    have ho2 := add_ok (d := minC s.hi u.hi) ho (fun t ht => hl t ht s rfl u rfl)
    have mx := maxC_may s1 u1
    have mn := minC_may s2 u2
    have hout : ∀ t ∈ out.getLast?, t.hi.may = true := fun t ht => (span_mays (row_mem ho t (List.mem_of_getLast? ht))).2
    unfold andG
    split
    · rename_i h
      have hle := min_is.1 h
      have ih := and_go n (addL out (maxC s.lo u.lo) (minC s.hi u.hi)) a (u :: b) (by simp at hn ⊢; omega) ho2 (row_tail ha) hb (fun t ht s' hs' u' hu' => by
        obtain rfl : u = u' := Option.some.inj hu'
        have hsa := row_after ha s' (List.mem_of_mem_head? hs')
        have ms' := (span_mays (row_mem ha s' (List.mem_cons_of_mem _ (List.mem_of_mem_head? hs')))).1
        rcases add_last t ht with rfl | ⟨h3, h4⟩
        · show cmpC (minC s.hi u.hi) _ < 0
          rw [← h]
          exact maxC_one ms' u1 s2 hsa
        · exact maxC_up s1 u1 ms' u1 (hout t h3) (by have := clt_trans s1 s2 ms' (sp_lt hs) hsa; omega) (by rw [cut_self]; decide) (hl t h3 s rfl u rfl))
      refine ⟨ih.1, fun x hx => ?_⟩
      rw [ih.2 x hx, add_den mx mn hx, in_both hs hu hx, den_cons s, den_cons u]
      cases hi : inSp s x with
      | false => simp
      | true =>
        have hxs : cmpC x s.hi < 0 := by unfold inSp at hi; simp at hi; exact hi.2
        rw [den_after hb hx (by have := clt_le hx s2 u2 hxs hle; omega), den_after ha hx (by omega)]
        simp
    · rename_i h
      have hgt : ¬ cmpC s.hi u.hi ≤ 0 := fun h2 => h (min_is.2 h2)
      have hlt : cmpC u.hi s.hi < 0 := clt_flip hgt
      have hmin : minC s.hi u.hi = u.hi := by unfold minC; rw [if_pos (by omega)]
      have ih := and_go n (addL out (maxC s.lo u.lo) (minC s.hi u.hi)) (s :: a) b (by simp at hn ⊢; omega) ho2 ha (row_tail hb) (fun t ht s' hs' u' hu' => by
        obtain rfl : s = s' := Option.some.inj hs'
        have hub := row_after hb u' (List.mem_of_mem_head? hu')
        have mu' := (span_mays (row_mem hb u' (List.mem_cons_of_mem _ (List.mem_of_mem_head? hu')))).1
        rcases add_last t ht with rfl | ⟨h3, h4⟩
        · show cmpC (minC s.hi u.hi) _ < 0
          rw [hmin]
          exact maxC_two s1 mu' u2 hub
        · exact maxC_up s1 u1 s1 mu' (hout t h3) (by rw [cut_self]; decide) (by have := clt_trans u1 u2 mu' (sp_lt hu) hub; omega) (hl t h3 s rfl u rfl))
      refine ⟨ih.1, fun x hx => ?_⟩
      rw [ih.2 x hx, add_den mx mn hx, in_both hs hu hx, den_cons s, den_cons u]
      cases hi : inSp u x with
      | false => simp
      | true =>
        have hxu : cmpC x u.hi < 0 := by unfold inSp at hi; simp at hi; exact hi.2
        rw [den_after ha hx (by have := clt_trans hx u2 s2 hxu hlt; omega), den_after hb hx (by omega)]
        cases inSp s x <;> simp
theorem andG_eq {a b : List Sp} (ha : rowMay a = true) (hb : rowMay b = true) : andG (a.length + b.length) [] a b = andL a b := by
  have h1 := and_go (a.length + b.length) [] a b (Nat.le_refl _) rfl ha hb (fun t ht => by simp at ht)
  have h2 := and_ok ha hb
  refine row_ext _ _ h1.1 h2.1 fun c hc he => ?_
  rw [h2.2 c hc he, h1.2 c hc]
  simp [den]
/-! ### Sorted spans merged -/
def mstep (out : List Sp) (s : Sp) : List Sp :=
  match out.getLast? with
  | none => [s]
  | some t => if cmpC t.hi s.lo < 0 then out ++ [s] else out.dropLast ++ [⟨t.lo, maxC t.hi s.hi⟩]
theorem in_merge {s t : Sp} {x : Cu} (hs : s.may = true) (ht : t.may = true) (hx : x.may = true) (h1 : cmpC t.lo s.lo ≤ 0) (h2 : cmpC s.lo t.hi ≤ 0) : inSp ⟨t.lo, maxC t.hi s.hi⟩ x = (inSp t x || inSp s x) := by
  obtain ⟨s1, s2⟩ := span_mays hs
  obtain ⟨t1, t2⟩ := span_mays ht
  unfold inSp
  show (decide (cmpC t.lo x ≤ 0) && decide (cmpC x (maxC t.hi s.hi) < 0)) = _
  by_cases c1 : cmpC t.lo x ≤ 0
  · rw [decide_eq_true c1]
    unfold maxC
    split
    · rename_i h
      by_cases c2 : cmpC x s.hi < 0
      · rw [decide_eq_true (show cmpC x t.hi < 0 from clt_trans hx s2 t2 c2 (by have := cut_anti (a := t.hi) (b := s.hi); omega))]; simp
      · rw [decide_eq_false c2]; simp
    · rename_i h
      by_cases c2 : cmpC x t.hi < 0
      · rw [decide_eq_true c2, decide_eq_true (show cmpC x s.hi < 0 from clt_le hx t2 s2 c2 (by omega))]; simp
      · rw [decide_eq_false c2, decide_eq_true (show cmpC s.lo x ≤ 0 from cle_trans s1 t2 hx h2 (cle_flip c2))]; simp
  · rw [decide_eq_false c1, decide_eq_false (show ¬ cmpC s.lo x ≤ 0 from fun h => c1 (cle_trans t1 s1 hx h1 h))]; simp
theorem mstep_ok {out : List Sp} {s : Sp} (ho : rowMay out = true) (hs : s.may = true) (hl : ∀ t ∈ out.getLast?, cmpC t.lo s.lo ≤ 0) :
    rowMay (mstep out s) = true ∧ (∀ t ∈ (mstep out s).getLast?, t.lo = s.lo ∨ ∃ t' ∈ out.getLast?, t.lo = t'.lo) ∧ ∀ x : Cu, x.may = true → den (mstep out s) x = (den out x || inSp s x) := by
  unfold mstep
  cases hg : out.getLast? with
  | none =>
    have : out = [] := by simpa using hg
    subst this
    refine ⟨row_snoc (l := []) rfl hs (fun t ht => by simp at ht), fun t ht => ?_, fun x _ => by simp [den]⟩
    obtain rfl : s = t := by simpa using ht
    exact .inl rfl
  | some t =>
    have hlo := hl t hg
    have hsp := last_split hg
    have htm := row_mem ho t (List.mem_of_getLast? hg)
    obtain ⟨s1, s2⟩ := span_mays hs
    obtain ⟨t1, t2⟩ := span_mays htm
    dsimp only
    split
    · rename_i h
      refine ⟨row_snoc ho hs (fun t' ht' => by rw [hg] at ht'; obtain rfl := Option.some.inj ht'; exact h), fun t' ht' => ?_, fun x _ => by rw [den_app]; simp [den]⟩
      rw [List.getLast?_concat] at ht'
      obtain rfl := Option.some.inj ht'
      exact .inl rfl
    · rename_i h
      have hi := row_init (hsp ▸ ho)
      have hmay : (Sp.mk t.lo (maxC t.hi s.hi)).may = true := sp_may_of (clt_le t1 t2 (maxC_may t2 s2) (sp_lt htm) (maxC_ge t2 s2).1)
      refine ⟨row_snoc hi.1 hmay (fun x hx => hi.2 x hx), fun t' ht' => ?_, fun x hx => ?_⟩
      · rw [List.getLast?_concat] at ht'
        obtain rfl := Option.some.inj ht'
        exact .inr ⟨t, rfl, rfl⟩
      · rw [den_app]
        conv => rhs; rw [hsp, den_app]
        have e := in_merge hs htm hx hlo (cle_flip h)
        simp only [den, List.any_cons, List.any_nil, Bool.or_false] at e ⊢
        rw [e, Bool.or_assoc]
def SortedC : List Sp → Prop
  | [] => True
  | s :: r => (∀ t ∈ r, cmpC s.lo t.lo ≤ 0) ∧ SortedC r
theorem merge_go : ∀ (l out : List Sp), (∀ s ∈ l, s.may = true) → SortedC l → rowMay out = true → (∀ t ∈ out.getLast?, ∀ s ∈ l, cmpC t.lo s.lo ≤ 0) →
    rowMay (l.foldl mstep out) = true ∧ ∀ x : Cu, x.may = true → den (l.foldl mstep out) x = (den out x || den l x)
  | [], out, _, _, ho, _ => ⟨ho, fun x _ => by simp [den]⟩
  | s :: r, out, hm, hso, ho, hl => by
    have h1 := mstep_ok ho (hm s (List.mem_cons_self ..)) (fun t ht => hl t ht s (List.mem_cons_self ..))
    have ih := merge_go r (mstep out s) (fun t ht => hm t (List.mem_cons_of_mem _ ht)) hso.2 h1.1 (fun t ht u hu => by
      rcases h1.2.1 t ht with e | ⟨t', ht', e⟩
      · rw [e]; exact hso.1 u hu
      · rw [e]; exact hl t' ht' u (List.mem_cons_of_mem _ hu))
    refine ⟨ih.1, fun x hx => ?_⟩
    show den (r.foldl mstep (mstep out s)) x = _
    rw [ih.2 x hx, h1.2.2 x hx, den_cons, Bool.or_assoc]
theorem merge_eq {l d : List Sp} (hm : ∀ s ∈ l, s.may = true) (hp : d.Perm l) (hs : SortedC d) : d.foldl mstep [] = makeL l := by
  have hmd : ∀ s ∈ d, s.may = true := fun s h => hm s (hp.mem_iff.1 h)
  have h1 := merge_go d [] hmd hs rfl (fun t ht => by simp at ht)
  have h2 := make_ok hm
  refine row_ext _ _ h1.1 h2.1 fun c hc he => ?_
  rw [h2.2 c hc he, h1.2 c hc]
  show (false || den d c) = den l c
  rw [Bool.false_or]
  unfold den
  exact hp.any_eq
theorem mstep_len (out : List Sp) (s : Sp) : (mstep out s).length ≤ out.length + 1 := by
  unfold mstep
  split
  · simp
  · split
    · simp
    · first | (simp; done) | (simp; omega)
end Go.Proofs.YtgeccfdofmnphaaGreat
end

section
/-
  Plain mathematics: the laws of rows; a valid version's Pre is short. No condition of their own.
-/
namespace Go.Proofs.YtgeccfdofmnphaaGreat
set_option linter.unusedVariables false
set_option linter.unusedSimpArgs false

theorem cutAt_len (c : UInt8) : ∀ s : List UInt8, s.length = (cutAt c s).1.length + (if (cutAt c s).2.2 then 1 + (cutAt c s).2.1.length else 0)
  | [] => rfl
  | b :: r => by
    unfold cutAt
    have ih := cutAt_len c r
    by_cases h : b = c
    · first | (simp [h]; done) | (subst h; simp; omega) | (simp [h]; omega)
    · first | (simp [h] at ih ⊢; omega) | (simp [h, Ne.symm h] at ih ⊢; omega)
theorem cutGo_short : ∀ (n : Nat) (s : List UInt8), (cutGo n s).2 = true → s.length ≤ 9 * n
  | 0, s, h => by simp [cutGo] at h
  | n + 1, s, h => by
    have hl := cutAt_len 46 s
    cases ht : tagOk (cutAt 46 s).1 with
    | false => rw [cutGo_bad n s ht] at h; cases h
    | true =>
      have h8 : (cutAt 46 s).1.length ≤ 8 := Nat.le_of_not_lt fun h2 => by rw [tagOk_long h2] at ht; cases ht
      cases hm : (cutAt 46 s).2.2 with
      | false => rw [hm] at hl; simp at hl; omega
      | true =>
        rw [cutGo_on n s ht hm] at h
        have ih := cutGo_short n _ h
        rw [hm] at hl; simp at hl; omega
theorem preOk_short {s : List UInt8} (h : preOk s = true) : s.length ≤ 36 := by
  rw [preOk_lst, Bool.and_eq_true] at h
  have h1 := h.1
  unfold lst at h1
  split at h1
  · rename_i h0
    have : s = [] := by simpa using h0
    subst this; exact Nat.zero_le _
  · have := cutGo_short _ _ h1; omega
theorem may_short {v : Ver} (h : v.may = true) (hb : v.build = []) : v.short := ⟨by have := preOk_short (may_pre h); omega, by rw [hb]; exact Nat.zero_le _⟩
theorem cu_short {c : Cu} (h : c.may = true) : c.short := may_short (may_v h) (may_build h)
theorem sp_short {s : Sp} (h : s.may = true) : s.short := ⟨cu_short (span_mays h).1, cu_short (span_mays h).2⟩
/-- A valid row of at most n spans. -/
structure RF (l : List Sp) (n : Nat) : Prop where
  may : rowMay l = true
  len : l.length ≤ n
theorem RF.short {l : List Sp} {n : Nat} (h : RF l n) : ShortL l := fun s hs => sp_short (row_mem h.may s hs)
theorem cuts_len {l : List Sp} (hl : ∀ s ∈ l, s.may = true) : (cutsL l).length ≤ 2 + 2 * l.length := by
  have h := (cuts_size l (fun s hs => sp_short (hl s hs)) l.length (Nat.le_refl _)).1
  rwa [List.take_length] at h
theorem RF.make {l : List Sp} {n : Nat} (hl : ∀ s ∈ l, s.may = true) (hn : l.length ≤ n) : RF (makeL l) (2 + 2 * n) := ⟨(make_ok hl).1, by
  have h1 := build_len (inL l) (cutsL l) []
  have h2 := cuts_len hl
  unfold makeL
  rw [List.length_nil] at h1
  omega⟩
theorem RF.or {a b : List Sp} {n m : Nat} (ha : RF a n) (hb : RF b m) : RF (orL a b) (2 + 2 * (n + m)) := RF.make (both_may ha.may hb.may) (by rw [List.length_append]; have := ha.len; have := hb.len; omega)
theorem RF.and {a b : List Sp} {n m : Nat} (ha : RF a n) (hb : RF b m) : RF (andL a b) (2 + 2 * (n + m)) := ⟨(and_ok ha.may hb.may).1, by
  have h1 := build_len (fun c d => inL a c d && inL b c d) (cutsL (a ++ b)) []
  have h2 := cuts_len (both_may ha.may hb.may)
  have := ha.len; have := hb.len
  unfold andL
  rw [List.length_append] at h2
  rw [List.length_nil] at h1
  omega⟩
theorem RF.not {a : List Sp} {n : Nat} (ha : RF a n) : RF (notL a) (2 + 2 * n) := ⟨(not_ok ha.may).1, by
  have h1 := build_len (fun c d => !inL a c d) (cutsL a) []
  have h2 := cuts_len (row_mem ha.may)
  have := ha.len
  unfold notL
  rw [List.length_nil] at h1
  omega⟩
section
variable {a b c : List Sp} (ha : rowMay a = true) (hb : rowMay b = true) (hc : rowMay c = true)
include ha in
theorem not_not4 : notL (notL a) = a := row_ext _ _ (not_ok (not_ok ha).1).1 ha fun x hx he => by
  rw [(not_ok (not_ok ha).1).2 x hx he, (not_ok ha).2 x hx he, Bool.not_not]
include ha hb in
theorem de_morgan4 : notL (orL a b) = andL (notL a) (notL b) := row_ext _ _ (not_ok (or_ok ha hb).1).1 (and_ok (not_ok ha).1 (not_ok hb).1).1 fun x hx he => by
  rw [(not_ok (or_ok ha hb).1).2 x hx he, (or_ok ha hb).2 x hx he, (and_ok (not_ok ha).1 (not_ok hb).1).2 x hx he, (not_ok ha).2 x hx he, (not_ok hb).2 x hx he, Bool.not_or]
include ha hb in
theorem and_in4 : andL (andL a b) a = andL a b := row_ext _ _ (and_ok (and_ok ha hb).1 ha).1 (and_ok ha hb).1 fun x hx he => by
  rw [(and_ok (and_ok ha hb).1 ha).2 x hx he, (and_ok ha hb).2 x hx he]
  cases den a x <;> cases den b x <;> rfl
include ha hb in
theorem within_iff4 : andL a b = a ↔ andL a (notL b) = [] := by
  have h1 := and_ok ha hb
  have h2 := and_ok ha (not_ok hb).1
  constructor
  · intro e
    refine row_ext _ _ h2.1 rfl fun x hx he => ?_
    have h3 := h1.2 x hx he
    rw [e] at h3
    rw [h2.2 x hx he, (not_ok hb).2 x hx he]
    show _ = false
    cases h4 : den a x with
    | false => rfl
    | true => rw [h4] at h3; simp at h3; rw [h3]; rfl
  · intro e
    refine row_ext _ _ h1.1 ha fun x hx he => ?_
    have h3 := h2.2 x hx he
    rw [e, (not_ok hb).2 x hx he] at h3
    rw [h1.2 x hx he]
    have h5 : den [] x = false := rfl
    rw [h5] at h3
    cases h4 : den a x with
    | false => rfl
    | true => rw [h4] at h3; simp at h3; rw [h3]; rfl
end
theorem pos_lt_end {v : Ver} (hv : v.may = true) : cmpC (posC v) (endC 1) < 0 := by
  have h1 := le_last (posC_may hv)
  have h2 : cmpC (posC v) (endC 1) ≠ 0 := fun e => by
    have := (cut_eq (posC_may hv) last_may).1 e
    have h3 := congrArg Cu.e this
    simp [posC, endC] at h3
  omega
theorem has_and4 {a b : List Sp} {v : Ver} (ha : rowMay a = true) (hb : rowMay b = true) (hv : v.may = true) : rowHas (andL a b) v = (rowHas a v && rowHas b v) := by
  rw [has_den (and_ok ha hb).1 hv, has_den ha hv, has_den hb hv, (and_ok ha hb).2 _ (posC_may hv) (pos_lt_end hv)]
end Go.Proofs.YtgeccfdofmnphaaGreat
end

section
/-
  Steps: two results in two variables; a region whose ends are brought together; the rest of a slice that came in. No condition of their own.
-/
namespace Go.Proofs.YtgeccfdofmnphaaGreat
open Go.RowKit
set_option linter.unusedVariables false
set_option linter.unusedSimpArgs false
section
variable {M : List Nat} {P : Program} {n : Nat} {W : World} {Q : Exit → Act → World → Prop} {L : List Blk} {f : Nat → Value}
theorem fin_cc {fn : Func} {R : Ending → World → Prop} {p q : Tmp} {ty tz : TypeId} (i j : Nat) (x y : Blk) {off oft : Nat} (v v' : Value) (hres : fn.results = #[.cell p ty, .cell q tz]) (hL : L[i]? = some x) (hL' : L[j]? = some y)
    (hp : ev n f (.tmp p) = .pointer (some ⟨x.b, off, none⟩)) (hq : ev n f (.tmp q) = .pointer (some ⟨y.b, oft, none⟩)) (hv : readAt P ty x.cs off = some v) (hv' : readAt P tz y.cs oft = some v') (hR : ∀ w, Own M W w L → R (.returned (.tuple #[v, v'])) w) : Fin M n W (bodyPost P fn R) .ret L f := ⟨fun w hO => by
  refine bodyPost_ret (v := .tuple #[v, v']) ?_ rfl (hR w hO)
  have e : (Fr n f).tmps.getD p undef = .pointer (some ⟨x.b, off, none⟩) := (getD_ofFn n f p).trans hp
  have e' : (Fr n f).tmps[p]?.getD undef = .pointer (some ⟨x.b, off, none⟩) := by simpa using e
  have e2 : (Fr n f).tmps.getD q undef = .pointer (some ⟨y.b, oft, none⟩) := (getD_ofFn n f q).trans hq
  have e2' : (Fr n f).tmps[q]?.getD undef = .pointer (some ⟨y.b, oft, none⟩) := by simpa using e2
  have h1 := run_readAt hv (hO.get hL)
  have h2 := run_readAt hv' (hO.get hL')
  simp [results, hres, e', e2', asAddr, h1, h2]⟩
def JoinQ (M : List Nat) (n : Nat) (W : World) (R : List Blk → (Nat → Value) → Prop) : Exit → Act → World → Prop
  | .normal, a, w => ∃ L f, R L f ∧ Own M W w L ∧ a = Fr n f
  | _, _, _ => False
theorem pq_join {R : List Blk → (Nat → Value) → Prop} : PQ (JoinQ M n W R) := fun c a d v w h => h
theorem ok_join {c : Code} (R : List Blk → (Nat → Value) → Prop) (h1 : Ok M P n W (JoinQ M n W R) c L f) (h2 : ∀ L f, R L f → Fin M n W Q .normal L f) : Ok M P n W Q c L f := ⟨fun w hO =>
  Code.wp_mono (fun e a w h => by
    cases e with
    | normal =>
      obtain ⟨L', f', hR, hO', rfl⟩ := h
      exact (h2 L' f' hR).go w hO'
    | _ => exact absurd h id) (h1.go w hO)⟩
theorem fin_join {R : List Blk → (Nat → Value) → Prop} (h : R L f) : Fin M n W (JoinQ M n W R) .normal L f := ⟨fun w hO => ⟨L, f, h, hO, rfl⟩⟩
end
/-- s[1:] of a slice that came in. -/
theorem Reads.tail {α : Type} {g : α → List Value} {sz : Nat} (hg : ∀ x, (g x).length = sz) {w : World} {B b off c : Nat} {x : α} {l : List α} (h : Reads g w B (some ⟨b, off, none⟩) (x :: l)) (hc : l.length < c) : Reads g w B (some ⟨b, off + (if c = (1 : Int).toNat then 0 else (1 : Int).toNat * sz), none⟩) l := fun h0 => by
  obtain ⟨b', off', e, hlt, hcell⟩ := h (by simp)
  obtain ⟨rfl, rfl⟩ : b = b' ∧ off = off' := by simp at e; exact e
  refine ⟨b, _, rfl, hlt, fun k u hk => ?_⟩
  rw [if_neg (by show ¬ c = 1; omega)]
  have := hcell (sz + k) u (by rw [List.flatMap_cons, List.getElem?_append_right (by rw [hg]; omega), hg]; rw [show sz + k - sz = k from by omega]; exact hk)
  rw [show off + (1 : Int).toNat * sz + k = off + (sz + k) from by show off + 1 * sz + k = _; omega]
  exact this
end Go.Proofs.YtgeccfdofmnphaaGreat
end

section
/-
  Package row's small functions: order, the test of Has; slices.IndexFunc, ContainsFunc with it.
-/
namespace Go.Proofs.YtgeccfdofmnphaaGreat
open Go.RowKit
set_option maxRecDepth 100000
set_option linter.unusedVariables false
set_option linter.unusedSimpArgs false
set_option maxHeartbeats 2000000


theorem minC_short {a b : Cu} (ha : a.short) (hb : b.short) : (minC a b).short := by unfold minC; split <;> assumption
theorem maxC_short {a b : Cu} (ha : a.short) (hb : b.short) : (maxC a b).short := by unfold maxC; split <;> assumption

theorem order_any (a b : Cu) (W : World) (ha : a.short) (hb : b.short) :
    Calls Tryz.prog 83 #[cutV a, cutV b] W fun e w' => e = .returned (.tuple #[cutV (minC a b), cutV (maxC a b)]) ∧ Below W.heap.size W w' := by
  refine calls_ok (n := 14) Tryz.func83 rfl (by kernel_rfl) (by kernel_rfl) ?_
  refine ok_seq ?_
  refine ok_region ?_
  refine s_box (cutV a) (by kernel_rfl) rfl (by kernel_rfl) (fun b1 => ?_)
  refine s_box (cutV b) (by kernel_rfl) rfl (by kernel_rfl) (fun b2 => ?_)
  refine s_alloc_at (.agg #[.int .i64 0, .int .i64 0, .int .i64 0, .int .i64 0, .string ⟨#[]⟩, .string ⟨#[]⟩, .bool false]) (by kernel_rfl) rfl (by kernel_rfl) (fun b3 => ?_)
  refine s_alloc_at (.agg #[.int .i64 0, .int .i64 0, .int .i64 0, .int .i64 0, .string ⟨#[]⟩, .string ⟨#[]⟩, .bool false]) (by kernel_rfl) rfl (by kernel_rfl) (fun b4 => ?_)
  refine s_nil ?_
  refine fin_seq ?_
  refine ok_seq ?_
  refine ok_seq ?_
  refine ok_region ?_
  refine s_load 3 ⟨b1, (cutV a).cells, 48⟩ (off := 0) (cutV a) (by kernel_rfl) rfl (by kernel_rfl) (by kernel_rfl) (by kernel_rfl) ?_
  refine s_load 2 ⟨b2, (cutV b).cells, 48⟩ (off := 0) (cutV b) (by kernel_rfl) rfl (by kernel_rfl) (by kernel_rfl) (by kernel_rfl) ?_
  refine s_call (k := 78) (args := #[cutV a, cutV b]) (.int .i64 (cmpC a b)) (by kernel_rfl) (fun _ => by kernel_rfl) (fun w _ => cmpC_any a b w ha hb) ?_
  by_cases h1 : (0 : Int) < cmpC a b
  · skip
    refine s_dec (p := (0 : Int) < cmpC a b) true (by kernel_rfl) (fun _ => by kernel_rfl) (decide_eq_true (h1)) ?_
    refine s_nil ?_
    refine fin_seq ?_
    refine ok_true (by kernel_rfl) ?_
    refine ok_seq ?_
    refine ok_anyhL [⟨b2, (cutV b).cells, 48⟩, ⟨b1, (cutV a).cells, 48⟩] (by kernel_rfl) (fun w hO => Own.sub [⟨b4, #[.int .i64 0, .int .i64 0, .int .i64 0, .int .i64 0, .string ⟨#[]⟩, .string ⟨#[]⟩, .bool false], 48⟩, ⟨b3, #[.int .i64 0, .int .i64 0, .int .i64 0, .int .i64 0, .string ⟨#[]⟩, .string ⟨#[]⟩, .bool false], 48⟩] hO) ?_
    refine h_load 0 [⟨b4, #[.int .i64 0, .int .i64 0, .int .i64 0, .int .i64 0, .string ⟨#[]⟩, .string ⟨#[]⟩, .bool false], 48⟩, ⟨b3, #[.int .i64 0, .int .i64 0, .int .i64 0, .int .i64 0, .string ⟨#[]⟩, .string ⟨#[]⟩, .bool false], 48⟩] _ 0 ⟨b2, (cutV b).cells, 48⟩ (off := 0) (cutV b) rfl (by kernel_rfl) (by kernel_rfl) (by kernel_rfl) (pq_seq (pq_seq pq_body)) (by kernel_rfl) rfl (by kernel_rfl) (by kernel_rfl) (by kernel_rfl) ?_
    refine h_load 1 [⟨b4, #[.int .i64 0, .int .i64 0, .int .i64 0, .int .i64 0, .string ⟨#[]⟩, .string ⟨#[]⟩, .bool false], 48⟩, ⟨b3, #[.int .i64 0, .int .i64 0, .int .i64 0, .int .i64 0, .string ⟨#[]⟩, .string ⟨#[]⟩, .bool false], 48⟩] _ 1 ⟨b1, (cutV a).cells, 48⟩ (off := 0) (cutV a) rfl (by kernel_rfl) (by kernel_rfl) (by kernel_rfl) (pq_seq (pq_seq pq_body)) (by kernel_rfl) rfl (by kernel_rfl) (by kernel_rfl) (by kernel_rfl) ?_
    refine h_one 2 (by kernel_rfl) ?_
    refine hs_store [⟨b4, #[.int .i64 0, .int .i64 0, .int .i64 0, .int .i64 0, .string ⟨#[]⟩, .string ⟨#[]⟩, .bool false], 48⟩, ⟨b3, #[.int .i64 0, .int .i64 0, .int .i64 0, .int .i64 0, .string ⟨#[]⟩, .string ⟨#[]⟩, .bool false], 48⟩] _ 1 ⟨b3, #[.int .i64 0, .int .i64 0, .int .i64 0, .int .i64 0, .string ⟨#[]⟩, .string ⟨#[]⟩, .bool false], 48⟩ (off := 0) (cutV b) rfl (by kernel_rfl) rfl rfl (by kernel_rfl) (by kernel_rfl) (by kernel_rfl) (by kernel_rfl) (by kernel_rfl) ?_
    refine h_one 3 (by kernel_rfl) ?_
    refine hs_store [⟨b4, #[.int .i64 0, .int .i64 0, .int .i64 0, .int .i64 0, .string ⟨#[]⟩, .string ⟨#[]⟩, .bool false], 48⟩, ⟨b3, (cutV b).cells, 48⟩] _ 0 ⟨b4, #[.int .i64 0, .int .i64 0, .int .i64 0, .int .i64 0, .string ⟨#[]⟩, .string ⟨#[]⟩, .bool false], 48⟩ (off := 0) (cutV a) rfl (by kernel_rfl) rfl rfl (by kernel_rfl) (by kernel_rfl) (by kernel_rfl) (by kernel_rfl) (by kernel_rfl) ?_
    refine h_done (by kernel_rfl) ?_
    refine fin_seq ?_
    refine ok_ret ?_
    refine fin_seq_ret ?_
    refine fin_cc 1 0 ⟨b3, (cutV b).cells, 48⟩ ⟨b4, (cutV a).cells, 48⟩ (off := 0) (oft := 0) (cutV b) (cutV a) Tryz.results83 (by kernel_rfl) (by kernel_rfl) (by kernel_rfl) (by kernel_rfl) (by kernel_rfl) (by kernel_rfl) ?_
    exact fun w hO => ⟨by unfold minC maxC; simp only [h1, if_true, if_false], hO.below⟩
  · skip
    refine s_dec (p := (0 : Int) < cmpC a b) false (by kernel_rfl) (fun _ => by kernel_rfl) (decide_eq_false (h1)) ?_
    refine s_nil ?_
    refine fin_seq ?_
    refine ok_false (by kernel_rfl) ?_
    refine ok_skip ?_
    refine fin_seq ?_
    refine ok_seq ?_
    refine ok_anyhL [⟨b2, (cutV b).cells, 48⟩, ⟨b1, (cutV a).cells, 48⟩] (by kernel_rfl) (fun w hO => Own.sub [⟨b4, #[.int .i64 0, .int .i64 0, .int .i64 0, .int .i64 0, .string ⟨#[]⟩, .string ⟨#[]⟩, .bool false], 48⟩, ⟨b3, #[.int .i64 0, .int .i64 0, .int .i64 0, .int .i64 0, .string ⟨#[]⟩, .string ⟨#[]⟩, .bool false], 48⟩] hO) ?_
    refine h_load 0 [⟨b4, #[.int .i64 0, .int .i64 0, .int .i64 0, .int .i64 0, .string ⟨#[]⟩, .string ⟨#[]⟩, .bool false], 48⟩, ⟨b3, #[.int .i64 0, .int .i64 0, .int .i64 0, .int .i64 0, .string ⟨#[]⟩, .string ⟨#[]⟩, .bool false], 48⟩] _ 1 ⟨b1, (cutV a).cells, 48⟩ (off := 0) (cutV a) rfl (by kernel_rfl) (by kernel_rfl) (by kernel_rfl) (pq_seq pq_body) (by kernel_rfl) rfl (by kernel_rfl) (by kernel_rfl) (by kernel_rfl) ?_
    refine h_load 1 [⟨b4, #[.int .i64 0, .int .i64 0, .int .i64 0, .int .i64 0, .string ⟨#[]⟩, .string ⟨#[]⟩, .bool false], 48⟩, ⟨b3, #[.int .i64 0, .int .i64 0, .int .i64 0, .int .i64 0, .string ⟨#[]⟩, .string ⟨#[]⟩, .bool false], 48⟩] _ 0 ⟨b2, (cutV b).cells, 48⟩ (off := 0) (cutV b) rfl (by kernel_rfl) (by kernel_rfl) (by kernel_rfl) (pq_seq pq_body) (by kernel_rfl) rfl (by kernel_rfl) (by kernel_rfl) (by kernel_rfl) ?_
    refine h_one 2 (by kernel_rfl) ?_
    refine hs_store [⟨b4, #[.int .i64 0, .int .i64 0, .int .i64 0, .int .i64 0, .string ⟨#[]⟩, .string ⟨#[]⟩, .bool false], 48⟩, ⟨b3, #[.int .i64 0, .int .i64 0, .int .i64 0, .int .i64 0, .string ⟨#[]⟩, .string ⟨#[]⟩, .bool false], 48⟩] _ 1 ⟨b3, #[.int .i64 0, .int .i64 0, .int .i64 0, .int .i64 0, .string ⟨#[]⟩, .string ⟨#[]⟩, .bool false], 48⟩ (off := 0) (cutV a) rfl (by kernel_rfl) rfl rfl (by kernel_rfl) (by kernel_rfl) (by kernel_rfl) (by kernel_rfl) (by kernel_rfl) ?_
    refine h_one 3 (by kernel_rfl) ?_
    refine hs_store [⟨b4, #[.int .i64 0, .int .i64 0, .int .i64 0, .int .i64 0, .string ⟨#[]⟩, .string ⟨#[]⟩, .bool false], 48⟩, ⟨b3, (cutV a).cells, 48⟩] _ 0 ⟨b4, #[.int .i64 0, .int .i64 0, .int .i64 0, .int .i64 0, .string ⟨#[]⟩, .string ⟨#[]⟩, .bool false], 48⟩ (off := 0) (cutV b) rfl (by kernel_rfl) rfl rfl (by kernel_rfl) (by kernel_rfl) (by kernel_rfl) (by kernel_rfl) (by kernel_rfl) ?_
    refine h_done (by kernel_rfl) ?_
    refine fin_seq ?_
    refine ok_ret ?_
    refine fin_cc 1 0 ⟨b3, (cutV a).cells, 48⟩ ⟨b4, (cutV b).cells, 48⟩ (off := 0) (oft := 0) (cutV a) (cutV b) Tryz.results83 (by kernel_rfl) (by kernel_rfl) (by kernel_rfl) (by kernel_rfl) (by kernel_rfl) (by kernel_rfl) ?_
    exact fun w hO => ⟨by unfold minC maxC; simp only [h1, if_true, if_false], hO.below⟩
theorem has1_any (s : Sp) (v : Ver) (c : Nat) (W : World) (hc : c < W.heap.size) (hcell : ∀ j u, (verV v).cells.toList[j]? = some u → W.cell? ⟨c, 0 + j, none⟩ = some u) (hs : s.short) (hv : v.short) :
    Calls Tryz.prog 92 #[spanV s, .pointer (some ⟨c, 0, none⟩)] W fun e w' => e = .returned (.bool (holdsC s v)) ∧ Below W.heap.size W w' := by
  refine calls_ok (n := 7) Tryz.func92 rfl (by kernel_rfl) (by kernel_rfl) ?_
  refine ok_seq ?_
  refine ok_region ?_
  refine s_box (spanV s) (by kernel_rfl) rfl (by kernel_rfl) (fun b1 => ?_)
  refine s_val (.bool false) (by kernel_rfl) (fun _ => by kernel_rfl) ?_
  refine s_nil ?_
  refine fin_seq ?_
  refine ok_seq ?_
  refine ok_region ?_
  refine s_load 0 ⟨b1, (spanV s).cells, 50⟩ (off := 0) (spanV s) (by kernel_rfl) rfl (by kernel_rfl) (by kernel_rfl) (by kernel_rfl) ?_
  refine s_old (verV v) (a := ⟨c, 0, none⟩) (by kernel_rfl) rfl (by kernel_rfl) (fun w hO => old_load (verV v).cells.toList (verV v) (fun j u h => (hO.below.cell (p := ⟨c, 0 + j, none⟩) hc).trans (hcell j u h)) (by kernel_rfl)) ?_
  refine s_call (k := 93) (args := #[spanV s, verV v]) (.bool (holdsC s v)) (by kernel_rfl) (fun _ => by kernel_rfl) (fun w _ => holdsC_any s v w hs hv) ?_
  refine s_val (.bool (holdsC s v)) (by kernel_rfl) (fun _ => by kernel_rfl) ?_
  refine s_nil ?_
  refine fin_seq ?_
  refine ok_ret ?_
  refine fin_ret (.bool (holdsC s v)) Tryz.results92 (by kernel_rfl) ?_
  exact fun w hO => ⟨rfl, hO.below⟩
/-- The place of the first span that holds v, or -1. -/
def idxP (v : Ver) : List Sp → Int → Int
  | [], _ => -1
  | s :: r, k => if holdsC s v then k else idxP v r (k + 1)
theorem idxP_any (v : Ver) : ∀ (l : List Sp) (k : Int), 0 ≤ k → decide (0 ≤ idxP v l k) = l.any (holdsC · v)
  | [], k, _ => rfl
  | s :: r, k, hk => by
    unfold idxP
    rw [List.any_cons]
    cases h : holdsC s v with
    | true => rw [if_pos rfl, Bool.true_or]; exact decide_eq_true hk
    | false => rw [if_neg (by decide), Bool.false_or]; exact idxP_any v r (k + 1) (by omega)
theorem idxf_any (A : Option Addr) (cap c : Nat) (l : List Sp) (v : Ver) (W : World) (hv : Reads spanC W W.heap.size A l) (hn : l.length ≤ 1000000) (hl : ShortL l) (hc : c < W.heap.size) (hcell : ∀ j u, (verV v).cells.toList[j]? = some u → W.cell? ⟨c, 0 + j, none⟩ = some u) (hv2 : v.short) :
    Calls Tryz.prog 90 #[.slice A l.length cap, .func (.func 92) #[] #[.pointer (some ⟨c, 0, none⟩)]] W fun e w' => e = .returned (.int .i64 (idxP v l 0)) ∧ Below W.heap.size W w' := by
  refine calls_ok (n := 19) Tryz.func90 rfl (by kernel_rfl) (by kernel_rfl) ?_
  refine ok_seq ?_
  refine ok_region ?_
  refine s_val (.int .i64 0) (by kernel_rfl) (fun _ => by kernel_rfl) ?_
  refine s_nil ?_
  refine fin_seq ?_
  refine ok_seq ?_
  refine ok_seq ?_
  refine ok_region ?_
  refine s_val (.slice A l.length cap) (by kernel_rfl) (fun _ => by kernel_rfl) ?_
  refine s_val (.int .i64 (l.length : Int)) (by kernel_rfl) (fun _ => by kernel_rfl) ?_
  refine s_val (.int .i64 0) (by kernel_rfl) (fun _ => by kernel_rfl) ?_
  refine s_nil ?_
  refine fin_seq ?_
  refine ok_block ?_
  refine ok_loop (fun L f m => ∃ (k : Nat) (j : Nat → Value), (k ≤ l.length ∧ idxP v l 0 = idxP v (l.drop k) (k : Int)) ∧ L = [] ∧ f = upds j [(0, .slice A l.length cap), (1, .func (.func 92) #[] #[.pointer (some ⟨c, 0, none⟩)]), (7, .int .i64 (l.length : Int)), (8, .int .i64 (k : Int))] ∧ m = l.length - k) (l.length - 0) ⟨0, _, ⟨Nat.zero_le _, by rw [List.drop_zero]; rfl⟩, rfl, upds_self _ ⟨by kernel_rfl, by kernel_rfl, by kernel_rfl, by kernel_rfl, trivial⟩, rfl⟩ ?_
  rintro L f m ⟨k, j, hrel, rfl, rfl, rfl⟩
  have hkl := hrel.1
  refine ok_seq ?_
  refine ok_region ?_
  by_cases h1 : (k : Int) < (l.length : Int)
  · skip
    have hk : k < l.length := by omega
    obtain ⟨b, off, hA, hlt, hcel⟩ := hv (by omega)
    obtain ⟨s, hs⟩ : ∃ s, l[k] = s := ⟨_, rfl⟩
    have hsk : s.short := hs ▸ hl l[k] (List.getElem_mem hk)
    refine s_dec (p := (k : Int) < (l.length : Int)) true (by kernel_rfl) (fun _ => by kernel_rfl) (decide_eq_true (h1)) ?_
    refine s_nil ?_
    refine fin_seq ?_
    refine ok_seq ?_
    refine ok_true (by kernel_rfl) ?_
    refine ok_skip ?_
    refine fin_seq ?_
    refine ok_seq ?_
    refine ok_block ?_
    refine ok_seq ?_
    refine ok_region ?_
    refine s_val (.int .i64 (k : Int)) (by kernel_rfl) (fun _ => by kernel_rfl) ?_
    refine s_val (.int .i64 (k : Int)) (by kernel_rfl) (fun _ => by kernel_rfl) ?_
    refine s_nil ?_
    refine fin_seq ?_
    refine ok_seq ?_
    refine ok_region ?_
    refine s_val (.func (.func 92) #[] #[.pointer (some ⟨c, 0, none⟩)]) (by kernel_rfl) (fun _ => by kernel_rfl) ?_
    refine s_val (.slice A l.length cap) (by kernel_rfl) (fun _ => by kernel_rfl) ?_
    refine s_val (.int .i64 (k : Int)) (by kernel_rfl) (fun _ => by kernel_rfl) ?_
    refine s_val (.pointer (some ⟨b, off + k * 14, none⟩)) (by kernel_rfl) (run_ixA (b := b) (off := off) (c := cap) (n := l.length) (k := .i64) (j := (k : Int)) (e := 50) (sz := 14) rfl (by kernel_rfl) hA (by kernel_rfl) (by kernel_rfl) (by kernel_rfl) (by omega) (by omega) (by omega)) ?_
    refine s_old (spanV s) (a := ⟨b, off + k * 14, none⟩) (by kernel_rfl) rfl (by kernel_rfl) (fun w hO => elem_load spanC_len (fun j u h => (hO.below.cell (p := ⟨b, off + j, none⟩) hlt).trans (hcel j u h)) k 0 hk (by omega) _ (by rw [hs]; kernel_rfl)) ?_
    refine s_call (k := 92) (args := #[spanV s, .pointer (some ⟨c, 0, none⟩)]) (.bool (holdsC s v)) (by kernel_rfl) (fun _ => by kernel_rfl) (fun w hO => has1_any s v c w (Nat.lt_of_lt_of_le hc hO.size) (fun j u h => (hO.below.cell (p := ⟨c, 0 + j, none⟩) hc).trans (hcell j u h)) hsk hv2) ?_
    refine s_nil ?_
    refine fin_seq ?_
    cases h2 : holdsC s v with
    | true =>
      refine ok_true (by kernel_rfl) ?_
      refine ok_seq ?_
      refine ok_region ?_
      refine s_val (.int .i64 (k : Int)) (by kernel_rfl) (fun _ => by kernel_rfl) ?_
      refine s_val (.int .i64 (k : Int)) (by kernel_rfl) (fun _ => by kernel_rfl) ?_
      refine s_nil ?_
      refine fin_seq ?_
      refine ok_ret ?_
      refine fin_block_ret ?_
      refine fin_seq_ret ?_
      refine fin_round_ret ?_
      refine fin_block_ret ?_
      refine fin_seq_ret ?_
      refine fin_ret (.int .i64 (k : Int)) Tryz.results90 (by kernel_rfl) ?_
      exact fun w hO => ⟨by rw [hrel.2, List.drop_eq_getElem_cons hk, hs]; simp only [idxP, h2]; rfl, hO.below⟩
    | false =>
      refine ok_false (by kernel_rfl) ?_
      refine ok_skip ?_
      refine fin_block ?_
      refine fin_seq ?_
      refine ok_region ?_
      refine s_sum (k := .i64) (((k + 1 : Nat) : Int)) (by kernel_rfl) (fun _ => by kernel_rfl) (IntWalk.i64_in _ (by omega)) ?_
      refine s_val (.int .i64 ((k + 1 : Nat) : Int)) (by kernel_rfl) (fun _ => by kernel_rfl) ?_
      refine s_nil ?_
      have hnext : idxP v l 0 = idxP v (l.drop (k + 1)) ((k + 1 : Nat) : Int) := by rw [hrel.2, List.drop_eq_getElem_cons hk, hs]; simp only [idxP, h2]; rfl
      exact fin_round (m' := l.length - (k + 1)) (by omega) ⟨k + 1, _, ⟨by omega, hnext⟩, rfl, upds_self _ ⟨by kernel_rfl, by kernel_rfl, by kernel_rfl, by kernel_rfl, trivial⟩, rfl⟩
  · skip
    refine s_dec (p := (k : Int) < (l.length : Int)) false (by kernel_rfl) (fun _ => by kernel_rfl) (decide_eq_false (h1)) ?_
    refine s_nil ?_
    refine fin_seq ?_
    refine ok_seq ?_
    refine ok_false (by kernel_rfl) ?_
    refine ok_exit ?_
    refine fin_seq_exit ?_
    refine fin_round_exit ?_
    refine fin_block_exit ?_
    refine fin_seq ?_
    refine ok_seq ?_
    refine ok_region ?_
    refine s_val (.int .i64 (-1)) (by kernel_rfl) (fun _ => by kernel_rfl) ?_
    refine s_nil ?_
    refine fin_seq ?_
    refine ok_ret ?_
    refine fin_ret (.int .i64 (-1)) Tryz.results90 (by kernel_rfl) ?_
    exact fun w hO => ⟨by rw [hrel.2, List.drop_of_length_le (by omega)]; rfl, hO.below⟩
theorem containsf_any (A : Option Addr) (cap c : Nat) (l : List Sp) (v : Ver) (W : World) (hv : Reads spanC W W.heap.size A l) (hn : l.length ≤ 1000000) (hl : ShortL l) (hc : c < W.heap.size) (hcell : ∀ j u, (verV v).cells.toList[j]? = some u → W.cell? ⟨c, 0 + j, none⟩ = some u) (hv2 : v.short) :
    Calls Tryz.prog 53 #[.slice A l.length cap, .func (.func 92) #[] #[.pointer (some ⟨c, 0, none⟩)]] W fun e w' => e = .returned (.bool (l.any (holdsC · v))) ∧ Below W.heap.size W w' := by
  rw [← idxP_any v l 0 (by omega)]
  refine calls_ok (n := 9) Tryz.func53 rfl (by kernel_rfl) (by kernel_rfl) ?_
  refine ok_seq ?_
  refine ok_region ?_
  refine s_val (.bool false) (by kernel_rfl) (fun _ => by kernel_rfl) ?_
  refine s_nil ?_
  refine fin_seq ?_
  refine ok_seq ?_
  refine ok_region ?_
  refine s_val (.slice A l.length cap) (by kernel_rfl) (fun _ => by kernel_rfl) ?_
  refine s_val (.func (.func 92) #[] #[.pointer (some ⟨c, 0, none⟩)]) (by kernel_rfl) (fun _ => by kernel_rfl) ?_
  refine s_call (k := 90) (args := #[.slice A l.length cap, .func (.func 92) #[] #[.pointer (some ⟨c, 0, none⟩)]]) (.int .i64 (idxP v l 0)) (by kernel_rfl) (fun _ => by kernel_rfl) (fun w hO => idxf_any A cap c l v w (hv.on hO.below hO.size) hn hl (Nat.lt_of_lt_of_le hc hO.size) (fun j u h => (hO.below.cell (p := ⟨c, 0 + j, none⟩) hc).trans (hcell j u h)) hv2) ?_
  by_cases h1 : (0 : Int) ≤ idxP v l 0
  · skip
    refine s_dec (p := (0 : Int) ≤ idxP v l 0) true (by kernel_rfl) (fun _ => by kernel_rfl) (decide_eq_true (h1)) ?_
    refine s_val (.bool true) (by kernel_rfl) (fun _ => by kernel_rfl) ?_
    refine s_nil ?_
    refine fin_seq ?_
    refine ok_ret ?_
    refine fin_ret (.bool true) Tryz.results53 (by kernel_rfl) ?_
    exact fun w hO => ⟨by simp only [decide_eq_true h1], hO.below⟩
  · skip
    refine s_dec (p := (0 : Int) ≤ idxP v l 0) false (by kernel_rfl) (fun _ => by kernel_rfl) (decide_eq_false (h1)) ?_
    refine s_val (.bool false) (by kernel_rfl) (fun _ => by kernel_rfl) ?_
    refine s_nil ?_
    refine fin_seq ?_
    refine ok_ret ?_
    refine fin_ret (.bool false) Tryz.results53 (by kernel_rfl) ?_
    exact fun w hO => ⟨by simp only [decide_eq_false h1], hO.below⟩
end Go.Proofs.YtgeccfdofmnphaaGreat
end

section
/-
  Package row's May, Has.
-/
namespace Go.Proofs.YtgeccfdofmnphaaGreat
open Go.RowKit
set_option maxRecDepth 100000
set_option linter.unusedVariables false
set_option linter.unusedSimpArgs false
set_option maxHeartbeats 2000000


theorem may_drop : ∀ (a b : List Sp), rowMay (a ++ b) = true → rowMay b = true
  | [], _, h => h
  | _ :: a, b, h => may_drop a b (row_tail h)
theorem may_take_bad {l : List Sp} {k : Nat} (hk : k < l.length) (h : l[k].may = false) : rowMay l = false := by
  cases h2 : rowMay l with
  | false => rfl
  | true => rw [row_mem h2 _ (List.getElem_mem hk)] at h; cases h
theorem may_step {l : List Sp} {k : Nat} (hk : k < l.length) (h : rowMay (l.take k) = true) (hs : l[k].may = true) (hp : 0 < k → cmpC (l[k - 1]'(by omega)).hi l[k].lo < 0) : rowMay (l.take (k + 1)) = true := by
  rw [List.take_succ_eq_append_getElem hk]
  refine row_snoc h hs (fun s hs2 => ?_)
  by_cases h0 : k = 0
  · subst h0; simp at hs2
  · have e : s = l[k - 1]'(by omega) := by
      rw [List.getLast?_eq_getElem?, List.length_take, Nat.min_eq_left (by omega), List.getElem?_take, if_pos (by omega), List.getElem?_eq_getElem (by omega)] at hs2
      exact (Option.some.inj hs2).symm
    rw [e]; exact hp (by omega)
theorem may_not {l : List Sp} {k : Nat} (hk : k < l.length) (h0 : 0 < k) (h : ¬ cmpC (l[k - 1]'(by omega)).hi l[k].lo < 0) : rowMay l = false := by
  cases h2 : rowMay l with
  | false => rfl
  | true =>
    refine absurd ?_ h
    have e : l = l.take (k - 1) ++ (l[k - 1]'(by omega)) :: l[k] :: l.drop (k + 1) := by
      have e1 := (List.take_append_drop (k - 1) l).symm
      rw [List.drop_eq_getElem_cons (show k - 1 < l.length by omega)] at e1
      have e2 : l.drop (k - 1 + 1) = l[k] :: l.drop (k + 1) := by
        rw [show k - 1 + 1 = k from by omega, List.drop_eq_getElem_cons hk]
      rw [e2] at e1; exact e1
    have h3 : rowMay ((l[k - 1]'(by omega)) :: l[k] :: l.drop (k + 1)) = true := may_drop (l.take (k - 1)) _ (e ▸ h2)
    exact row_after h3 _ (List.mem_cons_self ..)
theorem may4_any (A : Option Addr) (cap : Nat) (l : List Sp) (W : World) (hv : Reads spanC W W.heap.size A l) (hn : l.length ≤ 1000000) (hl : ShortL l) :
    Calls Tryz.prog 42 #[.slice A l.length cap] W fun e w' => e = .returned (.bool (rowMay l)) ∧ Below W.heap.size W w' := by
  refine calls_ok (n := 30) Tryz.func42 rfl (by kernel_rfl) (by kernel_rfl) ?_
  refine ok_seq ?_
  refine ok_region ?_
  refine s_val (.bool false) (by kernel_rfl) (fun _ => by kernel_rfl) ?_
  refine s_nil ?_
  refine fin_seq ?_
  refine ok_seq ?_
  refine ok_seq ?_
  refine ok_region ?_
  refine s_val (.slice A l.length cap) (by kernel_rfl) (fun _ => by kernel_rfl) ?_
  refine s_val (.int .i64 (l.length : Int)) (by kernel_rfl) (fun _ => by kernel_rfl) ?_
  refine s_val (.int .i64 0) (by kernel_rfl) (fun _ => by kernel_rfl) ?_
  refine s_nil ?_
  refine fin_seq ?_
  refine ok_block ?_
  refine ok_loop (fun L f m => ∃ (k : Nat) (j : Nat → Value), (k ≤ l.length ∧ rowMay (l.take k) = true) ∧ L = [] ∧ f = upds j [(0, .slice A l.length cap), (5, .slice A l.length cap), (6, .int .i64 (l.length : Int)), (7, .int .i64 (k : Int))] ∧ m = l.length - k) (l.length - 0) ⟨0, _, ⟨Nat.zero_le _, by rw [List.take_zero]; rfl⟩, rfl, upds_self _ ⟨by kernel_rfl, by kernel_rfl, by kernel_rfl, by kernel_rfl, trivial⟩, rfl⟩ ?_
  rintro L f m ⟨k, j, hrel, rfl, rfl, rfl⟩
  have hkl := hrel.1
  refine ok_seq ?_
  refine ok_region ?_
  by_cases h1 : (k : Int) < (l.length : Int)
  · skip
    have hk : k < l.length := by omega
    obtain ⟨b, off, hA, hlt, hcell⟩ := hv (by omega)
    obtain ⟨s, hs⟩ : ∃ s, l[k] = s := ⟨_, rfl⟩
    have hsk : s.short := hs ▸ hl l[k] (List.getElem_mem hk)
    refine s_dec (p := (k : Int) < (l.length : Int)) true (by kernel_rfl) (fun _ => by kernel_rfl) (decide_eq_true (h1)) ?_
    refine s_nil ?_
    refine fin_seq ?_
    refine ok_seq ?_
    refine ok_true (by kernel_rfl) ?_
    refine ok_skip ?_
    refine fin_seq ?_
    refine ok_seq ?_
    refine ok_block ?_
    refine ok_seq ?_
    refine ok_region ?_
    refine s_val (.int .i64 (k : Int)) (by kernel_rfl) (fun _ => by kernel_rfl) ?_
    refine s_val (.pointer (some ⟨b, off + k * 14, none⟩)) (by kernel_rfl) (run_ixA (b := b) (off := off) (c := cap) (n := l.length) (k := .i64) (j := (k : Int)) (e := 50) (sz := 14) rfl (by kernel_rfl) hA (by kernel_rfl) (by kernel_rfl) (by kernel_rfl) (by omega) (by omega) (by omega)) ?_
    refine s_old (spanV s) (a := ⟨b, off + k * 14, none⟩) (by kernel_rfl) rfl (by kernel_rfl) (fun w hO => elem_load spanC_len (fun j u h => (hO.below.cell (p := ⟨b, off + j, none⟩) hlt).trans (hcell j u h)) k 0 hk (by omega) _ (by rw [hs]; kernel_rfl)) ?_
    refine s_alloc_at (.agg #[.int .i64 0, .int .i64 0, .int .i64 0, .int .i64 0, .string ⟨#[]⟩, .string ⟨#[]⟩, .bool false, .int .i64 0, .int .i64 0, .int .i64 0, .int .i64 0, .string ⟨#[]⟩, .string ⟨#[]⟩, .bool false]) (by kernel_rfl) rfl (by kernel_rfl) (fun b1 => ?_)
    refine s_val (.int .i64 (k : Int)) (by kernel_rfl) (fun _ => by kernel_rfl) ?_
    refine s_store_at 0 ⟨b1, #[.int .i64 0, .int .i64 0, .int .i64 0, .int .i64 0, .string ⟨#[]⟩, .string ⟨#[]⟩, .bool false, .int .i64 0, .int .i64 0, .int .i64 0, .int .i64 0, .string ⟨#[]⟩, .string ⟨#[]⟩, .bool false], 50⟩ (off := 0) (spanV s) (by kernel_rfl) rfl rfl (by kernel_rfl) (by kernel_rfl) (by kernel_rfl) (by kernel_rfl) (by kernel_rfl) ?_
    refine s_nil ?_
    refine fin_seq ?_
    refine ok_seq ?_
    refine ok_seq ?_
    refine ok_region ?_
    refine s_load 0 ⟨b1, (spanV s).cells, 50⟩ (off := 0) (spanV s) (by kernel_rfl) rfl (by kernel_rfl) (by kernel_rfl) (by kernel_rfl) ?_
    refine s_call (k := 44) (args := #[spanV s]) (.bool s.may) (by kernel_rfl) (fun _ => by kernel_rfl) (fun w _ => spanMay_any s w hsk) ?_
    cases h2 : s.may with
    | true =>
      refine s_val (.bool false) (by kernel_rfl) (fun _ => by kernel_rfl) ?_
      refine s_nil ?_
      refine fin_seq ?_
      refine ok_false (by kernel_rfl) ?_
      refine ok_skip ?_
      refine fin_seq ?_
      refine ok_seq ?_
      refine ok_draw (by kernel_rfl) (by kernel_rfl) ?_
      refine q_val (.int .i64 (k : Int)) (by kernel_rfl) (fun _ => by kernel_rfl) ?_
      by_cases h3 : (0 : Int) < (k : Int)
      · skip
        have hk1 : k - 1 < l.length := by omega
        obtain ⟨p, hp⟩ : ∃ p, l[k - 1] = p := ⟨_, rfl⟩
        have hpk : p.short := hp ▸ hl l[k - 1] (List.getElem_mem hk1)
        refine q_dec (p := (0 : Int) < (k : Int)) true (by kernel_rfl) (fun _ => by kernel_rfl) (decide_eq_true (h3)) ?_
        refine q_val (.bool true) (by kernel_rfl) (fun _ => by kernel_rfl) ?_
        refine q_val (.slice A l.length cap) (by kernel_rfl) (fun _ => by kernel_rfl) ?_
        refine q_val (.int .i64 (k : Int)) (by kernel_rfl) (fun _ => by kernel_rfl) ?_
        refine q_sum (k := .i64) (((k : Int) : Int) - 1) (by kernel_rfl) (fun _ => by kernel_rfl) (IntWalk.i64_in _ (by omega)) ?_
        refine q_val (.pointer (some ⟨b, off + (k - 1) * 14, none⟩)) (by kernel_rfl) (run_ixA (b := b) (off := off) (c := cap) (n := l.length) (k := .i64) (j := (k : Int) - 1) (e := 50) (sz := 14) rfl (by kernel_rfl) hA (by kernel_rfl) (by kernel_rfl) (by kernel_rfl) (by omega) (by omega) (by omega)) ?_
        refine q_val (.pointer (some ⟨b, off + (k - 1) * 14 + 7, none⟩)) (by kernel_rfl) (fun _ => by kernel_rfl) ?_
        refine q_old (cutV p.hi) (a := ⟨b, off + (k - 1) * 14 + 7, none⟩) (by kernel_rfl) rfl (by kernel_rfl) (fun w hO => elem_load spanC_len (fun j u h => (hO.below.cell (p := ⟨b, off + j, none⟩) hlt).trans (hcell j u h)) (k - 1) 7 (by omega) (by omega) _ (by rw [hp]; kernel_rfl)) ?_
        refine q_val (.pointer (some ⟨b1, 0, none⟩)) (by kernel_rfl) (fun _ => by kernel_rfl) ?_
        refine q_load 0 ⟨b1, (spanV s).cells, 50⟩ (off := 0) (.agg #[.int .i64 s.lo.e, .int .i64 s.lo.v.maj, .int .i64 s.lo.v.min, .int .i64 s.lo.v.pat, .string (mkS s.lo.v.pre), .string (mkS s.lo.v.build), .bool s.lo.aft]) (by kernel_rfl) rfl (by kernel_rfl) (by kernel_rfl) (by kernel_rfl) ?_
        refine q_call (k := 78) (args := #[cutV p.hi, .agg #[.int .i64 s.lo.e, .int .i64 s.lo.v.maj, .int .i64 s.lo.v.min, .int .i64 s.lo.v.pat, .string (mkS s.lo.v.pre), .string (mkS s.lo.v.build), .bool s.lo.aft]]) (.int .i64 (cmpC p.hi s.lo)) (by kernel_rfl) (fun _ => by kernel_rfl) (fun w _ => cmpC_any p.hi s.lo w hpk.2 hsk.1) ?_
        by_cases h4 : (0 : Int) ≤ cmpC p.hi s.lo
        · skip
          refine q_dec (p := (0 : Int) ≤ cmpC p.hi s.lo) true (by kernel_rfl) (fun _ => by kernel_rfl) (decide_eq_true (h4)) ?_
          refine q_val (.bool true) (by kernel_rfl) (fun _ => by kernel_rfl) ?_
          refine q_nil ?_
          refine fin_seq ?_
          refine ok_true (by kernel_rfl) ?_
          refine ok_seq ?_
          refine ok_region ?_
          refine s_val (.bool false) (by kernel_rfl) (fun _ => by kernel_rfl) ?_
          refine s_nil ?_
          refine fin_seq ?_
          refine ok_ret ?_
          refine fin_block_ret ?_
          refine fin_seq_ret ?_
          refine fin_round_ret ?_
          refine fin_block_ret ?_
          refine fin_seq_ret ?_
          refine fin_ret (.bool false) Tryz.results42 (by kernel_rfl) ?_
          exact fun w hO => ⟨by rw [may_not hk (by omega) (by simp only [hp, hs]; omega)], hO.below⟩
        · skip
          refine q_dec (p := (0 : Int) ≤ cmpC p.hi s.lo) false (by kernel_rfl) (fun _ => by kernel_rfl) (decide_eq_false (h4)) ?_
          refine q_val (.bool false) (by kernel_rfl) (fun _ => by kernel_rfl) ?_
          refine q_nil ?_
          refine fin_seq ?_
          refine ok_false (by kernel_rfl) ?_
          refine ok_skip ?_
          refine fin_block ?_
          refine fin_seq ?_
          refine ok_region ?_
          refine s_sum (k := .i64) (((k + 1 : Nat) : Int)) (by kernel_rfl) (fun _ => by kernel_rfl) (IntWalk.i64_in _ (by omega)) ?_
          refine s_val (.int .i64 ((k + 1 : Nat) : Int)) (by kernel_rfl) (fun _ => by kernel_rfl) ?_
          refine s_nil ?_
          have hnext : rowMay (l.take (k + 1)) = true := may_step hk hrel.2 (by rw [hs]; assumption) (fun h0 => by simp only [hp, hs]; omega)
          refine fin_take (fun w hO => Own.sub [_] hO) ?_
          exact fin_round (m' := l.length - (k + 1)) (by omega) ⟨k + 1, _, ⟨by omega, hnext⟩, rfl, upds_self _ ⟨by kernel_rfl, by kernel_rfl, by kernel_rfl, by kernel_rfl, trivial⟩, rfl⟩
      · skip
        refine q_dec (p := (0 : Int) < (k : Int)) false (by kernel_rfl) (fun _ => by kernel_rfl) (decide_eq_false (h3)) ?_
        refine q_val (.bool false) (by kernel_rfl) (fun _ => by kernel_rfl) ?_
        refine q_skip (by kernel_rfl) ?_
        refine q_skip (by kernel_rfl) ?_
        refine q_skip (by kernel_rfl) ?_
        refine q_skip (by kernel_rfl) ?_
        refine q_skip (by kernel_rfl) ?_
        refine q_skip (by kernel_rfl) ?_
        refine q_skip (by kernel_rfl) ?_
        refine q_skip (by kernel_rfl) ?_
        refine q_skip (by kernel_rfl) ?_
        refine q_skip (by kernel_rfl) ?_
        refine q_val (.bool false) (by kernel_rfl) (fun _ => by kernel_rfl) ?_
        refine q_nil ?_
        refine fin_seq ?_
        refine ok_false (by kernel_rfl) ?_
        refine ok_skip ?_
        refine fin_block ?_
        refine fin_seq ?_
        refine ok_region ?_
        refine s_sum (k := .i64) (((k + 1 : Nat) : Int)) (by kernel_rfl) (fun _ => by kernel_rfl) (IntWalk.i64_in _ (by omega)) ?_
        refine s_val (.int .i64 ((k + 1 : Nat) : Int)) (by kernel_rfl) (fun _ => by kernel_rfl) ?_
        refine s_nil ?_
        have hnext : rowMay (l.take (k + 1)) = true := may_step hk hrel.2 (by rw [hs]; assumption) (fun h0 => absurd h0 (by omega))
        refine fin_take (fun w hO => Own.sub [_] hO) ?_
        exact fin_round (m' := l.length - (k + 1)) (by omega) ⟨k + 1, _, ⟨by omega, hnext⟩, rfl, upds_self _ ⟨by kernel_rfl, by kernel_rfl, by kernel_rfl, by kernel_rfl, trivial⟩, rfl⟩
    | false =>
      refine s_val (.bool true) (by kernel_rfl) (fun _ => by kernel_rfl) ?_
      refine s_nil ?_
      refine fin_seq ?_
      refine ok_true (by kernel_rfl) ?_
      refine ok_seq ?_
      refine ok_region ?_
      refine s_val (.bool false) (by kernel_rfl) (fun _ => by kernel_rfl) ?_
      refine s_nil ?_
      refine fin_seq ?_
      refine ok_ret ?_
      refine fin_seq_ret ?_
      refine fin_block_ret ?_
      refine fin_seq_ret ?_
      refine fin_round_ret ?_
      refine fin_block_ret ?_
      refine fin_seq_ret ?_
      refine fin_ret (.bool false) Tryz.results42 (by kernel_rfl) ?_
      exact fun w hO => ⟨by rw [may_take_bad hk (by rw [hs]; assumption)], hO.below⟩
  · skip
    refine s_dec (p := (k : Int) < (l.length : Int)) false (by kernel_rfl) (fun _ => by kernel_rfl) (decide_eq_false (h1)) ?_
    refine s_nil ?_
    refine fin_seq ?_
    refine ok_seq ?_
    refine ok_false (by kernel_rfl) ?_
    refine ok_exit ?_
    refine fin_seq_exit ?_
    refine fin_round_exit ?_
    refine fin_block_exit ?_
    refine fin_seq ?_
    refine ok_seq ?_
    refine ok_region ?_
    refine s_val (.bool true) (by kernel_rfl) (fun _ => by kernel_rfl) ?_
    refine s_nil ?_
    refine fin_seq ?_
    refine ok_ret ?_
    refine fin_ret (.bool true) Tryz.results42 (by kernel_rfl) ?_
    exact fun w hO => ⟨by have h := hrel.2; rw [List.take_of_length_le (by omega)] at h; rw [h], hO.below⟩
theorem has4_any (A : Option Addr) (cap : Nat) (l : List Sp) (v : Ver) (W : World) (hv : Reads spanC W W.heap.size A l) (hn : l.length ≤ 1000000) (hl : ShortL l) (hv2 : v.short) :
    Calls Tryz.prog 55 #[.slice A l.length cap, verV v] W fun e w' => e = .returned (.bool (rowHas l v)) ∧ Below W.heap.size W w' := by
  refine calls_ok (n := 14) Tryz.func55 rfl (by kernel_rfl) (by kernel_rfl) ?_
  refine ok_seq ?_
  refine ok_region ?_
  refine s_box (verV v) (by kernel_rfl) rfl (by kernel_rfl) (fun b1 => ?_)
  refine s_val (.bool false) (by kernel_rfl) (fun _ => by kernel_rfl) ?_
  refine s_nil ?_
  refine fin_seq ?_
  refine ok_seq ?_
  refine ok_region ?_
  refine s_val (.func (.func 92) #[] #[.pointer (some ⟨b1, 0, none⟩)]) (by kernel_rfl) (fun _ => by kernel_rfl) ?_
  refine s_val (.func (.func 92) #[] #[.pointer (some ⟨b1, 0, none⟩)]) (by kernel_rfl) (fun _ => by kernel_rfl) ?_
  refine s_nil ?_
  refine fin_seq ?_
  refine ok_seq ?_
  refine ok_region ?_
  refine s_val (.slice A l.length cap) (by kernel_rfl) (fun _ => by kernel_rfl) ?_
  refine s_call (k := 42) (args := #[.slice A l.length cap]) (.bool (rowMay l)) (by kernel_rfl) (fun _ => by kernel_rfl) (fun w hO => may4_any A cap l w (hv.on hO.below hO.size) hn hl) ?_
  refine s_val (.bool (rowMay l)) (by kernel_rfl) (fun _ => by kernel_rfl) ?_
  cases h1 : rowMay l with
  | true =>
    refine s_val (.slice A l.length cap) (by kernel_rfl) (fun _ => by kernel_rfl) ?_
    refine s_val (.func (.func 92) #[] #[.pointer (some ⟨b1, 0, none⟩)]) (by kernel_rfl) (fun _ => by kernel_rfl) ?_
    refine s_call (k := 53) (args := #[.slice A l.length cap, .func (.func 92) #[] #[.pointer (some ⟨b1, 0, none⟩)]]) (.bool (l.any (holdsC · v))) (by kernel_rfl) (fun _ => by kernel_rfl) (fun w hO => containsf_any A cap b1 l v w (hv.on hO.below hO.size) hn hl (hO.lt List.mem_cons_self) (fun j u h => by rw [cell_of_row w b1 (0 + j) _ 26 _ (hO.held _ List.mem_cons_self)]; simpa using h) hv2) ?_
    refine s_val (.bool (l.any (holdsC · v))) (by kernel_rfl) (fun _ => by kernel_rfl) ?_
    refine s_val (.bool (l.any (holdsC · v))) (by kernel_rfl) (fun _ => by kernel_rfl) ?_
    refine s_nil ?_
    refine fin_seq ?_
    refine ok_ret ?_
    refine fin_ret (.bool (l.any (holdsC · v))) Tryz.results55 (by kernel_rfl) ?_
    exact fun w hO => ⟨by unfold rowHas; rw [h1]; simp, hO.below⟩
  | false =>
    refine s_skip (by kernel_rfl) ?_
    refine s_skip (by kernel_rfl) ?_
    refine s_skip (by kernel_rfl) ?_
    refine s_val (.bool false) (by kernel_rfl) (fun _ => by kernel_rfl) ?_
    refine s_val (.bool false) (by kernel_rfl) (fun _ => by kernel_rfl) ?_
    refine s_nil ?_
    refine fin_seq ?_
    refine ok_ret ?_
    refine fin_ret (.bool false) Tryz.results55 (by kernel_rfl) ?_
    exact fun w hO => ⟨by unfold rowHas; rw [h1]; simp, hO.below⟩
end Go.Proofs.YtgeccfdofmnphaaGreat
end

section
/-
  Steps: append(nil, make([]T, n)...); s[1:] of a slice that came in. No condition of their own but the bounds that each theorem names.
-/
namespace Go.Proofs.YtgeccfdofmnphaaGreat
open Go.RowKit
set_option linter.unusedVariables false
set_option linter.unusedSimpArgs false
section
variable {M : List Nat} {P : Program} {n0 : Nat} {ops : Array Oper} {W : World} {Q : Exit → Act → World → Prop} {rest : List Oper} {o : Oper} {L : List Blk} {f : Nat → Value}
theorem s_append0 {t tn e : TypeId} {x y : Operand} {i : TypeInfo} {z : Value} {kn : IntKind} {k sz : Nat} (hw : want ops n0 f o = true) (ho : o.op = .call { callee := .builtin .append, args := #[x, y], argTypes := #[t, tn] })
    (hx : ev n0 f x = .slice none 0 0) (hy : ev n0 f y = .int .i64 k) (ht : P.underlying t = some (.slice e)) (htn : P.underlying tn = some (.int kn)) (hi : P.info? e = some i) (hz : i.zero = some z) (hsz : i.size = sz) (hzs : z.cells.size = sz) (h0 : 0 < k) (hs : 0 < sz)
    (h63 : k ≤ maxLen) (h48 : k * i.bytes ≤ 140737488355328)
    (h : ∀ b cs cap, cs.size = cap * sz → k ≤ cap → cap ≤ maxLen → Seg M P n0 ops W Q rest (⟨b, cs, e⟩ :: L) (upd f o.dst (.slice (some ⟨b, 0, none⟩) k cap))) : Seg M P n0 ops W Q (o :: rest) L f :=
  s_step hw fun w hO => by
    subst hsz
    have hsmall : k ≤ 9223372036854775807 := by simp only [maxLen] at h63; omega
    have hr := Lib.run_append_grow_zeros (P := P) w t tn o.type e i z .i64 kn ht htn hi hz none 0 0 [] (run_firstCells_none w.drew i.size 0 0 0) k h0 hs (by omega) (by omega) (by omega) (by rw [Nat.zero_add, nextslicecap_zero h0]; omega)
    have hge := grownCap_ge w (0 + k) 0 e
    have hcm := grownCap_le_maxLen w (0 + k) 0 e (by omega)
    obtain ⟨cs, hcs⟩ : ∃ cs : Array Value, cs = #[] ++ Builtin.zeroCells z.cells k ++ Builtin.zeroCells z.cells (grownCap w (0 + k) 0 e - (0 + k)) := ⟨_, rfl⟩
    have hr2 : (Builtin.append_ #[t, tn] o.type #[.slice none 0 0, .int .i64 k]).run P w = .ok (.slice (some ⟨w.heap.size, 0, none⟩) k (grownCap w (0 + k) 0 e)) (w.drew.alloc (.cells cs e)) := by rw [hr, hcs, Nat.zero_add]
    have hcz : cs.size = grownCap w (0 + k) 0 e * i.size := by
      rw [hcs]
      simp only [Array.size_append, size_zeroCells, hzs, List.size_toArray, List.length_nil, Array.size_empty]
      rw [Nat.zero_add, ← Nat.add_mul]
      congr 1
      omega
    refine wp_val (.slice (some ⟨w.heap.size, 0, none⟩) k (grownCap w (0 + k) 0 e)) (w' := w.drew.alloc (.cells cs e)) ?_ ((h w.heap.size cs (grownCap w (0 + k) 0 e) hcz (by omega) hcm).go _ (Own.alloc (L := L) (drew_own hO) cs e))
    unfold execOp
    simp only [ho, resolve, invoke, builtin, Sem.run_bind, Sem.run_pure, Result.andThen_ok, List.map_toArray, List.map_cons, List.map_nil, hx, hy, hr2]
end
theorem run_sllA {P : Program} {ρ : Operand → Value} {o : Oper} {t e : TypeId} {x y : Operand} {A : Option Addr} {b off n c sz : Nat} {k : IntKind} {j : Int} (ho : o.op = .slice t x (some y) none none) (hx : ρ x = .slice A n c) (hA : A = some ⟨b, off, none⟩) (hy : ρ y = .int k j)
    (hu : P.underlying t = some (.slice e)) (hs : (P.info? e).map (·.size) = some sz) (h0 : 0 ≤ j) (h1 : j ≤ n) (w : World) : (execOp ρ o).run P w = .ok (.value (.slice (some ⟨b, off + (if c = j.toNat then 0 else j.toNat * sz), none⟩) (n - j.toNat) (c - j.toNat))) w := by
  subst hA
  exact run_sllo ho hx hy hu hs h0 h1 w
/-- s[1:] of a slice that came in. -/
theorem Reads.drop1 {α : Type} {g : α → List Value} {sz : Nat} (hg : ∀ x, (g x).length = sz) {w : World} {B b off c : Nat} {A : Option Addr} {l : List α} (h : Reads g w B A l) (hA : A = some ⟨b, off, none⟩) (hc : l.length ≤ c) : Reads g w B (some ⟨b, off + (if c = (1 : Int).toNat then 0 else (1 : Int).toNat * sz), none⟩) (l.drop 1) := by
  subst hA
  cases l with
  | nil => exact fun h0 => by simp at h0
  | cons x r => exact h.tail hg (by rw [List.length_cons] at hc; omega)
end Go.Proofs.YtgeccfdofmnphaaGreat
end

section
/-
  Steps: a load out of a block that is somewhere in the list. No condition of their own.
-/
namespace Go.Proofs.YtgeccfdofmnphaaGreat
open Go.RowKit
set_option linter.unusedVariables false
section
variable {M : List Nat} {P : Program} {n : Nat} {ops : Array Oper} {W : World} {Q : Exit → Act → World → Prop} {rest : List Oper} {o : Oper} {L : List Blk} {f : Nat → Value} {Qe : List Blk → (Nat → Value) → Prop}
theorem s_loadm (x : Blk) {ty : TypeId} {p : Operand} {off : Nat} (v : Value) (hw : want ops n f o = true) (ho : o.op = .load ty p) (hL : x ∈ L) (hp : ev n f p = .pointer (some ⟨x.b, off, none⟩)) (hv : readAt P ty x.cs off = some v)
    (h : Seg M P n ops W Q rest L (upd f o.dst v)) : Seg M P n ops W Q (o :: rest) L f :=
  s_read v hw (fun _ hO => run_load_op ho hp (run_readAt hv (hO.held x hL))) h
theorem q_loadm (x : Blk) {ty : TypeId} {p : Operand} {off : Nat} (v : Value) (hw : want ops n f o = true) (ho : o.op = .load ty p) (hL : x ∈ L) (hp : ev n f p = .pointer (some ⟨x.b, off, none⟩)) (hv : readAt P ty x.cs off = some v)
    (h : QSeg M P n ops W Qe rest L (upd f o.dst v)) : QSeg M P n ops W Qe (o :: rest) L f :=
  q_read v hw (fun _ hO => run_load_op ho hp (run_readAt hv (hO.held x hL))) h
end
end Go.Proofs.YtgeccfdofmnphaaGreat
end

section
/-
  s[i:j] of a slice; its elements as a slice that came in. No condition of their own.
-/
namespace Go.Proofs.YtgeccfdofmnphaaGreat
open Go.RowKit
set_option maxRecDepth 100000
set_option linter.unusedVariables false
set_option linter.unusedSimpArgs false
theorem Reads.one {α : Type} {g : α → List Value} {sz : Nat} (hg : ∀ x, (g x).length = sz) {w : World} {B b off c k : Nat} {A : Option Addr} {l : List α} (h : Reads g w B A l) (hA : A = some ⟨b, off, none⟩) (hk : k < l.length) (hc : l.length ≤ c) {i : Int} (hi : i.toNat = k) : Reads g w B (some ⟨b, off + (if c = i.toNat then 0 else i.toNat * sz), none⟩) [l[k]] := fun h0 => by
  subst hA hi
  obtain ⟨b', off', e, hlt, hcell⟩ := h (by omega)
  obtain ⟨rfl, rfl⟩ : b = b' ∧ off = off' := by simp at e; exact e
  refine ⟨b, _, rfl, hlt, fun j u hj => ?_⟩
  rw [if_neg (by omega)]
  have hj2 : (g l[i.toNat])[j]? = some u := by simpa using hj
  have hjs : j < sz := by have := (List.getElem?_eq_some_iff.1 hj2).1; rwa [hg] at this
  have h3 := flat_at hg l i.toNat hk
  rw [← h3, List.getElem?_take, if_pos hjs, List.getElem?_drop] at hj2
  have := hcell _ u hj2
  rw [show off + i.toNat * sz + j = off + (i.toNat * sz + j) from by omega]
  exact this
end Go.Proofs.YtgeccfdofmnphaaGreat
end

section
/-
  Plain mathematics: a row and its spans one by one. No condition of its own.
-/
namespace Go.Proofs.YtgeccfdofmnphaaGreat
set_option linter.unusedVariables false
set_option linter.unusedSimpArgs false

theorem Own.sublist {M : List Nat} {W w : World} {L L' : List Blk} (h : Own M W w L) (hs : List.Sublist L' L) : Own M W w L' := h.take (fun x hx => hs.subset hx) (h.apart.sublist (hs.map _))
end Go.Proofs.YtgeccfdofmnphaaGreat
end

section
/-
  Package version: Bump and Next: what they return for every version and every part; nothing that was there is changed. Conditions: strings of at most a million bytes.
-/
namespace Go.Proofs.YtgeccfdofmnphaaGreat
open Go.RowKit

def bumpN (v : Ver) (k : Nat) : Ver := if k = 0 then Ver.rel (v.maj + 1) 0 0 else if k = 1 then Ver.rel v.maj (v.min + 1) 0 else Ver.rel v.maj v.min (v.pat + 1)
def bumpOk (v : Ver) (part : Int) : Bool := v.may && decide (0 ≤ part ∧ part < 3) && !(nth3 v.maj v.min v.pat part.toNat == 9999)
def bumpV (v : Ver) (part : Int) : Ver := if bumpOk v part then bumpN v part.toNat else Ver.zero
def BEnd (v : Ver) (part : Int) (w : World) (e : Ending) (w' : World) : Prop := e = .returned (.tuple #[verV (bumpV v part), .bool (bumpOk v part)]) ∧ Below w.heap.size w w'

theorem empty_mk2 (b : List UInt8) : (mkS b).toList.isEmpty = b.isEmpty := by rw [Lib.toList_data, mk_data]
theorem bump_done {v u : Ver} {part : Int} {b : Bool} {w wr : World} {tmps : Array Value} {old : Array Value} (h2 : tmps.getD 4 undef = .pointer (some ⟨w.heap.size + 1, 0, none⟩)) (h3 : tmps.getD 5 undef = .bool b)
    (hg : wr.heap[w.heap.size + 1]? = some (.cells old 26)) (hbel : Below w.heap.size w wr) (hb : bumpOk v part = b) (hv : bumpV v part = u) :
    bodyPost Tryz.prog Tryz.f113 (BEnd v part w) .ret ⟨tmps, []⟩ (wr.setRow (w.heap.size + 1) #[.int .i64 u.maj, .int .i64 u.min, .int .i64 u.pat, .string (mkS u.pre), .string (mkS u.build)]) := by
  have hrow := setRow_heap wr (w.heap.size + 1) _ #[.int .i64 u.maj, .int .i64 u.min, .int .i64 u.pat, .string (mkS u.pre), .string (mkS u.build)] _ _ hg
  have hr := run_loadVar_row (P := Tryz.prog) _ (w.heap.size + 1) 26 26 _ _ _ hrow Tryz.underlying26 rfl (by kernel_rfl)
  have h2' : tmps[4]?.getD undef = .pointer (some ⟨w.heap.size + 1, 0, none⟩) := by simpa using h2
  have h3' : tmps[5]?.getD undef = .bool b := by simpa using h3
  refine bodyPost_ret (v := .tuple #[verV u, .bool b]) (by simp [results, Tryz.results113, asAddr, h2', h3', hr, verV]) rfl ⟨by rw [hv, hb], below_setRow hbel (by omega) _⟩

theorem zeroInt (w : World) : (zeroValue 3).run Tryz.prog w = .ok (.int .i64 0) w := by kernel_rfl
theorem set_row3 {w : World} {N k : Nat} {a b c : Value} (x : Value) (hg : w.heap[N]? = some (.cells #[a, b, c] 84)) : w.setCell ⟨N, k, none⟩ x = w.setRow N ((#[a, b, c] : Array Value).setIfInBounds k x) := setCell_eq_setRow _ _ _ _ _ _ _ hg

theorem setRow_setRow' (w : World) (g : Nat) (a b : Array Value) : (w.setRow g a).setRow g b = w.setRow g b := setRow_setRow _ _ _ _
set_option maxRecDepth 100000 in
theorem clear_two {w : World} {N : Nat} {a b c : Int} {old : Array Value} (hg : w.heap[N]? = some (.cells old 84)) (_ho : old.size = 3) :
    (Builtin.clear_ #[36] 0 #[.slice (some ⟨N, 1, none⟩) 2 2]).run Tryz.prog (w.setRow N #[.int .i64 a, .int .i64 b, .int .i64 c]) = .ok (.tuple #[]) (w.setRow N #[.int .i64 a, .int .i64 0, .int .i64 0]) := by
  have h1 := setRow_heap w N old #[.int .i64 a, .int .i64 b, .int .i64 c] _ _ hg
  obtain ⟨n1, m1⟩ := cell_row (j := 1) h1 (by simp)
  obtain ⟨n2, m2⟩ := cell_row (j := 2) h1 (by simp)
  have := Lib.run_clear_slice (P := Tryz.prog) (w.setRow N #[.int .i64 a, .int .i64 b, .int .i64 c]) 36 3 0 (.int .i64 0) Tryz.underlying36 zeroInt rfl rfl N 1 2 2 (by omega)
    (fun j hj => by match j, hj with | 0, _ => rw [n1]; rfl | 1, _ => rw [n2]; rfl) (fun j hj => by match j, hj with | 0, _ => exact m1 | 1, _ => exact m2)
  rw [this]
  congr 1
  show ((w.setRow N #[.int .i64 a, .int .i64 b, .int .i64 c]).setCell ⟨N, 1, none⟩ (.int .i64 0)).setCell ⟨N, 2, none⟩ (.int .i64 0) = _
  rw [set_row3 _ h1, setRow_setRow']
  have h2 := setRow_heap w N old ((#[.int .i64 a, .int .i64 b, .int .i64 c] : Array Value).setIfInBounds 1 (.int .i64 0)) _ _ hg
  rw [set_row3 (a := .int .i64 a) (b := .int .i64 0) (c := .int .i64 c) _ h2, setRow_setRow']
  rfl
set_option maxRecDepth 100000 in
theorem clear_one {w : World} {N : Nat} {a b c : Int} {old : Array Value} (hg : w.heap[N]? = some (.cells old 84)) (_ho : old.size = 3) :
    (Builtin.clear_ #[36] 0 #[.slice (some ⟨N, 2, none⟩) 1 1]).run Tryz.prog (w.setRow N #[.int .i64 a, .int .i64 b, .int .i64 c]) = .ok (.tuple #[]) (w.setRow N #[.int .i64 a, .int .i64 b, .int .i64 0]) := by
  have h1 := setRow_heap w N old #[.int .i64 a, .int .i64 b, .int .i64 c] _ _ hg
  obtain ⟨n2, m2⟩ := cell_row (j := 2) h1 (by simp)
  have := Lib.run_clear_slice (P := Tryz.prog) (w.setRow N #[.int .i64 a, .int .i64 b, .int .i64 c]) 36 3 0 (.int .i64 0) Tryz.underlying36 zeroInt rfl rfl N 2 1 1 (by omega)
    (fun j hj => by match j, hj with | 0, _ => rw [n2]; rfl) (fun j hj => by match j, hj with | 0, _ => exact m2)
  rw [this]
  congr 1
  show (w.setRow N #[.int .i64 a, .int .i64 b, .int .i64 c]).setCell ⟨N, 2, none⟩ (.int .i64 0) = _
  rw [set_row3 _ h1, setRow_setRow']
  rfl
theorem clear_none {w : World} (x : Option Addr) (c : Nat) : (Builtin.clear_ #[36] 0 #[.slice x 0 c]).run Tryz.prog w = .ok (.tuple #[]) w := by
  cases x <;> simp [Builtin.clear_, run_underlying Tryz.underlying36]

set_option maxHeartbeats 4000000 in
set_option maxRecDepth 100000 in
theorem bump_go (v : Ver) (part : Int) (w : World) (hp : v.pre.length ≤ 1000000) (hq : v.build.length ≤ 1000000) :
    Calls Tryz.prog 113 #[verV v, .int .i64 part] w (BEnd v part w) := by
  have cM := fun w' => may_any v w' (by omega) (by omega)
  have cN := fun w' => numbers_any v w'
  have hN : v.may = true → (0 ≤ v.maj ∧ v.maj ≤ 9999) ∧ (0 ≤ v.min ∧ v.min ≤ 9999) ∧ (0 ≤ v.pat ∧ v.pat ≤ 9999) := fun h => by
    obtain ⟨h1, h2, h3⟩ := may_nums h
    unfold numOkI at h1 h2 h3; simp at h1 h2 h3
    exact ⟨h1, h2, h3⟩
  obtain ⟨u, hu⟩ : ∃ u, u = v := ⟨_, rfl⟩
  have HU := Lib.hid hu
  rw [← hu] at hN
  have hgo : BEnd v part w = BEnd u part w := by rw [hu]
  rw [hgo]
  obtain ⟨m, hm⟩ : ∃ m, u.may = m := ⟨_, rfl⟩
  rw [← hu, hm] at cM
  rw [← hu] at cN ⊢
  clear hgo hu
  obtain ⟨a, b, c, p, q⟩ := u
  unfold verV at cM cN ⊢
  dsimp only at cM cN hN ⊢
  go_enter Tryz.func113, Tryz.ntmps113
  go_wp2_with fail
  refine (cN _).mono ?_
  rintro e w1 ⟨rfl, hb1⟩
  have hz1 := hb1.size
  simp only [size_box] at hz1
  have hgB := Lib.hid ((hb1.block w.heap.size (by simp only [size_box]; omega)).trans ((heap_old _ _ (by simp only [size_box]; omega)).trans (heap_new w _)))
  have hgR := Lib.hid ((hb1.block (w.heap.size + 1) (by simp only [size_box]; omega)).trans (heap_at _ _ _ (by simp only [size_box])))
  have hbw : Below w.heap.size w w1 := (((Below.refl _ _).alloc (Nat.le_refl _) _).alloc (by simp only [size_box]; omega) _).trans (hb1.mono (by simp only [size_box]; omega))
  have hlB : w.heap.size < w1.heap.size := by omega
  go_wp2_with (first | (refine wpList_load_row rfl 26 _ rfl w.heap.size rfl _ _ _ _ ((heap_old _ _ hlB).trans hgB.out) Tryz.underlying26 rfl (by kernel_rfl) ?_) | fail)
  refine (cM _).mono ?_
  rintro e w2 ⟨rfl, hb2⟩
  have hz2 := hb2.size
  rw [size_box] at hz2
  have hgR2 := Lib.hid ((hb2.block (w.heap.size + 1) (by rw [size_box]; omega)).trans ((heap_old _ _ (by omega)).trans hgR.out))
  have hgN := Lib.hid ((hb2.block w1.heap.size (by rw [size_box]; omega)).trans (heap_new w1 _))
  have hbw2 : Below w.heap.size w w2 := (hbw.alloc (by omega) _).trans (hb2.mono (by rw [size_box]; omega))
  clear hbw hb1 hb2 hgB hgR cM cN
  cases m with
  | false =>
    have HB : Hid (bumpOk ⟨a, b, c, p, q⟩ part = false) := by show _ = _; unfold bumpOk; rw [hm]; rfl
    clear hm hN
    go_wp2_with (refine wpList_store_row rfl 26 _ _ rfl (w.heap.size + 1) #[.int .i64 0, .int .i64 0, .int .i64 0, .string ⟨#[]⟩, .string ⟨#[]⟩] rfl rfl _ _ hgR2.out (by kernel_rfl) rfl (ver_one _ _ _ _ _) ?_)
    exact bump_done (u := Ver.zero) rfl rfl hgR2.out hbw2 HB.out (by unfold bumpV; rw [HB.out]; rfl)
  | true =>
    obtain ⟨⟨a0, a9⟩, ⟨b0, b9⟩, ⟨c0, c9⟩⟩ := hN hm
    have HM := Lib.hid hm
    clear hN hm
    by_cases p0 : part < 0
    · have HB : Hid (bumpOk ⟨a, b, c, p, q⟩ part = false) := by show _ = _; unfold bumpOk; rw [decide_eq_false (by omega)]; simp
      go_wp2_with (refine wpList_store_row rfl 26 _ _ rfl (w.heap.size + 1) #[.int .i64 0, .int .i64 0, .int .i64 0, .string ⟨#[]⟩, .string ⟨#[]⟩] rfl rfl _ _ hgR2.out (by kernel_rfl) rfl (ver_one _ _ _ _ _) ?_)
      exact bump_done (u := Ver.zero) rfl rfl hgR2.out hbw2 HB.out (by unfold bumpV; rw [HB.out]; rfl)
    · by_cases p3 : 3 ≤ part
      · have HB : Hid (bumpOk ⟨a, b, c, p, q⟩ part = false) := by show _ = _; unfold bumpOk; rw [decide_eq_false (by omega)]; simp
        go_wp2_with (refine wpList_store_row rfl 26 _ _ rfl (w.heap.size + 1) #[.int .i64 0, .int .i64 0, .int .i64 0, .string ⟨#[]⟩, .string ⟨#[]⟩] rfl rfl _ _ hgR2.out (by kernel_rfl) rfl (ver_one _ _ _ _ _) ?_)
        exact bump_done (u := Ver.zero) rfl rfl hgR2.out hbw2 HB.out (by unfold bumpV; rw [HB.out]; rfl)
      · obtain ⟨n0, m0⟩ := cell_row (j := 0) hgN.out (by simp)
        obtain ⟨n1, m1⟩ := cell_row (j := 1) hgN.out (by simp)
        obtain ⟨n2, m2⟩ := cell_row (j := 2) hgN.out (by simp)
        simp only [List.getElem_toArray, List.getElem_cons_succ, List.getElem_cons_zero] at n0 n1 n2
        have hpart : part = 0 ∨ part = 1 ∨ part = 2 := by omega
        clear p0 p3
        rcases hpart with rfl | rfl | rfl
        · by_cases h9 : a = 9999
          · have h9b : (a == 9999) = true := by simpa using h9
            have HB : Hid (bumpOk ⟨a, b, c, p, q⟩ 0 = false) := by show _ = _; unfold bumpOk; rw [show nth3 a b c (0 : Int).toNat = a from rfl, h9b]; simp
            clear h9
            go_wp2_with (refine wpList_store_row rfl 26 _ _ rfl (w.heap.size + 1) #[.int .i64 0, .int .i64 0, .int .i64 0, .string ⟨#[]⟩, .string ⟨#[]⟩] rfl rfl _ _ hgR2.out (by kernel_rfl) rfl (ver_one _ _ _ _ _) ?_)
            exact bump_done (u := Ver.zero) rfl rfl hgR2.out hbw2 HB.out (by unfold bumpV; rw [HB.out]; rfl)
          · have h9b : (a == 9999) = false := by simpa using h9
            have HB : Hid (bumpOk ⟨a, b, c, p, q⟩ 0 = true) := by show _ = _; unfold bumpOk; rw [HM.out, show nth3 a b c (0 : Int).toNat = a from rfl, h9b]; rfl
            have hW : (w2.setCell ⟨w1.heap.size, 0, none⟩ (.int .i64 (a + 1))) = w2.setRow w1.heap.size #[.int .i64 (a + 1), .int .i64 (b), .int .i64 (c)] := set_row3 _ hgN.out
            have hcl : (Builtin.clear_ #[36] 0 #[.slice (some ⟨w1.heap.size, 1, none⟩) 2 2]).run Tryz.prog (w2.setRow w1.heap.size #[.int .i64 (a + 1), .int .i64 (b), .int .i64 (c)]) = .ok (.tuple #[]) (w2.setRow w1.heap.size #[.int .i64 (a + 1), .int .i64 (0), .int .i64 (0)]) := clear_two hgN.out rfl
            have hN2 := Lib.hid (setRow_heap w2 w1.heap.size _ #[.int .i64 (a + 1), .int .i64 (0), .int .i64 (0)] _ _ hgN.out)
            have hR2 := Lib.hid ((setRow_other w2 w1.heap.size (w.heap.size + 1) #[.int .i64 (a + 1), .int .i64 (0), .int .i64 (0)] (by omega)).trans hgR2.out)
            have hbR : Below w.heap.size w (w2.setRow w1.heap.size #[.int .i64 (a + 1), .int .i64 (0), .int .i64 (0)]) := below_setRow hbw2 (by omega) _
            have hsR : (w2.setRow w1.heap.size #[.int .i64 (a + 1), .int .i64 (0), .int .i64 (0)]).heap.size = w2.heap.size := by unfold World.setRow; simp
            have HSR := Lib.hid hsR
            clear hsR h9
            go_wp2_with (first
              | (refine wpList_load_row rfl 84 _ rfl w1.heap.size rfl _ _ _ _ hN2.out Tryz.underlying84 rfl (by kernel_rfl) ?_)
              | (go_at_call 112; refine (release_any _ _ _ _).mono ?_; unfold verV Ver.rel; rintro e w3 ⟨rfl, hb3⟩; have hR3 := Lib.hid ((hb3.block (w.heap.size + 1) (by rw [HSR.out]; omega)).trans hR2.out); have hbw3 := hbR.trans (hb3.mono hbR.size))
              | (refine wpList_store_row rfl 26 _ _ rfl (w.heap.size + 1) #[.int .i64 (a + 1), .int .i64 (0), .int .i64 (0), .string (mkS []), .string (mkS [])] rfl rfl _ _ hR3.out (by kernel_rfl) rfl (ver_one _ _ _ _ _) ?_))
            exact bump_done (u := Ver.rel (a + 1) (0) (0)) rfl rfl hR3.out hbw3 HB.out (by unfold bumpV; rw [HB.out]; rfl)
        · by_cases h9 : b = 9999
          · have h9b : (b == 9999) = true := by simpa using h9
            have HB : Hid (bumpOk ⟨a, b, c, p, q⟩ 1 = false) := by show _ = _; unfold bumpOk; rw [show nth3 a b c (1 : Int).toNat = b from rfl, h9b]; simp
            clear h9
            go_wp2_with (refine wpList_store_row rfl 26 _ _ rfl (w.heap.size + 1) #[.int .i64 0, .int .i64 0, .int .i64 0, .string ⟨#[]⟩, .string ⟨#[]⟩] rfl rfl _ _ hgR2.out (by kernel_rfl) rfl (ver_one _ _ _ _ _) ?_)
            exact bump_done (u := Ver.zero) rfl rfl hgR2.out hbw2 HB.out (by unfold bumpV; rw [HB.out]; rfl)
          · have h9b : (b == 9999) = false := by simpa using h9
            have HB : Hid (bumpOk ⟨a, b, c, p, q⟩ 1 = true) := by show _ = _; unfold bumpOk; rw [HM.out, show nth3 a b c (1 : Int).toNat = b from rfl, h9b]; rfl
            have hW : (w2.setCell ⟨w1.heap.size, 1, none⟩ (.int .i64 (b + 1))) = w2.setRow w1.heap.size #[.int .i64 (a), .int .i64 (b + 1), .int .i64 (c)] := set_row3 _ hgN.out
            have hcl : (Builtin.clear_ #[36] 0 #[.slice (some ⟨w1.heap.size, 2, none⟩) 1 1]).run Tryz.prog (w2.setRow w1.heap.size #[.int .i64 (a), .int .i64 (b + 1), .int .i64 (c)]) = .ok (.tuple #[]) (w2.setRow w1.heap.size #[.int .i64 (a), .int .i64 (b + 1), .int .i64 (0)]) := clear_one hgN.out rfl
            have hN2 := Lib.hid (setRow_heap w2 w1.heap.size _ #[.int .i64 (a), .int .i64 (b + 1), .int .i64 (0)] _ _ hgN.out)
            have hR2 := Lib.hid ((setRow_other w2 w1.heap.size (w.heap.size + 1) #[.int .i64 (a), .int .i64 (b + 1), .int .i64 (0)] (by omega)).trans hgR2.out)
            have hbR : Below w.heap.size w (w2.setRow w1.heap.size #[.int .i64 (a), .int .i64 (b + 1), .int .i64 (0)]) := below_setRow hbw2 (by omega) _
            have hsR : (w2.setRow w1.heap.size #[.int .i64 (a), .int .i64 (b + 1), .int .i64 (0)]).heap.size = w2.heap.size := by unfold World.setRow; simp
            have HSR := Lib.hid hsR
            clear hsR h9
            go_wp2_with (first
              | (refine wpList_load_row rfl 84 _ rfl w1.heap.size rfl _ _ _ _ hN2.out Tryz.underlying84 rfl (by kernel_rfl) ?_)
              | (go_at_call 112; refine (release_any _ _ _ _).mono ?_; unfold verV Ver.rel; rintro e w3 ⟨rfl, hb3⟩; have hR3 := Lib.hid ((hb3.block (w.heap.size + 1) (by rw [HSR.out]; omega)).trans hR2.out); have hbw3 := hbR.trans (hb3.mono hbR.size))
              | (refine wpList_store_row rfl 26 _ _ rfl (w.heap.size + 1) #[.int .i64 (a), .int .i64 (b + 1), .int .i64 (0), .string (mkS []), .string (mkS [])] rfl rfl _ _ hR3.out (by kernel_rfl) rfl (ver_one _ _ _ _ _) ?_))
            exact bump_done (u := Ver.rel (a) (b + 1) (0)) rfl rfl hR3.out hbw3 HB.out (by unfold bumpV; rw [HB.out]; rfl)
        · by_cases h9 : c = 9999
          · have h9b : (c == 9999) = true := by simpa using h9
            have HB : Hid (bumpOk ⟨a, b, c, p, q⟩ 2 = false) := by show _ = _; unfold bumpOk; rw [show nth3 a b c (2 : Int).toNat = c from rfl, h9b]; simp
            clear h9
            go_wp2_with (refine wpList_store_row rfl 26 _ _ rfl (w.heap.size + 1) #[.int .i64 0, .int .i64 0, .int .i64 0, .string ⟨#[]⟩, .string ⟨#[]⟩] rfl rfl _ _ hgR2.out (by kernel_rfl) rfl (ver_one _ _ _ _ _) ?_)
            exact bump_done (u := Ver.zero) rfl rfl hgR2.out hbw2 HB.out (by unfold bumpV; rw [HB.out]; rfl)
          · have h9b : (c == 9999) = false := by simpa using h9
            have HB : Hid (bumpOk ⟨a, b, c, p, q⟩ 2 = true) := by show _ = _; unfold bumpOk; rw [HM.out, show nth3 a b c (2 : Int).toNat = c from rfl, h9b]; rfl
            have hW : (w2.setCell ⟨w1.heap.size, 2, none⟩ (.int .i64 (c + 1))) = w2.setRow w1.heap.size #[.int .i64 (a), .int .i64 (b), .int .i64 (c + 1)] := set_row3 _ hgN.out
            have hcl : (Builtin.clear_ #[36] 0 #[.slice (some ⟨w1.heap.size, 0, none⟩) 0 0]).run Tryz.prog (w2.setRow w1.heap.size #[.int .i64 (a), .int .i64 (b), .int .i64 (c + 1)]) = .ok (.tuple #[]) (w2.setRow w1.heap.size #[.int .i64 (a), .int .i64 (b), .int .i64 (c + 1)]) := clear_none _ _
            have hN2 := Lib.hid (setRow_heap w2 w1.heap.size _ #[.int .i64 (a), .int .i64 (b), .int .i64 (c + 1)] _ _ hgN.out)
            have hR2 := Lib.hid ((setRow_other w2 w1.heap.size (w.heap.size + 1) #[.int .i64 (a), .int .i64 (b), .int .i64 (c + 1)] (by omega)).trans hgR2.out)
            have hbR : Below w.heap.size w (w2.setRow w1.heap.size #[.int .i64 (a), .int .i64 (b), .int .i64 (c + 1)]) := below_setRow hbw2 (by omega) _
            have hsR : (w2.setRow w1.heap.size #[.int .i64 (a), .int .i64 (b), .int .i64 (c + 1)]).heap.size = w2.heap.size := by unfold World.setRow; simp
            have HSR := Lib.hid hsR
            clear hsR h9
            go_wp2_with (first
              | (refine wpList_load_row rfl 84 _ rfl w1.heap.size rfl _ _ _ _ hN2.out Tryz.underlying84 rfl (by kernel_rfl) ?_)
              | (go_at_call 112; refine (release_any _ _ _ _).mono ?_; unfold verV Ver.rel; rintro e w3 ⟨rfl, hb3⟩; have hR3 := Lib.hid ((hb3.block (w.heap.size + 1) (by rw [HSR.out]; omega)).trans hR2.out); have hbw3 := hbR.trans (hb3.mono hbR.size))
              | (refine wpList_store_row rfl 26 _ _ rfl (w.heap.size + 1) #[.int .i64 (a), .int .i64 (b), .int .i64 (c + 1), .string (mkS []), .string (mkS [])] rfl rfl _ _ hR3.out (by kernel_rfl) rfl (ver_one _ _ _ _ _) ?_))
            exact bump_done (u := Ver.rel (a) (b) (c + 1)) rfl rfl hR3.out hbw3 HB.out (by unfold bumpV; rw [HB.out]; rfl)

theorem bump_any (v : Ver) (part : Int) (w : World) (hp : v.pre.length ≤ 1000000) (hq : v.build.length ≤ 1000000) :
    Calls Tryz.prog 113 #[verV v, .int .i64 part] w fun e w' => e = .returned (.tuple #[verV (bumpV v part), .bool (bumpOk v part)]) ∧ Below w.heap.size w w' := bump_go v part w hp hq

/-! ### Next -/
def nextOk (v : Ver) : Bool := v.may && (!v.pre.isEmpty || bumpOk v 2 || bumpOk v 1 || bumpOk v 0)
def nextV (v : Ver) : Ver :=
  if v.may then (if v.pre.isEmpty then (if bumpOk v 2 then bumpV v 2 else if bumpOk v 1 then bumpV v 1 else if bumpOk v 0 then bumpV v 0 else Ver.zero) else Ver.rel v.maj v.min v.pat) else Ver.zero
def NEnd (v : Ver) (w : World) (e : Ending) (w' : World) : Prop := e = .returned (.tuple #[verV (nextV v), .bool (nextOk v)]) ∧ Below w.heap.size w w'
theorem next_done {v u : Ver} {b : Bool} {w wr : World} {tmps : Array Value} {old : Array Value} (h2 : tmps.getD 2 undef = .pointer (some ⟨w.heap.size + 1, 0, none⟩)) (h3 : tmps.getD 3 undef = .bool b)
    (hg : wr.heap[w.heap.size + 1]? = some (.cells old 26)) (hbel : Below w.heap.size w wr) (hb : nextOk v = b) (hv : nextV v = u) :
    bodyPost Tryz.prog Tryz.f79 (NEnd v w) .ret ⟨tmps, []⟩ (wr.setRow (w.heap.size + 1) #[.int .i64 u.maj, .int .i64 u.min, .int .i64 u.pat, .string (mkS u.pre), .string (mkS u.build)]) := by
  have hrow := setRow_heap wr (w.heap.size + 1) _ #[.int .i64 u.maj, .int .i64 u.min, .int .i64 u.pat, .string (mkS u.pre), .string (mkS u.build)] _ _ hg
  have hr := run_loadVar_row (P := Tryz.prog) _ (w.heap.size + 1) 26 26 _ _ _ hrow Tryz.underlying26 rfl (by kernel_rfl)
  have h2' : tmps[2]?.getD undef = .pointer (some ⟨w.heap.size + 1, 0, none⟩) := by simpa using h2
  have h3' : tmps[3]?.getD undef = .bool b := by simpa using h3
  refine bodyPost_ret (v := .tuple #[verV u, .bool b]) (by simp [results, Tryz.results79, asAddr, h2', h3', hr, verV]) rfl ⟨by rw [hv, hb], below_setRow hbel (by omega) _⟩
/-- What the loop over the parts 2, 1, 0 finds from a part on. -/
def findB (v : Ver) : Nat → Ver × Bool
  | 0 => (Ver.zero, false)
  | k + 1 => if bumpOk v k then (bumpV v k, true) else findB v k
theorem find_next (v : Ver) (h : (!v.pre.isEmpty && v.may) = false) : nextV v = (findB v 3).1 ∧ nextOk v = (findB v 3).2 := by
  unfold nextV nextOk
  show _ = (if bumpOk v 2 then (bumpV v 2, true) else if bumpOk v 1 then (bumpV v 1, true) else if bumpOk v 0 then (bumpV v 0, true) else (Ver.zero, false)).1 ∧ _ = (if bumpOk v 2 then (bumpV v 2, true) else if bumpOk v 1 then (bumpV v 1, true) else if bumpOk v 0 then (bumpV v 0, true) else (Ver.zero, false)).2
  cases hm : v.may with
  | true =>
    rw [hm, Bool.and_true] at h
    rw [h]
    have hp : v.pre.isEmpty = true := by simpa using h
    rw [hp]
    cases bumpOk v 2 <;> cases bumpOk v 1 <;> cases bumpOk v 0 <;> simp
  | false =>
    have hk : ∀ k, bumpOk v k = false := fun k => by unfold bumpOk; rw [hm]; rfl
    rw [hk, hk, hk]; simp

set_option maxHeartbeats 4000000 in
set_option maxRecDepth 100000 in
theorem next_go (v : Ver) (w : World) (hp : v.pre.length ≤ 1000000) (hq : v.build.length ≤ 1000000) :
    Calls Tryz.prog 79 #[verV v] w (NEnd v w) := by
  have cM := fun w' => may_any v w' (by omega) (by omega)
  have cN := fun w' => numbers_any v w'
  have ep := empty_mk2 v.pre
  obtain ⟨a, b, c, p, q⟩ := v
  unfold verV at cM cN ⊢
  dsimp only at cM cN ep hp hq ⊢
  cases he : p.isEmpty with
  | true =>
    have HG : Hid ((!p.isEmpty && (Ver.mk a b c p q).may) = false) := by show _ = _; rw [he]; rfl
    rw [he] at ep
    clear he cM cN
    go_enter Tryz.func79, Tryz.ntmps79
    go_wp2
    go_loopw [4] (fun x wr => ∃ k : Nat, k ≤ 3 ∧ x = .int .i64 ((k : Int) - 1) ∧ wr.heap[w.heap.size]? = some (.cells #[.int .i64 a, .int .i64 b, .int .i64 c, .string (mkS p), .string (mkS q)] 26) ∧ wr.heap[w.heap.size + 1]? = some (.cells #[.int .i64 0, .int .i64 0, .int .i64 0, .string ⟨#[]⟩, .string ⟨#[]⟩] 26) ∧ Below w.heap.size w wr ∧ Hid (findB ⟨a, b, c, p, q⟩ k = findB ⟨a, b, c, p, q⟩ 3)) (fun x _ => ((intOf x) + 1).toNat)
    case atStart => exact ⟨3, by omega, rfl, (heap_old _ _ (by rw [size_box]; omega)).trans (heap_new w _), heap_at _ _ _ (by rw [size_box]), ((Below.refl _ _).alloc (Nat.le_refl _) _).alloc (by rw [size_box]; omega) _, rfl⟩
    case round =>
      obtain ⟨k, hk, rfl, hB, hR, hbel, HR⟩ := hrel
      have hlR := (Array.getElem?_eq_some_iff.1 hR).1
      have HB := Lib.hid hB
      have HR0 := Lib.hid hR
      clear hB hR
      cases k with
      | zero =>
        have HF : Hid (findB ⟨a, b, c, p, q⟩ 3 = (Ver.zero, false)) := HR.out.symm
        go_wp2_with (refine wpList_store_row rfl 26 _ _ rfl (w.heap.size + 1) #[.int .i64 0, .int .i64 0, .int .i64 0, .string ⟨#[]⟩, .string ⟨#[]⟩] rfl rfl _ _ HR0.out (by kernel_rfl) rfl (ver_one _ _ _ _ _) ?_)
        have hf := find_next ⟨a, b, c, p, q⟩ HG.out
        rw [HF.out] at hf
        exact next_done (u := Ver.zero) rfl rfl HR0.out hbel hf.2 hf.1
      | succ k =>
        have hk0 : (0 : Int) ≤ k := by omega
        have hke : (((k + 1 : Nat) : Int) - 1) = (k : Int) := by omega
        rw [hke]
        have cB := fun w' => bump_any ⟨a, b, c, p, q⟩ (k : Int) w' hp hq
        unfold verV at cB
        dsimp only at cB
        cases hb : bumpOk ⟨a, b, c, p, q⟩ (k : Int) with
        | true =>
          rw [hb] at cB
          obtain ⟨u, hu⟩ : ∃ u, bumpV ⟨a, b, c, p, q⟩ (k : Int) = u := ⟨_, rfl⟩
          rw [hu] at cB
          have hfq : findB ⟨a, b, c, p, q⟩ 3 = (u, true) := by rw [← HR.out, findB, hb, hu]; rfl
          have HF := Lib.hid hfq
          clear hfq hb hu hke
          go_wp2_with (first
            | (refine wpList_load_row rfl 26 _ rfl w.heap.size rfl _ _ _ _ HB.out Tryz.underlying26 rfl (by kernel_rfl) ?_)
            | (go_at_call 113; refine (cB _).mono ?_; rintro e w3 ⟨rfl, hb3⟩; have hR3 := Lib.hid ((hb3.block (w.heap.size + 1) hlR).trans HR0.out); have hbw3 := hbel.trans (hb3.mono hbel.size); have hl3 := Nat.lt_of_lt_of_le hlR hb3.size)
            | (refine wpList_store_row rfl 26 _ _ rfl (w.heap.size + 1) #[.int .i64 u.maj, .int .i64 u.min, .int .i64 u.pat, .string (mkS u.pre), .string (mkS u.build)] rfl rfl _ _ ((heap_old _ _ hl3).trans hR3.out) (by kernel_rfl) rfl (ver_one _ _ _ _ _) ?_))
          have hf := find_next ⟨a, b, c, p, q⟩ HG.out
          rw [HF.out] at hf
          exact next_done (u := u) rfl rfl ((heap_old _ _ hl3).trans hR3.out) (hbw3.alloc (by omega) _) hf.2 hf.1
        | false =>
          rw [hb] at cB
          obtain ⟨u, hu⟩ : ∃ u, bumpV ⟨a, b, c, p, q⟩ (k : Int) = u := ⟨_, rfl⟩
          rw [hu] at cB
          have hfq : findB ⟨a, b, c, p, q⟩ k = findB ⟨a, b, c, p, q⟩ 3 := by rw [← HR.out, findB, hb]; rfl
          have HF := Lib.hid hfq
          clear hfq hb hu hke
          go_wp2_with (first
            | (refine wpList_load_row rfl 26 _ rfl w.heap.size rfl _ _ _ _ HB.out Tryz.underlying26 rfl (by kernel_rfl) ?_)
            | (go_at_call 113; refine (cB _).mono ?_; rintro e w3 ⟨rfl, hb3⟩; have hl3 := Nat.lt_of_lt_of_le hlR hb3.size))
          have hR3 := (hb3.block (w.heap.size + 1) hlR).trans HR0.out
          have hB3 := (hb3.block w.heap.size (by omega)).trans HB.out
          have hbw3 := hbel.trans (hb3.mono hbel.size)
          go_roundw
          case rel => exact ⟨k, by omega, rfl, (heap_old _ _ (by omega)).trans hB3, (heap_old _ _ hl3).trans hR3, hbw3.alloc (by omega) _, HF.out⟩
          case measure => simp [intOf]; try omega
  | false =>
    rw [he] at ep
    obtain ⟨m, hm⟩ : ∃ m, (Ver.mk a b c p q).may = m := ⟨_, rfl⟩
    rw [hm] at cM
    cases m with
    | false =>
      have HG : Hid ((!p.isEmpty && (Ver.mk a b c p q).may) = false) := by show _ = _; rw [hm, Bool.and_false]
      clear he hm cN
      go_enter Tryz.func79, Tryz.ntmps79
      go_wp2_with fail
      refine (cM _).mono ?_
      rintro e w1 ⟨rfl, hb1⟩
      have hgB := (hb1.block w.heap.size (by simp only [size_box]; omega)).trans ((heap_old _ _ (by simp only [size_box]; omega)).trans (heap_new w _))
      have hgR := (hb1.block (w.heap.size + 1) (by simp only [size_box]; omega)).trans (heap_at _ _ _ (by simp only [size_box]))
      have hbw : Below w.heap.size w w1 := (((Below.refl _ _).alloc (Nat.le_refl _) _).alloc (by simp only [size_box]; omega) _).trans (hb1.mono (by simp only [size_box]; omega))
      have HGB := Lib.hid hgB
      have HGR := Lib.hid hgR
      clear hgB hgR
      go_wp2
      go_loopw [4] (fun x wr => ∃ k : Nat, k ≤ 3 ∧ x = .int .i64 ((k : Int) - 1) ∧ wr.heap[w.heap.size]? = some (.cells #[.int .i64 a, .int .i64 b, .int .i64 c, .string (mkS p), .string (mkS q)] 26) ∧ wr.heap[w.heap.size + 1]? = some (.cells #[.int .i64 0, .int .i64 0, .int .i64 0, .string ⟨#[]⟩, .string ⟨#[]⟩] 26) ∧ Below w.heap.size w wr ∧ Hid (findB ⟨a, b, c, p, q⟩ k = findB ⟨a, b, c, p, q⟩ 3)) (fun x _ => ((intOf x) + 1).toNat)
      case atStart => exact ⟨3, by omega, rfl, HGB.out, HGR.out, hbw, rfl⟩
      case round =>
        obtain ⟨k, hk, rfl, hB, hR, hbel, HR⟩ := hrel
        have hlR := (Array.getElem?_eq_some_iff.1 hR).1
        have HB := Lib.hid hB
        have HR0 := Lib.hid hR
        clear hB hR
        cases k with
        | zero =>
          have HF : Hid (findB ⟨a, b, c, p, q⟩ 3 = (Ver.zero, false)) := HR.out.symm
          go_wp2_with (refine wpList_store_row rfl 26 _ _ rfl (w.heap.size + 1) #[.int .i64 0, .int .i64 0, .int .i64 0, .string ⟨#[]⟩, .string ⟨#[]⟩] rfl rfl _ _ HR0.out (by kernel_rfl) rfl (ver_one _ _ _ _ _) ?_)
          have hf := find_next ⟨a, b, c, p, q⟩ HG.out
          rw [HF.out] at hf
          exact next_done (u := Ver.zero) rfl rfl HR0.out hbel hf.2 hf.1
        | succ k =>
          have hk0 : (0 : Int) ≤ k := by omega
          have hke : (((k + 1 : Nat) : Int) - 1) = (k : Int) := by omega
          rw [hke]
          have cB := fun w' => bump_any ⟨a, b, c, p, q⟩ (k : Int) w' hp hq
          unfold verV at cB
          dsimp only at cB
          cases hb : bumpOk ⟨a, b, c, p, q⟩ (k : Int) with
          | true =>
            rw [hb] at cB
            obtain ⟨u, hu⟩ : ∃ u, bumpV ⟨a, b, c, p, q⟩ (k : Int) = u := ⟨_, rfl⟩
            rw [hu] at cB
            have hfq : findB ⟨a, b, c, p, q⟩ 3 = (u, true) := by rw [← HR.out, findB, hb, hu]; rfl
            have HF := Lib.hid hfq
            clear hfq hb hu hke
            go_wp2_with (first
              | (refine wpList_load_row rfl 26 _ rfl w.heap.size rfl _ _ _ _ HB.out Tryz.underlying26 rfl (by kernel_rfl) ?_)
              | (go_at_call 113; refine (cB _).mono ?_; rintro e w3 ⟨rfl, hb3⟩; have hR3 := Lib.hid ((hb3.block (w.heap.size + 1) hlR).trans HR0.out); have hbw3 := hbel.trans (hb3.mono hbel.size); have hl3 := Nat.lt_of_lt_of_le hlR hb3.size)
              | (refine wpList_store_row rfl 26 _ _ rfl (w.heap.size + 1) #[.int .i64 u.maj, .int .i64 u.min, .int .i64 u.pat, .string (mkS u.pre), .string (mkS u.build)] rfl rfl _ _ ((heap_old _ _ hl3).trans hR3.out) (by kernel_rfl) rfl (ver_one _ _ _ _ _) ?_))
            have hf := find_next ⟨a, b, c, p, q⟩ HG.out
            rw [HF.out] at hf
            exact next_done (u := u) rfl rfl ((heap_old _ _ hl3).trans hR3.out) (hbw3.alloc (by omega) _) hf.2 hf.1
          | false =>
            rw [hb] at cB
            obtain ⟨u, hu⟩ : ∃ u, bumpV ⟨a, b, c, p, q⟩ (k : Int) = u := ⟨_, rfl⟩
            rw [hu] at cB
            have hfq : findB ⟨a, b, c, p, q⟩ k = findB ⟨a, b, c, p, q⟩ 3 := by rw [← HR.out, findB, hb]; rfl
            have HF := Lib.hid hfq
            clear hfq hb hu hke
            go_wp2_with (first
              | (refine wpList_load_row rfl 26 _ rfl w.heap.size rfl _ _ _ _ HB.out Tryz.underlying26 rfl (by kernel_rfl) ?_)
              | (go_at_call 113; refine (cB _).mono ?_; rintro e w3 ⟨rfl, hb3⟩; have hl3 := Nat.lt_of_lt_of_le hlR hb3.size))
            have hR3 := (hb3.block (w.heap.size + 1) hlR).trans HR0.out
            have hB3 := (hb3.block w.heap.size (by omega)).trans HB.out
            have hbw3 := hbel.trans (hb3.mono hbel.size)
            go_roundw
            case rel => exact ⟨k, by omega, rfl, (heap_old _ _ (by omega)).trans hB3, (heap_old _ _ hl3).trans hR3, hbw3.alloc (by omega) _, HF.out⟩
            case measure => simp [intOf]; try omega
    | true =>
      have HV : Hid (nextV ⟨a, b, c, p, q⟩ = Ver.rel a b c) := by show _ = _; unfold nextV; rw [if_pos hm, if_neg (by simp [he])]
      have HO : Hid (nextOk ⟨a, b, c, p, q⟩ = true) := by show _ = _; unfold nextOk; rw [hm]; simp [he]
      clear he hm
      go_enter Tryz.func79, Tryz.ntmps79
      go_wp2_with fail
      refine (cM _).mono ?_
      rintro e w1 ⟨rfl, hb1⟩
      have hz1 := hb1.size
      simp only [size_box] at hz1
      have hgB := (hb1.block w.heap.size (by simp only [size_box]; omega)).trans ((heap_old _ _ (by simp only [size_box]; omega)).trans (heap_new w _))
      have hgR := (hb1.block (w.heap.size + 1) (by simp only [size_box]; omega)).trans (heap_at _ _ _ (by simp only [size_box]))
      have hbw : Below w.heap.size w w1 := (((Below.refl _ _).alloc (Nat.le_refl _) _).alloc (by simp only [size_box]; omega) _).trans (hb1.mono (by simp only [size_box]; omega))
      have HGB := Lib.hid hgB
      have HGR := Lib.hid hgR
      clear hgB hgR hb1 cM
      go_wp2_with (first
        | (refine wpList_load_row rfl 26 _ rfl w.heap.size rfl _ _ _ _ HGB.out Tryz.underlying26 rfl (by kernel_rfl) ?_)
        | (go_at_call 96; refine (cN _).mono ?_; rintro e w2 ⟨rfl, hb2⟩; have hR2 := Lib.hid ((hb2.block (w.heap.size + 1) (by omega)).trans HGR.out); have hbw2 := hbw.trans (hb2.mono hbw.size); have hl2 := hb2.size)
        | (go_at_call 112; refine (release_any _ _ _ _).mono ?_; unfold verV Ver.rel; rintro e w3 ⟨rfl, hb3⟩; have hR3 := Lib.hid ((hb3.block (w.heap.size + 1) (by omega)).trans hR2.out); have hbw3 := hbw2.trans (hb3.mono hbw2.size))
        | (refine wpList_store_row rfl 26 _ _ rfl (w.heap.size + 1) #[.int .i64 a, .int .i64 b, .int .i64 c, .string (mkS []), .string (mkS [])] rfl rfl _ _ hR3.out (by kernel_rfl) rfl (ver_one _ _ _ _ _) ?_))
      exact next_done (u := Ver.rel a b c) rfl rfl hR3.out hbw3 HO.out HV.out

theorem vnext_any (v : Ver) (w : World) (hp : v.pre.length ≤ 1000000) (hq : v.build.length ≤ 1000000) :
    Calls Tryz.prog 79 #[verV v] w fun e w' => e = .returned (.tuple #[verV (nextV v), .bool (nextOk v)]) ∧ Below w.heap.size w w' := next_go v w hp hq
end Go.Proofs.YtgeccfdofmnphaaGreat
end

section
/-
  Plain mathematics for chapter 2: the next release is greater than the version, and no release lies between.
-/
namespace Go.Proofs.YtgeccfdofmnphaaGreat
open Go.RowKit

theorem bump2 {v : Ver} (h : v.may = true) : bumpOk v 2 = true ↔ v.pat ≠ 9999 := by
  unfold bumpOk; rw [h, show nth3 v.maj v.min v.pat (2 : Int).toNat = v.pat from rfl]; simp
theorem bump1 {v : Ver} (h : v.may = true) : bumpOk v 1 = true ↔ v.min ≠ 9999 := by
  unfold bumpOk; rw [h, show nth3 v.maj v.min v.pat (1 : Int).toNat = v.min from rfl]; simp
theorem bump0 {v : Ver} (h : v.may = true) : bumpOk v 0 = true ↔ v.maj ≠ 9999 := by
  unfold bumpOk; rw [h, show nth3 v.maj v.min v.pat (0 : Int).toNat = v.maj from rfl]; simp
theorem rel_in {a b c : Int} (ha : 0 ≤ a ∧ a ≤ 9999) (hb : 0 ≤ b ∧ b ≤ 9999) (hc : 0 ≤ c ∧ c ≤ 9999) : (Ver.rel a b c).may = true := by
  rw [rel_may4, num_in ha, num_in hb, num_in hc]; rfl
/-- What Next finds: a release; its code. -/
theorem next_is {v : Ver} (h : v.may = true) : (nextOk v = false ∧ v.pre = [] ∧ v.code = 999999999999) ∨
    (nextOk v = true ∧ ∃ a b c, nextV v = Ver.rel a b c ∧ (Ver.rel a b c).may = true ∧ ((v.pre = [] ∧ (Ver.rel a b c).code = v.code + 1) ∨ (v.pre ≠ [] ∧ (Ver.rel a b c).code = v.code))) := by
  obtain ⟨h1, h2, h3⟩ := may_nat h
  unfold nextOk nextV
  rw [h]
  by_cases hp : v.pre = []
  · have e : v.pre.isEmpty = true := by rw [hp]; rfl
    rw [e]
    by_cases k2 : v.pat = 9999
    · have b2 : bumpOk v 2 = false := Bool.eq_false_iff.2 (fun e => (bump2 h).1 e k2)
      rw [b2]
      by_cases k1 : v.min = 9999
      · have b1 : bumpOk v 1 = false := Bool.eq_false_iff.2 (fun e => (bump1 h).1 e k1)
        rw [b1]
        by_cases k0 : v.maj = 9999
        · have b0 : bumpOk v 0 = false := Bool.eq_false_iff.2 (fun e => (bump0 h).1 e k0)
          rw [b0]
          exact .inl ⟨rfl, hp, by unfold Ver.code; omega⟩
        · have b0 := (bump0 h).2 k0
          have bv : bumpV v 0 = Ver.rel (v.maj + 1) 0 0 := by unfold bumpV; rw [b0]; rfl
          rw [b0, bv]
          exact .inr ⟨rfl, v.maj + 1, 0, 0, rfl, rel_in (by omega) (by omega) (by omega), .inl ⟨hp, by unfold Ver.code Ver.rel; dsimp only; omega⟩⟩
      · have b1 := (bump1 h).2 k1
        have bv : bumpV v 1 = Ver.rel v.maj (v.min + 1) 0 := by unfold bumpV; rw [b1]; rfl
        rw [b1, bv]
        exact .inr ⟨rfl, v.maj, v.min + 1, 0, rfl, rel_in (by omega) (by omega) (by omega), .inl ⟨hp, by unfold Ver.code Ver.rel; dsimp only; omega⟩⟩
    · have b2 := (bump2 h).2 k2
      have bv : bumpV v 2 = Ver.rel v.maj v.min (v.pat + 1) := by unfold bumpV; rw [b2]; rfl
      rw [b2, bv]
      exact .inr ⟨rfl, v.maj, v.min, v.pat + 1, rfl, rel_in (by omega) (by omega) (by omega), .inl ⟨hp, by unfold Ver.code Ver.rel; dsimp only; omega⟩⟩
  · have e : v.pre.isEmpty = false := List.isEmpty_eq_false_iff.2 hp
    rw [e]
    exact .inr ⟨rfl, v.maj, v.min, v.pat, rfl, rel_in h1 h2 h3, .inr ⟨hp, rfl⟩⟩
theorem code_max {v : Ver} (h : v.may = true) : 0 ≤ v.code ∧ v.code ≤ 999999999999 := by
  obtain ⟨h1, h2, h3⟩ := may_nat h
  unfold Ver.code; omega
end Go.Proofs.YtgeccfdofmnphaaGreat
end

section
/-
  Plain mathematics of sets: the cuts that Rel may have, one Rel for one set of releases, Or, And, Not, Make, Exact. No condition of their own.
-/
namespace Go.Proofs.YtgeccfdofmnphaaGreat
set_option linter.unusedVariables false
set_option linter.unusedSimpArgs false

def leastV (v : Ver) : Bool := decide (v.maj = 0) && decide (v.min = 0) && decide (v.pat = 0)
theorem least_code {v : Ver} (h : v.may = true) : leastV v = decide (v.code = 0) := by
  obtain ⟨h1, h2, h3⟩ := may_nat h
  unfold leastV Ver.code
  rw [← Bool.decide_and, ← Bool.decide_and]
  exact decide_eq_decide.2 ⟨fun ⟨⟨a, b⟩, c⟩ => by omega, fun e => ⟨⟨by omega, by omega⟩, by omega⟩⟩
/-- May a cut be one of Rel? -/
def rightC (c : Cu) : Bool := decide (¬ c.e = 0) || (!c.aft && decide (c.v.pre = []) && !leastV c.v)
def AllRight (l : List Sp) : Prop := ∀ s ∈ l, rightC s.lo = true ∧ rightC s.hi = true
/-- A cut of Rel as a number; a cut as the number of the release at or below it. -/
def valC (c : Cu) : Int := if c.e = -1 then 0 else if c.e = 1 then 1000000000000 else c.v.code
def muI (v : Ver) : Int := if v.pre = [] then v.code else v.code - 1
def mu (x : Cu) : Int := if x.e = 0 then (if muI x.v < 0 then 0 else muI x.v) else 0
theorem mu_range {x : Cu} (hx : x.may = true) : 0 ≤ mu x ∧ mu x ≤ 999999999999 := by
  have h := code_max (may_v hx)
  unfold mu muI
  split
  · split
    · omega
    · split at * <;> omega
  · omega
theorem ci_le {a b : Int} : Lib.compareInt a b ≤ 0 ↔ a ≤ b := by
  unfold Lib.compareInt
  split
  · omega
  · split <;> omega
theorem ci_eq {a b : Int} : Lib.compareInt a b = 0 ↔ a = b := by
  unfold Lib.compareInt
  split
  · omega
  · split <;> omega
theorem right_le {c x : Cu} (hc : c.may = true) (hr : rightC c = true) (hx : x.may = true) (he : cmpC x (endC 1) < 0) : cmpC c x ≤ 0 ↔ valC c ≤ mu x := by
  have hmx := mu_range hx
  have hxe : x.e = 0 ∨ x.e = -1 := by
    rcases may_e hx with ⟨h, _⟩ | ⟨h, h2, h3⟩
    · exact .inl h
    · rcases h with h | h
      · exact .inr h
      · exfalso
        have : x = endC 1 := by
          obtain ⟨e, v, a⟩ := x
          simp only at h h2 h3
          subst h h2 h3; rfl
        rw [this, cut_self] at he; omega
  rw [cmpC_good hc hx]
  rcases may_e hc with ⟨h0, hb⟩ | ⟨h1, hv, ha⟩
  · have hr2 := hr
    unfold rightC at hr2
    rw [decide_eq_false (by simpa using h0), Bool.false_or] at hr2
    simp only [Bool.and_eq_true, Bool.not_eq_true', decide_eq_true_eq] at hr2
    obtain ⟨⟨ha, hp⟩, hl⟩ := hr2
    rw [least_code (may_v hc), decide_eq_false_iff_not] at hl
    have hcc := code_max (may_v hc)
    have hval : valC c = c.v.code := by unfold valC; rw [if_neg (by omega), if_neg (by omega)]
    rw [hval]
    rcases hxe with hx0 | hx1
    · have hcx := code_max (may_v hx)
      rw [h0, hx0, show Lib.compareInt 0 0 = 0 from rfl, lex_0, cmpR_code (may_v hc) (may_v hx), ha, hp]
      have hmu : mu x = if muI x.v < 0 then 0 else muI x.v := by unfold mu; rw [if_pos hx0]
      rw [hmu]
      unfold muI presR
      by_cases k1 : c.v.code < x.v.code
      · rw [if_pos k1, lex_neg]
        constructor
        · intro _; split <;> split at * <;> omega
        · intro _; omega
      · rw [if_neg k1]
        by_cases k2 : x.v.code < c.v.code
        · rw [if_pos k2, lex_pos]
          constructor
          · intro h; omega
          · intro h; exfalso; split at h <;> split at * <;> omega
        · rw [if_neg k2]
          by_cases k3 : x.v.pre = []
          · rw [k3, if_pos rfl, lex_0]
            have : Lib.compareInt (b01 false) (b01 x.aft) ≤ 0 := by rw [ci_le]; cases x.aft <;> decide
            constructor
            · intro _; rw [if_pos rfl, if_neg (by omega)]; omega
            · intro _; exact this
          · rw [if_neg (fun e => k3 e.symm), if_pos rfl, lex_pos]
            constructor
            · intro h; omega
            · intro h; exfalso; rw [if_neg k3] at h; split at h <;> omega
    · rw [h0, hx1, show Lib.compareInt 0 (-1) = 1 from rfl, lex_pos]
      have hmu : mu x = 0 := by unfold mu; rw [if_neg (by omega)]
      rw [hmu]
      constructor <;> intro h <;> omega
  · rcases h1 with h1 | h1
    · have hval : valC c = 0 := by unfold valC; rw [if_pos h1]
      rw [hval]
      refine ⟨fun _ => hmx.1, fun _ => ?_⟩
      rcases hxe with hx0 | hx1
      · rw [h1, hx0, show Lib.compareInt (-1) 0 = -1 from rfl, lex_neg]; omega
      · rcases may_e hx with ⟨h, _⟩ | ⟨_, hv2, ha2⟩
        · omega
        · rw [h1, hx1, hv, hv2, ha, ha2, show Lib.compareInt (-1) (-1) = 0 from rfl, lex_0, show cmpR Ver.zero Ver.zero = 0 from cmpR_core rfl, lex_0]; decide
    · have hval : valC c = 1000000000000 := by unfold valC; rw [if_neg (by omega), if_pos h1]
      rw [hval]
      refine ⟨fun h => ?_, fun h => by omega⟩
      exfalso
      rcases hxe with hx0 | hx1
      · rw [h1, hx0, show Lib.compareInt 1 0 = 1 from rfl, lex_pos] at h; omega
      · rw [h1, hx1, show Lib.compareInt 1 (-1) = 1 from rfl, lex_pos] at h; omega
theorem right_lt {c x : Cu} (hc : c.may = true) (hr : rightC c = true) (hx : x.may = true) (he : cmpC x (endC 1) < 0) : cmpC x c < 0 ↔ mu x < valC c := by
  have h := right_le hc hr hx he
  have ha := cut_anti (a := c) (b := x)
  constructor
  · intro h2
    have : ¬ cmpC c x ≤ 0 := by omega
    have := fun h3 => this (h.2 h3)
    omega
  · intro h2
    have : ¬ cmpC c x ≤ 0 := fun h3 => by have := h.1 h3; omega
    omega
def denN (l : List Sp) (n : Int) : Bool := l.any fun s => decide (valC s.lo ≤ n) && decide (n < valC s.hi)
theorem den_mu {l : List Sp} (hl : rowMay l = true) (hr : AllRight l) {x : Cu} (hx : x.may = true) (he : cmpC x (endC 1) < 0) : den l x = denN l (mu x) := by
  unfold den denN
  rw [Bool.eq_iff_iff, List.any_eq_true, List.any_eq_true]
  have key : ∀ s ∈ l, inSp s x = (decide (valC s.lo ≤ mu x) && decide (mu x < valC s.hi)) := fun s hs => by
    have hm := span_mays (row_mem hl s hs)
    unfold inSp
    rw [decide_eq_decide.2 (right_le hm.1 (hr s hs).1 hx he), decide_eq_decide.2 (right_lt hm.2 (hr s hs).2 hx he)]
  constructor
  · rintro ⟨s, hs, h⟩; exact ⟨s, hs, by rw [← key s hs]; exact h⟩
  · rintro ⟨s, hs, h⟩; exact ⟨s, hs, by rw [key s hs]; exact h⟩
theorem rel_of {n : Int} (h0 : 0 ≤ n) (h1 : n ≤ 999999999999) : ∃ v : Ver, v.may = true ∧ v.pre = [] ∧ v.build = [] ∧ v.code = n :=
  ⟨Ver.rel (n / 100000000) (n / 10000 % 10000) (n % 10000), rel_in (by omega) (by omega) (by omega), rfl, rfl, by unfold Ver.code Ver.rel; dsimp only; omega⟩
theorem mu_pos {v : Ver} (hv : v.may = true) (hp : v.pre = []) : mu (posC v) = v.code := by
  have := code_max hv
  unfold mu muI posC coreV
  dsimp only
  rw [if_pos rfl, if_pos hp]
  have e : ({ v with build := [] } : Ver).code = v.code := rfl
  rw [e, if_neg (by omega)]
theorem has_code {l : List Sp} (hl : rowMay l = true) (hr : AllRight l) {v : Ver} (hv : v.may = true) (hp : v.pre = []) : rowHas l v = denN l v.code := by
  rw [has_den hl hv, den_mu hl hr (posC_may hv) (pos_lt_end hv), mu_pos hv hp]
/-- One Rel for one set of releases. -/
theorem rel_ext {l m : List Sp} (hl : rowMay l = true) (hm : rowMay m = true) (rl : AllRight l) (rm : AllRight m) (h : ∀ v : Ver, v.may = true → v.pre = [] → rowHas l v = rowHas m v) : l = m :=
  row_ext l m hl hm fun x hx he => by
    have hr := mu_range hx
    obtain ⟨v, hv, hp, _, hc⟩ := rel_of hr.1 hr.2
    have h2 := h v hv hp
    rw [has_code hl rl hv hp, has_code hm rm hv hp, hc] at h2
    rw [den_mu hl rl hx he, den_mu hm rm hx he, h2]
/-! ### Where the cuts of a row come from -/
theorem build_cuts (p : Cu → Cu → Bool) (Q : Cu → Prop) : ∀ (cs : List Cu) (out : List Sp), (∀ c ∈ cs, Q c) → (∀ s ∈ out, Q s.lo ∧ Q s.hi) → ∀ s ∈ buildL p out cs, Q s.lo ∧ Q s.hi
  | [], out, _, ho => by unfold buildL; exact ho
  | [c], out, _, ho => by unfold buildL; exact ho
  | c :: d :: r, out, hc, ho => by
    unfold buildL
    refine build_cuts p Q (d :: r) _ (fun x hx => hc x (List.mem_cons_of_mem _ hx)) ?_
    split
    · intro s hs
      unfold growL at hs
      split at hs
      · rename_i t ht
        split at hs
        · rcases List.mem_append.1 hs with h | h
          · exact ho s (List.dropLast_subset _ h)
          · obtain rfl : s = _ := by simpa using h
            exact ⟨(ho t (List.mem_of_getLast? ht)).1, hc d (by simp)⟩
        · rcases List.mem_append.1 hs with h | h
          · exact ho s h
          · obtain rfl : s = _ := by simpa using h
            exact ⟨hc c (by simp), hc d (by simp)⟩
      · obtain rfl : s = _ := by simpa using hs
        exact ⟨hc c (by simp), hc d (by simp)⟩
    · exact ho
theorem cutsL_all (Q : Cu → Prop) (h1 : Q (endC (-1))) (h2 : Q (endC 1)) (l : List Sp) (hl : ∀ s ∈ l, Q s.lo ∧ Q s.hi) : ∀ c ∈ cutsL l, Q c := by
  have go : ∀ (l : List Sp) (out : List Cu), (∀ c ∈ out, Q c) → (∀ s ∈ l, Q s.lo ∧ Q s.hi) → ∀ c ∈ l.foldl (fun out s => putL s.hi (putL s.lo out)) out, Q c := by
    intro l
    induction l with
    | nil => intro out ho _; exact ho
    | cons s r ih =>
      intro out ho hl
      refine ih _ (fun c hc => ?_) (fun t ht => hl t (List.mem_cons_of_mem _ ht))
      rcases putL_mem _ _ _ hc with rfl | hc
      · exact (hl s (List.mem_cons_self ..)).2
      · rcases putL_mem _ _ _ hc with rfl | hc
        · exact (hl s (List.mem_cons_self ..)).1
        · exact ho c hc
  exact go l _ (fun c hc => by
    rcases List.mem_cons.1 hc with rfl | hc
    · exact h1
    · obtain rfl : c = _ := by simpa using hc
      exact h2) hl
theorem end_right (k : Int) (h : ¬ k = 0) : rightC (endC k) = true := by unfold rightC endC; rw [decide_eq_true h]; rfl
theorem AllRight.make {l : List Sp} (h : AllRight l) : AllRight (makeL l) := build_cuts _ (rightC · = true) _ [] (cutsL_all _ (end_right _ (by decide)) (end_right _ (by decide)) l h) (fun s hs => by simp at hs)
theorem AllRight.app {a b : List Sp} (ha : AllRight a) (hb : AllRight b) : AllRight (a ++ b) := fun s hs => (List.mem_append.1 hs).elim (ha s) (hb s)
theorem AllRight.or {a b : List Sp} (ha : AllRight a) (hb : AllRight b) : AllRight (orL a b) := (ha.app hb).make
theorem AllRight.and {a b : List Sp} (ha : AllRight a) (hb : AllRight b) : AllRight (andL a b) := build_cuts _ (rightC · = true) _ [] (cutsL_all _ (end_right _ (by decide)) (end_right _ (by decide)) _ (ha.app hb)) (fun s hs => by simp at hs)
theorem AllRight.not {a : List Sp} (ha : AllRight a) : AllRight (notL a) := build_cuts _ (rightC · = true) _ [] (cutsL_all _ (end_right _ (by decide)) (end_right _ (by decide)) _ ha) (fun s hs => by simp at hs)
end Go.Proofs.YtgeccfdofmnphaaGreat
end

section
/-
  Plain mathematics of sets: Make of two rows, the set of one version. No condition of their own.
-/
namespace Go.Proofs.YtgeccfdofmnphaaGreat
set_option linter.unusedVariables false
set_option linter.unusedSimpArgs false

def relV (v : Ver) : Ver := Ver.rel v.maj v.min v.pat
/-- The cut before, and the cut behind, the release with the numbers of v, as Rel has them. -/
def relA (v : Ver) : Cu := if leastV v then endC (-1) else ⟨0, relV v, false⟩
def relB (v : Ver) : Cu := if nextOk (relV v) then ⟨0, nextV (relV v), false⟩ else endC 1
def turnC (c : Cu) : Cu := if ¬ c.e = 0 then c else if c.aft = true ∧ c.v.pre = [] then relB c.v else relA c.v
def turnS (s : Sp) : Sp := ⟨turnC s.lo, turnC s.hi⟩
def makeRel (l : List Sp) : List Sp := makeL ((l.map turnS).filter (·.may))
theorem relV_may {v : Ver} (h : v.may = true) : (relV v).may = true := by
  obtain ⟨h1, h2, h3⟩ := may_nat h
  exact rel_in h1 h2 h3
theorem relV_code (v : Ver) : (relV v).code = v.code := rfl
theorem relA_ok {v : Ver} (h : v.may = true) : (relA v).may = true ∧ rightC (relA v) = true ∧ valC (relA v) = v.code := by
  unfold relA
  have hl := least_code h
  split
  · rename_i h1
    rw [hl, decide_eq_true_eq] at h1
    exact ⟨first_may, end_right _ (by decide), by rw [h1]; rfl⟩
  · rename_i h1
    have h2 : leastV (relV v) = false := by
      have : leastV (relV v) = leastV v := rfl
      rw [this]; simpa using h1
    exact ⟨by unfold Cu.may; dsimp only; rw [if_pos rfl, relV_may h]; rfl, by unfold rightC; dsimp only; rw [h2]; rfl, rfl⟩
theorem relB_ok {v : Ver} (h : v.may = true) : (relB v).may = true ∧ rightC (relB v) = true ∧ valC (relB v) = v.code + 1 := by
  unfold relB
  rcases next_is (relV_may h) with ⟨h1, h2, h3⟩ | ⟨h1, a, b, c, h2, h3, h4⟩
  · rw [h1, if_neg (by decide)]
    rw [relV_code] at h3
    exact ⟨last_may, end_right _ (by decide), by rw [h3]; rfl⟩
  · rw [h1, if_pos rfl, h2]
    have hc : (Ver.rel a b c).code = v.code + 1 := by
      rcases h4 with ⟨_, h5⟩ | ⟨h5, _⟩
      · rw [h5, relV_code]
      · exact absurd rfl h5
    have h0 := (code_max h).1
    have hl : leastV (Ver.rel a b c) = false := by rw [least_code h3, decide_eq_false_iff_not]; omega
    refine ⟨by unfold Cu.may; dsimp only; rw [if_pos rfl, h3]; rfl, by unfold rightC; dsimp only; rw [hl]; rfl, ?_⟩
    unfold valC; dsimp only
    rw [if_neg (by decide), if_neg (by decide), hc]
theorem turn_ok {c : Cu} (h : c.may = true) : (turnC c).may = true ∧ rightC (turnC c) = true := by
  unfold turnC
  split
  · rename_i h0
    exact ⟨h, by unfold rightC; rw [decide_eq_true h0]; rfl⟩
  · split
    · have := relB_ok (may_v h); exact ⟨this.1, this.2.1⟩
    · have := relA_ok (may_v h); exact ⟨this.1, this.2.1⟩
theorem turn_le {c : Cu} {r : Ver} (hc : c.may = true) (hr : r.may = true) (hp : r.pre = []) : cmpC c (posC r) ≤ 0 ↔ cmpC (turnC c) (posC r) ≤ 0 := by
  by_cases h0 : c.e = 0
  · have ht := turn_ok hc
    have hv := may_v hc
    rw [right_le ht.1 ht.2 (posC_may hr) (pos_lt_end hr), mu_pos hr hp]
    have ha := ahead_pos hc hr
    have h1 : (cmpC c (posC r) ≤ 0) ↔ (aheadC c r = true) := by rw [ha, decide_eq_true_eq]
    rw [h1]
    unfold aheadC
    rw [hc, hr, if_pos h0]
    simp only [Bool.true_and, decide_eq_true_eq]
    have hcr := (cmp_rel hv hr hp).1
    have hrng := cmpR_range (v := c.v) (w := r)
    have hz : cmpR c.v r = 0 ↔ (c.v.code = r.code ∧ c.v.pre = []) := by
      rw [cmpR_code hv hr, hp]
      by_cases k1 : c.v.code < r.code
      · rw [if_pos k1]; constructor <;> intro h <;> omega
      · rw [if_neg k1]
        by_cases k2 : r.code < c.v.code
        · rw [if_pos k2]; constructor <;> intro h <;> omega
        · rw [if_neg k2]
          unfold presR
          by_cases k3 : c.v.pre = []
          · rw [if_pos k3]; exact ⟨fun _ => ⟨by omega, k3⟩, fun _ => rfl⟩
          · rw [if_neg k3, if_neg k3, if_pos rfl]
            exact ⟨fun h => by omega, fun h => absurd h.2 k3⟩
    have hlt : cmpR c.v r < 0 ↔ cmpR c.v r = -1 := by omega
    rw [hlt, hcr, hz]
    unfold turnC
    rw [if_neg (by simpa using h0)]
    by_cases k : c.aft = true ∧ c.v.pre = []
    · rw [if_pos k, (relB_ok hv).2.2]
      constructor
      · rintro (h | ⟨_, h⟩)
        · rcases h with h | ⟨_, h⟩
          · omega
          · exact absurd k.2 h
        · rw [k.1] at h; cases h
      · intro h; exact .inl (.inl (by omega))
    · rw [if_neg k, (relA_ok hv).2.2]
      constructor
      · rintro (h | ⟨⟨h, _⟩, _⟩)
        · rcases h with h | ⟨h, _⟩ <;> omega
        · omega
      · intro h
        rcases Int.lt_or_eq_of_le h with h | h
        · exact .inl (.inl h)
        · by_cases k3 : c.v.pre = []
          · refine .inr ⟨⟨h, k3⟩, ?_⟩
            cases k4 : c.aft with
            | false => rfl
            | true => exact absurd ⟨k4, k3⟩ k
          · exact .inl (.inr ⟨h, k3⟩)
  · have : turnC c = c := by unfold turnC; rw [if_pos h0]
    rw [this]
theorem turn_in {s : Sp} {r : Ver} (hs : s.may = true) (hr : r.may = true) (hp : r.pre = []) : inSp (turnS s) (posC r) = inSp s (posC r) := by
  obtain ⟨h1, h2⟩ := span_mays hs
  unfold inSp turnS
  dsimp only
  rw [decide_eq_decide.2 (turn_le h1 hr hp).symm]
  congr 1
  refine decide_eq_decide.2 ?_
  have := turn_le h2 hr hp
  have a1 := cut_anti (a := s.hi) (b := posC r)
  have a2 := cut_anti (a := turnC s.hi) (b := posC r)
  constructor
  · intro h; have : ¬ cmpC s.hi (posC r) ≤ 0 := fun h3 => by have := this.1 h3; omega
    omega
  · intro h; have : ¬ cmpC (turnC s.hi) (posC r) ≤ 0 := fun h3 => by have := this.2 h3; omega
    omega
theorem makeRel_mays (l : List Sp) : ∀ s ∈ (l.map turnS).filter (·.may), s.may = true := fun s hs => (List.mem_filter.1 hs).2
theorem makeRel_may (l : List Sp) : rowMay (makeRel l) = true := (make_ok (makeRel_mays l)).1
theorem makeRel_right {l : List Sp} (h : ∀ s ∈ l, s.may = true) : AllRight (makeRel l) := by
  refine AllRight.make (fun s hs => ?_)
  obtain ⟨t, ht, rfl⟩ := List.mem_map.1 (List.mem_filter.1 hs).1
  have := span_mays (h t ht)
  exact ⟨(turn_ok this.1).2, (turn_ok this.2).2⟩
theorem makeRel_has {l : List Sp} {r : Ver} (hl : rowMay l = true) (hr : r.may = true) (hp : r.pre = []) : rowHas (makeRel l) r = rowHas l r := by
  rw [has_den (makeRel_may l) hr, has_den hl hr]
  show den (makeL _) _ = _
  rw [(make_ok (makeRel_mays l)).2 _ (posC_may hr) (pos_lt_end hr)]
  unfold den
  rw [Bool.eq_iff_iff, List.any_eq_true, List.any_eq_true]
  constructor
  · rintro ⟨s, hs, h⟩
    obtain ⟨t, ht, rfl⟩ := List.mem_map.1 (List.mem_filter.1 hs).1
    exact ⟨t, ht, by rw [← turn_in (row_mem hl t ht) hr hp]; exact h⟩
  · rintro ⟨s, hs, h⟩
    have hm := row_mem hl s hs
    rw [← turn_in hm hr hp] at h
    refine ⟨turnS s, List.mem_filter.2 ⟨List.mem_map.2 ⟨s, hs, rfl⟩, ?_⟩, h⟩
    have h1 := span_mays hm
    cases hc : (turnS s).may with
    | true => rfl
    | false =>
      have := in_none (turn_ok h1.1).1 (turn_ok h1.2).1 (posC_may hr) (sp_not_of hc)
      rw [show (Sp.mk (turnC s.lo) (turnC s.hi)) = turnS s from rfl, h] at this
      cases this
/-- A row of Rel stays as it is. -/
theorem makeRel_self {l : List Sp} (hl : rowMay l = true) (hr : AllRight l) : makeRel l = l :=
  rel_ext (makeRel_may l) hl (makeRel_right (row_mem hl)) hr fun v hv hp => makeRel_has hl hv hp
/-- The Rel of one release. -/
def oneRel (v : Ver) : List Sp := [⟨relA v, relB v⟩]
theorem oneRel_ok {v : Ver} (hv : v.may = true) : rowMay (oneRel v) = true ∧ AllRight (oneRel v) ∧ ∀ r : Ver, r.may = true → r.pre = [] → rowHas (oneRel v) r = decide (r.code = v.code) := by
  have ha := relA_ok hv
  have hb := relB_ok hv
  have hs : (Sp.mk (relA v) (relB v)).may = true := by
    refine sp_may_of ?_
    have he : relA v ≠ endC 1 := fun e => by
      have := ha.2.2; rw [e] at this
      have h2 := (code_max hv).2
      have h3 : valC (endC 1) = 1000000000000 := rfl
      omega
    have hlt : cmpC (relA v) (endC 1) < 0 := by
      have h1 := le_last ha.1
      have h2 : cmpC (relA v) (endC 1) ≠ 0 := fun e => he ((cut_eq ha.1 last_may).1 e)
      omega
    rw [right_lt hb.1 hb.2.1 ha.1 hlt, hb.2.2]
    have hr := mu_range ha.1
    have : valC (relA v) ≤ mu (relA v) := (right_le ha.1 ha.2.1 ha.1 hlt).1 (by rw [cut_self]; decide)
    have h4 : ¬ cmpC (relB v) (relA v) ≤ 0 := fun h => by
      have := (right_le hb.1 hb.2.1 ha.1 hlt).1 h
      rw [hb.2.2] at this
      have h5 : mu (relA v) = v.code := by
        unfold relA
        split
        · rename_i hl
          rw [least_code hv, decide_eq_true_eq] at hl
          rw [hl]; rfl
        · show mu (posC (relV v)) = _
          rw [mu_pos (relV_may hv) rfl]; rfl
      omega
    have h5 : ¬ valC (relB v) ≤ mu (relA v) := fun h => h4 ((right_le hb.1 hb.2.1 ha.1 hlt).2 h)
    rw [hb.2.2] at h5
    omega
  have hrow : rowMay (oneRel v) = true := row_snoc (l := []) rfl hs (fun t ht => by simp at ht)
  have hall : AllRight (oneRel v) := fun s hs2 => by
    obtain rfl : s = _ := by simpa [oneRel] using hs2
    exact ⟨ha.2.1, hb.2.1⟩
  refine ⟨hrow, hall, fun r hr hp => ?_⟩
  rw [has_code hrow hall hr hp]
  unfold denN oneRel
  simp only [List.any_cons, List.any_nil, Bool.or_false, ha.2.2, hb.2.2]
  rw [← Bool.decide_and]
  exact decide_eq_decide.2 ⟨fun h => by omega, fun h => by omega⟩
/-- The Pre of one version with a Pre. -/
def onePre (v : Ver) : List Sp := [⟨⟨0, coreV v, false⟩, ⟨0, coreV v, true⟩⟩]
theorem onePre_ok {v : Ver} (hv : v.may = true) : rowMay (onePre v) = true ∧ ∀ w : Ver, w.may = true → rowHas (onePre v) w = decide (cmpR v w = 0) := by
  have hb := fun w hw => beside hv (w := w) hw
  have hrow : rowMay (onePre v) = true := row_snoc (l := []) rfl (hb v hv).1 (fun t ht => by simp at ht)
  refine ⟨hrow, fun w hw => ?_⟩
  unfold rowHas
  rw [hrow, Bool.true_and]
  unfold onePre
  simp only [List.any_cons, List.any_nil, Bool.or_false]
  exact (hb w hw).2
end Go.Proofs.YtgeccfdofmnphaaGreat
end
