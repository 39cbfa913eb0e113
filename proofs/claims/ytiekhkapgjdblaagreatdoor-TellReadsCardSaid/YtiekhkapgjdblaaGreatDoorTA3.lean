/-
  What the statement's proof leans on: the ways of walking, jY mathematics, and what the program's functions return; each theorem says on what conditions.
-/
import Derived.Tactics
import Derived.Lib.AppendZerosOnto
import Derived.Lib.SliceRun
import Derived.Outline
import Derived.Lib.SplitLaws
import Derived.Lib.TrimByte
import Derived.Lib.Join
import Derived.Lib.SlTrimSet
import Derived.Lib.Strings
import Derived.Test.YtiekhkapgjdblaaGreatDoorTA2
set_option maxRecDepth 1000000
set_option maxHeartbeats 8000000
set_option linter.unusedVariables false
set_option linter.unusedSimpArgs false
namespace Go.Proofs.YtiekhkapgjdblaaGreatDoor
open Go.RowKit

section
theorem putL_at {c : Cu} : ∀ {l : List Cu} (k : Nat) (hk : k < l.length), (∀ x ∈ l.take k, zO x c < 0) → zO l[k] c = 0 → kC c l = l
  | [], k, hk, _, _ => by simp at hk
  | d :: r, 0, hk, _, h => by
    have h' : zO d c = 0 := h
    unfold kC
    rw [if_neg (by omega), if_pos h']
  | d :: r, k + 1, hk, ht, h => by
    have hd : zO d c < 0 := ht d (by simp)
    unfold kC
    rw [if_pos hd, putL_at (l := r) k (by simpa using hk) (fun x hx => ht x (by simp [hx])) h]
theorem f7 {c : Cu} : ∀ {l : List Cu} (k : Nat) (hk : k ≤ l.length), (∀ x ∈ l.take k, zO x c < 0) → (∀ h : k < l.length, ¬ zO l[k] c < 0 ∧ ¬ zO l[k] c = 0) → kC c l = l.take k ++ c :: l.drop k
  | [], k, hk, _, _ => by
    obtain rfl : k = 0 := by simpa using hk
    rfl
  | d :: r, 0, hk, _, h => by
    have h' : ¬ zO d c < 0 ∧ ¬ zO d c = 0 := h (by simp)
    unfold kC
    rw [if_neg h'.1, if_neg h'.2]; rfl
  | d :: r, k + 1, hk, ht, h => by
    have hd : zO d c < 0 := ht d (by simp)
    unfold kC
    rw [if_pos hd, f7 (l := r) k (by simpa using hk) (fun x hx => ht x (by simp [hx])) (fun h0 => h (by simpa using h0))]; rfl
def jF (s : Cu) : List Value := (zC s).cells.toList
theorem xE (s : Cu) : (jF s).length = 7 := rfl
def ShortC (l : List Cu) : Prop := ∀ s ∈ l, s.short
def SlC (v : Value) (l : List Cu) (ob : List Blk) : Prop := Sl 72 7 v l.length (l.flatMap jF) ob
theorem cutInfo : (Tryz.prog.info? 72).map (fun i => (i.zero.map (·.cells.size), i.size, i.bytes)) = some (some 7, 7, 72) := by kernel_rfl
theorem cut_info : ∃ i z, Tryz.prog.info? 72 = some i ∧ i.zero = some z ∧ i.size = 7 ∧ z.cells.size = 7 ∧ i.bytes = 72 := by
  have h := cutInfo
  cases hi : Tryz.prog.info? 72 with
  | none => rw [hi] at h; cases h
  | some i =>
    rw [hi] at h
    simp only [Option.map_some, Option.some.injEq, Prod.mk.injEq] at h
    cases hz : i.zero with
    | none => rw [hz] at h; simp at h
    | some z => rw [hz] at h; simp at h; exact ⟨i, z, rfl, hz, h.2.1, h.1, h.2.2⟩
theorem bV (s : Cu) : ∀ u ∈ jF s, u.oneCell' = true := by
  intro u hu
  unfold jF zC at hu
  simp only [Value.cells, List.mem_cons, List.not_mem_nil, or_false] at hu
  rcases hu with rfl | rfl | rfl | rfl | rfl | rfl | rfl <;> rfl
theorem qE (l : List Cu) : ∀ u ∈ l.flatMap jF, u.oneCell' = true := fun u hu => by
  obtain ⟨x, _, hx⟩ := List.mem_flatMap.1 hu
  exact bV x u hx
theorem flat_drop {α : Type} {g : α → List Value} {sz : Nat} (hg : ∀ x, (g x).length = sz) (l : List α) (k : Nat) (hk : k ≤ l.length) : (l.drop k).flatMap g = (l.flatMap g).drop (k * sz) := by
  have e : l.flatMap g = (l.take k).flatMap g ++ (l.drop k).flatMap g := by rw [← List.flatMap_append, List.take_append_drop]
  have e2 : ((l.take k).flatMap g).length = k * sz := by rw [kM hg, List.length_take, Nat.min_eq_left hk]
  rw [e, ← e2, List.drop_left]
theorem flat_take {α : Type} {g : α → List Value} {sz : Nat} (hg : ∀ x, (g x).length = sz) (l : List α) (k : Nat) (hk : k ≤ l.length) : (l.take k).flatMap g = (l.flatMap g).take (k * sz) := by
  have e : l.flatMap g = (l.take k).flatMap g ++ (l.drop k).flatMap g := by rw [← List.flatMap_append, List.take_append_drop]
  have e2 : ((l.take k).flatMap g).length = k * sz := by rw [kM hg, List.length_take, Nat.min_eq_left hk]
  rw [e, ← e2, List.take_left]
theorem dH {α : Type} {g : α → List Value} {sz : Nat} (hg : ∀ x, (g x).length = sz) {cur : Array Value} {l : List α} (ht : cur.toList.take (l.length * sz) = l.flatMap g) (k : Nat) (hk : k ≤ l.length) {j : Nat} {u : Value} (hj : ((l.take k).flatMap g)[j]? = some u) : cur[0 + j]? = some u := by
  rw [flat_take hg l k hk, ← ht, List.take_take, Nat.min_eq_left (Nat.mul_le_mul_right _ hk), List.getElem?_take] at hj
  split at hj
  · rw [Nat.zero_add]; simpa using hj
  · cases hj
theorem bY {α : Type} {g : α → List Value} {sz : Nat} (hg : ∀ x, (g x).length = sz) {cur : Array Value} {l : List α} (ht : cur.toList.take (l.length * sz) = l.flatMap g) (k cap : Nat) (hk : k ≤ l.length) (hc : l.length ≤ cap) {j : Nat} {u : Value} (hj : ((l.drop k).flatMap g)[j]? = some u) : cur[(0 + if cap = k then 0 else k * sz) + j]? = some u := by
  by_cases h : cap = k
  · have : l.drop k = [] := List.drop_of_length_le (by omega)
    rw [this] at hj; simp at hj
  · rw [if_neg h, Nat.zero_add]
    rw [flat_drop hg l k hk, ← ht, List.getElem?_drop, List.getElem?_take] at hj
    split at hj
    · simpa using hj
    · cases hj
theorem Sl.to {T : TypeId} {sz : Nat} {v : Value} {n n' : Nat} {xs xs' : List Value} {ob : List Blk} (h : Sl T sz v n xs ob) (e : n = n') (e' : xs = xs') : Sl T sz v n' xs' ob := by subst e; subst e'; exact h
theorem put_any (A : Option Addr) (cap : Nat) (l : List Cu) (ob : List Blk) (c : Cu) (W : World) (hv : SlC (.slice A l.length cap) l ob) (hO : Own (ob.map Blk.b) W W ob) (h0 : 0 < l.length) (hn : l.length ≤ 3000000) (hl : ShortC l) (hc : c.short) :
    Calls Tryz.prog 133 #[.slice A l.length cap, zC c] W fun e w' => ∃ v' ob', e = .returned v' ∧ SlC v' (kC c l) ob' ∧ Own (ob.map Blk.b) W w' ob' := by
  unfold SlC at hv ⊢
  obtain ⟨g, cur, rfl, rfl, hcap, hmax, hsz, hcur⟩ := hv.block h0
  refine vY (n := 46) hO Tryz.func133 rfl (by kernel_rfl) (by kernel_rfl) (ZO (Zb (zC c) (fun b1 => Zv (.slice none 0 0) (ZR (Zv (.int .i64 0) (zL (z7 ?_)))))))
  refine z8 (zX (kH (fun L f m => ∃ (k : Nat) (j : Nat → Value), (k ≤ l.length ∧ ∀ x ∈ l.take k, zO x c < 0) ∧ L = [⟨b1, (zC c).cells, 72⟩, ⟨g, cur, 72⟩] ∧ f = jD j [(0, .slice (some ⟨g, 0, none⟩) l.length cap), (3, .pointer (some ⟨b1, 0, none⟩)), (5, .int .i64 (k : Int))] ∧ m = l.length - k) (l.length - 0) ⟨0, _, ⟨Nat.zero_le _, by simp⟩, rfl, ZU, rfl⟩ ?_))
  rintro L f m ⟨k, j, hrel, rfl, rfl, rfl⟩
  have hkl := hrel.1
  refine z8 (z8 (g7 (by kernel_rfl) (by kernel_rfl) (Zw (.int .i64 (k : Int)) (Zw (.slice (some ⟨g, 0, none⟩) l.length cap) (Zw (.int .i64 (l.length : Int)) ?_)))))
  by_cases h1 : (k : Int) < (l.length : Int)
  · have hk : k < l.length := by omega
    obtain ⟨s, hs⟩ : ∃ s, l[k] = s := ⟨_, rfl⟩
    have hsk : s.short := hs ▸ hl _ (List.getElem_mem _)
    refine Ze (p := (k : Int) < (l.length : Int)) true (decide_eq_true (h1)) (Zw (.bool true) (Zw (.slice (some ⟨g, 0, none⟩) l.length cap) (Zw (.int .i64 (k : Int)) (kL (.pointer (some ⟨g, k * 7, none⟩)) (by kernel_rfl) (qP (b := g) (off := 0) (n := l.length) (c := cap) (k := .i64) (j := (k : Int)) (e := 72) (sz := 7) rfl (by kernel_rfl) (by kernel_rfl) (by kernel_rfl) (by kernel_rfl) (by omega) (by omega) (by show 0 + k * 7 = k * 7; omega)) (jX 1 ⟨g, cur, 72⟩ (off := k * 7) (zC s) (by kernel_rfl) rfl (by kernel_rfl) (by kernel_rfl) (gT xE hcur k 0 (by omega) (by omega) _ (by rw [hs]; kernel_rfl)) (Zm 0 ⟨b1, (zC c).cells, 72⟩ (off := 0) (zC c) (Zq (k := 71) (args := #[zC s, zC c]) (.int .i64 (zO s c)) (fun w _ => qY s c w hsk hc) ?_)))))))
    by_cases h2 : (zO s c : Int) < 0
    · refine mD (p := (zO s c : Int) < 0) true (by kernel_rfl) (fun _ => by kernel_rfl) (decide_eq_true (h2)) ?_
      refine Zw (.bool true) (xP (z7 (Zt (ZB (zX (zA (Zv (.int .i64 (k : Int)) (Zu (k := .i64) (((k + 1 : Nat) : Int)) (IntWalk.i64_in _ (by omega)) (Zv (.int .i64 ((k + 1 : Nat) : Int)) (zL ?_))))))))))
      refine zR ?_
      have hnext : ∀ x ∈ l.take (k + 1), zO x c < 0 := by
        rw [List.take_succ_eq_append_getElem hk, hs]; intro x hx; rcases List.mem_append.1 hx with h | h; exact hrel.2 x h; obtain rfl : x = s := by simpa using h
        assumption
      exact zY (m' := l.length - (k + 1)) (by omega) ⟨k + 1, _, ⟨by omega, hnext⟩, rfl, ZU, rfl⟩
    refine Ze (p := (zO s c : Int) < 0) false (decide_eq_false (h2)) (Zw (.bool false) (xP (z7 (Zf (xQ (yA (y5 (zW (z7 (z8 (z8 ?_)))))))))))
    refine g7 (by kernel_rfl) (by kernel_rfl) (Zw (.int .i64 (k : Int)) (Zw (.slice (some ⟨g, 0, none⟩) l.length cap) (Zw (.int .i64 (l.length : Int)) (Ze (p := (k : Int) < (l.length : Int)) true (decide_eq_true (h1)) (Zw (.bool true) (Zw (.slice (some ⟨g, 0, none⟩) l.length cap) (Zw (.int .i64 (k : Int)) (kL (.pointer (some ⟨g, k * 7, none⟩)) (by kernel_rfl) (qP (b := g) (off := 0) (n := l.length) (c := cap) (k := .i64) (j := (k : Int)) (e := 72) (sz := 7) rfl (by kernel_rfl) (by kernel_rfl) (by kernel_rfl) (by kernel_rfl) (by omega) (by omega) (by show 0 + k * 7 = k * 7; omega)) (jX 1 ⟨g, cur, 72⟩ (off := k * 7) (zC s) (by kernel_rfl) rfl (by kernel_rfl) (by kernel_rfl) (gT xE hcur k 0 (by omega) (by omega) _ (by rw [hs]; kernel_rfl)) (Zm 0 ⟨b1, (zC c).cells, 72⟩ (off := 0) (zC c) (Zq (k := 71) (args := #[zC s, zC c]) (.int .i64 (zO s c)) (fun w _ => qY s c w hsk hc) ?_)))))))))))
    by_cases h3 : (zO s c : Int) = 0
    · refine mD (p := (zO s c : Int) = 0) true (by kernel_rfl) (fun _ => by kernel_rfl) (decide_eq_true (h3)) ?_
      refine Zw (.bool true) (xP (z7 (Zt (ZO (Zv (.slice (some ⟨g, 0, none⟩) l.length cap) (Zv (.slice (some ⟨g, 0, none⟩) l.length cap) (ZN (zB (z6 ?_)))))))))
      refine ZF (.slice (some ⟨g, 0, none⟩) l.length cap) Tryz.results133 (fun w hO => ⟨_, [⟨g, cur, 72⟩], rfl, ?_, Own.take hO (fun x hx => by simp only [List.mem_singleton] at hx; subst hx; simp) (by simp)⟩)
      rw [putL_at k hk hrel.2 (by rw [hs]; assumption)]; exact hv
    refine Ze (p := (zO s c : Int) = 0) false (decide_eq_false (h3)) (Zw (.bool false) (xP (z7 (Zf (ZB (z8 ?_))))))
    obtain ⟨i, z, e1, e2, e3, e4, e5⟩ := cut_info
    refine bN [⟨b1, (zC c).cells, 72⟩, ⟨g, cur, 72⟩] (by kernel_rfl) (fun w hO => hO) (yP 0 _ (.slice (some ⟨g, 0, none⟩) l.length cap) rfl (by kernel_rfl) (by kernel_rfl) (by kernel_rfl) (zJ zU) (fun w hO => hO) (by kernel_rfl) (fun _ _ => by kernel_rfl) (yP 1 _ (.int .i64 (k : Int)) rfl (by kernel_rfl) (by kernel_rfl) (by kernel_rfl) (zJ zU) (fun w hO => hO) (by kernel_rfl) (fun _ _ => by kernel_rfl) (yP 2 _ (.slice (some ⟨g, 0, none⟩) k cap) rfl (by kernel_rfl) (by kernel_rfl) (by kernel_rfl) (zJ zU) (fun w hO => hO) (by kernel_rfl) (fun w _ => run_slhi (b := g) (off := 0) (n := l.length) (c := cap) (k := .i64) (j := (k : Int)) (e := 72) (sz := 7) rfl (by kernel_rfl) (by kernel_rfl) (by kernel_rfl) (by kernel_rfl) (by omega) (by omega) w) (hl_load 4 _ 0 ⟨b1, (zC c).cells, 72⟩ (off := 0) (zC c) rfl (by kernel_rfl) (by kernel_rfl) (by kernel_rfl) (zJ zU) (fun w hO => hO) (by kernel_rfl) rfl rfl (by kernel_rfl) (by kernel_rfl) (yP 7 _ (.slice (some ⟨g, 0, none⟩) l.length cap) rfl (by kernel_rfl) (by kernel_rfl) (by kernel_rfl) (zJ zU) (fun w hO => hO) (by kernel_rfl) (fun _ _ => by kernel_rfl) (yP 8 _ (.int .i64 (k : Int)) rfl (by kernel_rfl) (by kernel_rfl) (by kernel_rfl) (zJ zU) (fun w hO => hO) (by kernel_rfl) (fun _ _ => by kernel_rfl) (yP 9 _ (.slice (some ⟨g, 0 + (if cap = k then 0 else k * 7), none⟩) (l.length - k) (cap - k)) rfl (by kernel_rfl) (by kernel_rfl) (by kernel_rfl) (zJ zU) (fun w hO => hO) (by kernel_rfl) (fun w _ => run_sllo (b := g) (off := 0) (n := l.length) (c := cap) (k := .i64) (j := (k : Int)) (e := 72) (sz := 7) rfl (by kernel_rfl) (by kernel_rfl) (by kernel_rfl) (by kernel_rfl) (by omega) (by omega) w) (fC (L' := [] ++ [] ++ [⟨b1, (zC c).cells, 72⟩, ⟨g, cur, 72⟩]) rfl (h_two 3 5 (by kernel_rfl) ?_ ?_)))))))))
    · refine kX (E := []) (ob := []) (R := [⟨b1, (zC c).cells, 72⟩, ⟨g, cur, 72⟩]) (sz := 7) _ rfl (by kernel_rfl) rfl Tryz.underlying120 e1 e2 e3 e4 (by kernel_rfl) (Sl.nil 72 7) (a := ⟨g, 0, none⟩) (m := k) (c := cap) (news := (l.take k).flatMap jF) (by kernel_rfl) (by rw [kM xE, List.length_take, Nat.min_eq_left (by omega)]) (fun w hO j u hj => ?_) (qE _) (by unfold maxLen; omega) (by rw [e5]; omega) (fun ob' w hO => Own.sub ([] ++ ob') hO) (fun va oa hva => ?_)
      · rw [yM, cell_of_row w g (0 + j) cur 72 _ (hO.held ⟨g, cur, 72⟩ (by simp))]; exact dH xE hcur k (by omega) hj
      refine gJ 5 (by kernel_rfl) (hl_lit _ 72 #[.int .i64 c.e, .int .i64 c.v.maj, .int .i64 c.v.min, .int .i64 c.v.pat, .string (mkS c.v.pre), .string (mkS c.v.build), .bool c.aft] rfl (by kernel_rfl) rfl (fun w hO => Own.sub ([] ++ oa) hO) (fun _ => by kernel_rfl) (fun b2 => fC (L' := [⟨b2, #[.int .i64 c.e, .int .i64 c.v.maj, .int .i64 c.v.min, .int .i64 c.v.pat, .string (mkS c.v.pre), .string (mkS c.v.build), .bool c.aft], 72⟩] ++ oa ++ [⟨b1, (zC c).cells, 72⟩, ⟨g, cur, 72⟩]) (by simp) (gJ 6 (by kernel_rfl) (kX (E := [⟨b2, #[.int .i64 c.e, .int .i64 c.v.maj, .int .i64 c.v.min, .int .i64 c.v.pat, .string (mkS c.v.pre), .string (mkS c.v.build), .bool c.aft], 72⟩]) (ob := oa) (R := [⟨b1, (zC c).cells, 72⟩, ⟨g, cur, 72⟩]) (sz := 7) _ rfl (by kernel_rfl) rfl Tryz.underlying120 e1 e2 e3 e4 (by kernel_rfl) hva (a := ⟨b2, 0, none⟩) (m := 1) (c := 1) (news := jF c) (by kernel_rfl) (rfl) (fun w hO j u hj => ?_) (bV _) (by unfold maxLen; omega) (by rw [e5]; omega) (fun ob' w hO => Own.sub ([⟨b2, #[.int .i64 c.e, .int .i64 c.v.maj, .int .i64 c.v.min, .int .i64 c.v.pat, .string (mkS c.v.pre), .string (mkS c.v.build), .bool c.aft], 72⟩] ++ ob') hO) (fun vb oq hvb => ?_)))))
      · rw [yM, cell_of_row w b2 (0 + j) (jF c).toArray 72 _ (hO.held ⟨b2, (jF c).toArray, 72⟩ (List.mem_append_left _ (List.mem_append_left _ (List.mem_cons_self ..))))]; simpa using hj
      refine gJ 10 (by kernel_rfl) (kX (E := [⟨b2, #[.int .i64 c.e, .int .i64 c.v.maj, .int .i64 c.v.min, .int .i64 c.v.pat, .string (mkS c.v.pre), .string (mkS c.v.build), .bool c.aft], 72⟩]) (ob := oq) (R := [⟨b1, (zC c).cells, 72⟩, ⟨g, cur, 72⟩]) (sz := 7) _ rfl (by kernel_rfl) rfl Tryz.underlying120 e1 e2 e3 e4 (by kernel_rfl) hvb (a := ⟨g, 0 + (if cap = k then 0 else k * 7), none⟩) (m := l.length - k) (c := cap - k) (news := (l.drop k).flatMap jF) (by kernel_rfl) (by rw [kM xE, List.length_drop]) (fun w hO j u hj => ?_) (qE _) (by unfold maxLen; omega) (by rw [e5]; omega) (fun ob' w hO => Own.sub ([⟨b2, #[.int .i64 c.e, .int .i64 c.v.maj, .int .i64 c.v.min, .int .i64 c.v.pat, .string (mkS c.v.pre), .string (mkS c.v.build), .bool c.aft], 72⟩] ++ ob') hO) (fun vc oc hvc => ?_))
      · rw [yM, cell_of_row w g _ cur 72 _ (hO.held ⟨g, cur, 72⟩ (by simp))]; exact bY xE hcur k cap (by omega) hcap hj
      refine yP 11 _ vc rfl (by kernel_rfl) (by kernel_rfl) (by kernel_rfl) (zJ zU) (fun w hO => Own.sub ([⟨b2, #[.int .i64 c.e, .int .i64 c.v.maj, .int .i64 c.v.min, .int .i64 c.v.pat, .string (mkS c.v.pre), .string (mkS c.v.build), .bool c.aft], 72⟩] ++ oc) hO) (by kernel_rfl) (fun _ _ => by kernel_rfl) (wC (by kernel_rfl) (z7 (zB (ZF (vc) Tryz.results133 (fun w hO => ⟨vc, oc, rfl, ?_, Own.take hO (fun x hx => List.mem_append_left _ (List.mem_append_right _ hx)) ?_⟩)))))
      · rw [f7 k (by omega) hrel.2 (fun h => by first | omega | (rw [hs]; exact ⟨by assumption, by assumption⟩))]
        exact hvc.to (by simp; omega) (by simp)
      · have := hO.apart; rw [List.map_append, List.map_append, List.nodup_append] at this; exact (List.nodup_append.1 this.1).2.1
    refine hl_lit _ 72 #[.int .i64 c.e, .int .i64 c.v.maj, .int .i64 c.v.min, .int .i64 c.v.pat, .string (mkS c.v.pre), .string (mkS c.v.build), .bool c.aft] rfl (by kernel_rfl) rfl (fun w hO => hO) (fun _ => by kernel_rfl) (fun b2 => fC (L' := [⟨b2, #[.int .i64 c.e, .int .i64 c.v.maj, .int .i64 c.v.min, .int .i64 c.v.pat, .string (mkS c.v.pre), .string (mkS c.v.build), .bool c.aft], 72⟩] ++ [] ++ [⟨b1, (zC c).cells, 72⟩, ⟨g, cur, 72⟩]) rfl (gJ 3 (by kernel_rfl) (kX (E := [⟨b2, #[.int .i64 c.e, .int .i64 c.v.maj, .int .i64 c.v.min, .int .i64 c.v.pat, .string (mkS c.v.pre), .string (mkS c.v.build), .bool c.aft], 72⟩]) (ob := []) (R := [⟨b1, (zC c).cells, 72⟩, ⟨g, cur, 72⟩]) (sz := 7) _ rfl (by kernel_rfl) rfl Tryz.underlying120 e1 e2 e3 e4 (by kernel_rfl) (Sl.nil 72 7) (a := ⟨g, 0, none⟩) (m := k) (c := cap) (news := (l.take k).flatMap jF) (by kernel_rfl) (by rw [kM xE, List.length_take, Nat.min_eq_left (by omega)]) (fun w hO j u hj => ?_) (qE _) (by unfold maxLen; omega) (by rw [e5]; omega) (fun ob' w hO => Own.sub ([⟨b2, #[.int .i64 c.e, .int .i64 c.v.maj, .int .i64 c.v.min, .int .i64 c.v.pat, .string (mkS c.v.pre), .string (mkS c.v.build), .bool c.aft], 72⟩] ++ ob') hO) (fun va oa hva => ?_))))
    · rw [yM, cell_of_row w g (0 + j) cur 72 _ (hO.held ⟨g, cur, 72⟩ (by simp))]; exact dH xE hcur k (by omega) hj
    refine gJ 6 (by kernel_rfl) (kX (E := [⟨b2, #[.int .i64 c.e, .int .i64 c.v.maj, .int .i64 c.v.min, .int .i64 c.v.pat, .string (mkS c.v.pre), .string (mkS c.v.build), .bool c.aft], 72⟩]) (ob := oa) (R := [⟨b1, (zC c).cells, 72⟩, ⟨g, cur, 72⟩]) (sz := 7) _ rfl (by kernel_rfl) rfl Tryz.underlying120 e1 e2 e3 e4 (by kernel_rfl) hva (a := ⟨b2, 0, none⟩) (m := 1) (c := 1) (news := jF c) (by kernel_rfl) (rfl) (fun w hO j u hj => ?_) (bV _) (by unfold maxLen; omega) (by rw [e5]; omega) (fun ob' w hO => Own.sub ([⟨b2, #[.int .i64 c.e, .int .i64 c.v.maj, .int .i64 c.v.min, .int .i64 c.v.pat, .string (mkS c.v.pre), .string (mkS c.v.build), .bool c.aft], 72⟩] ++ ob') hO) (fun vb oq hvb => ?_))
    · rw [yM, cell_of_row w b2 (0 + j) (jF c).toArray 72 _ (hO.held ⟨b2, (jF c).toArray, 72⟩ (List.mem_append_left _ (List.mem_append_left _ (List.mem_cons_self ..))))]; simpa using hj
    refine gJ 10 (by kernel_rfl) (kX (E := [⟨b2, #[.int .i64 c.e, .int .i64 c.v.maj, .int .i64 c.v.min, .int .i64 c.v.pat, .string (mkS c.v.pre), .string (mkS c.v.build), .bool c.aft], 72⟩]) (ob := oq) (R := [⟨b1, (zC c).cells, 72⟩, ⟨g, cur, 72⟩]) (sz := 7) _ rfl (by kernel_rfl) rfl Tryz.underlying120 e1 e2 e3 e4 (by kernel_rfl) hvb (a := ⟨g, 0 + (if cap = k then 0 else k * 7), none⟩) (m := l.length - k) (c := cap - k) (news := (l.drop k).flatMap jF) (by kernel_rfl) (by rw [kM xE, List.length_drop]) (fun w hO j u hj => ?_) (qE _) (by unfold maxLen; omega) (by rw [e5]; omega) (fun ob' w hO => Own.sub ([⟨b2, #[.int .i64 c.e, .int .i64 c.v.maj, .int .i64 c.v.min, .int .i64 c.v.pat, .string (mkS c.v.pre), .string (mkS c.v.build), .bool c.aft], 72⟩] ++ ob') hO) (fun vc oc hvc => ?_))
    · rw [yM, cell_of_row w g _ cur 72 _ (hO.held ⟨g, cur, 72⟩ (by simp))]; exact bY xE hcur k cap (by omega) hcap hj
    refine yP 11 _ vc rfl (by kernel_rfl) (by kernel_rfl) (by kernel_rfl) (zJ zU) (fun w hO => Own.sub ([⟨b2, #[.int .i64 c.e, .int .i64 c.v.maj, .int .i64 c.v.min, .int .i64 c.v.pat, .string (mkS c.v.pre), .string (mkS c.v.build), .bool c.aft], 72⟩] ++ oc) hO) (by kernel_rfl) (fun _ _ => by kernel_rfl) (wC (by kernel_rfl) (z7 (zB (ZF (vc) Tryz.results133 (fun w hO => ⟨vc, oc, rfl, ?_, Own.take hO (fun x hx => List.mem_append_left _ (List.mem_append_right _ hx)) ?_⟩)))))
    · rw [f7 k (by omega) hrel.2 (fun h => by first | omega | (rw [hs]; exact ⟨by assumption, by assumption⟩))]
      exact hvc.to (by simp; omega) (by simp)
    · have := hO.apart; rw [List.map_append, List.map_append, List.nodup_append] at this; exact (List.nodup_append.1 this.1).2.1
  refine Ze (p := (k : Int) < (l.length : Int)) false (decide_eq_false (h1)) (Zw (.bool false) (Zj (Zj (Zj (Zj (Zj (Zj (Zj (Zw (.bool false) (xP (z7 ?_)))))))))))
  refine Zf (xQ (yA (y5 (zW (z7 (z8 (z8 (g7 (by kernel_rfl) (by kernel_rfl) (Zw (.int .i64 (k : Int)) (Zw (.slice (some ⟨g, 0, none⟩) l.length cap) (Zw (.int .i64 (l.length : Int)) ?_)))))))))))
  refine Ze (p := (k : Int) < (l.length : Int)) false (decide_eq_false (h1)) (Zw (.bool false) (Zj (Zj (Zj (Zj (Zj (Zj (Zj (Zw (.bool false) (xP (z7 ?_)))))))))))
  refine Zf (ZB (z8 ?_))
  obtain ⟨i, z, e1, e2, e3, e4, e5⟩ := cut_info
  refine bN [⟨b1, (zC c).cells, 72⟩, ⟨g, cur, 72⟩] (by kernel_rfl) (fun w hO => hO) (yP 0 _ (.slice (some ⟨g, 0, none⟩) l.length cap) rfl (by kernel_rfl) (by kernel_rfl) (by kernel_rfl) (zJ zU) (fun w hO => hO) (by kernel_rfl) (fun _ _ => by kernel_rfl) (yP 1 _ (.int .i64 (k : Int)) rfl (by kernel_rfl) (by kernel_rfl) (by kernel_rfl) (zJ zU) (fun w hO => hO) (by kernel_rfl) (fun _ _ => by kernel_rfl) (yP 2 _ (.slice (some ⟨g, 0, none⟩) k cap) rfl (by kernel_rfl) (by kernel_rfl) (by kernel_rfl) (zJ zU) (fun w hO => hO) (by kernel_rfl) (fun w _ => run_slhi (b := g) (off := 0) (n := l.length) (c := cap) (k := .i64) (j := (k : Int)) (e := 72) (sz := 7) rfl (by kernel_rfl) (by kernel_rfl) (by kernel_rfl) (by kernel_rfl) (by omega) (by omega) w) (hl_load 4 _ 0 ⟨b1, (zC c).cells, 72⟩ (off := 0) (zC c) rfl (by kernel_rfl) (by kernel_rfl) (by kernel_rfl) (zJ zU) (fun w hO => hO) (by kernel_rfl) rfl rfl (by kernel_rfl) (by kernel_rfl) (yP 7 _ (.slice (some ⟨g, 0, none⟩) l.length cap) rfl (by kernel_rfl) (by kernel_rfl) (by kernel_rfl) (zJ zU) (fun w hO => hO) (by kernel_rfl) (fun _ _ => by kernel_rfl) (yP 8 _ (.int .i64 (k : Int)) rfl (by kernel_rfl) (by kernel_rfl) (by kernel_rfl) (zJ zU) (fun w hO => hO) (by kernel_rfl) (fun _ _ => by kernel_rfl) (yP 9 _ (.slice (some ⟨g, 0 + (if cap = k then 0 else k * 7), none⟩) (l.length - k) (cap - k)) rfl (by kernel_rfl) (by kernel_rfl) (by kernel_rfl) (zJ zU) (fun w hO => hO) (by kernel_rfl) (fun w _ => run_sllo (b := g) (off := 0) (n := l.length) (c := cap) (k := .i64) (j := (k : Int)) (e := 72) (sz := 7) rfl (by kernel_rfl) (by kernel_rfl) (by kernel_rfl) (by kernel_rfl) (by omega) (by omega) w) (fC (L' := [] ++ [] ++ [⟨b1, (zC c).cells, 72⟩, ⟨g, cur, 72⟩]) rfl (h_two 3 5 (by kernel_rfl) ?_ ?_)))))))))
  · refine kX (E := []) (ob := []) (R := [⟨b1, (zC c).cells, 72⟩, ⟨g, cur, 72⟩]) (sz := 7) _ rfl (by kernel_rfl) rfl Tryz.underlying120 e1 e2 e3 e4 (by kernel_rfl) (Sl.nil 72 7) (a := ⟨g, 0, none⟩) (m := k) (c := cap) (news := (l.take k).flatMap jF) (by kernel_rfl) (by rw [kM xE, List.length_take, Nat.min_eq_left (by omega)]) (fun w hO j u hj => ?_) (qE _) (by unfold maxLen; omega) (by rw [e5]; omega) (fun ob' w hO => Own.sub ([] ++ ob') hO) (fun va oa hva => ?_)
    · rw [yM, cell_of_row w g (0 + j) cur 72 _ (hO.held ⟨g, cur, 72⟩ (by simp))]; exact dH xE hcur k (by omega) hj
    refine gJ 5 (by kernel_rfl) (hl_lit _ 72 #[.int .i64 c.e, .int .i64 c.v.maj, .int .i64 c.v.min, .int .i64 c.v.pat, .string (mkS c.v.pre), .string (mkS c.v.build), .bool c.aft] rfl (by kernel_rfl) rfl (fun w hO => Own.sub ([] ++ oa) hO) (fun _ => by kernel_rfl) (fun b2 => fC (L' := [⟨b2, #[.int .i64 c.e, .int .i64 c.v.maj, .int .i64 c.v.min, .int .i64 c.v.pat, .string (mkS c.v.pre), .string (mkS c.v.build), .bool c.aft], 72⟩] ++ oa ++ [⟨b1, (zC c).cells, 72⟩, ⟨g, cur, 72⟩]) (by simp) (gJ 6 (by kernel_rfl) (kX (E := [⟨b2, #[.int .i64 c.e, .int .i64 c.v.maj, .int .i64 c.v.min, .int .i64 c.v.pat, .string (mkS c.v.pre), .string (mkS c.v.build), .bool c.aft], 72⟩]) (ob := oa) (R := [⟨b1, (zC c).cells, 72⟩, ⟨g, cur, 72⟩]) (sz := 7) _ rfl (by kernel_rfl) rfl Tryz.underlying120 e1 e2 e3 e4 (by kernel_rfl) hva (a := ⟨b2, 0, none⟩) (m := 1) (c := 1) (news := jF c) (by kernel_rfl) (rfl) (fun w hO j u hj => ?_) (bV _) (by unfold maxLen; omega) (by rw [e5]; omega) (fun ob' w hO => Own.sub ([⟨b2, #[.int .i64 c.e, .int .i64 c.v.maj, .int .i64 c.v.min, .int .i64 c.v.pat, .string (mkS c.v.pre), .string (mkS c.v.build), .bool c.aft], 72⟩] ++ ob') hO) (fun vb oq hvb => ?_)))))
    · rw [yM, cell_of_row w b2 (0 + j) (jF c).toArray 72 _ (hO.held ⟨b2, (jF c).toArray, 72⟩ (List.mem_append_left _ (List.mem_append_left _ (List.mem_cons_self ..))))]; simpa using hj
    refine gJ 10 (by kernel_rfl) (kX (E := [⟨b2, #[.int .i64 c.e, .int .i64 c.v.maj, .int .i64 c.v.min, .int .i64 c.v.pat, .string (mkS c.v.pre), .string (mkS c.v.build), .bool c.aft], 72⟩]) (ob := oq) (R := [⟨b1, (zC c).cells, 72⟩, ⟨g, cur, 72⟩]) (sz := 7) _ rfl (by kernel_rfl) rfl Tryz.underlying120 e1 e2 e3 e4 (by kernel_rfl) hvb (a := ⟨g, 0 + (if cap = k then 0 else k * 7), none⟩) (m := l.length - k) (c := cap - k) (news := (l.drop k).flatMap jF) (by kernel_rfl) (by rw [kM xE, List.length_drop]) (fun w hO j u hj => ?_) (qE _) (by unfold maxLen; omega) (by rw [e5]; omega) (fun ob' w hO => Own.sub ([⟨b2, #[.int .i64 c.e, .int .i64 c.v.maj, .int .i64 c.v.min, .int .i64 c.v.pat, .string (mkS c.v.pre), .string (mkS c.v.build), .bool c.aft], 72⟩] ++ ob') hO) (fun vc oc hvc => ?_))
    · rw [yM, cell_of_row w g _ cur 72 _ (hO.held ⟨g, cur, 72⟩ (by simp))]; exact bY xE hcur k cap (by omega) hcap hj
    refine yP 11 _ vc rfl (by kernel_rfl) (by kernel_rfl) (by kernel_rfl) (zJ zU) (fun w hO => Own.sub ([⟨b2, #[.int .i64 c.e, .int .i64 c.v.maj, .int .i64 c.v.min, .int .i64 c.v.pat, .string (mkS c.v.pre), .string (mkS c.v.build), .bool c.aft], 72⟩] ++ oc) hO) (by kernel_rfl) (fun _ _ => by kernel_rfl) (wC (by kernel_rfl) (z7 (zB (ZF (vc) Tryz.results133 (fun w hO => ⟨vc, oc, rfl, ?_, Own.take hO (fun x hx => List.mem_append_left _ (List.mem_append_right _ hx)) ?_⟩)))))
    · rw [f7 k (by omega) hrel.2 (fun h => by first | omega | (rw [hs]; exact ⟨by assumption, by assumption⟩))]
      exact hvc.to (by simp; omega) (by simp)
    · have := hO.apart; rw [List.map_append, List.map_append, List.nodup_append] at this; exact (List.nodup_append.1 this.1).2.1
  refine hl_lit _ 72 #[.int .i64 c.e, .int .i64 c.v.maj, .int .i64 c.v.min, .int .i64 c.v.pat, .string (mkS c.v.pre), .string (mkS c.v.build), .bool c.aft] rfl (by kernel_rfl) rfl (fun w hO => hO) (fun _ => by kernel_rfl) (fun b2 => fC (L' := [⟨b2, #[.int .i64 c.e, .int .i64 c.v.maj, .int .i64 c.v.min, .int .i64 c.v.pat, .string (mkS c.v.pre), .string (mkS c.v.build), .bool c.aft], 72⟩] ++ [] ++ [⟨b1, (zC c).cells, 72⟩, ⟨g, cur, 72⟩]) rfl (gJ 3 (by kernel_rfl) (kX (E := [⟨b2, #[.int .i64 c.e, .int .i64 c.v.maj, .int .i64 c.v.min, .int .i64 c.v.pat, .string (mkS c.v.pre), .string (mkS c.v.build), .bool c.aft], 72⟩]) (ob := []) (R := [⟨b1, (zC c).cells, 72⟩, ⟨g, cur, 72⟩]) (sz := 7) _ rfl (by kernel_rfl) rfl Tryz.underlying120 e1 e2 e3 e4 (by kernel_rfl) (Sl.nil 72 7) (a := ⟨g, 0, none⟩) (m := k) (c := cap) (news := (l.take k).flatMap jF) (by kernel_rfl) (by rw [kM xE, List.length_take, Nat.min_eq_left (by omega)]) (fun w hO j u hj => ?_) (qE _) (by unfold maxLen; omega) (by rw [e5]; omega) (fun ob' w hO => Own.sub ([⟨b2, #[.int .i64 c.e, .int .i64 c.v.maj, .int .i64 c.v.min, .int .i64 c.v.pat, .string (mkS c.v.pre), .string (mkS c.v.build), .bool c.aft], 72⟩] ++ ob') hO) (fun va oa hva => ?_))))
  · rw [yM, cell_of_row w g (0 + j) cur 72 _ (hO.held ⟨g, cur, 72⟩ (by simp))]; exact dH xE hcur k (by omega) hj
  refine gJ 6 (by kernel_rfl) (kX (E := [⟨b2, #[.int .i64 c.e, .int .i64 c.v.maj, .int .i64 c.v.min, .int .i64 c.v.pat, .string (mkS c.v.pre), .string (mkS c.v.build), .bool c.aft], 72⟩]) (ob := oa) (R := [⟨b1, (zC c).cells, 72⟩, ⟨g, cur, 72⟩]) (sz := 7) _ rfl (by kernel_rfl) rfl Tryz.underlying120 e1 e2 e3 e4 (by kernel_rfl) hva (a := ⟨b2, 0, none⟩) (m := 1) (c := 1) (news := jF c) (by kernel_rfl) (rfl) (fun w hO j u hj => ?_) (bV _) (by unfold maxLen; omega) (by rw [e5]; omega) (fun ob' w hO => Own.sub ([⟨b2, #[.int .i64 c.e, .int .i64 c.v.maj, .int .i64 c.v.min, .int .i64 c.v.pat, .string (mkS c.v.pre), .string (mkS c.v.build), .bool c.aft], 72⟩] ++ ob') hO) (fun vb oq hvb => ?_))
  · rw [yM, cell_of_row w b2 (0 + j) (jF c).toArray 72 _ (hO.held ⟨b2, (jF c).toArray, 72⟩ (List.mem_append_left _ (List.mem_append_left _ (List.mem_cons_self ..))))]; simpa using hj
  refine gJ 10 (by kernel_rfl) (kX (E := [⟨b2, #[.int .i64 c.e, .int .i64 c.v.maj, .int .i64 c.v.min, .int .i64 c.v.pat, .string (mkS c.v.pre), .string (mkS c.v.build), .bool c.aft], 72⟩]) (ob := oq) (R := [⟨b1, (zC c).cells, 72⟩, ⟨g, cur, 72⟩]) (sz := 7) _ rfl (by kernel_rfl) rfl Tryz.underlying120 e1 e2 e3 e4 (by kernel_rfl) hvb (a := ⟨g, 0 + (if cap = k then 0 else k * 7), none⟩) (m := l.length - k) (c := cap - k) (news := (l.drop k).flatMap jF) (by kernel_rfl) (by rw [kM xE, List.length_drop]) (fun w hO j u hj => ?_) (qE _) (by unfold maxLen; omega) (by rw [e5]; omega) (fun ob' w hO => Own.sub ([⟨b2, #[.int .i64 c.e, .int .i64 c.v.maj, .int .i64 c.v.min, .int .i64 c.v.pat, .string (mkS c.v.pre), .string (mkS c.v.build), .bool c.aft], 72⟩] ++ ob') hO) (fun vc oc hvc => ?_))
  · rw [yM, cell_of_row w g _ cur 72 _ (hO.held ⟨g, cur, 72⟩ (by simp))]; exact bY xE hcur k cap (by omega) hcap hj
  refine yP 11 _ vc rfl (by kernel_rfl) (by kernel_rfl) (by kernel_rfl) (zJ zU) (fun w hO => Own.sub ([⟨b2, #[.int .i64 c.e, .int .i64 c.v.maj, .int .i64 c.v.min, .int .i64 c.v.pat, .string (mkS c.v.pre), .string (mkS c.v.build), .bool c.aft], 72⟩] ++ oc) hO) (by kernel_rfl) (fun _ _ => by kernel_rfl) (wC (by kernel_rfl) (z7 (zB (ZF (vc) Tryz.results133 (fun w hO => ⟨vc, oc, rfl, ?_, Own.take hO (fun x hx => List.mem_append_left _ (List.mem_append_right _ hx)) ?_⟩)))))
  · rw [f7 k (by omega) hrel.2 (fun h => by first | omega | (rw [hs]; exact ⟨by assumption, by assumption⟩))]
    exact hvc.to (by simp; omega) (by simp)
  · have := hO.apart; rw [List.map_append, List.map_append, List.nodup_append] at this; exact (List.nodup_append.1 this.1).2.1
end
section
theorem Own.lend {M : List Nat} {W w : World} {L : List Blk} (h : Own M W w L) : Own (L.map Blk.b) w w L :=
  ⟨rfl, rfl, rfl, Nat.le_refl _, Nat.le_refl _, fun _ _ _ => rfl, h.held, fun x hx => .inr (List.mem_map.2 ⟨x, hx, rfl⟩), h.apart⟩
theorem SlC.form {v : Value} {l : List Cu} {ob : List Blk} (h : SlC v l ob) : ∃ A cap, v = .slice A l.length cap := by
  rcases h.2 with ⟨h1, h2, _⟩ | ⟨g, cap, cur, h1, _⟩
  · exact ⟨none, 0, by rw [h1, h2]⟩
  · exact ⟨_, cap, h1⟩
theorem put_call {M : List Nat} {W w : World} {v : Value} {l : List Cu} {ob : List Blk} (c : Cu) (hO : Own M W w ob) (hv : SlC v l ob) (h0 : 0 < l.length) (hn : l.length ≤ 3000000) (hl : ShortC l) (hc : c.short) :
    Calls Tryz.prog 133 #[v, zC c] w fun e w' => ∃ v' ob', e = .returned v' ∧ SlC v' (kC c l) ob' ∧ Own M W w' ob' := by
  obtain ⟨A, cap, rfl⟩ := hv.form
  refine (put_any A cap l ob c w hv hO.lend h0 hn hl hc).mono fun e w' ⟨v', ob', h1, h2, h3⟩ => ⟨v', ob', h1, h2, ?_⟩
  have := Own.join (R := []) (by simpa using hO) h3
  simpa using this
theorem p7 (c : Cu) : ∀ (l : List Cu), (kC c l).length ≤ l.length + 1 ∧ 0 < (kC c l).length
  | [] => ⟨by simp [kC], by simp [kC]⟩
  | d :: r => by
    have ih := p7 c r
    unfold kC
    split
    · simp; omega
    · split <;> simp
theorem mW {c : Cu} (hc : c.short) {l : List Cu} (hl : ShortC l) : ShortC (kC c l) := fun x hx => by
  rcases putL_mem c l x hx with rfl | h
  · exact hc
  · exact hl x h
theorem cuts_step (l : List Sp) (k : Nat) (hk : k < l.length) : g9 (l.take (k + 1)) = kC l[k].hi (kC l[k].lo (g9 (l.take k))) := by
  unfold g9
  rw [List.take_succ_eq_append_getElem hk, List.foldl_append]; rfl
theorem hX (l : List Sp) (hl : yL l) : ∀ (k : Nat), k ≤ l.length → (g9 (l.take k)).length ≤ 2 + 2 * k ∧ 0 < (g9 (l.take k)).length ∧ ShortC (g9 (l.take k))
  | 0, _ => ⟨by simp [g9], by simp [g9], fun x hx => by
      simp only [g9, List.take_zero, List.foldl_nil, List.mem_cons, List.not_mem_nil, or_false] at hx
      rcases hx with rfl | rfl <;> exact ⟨by simp [zQ, Ver.zero], by simp [zQ, Ver.zero]⟩⟩
  | k + 1, h => by
    have ih := hX l hl k (by omega)
    have hs := hl l[k] (List.getElem_mem _)
    rw [cuts_step l k h]
    have e1 := p7 l[k].lo (g9 (l.take k))
    have e2 := p7 l[k].hi (kC l[k].lo (g9 (l.take k)))
    exact ⟨by omega, e2.2, mW hs.2 (mW hs.1 ih.2.2)⟩
theorem mR (W : World) : Calls Tryz.prog 62 #[] W fun e w' => e = .returned (zC (zQ (-1))) ∧ Below W.heap.size W w' := by
  refine zM (n := 2) Tryz.func62 rfl (by kernel_rfl) (by kernel_rfl) (ZO (Za (.agg #[.int .i64 0, .int .i64 0, .int .i64 0, .int .i64 0, .string ⟨#[]⟩, .string ⟨#[]⟩, .bool false]) (fun b1 => ZR (Zv (.agg #[.int .i64 (-1), .int .i64 0, .int .i64 0, .int .i64 0, .string ⟨#[]⟩, .string ⟨#[]⟩, .bool false]) (Zs 0 ⟨b1, #[.int .i64 0, .int .i64 0, .int .i64 0, .int .i64 0, .string ⟨#[]⟩, .string ⟨#[]⟩, .bool false], 72⟩ (off := 0) (.agg #[.int .i64 (-1), .int .i64 0, .int .i64 0, .int .i64 0, .string ⟨#[]⟩, .string ⟨#[]⟩, .bool false]) (zL (z7 ?_)))))))
  exact zB (ZC 0 ⟨b1, #[.int .i64 (-1), .int .i64 0, .int .i64 0, .int .i64 0, .string ⟨#[]⟩, .string ⟨#[]⟩, .bool false], 72⟩ (off := 0) (.agg #[.int .i64 (-1), .int .i64 0, .int .i64 0, .int .i64 0, .string ⟨#[]⟩, .string ⟨#[]⟩, .bool false]) Tryz.results62 (fun w hO => ⟨rfl, hO.below⟩))
theorem pY (W : World) : Calls Tryz.prog 63 #[] W fun e w' => e = .returned (zC (zQ (1))) ∧ Below W.heap.size W w' := by
  refine zM (n := 2) Tryz.func63 rfl (by kernel_rfl) (by kernel_rfl) (ZO (Za (.agg #[.int .i64 0, .int .i64 0, .int .i64 0, .int .i64 0, .string ⟨#[]⟩, .string ⟨#[]⟩, .bool false]) (fun b1 => ZR (Zv (.agg #[.int .i64 1, .int .i64 0, .int .i64 0, .int .i64 0, .string ⟨#[]⟩, .string ⟨#[]⟩, .bool false]) (Zs 0 ⟨b1, #[.int .i64 0, .int .i64 0, .int .i64 0, .int .i64 0, .string ⟨#[]⟩, .string ⟨#[]⟩, .bool false], 72⟩ (off := 0) (.agg #[.int .i64 1, .int .i64 0, .int .i64 0, .int .i64 0, .string ⟨#[]⟩, .string ⟨#[]⟩, .bool false]) (zL (z7 ?_)))))))
  exact zB (ZC 0 ⟨b1, #[.int .i64 1, .int .i64 0, .int .i64 0, .int .i64 0, .string ⟨#[]⟩, .string ⟨#[]⟩, .bool false], 72⟩ (off := 0) (.agg #[.int .i64 1, .int .i64 0, .int .i64 0, .int .i64 0, .string ⟨#[]⟩, .string ⟨#[]⟩, .bool false]) Tryz.results63 (fun w hO => ⟨rfl, hO.below⟩))
theorem cuts_any (A : Option Addr) (cap : Nat) (l : List Sp) (W : World) (hv : Reads yB W W.heap.size A l) (hn : l.length ≤ 1000000) (hl : yL l) :
    Calls Tryz.prog 84 #[.slice A l.length cap] W fun e w' => ∃ v' ob', e = .returned v' ∧ SlC v' (g9 l) ob' ∧ Own [] W w' ob' := by
  refine zM (n := 28) Tryz.func84 rfl (by kernel_rfl) (by kernel_rfl) (ZO (Zv (.slice none 0 0) (ZR (Zc (k := 62) (args := #[]) (zC (zQ (-1))) (fun w _ => mR w) (Zc (k := 63) (args := #[]) (zC (zQ 1)) (fun w _ => pY w) (bG 72 #[.int .i64 ((zQ (-1)).e), .int .i64 ((zQ (-1)).v.maj), .int .i64 ((zQ (-1)).v.min), .int .i64 ((zQ (-1)).v.pat), .string (mkS (zQ (-1)).v.pre), .string (mkS (zQ (-1)).v.build), .bool ((zQ (-1)).aft), .int .i64 ((zQ 1).e), .int .i64 ((zQ 1).v.maj), .int .i64 ((zQ 1).v.min), .int .i64 ((zQ 1).v.pat), .string (mkS (zQ 1).v.pre), .string (mkS (zQ 1).v.build), .bool ((zQ 1).aft)] (by kernel_rfl) rfl (fun _ => by kernel_rfl) (fun b1 => Zv (.slice (some ⟨b1, 0, none⟩) 2 2) ?_)))))))
  refine ZN (z8 (ZO (Zv (.int .i64 0) (ZN (zX ?_)))))
  have hstart : SlC (.slice (some ⟨b1, 0, none⟩) 2 2) (g9 (l.take 0)) [⟨b1, #[.int .i64 ((zQ (-1)).e), .int .i64 ((zQ (-1)).v.maj), .int .i64 ((zQ (-1)).v.min), .int .i64 ((zQ (-1)).v.pat), .string (mkS (zQ (-1)).v.pre), .string (mkS (zQ (-1)).v.build), .bool ((zQ (-1)).aft), .int .i64 ((zQ 1).e), .int .i64 ((zQ 1).v.maj), .int .i64 ((zQ 1).v.min), .int .i64 ((zQ 1).v.pat), .string (mkS (zQ 1).v.pre), .string (mkS (zQ 1).v.build), .bool ((zQ 1).aft)], 72⟩] := ⟨rfl, .inr ⟨b1, 2, _, rfl, rfl, Nat.le_refl _, by unfold maxLen; omega, rfl, rfl⟩⟩
  refine qS (L' := [⟨b1, #[.int .i64 ((zQ (-1)).e), .int .i64 ((zQ (-1)).v.maj), .int .i64 ((zQ (-1)).v.min), .int .i64 ((zQ (-1)).v.pat), .string (mkS (zQ (-1)).v.pre), .string (mkS (zQ (-1)).v.build), .bool ((zQ (-1)).aft), .int .i64 ((zQ 1).e), .int .i64 ((zQ 1).v.maj), .int .i64 ((zQ 1).v.min), .int .i64 ((zQ 1).v.pat), .string (mkS (zQ 1).v.pre), .string (mkS (zQ 1).v.build), .bool ((zQ 1).aft)], 72⟩] ++ []) rfl (kH (fun L f m => ∃ (k : Nat) (v : Value) (ob : List Blk) (j : Nat → Value), (k ≤ l.length ∧ SlC v (g9 (l.take k)) ob) ∧ L = ob ++ [] ∧ f = jD j [(0, .slice A l.length cap), (3, v), (4, .int .i64 (k : Int))] ∧ m = l.length - k) (l.length - 0) ⟨0, _, [⟨b1, #[.int .i64 ((zQ (-1)).e), .int .i64 ((zQ (-1)).v.maj), .int .i64 ((zQ (-1)).v.min), .int .i64 ((zQ (-1)).v.pat), .string (mkS (zQ (-1)).v.pre), .string (mkS (zQ (-1)).v.build), .bool ((zQ (-1)).aft), .int .i64 ((zQ 1).e), .int .i64 ((zQ 1).v.maj), .int .i64 ((zQ 1).v.min), .int .i64 ((zQ 1).v.pat), .string (mkS (zQ 1).v.pre), .string (mkS (zQ 1).v.build), .bool ((zQ 1).aft)], 72⟩], _, ⟨Nat.zero_le _, hstart⟩, rfl, ZU, rfl⟩ ?_)
  rintro L f m ⟨k, v, ob, j, hrel, rfl, rfl, rfl⟩
  have hkl := hrel.1
  refine z8 (ZO (Zv (.int .i64 (k : Int)) (Zv (.slice A l.length cap) (Zv (.int .i64 (l.length : Int)) ?_))))
  by_cases h1 : (k : Int) < (l.length : Int)
  · have hk : k < l.length := by omega
    obtain ⟨b, off, hA, hlt, hcell⟩ := hv (by omega)
    obtain ⟨s, hs⟩ : ∃ s, l[k] = s := ⟨_, rfl⟩
    have hsk : s.short := hs ▸ hl _ (List.getElem_mem _)
    have hcz := hX l hl k hkl
    refine Zd (p := (k : Int) < (l.length : Int)) true (decide_eq_true (h1)) (ZY (ZB (z8 (zX (qS (L' := ob) (by simp) (bN [] (by kernel_rfl) (fun w hO => Own.take hO (by simp) (by simp)) (yP 0 _ (v) rfl (by kernel_rfl) (by kernel_rfl) (by kernel_rfl) (zH (zJ (yE (zH (zJ zU))))) (fun w hO => Own.take hO (by simp) (by simp)) (by kernel_rfl) (fun _ _ => by kernel_rfl) (yP 1 _ (.slice A l.length cap) rfl (by kernel_rfl) (by kernel_rfl) (by kernel_rfl) (zH (zJ (yE (zH (zJ zU))))) (fun w hO => Own.take hO (by simp) (by simp)) (by kernel_rfl) (fun _ _ => by kernel_rfl) ?_))))))))
    refine yP 2 _ (.int .i64 (k : Int)) rfl (by kernel_rfl) (by kernel_rfl) (by kernel_rfl) (zH (zJ (yE (zH (zJ zU))))) (fun w hO => Own.take hO (by simp) (by simp)) (by kernel_rfl) (fun _ _ => by kernel_rfl) (yP 3 _ (.pointer (some ⟨b, off + k * 14, none⟩)) rfl (by kernel_rfl) (by kernel_rfl) (by kernel_rfl) (zH (zJ (yE (zH (zJ zU))))) (fun w hO => Own.take hO (by simp) (by simp)) (by kernel_rfl) (fun w _ => qR (b := b) (off := off) (c := cap) (n := l.length) (k := .i64) (j := (k : Int)) (e := 74) (sz := 14) rfl (by kernel_rfl) hA (by kernel_rfl) (by kernel_rfl) (by kernel_rfl) (by omega) (by omega) (by show off + k * 14 = off + k * 14; rfl) w) (yP 4 _ (.pointer (some ⟨b, off + k * 14 + 0, none⟩)) rfl (by kernel_rfl) (by kernel_rfl) (by kernel_rfl) (zH (zJ (yE (zH (zJ zU))))) (fun w hO => Own.take hO (by simp) (by simp)) (by kernel_rfl) (fun _ _ => by kernel_rfl) (hl_old 5 _ (a := ⟨b, off + k * 14 + 0, none⟩) (zC s.lo) rfl (by kernel_rfl) (by kernel_rfl) (by kernel_rfl) (zH (zJ (yE (zH (zJ zU))))) (fun w hO => Own.take hO (by simp) (by simp)) (by kernel_rfl) rfl (by kernel_rfl) (fun w hO => yH yD (fun j u h => (hO.below.cell (p := ⟨b, off + j, none⟩) hlt).trans (hcell j u h)) k 0 hk (by omega) _ (by rw [hs]; kernel_rfl)) (yP 7 _ (.slice A l.length cap) rfl (by kernel_rfl) (by kernel_rfl) (by kernel_rfl) (zH (zJ (yE (zH (zJ zU))))) (fun w hO => Own.take hO (by simp) (by simp)) (by kernel_rfl) (fun _ _ => by kernel_rfl) (yP 8 _ (.int .i64 (k : Int)) rfl (by kernel_rfl) (by kernel_rfl) (by kernel_rfl) (zH (zJ (yE (zH (zJ zU))))) (fun w hO => Own.take hO (by simp) (by simp)) (by kernel_rfl) (fun _ _ => by kernel_rfl) (yP 9 _ (.pointer (some ⟨b, off + k * 14, none⟩)) rfl (by kernel_rfl) (by kernel_rfl) (by kernel_rfl) (zH (zJ (yE (zH (zJ zU))))) (fun w hO => Own.take hO (by simp) (by simp)) (by kernel_rfl) (fun w _ => qR (b := b) (off := off) (c := cap) (n := l.length) (k := .i64) (j := (k : Int)) (e := 74) (sz := 14) rfl (by kernel_rfl) hA (by kernel_rfl) (by kernel_rfl) (by kernel_rfl) (by omega) (by omega) (by show off + k * 14 = off + k * 14; rfl) w) (yP 10 _ (.pointer (some ⟨b, off + k * 14 + 7, none⟩)) rfl (by kernel_rfl) (by kernel_rfl) (by kernel_rfl) (zH (zJ (yE (zH (zJ zU))))) (fun w hO => Own.take hO (by simp) (by simp)) (by kernel_rfl) (fun _ _ => by kernel_rfl) (hl_old 11 _ (a := ⟨b, off + k * 14 + 7, none⟩) (zC s.hi) rfl (by kernel_rfl) (by kernel_rfl) (by kernel_rfl) (zH (zJ (yE (zH (zJ zU))))) (fun w hO => Own.take hO (by simp) (by simp)) (by kernel_rfl) rfl (by kernel_rfl) (fun w hO => yH yD (fun j u h => (hO.below.cell (p := ⟨b, off + j, none⟩) hlt).trans (hcell j u h)) k 7 hk (by omega) _ (by rw [hs]; kernel_rfl)) ?_))))))))
    have hp1 := p7 s.lo (g9 (l.take k))
    refine gJ 6 (by kernel_rfl) (fB _ (k := 133) (args := #[v, zC s.lo]) (fun v' L' => SlC v' (kC s.lo (g9 (l.take k))) L') rfl (by kernel_rfl) (fun _ => by kernel_rfl) (fun w hO => put_call s.lo hO hrel.2 hcz.2.1 (by omega) hcz.2.2 hsk.1) (fun _ _ _ => (fun w hO => Own.take hO (by simp) (by simp))) (fun v1 ob1 hv1 => gJ 12 (by kernel_rfl) (fB _ (k := 133) (args := #[v1, zC s.hi]) (fun v' L' => SlC v' (kC s.hi (kC s.lo (g9 (l.take k)))) L') rfl (by kernel_rfl) (fun _ => by kernel_rfl) (fun w hO => put_call s.hi hO hv1 hp1.2 (by omega) (mW hsk.1 hcz.2.2) hsk.2) (fun _ _ _ => (fun w hO => Own.take hO (by simp) (by simp))) (fun v2 ob2 hv2 => yP 13 _ (v2) rfl (by kernel_rfl) (by kernel_rfl) (by kernel_rfl) (zH (zJ (yE (zH (zJ zU))))) (fun w hO => Own.take hO (by simp) (by simp)) (by kernel_rfl) (fun _ _ => by kernel_rfl) (wC (by kernel_rfl) (fE (L' := ob2 ++ []) (by simp) (zR (z7 (zA (Zv (.int .i64 (k : Int)) (Zu (k := .i64) (((k + 1 : Nat) : Int)) (IntWalk.i64_in _ (by omega)) ?_)))))))))))
    refine Zv (.int .i64 ((k + 1 : Nat) : Int)) (zL ?_)
    have hnext : SlC v2 (g9 (l.take (k + 1))) ob2 := by rw [cuts_step l k hk, hs]; exact hv2
    exact zY (m' := l.length - (k + 1)) (by omega) ⟨k + 1, v2, ob2, _, ⟨by omega, hnext⟩, rfl, ZU, rfl⟩
  refine Zd (p := (k : Int) < (l.length : Int)) false (decide_eq_false (h1)) (ZX (xQ (yA (y5 (zW (z7 (ZO (Zv (v) ?_))))))))
  exact Zv (v) (ZN (zB (ZF (v) Tryz.results84 (fun w hO => ⟨v, ob, rfl, by have h := hrel.2; rwa [List.take_of_length_le (by omega)] at h, by simpa using hO⟩))))
end
section
theorem mC {l : List Sp} {k : Nat} (hk : k < l.length) (h : zS (l.take k) = true) (hs : l[k].may = true) (hc : ∀ h0 : 0 < k, zO (l[k - 1]'(by omega)).hi l[k].lo < 0) : zS (l.take (k + 1)) = true := by
  rw [List.take_succ_eq_append_getElem hk]
  refine nZ h hs fun t ht => ?_
  cases k with
  | zero => simp at ht
  | succ k =>
    have e := List.take_succ_eq_append_getElem (l := l) (i := k) (by omega)
    rw [e, List.getLast?_concat] at ht
    obtain rfl : l[k] = t := Option.some.inj ht
    exact hc (by omega)
theorem row_pair : ∀ {l : List Sp}, zS l = true → ∀ k (hk : k < l.length) (h0 : 0 < k), zO (l[k - 1]'(by omega)).hi l[k].lo < 0
  | [], _, k, hk, _ => by simp at hk
  | s :: l, h, k, hk, h0 => by
    cases k with
    | zero => omega
    | succ k =>
      cases k with
      | zero => exact bJ h _ (List.getElem_mem _)
      | succ k => exact row_pair (jW h) (k + 1) (by simpa using hk) (by omega)
theorem wN (A : Option Addr) (cap : Nat) (l : List Sp) (W : World) (hv : Reads yB W W.heap.size A l) (hn : l.length ≤ 1000000) (hl : yL l) :
    Calls Tryz.prog 43 #[.slice A l.length cap] W fun e w' => e = .returned (.bool (zS l)) ∧ Below W.heap.size W w' := by
  refine zM (n := 35) Tryz.func43 rfl (by kernel_rfl) (by kernel_rfl) (ZO (Zv (.bool false) (ZN (z8 (ZO (Zv (.int .i64 0) (zL (z7 ?_))))))))
  refine zX (kH (fun L f m => ∃ (k : Nat) (j : Nat → Value), (k ≤ l.length ∧ zS (l.take k) = true) ∧ L = [] ∧ f = jD j [(0, .slice A l.length cap), (3, .int .i64 (k : Int))] ∧ m = l.length - k) (l.length - 0) ⟨0, _, ⟨Nat.zero_le _, by rw [List.take_zero]; rfl⟩, rfl, ZU, rfl⟩ ?_)
  rintro L f m ⟨k, j, hrel, rfl, rfl, rfl⟩
  have hkl := hrel.1
  refine z8 (ZO (Zv (.int .i64 (k : Int)) (Zv (.slice A l.length cap) (Zv (.int .i64 (l.length : Int)) ?_))))
  by_cases h1 : (k : Int) < (l.length : Int)
  · have hk : k < l.length := by omega
    obtain ⟨b, off, hA, hlt, hcell⟩ := hv (by omega)
    obtain ⟨s, hs⟩ : ∃ s, l[k] = s := ⟨_, rfl⟩
    have hsk : s.short := hs ▸ hl l[k] (List.getElem_mem hk)
    refine Zd (p := (k : Int) < (l.length : Int)) true (decide_eq_true (h1)) (ZY (ZB (z8 (zX (z8 (g7 (by kernel_rfl) (by kernel_rfl) (Zw (.slice A l.length cap) (Zw (.int .i64 (k : Int)) ?_))))))))
    refine kL (.pointer (some ⟨b, off + k * 14, none⟩)) (by kernel_rfl) (ZA (b := b) (off := off) (c := cap) (n := l.length) (k := .i64) (j := (k : Int)) (e := 74) (sz := 14) hA) (p6 (zF s) (a := ⟨b, off + k * 14, none⟩) (by kernel_rfl) rfl (by kernel_rfl) (fun w hO => yH yD (fun j u h => (hO.below.cell (p := ⟨b, off + j, none⟩) hlt).trans (hcell j u h)) k 0 hk (by omega) _ (by rw [hs]; kernel_rfl)) (Zq (k := 53) (args := #[zF s]) (.bool s.may) (fun w _ => gL s w hsk) ?_))
    cases h2 : s.may with
    | true =>
      refine Zw (.bool false) (Zw (.bool false) (Zw (.int .i64 (k : Int)) ?_))
      by_cases h3 : (0 : Int) < (k : Int)
      · have hk1 : k - 1 < l.length := by omega
        obtain ⟨r, hr⟩ : ∃ r, l[k - 1] = r := ⟨_, rfl⟩
        have hrk : r.short := hr ▸ hl l[k - 1] (List.getElem_mem hk1)
        refine Ze (p := (0 : Int) < (k : Int)) true (decide_eq_true (h3)) (Zw (.bool true) (Zw (.slice A l.length cap) (Zw (.int .i64 (k : Int)) (p5 (k := .i64) (((k : Int) : Int) - 1) (by kernel_rfl) (fun _ => by kernel_rfl) (IntWalk.i64_in _ (by omega)) (kL (.pointer (some ⟨b, off + (k - 1) * 14, none⟩)) (by kernel_rfl) (qR (b := b) (off := off) (c := cap) (n := l.length) (k := .i64) (j := ((k : Int) : Int) - 1) (e := 74) (sz := 14) rfl (by kernel_rfl) hA (by kernel_rfl) (by kernel_rfl) (by kernel_rfl) (by omega) (by omega) (by omega)) (Zw (.pointer (some ⟨b, off + (k - 1) * 14 + 7, none⟩)) (p6 (zC r.hi) (a := ⟨b, off + (k - 1) * 14 + 7, none⟩) (by kernel_rfl) rfl (by kernel_rfl) (fun w hO => yH yD (fun j u h => (hO.below.cell (p := ⟨b, off + j, none⟩) hlt).trans (hcell j u h)) (k - 1) 7 hk1 (by omega) _ (by rw [hr]; kernel_rfl)) (Zw (.slice A l.length cap) (Zw (.int .i64 (k : Int)) (kL (.pointer (some ⟨b, off + k * 14, none⟩)) (by kernel_rfl) (ZA (b := b) (off := off) (c := cap) (n := l.length) (k := .i64) (j := (k : Int)) (e := 74) (sz := 14) hA) (Zw (.pointer (some ⟨b, off + k * 14 + 0, none⟩)) ?_)))))))))))
        refine p6 (zC s.lo) (a := ⟨b, off + k * 14 + 0, none⟩) (by kernel_rfl) rfl (by kernel_rfl) (fun w hO => yH yD (fun j u h => (hO.below.cell (p := ⟨b, off + j, none⟩) hlt).trans (hcell j u h)) k 0 hk (by omega) _ (by rw [hs]; kernel_rfl)) (Zq (k := 71) (args := #[zC r.hi, zC s.lo]) (.int .i64 (zO r.hi s.lo)) (fun w _ => qY r.hi s.lo w hrk.2 hsk.1) ?_)
        by_cases h4 : (0 : Int) ≤ zO r.hi s.lo
        · refine mD (p := (0 : Int) ≤ zO r.hi s.lo) true (by kernel_rfl) (fun _ => by kernel_rfl) (decide_eq_true (h4)) ?_
          refine Zw (.bool true) (Zw (.bool true) (xP (z7 (Zt (ZO (Zv (.bool false) (ZN (zB (zD ?_)))))))))
          exact z6 (yG (zD (z6 (ZF (.bool false) Tryz.results43 (fun w hO => ⟨by rw [show zS l = false from by cases hm : zS l with | false => rfl | true => first | (have h := vZ hm l[k] (List.getElem_mem hk); rw [hs] at h; simp_all; done) | (have h := row_pair hm k hk (by omega); rw [hs, hr] at h; omega)], hO.below⟩)))))
        refine Ze (p := (0 : Int) ≤ zO r.hi s.lo) false (decide_eq_false (h4)) (Zw (.bool false) (Zw (.bool false) (xP (z7 (Zf (yT (zR (z7 (zA (Zv (.int .i64 (k : Int)) (Zu (k := .i64) (((k + 1 : Nat) : Int)) (IntWalk.i64_in _ (by omega)) ?_)))))))))))
        refine Zv (.int .i64 ((k + 1 : Nat) : Int)) (zL ?_)
        have hnext : zS (l.take (k + 1)) = true := mC hk hrel.2 (by rw [hs]; assumption) (fun _ => by rw [hr, hs]; omega)
        exact zY (m' := l.length - (k + 1)) (by omega) ⟨k + 1, _, ⟨by omega, hnext⟩, rfl, ZU, rfl⟩
      refine Ze (p := (0 : Int) < (k : Int)) false (decide_eq_false (h3)) (Zw (.bool false) (Zj (Zj (Zj (Zj (Zj (Zj (Zj (Zj (Zj (Zj ?_)))))))))))
      refine Zj (Zj (Zj (Zw (.bool false) (Zw (.bool false) (xP (z7 (Zf (yT (zR (z7 (zA ?_)))))))))))
      refine Zv (.int .i64 (k : Int)) (Zu (k := .i64) (((k + 1 : Nat) : Int)) (IntWalk.i64_in _ (by omega)) (Zv (.int .i64 ((k + 1 : Nat) : Int)) (zL ?_)))
      have hnext : zS (l.take (k + 1)) = true := mC hk hrel.2 (by rw [hs]; assumption) (fun h0 => absurd h0 (by omega))
      exact zY (m' := l.length - (k + 1)) (by omega) ⟨k + 1, _, ⟨by omega, hnext⟩, rfl, ZU, rfl⟩
    | false =>
      refine Zw (.bool true) (Zw (.bool true) (Zj (Zj (Zj (Zj (Zj (Zj (Zj (Zj (Zj (Zj ?_)))))))))))
      refine Zj (Zj (Zj (Zj (Zj (Zj (Zj (Zw (.bool true) (xP (z7 (Zt (z8 ?_)))))))))))
      exact zA (Zv (.bool false) (ZN (zB (zD (z6 (yG (zD (z6 (ZF (.bool false) Tryz.results43 (fun w hO => ⟨by rw [show zS l = false from by cases hm : zS l with | false => rfl | true => first | (have h := vZ hm l[k] (List.getElem_mem hk); rw [hs] at h; simp_all; done) | (have h := row_pair hm k hk (by omega); rw [hs, hr] at h; omega)], hO.below⟩))))))))))
  refine Zd (p := (k : Int) < (l.length : Int)) false (decide_eq_false (h1)) (ZX (xQ (yA (y5 (zW (z7 (ZO (Zv (.bool true) ?_))))))))
  exact ZN (zB (ZF (.bool true) Tryz.results43 (fun w hO => ⟨by rw [show zS l = true from by have h := hrel.2; rwa [List.take_of_length_le (by omega)] at h], hO.below⟩)))
end
section
def SlS (v : Value) (l : List Sp) (ob : List Blk) : Prop := Sl 74 14 v l.length (l.flatMap yB) ob
theorem spanInfo : (Tryz.prog.info? 74).map (fun i => (i.zero.map (·.cells.size), i.size, i.bytes)) = some (some 14, 14, 144) := by kernel_rfl
theorem gD : ∃ i z, Tryz.prog.info? 74 = some i ∧ i.zero = some z ∧ i.size = 14 ∧ z.cells.size = 14 ∧ i.bytes = 144 := by
  have h := spanInfo
  cases hi : Tryz.prog.info? 74 with
  | none => rw [hi] at h; cases h
  | some i =>
    rw [hi] at h
    simp only [Option.map_some, Option.some.injEq, Prod.mk.injEq] at h
    cases hz : i.zero with
    | none => rw [hz] at h; simp at h
    | some z => rw [hz] at h; simp at h; exact ⟨i, z, rfl, hz, h.2.1, h.1, h.2.2⟩
theorem kP (s : Sp) : ∀ u ∈ yB s, u.oneCell' = true := by
  intro u hu
  unfold yB zF at hu
  simp only [Value.cells, List.mem_cons, List.not_mem_nil, or_false] at hu
  rcases hu with rfl | rfl | rfl | rfl | rfl | rfl | rfl | rfl | rfl | rfl | rfl | rfl | rfl | rfl <;> rfl
theorem grow_app {l : List Sp} {c d : Cu} (h : ∀ s ∈ l.getLast?, ¬ zO s.hi c = 0) : gY l c d = l ++ [⟨c, d⟩] := by
  unfold gY
  cases hg : l.getLast? with
  | none => have : l = [] := by simpa using hg
            subst this; rfl
  | some s => dsimp only; rw [if_neg (h s hg)]
theorem grow_set {l : List Sp} {c d : Cu} {s : Sp} (h0 : 0 < l.length) (hs : l[l.length - 1]'(by omega) = s) (h : zO s.hi c = 0) : gY l c d = l.set (l.length - 1) ⟨s.lo, d⟩ := by
  have hg : l.getLast? = some s := by rw [List.getLast?_eq_getElem?, List.getElem?_eq_getElem (by omega), hs]
  unfold gY
  rw [hg]
  dsimp only
  rw [if_pos h, List.dropLast_eq_take, List.set_eq_take_append_cons_drop, if_pos (by omega), List.drop_of_length_le (by omega)]
theorem last_at {l : List Sp} (h0 : 0 < l.length) {s t : Sp} (hs : l[l.length - 1]'(by omega) = s) (ht : t ∈ l.getLast?) : t = s := by
  rw [List.getLast?_eq_getElem?, List.getElem?_eq_getElem (by omega), hs] at ht
  exact (Option.some.inj ht).symm
theorem grow_any (A : Option Addr) (cap : Nat) (l : List Sp) (ob : List Blk) (c d : Cu) (W : World) (hv : SlS (.slice A l.length cap) l ob) (hO : Own (ob.map Blk.b) W W ob) (hn : l.length ≤ 1000000) (hl : yL l) (hc : c.short) (hd : d.short) :
    Calls Tryz.prog 86 #[.slice A l.length cap, zC c, zC d] W fun e w' => ∃ v' ob', e = .returned v' ∧ SlS v' (gY l c d) ob' ∧ Own (ob.map Blk.b) W w' ob' := by
  unfold SlS at hv ⊢
  refine vY (n := 35) hO Tryz.func86 rfl (by kernel_rfl) (by kernel_rfl) (ZO (Zb (zC c) (fun b1 => Zb (zC d) (fun b2 => Zv (.slice none 0 0) (ZN (z8 (ZO (Zv (.slice A l.length cap) ?_))))))))
  refine Zv (.int .i64 (l.length : Int)) (Zu (k := .i64) (((l.length : Int) : Int) - 1) (IntWalk.i64_in _ (by omega)) (Zv (.int .i64 (((l.length : Int) : Int) - 1)) (ZN (z8 (g7 (by kernel_rfl) (by kernel_rfl) (Zw (.int .i64 (((l.length : Int) : Int) - 1)) ?_))))))
  by_cases h1 : (0 : Int) ≤ ((l.length : Int) : Int) - 1
  · obtain ⟨g, cur, rfl, rfl, hcap, hmax, hsz, hcur⟩ := hv.block (by omega)
    obtain ⟨s, hs⟩ : ∃ s, l[l.length - 1]'(by omega) = s := ⟨_, rfl⟩
    have hsk : s.short := hs ▸ hl _ (List.getElem_mem _)
    refine Ze (p := (0 : Int) ≤ ((l.length : Int) : Int) - 1) true (decide_eq_true (h1)) (Zw (.bool true) (Zw (.slice (some ⟨g, 0, none⟩) l.length cap) (Zw (.int .i64 (((l.length : Int) : Int) - 1)) (kL (.pointer (some ⟨g, (l.length - 1) * 14, none⟩)) (by kernel_rfl) (ZV (b := g) (off := 0) (n := l.length) (c := cap) (k := .i64) (j := (l.length : Int) - 1) (e := 74) (sz := 14)) (Zw (.pointer (some ⟨g, (l.length - 1) * 14 + 7, none⟩)) (jX 2 ⟨g, cur, 74⟩ (off := (l.length - 1) * 14 + 7) (zC s.hi) (by kernel_rfl) rfl (by kernel_rfl) (by kernel_rfl) (gT yD hcur (l.length - 1) 7 (by omega) (by omega) _ (by rw [hs]; kernel_rfl)) (Zm 1 ⟨b1, (zC c).cells, 72⟩ (off := 0) (zC c) (Zq (k := 71) (args := #[zC s.hi, zC c]) (.int .i64 (zO s.hi c)) (fun w _ => qY s.hi c w hsk.2 hc) ?_))))))))
    by_cases h2 : (zO s.hi c : Int) = 0
    · refine mD (p := (zO s.hi c : Int) = 0) true (by kernel_rfl) (fun _ => by kernel_rfl) (decide_eq_true (h2)) ?_
      refine Zw (.bool true) (xP (z7 (Zt (ZO (Zv (.slice (some ⟨g, 0, none⟩) l.length cap) (Zv (.int .i64 (((l.length : Int) : Int) - 1)) (Zl 0 ⟨b2, (zC d).cells, 72⟩ (off := 0) (zC d) (zK (.pointer (some ⟨g, (l.length - 1) * 14, none⟩)) (by kernel_rfl) (ZV (b := g) (off := 0) (n := l.length) (c := cap) (k := .i64) (j := (l.length : Int) - 1) (e := 74) (sz := 14)) (Zv (.pointer (some ⟨g, (l.length - 1) * 14 + 7, none⟩)) (s_storeS 2 ⟨g, cur, 74⟩ (off := (l.length - 1) * 14 + 7) (zC d) 7 (by kernel_rfl) rfl rfl (by kernel_rfl) (by kernel_rfl) (by kernel_rfl) (by kernel_rfl) (by kernel_rfl) (by show (l.length - 1) * 14 + 7 + 7 ≤ cur.size; omega) (by kernel_rfl) ?_))))))))))
      refine ZR (Zv (.slice (some ⟨g, 0, none⟩) l.length cap) (Zv (.slice (some ⟨g, 0, none⟩) l.length cap) (ZN (zB (z6 (ZF (.slice (some ⟨g, 0, none⟩) l.length cap) Tryz.results86 ?_))))))
      have hse := store_elem yD hcur (l.length - 1) 7 (by omega) (zC d).cells ⟨s.lo, d⟩ (show 7 + 7 ≤ 14 by decide) (by rw [hs]; rfl)
      refine fun w hO => ⟨_, [⟨g, kF cur ((l.length - 1) * 14 + 7) (zC d).cells, 74⟩], rfl, ?_, Own.take hO (fun x hx => by simp only [List.mem_singleton] at hx; subst hx; simp) (by simp)⟩
      rw [grow_set (by omega) hs (by assumption), List.length_set]
      exact ⟨by rw [kM yD, List.length_set], .inr ⟨g, cap, _, rfl, rfl, hcap, hmax, by rw [hse.2]; exact hsz, hse.1⟩⟩
    refine Ze (p := (zO s.hi c : Int) = 0) false (decide_eq_false (h2)) (Zw (.bool false) (xP (z7 (Zf (ZB (ZO (Zv (.slice (some ⟨g, 0, none⟩) l.length cap) (Zl 1 ⟨b1, (zC c).cells, 72⟩ (off := 0) (zC c) (Zl 0 ⟨b2, (zC d).cells, 72⟩ (off := 0) (zC d) ?_)))))))))
    refine Zv (.agg #[.int .i64 c.e, .int .i64 c.v.maj, .int .i64 c.v.min, .int .i64 c.v.pat, .string (mkS c.v.pre), .string (mkS c.v.build), .bool c.aft, .int .i64 d.e, .int .i64 d.v.maj, .int .i64 d.v.min, .int .i64 d.v.pat, .string (mkS d.v.pre), .string (mkS d.v.build), .bool d.aft]) (bG 74 #[.int .i64 c.e, .int .i64 c.v.maj, .int .i64 c.v.min, .int .i64 c.v.pat, .string (mkS c.v.pre), .string (mkS c.v.build), .bool c.aft, .int .i64 d.e, .int .i64 d.v.maj, .int .i64 d.v.min, .int .i64 d.v.pat, .string (mkS d.v.pre), .string (mkS d.v.build), .bool d.aft] (by kernel_rfl) rfl (fun _ => by kernel_rfl) (fun b3 => kI (L' := [⟨b3, #[.int .i64 c.e, .int .i64 c.v.maj, .int .i64 c.v.min, .int .i64 c.v.pat, .string (mkS c.v.pre), .string (mkS c.v.build), .bool c.aft, .int .i64 d.e, .int .i64 d.v.maj, .int .i64 d.v.min, .int .i64 d.v.pat, .string (mkS d.v.pre), .string (mkS d.v.build), .bool d.aft], 74⟩, ⟨b2, (zC d).cells, 72⟩, ⟨b1, (zC c).cells, 72⟩] ++ [⟨g, cur, 74⟩] ++ []) (by simp) ?_))
    obtain ⟨i, z, e1, e2, e3, e4, e5⟩ := gD
    refine qA (sz := 14) (by kernel_rfl) rfl Tryz.underlying22 e1 e2 e3 e4 (by kernel_rfl) hv (a := ⟨b3, 0, none⟩) (m := 1) (c := 1) (news := yB ⟨c, d⟩) (by kernel_rfl) rfl (fun w hO j u hj => ?_) (kP _) (by unfold maxLen; omega) (by rw [e5]; omega) (fun v' ob' hv' => ?_)
    · rw [yM, cell_of_row w b3 (0 + j) (yB ⟨c, d⟩).toArray 74 _ (hO.held ⟨b3, (yB ⟨c, d⟩).toArray, 74⟩ (List.mem_append_left _ (List.mem_append_left _ (List.mem_cons_self ..))))]; simpa using hj
    refine Zv (v') (ZN (zB (ZF (v') Tryz.results86 (fun w hO => ⟨v', ob', rfl, by rw [grow_app (fun t ht => by rw [last_at (by omega) hs ht]; assumption)]; simpa using hv', Own.take hO (fun x hx => List.mem_append_left _ (List.mem_append_right _ hx)) ?_⟩))))
    have := hO.apart; rw [List.append_nil, List.map_append, List.nodup_append] at this; exact this.2.1
  refine Ze (p := (0 : Int) ≤ ((l.length : Int) : Int) - 1) false (decide_eq_false (h1)) (Zw (.bool false) (Zj (Zj (Zj (Zj (Zj (Zj (Zj (Zj (Zw (.bool false) (xP ?_)))))))))))
  refine z7 (Zf (ZB (ZO (Zv (.slice A l.length cap) (Zl 1 ⟨b1, (zC c).cells, 72⟩ (off := 0) (zC c) (Zl 0 ⟨b2, (zC d).cells, 72⟩ (off := 0) (zC d) (Zv (.agg #[.int .i64 c.e, .int .i64 c.v.maj, .int .i64 c.v.min, .int .i64 c.v.pat, .string (mkS c.v.pre), .string (mkS c.v.build), .bool c.aft, .int .i64 d.e, .int .i64 d.v.maj, .int .i64 d.v.min, .int .i64 d.v.pat, .string (mkS d.v.pre), .string (mkS d.v.build), .bool d.aft]) (bG 74 #[.int .i64 c.e, .int .i64 c.v.maj, .int .i64 c.v.min, .int .i64 c.v.pat, .string (mkS c.v.pre), .string (mkS c.v.build), .bool c.aft, .int .i64 d.e, .int .i64 d.v.maj, .int .i64 d.v.min, .int .i64 d.v.pat, .string (mkS d.v.pre), .string (mkS d.v.build), .bool d.aft] (by kernel_rfl) rfl (fun _ => by kernel_rfl) (fun b3 => kI (L' := [⟨b3, #[.int .i64 c.e, .int .i64 c.v.maj, .int .i64 c.v.min, .int .i64 c.v.pat, .string (mkS c.v.pre), .string (mkS c.v.build), .bool c.aft, .int .i64 d.e, .int .i64 d.v.maj, .int .i64 d.v.min, .int .i64 d.v.pat, .string (mkS d.v.pre), .string (mkS d.v.build), .bool d.aft], 74⟩, ⟨b2, (zC d).cells, 72⟩, ⟨b1, (zC c).cells, 72⟩] ++ ob ++ []) (by simp) ?_)))))))))
  obtain ⟨i, z, e1, e2, e3, e4, e5⟩ := gD
  refine qA (sz := 14) (by kernel_rfl) rfl Tryz.underlying22 e1 e2 e3 e4 (by kernel_rfl) hv (a := ⟨b3, 0, none⟩) (m := 1) (c := 1) (news := yB ⟨c, d⟩) (by kernel_rfl) rfl (fun w hO j u hj => ?_) (kP _) (by unfold maxLen; omega) (by rw [e5]; omega) (fun v' ob' hv' => ?_)
  · rw [yM, cell_of_row w b3 (0 + j) (yB ⟨c, d⟩).toArray 74 _ (hO.held ⟨b3, (yB ⟨c, d⟩).toArray, 74⟩ (List.mem_append_left _ (List.mem_append_left _ (List.mem_cons_self ..))))]; simpa using hj
  refine Zv (v') (ZN (zB (ZF (v') Tryz.results86 (fun w hO => ⟨v', ob', rfl, by rw [grow_app (fun t ht => by have : l = [] := List.eq_nil_of_length_eq_zero (by omega); subst this; simp at ht)]; simpa using hv', Own.take hO (fun x hx => List.mem_append_left _ (List.mem_append_right _ hx)) ?_⟩))))
  have := hO.apart; rw [List.append_nil, List.map_append, List.nodup_append] at this; exact this.2.1
end
section
section
variable {M : List Nat} {P : Program} {n : Nat} {ops : Array Oper} {W : World} {Q : Exit → Act → World → Prop} {L0 L : List Blk} {f : Nat → Value} {fuel : Nat} {listed : Array Bool} {rest : List Oper} {o : Oper}
theorem y9 {k : FuncId} {args : Array Value} (R : Value → List Blk → Prop) (hw : xD ops n f o = true) (he : ∀ w, (execOp (ev n f) o).run P w = .ok (.enter k args) w)
    (hc : ∀ w, Own M W w L → Calls P k args w fun e w' => ∃ v L', e = .returned v ∧ R v L' ∧ Own M W w' L') (h : ∀ v L', R v L' → Seg M P n ops W Q rest L' (upd f o.dst v)) : Seg M P n ops W Q (o :: rest) L f :=
  qO hw fun w hO => nQ (he w) ((hc w hO).mono fun e w' ⟨v, L', e1, e2, e3⟩ => ⟨v, e1, (h v L' e2).go w' e3⟩)
theorem hl_sum {k : IntKind} (i : Nat) (oi : Oper) (z : Int) (hi : ops[i]? = some oi) (hs : Region.noSelect ops = true) (hf : Region.free .any ops listed i = true) (hr : (Region.ready .any ops listed).contains i = true)
    (hQ : PQ Q) (hsub : ∀ w, Own M W w L → Own M W w L0) (hw : xD ops n f oi = true) (hrun : ∀ w, (execOp (ev n f) oi).run P w = .ok (.value (.int k (k.wrap z))) w) (hz : k.wrap z = z)
    (h : v7 M P n ops W L0 Q fuel (listed.setIfInBounds i true) L (upd f oi.dst (.int k z))) : v7 M P n ops W L0 Q (fuel + 1) listed L f :=
  yP i oi (.int k z) hi hs hf hr hQ hsub hw (fun w _ => by rw [hrun w, hz]) h
theorem Own.perm {w : World} {L' : List Blk} (h : Own M W w L) (hp : L.Perm L') : Own M W w L' :=
  h.take (fun x hx => hp.mem_iff.2 hx) ((hp.map Blk.b).nodup_iff.1 h.apart)
end
theorem SlS.form {v : Value} {l : List Sp} {ob : List Blk} (h : SlS v l ob) : ∃ A cap, v = .slice A l.length cap := by
  rcases h.2 with ⟨h1, h2, _⟩ | ⟨g, cap, cur, h1, _⟩
  · exact ⟨none, 0, by rw [h1, h2]⟩
  · exact ⟨_, cap, h1⟩
theorem grow_call {M : List Nat} {W w : World} {v : Value} {l : List Sp} {x : Blk} {ob : List Blk} (c d : Cu) (hO : Own M W w (x :: ob)) (hv : SlS v l ob) (hn : l.length ≤ 1000000) (hl : yL l) (hc : c.short) (hd : d.short) :
    Calls Tryz.prog 86 #[v, zC c, zC d] w fun e w' => ∃ v' L', e = .returned v' ∧ (∃ ob', L' = x :: ob' ∧ SlS v' (gY l c d) ob') ∧ Own M W w' L' := by
  obtain ⟨A, cap, rfl⟩ := hv.form
  refine (grow_any A cap l ob c d w hv (Own.lend (hO.sub [x])) hn hl hc hd).mono fun e w' ⟨v', ob', h1, h2, h3⟩ => ⟨v', x :: ob', h1, ⟨ob', rfl, h2⟩, ?_⟩
  have hp : Own M W w (ob ++ [x]) := hO.perm (List.perm_append_comm (l₁ := [x]) (l₂ := ob))
  exact (Own.join hp h3).perm (List.perm_append_comm (l₁ := ob') (l₂ := [x]))
theorem grow_len (l : List Sp) (c d : Cu) : (gY l c d).length ≤ l.length + 1 := by
  unfold gY
  split
  · split
    · first | (simp; done) | (simp; omega)
    · simp
  · simp
theorem grow_short {l : List Sp} {c d : Cu} (hl : yL l) (hc : c.short) (hd : d.short) : yL (gY l c d) := by
  unfold gY
  split
  · rename_i s hs
    split
    · intro x hx
      rcases List.mem_append.1 hx with h | h
      · exact hl x (List.dropLast_subset _ h)
      · obtain rfl : x = _ := by simpa using h
        exact ⟨(hl s (List.mem_of_getLast? hs)).1, hd⟩
    · intro x hx
      rcases List.mem_append.1 hx with h | h
      · exact hl x h
      · obtain rfl : x = _ := by simpa using h
        exact ⟨hc, hd⟩
  · intro x hx
    obtain rfl : x = _ := by simpa using hx
    exact ⟨hc, hd⟩
theorem build_step (p : Cu → Cu → Bool) (out : List Sp) (cs : List Cu) (k : Nat) (hk : k + 1 < cs.length) {c d : Cu} (hc : cs[k] = c) (hd : cs[k + 1] = d) : kK p out (cs.drop k) = kK p (if p c d then gY out c d else out) (cs.drop (k + 1)) := by
  rw [List.drop_eq_getElem_cons (show k < cs.length by omega), List.drop_eq_getElem_cons hk, hc, hd]
  conv => lhs; unfold kK
theorem build_end (p : Cu → Cu → Bool) (out : List Sp) (cs : List Cu) (k : Nat) (hk : ¬ k + 1 < cs.length) : kK p out (cs.drop k) = out := by
  have : (cs.drop k).length ≤ 1 := by rw [List.length_drop]; omega
  match h : cs.drop k with
  | [] => rfl
  | [x] => rfl
  | x :: y :: r => rw [h] at this; simp at this
structure Built (p : Cu → Cu → Bool) (cs : List Cu) (k : Nat) (v : Value) (out : List Sp) (ob : List Blk) : Prop where
  le : k ≤ cs.length
  sl : SlS v out ob
  len : out.length ≤ k
  short : yL out
  eq : kK p [] cs = kK p out (cs.drop k)
theorem Built.start (p : Cu → Cu → Bool) (cs : List Cu) : Built p cs 0 (.slice none 0 0) [] [] := ⟨Nat.zero_le _, Sl.nil _ _, Nat.le_refl _, fun s hs => by simp at hs, rfl⟩
theorem Built.keep {p : Cu → Cu → Bool} {cs : List Cu} {k : Nat} {v : Value} {out : List Sp} {ob : List Blk} (h : Built p cs k v out ob) (hk : k + 1 < cs.length) {c d : Cu} (hc : cs[k] = c) (hd : cs[k + 1] = d) (hp : p c d = false) : Built p cs (k + 1) v out ob :=
  ⟨by omega, h.sl, by have := h.len; omega, h.short, by rw [h.eq, build_step p out cs k hk hc hd, hp]; rfl⟩
theorem Built.grow {p : Cu → Cu → Bool} {cs : List Cu} {k : Nat} {v v2 : Value} {out : List Sp} {ob ob2 : List Blk} (h : Built p cs k v out ob) (hk : k + 1 < cs.length) {c d : Cu} (hc : cs[k] = c) (hd : cs[k + 1] = d) (hp : p c d = true) (hcs : c.short) (hds : d.short) (h2 : SlS v2 (gY out c d) ob2) : Built p cs (k + 1) v2 (gY out c d) ob2 :=
  ⟨by omega, h2, by have := h.len; have := grow_len out c d; omega, grow_short h.short hcs hds, by rw [h.eq, build_step p out cs k hk hc hd, hp]; rfl⟩
end
section
deriving instance DecidableEq for Sp
theorem all2 (a b : Bool) : ([a, b].all id) = (a && b) := by simp
theorem sp_dec (u v : Sp) : decide (u = v) = (decide (u.lo = v.lo) && decide (u.hi = v.hi)) := by
  obtain ⟨a, b⟩ := u
  obtain ⟨a', b'⟩ := v
  simp only [Sp.mk.injEq, Bool.decide_and]
theorem eq_span (u v : Sp) (d : Nat) (w : World) : (Op.equalIn (d + 1 + 1 + 1 + 1) 74 (zF u) (zF v)).run Tryz.prog w = .ok (decide (u = v)) w := by
  have h := eq_agg (P := Tryz.prog) (d := d + 1 + 1 + 1) (t := 74) (xs := (zF u).cells) (ys := (zF v).cells) (bs := [decide (u.lo = v.lo), decide (u.hi = v.hi)]) Tryz.underlying74 (by kernel_rfl)
    ⟨by decide, ⟨zC u.lo, zC v.lo, fun w => ⟨by kernel_rfl, by kernel_rfl, eq_cut u.lo v.lo d w⟩⟩,
     by decide, ⟨zC u.hi, zC v.hi, fun w => ⟨by kernel_rfl, by kernel_rfl, eq_cut u.hi v.hi d w⟩⟩, trivial⟩ w
  rw [all2, ← sp_dec] at h
  exact h
theorem guard_span : Tryz.prog.eqGuardType Tryz.prog.depth 74 = false := by kernel_rfl
theorem binOp_agg_neq {P : Program} {t : TypeId} {xs ys : Array Value} {b : Bool} (w : World) (h : (Op.equalIn 10000 t (.agg xs) (.agg ys)).run P w = .ok b w) : (binOp .neq t (.agg xs) (.agg ys)).run P w = .ok (.bool (!b)) w := by
  have e : binOp .neq t (.agg xs) (.agg ys) = (do let r ← Op.equalIn 10000 t (.agg xs) (.agg ys); pure (.bool (!r))) := by first | rfl | simp [binOp]
  rw [e]
  simp only [Sem.run_bind, h, Result.andThen_ok, Sem.run_pure]
theorem run_ne_op {P : Program} {ρ : Operand → Value} {o : Oper} {t t' : TypeId} {x y : Operand} {xs ys : Array Value} {b : Bool} (ho : o.op = .binOp .neq t x y t') (hx : ρ x = .agg xs) (hy : ρ y = .agg ys) (hm : P.eqGuardType P.depth t = false)
    (h : ∀ w, (Op.equalIn 10000 t (.agg xs) (.agg ys)).run P w = .ok b w) (w : World) : (execOp ρ o).run P w = .ok (.value (.bool (!b))) w := by
  have h1 := run_eqGuard_agg (P := P) w .neq t x y xs ys hm
  have h2 := binOp_agg_neq w (h w)
  unfold execOp
  simp only [ho, hx, hy, Sem.run_bind, h1, Result.andThen_ok, h2, Sem.run_pure]
theorem op_ne_span {ρ : Operand → Value} {o : Oper} {t' : TypeId} {x y : Operand} {u v : Sp} {b : Bool} (ho : o.op = .binOp .neq 74 x y t') (hx : ρ x = zF u) (hy : ρ y = zF v) (hb : decide (u = v) = b) (w : World) : (execOp ρ o).run Tryz.prog w = .ok (.value (.bool (!b))) w :=
  run_ne_op ho hx hy guard_span (fun w => by rw [← hb]; exact eq_span u v 9996 w) w
theorem same_step {a b : List Sp} {k : Nat} (ha : k < a.length) (hb : k < b.length) (h : a.take k = b.take k) (e : a[k] = b[k]) : a.take (k + 1) = b.take (k + 1) := by
  rw [List.take_succ_eq_append_getElem ha, List.take_succ_eq_append_getElem hb, h, e]
theorem rsame_any (A B : Option Addr) (cap capb : Nat) (a b : List Sp) (W : World) (hv : Reads yB W W.heap.size A a) (hu : Reads yB W W.heap.size B b) (hn : a.length ≤ 1000000) (hm : b.length ≤ 1000000) :
    Calls Tryz.prog 31 #[.slice A a.length cap, .slice B b.length capb] W fun e w' => e = .returned (.bool (decide (a = b))) ∧ Below W.heap.size W w' := by
  refine zM (n := 26) Tryz.func31 rfl (by kernel_rfl) (by kernel_rfl) (ZO (Zv (.bool false) (ZN (z8 (ZO (Zv (.slice A a.length cap) (Zv (.int .i64 (a.length : Int)) (Zv (.slice B b.length capb) ?_))))))))
  refine Zv (.int .i64 (b.length : Int)) ?_
  by_cases h1 : (a.length : Int) = (b.length : Int)
  · refine wZ (p := (a.length : Int) = (b.length : Int)) true (by kernel_rfl) (fun _ => by kernel_rfl) (decide_eq_true (h1)) ?_
    refine ZX (ZB (z8 (ZO (Zv (.int .i64 0) (ZN (zX ?_))))))
    refine kH (fun L f m => ∃ (k : Nat) (j : Nat → Value), (k ≤ a.length ∧ a.take k = b.take k) ∧ L = [] ∧ f = jD j [(0, .slice A a.length cap), (1, .slice B b.length capb), (5, .int .i64 (k : Int))] ∧ m = a.length - k) (a.length - 0) ⟨0, _, ⟨Nat.zero_le _, by rw [List.take_zero, List.take_zero]⟩, rfl, ZU, rfl⟩ ?_
    rintro L f m ⟨k, j, hrel, rfl, rfl, rfl⟩
    have hkl := hrel.1
    refine z8 (ZO (Zv (.int .i64 (k : Int)) (Zv (.slice A a.length cap) (Zv (.int .i64 (a.length : Int)) ?_))))
    by_cases h2 : (k : Int) < (a.length : Int)
    · have hk : k < a.length := by omega
      have hkb : k < b.length := by omega
      obtain ⟨g, off, hA, hlt, hcell⟩ := hv (by omega)
      obtain ⟨gb, ofh, hB, hlu, hcelu⟩ := hu (by omega)
      obtain ⟨s, hs⟩ : ∃ s, a[k] = s := ⟨_, rfl⟩
      obtain ⟨t, ht⟩ : ∃ t, b[k] = t := ⟨_, rfl⟩
      refine Zd (p := (k : Int) < (a.length : Int)) true (decide_eq_true (h2)) (ZY (ZB (z8 (zX (z8 (g7 (by kernel_rfl) (by kernel_rfl) (Zw (.slice A a.length cap) (Zw (.int .i64 (k : Int)) ?_))))))))
      refine kL (.pointer (some ⟨g, off + k * 14, none⟩)) (by kernel_rfl) (ZA (b := g) (off := off) (c := cap) (n := a.length) (k := .i64) (j := (k : Int)) (e := 74) (sz := 14) hA) (p6 (zF s) (a := ⟨g, off + k * 14, none⟩) (by kernel_rfl) rfl (by kernel_rfl) (fun w hO => yH yD (fun j u h => (hO.below.cell (p := ⟨g, off + j, none⟩) hlt).trans (hcell j u h)) k 0 hk (by omega) _ (by rw [hs]; kernel_rfl)) (Zw (.slice B b.length capb) (Zw (.int .i64 (k : Int)) (kL (.pointer (some ⟨gb, ofh + k * 14, none⟩)) (by kernel_rfl) (ZA (b := gb) (off := ofh) (c := capb) (n := b.length) (k := .i64) (j := (k : Int)) (e := 74) (sz := 14) hB) (p6 (zF t) (a := ⟨gb, ofh + k * 14, none⟩) (by kernel_rfl) rfl (by kernel_rfl) (fun w hO => yH yD (fun j u h => (hO.below.cell (p := ⟨gb, ofh + j, none⟩) hlu).trans (hcelu j u h)) k 0 hkb (by omega) _ (by rw [ht]; kernel_rfl)) ?_)))))
      by_cases h3 : s = t
      · refine kL (.bool false) (by kernel_rfl) (op_ne_span rfl (by kernel_rfl) (by kernel_rfl) (decide_eq_true (h3))) ?_
        refine xP (z7 (Zf (yT (zR (z7 (zA (Zv (.int .i64 (k : Int)) (Zu (k := .i64) (((k + 1 : Nat) : Int)) (IntWalk.i64_in _ (by omega)) (Zv (.int .i64 ((k + 1 : Nat) : Int)) (zL ?_))))))))))
        have hnext : a.take (k + 1) = b.take (k + 1) := same_step hk hkb hrel.2 (by rw [hs, ht]; assumption)
        exact zY (m' := a.length - (k + 1)) (by omega) ⟨k + 1, _, ⟨by omega, hnext⟩, rfl, ZU, rfl⟩
      refine kL (.bool true) (by kernel_rfl) (op_ne_span rfl (by kernel_rfl) (by kernel_rfl) (decide_eq_false (h3))) (xP (z7 (Zt (ZO (Zv (.bool false) (ZN (zB (zD (z6 ?_)))))))))
      exact yG (zD (z6 (ZF (.bool false) Tryz.results31 (fun w hO => ⟨by rw [decide_eq_false (show ¬ a = b from fun e => by subst e; first | omega | exact absurd (hs.symm.trans ht) (by assumption))], hO.below⟩))))
    refine Zd (p := (k : Int) < (a.length : Int)) false (decide_eq_false (h2)) (ZX (xQ (yA (y5 (zW (z7 (ZO (Zv (.bool true) ?_))))))))
    exact ZN (zB (ZF (.bool true) Tryz.results31 (fun w hO => ⟨by rw [decide_eq_true (show a = b from by have h := hrel.2; rwa [List.take_of_length_le (by omega), List.take_of_length_le (by omega)] at h)], hO.below⟩)))
  refine Zn (p := (a.length : Int) = (b.length : Int)) false (decide_eq_false (h1)) (ZY (ZO (Zv (.bool false) (ZN (zB (z6 (ZF (.bool false) Tryz.results31 ?_)))))))
  exact fun w hO => ⟨by rw [decide_eq_false (show ¬ a = b from fun e => by subst e; first | omega | exact absurd (hs.symm.trans ht) (by assumption))], hO.below⟩
end
section
def gV (l : List Sp) : Bool := l.all (·.may)
theorem allMay_mem {l : List Sp} : gV l = true ↔ ∀ s ∈ l, s.may = true := by unfold gV; rw [List.all_eq_true]
theorem allMay_take (l : List Sp) (k : Nat) (hk : k < l.length) (h : gV (l.take k) = true) (hs : l[k].may = true) : gV (l.take (k + 1)) = true := by
  rw [allMay_mem] at h ⊢
  rw [List.take_succ_eq_append_getElem hk]
  intro x hx
  rcases List.mem_append.1 hx with hx | hx
  · exact h x hx
  · obtain rfl : x = l[k] := by simpa using hx
    exact hs
theorem allMay_not (l : List Sp) (k : Nat) (hk : k < l.length) (hs : l[k].may = false) : gV l = false := by
  cases h : gV l with
  | false => rfl
  | true => rw [allMay_mem.1 h _ (List.getElem_mem hk)] at hs; cases hs
theorem rmake_any (A : Option Addr) (cap : Nat) (l : List Sp) (W : World) (hv : Reads yB W W.heap.size A l) (hn : l.length ≤ 300000) (hl : yL l) :
    Calls Tryz.prog 54 #[.slice A l.length cap] W fun e w' => ∃ v' ob', e = .returned (.tuple #[v', .bool (gV l)]) ∧ SlS v' (if gV l then dR l else []) ob' ∧ Own [] W w' ob' := by
  refine zM (n := 52) Tryz.func54 rfl (by kernel_rfl) (by kernel_rfl) (ZO (Zv (.slice none 0 0) (Zv (.bool false) (ZN (z8 (ZO (Zv (.int .i64 0) (zL ?_))))))))
  refine z7 (zX (kH (fun L f m => ∃ (k : Nat) (j : Nat → Value), (k ≤ l.length ∧ gV (l.take k) = true) ∧ L = [] ∧ f = jD j [(0, .slice A l.length cap), (4, .int .i64 (k : Int))] ∧ m = l.length - k) (l.length - 0) ⟨0, _, ⟨Nat.zero_le _, by rw [List.take_zero]; rfl⟩, rfl, ZU, rfl⟩ ?_))
  rintro L f m ⟨k, j, hrel, rfl, rfl, rfl⟩
  have hkl := hrel.1
  refine z8 (ZO (Zv (.int .i64 (k : Int)) (Zv (.slice A l.length cap) (Zv (.int .i64 (l.length : Int)) ?_))))
  by_cases h1 : (k : Int) < (l.length : Int)
  · have hk : k < l.length := by omega
    obtain ⟨b, off, hA, hlt, hcell⟩ := hv (by omega)
    obtain ⟨s, hs⟩ : ∃ s, l[k] = s := ⟨_, rfl⟩
    have hsk : s.short := hs ▸ hl _ (List.getElem_mem _)
    refine Zd (p := (k : Int) < (l.length : Int)) true (decide_eq_true (h1)) (ZY (ZB (z8 (zX (ZO (Zv (.slice A l.length cap) (Zv (.int .i64 (k : Int)) ?_)))))))
    refine zK (.pointer (some ⟨b, off + k * 14, none⟩)) (by kernel_rfl) (ZA (b := b) (off := off) (c := cap) (n := l.length) (k := .i64) (j := (k : Int)) (e := 74) (sz := 14) hA) (Zo (zF s) (a := ⟨b, off + k * 14, none⟩) (fun w hO => yH yD (fun j u h => (hO.below.cell (p := ⟨b, off + j, none⟩) hlt).trans (hcell j u h)) k 0 hk (by omega) _ (by rw [hs]; kernel_rfl)) (Zc (k := 53) (args := #[zF s]) (.bool s.may) (fun w _ => gL s w hsk) ?_))
    cases h2 : s.may with
    | true =>
      refine Zv (.bool false) (ZX (yT (zR (z7 (zA (Zv (.int .i64 (k : Int)) (Zu (k := .i64) (((k + 1 : Nat) : Int)) (IntWalk.i64_in _ (by omega)) (Zv (.int .i64 ((k + 1 : Nat) : Int)) (zL ?_)))))))))
      have hnext : gV (l.take (k + 1)) = true := allMay_take l k hk hrel.2 (by rw [hs]; assumption)
      exact zY (m' := l.length - (k + 1)) (by omega) ⟨k + 1, _, ⟨by omega, hnext⟩, rfl, ZU, rfl⟩
    | false =>
      refine Zv (.bool true) (ZY (ZO (Zv (.slice none 0 0) (Zv (.bool false) (ZN (zB (zD ?_)))))))
      exact z6 (yG (zD (z6 (vM (.slice none 0 0) (.bool false) Tryz.results54 (by kernel_rfl) (by kernel_rfl) (fun w hO => ⟨_, [], by rw [allMay_not l k hk (by rw [hs]; assumption)], by rw [allMay_not l k hk (by rw [hs]; assumption), if_neg (by decide)]; exact Sl.nil _ _, by simpa using hO⟩)))))
  have hall : gV l = true := by have h := hrel.2; rwa [List.take_of_length_le (by omega)] at h
  refine Zd (p := (k : Int) < (l.length : Int)) false (decide_eq_false (h1)) (ZX (xQ (yA (y5 (zW (z7 (ZO (Zv (.slice none 0 0) ?_))))))))
  refine ZR (Zv (.slice A l.length cap) (y9 (k := 84) (args := #[.slice A l.length cap]) (fun v' L' => SlC v' (g9 l) L') (by kernel_rfl) (fun _ => by kernel_rfl) (fun w hO => (cuts_any A cap l w (hv.on hO.below hO.size) (by omega) hl).mono fun e w' ⟨v', ob', h1, h2, h3⟩ => ⟨v', ob', h1, h2, by simpa using Own.joinN hO h3⟩) (fun cv oc hcv => ?_)))
  have hcz := hX l hl l.length (Nat.le_refl _)
  rw [List.take_length] at hcz
  obtain ⟨cs, hcs⟩ : ∃ cs, cs = g9 l := ⟨_, rfl⟩
  rw [← hcs] at hcv hcz
  have hcsn := hcz.1
  have hcs0 := hcz.2.1
  have hcsS := hcz.2.2
  obtain ⟨B, ccap, rfl⟩ := hcv.form
  obtain ⟨g, cur, rfl, rfl, hccap, hcmax, hcsz, hcur⟩ := hcv.block hcs0
  refine Zv (.slice (some ⟨g, 0, none⟩) cs.length ccap) (ZN (z8 (ZO (Zv (.int .i64 0) (ZN (zX (kH (fun L f m => ∃ (k : Nat) (v : Value) (out : List Sp) (ob : List Blk) (j : Nat → Value), (Built (inL l) cs k v out ob) ∧ L = ⟨g, cur, 72⟩ :: ob ∧ f = jD j [(0, .slice A l.length cap), (5, v), (6, .slice (some ⟨g, 0, none⟩) cs.length ccap), (7, .int .i64 (k : Int))] ∧ m = cs.length - k) (cs.length - 0) ⟨0, _, [], [], _, Built.start _ cs, rfl, ZU, rfl⟩ ?_)))))))
  rintro L f m ⟨k, v, out, ob, j, hrel, rfl, rfl, rfl⟩
  have hkl := hrel.le
  refine z8 (ZO (Zv (.int .i64 (k : Int)) (Zu (k := .i64) (((k + 1 : Nat) : Int)) (IntWalk.i64_in _ (by omega)) (Zv (.slice (some ⟨g, 0, none⟩) cs.length ccap) (Zv (.int .i64 (cs.length : Int)) ?_)))))
  by_cases h3 : ((k + 1 : Nat) : Int) < (cs.length : Int)
  · have hk : k + 1 < cs.length := by omega
    obtain ⟨c, hc⟩ : ∃ c, cs[k] = c := ⟨_, rfl⟩
    obtain ⟨d, hd⟩ : ∃ d, cs[k + 1] = d := ⟨_, rfl⟩
    have hcS : c.short := hc ▸ hcsS _ (List.getElem_mem _)
    have hdS : d.short := hd ▸ hcsS _ (List.getElem_mem _)
    have hlen := hrel.len
    refine Zd (p := ((k + 1 : Nat) : Int) < (cs.length : Int)) true (decide_eq_true (h3)) (ZY (ZB (z8 (zX (z8 (g7 (by kernel_rfl) (by kernel_rfl) (Zw (.slice A l.length cap) (Zw (.slice (some ⟨g, 0, none⟩) cs.length ccap) ?_))))))))
    refine Zw (.int .i64 (k : Int)) (kL (.pointer (some ⟨g, k * 7, none⟩)) (by kernel_rfl) (qP (b := g) (off := 0) (n := cs.length) (c := ccap) (k := .i64) (j := (k : Int)) (e := 72) (sz := 7) rfl (by kernel_rfl) (by kernel_rfl) (by kernel_rfl) (by kernel_rfl) (by omega) (by omega) (by show 0 + k * 7 = k * 7; omega)) (jX 0 ⟨g, cur, 72⟩ (off := k * 7) (zC c) (by kernel_rfl) rfl (by kernel_rfl) (by kernel_rfl) (gT xE hcur k 0 (by omega) (by omega) _ (by rw [hc]; kernel_rfl)) (Zw (.slice (some ⟨g, 0, none⟩) cs.length ccap) (Zw (.int .i64 (k : Int)) (p5 (k := .i64) (((k + 1 : Nat) : Int)) (by kernel_rfl) (fun _ => by kernel_rfl) (IntWalk.i64_in _ (by omega)) (kL (.pointer (some ⟨g, (k + 1) * 7, none⟩)) (by kernel_rfl) (qP (b := g) (off := 0) (n := cs.length) (c := ccap) (k := .i64) (j := ((k + 1 : Nat) : Int)) (e := 72) (sz := 7) rfl (by kernel_rfl) (by kernel_rfl) (by kernel_rfl) (by kernel_rfl) (by omega) (by omega) (by show 0 + (k + 1) * 7 = (k + 1) * 7; omega)) (jX 0 ⟨g, cur, 72⟩ (off := (k + 1) * 7) (zC d) (by kernel_rfl) rfl (by kernel_rfl) (by kernel_rfl) (gT xE hcur (k + 1) 0 (by omega) (by omega) _ (by rw [hd]; kernel_rfl)) (Zq (k := 85) (args := #[.slice A l.length cap, zC c, zC d]) (.bool (inL l c d)) (fun w hO => in_any A cap l c d w (hv.on hO.below hO.size) (by omega) hl hcS hdS) (xP (z7 ?_))))))))))
    cases h4 : inL l c d with
    | true =>
      refine Zt (bN [⟨g, cur, 72⟩] (by kernel_rfl) (fun w hO => Own.take hO (by simp) (by simp)) (yP 0 _ (v) rfl (by kernel_rfl) (by kernel_rfl) (by kernel_rfl) (zH (zJ (yE (zH (zJ zU))))) (fun w hO => Own.take hO (by simp) (by simp)) (by kernel_rfl) (fun _ _ => by kernel_rfl) (yP 1 _ (.slice (some ⟨g, 0, none⟩) cs.length ccap) rfl (by kernel_rfl) (by kernel_rfl) (by kernel_rfl) (zH (zJ (yE (zH (zJ zU))))) (fun w hO => Own.take hO (by simp) (by simp)) (by kernel_rfl) (fun _ _ => by kernel_rfl) (yP 2 _ (.int .i64 (k : Int)) rfl (by kernel_rfl) (by kernel_rfl) (by kernel_rfl) (zH (zJ (yE (zH (zJ zU))))) (fun w hO => Own.take hO (by simp) (by simp)) (by kernel_rfl) (fun _ _ => by kernel_rfl) (yP 3 _ (.pointer (some ⟨g, k * 7, none⟩)) rfl (by kernel_rfl) (by kernel_rfl) (by kernel_rfl) (zH (zJ (yE (zH (zJ zU))))) (fun w hO => Own.take hO (by simp) (by simp)) (by kernel_rfl) (fun w _ => qP (b := g) (off := 0) (n := cs.length) (c := ccap) (k := .i64) (j := (k : Int)) (e := 72) (sz := 7) rfl (by kernel_rfl) (by kernel_rfl) (by kernel_rfl) (by kernel_rfl) (by omega) (by omega) (by show 0 + k * 7 = k * 7; omega) w) (hl_load 4 _ 0 ⟨g, cur, 72⟩ (off := k * 7) (zC c) rfl (by kernel_rfl) (by kernel_rfl) (by kernel_rfl) (zH (zJ (yE (zH (zJ zU))))) (fun w hO => Own.take hO (by simp) (by simp)) (by kernel_rfl) rfl rfl (by kernel_rfl) (gT xE hcur k 0 (by omega) (by omega) _ (by rw [hc]; kernel_rfl)) (yP 5 _ (.slice (some ⟨g, 0, none⟩) cs.length ccap) rfl (by kernel_rfl) (by kernel_rfl) (by kernel_rfl) (zH (zJ (yE (zH (zJ zU))))) (fun w hO => Own.take hO (by simp) (by simp)) (by kernel_rfl) (fun _ _ => by kernel_rfl) (yP 6 _ (.int .i64 (k : Int)) rfl (by kernel_rfl) (by kernel_rfl) (by kernel_rfl) (zH (zJ (yE (zH (zJ zU))))) (fun w hO => Own.take hO (by simp) (by simp)) (by kernel_rfl) (fun _ _ => by kernel_rfl) (hl_sum (k := .i64) 7 _ ((k + 1 : Nat) : Int) rfl (by kernel_rfl) (by kernel_rfl) (by kernel_rfl) (zH (zJ (yE (zH (zJ zU))))) (fun w hO => Own.take hO (by simp) (by simp)) (by kernel_rfl) (fun _ => by kernel_rfl) (IntWalk.i64_in _ (by omega)) (yP 8 _ (.pointer (some ⟨g, (k + 1) * 7, none⟩)) rfl (by kernel_rfl) (by kernel_rfl) (by kernel_rfl) (zH (zJ (yE (zH (zJ zU))))) (fun w hO => Own.take hO (by simp) (by simp)) (by kernel_rfl) (fun w _ => qP (b := g) (off := 0) (n := cs.length) (c := ccap) (k := .i64) (j := ((k + 1 : Nat) : Int)) (e := 72) (sz := 7) rfl (by kernel_rfl) (by kernel_rfl) (by kernel_rfl) (by kernel_rfl) (by omega) (by omega) (by show 0 + (k + 1) * 7 = (k + 1) * 7; omega) w) (hl_load 9 _ 0 ⟨g, cur, 72⟩ (off := (k + 1) * 7) (zC d) rfl (by kernel_rfl) (by kernel_rfl) (by kernel_rfl) (zH (zJ (yE (zH (zJ zU))))) (fun w hO => Own.take hO (by simp) (by simp)) (by kernel_rfl) rfl rfl (by kernel_rfl) (gT xE hcur (k + 1) 0 (by omega) (by omega) _ (by rw [hd]; kernel_rfl)) ?_)))))))))))
      refine gJ 10 (by kernel_rfl) (fB _ (k := 86) (args := #[v, zC c, zC d]) (fun v' L' => ∃ ob', L' = ⟨g, cur, 72⟩ :: ob' ∧ SlS v' (gY out c d) ob') rfl (by kernel_rfl) (fun _ => by kernel_rfl) (fun w hO => grow_call c d hO hrel.sl (by omega) hrel.short hcS hdS) (fun v' L' ⟨ob', e, _⟩ => by subst e; exact (fun w hO => Own.take hO (by simp) (by simp))) (fun v2 L2 hv2 => ?_))
      obtain ⟨ob2, rfl, hs2⟩ := hv2
      exact yP 11 _ (v2) rfl (by kernel_rfl) (by kernel_rfl) (by kernel_rfl) (zH (zJ (yE (zH (zJ zU))))) (fun w hO => Own.take hO (by simp) (by simp)) (by kernel_rfl) (fun _ _ => by kernel_rfl) (wC (by kernel_rfl) (zR (z7 (zA (Zv (.int .i64 (k : Int)) (Zu (k := .i64) (((k + 1 : Nat) : Int)) (IntWalk.i64_in _ (by omega)) (Zv (.int .i64 ((k + 1 : Nat) : Int)) (zL (zY (m' := cs.length - (k + 1)) (by omega) ⟨k + 1, v2, gY out c d, ob2, _, hrel.grow hk hc hd (by simp [h1, h3, h4]) hcS hdS hs2, rfl, ZU, rfl⟩)))))))))
    | false =>
      exact Zf (yT (zR (z7 (zA (Zv (.int .i64 (k : Int)) (Zu (k := .i64) (((k + 1 : Nat) : Int)) (IntWalk.i64_in _ (by omega)) (Zv (.int .i64 ((k + 1 : Nat) : Int)) (zL (zY (m' := cs.length - (k + 1)) (by omega) ⟨k + 1, v, out, ob, _, hrel.keep hk hc hd (by simp [h1, h3, h4]), rfl, ZU, rfl⟩)))))))))
  refine Zd (p := ((k + 1 : Nat) : Int) < (cs.length : Int)) false (decide_eq_false (h3)) (ZX (xQ (yA (y5 (zW (z7 (ZO (Zv (v) ?_))))))))
  exact Zv (v) (Zv (.bool true) (ZN (zB (vM (v) (.bool true) Tryz.results54 (by kernel_rfl) (by kernel_rfl) (fun w hO => ⟨v, ob, by rw [hall], by rw [hall, if_pos rfl, show dR l = out from by unfold dR; rw [← hcs, hrel.eq, build_end _ _ _ _ (by omega)]]; exact hrel.sl, hO.sub [_]⟩)))))
end
section
end
section
theorem build_len (p : Cu → Cu → Bool) : ∀ (cs : List Cu) (out : List Sp), (kK p out cs).length ≤ out.length + cs.length
  | [], out => by unfold kK; simp
  | [c], out => by unfold kK; simp
  | c :: d :: r, out => by
    have ih := build_len p (d :: r) (if p c d then gY out c d else out)
    unfold kK
    have : (if p c d = true then gY out c d else out).length ≤ out.length + 1 := by
      split
      · exact grow_len out c d
      · omega
    simp only [List.length_cons] at ih ⊢
    omega
end
section
def minC (a b : Cu) : Cu := if 0 < zO a b then b else a
def maxC (a b : Cu) : Cu := if 0 < zO a b then a else b
def addL (l : List Sp) (c d : Cu) : List Sp := if (Sp.mk c d).may then l ++ [⟨c, d⟩] else l
def nstep (p : List Sp × Cu) (s : Sp) : List Sp × Cu := (addL p.1 p.2 s.lo, s.hi)
def notG (l : List Sp) : List Sp := addL (l.foldl nstep ([], zQ (-1))).1 (l.foldl nstep ([], zQ (-1))).2 (zQ 1)
def andG : Nat → List Sp → List Sp → List Sp → List Sp
  | n + 1, out, s :: a, u :: b => if s.hi = minC s.hi u.hi then andG n (addL out (maxC s.lo u.lo) (minC s.hi u.hi)) a (u :: b) else andG n (addL out (maxC s.lo u.lo) (minC s.hi u.hi)) (s :: a) b
  | _, out, _, _ => out
def mstep (out : List Sp) (s : Sp) : List Sp :=
  match out.getLast? with
  | none => [s]
  | some t => if zO t.hi s.lo < 0 then out ++ [s] else out.dropLast ++ [⟨t.lo, maxC t.hi s.hi⟩]
def SortedC : List Sp → Prop
  | [] => True
  | s :: r => (∀ t ∈ r, zO s.lo t.lo ≤ 0) ∧ SortedC r
end
section
theorem cutAt_len (c : UInt8) : ∀ s : List UInt8, s.length = (zN c s).1.length + (if (zN c s).2.2 then 1 + (zN c s).2.1.length else 0)
  | [] => rfl
  | b :: r => by
    unfold zN
    have ih := cutAt_len c r
    by_cases h : b = c
    · first | (simp [h]; done) | (subst h; simp; omega) | (simp [h]; omega)
    · first | (simp [h] at ih ⊢; omega) | (simp [h, Ne.symm h] at ih ⊢; omega)
theorem cutGo_short : ∀ (n : Nat) (s : List UInt8), (kQ n s).2 = true → s.length ≤ 9 * n
  | 0, s, h => by simp [kQ] at h
  | n + 1, s, h => by
    have hl := cutAt_len 46 s
    cases ht : kO (zN 46 s).1 with
    | false => rw [cutGo_bad n s ht] at h; cases h
    | true =>
      have h8 : (zN 46 s).1.length ≤ 8 := Nat.le_of_not_lt fun h2 => by rw [mJ h2] at ht; cases ht
      cases hm : (zN 46 s).2.2 with
      | false => rw [hm] at hl; simp at hl; omega
      | true =>
        rw [cutGo_on n s ht hm] at h
        have ih := cutGo_short n _ h
        rw [hm] at hl; simp at hl; omega
theorem tX {s : List UInt8} (h : qQ s = true) : s.length ≤ 36 := by
  rw [preOk_lst, Bool.and_eq_true] at h
  have h1 := h.1
  unfold lst at h1
  split at h1
  · rename_i h0
    have : s = [] := by simpa using h0
    subst this; exact Nat.zero_le _
  · have := cutGo_short _ _ h1; omega
theorem may_short {v : Ver} (h : v.may = true) (hb : v.build = []) : v.short := ⟨by have := tX (pB h); omega, by rw [hb]; exact Nat.zero_le _⟩
theorem cu_short {c : Cu} (h : c.may = true) : c.short := may_short (wB h) (gE h)
theorem sp_short {s : Sp} (h : s.may = true) : s.short := ⟨cu_short (xA h).1, cu_short (xA h).2⟩
structure RF (l : List Sp) (n : Nat) : Prop where
  may : zS l = true
  len : l.length ≤ n
theorem RF.short {l : List Sp} {n : Nat} (h : RF l n) : yL l := fun s hs => sp_short (vZ h.may s hs)
theorem cuts_len {l : List Sp} (hl : ∀ s ∈ l, s.may = true) : (g9 l).length ≤ 2 + 2 * l.length := by
  have h := (hX l (fun s hs => sp_short (hl s hs)) l.length (Nat.le_refl _)).1
  rwa [List.take_length] at h
theorem RF.make {l : List Sp} {n : Nat} (hl : ∀ s ∈ l, s.may = true) (hn : l.length ≤ n) : RF (dR l) (2 + 2 * n) := ⟨(make_ok hl).1, by
  have h1 := build_len (inL l) (g9 l) []
  have h2 := cuts_len hl
  unfold dR
  rw [List.length_nil] at h1
  omega⟩
section
variable {a b c : List Sp} (ha : zS a = true) (hb : zS b = true) (hc : zS c = true)
include ha in
end
end
section
section
variable {M : List Nat} {P : Program} {n : Nat} {W : World} {Q : Exit → Act → World → Prop} {L : List Blk} {f : Nat → Value}
def JoinQ (M : List Nat) (n : Nat) (W : World) (R : List Blk → (Nat → Value) → Prop) : Exit → Act → World → Prop
  | .normal, a, w => ∃ L f, R L f ∧ Own M W w L ∧ a = Fr n f
  | _, _, _ => False
end
end
section
def idxP (v : Ver) : List Sp → Int → Int
  | [], _ => -1
  | s :: r, k => if holdsC s v then k else idxP v r (k + 1)
end
section
theorem may_drop : ∀ (a b : List Sp), zS (a ++ b) = true → zS b = true
  | [], _, h => h
  | _ :: a, b, h => may_drop a b (jW h)
theorem may_take_bad {l : List Sp} {k : Nat} (hk : k < l.length) (h : l[k].may = false) : zS l = false := by
  cases h2 : zS l with
  | false => rfl
  | true => rw [vZ h2 _ (List.getElem_mem hk)] at h; cases h
theorem may_step {l : List Sp} {k : Nat} (hk : k < l.length) (h : zS (l.take k) = true) (hs : l[k].may = true) (hp : 0 < k → zO (l[k - 1]'(by omega)).hi l[k].lo < 0) : zS (l.take (k + 1)) = true := by
  rw [List.take_succ_eq_append_getElem hk]
  refine nZ h hs (fun s hs2 => ?_)
  by_cases h0 : k = 0
  · subst h0; simp at hs2
  · have e : s = l[k - 1]'(by omega) := by
      rw [List.getLast?_eq_getElem?, List.length_take, Nat.min_eq_left (by omega), List.getElem?_take, if_pos (by omega), List.getElem?_eq_getElem (by omega)] at hs2
      exact (Option.some.inj hs2).symm
    rw [e]; exact hp (by omega)
theorem may_not {l : List Sp} {k : Nat} (hk : k < l.length) (h0 : 0 < k) (h : ¬ zO (l[k - 1]'(by omega)).hi l[k].lo < 0) : zS l = false := by
  cases h2 : zS l with
  | false => rfl
  | true =>
    refine absurd ?_ h
    have e : l = l.take (k - 1) ++ (l[k - 1]'(by omega)) :: l[k] :: l.drop (k + 1) := by
      have e1 := (List.take_append_drop (k - 1) l).symm
      rw [List.drop_eq_getElem_cons (show k - 1 < l.length by omega)] at e1
      have e2 : l.drop (k - 1 + 1) = l[k] :: l.drop (k + 1) := by
        rw [show k - 1 + 1 = k from by omega, List.drop_eq_getElem_cons hk]
      rw [e2] at e1; exact e1
    have h3 : zS ((l[k - 1]'(by omega)) :: l[k] :: l.drop (k + 1)) = true := may_drop (l.take (k - 1)) _ (e ▸ h2)
    exact bJ h3 _ (List.mem_cons_self ..)
theorem may4_any (A : Option Addr) (cap : Nat) (l : List Sp) (W : World) (hv : Reads yB W W.heap.size A l) (hn : l.length ≤ 1000000) (hl : yL l) :
    Calls Tryz.prog 39 #[.slice A l.length cap] W fun e w' => e = .returned (.bool (zS l)) ∧ Below W.heap.size W w' := by
  refine zM (n := 30) Tryz.func39 rfl (by kernel_rfl) (by kernel_rfl) (ZO (Zv (.bool false) (ZN (z8 (ZO (Zv (.slice A l.length cap) (Zv (.int .i64 (l.length : Int)) (Zv (.int .i64 0) ?_))))))))
  refine ZN (zX (kH (fun L f m => ∃ (k : Nat) (j : Nat → Value), (k ≤ l.length ∧ zS (l.take k) = true) ∧ L = [] ∧ f = jD j [(0, .slice A l.length cap), (5, .slice A l.length cap), (6, .int .i64 (l.length : Int)), (7, .int .i64 (k : Int))] ∧ m = l.length - k) (l.length - 0) ⟨0, _, ⟨Nat.zero_le _, by rw [List.take_zero]; rfl⟩, rfl, ZU, rfl⟩ ?_))
  rintro L f m ⟨k, j, hrel, rfl, rfl, rfl⟩
  have hkl := hrel.1
  refine z8 (zA ?_)
  by_cases h1 : (k : Int) < (l.length : Int)
  · have hk : k < l.length := by omega
    obtain ⟨b, off, hA, hlt, hcell⟩ := hv (by omega)
    obtain ⟨s, hs⟩ : ∃ s, l[k] = s := ⟨_, rfl⟩
    have hsk : s.short := hs ▸ hl l[k] (List.getElem_mem hk)
    refine Zd (p := (k : Int) < (l.length : Int)) true (decide_eq_true (h1)) (ZN (z8 (Zt (ZB (z8 (zX (ZO (Zv (.int .i64 (k : Int)) ?_))))))))
    refine zK (.pointer (some ⟨b, off + k * 14, none⟩)) (by kernel_rfl) (ZA (b := b) (off := off) (c := cap) (n := l.length) (k := .i64) (j := (k : Int)) (e := 74) (sz := 14) hA) (Zo (zF s) (a := ⟨b, off + k * 14, none⟩) (fun w hO => yH yD (fun j u h => (hO.below.cell (p := ⟨b, off + j, none⟩) hlt).trans (hcell j u h)) k 0 hk (by omega) _ (by rw [hs]; kernel_rfl)) (Za (.agg #[.int .i64 0, .int .i64 0, .int .i64 0, .int .i64 0, .string ⟨#[]⟩, .string ⟨#[]⟩, .bool false, .int .i64 0, .int .i64 0, .int .i64 0, .int .i64 0, .string ⟨#[]⟩, .string ⟨#[]⟩, .bool false]) (fun b1 => Zv (.int .i64 (k : Int)) (Zs 0 ⟨b1, #[.int .i64 0, .int .i64 0, .int .i64 0, .int .i64 0, .string ⟨#[]⟩, .string ⟨#[]⟩, .bool false, .int .i64 0, .int .i64 0, .int .i64 0, .int .i64 0, .string ⟨#[]⟩, .string ⟨#[]⟩, .bool false], 74⟩ (off := 0) (zF s) (ZN (z8 (ZO (Zl 0 ⟨b1, (zF s).cells, 74⟩ (off := 0) (zF s) (Zc (k := 65) (args := #[zF s]) (.bool s.may) (fun w _ => spanMay_any s w hsk) ?_)))))))))
    cases h2 : s.may with
    | true =>
      refine Zv (.bool false) (ZX (ZB (z8 (g7 (by kernel_rfl) (by kernel_rfl) (Zw (.int .i64 (k : Int)) ?_)))))
      by_cases h3 : (0 : Int) < (k : Int)
      · have hk1 : k - 1 < l.length := by omega
        obtain ⟨p, hp⟩ : ∃ p, l[k - 1] = p := ⟨_, rfl⟩
        have hpk : p.short := hp ▸ hl l[k - 1] (List.getElem_mem hk1)
        refine Ze (p := (0 : Int) < (k : Int)) true (decide_eq_true (h3)) (Zw (.bool true) (Zw (.slice A l.length cap) (Zw (.int .i64 (k : Int)) (p5 (k := .i64) (((k : Int) : Int) - 1) (by kernel_rfl) (fun _ => by kernel_rfl) (IntWalk.i64_in _ (by omega)) (kL (.pointer (some ⟨b, off + (k - 1) * 14, none⟩)) (by kernel_rfl) (ZA (b := b) (off := off) (c := cap) (n := l.length) (k := .i64) (j := (k : Int) - 1) (e := 74) (sz := 14) hA) (Zw (.pointer (some ⟨b, off + (k - 1) * 14 + 7, none⟩)) (p6 (zC p.hi) (a := ⟨b, off + (k - 1) * 14 + 7, none⟩) (by kernel_rfl) rfl (by kernel_rfl) (fun w hO => yH yD (fun j u h => (hO.below.cell (p := ⟨b, off + j, none⟩) hlt).trans (hcell j u h)) (k - 1) 7 (by omega) (by omega) _ (by rw [hp]; kernel_rfl)) (Zw (.pointer (some ⟨b1, 0, none⟩)) (Zm 0 ⟨b1, (zF s).cells, 74⟩ (off := 0) (.agg #[.int .i64 s.lo.e, .int .i64 s.lo.v.maj, .int .i64 s.lo.v.min, .int .i64 s.lo.v.pat, .string (mkS s.lo.v.pre), .string (mkS s.lo.v.build), .bool s.lo.aft]) (Zq (k := 66) (args := #[zC p.hi, .agg #[.int .i64 s.lo.e, .int .i64 s.lo.v.maj, .int .i64 s.lo.v.min, .int .i64 s.lo.v.pat, .string (mkS s.lo.v.pre), .string (mkS s.lo.v.build), .bool s.lo.aft]]) (.int .i64 (zO p.hi s.lo)) (fun w _ => cmpC_any p.hi s.lo w hpk.2 hsk.1) ?_))))))))))
        by_cases h4 : (0 : Int) ≤ zO p.hi s.lo
        · refine mD (p := (0 : Int) ≤ zO p.hi s.lo) true (by kernel_rfl) (fun _ => by kernel_rfl) (decide_eq_true (h4)) ?_
          refine Zw (.bool true) (xP (z7 (Zt (ZO (Zv (.bool false) (ZN (zB (zD (z6 ?_)))))))))
          exact yG (zD (z6 (ZF (.bool false) Tryz.results39 (fun w hO => ⟨by rw [may_not hk (by omega) (by simp only [hp, hs]; omega)], hO.below⟩))))
        refine Ze (p := (0 : Int) ≤ zO p.hi s.lo) false (decide_eq_false (h4)) (Zw (.bool false) (xP (z7 (Zf (yT (zR (z7 (zA (Zu (k := .i64) (((k + 1 : Nat) : Int)) (IntWalk.i64_in _ (by omega)) (Zv (.int .i64 ((k + 1 : Nat) : Int)) (zL ?_)))))))))))
        have hnext : zS (l.take (k + 1)) = true := may_step hk hrel.2 (by rw [hs]; assumption) (fun h0 => by simp only [hp, hs]; omega)
        exact xT (fun w hO => Own.sub [_] hO) (zY (m' := l.length - (k + 1)) (by omega) ⟨k + 1, _, ⟨by omega, hnext⟩, rfl, ZU, rfl⟩)
      refine Ze (p := (0 : Int) < (k : Int)) false (decide_eq_false (h3)) (Zw (.bool false) (Zj (Zj (Zj (Zj (Zj (Zj (Zj (Zj (Zj (Zj ?_)))))))))))
      refine Zw (.bool false) (xP (z7 (Zf (yT (zR (z7 (zA (Zu (k := .i64) (((k + 1 : Nat) : Int)) (IntWalk.i64_in _ (by omega)) (Zv (.int .i64 ((k + 1 : Nat) : Int)) (zL ?_))))))))))
      have hnext : zS (l.take (k + 1)) = true := may_step hk hrel.2 (by rw [hs]; assumption) (fun h0 => absurd h0 (by omega))
      exact xT (fun w hO => Own.sub [_] hO) (zY (m' := l.length - (k + 1)) (by omega) ⟨k + 1, _, ⟨by omega, hnext⟩, rfl, ZU, rfl⟩)
    | false =>
      refine Zv (.bool true) (ZY (ZO (Zv (.bool false) (ZN (zB (z6 (zD ?_)))))))
      exact z6 (yG (zD (z6 (ZF (.bool false) Tryz.results39 (fun w hO => ⟨by rw [may_take_bad hk (by rw [hs]; assumption)], hO.below⟩)))))
  refine Zd (p := (k : Int) < (l.length : Int)) false (decide_eq_false (h1)) (ZN (z8 (Zf (xQ (yA (y5 (zW (z7 (z8 (zA ?_))))))))))
  exact Zv (.bool true) (ZN (zB (ZF (.bool true) Tryz.results39 (fun w hO => ⟨by have h := hrel.2; rw [List.take_of_length_le (by omega)] at h; rw [h], hO.below⟩))))
end
section
section
variable {M : List Nat} {P : Program} {n0 : Nat} {ops : Array Oper} {W : World} {Q : Exit → Act → World → Prop} {rest : List Oper} {o : Oper} {L : List Blk} {f : Nat → Value}
end
theorem run_sllA {P : Program} {ρ : Operand → Value} {o : Oper} {t e : TypeId} {x y : Operand} {A : Option Addr} {b off n c sz : Nat} {k : IntKind} {j : Int} (ho : o.op = .slice t x (some y) none none) (hx : ρ x = .slice A n c) (hA : A = some ⟨b, off, none⟩) (hy : ρ y = .int k j)
    (hu : P.underlying t = some (.slice e)) (hs : (P.info? e).map (·.size) = some sz) (h0 : 0 ≤ j) (h1 : j ≤ n) (w : World) : (execOp ρ o).run P w = .ok (.value (.slice (some ⟨b, off + (if c = j.toNat then 0 else j.toNat * sz), none⟩) (n - j.toNat) (c - j.toNat))) w := by
  subst hA
  exact run_sllo ho hx hy hu hs h0 h1 w
end
section
section
variable {M : List Nat} {P : Program} {n : Nat} {ops : Array Oper} {W : World} {Q : Exit → Act → World → Prop} {rest : List Oper} {o : Oper} {L : List Blk} {f : Nat → Value} {Qe : List Blk → (Nat → Value) → Prop}
theorem fS (x : Blk) {ty : TypeId} {p : Operand} {off : Nat} (v : Value) (hw : xD ops n f o = true) (ho : o.op = .load ty p) (hL : x ∈ L) (hp : ev n f p = .pointer (some ⟨x.b, off, none⟩)) (hv : kA P ty x.cs off = some v)
    (h : Seg M P n ops W Q rest L (upd f o.dst v)) : Seg M P n ops W Q (o :: rest) L f :=
  s_read v hw (fun _ hO => gH ho hp (qB hv (hO.held x hL))) h
end
end
section
theorem run_sl2 {P : Program} {ρ : Operand → Value} {o : Oper} {t e : TypeId} {x y z : Operand} {A : Option Addr} {b off n c sz : Nat} {k q : IntKind} {i j : Int} (ho : o.op = .slice t x (some y) (some z) none) (hx : ρ x = .slice A n c) (hA : A = some ⟨b, off, none⟩) (hy : ρ y = .int k i) (hz : ρ z = .int q j)
    (hu : P.underlying t = some (.slice e)) (hs : (P.info? e).map (·.size) = some sz) (h0 : 0 ≤ i) (h1 : i ≤ j) (h2 : j ≤ c) (w : World) : (execOp ρ o).run P w = .ok (.value (.slice (some ⟨b, off + (if c = i.toNat then 0 else i.toNat * sz), none⟩) (j.toNat - i.toNat) (c - i.toNat))) w := by
  subst hA
  cases he : P.info? e with
  | none => rw [he] at hs; cases hs
  | some u =>
    rw [he] at hs
    obtain rfl := Option.some.inj hs
    have h3 : 0 ≤ j := Int.le_trans h0 h1
    unfold execOp
    by_cases hc : c = i.toNat
    · simp [ho, hx, hy, hz, Instr.sliceAt, Instr.slice, Instr.sliceBounds, Instr.sliceBound, Sem.run_bind, asIntOf, run_underlying hu, h0, h1, h2, h3, sizeOf, typeInfo, he, yM, hc]
      try (rw [if_pos (by omega), if_pos (by omega)])
    · simp [ho, hx, hy, hz, Instr.sliceAt, Instr.slice, Instr.sliceBounds, Instr.sliceBound, Sem.run_bind, asIntOf, run_underlying hu, h0, h1, h2, h3, sizeOf, typeInfo, he, yM, hc]
      try (first | omega | (rw [if_pos (by omega), if_pos (by omega)]))
end
section
theorem Own.sublist {M : List Nat} {W w : World} {L L' : List Blk} (h : Own M W w L) (hs : List.Sublist L' L) : Own M W w L' := h.take (fun x hx => hs.subset hx) (h.apart.sublist (hs.map _))
end
section
def Bu (b : Nat) (l : List UInt8) (ob : List Blk) : Prop :=
  ∃ p v g, ob = ⟨b, #[p, v], 46⟩ :: g ∧ (p = .pointer none ∨ p = .pointer (some ⟨b, 0, none⟩)) ∧ Sl 5 1 v l.length (Lib.byteCells l) g
theorem Bu.new (b : Nat) : Bu b [] [⟨b, #[.pointer none, .slice none 0 0], 46⟩] := ⟨_, _, [], rfl, .inl rfl, Sl.nil _ _⟩
theorem sizeWriter : (Tryz.prog.info? 44).map (·.size) = some 2 := by kernel_rfl
theorem liesWriter : liesAt Tryz.prog Tryz.prog.depth 46 (2 / Tryz.prog.cellsOf 46) 0 44 1 = true := by kernel_rfl
theorem copyCheck_new (b : Nat) (w : World) (h0 : w.cell? ⟨b, 0, none⟩ = some (.pointer none)) (hsh : w.shape? b = some (46, 2)) (hfz : w.frozen? ⟨b, 0, none⟩ = false) :
    Calls Tryz.prog 42 #[.pointer (some ⟨b, 0, none⟩)] w fun e w' => e = .returned (.tuple #[]) ∧ w' = w.setCell ⟨b, 0, none⟩ (.pointer (some ⟨b, 0, none⟩)) := by
  obtain ⟨j, hj, hjs⟩ := Option.map_eq_some_iff.1 sizeWriter
  go_enter Tryz.func42, Tryz.ntmps42
  go_wp2
  rw [Lib.run_to_unsafe w ⟨b, 0, none⟩ Tryz.underlying42 Tryz.underlying108 hj (by rw [hjs]; decide) hsh (Nat.zero_lt_succ 1)]
  simp only [Result.andThen]
  rw [Oper.upon_value]
  go_wp2
  rw [run_callFunc_extern Tryz.func70 (by kernel_rfl) (by kernel_rfl) (by kernel_rfl) (e := Extern.AbiNoEscape.same) (by kernel_rfl)]
  rw [Lib.run_noEscape]
  simp only [Result.andThen]
  rw [Oper.upon_value]
  go_wp2
  rw [Lib.run_from_unsafe w ⟨b, 0, none⟩ Tryz.underlying108 Tryz.underlying42 hj hsh liesWriter]
  simp only [Result.andThen]
  rw [Oper.upon_value]
  go_wp2
  go_end0
  exact ⟨rfl, rfl⟩
theorem wcheck_any (b : Nat) (p v : Value) (R : List Blk) (M : List Nat) (W w : World) (hp : p = .pointer none ∨ p = .pointer (some ⟨b, 0, none⟩)) (hO : Own M W w (⟨b, #[p, v], 46⟩ :: R)) :
    Calls Tryz.prog 42 #[.pointer (some ⟨b, 0, none⟩)] w fun e w' => e = .returned (.tuple #[]) ∧ Own M W w' (⟨b, #[.pointer (some ⟨b, 0, none⟩), v], 46⟩ :: R) := by
  have hb : w.heap[b]? = some (.cells #[p, v] 46 (0, 0)) := hO.held ⟨b, #[p, v], 46⟩ (List.mem_cons_self ..)
  have c0 : w.cell? ⟨b, 0, none⟩ = some p := by rw [Lib.cell_of_heap hb]; rfl
  rcases hp with rfl | rfl
  · refine (copyCheck_new b w c0 (by simp [World.shape?, hb]) (Lib.frozen_of_heap hb 0)).mono fun e w' ⟨he, hw⟩ => ⟨he, ?_⟩
    rw [hw, setCell_eq_setRow w b 0 _ _ _ _ hb]
    exact hO.put (i := 0) (x := ⟨b, #[.pointer none, v], 46⟩) rfl _
  · exact (fJ b w c0).mono fun e w' ⟨he, hw⟩ => ⟨he, hw ▸ hO⟩
theorem infoU8 : ∃ i, Tryz.prog.info? 5 = some i ∧ i.zero = some (.int .u8 0) ∧ i.size = 1 ∧ i.bytes = 1 := info_parts infoByte
theorem Own.back {ob ob' R : List Blk} {M : List Nat} {W w w' : World} (h : Own M W w (ob ++ R)) (hc : Own (ob.map Blk.b) w w' ob') : Own M W w' (ob' ++ R) := Own.join h hc
theorem Own.lent {ob R : List Blk} {M : List Nat} {W w : World} (h : Own M W w (ob ++ R)) : Own (ob.map Blk.b) w w ob := Own.lend (h.sublist (List.sublist_append_left _ _))
theorem bu_own {B b : Nat} {l : List UInt8} {ob : List Blk} {M : List Nat} {W w : World} (hB : Bu b l ob) (hO : Own M W w ob) (hM : ∀ x ∈ ob, B ≤ x.b) : Lib.IsBuilder 46 5 B b (Lib.byteCells l) w := by
  obtain ⟨p, v, g, rfl, hp, hv⟩ := hB
  have hb : w.heap[b]? = some (.cells #[p, v] 46 (0, 0)) := hO.held ⟨b, #[p, v], 46⟩ (List.mem_cons_self ..)
  have key : Lib.BuilderAt 46 5 B b p (Lib.byteCells l) w := by
    refine ⟨hM ⟨b, #[p, v], 46⟩ (List.mem_cons_self ..), v, hb, ?_, ?_⟩
    · rw [Lib.byteCells_length]
      refine ⟨hv.1, ?_⟩
      rcases hv.2 with ⟨h1, h2, _⟩ | ⟨k, cap, cur, h1, rfl, h3, h4, h5, h6⟩
      · exact .inl ⟨h1, h2⟩
      · exact .inr ⟨k, cap, cur, h1, hM ⟨k, cur, 5⟩ (by simp), hO.held ⟨k, cur, 5⟩ (by simp), h3, h4, h5, h6⟩
    · rcases hv.2 with ⟨rfl, _, _⟩ | ⟨k, cap, cur, rfl, rfl, _⟩
      · simp [Value.ownBlock]
      · intro e
        have hk : k = b := by simpa [Value.ownBlock] using e
        have := hO.apart
        simp [hk] at this
  rcases hp with rfl | rfl
  · exact .inl key
  · exact .inr key
theorem wstring_any0 (B b : Nat) (l : List UInt8) (w : World) (h : Lib.IsBuilder 46 5 B b (Lib.byteCells l) w) (h0 : l ≠ []) :
    Calls Tryz.prog 24 #[.pointer (some ⟨b, 0, none⟩)] w fun e w' => e = .returned (.string ⟨l.toArray⟩) ∧ Below B w w' := by
  obtain ⟨p, hB, v, hbk, hown, hne⟩ : ∃ p, Lib.BuilderAt 46 5 B b p (Lib.byteCells l) w := h.elim (fun q => ⟨_, q⟩) (fun q => ⟨_, q⟩)
  rcases hown.2 with ⟨_, hz⟩ | ⟨g, cap, cur, rfl, hbg, hg, hnc, hcm, hcs, htake⟩
  · exact absurd hz (pP h0)
  rw [Lib.byteCells_length] at hown hnc hbk htake
  have hl0 : l.length ≠ 0 := fun e => h0 (List.eq_nil_of_length_eq_zero e)
  have hg' : w.drew.heap[g]? = some (.cells cur 5 (0, 0)) := hg
  have c1 : w.drew.cell? ⟨b, 1, none⟩ = some (.slice (some ⟨g, 0, none⟩) l.length cap) := by
    rw [Lib.cell_of_heap (show w.drew.heap[b]? = _ from hbk)]; rfl
  have hSD := Lib.run_unsafeSliceData_row (P := Tryz.prog) w.drew #[35] 81 ⟨g, 0, none⟩ l.length cap (by omega)
  have hUS := Lib.run_unsafeString_row (P := Tryz.prog) w.drew 81 3 9 5 Tryz.underlying81 (by kernel_rfl) g cur.size (by unfold World.shape?; rw [hg']) l h0 (by omega) (by unfold maxLen at hcm; omega)
    (fun j x hx => hown.cells (g := g) rfl j (.int .u8 x.toNat) (by simp [Lib.byteCells, hx]))
  go_enter Tryz.func24, Tryz.ntmps24
  go_wp2
  have mixed : Tryz.prog.follows .mixedOrders = true := by kernel_rfl
  go_region_o
  all_goals
    go_wp2
    go_ret
    have hf := Lib.below_freeze (Go.RowKit.Below.drew (Go.RowKit.Below.refl B w)) (p := ⟨g, 0, none⟩) hbg l.length
    exact ⟨rfl, hf.os, hf.tape, hf.output, hf.size, by rw [pK]; exact Nat.le_succ _, hf.block⟩
theorem tP (b : Nat) (l : List UInt8) (ob : List Blk) (W w : World) (hB : Bu b l ob) (hO : Own [] W w ob) (h0 : l ≠ []) :
    Calls Tryz.prog 24 #[.pointer (some ⟨b, 0, none⟩)] w fun e w' => e = .returned (.string (mkS l)) ∧ Own [] W w' [] :=
  (wstring_any0 W.heap.size b l w (bu_own hB hO fun x hx => (hO.base x hx).elim id fun q => by simp at q) h0).mono fun e w' ⟨he, hb⟩ => by
    have hb2 := hO.below.trans hb
    exact ⟨he, hb2.os, hb2.tape, hb2.output, hb2.size, hb2.drawn, fun k hk _ => hb2.block k hk, by simp, by simp, by simp⟩
end
section
def bumpN (v : Ver) (k : Nat) : Ver := if k = 0 then Ver.rel (v.maj + 1) 0 0 else if k = 1 then Ver.rel v.maj (v.min + 1) 0 else Ver.rel v.maj v.min (v.pat + 1)
def zZ (v : Ver) (part : Int) : Bool := v.may && decide (0 ≤ part ∧ part < 3) && !(v6 v.maj v.min v.pat part.toNat == 9999)
def x3 (v : Ver) (part : Int) : Ver := if zZ v part then bumpN v part.toNat else Ver.zero
def BEnd (v : Ver) (part : Int) (w : World) (e : Ending) (w' : World) : Prop := e = .returned (.tuple #[zP (x3 v part), .bool (zZ v part)]) ∧ Below w.heap.size w w'
theorem empty_mk2 (b : List UInt8) : (mkS b).toList.isEmpty = b.isEmpty := by rw [Lib.toList_data, mk_data]
theorem qL {v u : Ver} {part : Int} {b : Bool} {w wr : World} {tmps : Array Value} {old : Array Value} (h2 : tmps.getD 4 undef = .pointer (some ⟨w.heap.size + 1, 0, none⟩)) (h3 : tmps.getD 5 undef = .bool b)
    (hg : wr.heap[w.heap.size + 1]? = some (.cells old 70)) (hbel : Below w.heap.size w wr) (hb : zZ v part = b) (hv : x3 v part = u) :
    bodyPost Tryz.prog Tryz.f160 (BEnd v part w) .ret ⟨tmps, []⟩ (wr.setRow (w.heap.size + 1) #[.int .i64 u.maj, .int .i64 u.min, .int .i64 u.pat, .string (mkS u.pre), .string (mkS u.build)]) := by
  have hrow := setRow_heap wr (w.heap.size + 1) _ #[.int .i64 u.maj, .int .i64 u.min, .int .i64 u.pat, .string (mkS u.pre), .string (mkS u.build)] _ _ hg
  have hr := run_loadVar_row (P := Tryz.prog) _ (w.heap.size + 1) 70 70 _ _ _ hrow Tryz.underlying70 rfl (by kernel_rfl)
  have h2' : tmps[4]?.getD undef = .pointer (some ⟨w.heap.size + 1, 0, none⟩) := by simpa using h2
  have h3' : tmps[5]?.getD undef = .bool b := by simpa using h3
  refine bodyPost_ret (v := .tuple #[zP u, .bool b]) (by simp [results, Tryz.results160, asAddr, h2', h3', hr, zP]) rfl ⟨by rw [hv, hb], xI hbel (by omega) _⟩
theorem zeroInt (w : World) : (zeroValue 3).run Tryz.prog w = .ok (.int .i64 0) w := by kernel_rfl
theorem bF {w : World} {N k : Nat} {a b c : Value} (x : Value) (hg : w.heap[N]? = some (.cells #[a, b, c] 128)) : w.setCell ⟨N, k, none⟩ x = w.setRow N ((#[a, b, c] : Array Value).setIfInBounds k x) := setCell_eq_setRow _ _ _ _ _ _ _ hg
theorem jV (w : World) (g : Nat) (a b : Array Value) : (w.setRow g a).setRow g b = w.setRow g b := setRow_setRow _ _ _ _
theorem clear_two {w : World} {N : Nat} {a b c : Int} {old : Array Value} (hg : w.heap[N]? = some (.cells old 128)) (_ho : old.size = 3) :
    (Builtin.clear_ #[33] 0 #[.slice (some ⟨N, 1, none⟩) 2 2]).run Tryz.prog (w.setRow N #[.int .i64 a, .int .i64 b, .int .i64 c]) = .ok (.tuple #[]) (w.setRow N #[.int .i64 a, .int .i64 0, .int .i64 0]) := by
  have h1 := setRow_heap w N old #[.int .i64 a, .int .i64 b, .int .i64 c] _ _ hg
  obtain ⟨n1, m1⟩ := y6 (j := 1) h1 (by simp)
  obtain ⟨n2, m2⟩ := y6 (j := 2) h1 (by simp)
  have := Lib.run_clear_slice (P := Tryz.prog) (w.setRow N #[.int .i64 a, .int .i64 b, .int .i64 c]) 33 3 0 (.int .i64 0) Tryz.underlying33 zeroInt rfl rfl N 1 2 2 (by omega)
    (fun j hj => by match j, hj with | 0, _ => rw [n1]; rfl | 1, _ => rw [n2]; rfl) (fun j hj => by match j, hj with | 0, _ => exact m1 | 1, _ => exact m2)
  rw [this]
  congr 1
  show ((w.setRow N #[.int .i64 a, .int .i64 b, .int .i64 c]).setCell ⟨N, 1, none⟩ (.int .i64 0)).setCell ⟨N, 2, none⟩ (.int .i64 0) = _
  rw [bF _ h1, jV]
  have h2 := setRow_heap w N old ((#[.int .i64 a, .int .i64 b, .int .i64 c] : Array Value).setIfInBounds 1 (.int .i64 0)) _ _ hg
  rw [bF (a := .int .i64 a) (b := .int .i64 0) (c := .int .i64 c) _ h2, jV]
  rfl
theorem clear_one {w : World} {N : Nat} {a b c : Int} {old : Array Value} (hg : w.heap[N]? = some (.cells old 128)) (_ho : old.size = 3) :
    (Builtin.clear_ #[33] 0 #[.slice (some ⟨N, 2, none⟩) 1 1]).run Tryz.prog (w.setRow N #[.int .i64 a, .int .i64 b, .int .i64 c]) = .ok (.tuple #[]) (w.setRow N #[.int .i64 a, .int .i64 b, .int .i64 0]) := by
  have h1 := setRow_heap w N old #[.int .i64 a, .int .i64 b, .int .i64 c] _ _ hg
  obtain ⟨n2, m2⟩ := y6 (j := 2) h1 (by simp)
  have := Lib.run_clear_slice (P := Tryz.prog) (w.setRow N #[.int .i64 a, .int .i64 b, .int .i64 c]) 33 3 0 (.int .i64 0) Tryz.underlying33 zeroInt rfl rfl N 2 1 1 (by omega)
    (fun j hj => by match j, hj with | 0, _ => rw [n2]; rfl) (fun j hj => by match j, hj with | 0, _ => exact m2)
  rw [this]
  congr 1
  show (w.setRow N #[.int .i64 a, .int .i64 b, .int .i64 c]).setCell ⟨N, 2, none⟩ (.int .i64 0) = _
  rw [bF _ h1, jV]
  rfl
theorem clear_none {w : World} (x : Option Addr) (c : Nat) : (Builtin.clear_ #[33] 0 #[.slice x 0 c]).run Tryz.prog w = .ok (.tuple #[]) w := by
  cases x <;> simp [Builtin.clear_, run_underlying Tryz.underlying33]
theorem bump_go (v : Ver) (part : Int) (w : World) (hp : v.pre.length ≤ 1000000) (hq : v.build.length ≤ 1000000) :
    Calls Tryz.prog 160 #[zP v, .int .i64 part] w (BEnd v part w) := by
  have cM := fun w' => vI v w' (by omega) (by omega)
  have cN := fun w' => wT v w'
  have hN : v.may = true → (0 ≤ v.maj ∧ v.maj ≤ 9999) ∧ (0 ≤ v.min ∧ v.min ≤ 9999) ∧ (0 ≤ v.pat ∧ v.pat ≤ 9999) := fun h => by
    obtain ⟨h1, h2, h3⟩ := vH h
    unfold zV at h1 h2 h3; simp at h1 h2 h3
    exact ⟨h1, h2, h3⟩
  obtain ⟨u, hu⟩ : ∃ u, u = v := ⟨_, rfl⟩
  have HU := Lib.hid hu
  rw [← hu] at hN
  have hgo : BEnd v part w = BEnd u part w := by rw [hu]
  rw [hgo]
  obtain ⟨m, hm⟩ : ∃ m, u.may = m := ⟨_, rfl⟩
  rw [← hu, hm] at cM
  rw [← hu] at cN ⊢
  clear hgo hu
  obtain ⟨a, b, c, p, q⟩ := u
  unfold zP at cM cN ⊢
  dsimp only at cM cN hN ⊢
  go_enter Tryz.func160, Tryz.ntmps160
  go_wp2_with fail
  refine (cN _).mono ?_
  rintro e w1 ⟨rfl, hb1⟩
  have hz1 := hb1.size
  simp only [zE] at hz1
  have hgB := Lib.hid ((hb1.block w.heap.size (by simp only [zE]; omega)).trans ((yO _ _ (by simp only [zE]; omega)).trans (yZ w _)))
  have hgR := Lib.hid ((hb1.block (w.heap.size + 1) (by simp only [zE]; omega)).trans (vL _ _ _ (by simp only [zE])))
  have hbw : Below w.heap.size w w1 := (((Below.refl _ _).alloc (Nat.le_refl _) _).alloc (by simp only [zE]; omega) _).trans (hb1.mono (by simp only [zE]; omega))
  have hlB : w.heap.size < w1.heap.size := by omega
  go_wp2_with (first | (refine wpList_load_row rfl 70 _ rfl w.heap.size rfl _ _ _ _ ((yO _ _ hlB).trans hgB.out) Tryz.underlying70 rfl (by kernel_rfl) ?_) | fail)
  refine (cM _).mono ?_
  rintro e w2 ⟨rfl, hb2⟩
  have hz2 := hb2.size
  rw [zE] at hz2
  have hgR2 := Lib.hid ((hb2.block (w.heap.size + 1) (by rw [zE]; omega)).trans ((yO _ _ (by omega)).trans hgR.out))
  have hgN := Lib.hid ((hb2.block w1.heap.size (by rw [zE]; omega)).trans (yZ w1 _))
  have hbw2 : Below w.heap.size w w2 := (hbw.alloc (by omega) _).trans (hb2.mono (by rw [zE]; omega))
  clear hbw hb1 hb2 hgB hgR cM cN
  cases m with
  | false =>
    have HB : Hid (zZ ⟨a, b, c, p, q⟩ part = false) := by show _ = _; unfold zZ; rw [hm]; rfl
    clear hm hN
    go_wp2_with (refine wpList_store_row rfl 70 _ _ rfl (w.heap.size + 1) #[.int .i64 0, .int .i64 0, .int .i64 0, .string ⟨#[]⟩, .string ⟨#[]⟩] rfl rfl _ _ hgR2.out (by kernel_rfl) rfl (yS _ _ _ _ _) ?_)
    exact qL (u := Ver.zero) rfl rfl hgR2.out hbw2 HB.out (by unfold x3; rw [HB.out]; rfl)
  | true =>
    obtain ⟨⟨a0, a9⟩, ⟨b0, b9⟩, ⟨c0, c9⟩⟩ := hN hm
    have HM := Lib.hid hm
    clear hN hm
    by_cases p0 : part < 0
    · have HB : Hid (zZ ⟨a, b, c, p, q⟩ part = false) := by show _ = _; unfold zZ; rw [decide_eq_false (by omega)]; simp
      go_wp2_with (refine wpList_store_row rfl 70 _ _ rfl (w.heap.size + 1) #[.int .i64 0, .int .i64 0, .int .i64 0, .string ⟨#[]⟩, .string ⟨#[]⟩] rfl rfl _ _ hgR2.out (by kernel_rfl) rfl (yS _ _ _ _ _) ?_)
      exact qL (u := Ver.zero) rfl rfl hgR2.out hbw2 HB.out (by unfold x3; rw [HB.out]; rfl)
    · by_cases p3 : 3 ≤ part
      · have HB : Hid (zZ ⟨a, b, c, p, q⟩ part = false) := by show _ = _; unfold zZ; rw [decide_eq_false (by omega)]; simp
        go_wp2_with (refine wpList_store_row rfl 70 _ _ rfl (w.heap.size + 1) #[.int .i64 0, .int .i64 0, .int .i64 0, .string ⟨#[]⟩, .string ⟨#[]⟩] rfl rfl _ _ hgR2.out (by kernel_rfl) rfl (yS _ _ _ _ _) ?_)
        exact qL (u := Ver.zero) rfl rfl hgR2.out hbw2 HB.out (by unfold x3; rw [HB.out]; rfl)
      · obtain ⟨n0, m0⟩ := y6 (j := 0) hgN.out (by simp)
        obtain ⟨n1, m1⟩ := y6 (j := 1) hgN.out (by simp)
        obtain ⟨n2, m2⟩ := y6 (j := 2) hgN.out (by simp)
        simp only [List.getElem_toArray, List.getElem_cons_succ, List.getElem_cons_zero] at n0 n1 n2
        have hpart : part = 0 ∨ part = 1 ∨ part = 2 := by omega
        clear p0 p3
        rcases hpart with rfl | rfl | rfl
        · by_cases h9 : a = 9999
          · have h9b : (a == 9999) = true := by simpa using h9
            have HB : Hid (zZ ⟨a, b, c, p, q⟩ 0 = false) := by show _ = _; unfold zZ; rw [show v6 a b c (0 : Int).toNat = a from rfl, h9b]; simp
            clear h9
            go_wp2_with (refine wpList_store_row rfl 70 _ _ rfl (w.heap.size + 1) #[.int .i64 0, .int .i64 0, .int .i64 0, .string ⟨#[]⟩, .string ⟨#[]⟩] rfl rfl _ _ hgR2.out (by kernel_rfl) rfl (yS _ _ _ _ _) ?_)
            exact qL (u := Ver.zero) rfl rfl hgR2.out hbw2 HB.out (by unfold x3; rw [HB.out]; rfl)
          · have h9b : (a == 9999) = false := by simpa using h9
            have HB : Hid (zZ ⟨a, b, c, p, q⟩ 0 = true) := by show _ = _; unfold zZ; rw [HM.out, show v6 a b c (0 : Int).toNat = a from rfl, h9b]; rfl
            have hW : (w2.setCell ⟨w1.heap.size, 0, none⟩ (.int .i64 (a + 1))) = w2.setRow w1.heap.size #[.int .i64 (a + 1), .int .i64 (b), .int .i64 (c)] := bF _ hgN.out
            have hcl : (Builtin.clear_ #[33] 0 #[.slice (some ⟨w1.heap.size, 1, none⟩) 2 2]).run Tryz.prog (w2.setRow w1.heap.size #[.int .i64 (a + 1), .int .i64 (b), .int .i64 (c)]) = .ok (.tuple #[]) (w2.setRow w1.heap.size #[.int .i64 (a + 1), .int .i64 (0), .int .i64 (0)]) := clear_two hgN.out rfl
            have hN2 := Lib.hid (setRow_heap w2 w1.heap.size _ #[.int .i64 (a + 1), .int .i64 (0), .int .i64 (0)] _ _ hgN.out)
            have hR2 := Lib.hid ((g6 w2 w1.heap.size (w.heap.size + 1) #[.int .i64 (a + 1), .int .i64 (0), .int .i64 (0)] (by omega)).trans hgR2.out)
            have hbR : Below w.heap.size w (w2.setRow w1.heap.size #[.int .i64 (a + 1), .int .i64 (0), .int .i64 (0)]) := xI hbw2 (by omega) _
            have hsR : (w2.setRow w1.heap.size #[.int .i64 (a + 1), .int .i64 (0), .int .i64 (0)]).heap.size = w2.heap.size := by unfold World.setRow; simp
            have HSR := Lib.hid hsR
            clear hsR h9
            go_wp2_with (first
              | (refine wpList_load_row rfl 128 _ rfl w1.heap.size rfl _ _ _ _ hN2.out Tryz.underlying128 rfl (by kernel_rfl) ?_)
              | (go_at_call 126; refine (j6 _ _ _ _).mono ?_; unfold zP Ver.rel; rintro e w3 ⟨rfl, hb3⟩; have hR3 := Lib.hid ((hb3.block (w.heap.size + 1) (by rw [HSR.out]; omega)).trans hR2.out); have hbw3 := hbR.trans (hb3.mono hbR.size))
              | (refine wpList_store_row rfl 70 _ _ rfl (w.heap.size + 1) #[.int .i64 (a + 1), .int .i64 (0), .int .i64 (0), .string (mkS []), .string (mkS [])] rfl rfl _ _ hR3.out (by kernel_rfl) rfl (yS _ _ _ _ _) ?_))
            exact qL (u := Ver.rel (a + 1) (0) (0)) rfl rfl hR3.out hbw3 HB.out (by unfold x3; rw [HB.out]; rfl)
        · by_cases h9 : b = 9999
          · have h9b : (b == 9999) = true := by simpa using h9
            have HB : Hid (zZ ⟨a, b, c, p, q⟩ 1 = false) := by show _ = _; unfold zZ; rw [show v6 a b c (1 : Int).toNat = b from rfl, h9b]; simp
            clear h9
            go_wp2_with (refine wpList_store_row rfl 70 _ _ rfl (w.heap.size + 1) #[.int .i64 0, .int .i64 0, .int .i64 0, .string ⟨#[]⟩, .string ⟨#[]⟩] rfl rfl _ _ hgR2.out (by kernel_rfl) rfl (yS _ _ _ _ _) ?_)
            exact qL (u := Ver.zero) rfl rfl hgR2.out hbw2 HB.out (by unfold x3; rw [HB.out]; rfl)
          · have h9b : (b == 9999) = false := by simpa using h9
            have HB : Hid (zZ ⟨a, b, c, p, q⟩ 1 = true) := by show _ = _; unfold zZ; rw [HM.out, show v6 a b c (1 : Int).toNat = b from rfl, h9b]; rfl
            have hW : (w2.setCell ⟨w1.heap.size, 1, none⟩ (.int .i64 (b + 1))) = w2.setRow w1.heap.size #[.int .i64 (a), .int .i64 (b + 1), .int .i64 (c)] := bF _ hgN.out
            have hcl : (Builtin.clear_ #[33] 0 #[.slice (some ⟨w1.heap.size, 2, none⟩) 1 1]).run Tryz.prog (w2.setRow w1.heap.size #[.int .i64 (a), .int .i64 (b + 1), .int .i64 (c)]) = .ok (.tuple #[]) (w2.setRow w1.heap.size #[.int .i64 (a), .int .i64 (b + 1), .int .i64 (0)]) := clear_one hgN.out rfl
            have hN2 := Lib.hid (setRow_heap w2 w1.heap.size _ #[.int .i64 (a), .int .i64 (b + 1), .int .i64 (0)] _ _ hgN.out)
            have hR2 := Lib.hid ((g6 w2 w1.heap.size (w.heap.size + 1) #[.int .i64 (a), .int .i64 (b + 1), .int .i64 (0)] (by omega)).trans hgR2.out)
            have hbR : Below w.heap.size w (w2.setRow w1.heap.size #[.int .i64 (a), .int .i64 (b + 1), .int .i64 (0)]) := xI hbw2 (by omega) _
            have hsR : (w2.setRow w1.heap.size #[.int .i64 (a), .int .i64 (b + 1), .int .i64 (0)]).heap.size = w2.heap.size := by unfold World.setRow; simp
            have HSR := Lib.hid hsR
            clear hsR h9
            go_wp2_with (first
              | (refine wpList_load_row rfl 128 _ rfl w1.heap.size rfl _ _ _ _ hN2.out Tryz.underlying128 rfl (by kernel_rfl) ?_)
              | (go_at_call 126; refine (j6 _ _ _ _).mono ?_; unfold zP Ver.rel; rintro e w3 ⟨rfl, hb3⟩; have hR3 := Lib.hid ((hb3.block (w.heap.size + 1) (by rw [HSR.out]; omega)).trans hR2.out); have hbw3 := hbR.trans (hb3.mono hbR.size))
              | (refine wpList_store_row rfl 70 _ _ rfl (w.heap.size + 1) #[.int .i64 (a), .int .i64 (b + 1), .int .i64 (0), .string (mkS []), .string (mkS [])] rfl rfl _ _ hR3.out (by kernel_rfl) rfl (yS _ _ _ _ _) ?_))
            exact qL (u := Ver.rel (a) (b + 1) (0)) rfl rfl hR3.out hbw3 HB.out (by unfold x3; rw [HB.out]; rfl)
        · by_cases h9 : c = 9999
          · have h9b : (c == 9999) = true := by simpa using h9
            have HB : Hid (zZ ⟨a, b, c, p, q⟩ 2 = false) := by show _ = _; unfold zZ; rw [show v6 a b c (2 : Int).toNat = c from rfl, h9b]; simp
            clear h9
            go_wp2_with (refine wpList_store_row rfl 70 _ _ rfl (w.heap.size + 1) #[.int .i64 0, .int .i64 0, .int .i64 0, .string ⟨#[]⟩, .string ⟨#[]⟩] rfl rfl _ _ hgR2.out (by kernel_rfl) rfl (yS _ _ _ _ _) ?_)
            exact qL (u := Ver.zero) rfl rfl hgR2.out hbw2 HB.out (by unfold x3; rw [HB.out]; rfl)
          · have h9b : (c == 9999) = false := by simpa using h9
            have HB : Hid (zZ ⟨a, b, c, p, q⟩ 2 = true) := by show _ = _; unfold zZ; rw [HM.out, show v6 a b c (2 : Int).toNat = c from rfl, h9b]; rfl
            have hW : (w2.setCell ⟨w1.heap.size, 2, none⟩ (.int .i64 (c + 1))) = w2.setRow w1.heap.size #[.int .i64 (a), .int .i64 (b), .int .i64 (c + 1)] := bF _ hgN.out
            have hcl : (Builtin.clear_ #[33] 0 #[.slice (some ⟨w1.heap.size, 0, none⟩) 0 0]).run Tryz.prog (w2.setRow w1.heap.size #[.int .i64 (a), .int .i64 (b), .int .i64 (c + 1)]) = .ok (.tuple #[]) (w2.setRow w1.heap.size #[.int .i64 (a), .int .i64 (b), .int .i64 (c + 1)]) := clear_none _ _
            have hN2 := Lib.hid (setRow_heap w2 w1.heap.size _ #[.int .i64 (a), .int .i64 (b), .int .i64 (c + 1)] _ _ hgN.out)
            have hR2 := Lib.hid ((g6 w2 w1.heap.size (w.heap.size + 1) #[.int .i64 (a), .int .i64 (b), .int .i64 (c + 1)] (by omega)).trans hgR2.out)
            have hbR : Below w.heap.size w (w2.setRow w1.heap.size #[.int .i64 (a), .int .i64 (b), .int .i64 (c + 1)]) := xI hbw2 (by omega) _
            have hsR : (w2.setRow w1.heap.size #[.int .i64 (a), .int .i64 (b), .int .i64 (c + 1)]).heap.size = w2.heap.size := by unfold World.setRow; simp
            have HSR := Lib.hid hsR
            clear hsR h9
            go_wp2_with (first
              | (refine wpList_load_row rfl 128 _ rfl w1.heap.size rfl _ _ _ _ hN2.out Tryz.underlying128 rfl (by kernel_rfl) ?_)
              | (go_at_call 126; refine (j6 _ _ _ _).mono ?_; unfold zP Ver.rel; rintro e w3 ⟨rfl, hb3⟩; have hR3 := Lib.hid ((hb3.block (w.heap.size + 1) (by rw [HSR.out]; omega)).trans hR2.out); have hbw3 := hbR.trans (hb3.mono hbR.size))
              | (refine wpList_store_row rfl 70 _ _ rfl (w.heap.size + 1) #[.int .i64 (a), .int .i64 (b), .int .i64 (c + 1), .string (mkS []), .string (mkS [])] rfl rfl _ _ hR3.out (by kernel_rfl) rfl (yS _ _ _ _ _) ?_))
            exact qL (u := Ver.rel (a) (b) (c + 1)) rfl rfl hR3.out hbw3 HB.out (by unfold x3; rw [HB.out]; rfl)
theorem bump_any (v : Ver) (part : Int) (w : World) (hp : v.pre.length ≤ 1000000) (hq : v.build.length ≤ 1000000) :
    Calls Tryz.prog 160 #[zP v, .int .i64 part] w fun e w' => e = .returned (.tuple #[zP (x3 v part), .bool (zZ v part)]) ∧ Below w.heap.size w w' := bump_go v part w hp hq
def x8 (v : Ver) : Bool := v.may && (!v.pre.isEmpty || zZ v 2 || zZ v 1 || zZ v 0)
def y8 (v : Ver) : Ver :=
  if v.may then (if v.pre.isEmpty then (if zZ v 2 then x3 v 2 else if zZ v 1 then x3 v 1 else if zZ v 0 then x3 v 0 else Ver.zero) else Ver.rel v.maj v.min v.pat) else Ver.zero
def NEnd (v : Ver) (w : World) (e : Ending) (w' : World) : Prop := e = .returned (.tuple #[zP (y8 v), .bool (x8 v)]) ∧ Below w.heap.size w w'
theorem bO {v u : Ver} {b : Bool} {w wr : World} {tmps : Array Value} {old : Array Value} (h2 : tmps.getD 2 undef = .pointer (some ⟨w.heap.size + 1, 0, none⟩)) (h3 : tmps.getD 3 undef = .bool b)
    (hg : wr.heap[w.heap.size + 1]? = some (.cells old 70)) (hbel : Below w.heap.size w wr) (hb : x8 v = b) (hv : y8 v = u) :
    bodyPost Tryz.prog Tryz.f111 (NEnd v w) .ret ⟨tmps, []⟩ (wr.setRow (w.heap.size + 1) #[.int .i64 u.maj, .int .i64 u.min, .int .i64 u.pat, .string (mkS u.pre), .string (mkS u.build)]) := by
  have hrow := setRow_heap wr (w.heap.size + 1) _ #[.int .i64 u.maj, .int .i64 u.min, .int .i64 u.pat, .string (mkS u.pre), .string (mkS u.build)] _ _ hg
  have hr := run_loadVar_row (P := Tryz.prog) _ (w.heap.size + 1) 70 70 _ _ _ hrow Tryz.underlying70 rfl (by kernel_rfl)
  have h2' : tmps[2]?.getD undef = .pointer (some ⟨w.heap.size + 1, 0, none⟩) := by simpa using h2
  have h3' : tmps[3]?.getD undef = .bool b := by simpa using h3
  refine bodyPost_ret (v := .tuple #[zP u, .bool b]) (by simp [results, Tryz.results111, asAddr, h2', h3', hr, zP]) rfl ⟨by rw [hv, hb], xI hbel (by omega) _⟩
def gG (v : Ver) : Nat → Ver × Bool
  | 0 => (Ver.zero, false)
  | k + 1 => if zZ v k then (x3 v k, true) else gG v k
theorem jQ (v : Ver) (h : (!v.pre.isEmpty && v.may) = false) : y8 v = (gG v 3).1 ∧ x8 v = (gG v 3).2 := by
  unfold y8 x8
  show _ = (if zZ v 2 then (x3 v 2, true) else if zZ v 1 then (x3 v 1, true) else if zZ v 0 then (x3 v 0, true) else (Ver.zero, false)).1 ∧ _ = (if zZ v 2 then (x3 v 2, true) else if zZ v 1 then (x3 v 1, true) else if zZ v 0 then (x3 v 0, true) else (Ver.zero, false)).2
  cases hm : v.may with
  | true =>
    rw [hm, Bool.and_true] at h
    rw [h]
    have hp : v.pre.isEmpty = true := by simpa using h
    rw [hp]
    cases zZ v 2 <;> cases zZ v 1 <;> cases zZ v 0 <;> simp
  | false =>
    have hk : ∀ k, zZ v k = false := fun k => by unfold zZ; rw [hm]; rfl
    rw [hk, hk, hk]; simp
theorem next_go (v : Ver) (w : World) (hp : v.pre.length ≤ 1000000) (hq : v.build.length ≤ 1000000) :
    Calls Tryz.prog 111 #[zP v] w (NEnd v w) := by
  have cM := fun w' => vI v w' (by omega) (by omega)
  have cN := fun w' => wT v w'
  have ep := empty_mk2 v.pre
  obtain ⟨a, b, c, p, q⟩ := v
  unfold zP at cM cN ⊢
  dsimp only at cM cN ep hp hq ⊢
  cases he : p.isEmpty with
  | true =>
    have HG : Hid ((!p.isEmpty && (Ver.mk a b c p q).may) = false) := by show _ = _; rw [he]; rfl
    rw [he] at ep
    clear he cM cN
    go_enter Tryz.func111, Tryz.ntmps111
    go_wp2
    go_loopw [4] (fun x wr => ∃ k : Nat, k ≤ 3 ∧ x = .int .i64 ((k : Int) - 1) ∧ wr.heap[w.heap.size]? = some (.cells #[.int .i64 a, .int .i64 b, .int .i64 c, .string (mkS p), .string (mkS q)] 70) ∧ wr.heap[w.heap.size + 1]? = some (.cells #[.int .i64 0, .int .i64 0, .int .i64 0, .string ⟨#[]⟩, .string ⟨#[]⟩] 70) ∧ Below w.heap.size w wr ∧ Hid (gG ⟨a, b, c, p, q⟩ k = gG ⟨a, b, c, p, q⟩ 3)) (fun x _ => ((intOf x) + 1).toNat)
    case atStart => exact ⟨3, by omega, rfl, (yO _ _ (by rw [zE]; omega)).trans (yZ w _), vL _ _ _ (by rw [zE]), ((Below.refl _ _).alloc (Nat.le_refl _) _).alloc (by rw [zE]; omega) _, rfl⟩
    case round =>
      obtain ⟨k, hk, rfl, hB, hR, hbel, HR⟩ := hrel
      have hlR := (Array.getElem?_eq_some_iff.1 hR).1
      have HB := Lib.hid hB
      have HR0 := Lib.hid hR
      clear hB hR
      cases k with
      | zero =>
        have HF : Hid (gG ⟨a, b, c, p, q⟩ 3 = (Ver.zero, false)) := HR.out.symm
        go_wp2_with (refine wpList_store_row rfl 70 _ _ rfl (w.heap.size + 1) #[.int .i64 0, .int .i64 0, .int .i64 0, .string ⟨#[]⟩, .string ⟨#[]⟩] rfl rfl _ _ HR0.out (by kernel_rfl) rfl (yS _ _ _ _ _) ?_)
        have hf := jQ ⟨a, b, c, p, q⟩ HG.out
        rw [HF.out] at hf
        exact bO (u := Ver.zero) rfl rfl HR0.out hbel hf.2 hf.1
      | succ k =>
        have hk0 : (0 : Int) ≤ k := by omega
        have hke : (((k + 1 : Nat) : Int) - 1) = (k : Int) := by omega
        rw [hke]
        have cB := fun w' => bump_any ⟨a, b, c, p, q⟩ (k : Int) w' hp hq
        unfold zP at cB
        dsimp only at cB
        cases hb : zZ ⟨a, b, c, p, q⟩ (k : Int) with
        | true =>
          rw [hb] at cB
          obtain ⟨u, hu⟩ : ∃ u, x3 ⟨a, b, c, p, q⟩ (k : Int) = u := ⟨_, rfl⟩
          rw [hu] at cB
          have hfq : gG ⟨a, b, c, p, q⟩ 3 = (u, true) := by rw [← HR.out, gG, hb, hu]; rfl
          have HF := Lib.hid hfq
          clear hfq hb hu hke
          go_wp2_with (first
            | (refine wpList_load_row rfl 70 _ rfl w.heap.size rfl _ _ _ _ HB.out Tryz.underlying70 rfl (by kernel_rfl) ?_)
            | (go_at_call 160; refine (cB _).mono ?_; rintro e w3 ⟨rfl, hb3⟩; have hR3 := Lib.hid ((hb3.block (w.heap.size + 1) hlR).trans HR0.out); have hbw3 := hbel.trans (hb3.mono hbel.size); have hl3 := Nat.lt_of_lt_of_le hlR hb3.size)
            | (refine wpList_store_row rfl 70 _ _ rfl (w.heap.size + 1) #[.int .i64 u.maj, .int .i64 u.min, .int .i64 u.pat, .string (mkS u.pre), .string (mkS u.build)] rfl rfl _ _ ((yO _ _ hl3).trans hR3.out) (by kernel_rfl) rfl (yS _ _ _ _ _) ?_))
          have hf := jQ ⟨a, b, c, p, q⟩ HG.out
          rw [HF.out] at hf
          exact bO (u := u) rfl rfl ((yO _ _ hl3).trans hR3.out) (hbw3.alloc (by omega) _) hf.2 hf.1
        | false =>
          rw [hb] at cB
          obtain ⟨u, hu⟩ : ∃ u, x3 ⟨a, b, c, p, q⟩ (k : Int) = u := ⟨_, rfl⟩
          rw [hu] at cB
          have hfq : gG ⟨a, b, c, p, q⟩ k = gG ⟨a, b, c, p, q⟩ 3 := by rw [← HR.out, gG, hb]; rfl
          have HF := Lib.hid hfq
          clear hfq hb hu hke
          go_wp2_with (first
            | (refine wpList_load_row rfl 70 _ rfl w.heap.size rfl _ _ _ _ HB.out Tryz.underlying70 rfl (by kernel_rfl) ?_)
            | (go_at_call 160; refine (cB _).mono ?_; rintro e w3 ⟨rfl, hb3⟩; have hl3 := Nat.lt_of_lt_of_le hlR hb3.size))
          have hR3 := (hb3.block (w.heap.size + 1) hlR).trans HR0.out
          have hB3 := (hb3.block w.heap.size (by omega)).trans HB.out
          have hbw3 := hbel.trans (hb3.mono hbel.size)
          go_roundw
          case rel => exact ⟨k, by omega, rfl, (yO _ _ (by omega)).trans hB3, (yO _ _ hl3).trans hR3, hbw3.alloc (by omega) _, HF.out⟩
          case measure => simp [intOf]; try omega
  | false =>
    rw [he] at ep
    obtain ⟨m, hm⟩ : ∃ m, (Ver.mk a b c p q).may = m := ⟨_, rfl⟩
    rw [hm] at cM
    cases m with
    | false =>
      have HG : Hid ((!p.isEmpty && (Ver.mk a b c p q).may) = false) := by show _ = _; rw [hm, Bool.and_false]
      clear he hm cN
      go_enter Tryz.func111, Tryz.ntmps111
      go_wp2_with fail
      refine (cM _).mono ?_
      rintro e w1 ⟨rfl, hb1⟩
      have hgB := (hb1.block w.heap.size (by simp only [zE]; omega)).trans ((yO _ _ (by simp only [zE]; omega)).trans (yZ w _))
      have hgR := (hb1.block (w.heap.size + 1) (by simp only [zE]; omega)).trans (vL _ _ _ (by simp only [zE]))
      have hbw : Below w.heap.size w w1 := (((Below.refl _ _).alloc (Nat.le_refl _) _).alloc (by simp only [zE]; omega) _).trans (hb1.mono (by simp only [zE]; omega))
      have HGB := Lib.hid hgB
      have HGR := Lib.hid hgR
      clear hgB hgR
      go_wp2
      go_loopw [4] (fun x wr => ∃ k : Nat, k ≤ 3 ∧ x = .int .i64 ((k : Int) - 1) ∧ wr.heap[w.heap.size]? = some (.cells #[.int .i64 a, .int .i64 b, .int .i64 c, .string (mkS p), .string (mkS q)] 70) ∧ wr.heap[w.heap.size + 1]? = some (.cells #[.int .i64 0, .int .i64 0, .int .i64 0, .string ⟨#[]⟩, .string ⟨#[]⟩] 70) ∧ Below w.heap.size w wr ∧ Hid (gG ⟨a, b, c, p, q⟩ k = gG ⟨a, b, c, p, q⟩ 3)) (fun x _ => ((intOf x) + 1).toNat)
      case atStart => exact ⟨3, by omega, rfl, HGB.out, HGR.out, hbw, rfl⟩
      case round =>
        obtain ⟨k, hk, rfl, hB, hR, hbel, HR⟩ := hrel
        have hlR := (Array.getElem?_eq_some_iff.1 hR).1
        have HB := Lib.hid hB
        have HR0 := Lib.hid hR
        clear hB hR
        cases k with
        | zero =>
          have HF : Hid (gG ⟨a, b, c, p, q⟩ 3 = (Ver.zero, false)) := HR.out.symm
          go_wp2_with (refine wpList_store_row rfl 70 _ _ rfl (w.heap.size + 1) #[.int .i64 0, .int .i64 0, .int .i64 0, .string ⟨#[]⟩, .string ⟨#[]⟩] rfl rfl _ _ HR0.out (by kernel_rfl) rfl (yS _ _ _ _ _) ?_)
          have hf := jQ ⟨a, b, c, p, q⟩ HG.out
          rw [HF.out] at hf
          exact bO (u := Ver.zero) rfl rfl HR0.out hbel hf.2 hf.1
        | succ k =>
          have hk0 : (0 : Int) ≤ k := by omega
          have hke : (((k + 1 : Nat) : Int) - 1) = (k : Int) := by omega
          rw [hke]
          have cB := fun w' => bump_any ⟨a, b, c, p, q⟩ (k : Int) w' hp hq
          unfold zP at cB
          dsimp only at cB
          cases hb : zZ ⟨a, b, c, p, q⟩ (k : Int) with
          | true =>
            rw [hb] at cB
            obtain ⟨u, hu⟩ : ∃ u, x3 ⟨a, b, c, p, q⟩ (k : Int) = u := ⟨_, rfl⟩
            rw [hu] at cB
            have hfq : gG ⟨a, b, c, p, q⟩ 3 = (u, true) := by rw [← HR.out, gG, hb, hu]; rfl
            have HF := Lib.hid hfq
            clear hfq hb hu hke
            go_wp2_with (first
              | (refine wpList_load_row rfl 70 _ rfl w.heap.size rfl _ _ _ _ HB.out Tryz.underlying70 rfl (by kernel_rfl) ?_)
              | (go_at_call 160; refine (cB _).mono ?_; rintro e w3 ⟨rfl, hb3⟩; have hR3 := Lib.hid ((hb3.block (w.heap.size + 1) hlR).trans HR0.out); have hbw3 := hbel.trans (hb3.mono hbel.size); have hl3 := Nat.lt_of_lt_of_le hlR hb3.size)
              | (refine wpList_store_row rfl 70 _ _ rfl (w.heap.size + 1) #[.int .i64 u.maj, .int .i64 u.min, .int .i64 u.pat, .string (mkS u.pre), .string (mkS u.build)] rfl rfl _ _ ((yO _ _ hl3).trans hR3.out) (by kernel_rfl) rfl (yS _ _ _ _ _) ?_))
            have hf := jQ ⟨a, b, c, p, q⟩ HG.out
            rw [HF.out] at hf
            exact bO (u := u) rfl rfl ((yO _ _ hl3).trans hR3.out) (hbw3.alloc (by omega) _) hf.2 hf.1
          | false =>
            rw [hb] at cB
            obtain ⟨u, hu⟩ : ∃ u, x3 ⟨a, b, c, p, q⟩ (k : Int) = u := ⟨_, rfl⟩
            rw [hu] at cB
            have hfq : gG ⟨a, b, c, p, q⟩ k = gG ⟨a, b, c, p, q⟩ 3 := by rw [← HR.out, gG, hb]; rfl
            have HF := Lib.hid hfq
            clear hfq hb hu hke
            go_wp2_with (first
              | (refine wpList_load_row rfl 70 _ rfl w.heap.size rfl _ _ _ _ HB.out Tryz.underlying70 rfl (by kernel_rfl) ?_)
              | (go_at_call 160; refine (cB _).mono ?_; rintro e w3 ⟨rfl, hb3⟩; have hl3 := Nat.lt_of_lt_of_le hlR hb3.size))
            have hR3 := (hb3.block (w.heap.size + 1) hlR).trans HR0.out
            have hB3 := (hb3.block w.heap.size (by omega)).trans HB.out
            have hbw3 := hbel.trans (hb3.mono hbel.size)
            go_roundw
            case rel => exact ⟨k, by omega, rfl, (yO _ _ (by omega)).trans hB3, (yO _ _ hl3).trans hR3, hbw3.alloc (by omega) _, HF.out⟩
            case measure => simp [intOf]; try omega
    | true =>
      have HV : Hid (y8 ⟨a, b, c, p, q⟩ = Ver.rel a b c) := by show _ = _; unfold y8; rw [if_pos hm, if_neg (by simp [he])]
      have HO : Hid (x8 ⟨a, b, c, p, q⟩ = true) := by show _ = _; unfold x8; rw [hm]; simp [he]
      clear he hm
      go_enter Tryz.func111, Tryz.ntmps111
      go_wp2_with fail
      refine (cM _).mono ?_
      rintro e w1 ⟨rfl, hb1⟩
      have hz1 := hb1.size
      simp only [zE] at hz1
      have hgB := (hb1.block w.heap.size (by simp only [zE]; omega)).trans ((yO _ _ (by simp only [zE]; omega)).trans (yZ w _))
      have hgR := (hb1.block (w.heap.size + 1) (by simp only [zE]; omega)).trans (vL _ _ _ (by simp only [zE]))
      have hbw : Below w.heap.size w w1 := (((Below.refl _ _).alloc (Nat.le_refl _) _).alloc (by simp only [zE]; omega) _).trans (hb1.mono (by simp only [zE]; omega))
      have HGB := Lib.hid hgB
      have HGR := Lib.hid hgR
      clear hgB hgR hb1 cM
      go_wp2_with (first
        | (refine wpList_load_row rfl 70 _ rfl w.heap.size rfl _ _ _ _ HGB.out Tryz.underlying70 rfl (by kernel_rfl) ?_)
        | (go_at_call 159; refine (cN _).mono ?_; rintro e w2 ⟨rfl, hb2⟩; have hR2 := Lib.hid ((hb2.block (w.heap.size + 1) (by omega)).trans HGR.out); have hbw2 := hbw.trans (hb2.mono hbw.size); have hl2 := hb2.size)
        | (go_at_call 126; refine (j6 _ _ _ _).mono ?_; unfold zP Ver.rel; rintro e w3 ⟨rfl, hb3⟩; have hR3 := Lib.hid ((hb3.block (w.heap.size + 1) (by omega)).trans hR2.out); have hbw3 := hbw2.trans (hb3.mono hbw2.size))
        | (refine wpList_store_row rfl 70 _ _ rfl (w.heap.size + 1) #[.int .i64 a, .int .i64 b, .int .i64 c, .string (mkS []), .string (mkS [])] rfl rfl _ _ hR3.out (by kernel_rfl) rfl (yS _ _ _ _ _) ?_))
      exact bO (u := Ver.rel a b c) rfl rfl hR3.out hbw3 HO.out HV.out
theorem vnext_any (v : Ver) (w : World) (hp : v.pre.length ≤ 1000000) (hq : v.build.length ≤ 1000000) :
    Calls Tryz.prog 111 #[zP v] w fun e w' => e = .returned (.tuple #[zP (y8 v), .bool (x8 v)]) ∧ Below w.heap.size w w' := next_go v w hp hq
end
section
theorem bump2 {v : Ver} (h : v.may = true) : zZ v 2 = true ↔ v.pat ≠ 9999 := by
  unfold zZ; rw [h, show v6 v.maj v.min v.pat (2 : Int).toNat = v.pat from rfl]; simp
theorem bump1 {v : Ver} (h : v.may = true) : zZ v 1 = true ↔ v.min ≠ 9999 := by
  unfold zZ; rw [h, show v6 v.maj v.min v.pat (1 : Int).toNat = v.min from rfl]; simp
theorem bump0 {v : Ver} (h : v.may = true) : zZ v 0 = true ↔ v.maj ≠ 9999 := by
  unfold zZ; rw [h, show v6 v.maj v.min v.pat (0 : Int).toNat = v.maj from rfl]; simp
theorem rel_in {a b c : Int} (ha : 0 ≤ a ∧ a ≤ 9999) (hb : 0 ≤ b ∧ b ≤ 9999) (hc : 0 ≤ c ∧ c ≤ 9999) : (Ver.rel a b c).may = true := by
  rw [rel_may4, num_in ha, num_in hb, num_in hc]; rfl
theorem next_is {v : Ver} (h : v.may = true) : (x8 v = false ∧ v.pre = [] ∧ v.code = 999999999999) ∨
    (x8 v = true ∧ ∃ a b c, y8 v = Ver.rel a b c ∧ (Ver.rel a b c).may = true ∧ ((v.pre = [] ∧ (Ver.rel a b c).code = v.code + 1) ∨ (v.pre ≠ [] ∧ (Ver.rel a b c).code = v.code))) := by
  obtain ⟨h1, h2, h3⟩ := dE h
  unfold x8 y8
  rw [h]
  by_cases hp : v.pre = []
  · have e : v.pre.isEmpty = true := by rw [hp]; rfl
    rw [e]
    by_cases k2 : v.pat = 9999
    · have b2 : zZ v 2 = false := Bool.eq_false_iff.2 (fun e => (bump2 h).1 e k2)
      rw [b2]
      by_cases k1 : v.min = 9999
      · have b1 : zZ v 1 = false := Bool.eq_false_iff.2 (fun e => (bump1 h).1 e k1)
        rw [b1]
        by_cases k0 : v.maj = 9999
        · have b0 : zZ v 0 = false := Bool.eq_false_iff.2 (fun e => (bump0 h).1 e k0)
          rw [b0]
          exact .inl ⟨rfl, hp, by unfold Ver.code; omega⟩
        · have b0 := (bump0 h).2 k0
          have bv : x3 v 0 = Ver.rel (v.maj + 1) 0 0 := by unfold x3; rw [b0]; rfl
          rw [b0, bv]
          exact .inr ⟨rfl, v.maj + 1, 0, 0, rfl, rel_in (by omega) (by omega) (by omega), .inl ⟨hp, by unfold Ver.code Ver.rel; dsimp only; omega⟩⟩
      · have b1 := (bump1 h).2 k1
        have bv : x3 v 1 = Ver.rel v.maj (v.min + 1) 0 := by unfold x3; rw [b1]; rfl
        rw [b1, bv]
        exact .inr ⟨rfl, v.maj, v.min + 1, 0, rfl, rel_in (by omega) (by omega) (by omega), .inl ⟨hp, by unfold Ver.code Ver.rel; dsimp only; omega⟩⟩
    · have b2 := (bump2 h).2 k2
      have bv : x3 v 2 = Ver.rel v.maj v.min (v.pat + 1) := by unfold x3; rw [b2]; rfl
      rw [b2, bv]
      exact .inr ⟨rfl, v.maj, v.min, v.pat + 1, rfl, rel_in (by omega) (by omega) (by omega), .inl ⟨hp, by unfold Ver.code Ver.rel; dsimp only; omega⟩⟩
  · have e : v.pre.isEmpty = false := List.isEmpty_eq_false_iff.2 hp
    rw [e]
    exact .inr ⟨rfl, v.maj, v.min, v.pat, rfl, rel_in h1 h2 h3, .inr ⟨hp, rfl⟩⟩
theorem code_max {v : Ver} (h : v.may = true) : 0 ≤ v.code ∧ v.code ≤ 999999999999 := by
  obtain ⟨h1, h2, h3⟩ := dE h
  unfold Ver.code; omega
end
section
def gF (v : Ver) : Bool := decide (v.maj = 0) && decide (v.min = 0) && decide (v.pat = 0)
theorem least_code {v : Ver} (h : v.may = true) : gF v = decide (v.code = 0) := by
  obtain ⟨h1, h2, h3⟩ := dE h
  unfold gF Ver.code
  rw [← Bool.decide_and, ← Bool.decide_and]
  exact decide_eq_decide.2 ⟨fun ⟨⟨a, b⟩, c⟩ => by omega, fun e => ⟨⟨by omega, by omega⟩, by omega⟩⟩
def yU (c : Cu) : Bool := decide (¬ c.e = 0) || (!c.aft && decide (c.v.pre = []) && !gF c.v)
def AllRight (l : List Sp) : Prop := ∀ s ∈ l, yU s.lo = true ∧ yU s.hi = true
def valC (c : Cu) : Int := if c.e = -1 then 0 else if c.e = 1 then 1000000000000 else c.v.code
def muI (v : Ver) : Int := if v.pre = [] then v.code else v.code - 1
def mu (x : Cu) : Int := if x.e = 0 then (if muI x.v < 0 then 0 else muI x.v) else 0
def denN (l : List Sp) (n : Int) : Bool := l.any fun s => decide (valC s.lo ≤ n) && decide (n < valC s.hi)
theorem build_cuts (p : Cu → Cu → Bool) (Q : Cu → Prop) : ∀ (cs : List Cu) (out : List Sp), (∀ c ∈ cs, Q c) → (∀ s ∈ out, Q s.lo ∧ Q s.hi) → ∀ s ∈ kK p out cs, Q s.lo ∧ Q s.hi
  | [], out, _, ho => by unfold kK; exact ho
  | [c], out, _, ho => by unfold kK; exact ho
  | c :: d :: r, out, hc, ho => by
    unfold kK
    refine build_cuts p Q (d :: r) _ (fun x hx => hc x (List.mem_cons_of_mem _ hx)) ?_
    split
    · intro s hs
      unfold gY at hs
      split at hs
      · rename_i t ht
        split at hs
        · rcases List.mem_append.1 hs with h | h
          · exact ho s (List.dropLast_subset _ h)
          · obtain rfl : s = _ := by simpa using h
            exact ⟨(ho t (List.mem_of_getLast? ht)).1, hc d (by simp)⟩
        · rcases List.mem_append.1 hs with h | h
          · exact ho s h
          · obtain rfl : s = _ := by simpa using h
            exact ⟨hc c (by simp), hc d (by simp)⟩
      · obtain rfl : s = _ := by simpa using hs
        exact ⟨hc c (by simp), hc d (by simp)⟩
    · exact ho
theorem cutsL_all (Q : Cu → Prop) (h1 : Q (zQ (-1))) (h2 : Q (zQ 1)) (l : List Sp) (hl : ∀ s ∈ l, Q s.lo ∧ Q s.hi) : ∀ c ∈ g9 l, Q c := by
  have go : ∀ (l : List Sp) (out : List Cu), (∀ c ∈ out, Q c) → (∀ s ∈ l, Q s.lo ∧ Q s.hi) → ∀ c ∈ l.foldl (fun out s => kC s.hi (kC s.lo out)) out, Q c := by
    intro l
    induction l with
    | nil => intro out ho _; exact ho
    | cons s r ih =>
      intro out ho hl
      refine ih _ (fun c hc => ?_) (fun t ht => hl t (List.mem_cons_of_mem _ ht))
      rcases putL_mem _ _ _ hc with rfl | hc
      · exact (hl s (List.mem_cons_self ..)).2
      · rcases putL_mem _ _ _ hc with rfl | hc
        · exact (hl s (List.mem_cons_self ..)).1
        · exact ho c hc
  exact go l _ (fun c hc => by
    rcases List.mem_cons.1 hc with rfl | hc
    · exact h1
    · obtain rfl : c = _ := by simpa using hc
      exact h2) hl
theorem jR (k : Int) (h : ¬ k = 0) : yU (zQ k) = true := by unfold yU zQ; rw [decide_eq_true h]; rfl
theorem AllRight.make {l : List Sp} (h : AllRight l) : AllRight (dR l) := build_cuts _ (yU · = true) _ [] (cutsL_all _ (jR _ (by decide)) (jR _ (by decide)) l h) (fun s hs => by simp at hs)
end
section
def kS (v : Ver) : Ver := Ver.rel v.maj v.min v.pat
def wJ (v : Ver) : Cu := if gF v then zQ (-1) else ⟨0, kS v, false⟩
def hZ (v : Ver) : Cu := if x8 (kS v) then ⟨0, y8 (kS v), false⟩ else zQ 1
def k7 (c : Cu) : Cu := if ¬ c.e = 0 then c else if c.aft = true ∧ c.v.pre = [] then hZ c.v else wJ c.v
def dQ (s : Sp) : Sp := ⟨k7 s.lo, k7 s.hi⟩
def xM (l : List Sp) : List Sp := dR ((l.map dQ).filter (·.may))
theorem relV_may {v : Ver} (h : v.may = true) : (kS v).may = true := by
  obtain ⟨h1, h2, h3⟩ := dE h
  exact rel_in h1 h2 h3
theorem relV_code (v : Ver) : (kS v).code = v.code := rfl
theorem relA_ok {v : Ver} (h : v.may = true) : (wJ v).may = true ∧ yU (wJ v) = true ∧ valC (wJ v) = v.code := by
  unfold wJ
  have hl := least_code h
  split
  · rename_i h1
    rw [hl, decide_eq_true_eq] at h1
    exact ⟨tI, jR _ (by decide), by rw [h1]; rfl⟩
  · rename_i h1
    have h2 : gF (kS v) = false := by
      have : gF (kS v) = gF v := rfl
      rw [this]; simpa using h1
    exact ⟨by unfold Cu.may; dsimp only; rw [if_pos rfl, relV_may h]; rfl, by unfold yU; dsimp only; rw [h2]; rfl, rfl⟩
theorem relB_ok {v : Ver} (h : v.may = true) : (hZ v).may = true ∧ yU (hZ v) = true ∧ valC (hZ v) = v.code + 1 := by
  unfold hZ
  rcases next_is (relV_may h) with ⟨h1, h2, h3⟩ | ⟨h1, a, b, c, h2, h3, h4⟩
  · rw [h1, if_neg (by decide)]
    rw [relV_code] at h3
    exact ⟨last_may, jR _ (by decide), by rw [h3]; rfl⟩
  · rw [h1, if_pos rfl, h2]
    have hc : (Ver.rel a b c).code = v.code + 1 := by
      rcases h4 with ⟨_, h5⟩ | ⟨h5, _⟩
      · rw [h5, relV_code]
      · exact absurd rfl h5
    have h0 := (code_max h).1
    have hl : gF (Ver.rel a b c) = false := by rw [least_code h3, decide_eq_false_iff_not]; omega
    refine ⟨by unfold Cu.may; dsimp only; rw [if_pos rfl, h3]; rfl, by unfold yU; dsimp only; rw [hl]; rfl, ?_⟩
    unfold valC; dsimp only
    rw [if_neg (by decide), if_neg (by decide), hc]
theorem turn_ok {c : Cu} (h : c.may = true) : (k7 c).may = true ∧ yU (k7 c) = true := by
  unfold k7
  split
  · rename_i h0
    exact ⟨h, by unfold yU; rw [decide_eq_true h0]; rfl⟩
  · split
    · have := relB_ok (wB h); exact ⟨this.1, this.2.1⟩
    · have := relA_ok (wB h); exact ⟨this.1, this.2.1⟩
theorem makeRel_mays (l : List Sp) : ∀ s ∈ (l.map dQ).filter (·.may), s.may = true := fun s hs => (List.mem_filter.1 hs).2
theorem makeRel_right {l : List Sp} (h : ∀ s ∈ l, s.may = true) : AllRight (xM l) := by
  refine AllRight.make (fun s hs => ?_)
  obtain ⟨t, ht, rfl⟩ := List.mem_map.1 (List.mem_filter.1 hs).1
  have := xA (h t ht)
  exact ⟨(turn_ok this.1).2, (turn_ok this.2).2⟩
def oneRel (v : Ver) : List Sp := [⟨wJ v, hZ v⟩]
def onePre (v : Ver) : List Sp := [⟨⟨0, yK v, false⟩, ⟨0, yK v, true⟩⟩]
end
section
structure St where
  rel : List Sp
  pre : List Sp
def St.may (s : St) : Bool := zS s.rel && zS s.pre && s.rel.all fun x => yU x.lo && yU x.hi
structure SF (s : St) (n : Nat) : Prop where
  rel : RF s.rel n
  pre : RF s.pre n
  right : AllRight s.rel
theorem right_all {l : List Sp} : (l.all fun x => yU x.lo && yU x.hi) = true ↔ AllRight l := by
  rw [List.all_eq_true]
  exact ⟨fun h s hs => by simpa using h s hs, fun h s hs => by simpa using h s hs⟩
theorem SF.may {s : St} {n : Nat} (h : SF s n) : s.may = true := by
  unfold St.may
  rw [h.rel.may, h.pre.may, right_all.2 h.right]; rfl
theorem St.facts {s : St} (h : s.may = true) : zS s.rel = true ∧ zS s.pre = true ∧ AllRight s.rel := by
  unfold St.may at h
  rw [Bool.and_eq_true, Bool.and_eq_true, right_all] at h
  exact ⟨h.1.1, h.1.2, h.2⟩
theorem SF.of {s : St} {n : Nat} (h : s.may = true) (h1 : s.rel.length ≤ n) (h2 : s.pre.length ≤ n) : SF s n :=
  ⟨⟨(St.facts h).1, h1⟩, ⟨(St.facts h).2.1, h2⟩, (St.facts h).2.2⟩
def setHas (s : St) (v : Ver) : Bool := s.may && v.may && (if v.pre = [] then rowHas s.rel v else rowHas s.pre v)
def xV : St := ⟨[], []⟩
def gZ : List Sp := [⟨zQ (-1), zQ 1⟩]
def allT : St := ⟨gZ, gZ⟩
def orT (a b : St) : St := ⟨orL a.rel b.rel, orL a.pre b.pre⟩
def andT (a b : St) : St := ⟨andL a.rel b.rel, andL a.pre b.pre⟩
def notT (a : St) : St := ⟨notL a.rel, notL a.pre⟩
def minusT (a b : St) : St := andT a (notT b)
def exactT (v : Ver) : St := if v.may then (if v.pre = [] then ⟨oneRel v, []⟩ else ⟨[], onePre v⟩) else xV
theorem St.eq {a b : St} (h1 : a.rel = b.rel) (h2 : a.pre = b.pre) : a = b := by cases a; cases b; simp only at h1 h2; rw [h1, h2]
theorem nil_rf : RF [] 0 := ⟨rfl, Nat.le_refl _⟩
theorem RF.le {l : List Sp} {n m : Nat} (h : RF l n) (hm : n ≤ m) : RF l m := ⟨h.may, Nat.le_trans h.len hm⟩
theorem SF.le {s : St} {n m : Nat} (h : SF s n) (hm : n ≤ m) : SF s m := ⟨h.rel.le hm, h.pre.le hm, h.right⟩
theorem nil_right : AllRight [] := fun s hs => by simp at hs
theorem none_sf : SF xV 0 := ⟨nil_rf, nil_rf, nil_right⟩
theorem whole_rf : RF gZ 1 := ⟨by decide, Nat.le_refl _⟩
theorem whole_right : AllRight gZ := fun s hs => by
  obtain rfl : s = _ := by simpa [gZ] using hs
  exact ⟨jR _ (by decide), jR _ (by decide)⟩
theorem all_sf : SF allT 1 := ⟨whole_rf, whole_rf, whole_right⟩
section
variable {a b : St} {n m : Nat} {v : Ver} (ha : SF a n) (hb : SF b m) (hv : v.may = true)
include ha hb hv
end
def edgeN (l : List Sp) : List Int := l.flatMap fun s => [s.lo, s.hi].filterMap fun c => if c.e = 0 then some c.v.code else none
end
section
structure Co where
  op : Int
  parts : Int
  v : Ver
deriving DecidableEq
def signL (op : Int) : List UInt8 := if op = 1 then [61] else if op = 2 then [33, 61] else if op = 3 then [60] else if op = 4 then [60, 61] else if op = 5 then [62] else if op = 6 then [62, 61] else if op = 7 then [94] else if op = 8 then [126] else []
def Co.may (c : Co) : Bool := decide (1 ≤ c.op ∧ c.op ≤ 9) && c.v.may && decide (c.v.build = []) && (if c.op = 9 then decide (0 ≤ c.parts ∧ c.parts ≤ 2) else decide (1 ≤ c.parts ∧ c.parts ≤ 3)) && decide (3 ≤ c.parts ∨ c.v.pre = []) && decide (0 < c.parts ∨ c.v.maj = 0) && decide (1 < c.parts ∨ c.v.min = 0) && decide (2 < c.parts ∨ c.v.pat = 0)
def numsN (v : Ver) (n : Nat) : List (List UInt8) := [Lib.itoa v.maj, Lib.itoa v.min, Lib.itoa v.pat].take n
def Co.rest (c : Co) : List UInt8 := if c.op = 9 then x6 46 (numsN c.v c.parts.toNat ++ [[42]]) else x6 46 (numsN c.v c.parts.toNat) ++ kE 45 c.v.pre
def Co.text (c : Co) : List UInt8 := signL c.op ++ c.rest
def Co.print (c : Co) : List UInt8 := if c.may then c.text else []
def yW (s t : List UInt8) : Bool := decide (s.take t.length = t)
def splitC (s : List UInt8) : Int × List UInt8 :=
  if yW s [33, 61] then (2, s.drop 2) else if yW s [60, 61] then (4, s.drop 2) else if yW s [62, 61] then (6, s.drop 2) else if yW s [61] then (1, s.drop 1)
  else if yW s [60] then (3, s.drop 1) else if yW s [62] then (5, s.drop 1) else if yW s [94] then (7, s.drop 1) else if yW s [126] then (8, s.drop 1)
  else if s.getLast? = some 42 then (9, s) else (7, s)
def tH (op : Int) (rest : List UInt8) : List (List UInt8) := if op = 9 then (pcs (zN 45 rest).1).dropLast else pcs (zN 45 rest).1
def guessC (op : Int) (rest : List UInt8) : Option Co :=
  if (tH op rest).length ≤ 3 ∧ (tH op rest).all kT = true then
    some ⟨op, (tH op rest).length, ⟨x7 (tg (tH op rest) 0), x7 (tg (tH op rest) 1), x7 (tg (tH op rest) 2), (zN 45 rest).2.1, []⟩⟩
  else none
def fits (s : List UInt8) (c : Co) : Bool := !decide (c.print = []) && (decide (c.print = s) || decide (c.print = 94 :: s))
def parseC (s : List UInt8) : Option Co := (guessC (splitC s).1 (splitC s).2).filter (fits s)
end
section
def gQ (sep : List UInt8) : List (List UInt8) → List UInt8
  | [] => []
  | [x] => x
  | x :: y :: l => x ++ sep ++ gQ sep (y :: l)
theorem tG (sep x y : List UInt8) (l : List (List UInt8)) : gQ sep (x :: y :: l) = x ++ sep ++ gQ sep (y :: l) := rfl
theorem joinB_snoc (sep x : List UInt8) : ∀ (l : List (List UInt8)), gQ sep (l ++ [x]) = if l = [] then x else gQ sep l ++ sep ++ x
  | [] => rfl
  | [y] => rfl
  | y :: z :: l => by
    rw [if_neg (by simp)]
    show y ++ sep ++ gQ sep ((z :: l) ++ [x]) = y ++ sep ++ gQ sep (z :: l) ++ sep ++ x
    rw [joinB_snoc sep x (z :: l), if_neg (by simp)]
    simp only [List.append_assoc]
def sumN : List Nat → Nat
  | [] => 0
  | n :: l => n + sumN l
theorem joinB_len (sep : List UInt8) : ∀ (l : List (List UInt8)), (gQ sep l).length = sumN (l.map (·.length)) + (l.length - 1) * sep.length
  | [] => by simp [gQ, sumN]
  | [x] => by simp [gQ, sumN]
  | x :: y :: l => by
    rw [tG, List.length_append, List.length_append, joinB_len sep (y :: l)]
    show x.length + sep.length + (sumN ((y :: l).map (·.length)) + ((y :: l).length - 1) * sep.length) = x.length + sumN ((y :: l).map (·.length)) + ((y :: l).length + 1 - 1) * sep.length
    have e : ((y :: l).length + 1 - 1) * sep.length = ((y :: l).length - 1) * sep.length + sep.length := by
      rw [show (y :: l).length + 1 - 1 = ((y :: l).length - 1) + 1 from by simp, Nat.add_mul, Nat.one_mul]
    omega
def altText (a : List Co) : List UInt8 := gQ [44, 32] (a.map Co.print)
def rgText (r : List (List Co)) : List UInt8 := gQ [32, 124, 124, 32] (r.map altText)
def fewA (a : List Co) : Bool := decide (1 ≤ a.length ∧ a.length ≤ 6) && a.all Co.may
def fewR (r : List (List Co)) : Bool := decide (1 ≤ r.length ∧ r.length ≤ 6) && r.all fewA
def rgMay (r : List (List Co)) : Bool := fewR r && decide ((rgText r).length ≤ 96)
def rgPrint (r : List (List Co)) : List UInt8 := if rgMay r then rgText r else []
def bareF : List UInt8 → List UInt8
  | [] => []
  | c :: l => if c = 32 then bareF l else c :: l
def bareL (s : List UInt8) : List UInt8 := (bareF (bareF s).reverse).reverse
def altsL : List UInt8 → List UInt8 → List (List UInt8)
  | acc, [] => [acc]
  | acc, [c] => [acc ++ [c]]
  | acc, c :: d :: r => if c = 124 ∧ d = 124 then acc :: altsL [] r else altsL (acc ++ [c]) (d :: r)
def wK {α β : Type} (f : α → Option β) : List α → Option (List β)
  | [] => some []
  | x :: l => match f x, wK f l with
    | some y, some m => some (y :: m)
    | _, _ => none
theorem allO_cons {α β : Type} {f : α → Option β} {x : α} {l : List α} {y : β} {m : List β} (h1 : f x = some y) (h2 : wK f l = some m) : wK f (x :: l) = some (y :: m) := by
  show (match f x, wK f l with | some y, some m => some (y :: m) | _, _ => none) = _
  rw [h1, h2]
theorem allO_inv {α β : Type} {f : α → Option β} {x : α} {l : List α} {m : List β} (h : wK f (x :: l) = some m) : ∃ y m', m = y :: m' ∧ f x = some y ∧ wK f l = some m' := by
  have h : (match f x, wK f l with | some y, some m => some (y :: m) | _, _ => none) = some m := h
  cases h1 : f x with
  | none => rw [h1] at h; cases h
  | some y =>
    cases h2 : wK f l with
    | none => rw [h1, h2] at h; cases h
    | some m' => rw [h1, h2] at h; injection h with h; exact ⟨y, m', h.symm, rfl, rfl⟩
theorem allO_none {α β : Type} {f : α → Option β} : ∀ {l : List α} {x : α}, x ∈ l → f x = none → wK f l = none
  | y :: l, x, hx, h => by
    show (match f y, wK f l with | some y, some m => some (y :: m) | _, _ => none) = _
    rcases List.mem_cons.1 hx with rfl | hx
    · rw [h]
    · rw [allO_none hx h]; cases f y <;> rfl
def parseP (s : List UInt8) : Option Co := parseC (bareL s)
def parseA (s : List UInt8) : Option (List Co) := wK parseP (y7 44 [] s)
def parseAll (s : List UInt8) : Option (List (List Co)) := wK parseA (altsL [] s)
def parseG (s : List UInt8) : Option (List (List Co)) := if 96 < s.length then none else (parseAll s).filter rgMay
def errG (s : List UInt8) : Int := if 96 < s.length then 3 else match parseAll s with
  | none => 6
  | some r => if fewR r then (if (rgText r).length ≤ 96 then 0 else 3) else 6
def blanks (n : Nat) : List UInt8 := List.replicate n 32
inductive Two {α β : Type} (R : α → β → Prop) : List α → List β → Prop
  | nil : Two R [] []
  | cons {x : α} {y : β} {l : List α} {m : List β} (h : R x y) (t : Two R l m) : Two R (x :: l) (y :: m)
def SpellC (s : List UInt8) (c : Co) : Prop := ∃ n m, s = blanks n ++ c.text ++ blanks m
def SpellA (s : List UInt8) (a : List Co) : Prop := ∃ ps, s = x6 44 ps ∧ Two SpellC ps a ∧ ps ≠ []
def SpellR (s : List UInt8) (r : List (List Co)) : Prop := ∃ l, s = gQ [124, 124] l ∧ Two SpellA l r ∧ l ≠ []
end
section
def xF (c : Cu) : List UInt8 := (if c.aft then [62] else [62, 61]) ++ c.v.text
def xK (c : Cu) : List UInt8 := (if c.aft then [60, 61] else [60]) ++ c.v.text
def loW (c : Cu) : List (List UInt8) := if c.e = 0 then [xF c] else []
def hiW (c : Cu) : List (List UInt8) := if c.e = 0 then [xK c] else []
def spW (s : Sp) : List (List UInt8) := if loW s.lo ++ hiW s.hi = [] then [[42]] else loW s.lo ++ hiW s.hi
def yF (s : Sp) : List UInt8 := x6 32 (spW s)
def zT (l : List Sp) : List UInt8 := if l = [] then [45] else gQ [32, 111, 114, 32] (l.map yF)
def yI (s : St) : List UInt8 := if s.pre = [] then zT s.rel else zT s.rel ++ [32, 47, 32] ++ zT s.pre
def zG (s : St) : List UInt8 := if s.may then yI s else []
def cutP (fr : Bool) : List UInt8 → Option Cu
  | [] => none
  | c :: r => if c = (if fr then 62 else 60) then (match r with
      | [] => (x5 []).map fun v => ⟨0, v, fr⟩
      | d :: q => if d = 61 then (x5 q).map fun v => ⟨0, v, !fr⟩ else (x5 (d :: q)).map fun v => ⟨0, v, fr⟩) else none
def spP : List (List UInt8) → Option Sp
  | [] => none
  | a :: r => if a = [42] ∧ r = [] then some ⟨zQ (-1), zQ 1⟩ else match cutP true a with
    | some c => (match r with
      | [] => some ⟨c, zQ 1⟩
      | [b] => (cutP false b).map fun d => ⟨c, d⟩
      | _ => none)
    | none => if r = [] then (cutP false a).map fun d => ⟨zQ (-1), d⟩ else none
def grp : List (List UInt8) → List (List UInt8) → List (List (List UInt8))
  | acc, [] => [acc]
  | acc, w :: r => if w = [111, 114] then acc :: grp [] r else grp (acc ++ [w]) r
def x4 (s : List UInt8) : Option (List Sp) := if s = [45] then some [] else wK spP (grp [] (y7 32 [] s))
def qK : List UInt8 → List UInt8 → List UInt8 × List UInt8
  | acc, 32 :: 47 :: 32 :: r => (acc, r)
  | acc, c :: r => qK (acc ++ [c]) r
  | acc, [] => (acc, [])
def yR (t : List UInt8) : Option St :=
  match x4 (qK [] t).1, (if (qK [] t).2 = [] then some [] else x4 (qK [] t).2) with
  | some a, some b => if t ≠ [] ∧ zG ⟨a, b⟩ = t then some ⟨a, b⟩ else none
  | _, _ => none
theorem j8 {t : List UInt8} {s : St} (h : yR t = some s) : s.may = true ∧ yI s = t := by
  unfold yR at h
  split at h
  · split at h
    · rename_i a b _ _ hc
      injection h with h; subst h
      obtain ⟨h0, h1⟩ := hc
      unfold zG at h1
      by_cases hm : (St.mk a b).may = true
      · rw [if_pos hm] at h1; exact ⟨hm, h1⟩
      · rw [if_neg hm] at h1; exact absurd h1.symm h0
    · cases h
  · cases h
theorem joinL_avoid (b c : UInt8) (hb : b ≠ c) : ∀ (l : List (List UInt8)), (∀ x ∈ l, b ∉ x) → b ∉ x6 c l
  | [], _ => by simp [x6]
  | [x], h => h x (List.mem_singleton.2 rfl)
  | x :: y :: r, h => by
    rw [x6]
    simp only [List.mem_append, List.mem_cons, not_or]
    exact ⟨h x (List.mem_cons_self ..), hb, joinL_avoid b c hb (y :: r) fun z hz => h z (List.mem_cons_of_mem _ hz)⟩
theorem list_none {s : List UInt8} (h : kU s = true) (b : UInt8) (h1 : jG b = false) (h2 : b ≠ 46) : b ∉ s := by
  intro hm
  unfold kU at h
  rcases splitL_mem 46 s [] b hm with e | ⟨x, hx, hc⟩
  · exact h2 e
  · have hne : s.isEmpty = false := by cases s with
      | nil => cases hm
      | cons _ _ => rfl
    rw [hne, Bool.false_or, Bool.and_eq_true] at h
    have := List.all_eq_true.1 h.2 x hx
    unfold kO at this
    rw [Bool.and_eq_true] at this
    have := List.all_eq_true.1 this.2 _ hc
    rw [h1] at this; cases this
theorem j0 {v : Ver} (h : v.may = true) (hb : v.build = []) (b : UInt8) (h1 : jG b = false) (h2 : b ≠ 46) : b ∉ v.text := by
  have hd : kN b.toNat = false := by
    unfold jG at h1
    rw [Bool.or_eq_false_iff, Bool.or_eq_false_iff] at h1
    exact h1.1.2
  have h45 : b ≠ 45 := fun e => by subst e; revert h1; decide
  have hl : kU v.pre = true := by
    have := pB h
    unfold qQ at this
    exact (Bool.and_eq_true_iff.1 this).1
  unfold Ver.text
  rw [hb]
  intro hm
  rcases List.mem_append.1 hm with hm | hm
  · rcases List.mem_append.1 hm with hm | hm
    · exact n5 h b hd h2 hm
    · unfold kE at hm
      split at hm
      · cases hm
      · rcases List.mem_cons.1 hm with e | hm
        · exact h45 e
        · exact list_none hl b h1 h2 hm
  · cases hm
theorem ver_ne {v : Ver} : v.text ≠ [] := by
  intro h
  unfold Ver.text vF at h
  simp at h
structure In (c : Cu) : Prop where
  e : c.e = 0
  m : c.v.may = true
  b : c.v.build = []
theorem In.of {c : Cu} (h : c.may = true) (h0 : c.e = 0) : In c := ⟨h0, wB h, gE h⟩
theorem In.eq {c : Cu} (h : In c) : c = ⟨0, c.v, c.aft⟩ := by obtain ⟨e, v, a⟩ := c; rw [show e = 0 from h.e]
theorem ver_head {v : Ver} (h : v.may = true) (hb : v.build = []) : ∃ d q, v.text = d :: q ∧ d ≠ 61 := by
  cases hq : v.text with
  | nil => exact absurd hq ver_ne
  | cons d q => exact ⟨d, q, rfl, fun e => j0 h hb 61 (by decide) (by decide) (by rw [hq, e]; exact List.mem_cons_self ..)⟩
theorem cutP_lo {c : Cu} (h : In c) : cutP true (xF c) = some c := by
  obtain ⟨d, q, hq, hd⟩ := ver_head h.m h.b
  have hp := j9 h.m
  have he := h.eq
  unfold xF
  cases ha : c.aft with
  | true =>
    rw [if_pos rfl, hq] at *
    show cutP true (62 :: d :: q) = _
    rw [cutP, if_pos (by rfl)]
    try dsimp only
    rw [if_neg hd, hp]
    show some (Cu.mk 0 c.v true) = some c
    rw [← ha, ← he]
  | false =>
    rw [if_neg (by decide)]
    show cutP true (62 :: 61 :: c.v.text) = _
    rw [cutP, if_pos (by rfl)]
    try dsimp only
    rw [if_pos rfl, hp]
    show some (Cu.mk 0 c.v false) = some c
    rw [← ha, ← he]
theorem cutP_hi {c : Cu} (h : In c) : cutP false (xK c) = some c := by
  obtain ⟨d, q, hq, hd⟩ := ver_head h.m h.b
  have hp := j9 h.m
  have he := h.eq
  unfold xK
  cases ha : c.aft with
  | true =>
    rw [if_pos rfl]
    show cutP false (60 :: 61 :: c.v.text) = _
    rw [cutP, if_pos (by rfl)]
    try dsimp only
    rw [if_pos rfl, hp]
    show some (Cu.mk 0 c.v true) = some c
    rw [← ha, ← he]
  | false =>
    rw [if_neg (by decide), hq] at *
    show cutP false (60 :: d :: q) = _
    rw [cutP, if_pos (by rfl)]
    try dsimp only
    rw [if_neg hd, hp]
    show some (Cu.mk 0 c.v false) = some c
    rw [← ha, ← he]
theorem cutP_no (c : Cu) : cutP true (xK c) = none := by
  unfold xK
  cases c.aft with
  | true => rfl
  | false => rw [if_neg (by decide)]; rfl
theorem end_of {c : Cu} (h : c.may = true) (h0 : ¬ c.e = 0) : c = zQ (-1) ∨ c = zQ 1 := by
  rcases may_e h with e | ⟨e, h1, h2⟩
  · exact absurd e.1 h0
  · obtain ⟨x, v, a⟩ := c
    rcases e with e | e
    · left; show Cu.mk x v a = ⟨-1, Ver.zero, false⟩; rw [show x = -1 from e, show v = Ver.zero from h1, show a = false from h2]
    · right; show Cu.mk x v a = ⟨1, Ver.zero, false⟩; rw [show x = 1 from e, show v = Ver.zero from h1, show a = false from h2]
theorem lo_end {s : Sp} (h : s.may = true) (h0 : ¬ s.lo.e = 0) : s.lo = zQ (-1) := by
  obtain ⟨h1, h2⟩ := xA h
  rcases end_of h1 h0 with e | e
  · exact e
  · exfalso
    unfold Sp.may at h
    rw [decide_eq_true_eq, e] at h
    rw [e] at h1
    by_cases h3 : s.hi.e = 0
    · rw [gU h1 h2, show (zQ 1).e = 1 from rfl, h3] at h
      revert h; unfold lex; simp [Lib.compareInt]
    · rcases end_of h2 h3 with e2 | e2 <;> rw [e2] at h <;> revert h <;> decide
theorem hi_end {s : Sp} (h : s.may = true) (h0 : ¬ s.hi.e = 0) : s.hi = zQ 1 := by
  obtain ⟨h1, h2⟩ := xA h
  rcases end_of h2 h0 with e | e
  · exfalso
    unfold Sp.may at h
    rw [decide_eq_true_eq, e] at h
    rw [e] at h2
    by_cases h3 : s.lo.e = 0
    · rw [gU h1 h2, show (zQ (-1)).e = -1 from rfl, h3] at h
      revert h; unfold lex; simp [Lib.compareInt]
    · rcases end_of h1 h3 with e2 | e2 <;> rw [e2] at h <;> revert h <;> decide
  · exact e
theorem spW_ne (s : Sp) : spW s ≠ [] := by
  unfold spW
  split
  · simp
  · assumption
theorem lo_ne (c : Cu) : xF c ≠ [42] := by
  unfold xF
  cases c.aft with
  | true => rw [if_pos rfl]; simp
  | false => rw [if_neg (by decide)]; simp
theorem hi_ne (c : Cu) : xK c ≠ [42] := by
  unfold xK
  cases c.aft with
  | true => rw [if_pos rfl]; simp
  | false => rw [if_neg (by decide)]; simp
theorem spP_words {s : Sp} (h : s.may = true) : spP (spW s) = some s := by
  obtain ⟨h1, h2⟩ := xA h
  obtain ⟨lo, hi⟩ := s
  unfold spW loW hiW
  dsimp only at *
  by_cases a : lo.e = 0
  · have il := In.of h1 a
    by_cases b : hi.e = 0
    · have ih := In.of h2 b
      rw [if_pos a, if_pos b, if_neg (by simp)]
      show spP [xF lo, xK hi] = _
      rw [spP, if_neg (by simp), cutP_lo il]
      try dsimp only
      rw [cutP_hi ih]; rfl
    · have e := hi_end h b; dsimp only at e; subst e
      rw [if_pos a, if_neg b, if_neg (by simp)]
      show spP [xF lo] = _
      rw [spP, if_neg (by simp [lo_ne]), cutP_lo il]
  · have e := lo_end h a; dsimp only at e; subst e
    by_cases b : hi.e = 0
    · have ih := In.of h2 b
      rw [if_neg a, if_pos b, if_neg (by simp)]
      show spP [xK hi] = _
      rw [spP, if_neg (by simp [hi_ne]), cutP_no]
      try dsimp only
      rw [if_pos rfl, cutP_hi ih]; rfl
    · have e := hi_end h b; dsimp only at e; subst e
      rfl
structure Wd (x : List UInt8) : Prop where
  b : (32 : UInt8) ∉ x
  s : (47 : UInt8) ∉ x
  h : ∃ d q, x = d :: q ∧ (d = 42 ∨ d = 60 ∨ d = 62)
theorem wd_lo {c : Cu} (h : In c) : Wd (xF c) := by
  have h1 := j0 h.m h.b 32 (by decide) (by decide)
  have h2 := j0 h.m h.b 47 (by decide) (by decide)
  unfold xF
  cases c.aft with
  | true => rw [if_pos rfl]; exact ⟨by simp [h1], by simp [h2], ⟨62, _, rfl, by simp⟩⟩
  | false => rw [if_neg (by decide)]; exact ⟨by simp [h1], by simp [h2], ⟨62, _, rfl, by simp⟩⟩
theorem wd_hi {c : Cu} (h : In c) : Wd (xK c) := by
  have h1 := j0 h.m h.b 32 (by decide) (by decide)
  have h2 := j0 h.m h.b 47 (by decide) (by decide)
  unfold xK
  cases c.aft with
  | true => rw [if_pos rfl]; exact ⟨by simp [h1], by simp [h2], ⟨60, _, rfl, by simp⟩⟩
  | false => rw [if_neg (by decide)]; exact ⟨by simp [h1], by simp [h2], ⟨60, _, rfl, by simp⟩⟩
theorem bX {s : Sp} (h : s.may = true) : ∀ x ∈ spW s, Wd x := by
  obtain ⟨h1, h2⟩ := xA h
  intro x hx
  unfold spW at hx
  split at hx
  · rw [List.mem_singleton.1 hx]; exact ⟨by decide, by decide, ⟨42, [], rfl, by simp⟩⟩
  · rcases List.mem_append.1 hx with hx | hx
    · unfold loW at hx
      split at hx
      · rename_i a; rw [List.mem_singleton.1 hx]; exact wd_lo (.of h1 a)
      · cases hx
    · unfold hiW at hx
      split at hx
      · rename_i a; rw [List.mem_singleton.1 hx]; exact wd_hi (.of h2 a)
      · cases hx
theorem Wd.or {x : List UInt8} (h : Wd x) : x ≠ [111, 114] := by
  obtain ⟨d, q, rfl, hd⟩ := h.h
  intro e
  injection e with e _
  subst e
  revert hd; decide
def rowW : List Sp → List (List UInt8)
  | [] => []
  | [s] => spW s
  | s :: t :: r => spW s ++ [111, 114] :: rowW (t :: r)
theorem joinL_app (b : UInt8) : ∀ (l m : List (List UInt8)), l ≠ [] → m ≠ [] → x6 b (l ++ m) = x6 b l ++ b :: x6 b m
  | [], _, h, _ => absurd rfl h
  | [x], [], _, h => absurd rfl h
  | [x], y :: m, _, _ => rfl
  | x :: y :: l, m, _, hm => by
    show x ++ b :: x6 b ((y :: l) ++ m) = _
    rw [joinL_app b (y :: l) m (by simp) hm, x6]
    simp
theorem rowW_ne : ∀ (l : List Sp), l ≠ [] → rowW l ≠ []
  | [], h => absurd rfl h
  | [s], _ => spW_ne s
  | s :: t :: r, _ => by rw [rowW]; simp
theorem bI : ∀ (l : List Sp), l ≠ [] → gQ [32, 111, 114, 32] (l.map yF) = x6 32 (rowW l)
  | [], h => absurd rfl h
  | [s], _ => rfl
  | s :: t :: r, _ => by
    show gQ [32, 111, 114, 32] (yF s :: yF t :: r.map yF) = _
    rw [tG, rowW, joinL_app 32 _ _ (spW_ne s) (by simp)]
    have e := bI (t :: r) (by simp)
    rw [List.map_cons] at e
    rw [e]
    cases hr : rowW (t :: r) with
    | nil => exact absurd hr (rowW_ne _ (by simp))
    | cons a q => simp [x6, yF]
theorem grp_free : ∀ (a acc : List (List UInt8)), (∀ x ∈ a, x ≠ [111, 114]) → grp acc a = [acc ++ a]
  | [], acc, _ => by simp [grp]
  | w :: a, acc, h => by
    rw [grp, if_neg (h w (List.mem_cons_self ..)), grp_free a _ fun x hx => h x (List.mem_cons_of_mem _ hx)]
    simp
theorem grp_hit : ∀ (a acc r : List (List UInt8)), (∀ x ∈ a, x ≠ [111, 114]) → grp acc (a ++ [111, 114] :: r) = (acc ++ a) :: grp [] r
  | [], acc, r, _ => by rw [List.nil_append, grp, if_pos rfl, List.append_nil]
  | w :: a, acc, r, h => by
    rw [List.cons_append, grp, if_neg (h w (List.mem_cons_self ..)), grp_hit a _ r fun x hx => h x (List.mem_cons_of_mem _ hx)]
    simp
theorem grp_row : ∀ (l : List Sp), l ≠ [] → (∀ s ∈ l, s.may = true) → grp [] (rowW l) = l.map spW
  | [], h, _ => absurd rfl h
  | [s], _, h => grp_free _ _ fun x hx => (bX (h s (List.mem_singleton.2 rfl)) x hx).or
  | s :: t :: r, _, h => by
    rw [rowW, grp_hit _ _ _ fun x hx => (bX (h s (List.mem_cons_self ..)) x hx).or, grp_row (t :: r) (by simp) fun x hx => h x (List.mem_cons_of_mem _ hx)]
    rfl
theorem all_row : ∀ (l : List Sp), (∀ s ∈ l, s.may = true) → wK spP (l.map spW) = some l
  | [], _ => rfl
  | s :: l, h => allO_cons (spP_words (h s (List.mem_cons_self ..))) (all_row l fun x hx => h x (List.mem_cons_of_mem _ hx))
theorem wd_row : ∀ (l : List Sp), (∀ s ∈ l, s.may = true) → ∀ x ∈ rowW l, (32 : UInt8) ∉ x ∧ (47 : UInt8) ∉ x
  | [], _, x, hx => by cases hx
  | [s], h, x, hx => have q := bX (h s (List.mem_singleton.2 rfl)) x hx; ⟨q.b, q.s⟩
  | s :: t :: r, h, x, hx => by
    rw [rowW] at hx
    rcases List.mem_append.1 hx with hx | hx
    · have q := bX (h s (List.mem_cons_self ..)) x hx; exact ⟨q.b, q.s⟩
    · rcases List.mem_cons.1 hx with rfl | hx
      · exact ⟨by decide, by decide⟩
      · exact wd_row (t :: r) (fun x hx => h x (List.mem_cons_of_mem _ hx)) x hx
theorem dV (b : UInt8) : ∀ (l : List (List UInt8)), l ≠ [] → (∀ x ∈ l, b ∉ x) → y7 b [] (x6 b l) = l
  | [], h, _ => absurd rfl h
  | [x], _, h => by
    show y7 b [] x = [x]
    rw [gK, nO b _ (h x (List.mem_singleton.2 rfl))]; simp
  | x :: y :: r, _, h => by
    rw [x6, gK, jS b _ _ (h x (List.mem_cons_self ..))]
    simp only [List.nil_append, if_true]
    rw [dV b (y :: r) (by simp) fun z hz => h z (List.mem_cons_of_mem _ hz)]
theorem mP : ∀ (l : List Sp), l ≠ [] → (∀ s ∈ l, s.may = true) → ∃ d q, x6 32 (rowW l) = d :: q ∧ (d = 42 ∨ d = 60 ∨ d = 62) := by
  have key : ∀ (s : Sp) (w : List (List UInt8)), s.may = true → ∃ d q, x6 32 (spW s ++ w) = d :: q ∧ (d = 42 ∨ d = 60 ∨ d = 62) := by
    intro s w h
    cases hs : spW s with
    | nil => exact absurd hs (spW_ne s)
    | cons x r =>
      obtain ⟨d, q, rfl, hd⟩ := (bX h x (by rw [hs]; exact List.mem_cons_self ..)).h
      rw [List.cons_append]
      cases hr : r ++ w with
      | nil => exact ⟨d, q, rfl, hd⟩
      | cons y z => exact ⟨d, _, rfl, hd⟩
  intro l h0 h
  match l, h0 with
  | [s], _ => have := key s [] (h s (List.mem_singleton.2 rfl)); rwa [List.append_nil] at this
  | s :: t :: r, _ => exact key s _ (h s (List.mem_cons_self ..))
theorem xL {l : List Sp} (h : zS l = true) : ∀ s ∈ l, s.may = true := vZ h
theorem rowsP_text {l : List Sp} (h : zS l = true) : x4 (zT l) = some l := by
  unfold x4 zT
  by_cases h0 : l = []
  · subst h0; rfl
  · rw [if_neg h0, bI l h0]
    obtain ⟨d, q, e, hd⟩ := mP l h0 (xL h)
    rw [if_neg (by rw [e]; intro e2; injection e2 with e2 _; subst e2; revert hd; decide), dV 32 _ (rowW_ne l h0) fun x hx => (wd_row l (xL h) x hx).1, grp_row l h0 (xL h)]
    exact all_row l (xL h)
theorem mO {l : List Sp} (h : zS l = true) : (47 : UInt8) ∉ zT l := by
  unfold zT
  split
  · decide
  · rename_i h0
    rw [bI l h0]
    exact joinL_avoid 47 32 (by decide) _ fun x hx => (wd_row l (xL h) x hx).2
theorem nY {l : List Sp} (h : zS l = true) : zT l ≠ [] := by
  unfold zT
  split
  · simp
  · rename_i h0
    obtain ⟨d, q, e, _⟩ := mP l h0 (xL h)
    rw [bI l h0, e]; simp
theorem cutS_free : ∀ (a acc : List UInt8), (47 : UInt8) ∉ a → qK acc a = (acc ++ a, [])
  | [], acc, _ => by simp [qK]
  | c :: r, acc, h => by
    have hr : (47 : UInt8) ∉ r := fun e => h (List.mem_cons_of_mem _ e)
    rw [qK]
    · rw [cutS_free r _ hr]; simp
    · intro q e1 e2; subst e2; exact hr (List.mem_cons_self ..)
theorem cutS_hit : ∀ (a acc b : List UInt8), (47 : UInt8) ∉ a → qK acc (a ++ [32, 47, 32] ++ b) = (acc ++ a, b)
  | [], acc, b, _ => by simp [qK]
  | c :: r, acc, b, h => by
    have hr : (47 : UInt8) ∉ r := fun e => h (List.mem_cons_of_mem _ e)
    show qK acc (c :: (r ++ [32, 47, 32] ++ b)) = _
    rw [qK]
    · rw [cutS_hit r _ b hr]; simp
    · intro q e1 e2
      cases r with
      | nil => injection e2 with e2 _; revert e2; decide
      | cons x r => injection e2 with e2 _; subst e2; exact hr (List.mem_cons_self ..)
theorem wR {s : St} (h : s.may = true) : yR (yI s) = some s := by
  obtain ⟨h1, h2, h3⟩ := St.facts h
  have hp : zG s = yI s := if_pos h
  have hne : yI s ≠ [] := by
    unfold yI
    split
    · exact nY h1
    · simp
  obtain ⟨a, b⟩ := s
  dsimp only at *
  have key : qK [] (yI ⟨a, b⟩) = (zT a, if b = [] then [] else zT b) := by
    unfold yI
    try dsimp only
    by_cases h0 : b = []
    · rw [if_pos h0, if_pos h0, cutS_free _ _ (mO h1)]; rfl
    · rw [if_neg h0, if_neg h0, cutS_hit _ _ _ (mO h1)]; rfl
  unfold yR
  rw [key]
  try dsimp only
  have k2 : (if (if b = [] then [] else zT b) = [] then some [] else x4 (if b = [] then [] else zT b)) = some b := by
    by_cases h0 : b = []
    · subst h0; rfl
    · rw [if_neg h0, if_neg (nY h2), rowsP_text h2]
  rw [k2, rowsP_text h1]
  try dsimp only
  rw [if_pos ⟨hne, hp⟩]
theorem setText_inj {a b : St} (ha : a.may = true) (hb : b.may = true) (h : yI a = yI b) : a = b := by
  have h1 := wR ha
  rw [h, wR hb] at h1
  injection h1 with h1; exact h1.symm
end
section
end
section
def highC (v : Ver) : Nat → Cu
  | 0 => if zZ v 0 then ⟨0, x3 v 0, false⟩ else zQ 1
  | k + 1 => if zZ v ((k + 1 : Nat) : Int) then ⟨0, x3 v ((k + 1 : Nat) : Int), false⟩ else highC v k
def turnsK (c : Co) : Nat := if 0 < c.v.maj ∨ c.parts = 1 then 0 else if 0 < c.v.min ∨ c.parts = 2 then 1 else 2
def Co.low (c : Co) : Cu := ⟨0, yK c.v, false⟩
def Co.aft (c : Co) : Cu := if c.parts < 3 ∧ 0 < c.parts then highC c.v (c.parts - 1).toNat else ⟨0, yK c.v, true⟩
def Co.span (c : Co) : Cu × Cu :=
  if c.op = 1 ∨ c.op = 2 then (c.low, c.aft) else if c.op = 3 then (zQ (-1), c.low) else if c.op = 4 then (zQ (-1), c.aft) else if c.op = 5 then (c.aft, zQ 1) else if c.op = 6 then (c.low, zQ 1)
  else if c.op = 7 then (c.low, highC c.v (turnsK c)) else if c.op = 8 then (c.low, highC c.v (min (c.parts - 1) 1).toNat) else if c.parts = 0 then (zQ (-1), zQ 1) else (c.low, highC c.v (c.parts - 1).toNat)
def oneRow (lo hi : Cu) : List Sp := addL [] lo hi
def Co.region (c : Co) : List Sp := if c.may then (if c.op = 2 then notL (oneRow c.span.1 c.span.2) else oneRow c.span.1 c.span.2) else []
def Co.zone (c : Co) : List Sp := if c.may && !decide (c.v.pre = []) then [⟨⟨0, { c.v with pre := [48], build := [] }, false⟩, ⟨0, { c.v with pre := [], build := [] }, false⟩⟩] else []
def upN (v : Ver) (k : Nat) : Int := if k = 0 then (v.maj + 1) * 100000000 else if k = 1 then v.maj * 100000000 + (v.min + 1) * 10000 else v.code + 1
def ordB (op n : Int) : Bool := if op = 1 then decide (n = 0) else if op = 2 then decide (¬ n = 0) else if op = 3 then decide (n < 0) else if op = 4 then decide (n ≤ 0) else if op = 5 then decide (0 < n) else decide (0 ≤ n)
end
section
def jI (c : Co) (v : Ver) (p : Int) : Bool := (decide (p < 1) || decide (v.maj = c.v.maj)) && (decide (p < 2) || decide (v.min = c.v.min)) && (decide (p < 3) || decide (v.pat = c.v.pat))
def overB (c : Co) (v : Ver) : Bool := if ¬ v.maj = c.v.maj ∨ c.parts = 1 then decide (c.v.maj < v.maj) else if ¬ v.min = c.v.min ∨ c.parts = 2 then decide (c.v.min < v.min) else decide (c.v.pat < v.pat)
def saysN (c : Co) : Int := if 0 < c.v.maj ∨ c.parts = 1 then 1 else if 0 < c.v.min ∨ c.parts = 2 then 2 else 3
def saysB (c : Co) (v : Ver) : Bool :=
  if c.op = 1 ∨ c.op = 9 then jI c v c.parts else if c.op = 2 then !jI c v c.parts else if c.op = 3 then !jI c v c.parts && !overB c v else if c.op = 4 then jI c v c.parts || !overB c v
  else if c.op = 5 then overB c v else if c.op = 6 then jI c v c.parts || overB c v else if c.op = 8 then jI c v (min c.parts 2) && (jI c v c.parts || overB c v)
  else jI c v (saysN c) && (jI c v c.parts || overB c v)
def truncN (v : Ver) (q : Nat) : Int := if q = 1 then v.maj * 100000000 else if q = 2 then v.maj * 100000000 + v.min * 10000 else v.code
end
section
def leastP (v : Ver) : Ver := { v with pre := [48], build := [] }
def bareV (v : Ver) : Ver := { v with pre := [], build := [] }
def withO (c : Co) (o : Int) : Co := { c with op := o }
end
section
def flatC : List Sp → List Cu
  | [] => []
  | s :: l => s.lo :: s.hi :: flatC l
def altRel (a : List Co) : List Sp := a.foldl (fun l c => andL l c.region) gZ
def altZone (a : List Co) : List Sp := a.foldl (fun l c => orL l c.zone) []
def altSet (a : List Co) : St := ⟨xM (altRel a), andL (altRel a) (altZone a)⟩
def orAll (r : List (List Co)) : St := r.foldl (fun s a => orT s (altSet a)) xV
def rgSet (r : List (List Co)) : St := if rgMay r then orAll r else xV
end
section
theorem tU (sep : List UInt8) : ∀ (f : Nat) (s : List UInt8), s.length < f → Lib.splitK sep 0 (Lib.countFrom sep f s) s = if Lib.index s sep = -1 then [s] else s.take (Lib.index s sep).toNat :: Lib.splitK sep 0 (Lib.countFrom sep (f - 1) (s.drop ((Lib.index s sep).toNat + sep.length))) (s.drop ((Lib.index s sep).toNat + sep.length))
  | f + 1, s, h => by
    rw [Lib.countFrom]
    by_cases q : Lib.index s sep = -1
    · rw [if_pos (by simp [q]), if_pos q, Lib.splitK]
    · rw [if_neg (by simp [q]), if_neg q, Nat.add_comm 1, Lib.splitK, if_neg (by simp [q]), Nat.add_zero]; rfl
theorem cut_index (b : UInt8) (s : List UInt8) : y7 b [] s = if Lib.index s [b] = -1 then [s] else s.take (Lib.index s [b]).toNat :: y7 b [] (s.drop ((Lib.index s [b]).toNat + 1)) := by
  have hc := cutAt_cut b s
  have hge := Lib.index_ge s [b]
  rw [gK, ← hc]
  unfold Lib.cut
  by_cases h : Lib.index s [b] = -1
  · have h2 : ¬ 0 ≤ Lib.index s [b] := by omega
    simp [h]
  · have h2 : 0 ≤ Lib.index s [b] := by omega
    simp [h, h2]
theorem cuts_from (b : UInt8) : ∀ (f : Nat) (s : List UInt8), s.length < f → Lib.splitK [b] 0 (Lib.countFrom [b] f s) s = y7 b [] s
  | f + 1, s, h => by
    rw [tU _ _ _ h, cut_index b s]
    by_cases q : Lib.index s [b] = -1
    · rw [if_pos q, if_pos q]
    · have hr := Lib.index_room s [b] (by have := Lib.index_ge s [b]; omega)
      rw [if_neg q, if_neg q]
      show _ :: Lib.splitK [b] 0 (Lib.countFrom [b] f _) _ = _
      rw [cuts_from b f _ (by rw [List.length_drop]; simp only [List.length_cons, List.length_nil]; simp only [List.length_cons, List.length_nil] at hr; have := Lib.index_ge s [b]; omega)]
      rfl
theorem split_cuts (b : UInt8) (s : List UInt8) : Lib.splitK [b] 0 (Lib.count s [b]) s = y7 b [] s := cuts_from b _ s (Nat.lt_succ_self _)
theorem dW (sep : List UInt8) (k : Nat) (s : List UInt8) : Lib.splitB (mkS sep) 0 k (mkS s) = (Lib.splitK sep 0 k s).map mkS := by
  have h := Lib.splitB_data (mkS sep) 0 k (mkS s)
  rw [mk_data, mk_data] at h
  rw [← h, List.map_map]
  refine ((List.map_congr_left fun x _ => ?_).trans (List.map_id _)).symm
  exact Lib.mk_data x
theorem splitB_cuts (b : UInt8) (s : List UInt8) : Lib.splitB (mkS [b]) 0 (Lib.countB (mkS s) (mkS [b])) (mkS s) = (y7 b [] s).map mkS := by
  rw [dW, show Lib.countB (mkS s) (mkS [b]) = Lib.count s [b] from by unfold Lib.countB; rw [mk_data, mk_data], split_cuts]
def bareR (s : List UInt8) : List UInt8 := (bareF s.reverse).reverse
def textR (r : List (List Co)) : List UInt8 := if fewR r then rgText r else []
end
section
def sgs : List UInt8 := [60, 61, 62]
def vG (p : List UInt8) : List UInt8 := Lib.trimLeftS p sgs
def vS (p : List UInt8) : List UInt8 := p.takeWhile (sgs.contains ·)
theorem sgn_num (p : List UInt8) : vS p ++ vG p = p := List.takeWhile_append_dropWhile ..
theorem trim_sgn (p : List UInt8) : Lib.trimSuffix p (vG p) = vS p := by
  have h := sgn_num p
  unfold Lib.trimSuffix Lib.hasSuffix
  rw [if_pos (by rw [List.isSuffixOf_iff_suffix]; exact ⟨vS p, h⟩)]
  conv => lhs; rw [← h]
  rw [show (vS p ++ vG p).length - (vG (vS p ++ vG p)).length = (vS p).length from by rw [h, ← h]; rw [List.length_append, h]; omega]
  rw [List.take_left]
theorem num_len (p : List UInt8) : (vG p).length ≤ p.length := by
  have h := congrArg List.length (sgn_num p)
  rw [List.length_append] at h; omega
def kB (x : Sp) (p : List UInt8) : Sp :=
  if vS p = [62, 61] then ⟨⟨0, (x5 (vG p)).getD Ver.zero, false⟩, x.hi⟩
  else if vS p = [62] then ⟨⟨0, (x5 (vG p)).getD Ver.zero, true⟩, x.hi⟩
  else if vS p = [60] then ⟨x.lo, ⟨0, (x5 (vG p)).getD Ver.zero, false⟩⟩
  else if vS p = [60, 61] then ⟨x.lo, ⟨0, (x5 (vG p)).getD Ver.zero, true⟩⟩
  else x
def spW0 : Sp := ⟨zQ (-1), zQ 1⟩
def b6 (s : List UInt8) : Sp := (y7 32 [] s).foldl kB spW0
def tB (s : List UInt8) : List (List UInt8) := Lib.splitK [32, 111, 114, 32] 0 (Lib.count s [32, 111, 114, 32]) s
def yX (s : List UInt8) : List Sp := if s = [45] then [] else (tB s).map b6
def wO (s : List UInt8) : St := ⟨yX (Lib.cut s [32, 47, 32]).1, if (Lib.cut s [32, 47, 32]).2.2 = true then yX (Lib.cut s [32, 47, 32]).2.1 else []⟩
theorem nJ {c : UInt8} {r sep : List UInt8} (h : List.isPrefixOf sep (c :: r) = false) : Lib.index (c :: r) sep = if Lib.index r sep = -1 then -1 else Lib.index r sep + 1 := by
  conv => lhs; rw [Lib.index]
  rw [h, if_neg (by decide)]
  simp
def adv (n : Int) (k : Nat) : Int := if n = -1 then -1 else n + k
theorem adv_succ {n : Int} (h : -1 ≤ n) (k : Nat) : (if adv n k = -1 then -1 else adv n k + 1) = adv n (k + 1) := by
  unfold adv
  by_cases q : n = -1
  · simp [q]
  · rw [if_neg q, if_neg q, if_neg (by omega)]; push_cast; omega
theorem adv_adv {n : Int} (h : -1 ≤ n) (a b : Nat) : adv (adv n a) b = adv n (a + b) := by
  unfold adv
  by_cases q : n = -1
  · simp [q]
  · rw [if_neg q, if_neg q, if_neg (by omega)]; push_cast; omega
theorem nI (t : List UInt8) (r : List UInt8) : ∀ (w : List UInt8), (32 : UInt8) ∉ w → Lib.index (w ++ r) (32 :: t) = adv (Lib.index r (32 :: t)) w.length
  | [], _ => by
    unfold adv
    rw [List.nil_append]
    split
    · assumption
    · simp
  | c :: w, h => by
    have hc : ((32 : UInt8) == c) = false := beq_eq_false_iff_ne.2 fun e => h (by rw [e]; exact List.mem_cons_self ..)
    rw [List.cons_append, nJ (by rw [List.isPrefixOf, hc]; rfl), nI t r w fun e => h (List.mem_cons_of_mem _ e), adv_succ (Lib.index_ge _ _)]
    rfl
theorem index_blank {d : UInt8} {r t : List UInt8} {x : UInt8} (h : d ≠ x) : Lib.index (32 :: d :: r) (32 :: x :: t) = adv (Lib.index (d :: r) (32 :: x :: t)) 1 := by
  have hc : (x == d) = false := beq_eq_false_iff_ne.2 (Ne.symm h)
  rw [nJ (by rw [List.isPrefixOf, List.isPrefixOf, hc]; simp)]
  unfold adv; simp
theorem index_hit (sep r : List UInt8) (h : sep ≠ []) : Lib.index (sep ++ r) sep = 0 := by
  cases sep with
  | nil => exact absurd rfl h
  | cons a s =>
    rw [List.cons_append, Lib.index, if_pos]
    rw [List.isPrefixOf_iff_prefix]
    exact ⟨r, rfl⟩
theorem index_nil (a : UInt8) (t : List UInt8) : Lib.index [] (a :: t) = -1 := rfl
theorem tQ {s : Sp} (h : s.may = true) (r : List UInt8) : Lib.index (yF s ++ r) [32, 111, 114, 32] = adv (Lib.index r [32, 111, 114, 32]) (yF s).length := by
  have hw := bX h
  have key : ∀ l : List (List UInt8), (∀ x ∈ l, Wd x) → l ≠ [] → Lib.index (x6 32 l ++ r) [32, 111, 114, 32] = adv (Lib.index r [32, 111, 114, 32]) (x6 32 l).length := by
    intro l
    induction l with
    | nil => intro _ h; exact absurd rfl h
    | cons x l ih =>
      intro hx _
      cases l with
      | nil => exact nI _ r x (hx x (List.mem_cons_self ..)).b
      | cons y m =>
        have h2 := ih (fun z hz => hx z (List.mem_cons_of_mem _ hz)) (by simp)
        obtain ⟨d, q, e, hd⟩ : ∃ d q, x6 32 (y :: m) = d :: q ∧ d ≠ 111 := by
          obtain ⟨d, q, e, hd⟩ := (hx y (by simp)).h
          have hd2 : d ≠ 111 := by rcases hd with rfl | rfl | rfl <;> decide
          cases m with
          | nil => exact ⟨d, q, by rw [← e]; rfl, hd2⟩
          | cons z m => exact ⟨d, q ++ 32 :: x6 32 (z :: m), by rw [x6, e]; rfl, hd2⟩
        rw [x6, List.append_assoc, nI _ _ x (hx x (List.mem_cons_self ..)).b, List.cons_append]
        rw [e] at h2 ⊢
        rw [List.cons_append, index_blank hd]
        rw [List.cons_append] at h2
        rw [h2, adv_adv (Lib.index_ge _ _), adv_adv (Lib.index_ge _ _)]
        congr 1
        simp only [List.length_append, List.length_cons]; omega
  exact key _ hw (spW_ne s)
theorem ors_unf (s : List UInt8) : tB s = if Lib.index s [32, 111, 114, 32] = -1 then [s] else s.take (Lib.index s [32, 111, 114, 32]).toNat :: tB (s.drop ((Lib.index s [32, 111, 114, 32]).toNat + 4)) := by
  have hge := Lib.index_ge s [32, 111, 114, 32]
  have key : ∀ (f g : Nat) (t : List UInt8), t.length < f → t.length < g → Lib.countFrom [32, 111, 114, 32] f t = Lib.countFrom [32, 111, 114, 32] g t := by
    intro f
    induction f with
    | zero => intro g t h; omega
    | succ f ih =>
      intro g t h1 h2
      cases g with
      | zero => omega
      | succ g =>
        rw [Lib.countFrom, Lib.countFrom]
        by_cases q : Lib.index t [32, 111, 114, 32] = -1
        · rw [if_pos (by simp [q]), if_pos (by simp [q])]
        · have hr := Lib.index_room t [32, 111, 114, 32] (by have := Lib.index_ge t [32, 111, 114, 32]; omega)
          simp only [List.length_cons, List.length_nil] at hr
          have hg := Lib.index_ge t [32, 111, 114, 32]
          rw [if_neg (by simp [q]), if_neg (by simp [q]), ih g _ (by rw [List.length_drop]; simp only [List.length_cons, List.length_nil]; omega) (by rw [List.length_drop]; simp only [List.length_cons, List.length_nil]; omega)]
  unfold tB Lib.count
  rw [tU _ _ _ (Nat.lt_succ_self _)]
  by_cases q : Lib.index s [32, 111, 114, 32] = -1
  · rw [if_pos q, if_pos q]
  · have hr := Lib.index_room s [32, 111, 114, 32] (by omega)
    simp only [List.length_cons, List.length_nil] at hr
    rw [if_neg q, if_neg q, show ([32, 111, 114, 32] : List UInt8).length = 4 from rfl]
    congr 2
    exact key _ _ _ (by rw [List.length_drop]; omega) (by omega)
theorem ors_row : ∀ (l : List Sp), l ≠ [] → (∀ s ∈ l, s.may = true) → tB (gQ [32, 111, 114, 32] (l.map yF)) = l.map yF
  | [], h, _ => absurd rfl h
  | [s], _, h => by
    have e := tQ (h s (List.mem_singleton.2 rfl)) []
    rw [List.append_nil, index_nil, show adv (-1) (yF s).length = -1 from if_pos rfl] at e
    rw [List.map_cons, List.map_nil, gQ, ors_unf, e, if_pos rfl]
  | s :: t :: r, _, h => by
    have e := tQ (h s (List.mem_cons_self ..)) ([32, 111, 114, 32] ++ gQ [32, 111, 114, 32] ((t :: r).map yF))
    rw [index_hit _ _ (by decide)] at e
    have e2 : adv 0 (yF s).length = ((yF s).length : Int) := by unfold adv; rw [if_neg (by decide)]; omega
    rw [e2] at e
    have ih := ors_row (t :: r) (by simp) fun x hx => h x (List.mem_cons_of_mem _ hx)
    rw [List.map_cons] at e ih
    have hd : (yF s ++ ([32, 111, 114, 32] ++ gQ [32, 111, 114, 32] (yF t :: r.map yF))).drop ((yF s).length + 4) = gQ [32, 111, 114, 32] (yF t :: r.map yF) := by
      rw [← List.append_assoc, show (yF s).length + 4 = (yF s ++ [32, 111, 114, 32]).length from by rw [List.length_append]; rfl, List.drop_left]
    rw [List.map_cons, List.map_cons, tG, List.append_assoc, ors_unf, e, if_neg (by omega), Int.toNat_natCast, List.take_left, hd, ih]
theorem ors_len (s : List UInt8) : (tB s).length ≤ s.length + 1 := by
  have h := dW [32, 111, 114, 32] (Lib.count s [32, 111, 114, 32]) s
  have h2 := Lib.splitB_length_le (mkS [32, 111, 114, 32]) 0 (Lib.count s [32, 111, 114, 32]) (mkS s)
  rw [h, List.length_map] at h2
  have h3 := Lib.countB_le (mkS [32, 111, 114, 32]) (by decide) (mkS s).size (mkS s) (Nat.le_refl _)
  rw [show Lib.countB (mkS s) (mkS [32, 111, 114, 32]) = Lib.count s [32, 111, 114, 32] from by unfold Lib.countB; rw [mk_data, mk_data], show (mkS s).size = s.length from by rw [Lib.size_eq, mk_data]] at h3
  unfold tB; omega
theorem splitK_le (sep : List UInt8) : ∀ (k : Nat) (s : List UInt8), ∀ x ∈ Lib.splitK sep 0 k s, x.length ≤ s.length
  | 0, s, x, h => by rw [Lib.splitK, List.mem_singleton] at h; rw [h]; exact Nat.le_refl _
  | k + 1, s, x, h => by
    rw [Lib.splitK] at h
    split at h
    · rw [List.mem_singleton] at h; rw [h]; exact Nat.le_refl _
    · rcases List.mem_cons.1 h with rfl | h
      · rw [List.length_take]; exact Nat.min_le_right ..
      · have := splitK_le sep k _ x h; rw [List.length_drop] at this; omega
theorem ors_le (s : List UInt8) : ∀ x ∈ tB s, x.length ≤ s.length := splitK_le _ _ _
theorem sgn_at : ∀ (a n : List UInt8), (∀ x ∈ a, sgs.contains x = true) → (∀ d q, n = d :: q → sgs.contains d = false) → vS (a ++ n) = a ∧ vG (a ++ n) = n
  | [], n, _, h => by
    unfold vS vG Lib.trimLeftS
    cases n with
    | nil => exact ⟨rfl, rfl⟩
    | cons d q =>
      have hd := h d q rfl
      rw [List.nil_append]
      exact ⟨List.takeWhile_cons_of_neg (by rw [hd]; decide), List.dropWhile_cons_of_neg (by rw [hd]; decide)⟩
  | c :: a, n, ha, h => by
    have ih := sgn_at a n (fun x hx => ha x (List.mem_cons_of_mem _ hx)) h
    have hc := ha c (List.mem_cons_self ..)
    unfold vS vG Lib.trimLeftS at ih ⊢
    rw [List.cons_append, List.takeWhile_cons_of_pos hc, List.dropWhile_cons_of_pos hc, ih.1, ih.2]
    exact ⟨rfl, rfl⟩
theorem ver_sgn {v : Ver} (h : v.may = true) (hb : v.build = []) : ∀ d q, v.text = d :: q → sgs.contains d = false := by
  intro d q e
  have hm : d ∈ v.text := by rw [e]; exact List.mem_cons_self ..
  have h1 := j0 h hb 60 (by decide) (by decide)
  have h2 := j0 h hb 61 (by decide) (by decide)
  have h3 := j0 h hb 62 (by decide) (by decide)
  unfold sgs
  simp only [List.contains, List.elem]
  have e1 : (d == 60) = false := beq_eq_false_iff_ne.2 fun q => h1 (q ▸ hm)
  have e2 : (d == 61) = false := beq_eq_false_iff_ne.2 fun q => h2 (q ▸ hm)
  have e3 : (d == 62) = false := beq_eq_false_iff_ne.2 fun q => h3 (q ▸ hm)
  rw [e1, e2, e3]
theorem rd_lo {c : Cu} (h : In c) (x : Sp) : kB x (xF c) = ⟨c, x.hi⟩ := by
  have hp := j9 h.m
  have he := h.eq
  have hv := ver_sgn h.m h.b
  unfold xF kB
  cases ha : c.aft with
  | true =>
    obtain ⟨e1, e2⟩ := sgn_at [62] c.v.text (by decide) hv
    rw [show (if true = true then ([62] : List UInt8) else [62, 61]) = [62] from rfl, e1, e2, if_neg (by decide), if_pos rfl, hp, Option.getD_some, ← ha, ← he]
  | false =>
    obtain ⟨e1, e2⟩ := sgn_at [62, 61] c.v.text (by decide) hv
    rw [show (if false = true then ([62] : List UInt8) else [62, 61]) = [62, 61] from rfl, e1, e2, if_pos rfl, hp, Option.getD_some, ← ha, ← he]
theorem rd_hi {c : Cu} (h : In c) (x : Sp) : kB x (xK c) = ⟨x.lo, c⟩ := by
  have hp := j9 h.m
  have he := h.eq
  have hv := ver_sgn h.m h.b
  unfold xK kB
  cases ha : c.aft with
  | true =>
    obtain ⟨e1, e2⟩ := sgn_at [60, 61] c.v.text (by decide) hv
    rw [show (if true = true then ([60, 61] : List UInt8) else [60]) = [60, 61] from rfl, e1, e2, if_neg (by decide), if_neg (by decide), if_neg (by decide), if_pos rfl, hp, Option.getD_some, ← ha, ← he]
  | false =>
    obtain ⟨e1, e2⟩ := sgn_at [60] c.v.text (by decide) hv
    rw [show (if false = true then ([60, 61] : List UInt8) else [60]) = [60] from rfl, e1, e2, if_neg (by decide), if_neg (by decide), if_pos rfl, hp, Option.getD_some, ← ha, ← he]
theorem rd_span {s : Sp} (h : s.may = true) : b6 (yF s) = s := by
  obtain ⟨h1, h2⟩ := xA h
  unfold b6 yF
  rw [dV 32 _ (spW_ne s) fun x hx => (bX h x hx).b]
  obtain ⟨lo, hi⟩ := s
  unfold spW loW hiW
  dsimp only at *
  by_cases a : lo.e = 0
  · have il := In.of h1 a
    by_cases b : hi.e = 0
    · have ih := In.of h2 b
      rw [if_pos a, if_pos b, if_neg (by simp)]
      show kB (kB spW0 (xF lo)) (xK hi) = _
      rw [rd_lo il, rd_hi ih]
    · have e := hi_end h b; dsimp only at e; subst e
      rw [if_pos a, if_neg b, if_neg (by simp)]
      show kB spW0 (xF lo) = _
      rw [rd_lo il]; rfl
  · have e := lo_end h a; dsimp only at e; subst e
    by_cases b : hi.e = 0
    · have ih := In.of h2 b
      rw [if_neg a, if_pos b, if_neg (by simp)]
      show kB spW0 (xK hi) = _
      rw [rd_hi ih]; rfl
    · have e := hi_end h b; dsimp only at e; subst e
      rfl
theorem rd_row {l : List Sp} (h : zS l = true) : yX (zT l) = l := by
  unfold yX zT
  by_cases h0 : l = []
  · subst h0; rfl
  · obtain ⟨d, q, e, hd⟩ := mP l h0 (xL h)
    rw [if_neg h0, if_neg (by rw [bI l h0, e]; intro e2; injection e2 with e2 _; subst e2; revert hd; decide), ors_row l h0 (xL h), List.map_map]
    conv => rhs; rw [← List.map_id l]
    exact List.map_congr_left fun s hs => rd_span (xL h s hs)
theorem bZ : ∀ (a r : List UInt8), (47 : UInt8) ∉ a → (r = [] ∨ ∃ b, r = [32, 47, 32] ++ b) → Lib.index (a ++ r) [32, 47, 32] = adv (Lib.index r [32, 47, 32]) a.length
  | [], r, _, _ => by
    unfold adv
    rw [List.nil_append]
    split
    · assumption
    · simp
  | c :: a, r, h, hr => by
    have ha : (47 : UInt8) ∉ a := fun e => h (List.mem_cons_of_mem _ e)
    have hp : List.isPrefixOf ([32, 47, 32] : List UInt8) (c :: (a ++ r)) = false := by
      rw [List.isPrefixOf]
      cases a with
      | nil =>
        rcases hr with rfl | ⟨b, rfl⟩
        · simp [List.isPrefixOf]
        · simp [List.isPrefixOf]
      | cons d a =>
        have hd : ((47 : UInt8) == d) = false := beq_eq_false_iff_ne.2 fun e => ha (by rw [e]; exact List.mem_cons_self ..)
        rw [List.cons_append, List.isPrefixOf, hd]; simp
    rw [List.cons_append, nJ hp, bZ a r ha hr, adv_succ (Lib.index_ge _ _)]
    rfl
theorem rdSet_text {s : St} (h : s.may = true) : wO (yI s) = s := by
  obtain ⟨h1, h2, h3⟩ := St.facts h
  obtain ⟨a, b⟩ := s
  dsimp only at *
  have hz := mO h1
  unfold wO yI
  dsimp only
  by_cases h0 : b = []
  · have e := bZ (zT a) [] hz (.inl rfl)
    rw [List.append_nil, index_nil] at e
    have hc : Lib.cut (zT a) [32, 47, 32] = (zT a, [], false) := by unfold Lib.cut; rw [e]; rfl
    rw [if_pos h0, hc]
    show St.mk (yX (zT a)) [] = _
    rw [rd_row h1, h0]
  · have e := bZ (zT a) ([32, 47, 32] ++ zT b) hz (.inr ⟨_, rfl⟩)
    rw [index_hit _ _ (by decide)] at e
    have e2 : adv 0 (zT a).length = ((zT a).length : Int) := by unfold adv; rw [if_neg (by decide)]; omega
    rw [e2] at e
    have hc : Lib.cut (zT a ++ [32, 47, 32] ++ zT b) [32, 47, 32] = (zT a, zT b, true) := by
      unfold Lib.cut
      rw [List.append_assoc, e, if_pos (by omega), Int.toNat_natCast, List.take_left, ← List.append_assoc, show (zT a).length + ([32, 47, 32] : List UInt8).length = (zT a ++ [32, 47, 32]).length from by rw [List.length_append], List.drop_left]
    rw [if_neg h0, hc, if_pos rfl, rd_row h1, rd_row h2]
theorem land_eq (t : List UInt8) : (if zG (wO t) = t then some (wO t) else none) = yR t := by
  by_cases h : zG (wO t) = t
  · rw [if_pos h]
    have h2 := h
    unfold zG at h2
    by_cases hm : (wO t).may = true
    · rw [if_pos hm] at h2
      conv => rhs; rw [← h2]
      exact (wR hm).symm
    · rw [if_neg hm] at h2
      exfalso
      subst h2
      revert hm; decide +kernel
  · rw [if_neg h]
    cases hp : yR t with
    | none => rfl
    | some s =>
      obtain ⟨h1, h2⟩ := j8 hp
      exfalso
      apply h
      rw [← h2, rdSet_text h1]
      exact if_pos h1
end
end Go.Proofs.YtiekhkapgjdblaaGreatDoor
