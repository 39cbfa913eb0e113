/-
  What the statement's proof leans on: the ways of walking, jY mathematics, and what the program's functions return; each theorem says on what conditions.
-/
import Derived.Below
import Derived.ChangeSame
import Derived.ProofKit
import Derived.OpenShut
import Derived.LaidSub
import Derived.Carry
import Derived.SliceStrings
import Derived.Lib.LaidTab
import Derived.Deep.DeepHandedRow
import Derived.ChangeArms
import Derived.Deep.Fields
import Derived.DataReads
import Derived.ChangeOld
import Derived.ChangeSlices
import Derived.Laws.IdiomStrings
import Derived.Laws.IdiomCopy
import Derived.Laws.BitsAllLaws
import Derived.Lib.ConvBytes
import Derived.Lib.Builder
import Derived.Test.YtiekhkapgjdblaaGreatDoorTA5
set_option maxRecDepth 1000000
set_option maxHeartbeats 8000000
set_option linter.unusedVariables false
set_option linter.unusedSimpArgs false
namespace Go.Proofs.YtiekhkapgjdblaaGreatDoor
open Go.RowKit

section
theorem r8one_any (A : Option Addr) (cap : Nat) (l : List (List UInt8)) (h0 : l ≠ []) (W : World) (hv : Reads strC W W.heap.size A l) (hx : ∀ x ∈ l, x.length ≤ 1000000) (hcap : l.length ≤ cap) : Calls Tryz.prog 50 #[.slice A l.length cap] W fun e w' => e = .returned (.tuple #[zF (qI l).1, .bool (qI l).2]) ∧ Below W.heap.size W w' := by
  cases l with
  | nil => exact absurd rfl h0
  | cons a r => exact r8one_cons A cap a r W hv hx hcap
theorem dJ {fr : Bool} {s : List UInt8} (hs : s.length ≤ 1000000) : (jE fr s).short := by
  have h1 : ((x5 (s.drop 1)).getD Ver.zero).short := f9 (by rw [List.length_drop]; omega)
  have h2 : ((x5 ((s.drop 1).drop 1)).getD Ver.zero).short := f9 (by rw [List.length_drop, List.length_drop]; omega)
  unfold jE
  repeat' split
  · exact h2
  · exact h1
  · exact ⟨Nat.zero_le _, Nat.zero_le _⟩
theorem oneX_short {l : List (List UInt8)} (h : ∀ x ∈ l, x.length ≤ 1000000) : (qI l).1.short := by
  have he : ∀ e : Int, (zQ e).short := fun e => ⟨Nat.zero_le _, Nat.zero_le _⟩
  cases l with
  | nil => exact ⟨he _, he _⟩
  | cons a r =>
    have ha := h a (List.mem_cons_self ..)
    have hr : (r.headD []).length ≤ 1000000 := by
      cases r with
      | nil => exact Nat.zero_le _
      | cons b q => exact h b (by simp)
    rw [qI]
    repeat' split
    · exact ⟨he _, he _⟩
    · exact ⟨dJ ha, he _⟩
    · exact ⟨dJ ha, dJ hr⟩
    · exact ⟨he _, dJ ha⟩
structure Rows8 (s : List UInt8) (v : Value) (ob : List Blk) : Prop where
  sl : SlS v ((x4 s).getD []) ob
  sh : yL ((x4 s).getD [])
  le : ((x4 s).getD []).length ≤ s.length + 2
theorem Rows8.none {s : List UInt8} (h : x4 s = none) : Rows8 s (.slice none 0 0) [] := by
  constructor <;> rw [h]
  · exact Sl.nil _ _
  · intro x hx; simp at hx
  · exact Nat.zero_le _
theorem Rows8.some {s : List UInt8} {xs : List Sp} {v : Value} {ob : List Blk} (h : x4 s = some xs) (h1 : SlS v xs ob) (h2 : yL xs) (h3 : xs.length ≤ s.length + 2) : Rows8 s v ob := by
  constructor <;> rw [h] <;> assumption
theorem wU {α : Type} {o : Option α} (h : o = none) : o.isSome = false := by rw [h]; rfl
theorem isSome_some {α : Type} {o : Option α} {x : α} (h : o = some x) : o.isSome = true := by rw [h]; rfl
theorem t8 {s R P : List UInt8} (hcs : qK [] s = (R, P)) (h : (x4 R).isSome = false) : yR s = none := by
  have e : x4 R = none := by cases q : x4 R with
    | none => rfl
    | some _ => rw [q] at h; cases h
  unfold yR
  rw [hcs]
  try dsimp only
  rw [e]
theorem pT_no2 {s R P : List UInt8} (hcs : qK [] s = (R, P)) (hP : ¬ P = []) (h : (x4 P).isSome = false) : yR s = none := by
  have e : x4 P = none := by cases q : x4 P with
    | none => rfl
    | some _ => rw [q] at h; cases h
  unfold yR
  rw [hcs]
  try dsimp only
  rw [if_neg hP, e]
  cases x4 R <;> rfl
theorem tA {s : List UInt8} (h : s = []) : yR s = none := by rw [h]; rfl
theorem pT_eq {s R P : List UInt8} {a b : List Sp} (hcs : qK [] s = (R, P)) (h1 : x4 R = some a) (h2 : (if P = [] then some [] else x4 P) = some b) (h0 : ¬ s = []) : yR s = if zG ⟨a, b⟩ = s then some ⟨a, b⟩ else none := by
  unfold yR
  rw [hcs]
  try dsimp only
  rw [h1, h2]
  try dsimp only
  by_cases h : zG ⟨a, b⟩ = s
  · rw [if_pos h, if_pos ⟨h0, h⟩]
  · rw [if_neg h, if_neg fun q => h q.2]
theorem pJ {α : Type} {o : Option (List α)} (h : o.isSome = true) : o = some (o.getD []) := by
  cases o with
  | none => cases h
  | some x => rfl
theorem r8words_any (s : List UInt8) (W : World) (hs : s.length ≤ 1000000) : Calls Tryz.prog 49 #[.string (mkS s)] W fun e w' => ∃ v' ob', e = .returned v' ∧ SlT v' (y7 32 [] s) ob' ∧ Own [] W w' ob' := by
  refine zM (n := 5) Tryz.func49 rfl (by kernel_rfl) (by kernel_rfl) (ZO (Zv (.slice none 0 0) (ZR (Zv (.string (mkS s)) (y9 (k := 79) (args := #[.string (mkS s), .int .u8 32]) (fun v' L' => ∃ ob', L' = ob' ++ ([]) ∧ SlT v' (y7 32 [] s) ob') (by kernel_rfl) (fun _ => by kernel_rfl) (fun w hO => (rsplit32_own s w hs).mono fun e w' ⟨v', ob', k1, k2, k3⟩ => ⟨v', _, k1, ⟨ob', rfl, k2⟩, Own.joinN hO k3⟩) (fun vw Lx1 hvx1 => ?_))))))
  obtain ⟨ow, rfl, hw9⟩ := hvx1
  exact kI (L' := ow) (List.append_nil _) (Zv (vw) (ZN (zB (ZF (vw) Tryz.results49 (fun w hO => ⟨_, ow, rfl, hw9, hO⟩)))))
theorem mU (s : List UInt8) (W : World) (hs : s.length ≤ 90000) : Calls Tryz.prog 30 #[.string (mkS s)] W fun e w' => ∃ v' ob', e = .returned (.tuple #[v', .bool (x4 s).isSome]) ∧ Rows8 s v' ob' ∧ Own [] W w' ob' := by
  refine zM (n := 51) Tryz.func30 rfl (by kernel_rfl) (by kernel_rfl) (ZO (Zv (.slice none 0 0) (Zv (.bool false) (ZR (Zv (.slice none 0 0) (zL (z7 ?_)))))))
  refine z8 (ZO (Zv (.string (mkS s)) ?_))
  by_cases h1 : (s : List UInt8) = [45]
  · refine zK (.bool true) (by kernel_rfl) (zI (a := s) (b := ([45])) rfl (by kernel_rfl) (by kernel_rfl) (decide_eq_true (h1))) ?_
    refine ZY (ZO (Zv (.slice none 0 0) (Zv (.bool true) (ZN (zB (z6 (vM (.slice none 0 0) (.bool true) Tryz.results30 (by kernel_rfl) (by kernel_rfl) ?_)))))))
    exact fun w hO => ⟨_, [], by rw [isSome_some (show x4 s = some [] from if_pos h1)], Rows8.some (show x4 s = some [] from if_pos h1) (Sl.nil _ _) (fun x hx => by simp at hx) (Nat.zero_le _), kG hO⟩
  refine zK (.bool false) (by kernel_rfl) (zI (a := s) (b := ([45])) rfl (by kernel_rfl) (by kernel_rfl) (decide_eq_false (h1))) (ZX (ZB (ZO (Zv (.string (mkS s)) (y9 (k := 49) (args := #[.string (mkS s)]) (fun v' L' => ∃ ob', L' = ob' ++ ([]) ∧ SlT v' (y7 32 [] s) ob') (by kernel_rfl) (fun _ => by kernel_rfl) (fun w hO => (r8words_any s w (by omega)).mono fun e w' ⟨v', ob', k1, k2, k3⟩ => ⟨v', _, k1, ⟨ob', rfl, k2⟩, Own.joinN hO k3⟩) (fun lv L2 hv2 => ?_))))))
  obtain ⟨ol, rfl, hol⟩ := hv2
  obtain ⟨l, hll⟩ : ∃ l, l = y7 32 [] s := ⟨_, rfl⟩
  rw [← hll] at hol
  have hln : l.length ≤ s.length + 1 := by rw [hll]; exact tT 32 s []
  have hlm : ∀ x ∈ l, x.length ≤ s.length := fun x hx => by have := pV 32 s [] x (hll ▸ hx); simpa using this
  obtain ⟨g, cur, lcap, rfl, rfl, hcur⟩ := SlT.blk hol (by rw [hll]; exact vR 32 s [])
  have hlc := hol.caps.2
  refine Zv (.slice (some ⟨g, 0, none⟩) l.length lcap) (ZR (Zv (.int .i64 0) (ZN (z8 (ZO (Zv (.int .i64 0) ?_))))))
  refine ZN (zX (qS (L' := ⟨g, cur, 9⟩ :: ([] ++ [])) rfl (kH (fun L f m => ∃ (i : Nat) (a : Nat) (A : Option Addr) (cap : Nat) (xs : List Sp) (oc : List Blk) (j : Nat → Value), (Row8 s l i a xs ∧ SlS (.slice A xs.length cap) xs oc ∧ yL xs ∧ xs.length ≤ i ∧ i ≤ l.length + 1) ∧ L = ⟨g, cur, 9⟩ :: (oc ++ []) ∧ f = jD j [(4, .slice A xs.length cap), (5, .slice (some ⟨g, 0, none⟩) l.length lcap), (6, .int .i64 (a : Int)), (7, .int .i64 (i : Int))] ∧ m = l.length + 1 - i) (l.length + 1 - 0) ⟨0, 0, none, 0, [], [], _, ⟨Row8.start h1 hll, Sl.nil _ _, fun x hx => by simp at hx, Nat.zero_le _, Nat.zero_le _⟩, rfl, ZU, rfl⟩ ?_)))
  rintro L f m ⟨i, a, A, cap, xs, oc, j, hrel, rfl, rfl, rfl⟩
  obtain ⟨hR, hsl, hxh, hxl, hil⟩ := hrel; refine qS (L' := ⟨g, cur, 9⟩ :: oc) (by simp) ?_
  refine z8 (ZO (Zv (.int .i64 (i : Int)) (Zv (.slice (some ⟨g, 0, none⟩) l.length lcap) (Zv (.int .i64 (l.length : Int)) ?_))))
  by_cases h2 : (i : Int) ≤ (l.length : Int)
  · have hle : i ≤ l.length := by omega
    have hai := hR.le hle
    refine Zd (p := (i : Int) ≤ (l.length : Int)) true (decide_eq_true (h2)) (ZY (ZB (z8 (zX (z8 (ZO (Zv (.int .i64 (i : Int)) ?_)))))))
    refine Zv (.slice (some ⟨g, 0, none⟩) l.length lcap) (Zv (.int .i64 (l.length : Int)) ?_)
    by_cases h3 : (i : Int) < (l.length : Int)
    · have hi : i < l.length := by omega
      obtain ⟨y, hy⟩ : ∃ y, l[i] = y := ⟨_, rfl⟩
      refine Zd (p := (i : Int) < (l.length : Int)) true (decide_eq_true (h3)) (Zv (.bool true) (Zv (.slice (some ⟨g, 0, none⟩) l.length lcap) (Zv (.int .i64 (i : Int)) (zK (.pointer (some ⟨g, i * 1, none⟩)) (by kernel_rfl) (ZV (b := g) (off := 0) (n := l.length) (c := lcap) (k := .i64) (j := (i : Int)) (e := 9) (sz := 1)) (s_load 0 ⟨g, cur, 9⟩ (off := i * 1) (.string (mkS y)) (by kernel_rfl) rfl (by kernel_rfl) (by kernel_rfl) (gT q9 hcur i 0 (by omega) (by omega) _ (by rw [hy]; kernel_rfl)) ?_)))))
      by_cases h4 : (y : List UInt8) = [111, 114]
      · have hor : ∀ q : i < l.length, l[i] = [111, 114] := fun _ => hy.trans h4
        refine zK (.bool false) (by kernel_rfl) (xJ (a := y) (b := ([111, 114])) rfl (by kernel_rfl) (by kernel_rfl) (decide_eq_true (h4))) (Zv (.bool false) (ZX (ZB (z8 (ZO (Zv (.int .i64 (i : Int)) (Zv (.int .i64 (a : Int)) ?_)))))))
        by_cases h5 : (i : Int) = (a : Int)
        · refine xO (p := (i : Int) = (a : Int)) true (by kernel_rfl) (fun _ => by kernel_rfl) (decide_eq_true (h5)) ?_
          refine ZY (ZO (Zv (.slice none 0 0) (Zv (.bool false) (ZN (zB (z6 (zD ?_)))))))
          exact z6 (yG (zD (z6 (vM (.slice none 0 0) (.bool false) Tryz.results30 (by kernel_rfl) (by kernel_rfl) (fun w hO => ⟨_, [], by rw [wU (hR.bare hle hor (by omega))], Rows8.none (hR.bare hle hor (by omega)), kG hO⟩)))))
        have hai2 : a < i := by omega
        obtain ⟨q, hq⟩ : ∃ q, q = (l.drop a).take (i - a) := ⟨_, rfl⟩
        have hql : q.length = i - a := by rw [hq, List.length_take, List.length_drop]; omega
        have hq0 : q ≠ [] := fun e => by rw [e] at hql; simp at hql; omega
        have hqm : ∀ x ∈ q, x.length ≤ 1000000 := fun x hx => Nat.le_trans (hlm x (List.mem_of_mem_drop (List.mem_of_mem_take (hq ▸ hx)))) (by omega)
        obtain ⟨x, hx⟩ : ∃ x, x = (qI q).1 := ⟨_, rfl⟩
        have hxs : x.short := hx ▸ oneX_short hqm
        refine Zd (p := (i : Int) = (a : Int)) false (decide_eq_false (h5)) (ZX (ZB (ZO (Zv (.slice (some ⟨g, 0, none⟩) l.length lcap) (Zv (.int .i64 (a : Int)) (Zv (.int .i64 (i : Int)) (zK (.slice (some ⟨g, 0 + (if lcap = a then 0 else a * 1), none⟩) q.length (lcap - a)) (by kernel_rfl) (fun w => by rw [show (Value.slice (some ⟨g, 0 + (if lcap = a then 0 else a * 1), none⟩) q.length (lcap - a)) = Value.slice (some ⟨g, 0 + (if lcap = (a : Int).toNat then 0 else (a : Int).toNat * 1), none⟩) ((i : Int).toNat - (a : Int).toNat) (lcap - (a : Int).toNat) from by rw [hql, Int.toNat_natCast, Int.toNat_natCast]]; exact run_sl2 (b := g) (off := 0) (n := l.length) (c := lcap) (k := .i64) (q := .i64) (i := (a : Int)) (j := (i : Int)) (sz := 1) (e := 9) rfl (by kernel_rfl) rfl (by kernel_rfl) (by kernel_rfl) (by kernel_rfl) (by kernel_rfl) (by omega) (by omega) (by omega) w) ?_)))))))
        refine Zc (k := 50) (args := #[.slice (some ⟨g, 0 + (if lcap = a then 0 else a * 1), none⟩) q.length (lcap - a)]) (.tuple #[zF x, .bool ((qI q).2)]) (fun w hO => by have h9 := r8one_any (some ⟨g, 0 + (if lcap = a then 0 else a * 1), none⟩) (lcap - a) q hq0 w (by rw [hq]; exact Reads.mid q9 (SlT.reads hol rfl hO (fun x hx => by rw [List.mem_singleton.1 hx]; simp)) rfl hai2 hle hlc) hqm (by rw [hql]; omega); rw [← hx] at h9; exact h9) (Zv (.tuple #[zF x, .bool ((qI q).2)]) (Zv (zF x) (Zv (.bool ((qI q).2)) (Za (.agg #[.int .i64 0, .int .i64 0, .int .i64 0, .int .i64 0, .string ⟨#[]⟩, .string ⟨#[]⟩, .bool false, .int .i64 0, .int .i64 0, .int .i64 0, .int .i64 0, .string ⟨#[]⟩, .string ⟨#[]⟩, .bool false]) (fun b1 => Zs 0 ⟨b1, #[.int .i64 0, .int .i64 0, .int .i64 0, .int .i64 0, .string ⟨#[]⟩, .string ⟨#[]⟩, .bool false, .int .i64 0, .int .i64 0, .int .i64 0, .int .i64 0, .string ⟨#[]⟩, .string ⟨#[]⟩, .bool false], 74⟩ (off := 0) (zF x) (Zv (.bool ((qI q).2)) (ZN (z8 (z8 (zA ?_))))))))))
        refine Zv (.bool ((qI q).2)) ?_
        cases h6 : (qI q).2 with
        | true =>
          refine Zv (.bool false) (ZX (ZB (ZO (Zv (.slice A xs.length cap) (Zl 0 ⟨b1, (zF x).cells, 74⟩ (off := 0) (zF x) (bG 74 #[.int .i64 x.lo.e, .int .i64 x.lo.v.maj, .int .i64 x.lo.v.min, .int .i64 x.lo.v.pat, .string (mkS x.lo.v.pre), .string (mkS x.lo.v.build), .bool x.lo.aft, .int .i64 x.hi.e, .int .i64 x.hi.v.maj, .int .i64 x.hi.v.min, .int .i64 x.hi.v.pat, .string (mkS x.hi.v.pre), .string (mkS x.hi.v.build), .bool x.hi.aft] (by kernel_rfl) rfl (fun _ => by kernel_rfl) (fun b2 => ?_)))))))
          obtain ⟨i0, z0, e1, e2, e3, e4, e5⟩ := gD
          refine kI (L' := [⟨b2, #[.int .i64 x.lo.e, .int .i64 x.lo.v.maj, .int .i64 x.lo.v.min, .int .i64 x.lo.v.pat, .string (mkS x.lo.v.pre), .string (mkS x.lo.v.build), .bool x.lo.aft, .int .i64 x.hi.e, .int .i64 x.hi.v.maj, .int .i64 x.hi.v.min, .int .i64 x.hi.v.pat, .string (mkS x.hi.v.pre), .string (mkS x.hi.v.build), .bool x.hi.aft], 74⟩, ⟨b1, (zF x).cells, 74⟩, ⟨g, cur, 9⟩] ++ oc ++ ([] : List Blk)) (by rw [List.append_nil]; rfl) (qA (sz := 14) (by kernel_rfl) rfl Tryz.underlying22 e1 e2 e3 e4 (by kernel_rfl) hsl (a := ⟨b2, 0, none⟩) (m := 1) (c := 1) (news := yB x) (by kernel_rfl) rfl (fun w hO j u hj => ?_) (kP _) (by unfold maxLen; omega) (by rw [e5]; omega) (fun u2 ob2 hu2 => ?_))
          · rw [yM, cell_of_row w b2 (0 + j) (yB x).toArray 74 _ (hO.held ⟨b2, (yB x).toArray, 74⟩ (List.mem_append_left _ (List.mem_append_left _ (List.mem_cons_self ..))))]; simpa using hj
          have hu3 : SlS u2 (xs ++ [x]) ob2 := Sl.to hu2 (by simp) (by simp)
          obtain ⟨B2, cb2, rfl⟩ := Sl.form hu3
          refine yY (L' := ⟨g, cur, 9⟩ :: (ob2)) (fun w hO => (Own.sub [⟨b2, #[.int .i64 x.lo.e, .int .i64 x.lo.v.maj, .int .i64 x.lo.v.min, .int .i64 x.lo.v.pat, .string (mkS x.lo.v.pre), .string (mkS x.lo.v.build), .bool x.lo.aft, .int .i64 x.hi.e, .int .i64 x.hi.v.maj, .int .i64 x.hi.v.min, .int .i64 x.hi.v.pat, .string (mkS x.hi.v.pre), .string (mkS x.hi.v.build), .bool x.hi.aft], 74⟩, ⟨b1, (zF x).cells, 74⟩] (show Own _ _ w (⟨b2, #[.int .i64 x.lo.e, .int .i64 x.lo.v.maj, .int .i64 x.lo.v.min, .int .i64 x.lo.v.pat, .string (mkS x.lo.v.pre), .string (mkS x.lo.v.build), .bool x.lo.aft, .int .i64 x.hi.e, .int .i64 x.hi.v.maj, .int .i64 x.hi.v.min, .int .i64 x.hi.v.pat, .string (mkS x.hi.v.pre), .string (mkS x.hi.v.build), .bool x.hi.aft], 74⟩ :: ([⟨b1, (zF x).cells, 74⟩, ⟨g, cur, 9⟩] ++ ob2)) from by rw [List.append_nil] at hO; exact hO))) (Zv (.slice B2 ((xs ++ [x]).length) cb2) (ZN (zA (Zv (.int .i64 (i : Int)) (Zu (k := .i64) (((i + 1 : Nat) : Int)) (IntWalk.i64_in _ (by omega)) (Zv (.int .i64 ((i + 1 : Nat) : Int)) (zL (zR (z7 (zA ?_))))))))))
          refine Zv (.int .i64 (i : Int)) (Zu (k := .i64) (((i + 1 : Nat) : Int)) (IntWalk.i64_in _ (by omega)) (Zv (.int .i64 ((i + 1 : Nat) : Int)) (zL ?_)))
          have hxh2 : yL (xs ++ [x]) := fun y hy => (List.mem_append.1 hy).elim (hxh y) fun e => by rw [List.mem_singleton.1 e]; exact hxs
          exact fE (L' := ⟨g, cur, 9⟩ :: (ob2 ++ [])) (by simp) (zY (m' := l.length + 1 - (i + 1)) (by omega) ⟨i + 1, i + 1, B2, cb2, (xs ++ [x]), ob2, _, ⟨by rw [hx, hq]; exact hR.hit hle hor (by rw [← hq]; assumption), hu3, hxh2, by rw [List.length_append, List.length_singleton]; omega, by omega⟩, rfl, ZU, rfl⟩)
        | false =>
          refine Zv (.bool true) (ZY (ZO (Zv (.slice none 0 0) (Zv (.bool false) (ZN (zB (z6 ?_)))))))
          exact zD (z6 (yG (zD (z6 (vM (.slice none 0 0) (.bool false) Tryz.results30 (by kernel_rfl) (by kernel_rfl) (fun w hO => ⟨_, [], by rw [wU (hR.miss hle hor (by rw [← hq, h6]; decide))], Rows8.none (hR.miss hle hor (by rw [← hq, h6]; decide)), kG hO⟩))))))
      refine zK (.bool true) (by kernel_rfl) (xJ (a := y) (b := ([111, 114])) rfl (by kernel_rfl) (by kernel_rfl) (decide_eq_false (h4))) (Zv (.bool true) (ZY (xQ (yA (zW (z7 (zA (Zv (.int .i64 (i : Int)) (Zu (k := .i64) (((i + 1 : Nat) : Int)) (IntWalk.i64_in _ (by omega)) ?_)))))))))
      exact Zv (.int .i64 ((i + 1 : Nat) : Int)) (zL (fE (L' := ⟨g, cur, 9⟩ :: (oc ++ [])) (by simp) (zY (m' := l.length + 1 - (i + 1)) (by omega) ⟨i + 1, a, A, cap, xs, oc, _, ⟨hR.go hi (fun e => h4 (hy.symm.trans e)), hsl, hxh, by omega, by omega⟩, rfl, ZU, rfl⟩)))
    have hor : ∀ q : i < l.length, l[i] = [111, 114] := fun q => absurd q (by omega)
    refine Zd (p := (i : Int) < (l.length : Int)) false (decide_eq_false (h3)) (Zv (.bool false) (Zk (Zk (Zk (Zk (Zk (Zv (.bool false) (ZX (yT ?_)))))))))
    refine z7 (z8 (ZO (Zv (.int .i64 (i : Int)) (Zv (.int .i64 (a : Int)) ?_))))
    by_cases h7 : (i : Int) = (a : Int)
    · refine xO (p := (i : Int) = (a : Int)) true (by kernel_rfl) (fun _ => by kernel_rfl) (decide_eq_true (h7)) ?_
      refine ZY (ZO (Zv (.slice none 0 0) (Zv (.bool false) (ZN (zB (z6 (zD ?_)))))))
      exact z6 (yG (zD (z6 (vM (.slice none 0 0) (.bool false) Tryz.results30 (by kernel_rfl) (by kernel_rfl) (fun w hO => ⟨_, [], by rw [wU (hR.bare hle hor (by omega))], Rows8.none (hR.bare hle hor (by omega)), kG hO⟩)))))
    have hai2 : a < i := by omega
    obtain ⟨q, hq⟩ : ∃ q, q = (l.drop a).take (i - a) := ⟨_, rfl⟩
    have hql : q.length = i - a := by rw [hq, List.length_take, List.length_drop]; omega
    have hq0 : q ≠ [] := fun e => by rw [e] at hql; simp at hql; omega
    have hqm : ∀ x ∈ q, x.length ≤ 1000000 := fun x hx => Nat.le_trans (hlm x (List.mem_of_mem_drop (List.mem_of_mem_take (hq ▸ hx)))) (by omega)
    obtain ⟨x, hx⟩ : ∃ x, x = (qI q).1 := ⟨_, rfl⟩
    have hxs : x.short := hx ▸ oneX_short hqm
    refine Zd (p := (i : Int) = (a : Int)) false (decide_eq_false (h7)) (ZX (ZB (ZO (Zv (.slice (some ⟨g, 0, none⟩) l.length lcap) (Zv (.int .i64 (a : Int)) (Zv (.int .i64 (i : Int)) (zK (.slice (some ⟨g, 0 + (if lcap = a then 0 else a * 1), none⟩) q.length (lcap - a)) (by kernel_rfl) (fun w => by rw [show (Value.slice (some ⟨g, 0 + (if lcap = a then 0 else a * 1), none⟩) q.length (lcap - a)) = Value.slice (some ⟨g, 0 + (if lcap = (a : Int).toNat then 0 else (a : Int).toNat * 1), none⟩) ((i : Int).toNat - (a : Int).toNat) (lcap - (a : Int).toNat) from by rw [hql, Int.toNat_natCast, Int.toNat_natCast]]; exact run_sl2 (b := g) (off := 0) (n := l.length) (c := lcap) (k := .i64) (q := .i64) (i := (a : Int)) (j := (i : Int)) (sz := 1) (e := 9) rfl (by kernel_rfl) rfl (by kernel_rfl) (by kernel_rfl) (by kernel_rfl) (by kernel_rfl) (by omega) (by omega) (by omega) w) ?_)))))))
    refine Zc (k := 50) (args := #[.slice (some ⟨g, 0 + (if lcap = a then 0 else a * 1), none⟩) q.length (lcap - a)]) (.tuple #[zF x, .bool ((qI q).2)]) (fun w hO => by have h9 := r8one_any (some ⟨g, 0 + (if lcap = a then 0 else a * 1), none⟩) (lcap - a) q hq0 w (by rw [hq]; exact Reads.mid q9 (SlT.reads hol rfl hO (fun x hx => by rw [List.mem_singleton.1 hx]; simp)) rfl hai2 hle hlc) hqm (by rw [hql]; omega); rw [← hx] at h9; exact h9) (Zv (.tuple #[zF x, .bool ((qI q).2)]) (Zv (zF x) (Zv (.bool ((qI q).2)) (Za (.agg #[.int .i64 0, .int .i64 0, .int .i64 0, .int .i64 0, .string ⟨#[]⟩, .string ⟨#[]⟩, .bool false, .int .i64 0, .int .i64 0, .int .i64 0, .int .i64 0, .string ⟨#[]⟩, .string ⟨#[]⟩, .bool false]) (fun b1 => Zs 0 ⟨b1, #[.int .i64 0, .int .i64 0, .int .i64 0, .int .i64 0, .string ⟨#[]⟩, .string ⟨#[]⟩, .bool false, .int .i64 0, .int .i64 0, .int .i64 0, .int .i64 0, .string ⟨#[]⟩, .string ⟨#[]⟩, .bool false], 74⟩ (off := 0) (zF x) (Zv (.bool ((qI q).2)) (ZN (z8 (z8 (zA ?_))))))))))
    refine Zv (.bool ((qI q).2)) ?_
    cases h8 : (qI q).2 with
    | true =>
      refine Zv (.bool false) (ZX (ZB (ZO (Zv (.slice A xs.length cap) (Zl 0 ⟨b1, (zF x).cells, 74⟩ (off := 0) (zF x) (bG 74 #[.int .i64 x.lo.e, .int .i64 x.lo.v.maj, .int .i64 x.lo.v.min, .int .i64 x.lo.v.pat, .string (mkS x.lo.v.pre), .string (mkS x.lo.v.build), .bool x.lo.aft, .int .i64 x.hi.e, .int .i64 x.hi.v.maj, .int .i64 x.hi.v.min, .int .i64 x.hi.v.pat, .string (mkS x.hi.v.pre), .string (mkS x.hi.v.build), .bool x.hi.aft] (by kernel_rfl) rfl (fun _ => by kernel_rfl) (fun b2 => ?_)))))))
      obtain ⟨i0, z0, e1, e2, e3, e4, e5⟩ := gD
      refine kI (L' := [⟨b2, #[.int .i64 x.lo.e, .int .i64 x.lo.v.maj, .int .i64 x.lo.v.min, .int .i64 x.lo.v.pat, .string (mkS x.lo.v.pre), .string (mkS x.lo.v.build), .bool x.lo.aft, .int .i64 x.hi.e, .int .i64 x.hi.v.maj, .int .i64 x.hi.v.min, .int .i64 x.hi.v.pat, .string (mkS x.hi.v.pre), .string (mkS x.hi.v.build), .bool x.hi.aft], 74⟩, ⟨b1, (zF x).cells, 74⟩, ⟨g, cur, 9⟩] ++ oc ++ ([] : List Blk)) (by rw [List.append_nil]; rfl) (qA (sz := 14) (by kernel_rfl) rfl Tryz.underlying22 e1 e2 e3 e4 (by kernel_rfl) hsl (a := ⟨b2, 0, none⟩) (m := 1) (c := 1) (news := yB x) (by kernel_rfl) rfl (fun w hO j u hj => ?_) (kP _) (by unfold maxLen; omega) (by rw [e5]; omega) (fun u2 ob2 hu2 => ?_))
      · rw [yM, cell_of_row w b2 (0 + j) (yB x).toArray 74 _ (hO.held ⟨b2, (yB x).toArray, 74⟩ (List.mem_append_left _ (List.mem_append_left _ (List.mem_cons_self ..))))]; simpa using hj
      have hu3 : SlS u2 (xs ++ [x]) ob2 := Sl.to hu2 (by simp) (by simp)
      obtain ⟨B2, cb2, rfl⟩ := Sl.form hu3
      refine yY (L' := ⟨g, cur, 9⟩ :: (ob2)) (fun w hO => (Own.sub [⟨b2, #[.int .i64 x.lo.e, .int .i64 x.lo.v.maj, .int .i64 x.lo.v.min, .int .i64 x.lo.v.pat, .string (mkS x.lo.v.pre), .string (mkS x.lo.v.build), .bool x.lo.aft, .int .i64 x.hi.e, .int .i64 x.hi.v.maj, .int .i64 x.hi.v.min, .int .i64 x.hi.v.pat, .string (mkS x.hi.v.pre), .string (mkS x.hi.v.build), .bool x.hi.aft], 74⟩, ⟨b1, (zF x).cells, 74⟩] (show Own _ _ w (⟨b2, #[.int .i64 x.lo.e, .int .i64 x.lo.v.maj, .int .i64 x.lo.v.min, .int .i64 x.lo.v.pat, .string (mkS x.lo.v.pre), .string (mkS x.lo.v.build), .bool x.lo.aft, .int .i64 x.hi.e, .int .i64 x.hi.v.maj, .int .i64 x.hi.v.min, .int .i64 x.hi.v.pat, .string (mkS x.hi.v.pre), .string (mkS x.hi.v.build), .bool x.hi.aft], 74⟩ :: ([⟨b1, (zF x).cells, 74⟩, ⟨g, cur, 9⟩] ++ ob2)) from by rw [List.append_nil] at hO; exact hO))) (Zv (.slice B2 ((xs ++ [x]).length) cb2) (ZN (zA (Zv (.int .i64 (i : Int)) (Zu (k := .i64) (((i + 1 : Nat) : Int)) (IntWalk.i64_in _ (by omega)) (Zv (.int .i64 ((i + 1 : Nat) : Int)) (zL (zR (z7 (zA ?_))))))))))
      refine Zv (.int .i64 (i : Int)) (Zu (k := .i64) (((i + 1 : Nat) : Int)) (IntWalk.i64_in _ (by omega)) (Zv (.int .i64 ((i + 1 : Nat) : Int)) (zL ?_)))
      have hxh2 : yL (xs ++ [x]) := fun y hy => (List.mem_append.1 hy).elim (hxh y) fun e => by rw [List.mem_singleton.1 e]; exact hxs
      exact fE (L' := ⟨g, cur, 9⟩ :: (ob2 ++ [])) (by simp) (zY (m' := l.length + 1 - (i + 1)) (by omega) ⟨i + 1, i + 1, B2, cb2, (xs ++ [x]), ob2, _, ⟨by rw [hx, hq]; exact hR.hit hle hor (by rw [← hq]; assumption), hu3, hxh2, by rw [List.length_append, List.length_singleton]; omega, by omega⟩, rfl, ZU, rfl⟩)
    | false =>
      refine Zv (.bool true) (ZY (ZO (Zv (.slice none 0 0) (Zv (.bool false) (ZN (zB (z6 ?_)))))))
      exact zD (z6 (yG (zD (z6 (vM (.slice none 0 0) (.bool false) Tryz.results30 (by kernel_rfl) (by kernel_rfl) (fun w hO => ⟨_, [], by rw [wU (hR.miss hle hor (by rw [← hq, h8]; decide))], Rows8.none (hR.miss hle hor (by rw [← hq, h8]; decide)), kG hO⟩))))))
  refine Zd (p := (i : Int) ≤ (l.length : Int)) false (decide_eq_false (h2)) (ZX (xQ (yA (y5 (zW (z7 (ZO (Zv (.slice A xs.length cap) ?_))))))))
  exact Zv (.slice A xs.length cap) (Zv (.bool true) (ZN (zB (vM (.slice A xs.length cap) (.bool true) Tryz.results30 (by kernel_rfl) (by kernel_rfl) (fun w hO => ⟨_, oc, by rw [isSome_some (hR.done (by omega))], Rows8.some (hR.done (by omega)) hsl hxh (by omega), Own.sub [_] hO⟩)))))
end
section
theorem r8Parse_any (s : List UInt8) (W : World) (hs : s.length ≤ 90000) : Calls Tryz.prog 14 #[.string (mkS s)] W fun e w' => ∃ v' ob', e = .returned (.tuple #[v', .int .i64 (k6 s)]) ∧ SetO v' ((yR s).getD xV) ob' ∧ Own [] W w' ob' := by
  have hsz := yC s
  refine zM (n := 63) Tryz.func14 rfl (by kernel_rfl) (by kernel_rfl) (ZO (Za (.agg #[.slice none 0 0, .slice none 0 0]) (fun b1 => Zv (.int .i64 0) (ZR (Zv (.string (mkS s)) (Zv (.string (mkS s)) (Zv (.string ⟨#[]⟩) ?_)))))))
  refine ZN (z8 (ZO (Zv (.int .i64 0) (ZN (zX (kH (fun L f m => ∃ (k : Nat) (j : Nat → Value), (k ≤ s.length ∧ qK [] s = qK (s.take k) (s.drop k)) ∧ L = [⟨b1, #[.slice none 0 0, .slice none 0 0], 24⟩] ∧ f = jD j [(0, .string (mkS s)), (2, .pointer (some ⟨b1, 0, none⟩)), (4, .string (mkS s)), (5, .string ⟨#[]⟩), (6, .int .i64 (k : Int))] ∧ m = s.length - k) (s.length - 0) ⟨0, _, ⟨Nat.zero_le _, cutS_zero s⟩, rfl, ZU, rfl⟩ ?_))))))
  rintro L f m ⟨k, j, hrel, rfl, rfl, rfl⟩
  have hkl := hrel.1
  refine z8 (ZO (Zv (.int .i64 (k : Int)) (Zu (k := .i64) (((k + 2 : Nat) : Int)) (IntWalk.i64_in _ (by omega)) (Zv (.string (mkS s)) (Zv (.int .i64 ((mkS s).size)) ?_)))))
  by_cases h1 : ((k + 2 : Nat) : Int) < (mkS s).size
  · have hk : k < s.length := by omega
    refine Zd (p := ((k + 2 : Nat) : Int) < (mkS s).size) true (decide_eq_true (h1)) (ZY (ZB (z8 (zX (ZO (Zv (.string (mkS s)) (Zv (.int .i64 (k : Int)) ?_)))))))
    refine Zv (.int .i64 (k : Int)) (Zu (k := .i64) (((k + 3 : Nat) : Int)) (IntWalk.i64_in _ (by omega)) (zK (.string (mkS ((s.drop k).take (k + 3 - k)))) (by kernel_rfl) (run_strmid (s := s) (k := .i64) (q := .i64) (i := (k : Int)) (j := ((k + 3 : Nat) : Int)) rfl (by kernel_rfl) (by kernel_rfl) (by kernel_rfl) Tryz.underlying9 (by omega) (by omega) (by omega)) ?_))
    by_cases h2 : (((s.drop k).take (k + 3 - k)) : List UInt8) = [32, 47, 32]
    · have hcs : qK [] s = (s.take k, s.drop (k + 3)) := by rw [hrel.2]; exact cutS_at (by rw [show k + 3 - k = 3 by omega] at h2; exact h2)
      refine zK (.bool true) (by kernel_rfl) (zI (a := ((s.drop k).take (k + 3 - k))) (b := ([32, 47, 32])) rfl (by kernel_rfl) (by kernel_rfl) (decide_eq_true (h2))) (ZY (z8 (g7 (by kernel_rfl) (by kernel_rfl) (Zw (.string (mkS s)) (Zw (.int .i64 (k : Int)) (kL (.string (mkS (s.take k))) (by kernel_rfl) (pX (s := s) (k := .i64) (j := (k : Int)) rfl (by kernel_rfl) (by kernel_rfl) Tryz.underlying9 (by omega) (by omega)) (Zw (.string (mkS s)) (Zw (.int .i64 (k : Int)) (p5 (k := .i64) (((k + 3 : Nat) : Int)) (by kernel_rfl) (fun _ => by kernel_rfl) (IntWalk.i64_in _ (by omega)) ?_)))))))))
      refine kL (.string (mkS (s.drop (k + 3)))) (by kernel_rfl) (jJ (s := s) (k := .i64) (j := ((k + 3 : Nat) : Int)) rfl (by kernel_rfl) (by kernel_rfl) Tryz.underlying9 (by omega) (by omega)) (Zw (.string (mkS (s.take k))) (Zw (.string (mkS (s.drop (k + 3)))) (xP (z7 (xQ (fin_block_other (by decide) (yA (y5 (zW (z7 (z8 ?_)))))))))))
      refine zA (Za (.agg #[.slice none 0 0, .slice none 0 0]) (fun b2 => ZR (Zv (.bool false) (Zv (.bool false) (ZN (z8 (zA ?_)))))))
      refine Zv (.string (mkS (s.take k))) ?_
      obtain ⟨l1, hl1⟩ : ∃ l, l = (x4 (s.take k)).getD [] := ⟨_, rfl⟩
      refine y9 (k := 30) (args := #[.string (mkS (s.take k))]) (fun v' L' => ∃ rv ob', v' = .tuple #[rv, .bool (x4 (s.take k)).isSome] ∧ L' = ob' ++ ([⟨b2, #[.slice none 0 0, .slice none 0 0], 24⟩, ⟨b1, #[.slice none 0 0, .slice none 0 0], 24⟩]) ∧ Rows8 (s.take k) rv ob') (by kernel_rfl) (fun _ => by kernel_rfl) (fun w hO => (mU (s.take k) w (by first | omega | (simp only [List.length_take, List.length_drop]; omega))).mono fun e w' ⟨v', ob', k1, k2, k3⟩ => ⟨_, _, k1, ⟨v', ob', rfl, rfl, k2⟩, Own.joinN hO k3⟩) (fun v1 L1 hv1 => ?_)
      obtain ⟨rv1, o1, rfl, rfl, hw1⟩ := hv1
      have hs1 : SlS rv1 l1 o1 := hl1 ▸ hw1.sl
      have hf1 : yL l1 := hl1 ▸ hw1.sh
      have hn1 : l1.length ≤ s.length + 2 := by have q := hw1.le; rw [← hl1] at q; first | omega | (simp only [List.length_take, List.length_drop] at q; omega)
      obtain ⟨A1, c1, rfl⟩ := SlS.form hs1
      refine yY (L' := ⟨b2, #[.slice none 0 0, .slice none 0 0], 24⟩ :: (⟨b1, #[.slice none 0 0, .slice none 0 0], 24⟩ :: (o1))) (fun w hO => hO.perm (List.perm_append_comm (l₁ := o1) (l₂ := [⟨b2, #[.slice none 0 0, .slice none 0 0], 24⟩, ⟨b1, #[.slice none 0 0, .slice none 0 0], 24⟩]))) (Zv (.tuple #[.slice A1 l1.length c1, .bool ((x4 (s.take k)).isSome)]) (Zv (.slice A1 l1.length c1) (Zv (.bool ((x4 (s.take k)).isSome)) (Zv (.pointer (some ⟨b2, 0, none⟩)) (Zs 0 ⟨b2, #[.slice none 0 0, .slice none 0 0], 24⟩ (off := 0) (.slice A1 l1.length c1) (Zv (.bool ((x4 (s.take k)).isSome)) (ZR (Zv (.bool true) ?_))))))))
      refine ZN (z8 (ZO (Zv (.string (mkS (s.drop (k + 3)))) ?_)))
      by_cases h3 : ((s.drop (k + 3)) : List UInt8) = []
      · refine zK (.bool false) (by kernel_rfl) (xJ (a := (s.drop (k + 3))) (b := ([])) rfl (by kernel_rfl) (by kernel_rfl) (decide_eq_true (h3))) ?_
        refine ZX (ZB (z8 (ZO (Zv (.bool ((x4 (s.take k)).isSome)) ?_))))
        cases h4 : (x4 (s.take k)).isSome with
        | true =>
          refine Zv (.bool false) (Zv (.bool false) (Zv (.bool true) (Zv (.bool false) (Zv (.bool false) (Zv (.bool false) (Zv (.string (mkS s)) ?_))))))
          by_cases h5 : (s : List UInt8) = []
          · refine zK (.bool true) (by kernel_rfl) (zI (a := s) (b := ([])) rfl (by kernel_rfl) (by kernel_rfl) (decide_eq_true (h5))) ?_
            refine Zv (.bool true) (Zv (.bool true) (Zk (Zk (Zk (Zk (Zv (.bool true) (ZY (z8 (zA ?_)))))))))
            exact Zv (.agg #[.slice none 0 0, .slice none 0 0]) (Zs 1 ⟨b1, #[.slice none 0 0, .slice none 0 0], 24⟩ (off := 0) (.agg #[.slice none 0 0, .slice none 0 0]) (Zv (.int .i64 2) (ZN (zB (z6 (ZD 1 ⟨b1, #[.slice none 0 0, .slice none 0 0], 24⟩ (off := 0) (.agg #[.slice none 0 0, .slice none 0 0]) (.int .i64 2) Tryz.results14 (fun w hO => ⟨_, [], by rw [show k6 s = 2 from by unfold k6; rw [(tA h5)]; rfl], by rw [(tA h5)]; exact SetO.none, kG hO⟩)))))))
          refine zK (.bool false) (by kernel_rfl) (zI (a := s) (b := ([])) rfl (by kernel_rfl) (by kernel_rfl) (decide_eq_false (h5))) (Zv (.bool false) (Zv (.bool false) (Zl 0 ⟨b2, #[.slice A1 l1.length c1, .slice none 0 0], 24⟩ (off := 0) (.agg #[.slice A1 l1.length c1, .slice none 0 0]) ?_)))
          obtain ⟨x, ex⟩ : ∃ x : St, x = ⟨l1, []⟩ := ⟨_, rfl⟩
          have hS : SetO (.agg #[.slice A1 x.rel.length c1, .slice none x.pre.length 0]) x o1 := by rw [ex]; exact ⟨_, _, o1, [], rfl, rfl, hs1, Sl.nil _ _⟩
          have hsh : yL x.rel ∧ yL x.pre := by rw [ex]; exact ⟨hf1, fun y hy => by simp at hy⟩
          have hxn : x.rel.length ≤ 100000 ∧ x.pre.length ≤ 100000 := by rw [ex]; exact ⟨by show l1.length ≤ _; omega, Nat.zero_le _⟩
          have hpt : yR s = if zG x = s then some x else none := by rw [ex, hl1]; exact pT_eq hcs (pJ h4) (by rw [if_pos h3]) h5
          refine pW (k := 12) (args := #[.agg #[.slice A1 x.rel.length c1, .slice none x.pre.length 0]]) (.string (mkS (zG x))) (by kernel_rfl) (fun _ => by rw [ex]; kernel_rfl) (fun w hO => wP A1 none c1 0 x w ⟨(hS.reads (n := 0) (m := 0) hO (fun y hy => by simp at hy ⊢; simp [hy])).1, (hS.reads (n := 0) (m := 0) hO (fun y hy => by simp at hy ⊢; simp [hy])).2, hxn.1, hxn.2, hsh.1, hsh.2⟩) (Zv (.string (mkS s)) ?_)
          by_cases h6 : ((zG x) : List UInt8) = s
          · refine zK (.bool false) (by kernel_rfl) (xJ (a := (zG x)) (b := s) rfl (by kernel_rfl) (by kernel_rfl) (decide_eq_true (h6))) ?_
            refine Zv (.bool false) (ZX (ZB (ZO (Zl 0 ⟨b2, #[.slice A1 l1.length c1, .slice none 0 0], 24⟩ (off := 0) (.agg #[.slice A1 l1.length c1, .slice none 0 0]) (Zs 1 ⟨b1, #[.slice none 0 0, .slice none 0 0], 24⟩ (off := 0) (.agg #[.slice A1 l1.length c1, .slice none 0 0]) (Zv (.int .i64 0) (zL ?_)))))))
            exact z7 (zB (ZD 1 ⟨b1, #[.slice A1 l1.length c1, .slice none 0 0], 24⟩ (off := 0) (.agg #[.slice A1 l1.length c1, .slice none 0 0]) (.int .i64 0) Tryz.results14 (fun w hO => ⟨.agg #[.slice A1 l1.length c1, .slice none 0 0], o1, by rw [show k6 s = 0 from by unfold k6; rw [hpt, if_pos h6]; rfl], by rw [hpt, if_pos h6]; subst ex; exact hS, Own.sub [_, _] hO⟩)))
          refine zK (.bool true) (by kernel_rfl) (xJ (a := (zG x)) (b := s) rfl (by kernel_rfl) (by kernel_rfl) (decide_eq_false (h6))) (Zv (.bool true) (ZY (ZO (Zv (.agg #[.slice none 0 0, .slice none 0 0]) (Zs 1 ⟨b1, #[.slice none 0 0, .slice none 0 0], 24⟩ (off := 0) (.agg #[.slice none 0 0, .slice none 0 0]) (Zv (.int .i64 2) (zL (z7 ?_))))))))
          exact zB (z6 (ZD 1 ⟨b1, #[.slice none 0 0, .slice none 0 0], 24⟩ (off := 0) (.agg #[.slice none 0 0, .slice none 0 0]) (.int .i64 2) Tryz.results14 (fun w hO => ⟨_, [], by rw [show k6 s = 2 from by unfold k6; rw [(show yR s = none from by rw [hpt, if_neg h6])]; rfl], by rw [(show yR s = none from by rw [hpt, if_neg h6])]; exact SetO.none, kG hO⟩)))
        | false =>
          refine Zv (.bool true) (Zv (.bool true) (Zk (Zk (Zv (.bool true) (Zv (.bool true) (Zk (Zk (Zv (.bool true) (Zv (.bool true) (Zk (Zk ?_)))))))))))
          refine Zk (Zk (Zv (.bool true) (ZY (ZO (Zv (.agg #[.slice none 0 0, .slice none 0 0]) (Zs 1 ⟨b1, #[.slice none 0 0, .slice none 0 0], 24⟩ (off := 0) (.agg #[.slice none 0 0, .slice none 0 0]) (Zv (.int .i64 2) (zL ?_))))))))
          exact z7 (zB (z6 (ZD 1 ⟨b1, #[.slice none 0 0, .slice none 0 0], 24⟩ (off := 0) (.agg #[.slice none 0 0, .slice none 0 0]) (.int .i64 2) Tryz.results14 (fun w hO => ⟨_, [], by rw [show k6 s = 2 from by unfold k6; rw [(t8 hcs h4)]; rfl], by rw [(t8 hcs h4)]; exact SetO.none, kG hO⟩))))
      refine zK (.bool true) (by kernel_rfl) (xJ (a := (s.drop (k + 3))) (b := ([])) rfl (by kernel_rfl) (by kernel_rfl) (decide_eq_false (h3))) (ZY (zA (Zv (.string (mkS (s.drop (k + 3)))) ?_)))
      obtain ⟨l2, hl2⟩ : ∃ l, l = (x4 (s.drop (k + 3))).getD [] := ⟨_, rfl⟩
      refine y9 (k := 30) (args := #[.string (mkS (s.drop (k + 3)))]) (fun v' L' => ∃ rv ob', v' = .tuple #[rv, .bool (x4 (s.drop (k + 3))).isSome] ∧ L' = ob' ++ (⟨b2, #[.slice A1 l1.length c1, .slice none 0 0], 24⟩ :: (⟨b1, #[.slice none 0 0, .slice none 0 0], 24⟩ :: (o1))) ∧ Rows8 (s.drop (k + 3)) rv ob') (by kernel_rfl) (fun _ => by kernel_rfl) (fun w hO => (mU (s.drop (k + 3)) w (by first | omega | (simp only [List.length_take, List.length_drop]; omega))).mono fun e w' ⟨v', ob', k1, k2, k3⟩ => ⟨_, _, k1, ⟨v', ob', rfl, rfl, k2⟩, Own.joinN hO k3⟩) (fun v2 L2 hv2 => ?_)
      obtain ⟨rv2, o2, rfl, rfl, hw2⟩ := hv2
      have hs2 : SlS rv2 l2 o2 := hl2 ▸ hw2.sl
      have hf2 : yL l2 := hl2 ▸ hw2.sh
      have hn2 : l2.length ≤ s.length + 2 := by have q := hw2.le; rw [← hl2] at q; first | omega | (simp only [List.length_take, List.length_drop] at q; omega)
      obtain ⟨A2, c2, rfl⟩ := SlS.form hs2
      refine yY (L' := ⟨b2, #[.slice A1 l1.length c1, .slice none 0 0], 24⟩ :: (⟨b1, #[.slice none 0 0, .slice none 0 0], 24⟩ :: ((o2 ++ o1)))) (fun w hO => own_ab hO) (Zv (.tuple #[.slice A2 l2.length c2, .bool ((x4 (s.drop (k + 3))).isSome)]) (Zv (.slice A2 l2.length c2) (Zv (.bool ((x4 (s.drop (k + 3))).isSome)) (Zv (.pointer (some ⟨b2, 1, none⟩)) (Zs 0 ⟨b2, #[.slice A1 l1.length c1, .slice none 0 0], 24⟩ (off := 1) (.slice A2 l2.length c2) (Zv (.bool ((x4 (s.drop (k + 3))).isSome)) (ZN (z8 (z8 (zA ?_))))))))))
      refine Zv (.bool ((x4 (s.take k)).isSome)) ?_
      cases h7 : (x4 (s.take k)).isSome with
      | true =>
        refine Zv (.bool false) (Zv (.bool false) (Zv (.bool ((x4 (s.drop (k + 3))).isSome)) ?_))
        cases h8 : (x4 (s.drop (k + 3))).isSome with
        | true =>
          refine Zv (.bool false) (Zv (.bool false) (Zv (.bool false) (Zv (.string (mkS s)) ?_)))
          by_cases h9 : (s : List UInt8) = []
          · refine zK (.bool true) (by kernel_rfl) (zI (a := s) (b := ([])) rfl (by kernel_rfl) (by kernel_rfl) (decide_eq_true (h9))) ?_
            refine Zv (.bool true) (Zv (.bool true) (Zk (Zk (Zk (Zk (Zv (.bool true) (ZY (z8 (zA ?_)))))))))
            exact Zv (.agg #[.slice none 0 0, .slice none 0 0]) (Zs 1 ⟨b1, #[.slice none 0 0, .slice none 0 0], 24⟩ (off := 0) (.agg #[.slice none 0 0, .slice none 0 0]) (Zv (.int .i64 2) (ZN (zB (z6 (ZD 1 ⟨b1, #[.slice none 0 0, .slice none 0 0], 24⟩ (off := 0) (.agg #[.slice none 0 0, .slice none 0 0]) (.int .i64 2) Tryz.results14 (fun w hO => ⟨_, [], by rw [show k6 s = 2 from by unfold k6; rw [(tA h9)]; rfl], by rw [(tA h9)]; exact SetO.none, kG hO⟩)))))))
          refine zK (.bool false) (by kernel_rfl) (zI (a := s) (b := ([])) rfl (by kernel_rfl) (by kernel_rfl) (decide_eq_false (h9))) (Zv (.bool false) (Zv (.bool false) (Zl 0 ⟨b2, #[.slice A1 l1.length c1, .slice A2 l2.length c2], 24⟩ (off := 0) (.agg #[.slice A1 l1.length c1, .slice A2 l2.length c2]) ?_)))
          obtain ⟨x, ex⟩ : ∃ x : St, x = ⟨l1, l2⟩ := ⟨_, rfl⟩
          have hS : SetO (.agg #[.slice A1 x.rel.length c1, .slice A2 x.pre.length c2]) x (o2 ++ o1) := by rw [ex]; exact ⟨_, _, o1, o2, rfl, rfl, hs1, hs2⟩
          have hsh : yL x.rel ∧ yL x.pre := by rw [ex]; exact ⟨hf1, hf2⟩
          have hxn : x.rel.length ≤ 100000 ∧ x.pre.length ≤ 100000 := by rw [ex]; exact ⟨by show l1.length ≤ _; omega, by show l2.length ≤ _; omega⟩
          have hpt : yR s = if zG x = s then some x else none := by rw [ex, hl1, hl2]; exact pT_eq hcs (pJ h7) (by rw [if_neg h3]; exact pJ h8) h9
          refine pW (k := 12) (args := #[.agg #[.slice A1 x.rel.length c1, .slice A2 x.pre.length c2]]) (.string (mkS (zG x))) (by kernel_rfl) (fun _ => by rw [ex]; kernel_rfl) (fun w hO => wP A1 A2 c1 c2 x w ⟨(hS.reads (n := 0) (m := 0) hO (fun y hy => by simp at hy ⊢; simp [hy])).1, (hS.reads (n := 0) (m := 0) hO (fun y hy => by simp at hy ⊢; simp [hy])).2, hxn.1, hxn.2, hsh.1, hsh.2⟩) (Zv (.string (mkS s)) ?_)
          by_cases h10 : ((zG x) : List UInt8) = s
          · refine zK (.bool false) (by kernel_rfl) (xJ (a := (zG x)) (b := s) rfl (by kernel_rfl) (by kernel_rfl) (decide_eq_true (h10))) ?_
            refine Zv (.bool false) (ZX (ZB (ZO (Zl 0 ⟨b2, #[.slice A1 l1.length c1, .slice A2 l2.length c2], 24⟩ (off := 0) (.agg #[.slice A1 l1.length c1, .slice A2 l2.length c2]) (Zs 1 ⟨b1, #[.slice none 0 0, .slice none 0 0], 24⟩ (off := 0) (.agg #[.slice A1 l1.length c1, .slice A2 l2.length c2]) (Zv (.int .i64 0) (zL ?_)))))))
            exact z7 (zB (ZD 1 ⟨b1, #[.slice A1 l1.length c1, .slice A2 l2.length c2], 24⟩ (off := 0) (.agg #[.slice A1 l1.length c1, .slice A2 l2.length c2]) (.int .i64 0) Tryz.results14 (fun w hO => ⟨.agg #[.slice A1 l1.length c1, .slice A2 l2.length c2], (o2 ++ o1), by rw [show k6 s = 0 from by unfold k6; rw [hpt, if_pos h10]; rfl], by rw [hpt, if_pos h10]; subst ex; exact hS, Own.sub [_, _] hO⟩)))
          refine zK (.bool true) (by kernel_rfl) (xJ (a := (zG x)) (b := s) rfl (by kernel_rfl) (by kernel_rfl) (decide_eq_false (h10))) (Zv (.bool true) (ZY (ZO (Zv (.agg #[.slice none 0 0, .slice none 0 0]) (Zs 1 ⟨b1, #[.slice none 0 0, .slice none 0 0], 24⟩ (off := 0) (.agg #[.slice none 0 0, .slice none 0 0]) (Zv (.int .i64 2) (zL (z7 ?_))))))))
          exact zB (z6 (ZD 1 ⟨b1, #[.slice none 0 0, .slice none 0 0], 24⟩ (off := 0) (.agg #[.slice none 0 0, .slice none 0 0]) (.int .i64 2) Tryz.results14 (fun w hO => ⟨_, [], by rw [show k6 s = 2 from by unfold k6; rw [(show yR s = none from by rw [hpt, if_neg h10])]; rfl], by rw [(show yR s = none from by rw [hpt, if_neg h10])]; exact SetO.none, kG hO⟩)))
        | false =>
          refine Zv (.bool true) (Zv (.bool true) (Zv (.bool true) (Zk (Zk (Zv (.bool true) (Zv (.bool true) (Zk (Zk (Zk (Zk (Zv (.bool true) ?_)))))))))))
          refine ZY (ZO (Zv (.agg #[.slice none 0 0, .slice none 0 0]) (Zs 1 ⟨b1, #[.slice none 0 0, .slice none 0 0], 24⟩ (off := 0) (.agg #[.slice none 0 0, .slice none 0 0]) (Zv (.int .i64 2) (ZN (zB (z6 ?_)))))))
          exact ZD 1 ⟨b1, #[.slice none 0 0, .slice none 0 0], 24⟩ (off := 0) (.agg #[.slice none 0 0, .slice none 0 0]) (.int .i64 2) Tryz.results14 (fun w hO => ⟨_, [], by rw [show k6 s = 2 from by unfold k6; rw [(pT_no2 hcs h3 h8)]; rfl], by rw [(pT_no2 hcs h3 h8)]; exact SetO.none, kG hO⟩)
      | false =>
        refine Zv (.bool true) (Zv (.bool true) (Zk (Zk (Zv (.bool true) (Zv (.bool true) (Zk (Zk (Zv (.bool true) (Zv (.bool true) (Zk (Zk ?_)))))))))))
        refine Zk (Zk (Zv (.bool true) (ZY (ZO (Zv (.agg #[.slice none 0 0, .slice none 0 0]) (Zs 1 ⟨b1, #[.slice none 0 0, .slice none 0 0], 24⟩ (off := 0) (.agg #[.slice none 0 0, .slice none 0 0]) (Zv (.int .i64 2) (zL ?_))))))))
        exact z7 (zB (z6 (ZD 1 ⟨b1, #[.slice none 0 0, .slice none 0 0], 24⟩ (off := 0) (.agg #[.slice none 0 0, .slice none 0 0]) (.int .i64 2) Tryz.results14 (fun w hO => ⟨_, [], by rw [show k6 s = 2 from by unfold k6; rw [(t8 hcs h7)]; rfl], by rw [(t8 hcs h7)]; exact SetO.none, kG hO⟩))))
    refine zK (.bool false) (by kernel_rfl) (zI (a := ((s.drop k).take (k + 3 - k))) (b := ([32, 47, 32])) rfl (by kernel_rfl) (by kernel_rfl) (decide_eq_false (h2))) (ZX (yT (zR (z7 (zA (Zv (.int .i64 (k : Int)) (Zu (k := .i64) (((k + 1 : Nat) : Int)) (IntWalk.i64_in _ (by omega)) (Zv (.int .i64 ((k + 1 : Nat) : Int)) (zL ?_)))))))))
    exact zY (m' := s.length - (k + 1)) (by omega) ⟨k + 1, _, ⟨by omega, by rw [hrel.2]; exact cutS_go hk (by rw [show k + 3 - k = 3 by omega] at h2; exact h2)⟩, rfl, ZU, rfl⟩
  have hcs : qK [] s = (s, []) := by rw [hrel.2]; exact cutS_last (by omega)
  refine Zd (p := ((k + 2 : Nat) : Int) < (mkS s).size) false (decide_eq_false (h1)) (ZX (xQ (yA (y5 (zW (z7 (ZO (Za (.agg #[.slice none 0 0, .slice none 0 0]) (fun b2 => ?_)))))))))
  refine ZR (Zv (.bool false) (Zv (.bool false) (ZR (Zv (.string (mkS s)) ?_))))
  obtain ⟨l1, hl1⟩ : ∃ l, l = (x4 s).getD [] := ⟨_, rfl⟩
  refine y9 (k := 30) (args := #[.string (mkS s)]) (fun v' L' => ∃ rv ob', v' = .tuple #[rv, .bool (x4 s).isSome] ∧ L' = ob' ++ ([⟨b2, #[.slice none 0 0, .slice none 0 0], 24⟩, ⟨b1, #[.slice none 0 0, .slice none 0 0], 24⟩]) ∧ Rows8 s rv ob') (by kernel_rfl) (fun _ => by kernel_rfl) (fun w hO => (mU s w (by first | omega | (simp only [List.length_take, List.length_drop]; omega))).mono fun e w' ⟨v', ob', k1, k2, k3⟩ => ⟨_, _, k1, ⟨v', ob', rfl, rfl, k2⟩, Own.joinN hO k3⟩) (fun v1 L1 hv1 => ?_)
  obtain ⟨rv1, o1, rfl, rfl, hw1⟩ := hv1
  have hs1 : SlS rv1 l1 o1 := hl1 ▸ hw1.sl
  have hf1 : yL l1 := hl1 ▸ hw1.sh
  have hn1 : l1.length ≤ s.length + 2 := by have q := hw1.le; rw [← hl1] at q; first | omega | (simp only [List.length_take, List.length_drop] at q; omega)
  obtain ⟨A1, c1, rfl⟩ := SlS.form hs1
  refine yY (L' := ⟨b2, #[.slice none 0 0, .slice none 0 0], 24⟩ :: (⟨b1, #[.slice none 0 0, .slice none 0 0], 24⟩ :: (o1))) (fun w hO => hO.perm (List.perm_append_comm (l₁ := o1) (l₂ := [⟨b2, #[.slice none 0 0, .slice none 0 0], 24⟩, ⟨b1, #[.slice none 0 0, .slice none 0 0], 24⟩]))) (Zv (.tuple #[.slice A1 l1.length c1, .bool ((x4 s).isSome)]) (Zv (.slice A1 l1.length c1) (Zv (.bool ((x4 s).isSome)) (Zv (.pointer (some ⟨b2, 0, none⟩)) (Zs 0 ⟨b2, #[.slice none 0 0, .slice none 0 0], 24⟩ (off := 0) (.slice A1 l1.length c1) (Zv (.bool ((x4 s).isSome)) (ZR (Zv (.bool true) ?_))))))))
  refine ZN (z8 (ZO (Zv (.string ⟨#[]⟩) (zK (.bool false) (by kernel_rfl) (xJ (a := ([])) (b := ([])) rfl (by kernel_rfl) (by kernel_rfl) (decide_eq_true (rfl))) (ZX (yT (z7 ?_)))))))
  refine z8 (ZO (Zv (.bool ((x4 s).isSome)) ?_))
  cases h11 : (x4 s).isSome with
  | true =>
    refine Zv (.bool false) (Zv (.bool false) (Zv (.bool true) (Zv (.bool false) (Zv (.bool false) (Zv (.bool false) (Zv (.string (mkS s)) ?_))))))
    by_cases h12 : (s : List UInt8) = []
    · refine zK (.bool true) (by kernel_rfl) (zI (a := s) (b := ([])) rfl (by kernel_rfl) (by kernel_rfl) (decide_eq_true (h12))) ?_
      refine Zv (.bool true) (Zv (.bool true) (Zk (Zk (Zk (Zk (Zv (.bool true) (ZY (z8 (zA ?_)))))))))
      exact Zv (.agg #[.slice none 0 0, .slice none 0 0]) (Zs 1 ⟨b1, #[.slice none 0 0, .slice none 0 0], 24⟩ (off := 0) (.agg #[.slice none 0 0, .slice none 0 0]) (Zv (.int .i64 2) (ZN (zB (z6 (ZD 1 ⟨b1, #[.slice none 0 0, .slice none 0 0], 24⟩ (off := 0) (.agg #[.slice none 0 0, .slice none 0 0]) (.int .i64 2) Tryz.results14 (fun w hO => ⟨_, [], by rw [show k6 s = 2 from by unfold k6; rw [(tA h12)]; rfl], by rw [(tA h12)]; exact SetO.none, kG hO⟩)))))))
    refine zK (.bool false) (by kernel_rfl) (zI (a := s) (b := ([])) rfl (by kernel_rfl) (by kernel_rfl) (decide_eq_false (h12))) (Zv (.bool false) (Zv (.bool false) (Zl 0 ⟨b2, #[.slice A1 l1.length c1, .slice none 0 0], 24⟩ (off := 0) (.agg #[.slice A1 l1.length c1, .slice none 0 0]) ?_)))
    obtain ⟨x, ex⟩ : ∃ x : St, x = ⟨l1, []⟩ := ⟨_, rfl⟩
    have hS : SetO (.agg #[.slice A1 x.rel.length c1, .slice none x.pre.length 0]) x o1 := by rw [ex]; exact ⟨_, _, o1, [], rfl, rfl, hs1, Sl.nil _ _⟩
    have hsh : yL x.rel ∧ yL x.pre := by rw [ex]; exact ⟨hf1, fun y hy => by simp at hy⟩
    have hxn : x.rel.length ≤ 100000 ∧ x.pre.length ≤ 100000 := by rw [ex]; exact ⟨by show l1.length ≤ _; omega, Nat.zero_le _⟩
    have hpt : yR s = if zG x = s then some x else none := by rw [ex, hl1]; exact pT_eq hcs (pJ h11) (by rw [if_pos rfl]) h12
    refine pW (k := 12) (args := #[.agg #[.slice A1 x.rel.length c1, .slice none x.pre.length 0]]) (.string (mkS (zG x))) (by kernel_rfl) (fun _ => by rw [ex]; kernel_rfl) (fun w hO => wP A1 none c1 0 x w ⟨(hS.reads (n := 0) (m := 0) hO (fun y hy => by simp at hy ⊢; simp [hy])).1, (hS.reads (n := 0) (m := 0) hO (fun y hy => by simp at hy ⊢; simp [hy])).2, hxn.1, hxn.2, hsh.1, hsh.2⟩) (Zv (.string (mkS s)) ?_)
    by_cases h13 : ((zG x) : List UInt8) = s
    · refine zK (.bool false) (by kernel_rfl) (xJ (a := (zG x)) (b := s) rfl (by kernel_rfl) (by kernel_rfl) (decide_eq_true (h13))) ?_
      refine Zv (.bool false) (ZX (ZB (ZO (Zl 0 ⟨b2, #[.slice A1 l1.length c1, .slice none 0 0], 24⟩ (off := 0) (.agg #[.slice A1 l1.length c1, .slice none 0 0]) (Zs 1 ⟨b1, #[.slice none 0 0, .slice none 0 0], 24⟩ (off := 0) (.agg #[.slice A1 l1.length c1, .slice none 0 0]) (Zv (.int .i64 0) (zL ?_)))))))
      exact z7 (zB (ZD 1 ⟨b1, #[.slice A1 l1.length c1, .slice none 0 0], 24⟩ (off := 0) (.agg #[.slice A1 l1.length c1, .slice none 0 0]) (.int .i64 0) Tryz.results14 (fun w hO => ⟨.agg #[.slice A1 l1.length c1, .slice none 0 0], o1, by rw [show k6 s = 0 from by unfold k6; rw [hpt, if_pos h13]; rfl], by rw [hpt, if_pos h13]; subst ex; exact hS, Own.sub [_, _] hO⟩)))
    refine zK (.bool true) (by kernel_rfl) (xJ (a := (zG x)) (b := s) rfl (by kernel_rfl) (by kernel_rfl) (decide_eq_false (h13))) (Zv (.bool true) (ZY (ZO (Zv (.agg #[.slice none 0 0, .slice none 0 0]) (Zs 1 ⟨b1, #[.slice none 0 0, .slice none 0 0], 24⟩ (off := 0) (.agg #[.slice none 0 0, .slice none 0 0]) (Zv (.int .i64 2) (zL (z7 ?_))))))))
    exact zB (z6 (ZD 1 ⟨b1, #[.slice none 0 0, .slice none 0 0], 24⟩ (off := 0) (.agg #[.slice none 0 0, .slice none 0 0]) (.int .i64 2) Tryz.results14 (fun w hO => ⟨_, [], by rw [show k6 s = 2 from by unfold k6; rw [(show yR s = none from by rw [hpt, if_neg h13])]; rfl], by rw [(show yR s = none from by rw [hpt, if_neg h13])]; exact SetO.none, kG hO⟩)))
  | false =>
    refine Zv (.bool true) (Zv (.bool true) (Zk (Zk (Zv (.bool true) (Zv (.bool true) (Zk (Zk (Zv (.bool true) (Zv (.bool true) (Zk (Zk ?_)))))))))))
    refine Zk (Zk (Zv (.bool true) (ZY (ZO (Zv (.agg #[.slice none 0 0, .slice none 0 0]) (Zs 1 ⟨b1, #[.slice none 0 0, .slice none 0 0], 24⟩ (off := 0) (.agg #[.slice none 0 0, .slice none 0 0]) (Zv (.int .i64 2) (zL ?_))))))))
    exact z7 (zB (z6 (ZD 1 ⟨b1, #[.slice none 0 0, .slice none 0 0], 24⟩ (off := 0) (.agg #[.slice none 0 0, .slice none 0 0]) (.int .i64 2) Tryz.results14 (fun w hO => ⟨_, [], by rw [show k6 s = 2 from by unfold k6; rw [(t8 hcs h11)]; rfl], by rw [(t8 hcs h11)]; exact SetO.none, kG hO⟩))))
end
section
theorem dY (l : List Int) (i : Nat) : RF (rowG l i) 10 := by
  have h := t7 (atL l i) (4 + 1 : Nat) (by omega)
  have h2 := mN l i (plc (atL l i) (4 + 1 : Nat)).toNat
  exact RF.make (n := 4) (mM l i _) (by omega)
def setG (l : List Int) (i : Nat) : St := ⟨xM (rowG l i), rowG l (i + 49)⟩
theorem makeRel_rf {l : List Sp} {n : Nat} (h : l.length ≤ n) : RF (xM l) (2 + 2 * n) := RF.make (makeRel_mays l) (Nat.le_trans (List.length_filter_le _ _) (by rw [List.length_map]; exact h))
theorem setG_sf (l : List Int) (i : Nat) : SF (setG l i) 22 := ⟨makeRel_rf (dY l i).len, (dY l (i + 49)).le (by decide), makeRel_right (vZ (dY l i).may)⟩
theorem own_set {M : List Nat} {W w : World} {x : Blk} {A B C : List Blk} (h : Own M W w (A ++ (B ++ (C ++ [x])))) : Own M W w (x :: A) := by
  have h2 : Own M W w (A ++ [x]) := h.sublist ((List.Sublist.refl A).append ((List.sublist_append_right C [x]).trans (List.sublist_append_right B _)))
  exact h2.perm List.perm_append_comm
theorem d6 (v : Value) (l : List Int) (i : Nat) (W : World) (hv : ReadsI W W.heap.size v l) (hl : l.length ≤ 9223372036854775807) (hi : i ≤ 49000) :
    Calls Tryz.prog 16 #[v, .int .i64 (i : Int)] W fun e w' => ∃ v' ob', e = .returned v' ∧ SetO v' (setG l i) ob' ∧ Own [] W w' ob' := by
  obtain ⟨p, hp⟩ : ∃ p, rowG l i = p := ⟨_, rfl⟩
  obtain ⟨q, hq⟩ : ∃ q, rowG l (i + 49) = q := ⟨_, rfl⟩
  have fp : RF p 10 := hp ▸ dY l i
  have fq : RF q 10 := hq ▸ dY l (i + 49)
  have hg : setG l i = ⟨xM p, q⟩ := by unfold setG; rw [hp, hq]
  rw [hg]
  refine zM (n := 19) Tryz.func16 rfl (by kernel_rfl) (by kernel_rfl) (ZO (Za (.agg #[.slice none 0 0, .slice none 0 0]) (fun b1 => ZR (Zv (v) (Zv (.int .i64 (i : Int)) (y9 (k := 33) (args := #[v, .int .i64 (i : Int)]) (fun v' L' => ∃ ob', L' = ob' ++ ([⟨b1, #[.slice none 0 0, .slice none 0 0], 24⟩]) ∧ SlS v' p ob') (by kernel_rfl) (fun _ => by kernel_rfl) (fun w hO => (row_any v l i w ((hv.below hO.below).more hO.below.size) hl (by omega)).mono fun e w' ⟨v', ob', k1, k2, k3⟩ => ⟨v', _, k1, ⟨ob', rfl, by rw [hp] at k2; exact k2⟩, Own.joinN hO k3⟩) (fun v1 L1 hv1 => ?_)))))))
  obtain ⟨o1, rfl, hr1⟩ := hv1
  obtain ⟨V1, c1, rfl⟩ := hr1.form
  refine Zv (v) (Zv (.int .i64 (i : Int)) (Zu (k := .i64) (((i + 49 : Nat) : Int)) (IntWalk.i64_in _ (by omega)) (y9 (k := 33) (args := #[v, .int .i64 ((i + 49 : Nat) : Int)]) (fun v' L' => ∃ ob', L' = ob' ++ (o1 ++ ([⟨b1, #[.slice none 0 0, .slice none 0 0], 24⟩])) ∧ SlS v' q ob') (by kernel_rfl) (fun _ => by kernel_rfl) (fun w hO => (row_any v l (i + 49) w ((hv.below hO.below).more hO.below.size) hl (by omega)).mono fun e w' ⟨v', ob', k1, k2, k3⟩ => ⟨v', _, k1, ⟨ob', rfl, by rw [hq] at k2; exact k2⟩, Own.joinN hO k3⟩) (fun v2 L2 hv2 => ?_))))
  obtain ⟨o2, rfl, hr2⟩ := hv2
  obtain ⟨V2, c2, rfl⟩ := hr2.form
  refine y9 (k := 32) (args := #[.slice V1 p.length c1, .slice V2 q.length c2]) (fun v' L' => ∃ mv ob', v' = .tuple #[mv, .bool true] ∧ L' = ob' ++ (o2 ++ (o1 ++ ([⟨b1, #[.slice none 0 0, .slice none 0 0], 24⟩]))) ∧ SetO mv ⟨xM p, q⟩ ob') (by kernel_rfl) (fun _ => by kernel_rfl) (fun w hO => (rsetMake_any V1 V2 c1 c2 p q w (Sl.reads hr1 rfl hO (fun x hx => by simp [hx])) (Sl.reads hr2 rfl hO (fun x hx => by simp [hx])) (Nat.le_trans fp.len (by decide)) (Nat.le_trans fq.len (by decide)) fp.short fq.short).mono fun e w' ⟨v', ob', k1, k2, k3⟩ => ⟨_, _, k1, ⟨v', ob', by rw [fp.may, fq.may]; rfl, rfl, by rw [if_pos (by rw [fp.may, fq.may]; rfl)] at k2; exact k2⟩, Own.joinN hO k3⟩) (fun tv L3 hv3 => ?_)
  obtain ⟨v3, o3, rfl, rfl, hr3⟩ := hv3
  obtain ⟨V3, U3, c3, d3, rfl⟩ := hr3.form
  refine yY (L' := ⟨b1, #[.slice none 0 0, .slice none 0 0], 24⟩ :: o3) (fun w hO => own_set hO) (Zv (.tuple #[.agg #[.slice V3 ((xM p).length) c3, .slice U3 q.length d3], .bool true]) (Zv (.agg #[.slice V3 ((xM p).length) c3, .slice U3 q.length d3]) (Zv (.bool true) (Za (.agg #[.slice none 0 0, .slice none 0 0]) (fun b2 => Zs 0 ⟨b2, #[.slice none 0 0, .slice none 0 0], 24⟩ (off := 0) (.agg #[.slice V3 ((xM p).length) c3, .slice U3 q.length d3]) (Zv (.bool true) (ZR (Zl 0 ⟨b2, #[.slice V3 ((xM p).length) c3, .slice U3 q.length d3], 24⟩ (off := 0) (.agg #[.slice V3 ((xM p).length) c3, .slice U3 q.length d3]) ?_))))))))
  exact Zs 1 ⟨b1, #[.slice none 0 0, .slice none 0 0], 24⟩ (off := 0) (.agg #[.slice V3 ((xM p).length) c3, .slice U3 q.length d3]) (ZN (zB (ZC 1 ⟨b1, #[.slice V3 ((xM p).length) c3, .slice U3 q.length d3], 24⟩ (off := 0) (.agg #[.slice V3 ((xM p).length) c3, .slice U3 q.length d3]) Tryz.results16 (fun w hO => ⟨_, o3, rfl, hr3, own_mid0 (own_mid0 hO)⟩))))
end
section
end
section
structure AlI (s : List UInt8) (i f : Nat) (u : Value) (P : List (List UInt8)) (ob : List Blk) : Prop where
  fi : f ≤ i + 1
  il : i ≤ s.length
  fl : f ≤ s.length
  sl : SlT u P ob
  eq : P ++ altsL ((s.drop f).take (i - f)) (s.drop (max i f)) = altsL [] s
  pl : P.length ≤ i
end
section
section
variable {M : List Nat} {W w : World}
theorem own_swap1 {x : Blk} {A : List Blk} (h : Own M W w (A ++ [x])) : Own M W w (x :: A) := h.perm List.perm_append_comm
end
theorem rwhole_any (W : World) : Calls Tryz.prog 36 #[] W fun e w' => ∃ v' ob', e = .returned v' ∧ SlS v' gZ ob' ∧ Own [] W w' ob' := by
  refine zM (n := 5) Tryz.func36 rfl (by kernel_rfl) (by kernel_rfl) (ZO (Zv (.slice none 0 0) (ZR (Zc (k := 62) (args := #[]) (zC (zQ (-1))) (fun w _ => mR w) (Zc (k := 63) (args := #[]) (zC (zQ 1)) (fun w _ => pY w) (Zv (.agg #[.int .i64 ((zQ (-1)).e), .int .i64 ((zQ (-1)).v.maj), .int .i64 ((zQ (-1)).v.min), .int .i64 ((zQ (-1)).v.pat), .string (mkS (zQ (-1)).v.pre), .string (mkS (zQ (-1)).v.build), .bool ((zQ (-1)).aft), .int .i64 ((zQ 1).e), .int .i64 ((zQ 1).v.maj), .int .i64 ((zQ 1).v.min), .int .i64 ((zQ 1).v.pat), .string (mkS (zQ 1).v.pre), .string (mkS (zQ 1).v.build), .bool ((zQ 1).aft)]) (bG 74 #[.int .i64 ((zQ (-1)).e), .int .i64 ((zQ (-1)).v.maj), .int .i64 ((zQ (-1)).v.min), .int .i64 ((zQ (-1)).v.pat), .string (mkS (zQ (-1)).v.pre), .string (mkS (zQ (-1)).v.build), .bool ((zQ (-1)).aft), .int .i64 ((zQ 1).e), .int .i64 ((zQ 1).v.maj), .int .i64 ((zQ 1).v.min), .int .i64 ((zQ 1).v.pat), .string (mkS (zQ 1).v.pre), .string (mkS (zQ 1).v.build), .bool ((zQ 1).aft)] (by kernel_rfl) rfl (fun _ => by kernel_rfl) (fun b1 => ?_))))))))
  exact Zv (.slice (some ⟨b1, 0, none⟩) 1 1) (ZN (zB (ZF (.slice (some ⟨b1, 0, none⟩) 1 1) Tryz.results36 (fun w hO => ⟨_, _, rfl, sls_lit ⟨zQ (-1), zQ 1⟩ b1 _ (by kernel_rfl), hO⟩))))
theorem rsetAll_any (W : World) : Calls Tryz.prog 20 #[] W fun e w' => ∃ v' ob', e = .returned v' ∧ SetO v' allT ob' ∧ Own [] W w' ob' := by
  refine zM (n := 4) Tryz.func20 rfl (by kernel_rfl) (by kernel_rfl) (ZO (Za (.agg #[.slice none 0 0, .slice none 0 0]) (fun b1 => ZR (y9 (k := 36) (args := #[]) (fun v' L' => ∃ ob', L' = ob' ++ ([⟨b1, #[.slice none 0 0, .slice none 0 0], 24⟩]) ∧ SlS v' gZ ob') (by kernel_rfl) (fun _ => by kernel_rfl) (fun w hO => (rwhole_any w).mono fun e w' ⟨v', ob', k1, k2, k3⟩ => ⟨v', _, k1, ⟨ob', rfl, k2⟩, Own.joinN hO k3⟩) (fun x1 Lx hvx => ?_)))))
  obtain ⟨o1, rfl, hr1⟩ := hvx
  obtain ⟨V1, c1, rfl⟩ := hr1.form
  refine y9 (k := 36) (args := #[]) (fun v' L' => ∃ ob', L' = ob' ++ (o1 ++ ([⟨b1, #[.slice none 0 0, .slice none 0 0], 24⟩])) ∧ SlS v' gZ ob') (by kernel_rfl) (fun _ => by kernel_rfl) (fun w hO => (rwhole_any w).mono fun e w' ⟨v', ob', k1, k2, k3⟩ => ⟨v', _, k1, ⟨ob', rfl, k2⟩, Own.joinN hO k3⟩) (fun x2 Lx hvx => ?_)
  obtain ⟨o2, rfl, hr2⟩ := hvx
  obtain ⟨V2, c2, rfl⟩ := hr2.form
  exact Zv (.agg #[.slice V1 ((gZ).length) c1, .slice V2 ((gZ).length) c2]) (yY (L' := ⟨b1, #[.slice none 0 0, .slice none 0 0], 24⟩ :: (o2 ++ o1)) (fun w hO => own_swap1 (by rw [List.append_assoc]; exact hO)) (Zs 0 ⟨b1, #[.slice none 0 0, .slice none 0 0], 24⟩ (off := 0) (.agg #[.slice V1 ((gZ).length) c1, .slice V2 ((gZ).length) c2]) (ZN (zB (ZC 0 ⟨b1, #[.slice V1 ((gZ).length) c1, .slice V2 ((gZ).length) c2], 24⟩ (off := 0) (.agg #[.slice V1 ((gZ).length) c1, .slice V2 ((gZ).length) c2]) Tryz.results20 (fun w hO => ⟨_, o2 ++ o1, rfl, ⟨_, _, o1, o2, rfl, rfl, hr1, hr2⟩, Own.sub [_] hO⟩))))))
end
section
theorem parse_sf {t : List UInt8} (h : t.length ≤ 90000) : SF ((yR t).getD xV) 100000 := by
  cases hp : yR t with
  | none => exact none_sf.le (by decide)
  | some s =>
    obtain ⟨h1, h2⟩ := j8 hp
    have h3 := rdSet_text h1
    rw [h2] at h3
    obtain ⟨r1, r2, m, hc⟩ : ∃ r1 r2 m, Lib.cut t [32, 47, 32] = (r1, r2, m) := ⟨_, _, _, rfl⟩
    obtain ⟨hr1, hr2⟩ := cut_lens hc
    obtain ⟨_, n1⟩ := dB (s := r1) (by omega)
    obtain ⟨_, n2⟩ := dB (s := r2) (by omega)
    refine SF.of h1 ?_ ?_
    · show s.rel.length ≤ _
      rw [← h3]; unfold wO; rw [hc]; show (yX r1).length ≤ _; omega
    · show s.pre.length ≤ _
      rw [← h3]; unfold wO; rw [hc]
      cases m with
      | true => show (yX r2).length ≤ _; omega
      | false => exact Nat.zero_le _
theorem dU {t : List UInt8} (h : k6 t = 0) : zG ((yR t).getD xV) = t := by
  unfold k6 at h
  cases hp : yR t with
  | none => rw [hp] at h; cases h
  | some s =>
    obtain ⟨h1, h2⟩ := j8 hp
    show zG s = t
    rw [show zG s = yI s from if_pos h1, h2]
theorem k9 {a : St} {n : Nat} (h : SF a n) : zG a = yI a := if_pos h.may
theorem nV {a : St} {n : Nat} (h : SF a n) : yR (zG a) = some a := by rw [k9 h]; exact wR h.may
theorem serr_print {a : St} {n : Nat} (h : SF a n) : k6 (zG a) = 0 := by unfold k6; rw [nV h]; rfl
theorem sget_print {a : St} {n : Nat} (h : SF a n) : (yR (zG a)).getD xV = a := by rw [nV h]; rfl
theorem sprint_inj {a b : St} {n m : Nat} (ha : SF a n) (hb : SF b m) (h : zG a = zG b) : a = b := by
  rw [k9 ha, k9 hb] at h; exact setText_inj ha.may hb.may h
theorem mL {a : St} {n : Nat} (h : SF a n) : (zG a).length ≤ 5 + (n + n) * 140 := by
  rw [k9 h]
  have h1 := stext_len h.may
  have h2 := h.rel.len
  have h3 := h.pre.len
  have : (a.rel.length + a.pre.length) * 140 ≤ (n + n) * 140 := Nat.mul_le_mul_right _ (by omega)
  omega
theorem none_in8 (w : World) (n : Nat) : SetIn w n none none xV := ⟨fun h => absurd h (Nat.lt_irrefl 0), fun h => absurd h (Nat.lt_irrefl 0), Nat.zero_le _, Nat.zero_le _, fun s hs => by simp [xV] at hs, fun s hs => by simp [xV] at hs⟩
theorem part_rel {w : World} {n : Nat} {A B : Option Addr} {a : St} (h : SetIn w n A B a) : SetIn w n A none ⟨a.rel, []⟩ := ⟨h.rel, fun h => absurd h (Nat.lt_irrefl 0), h.lr, Nat.zero_le _, h.sr, fun s hs => by simp at hs⟩
theorem part_pre {w : World} {n : Nat} {A B : Option Addr} {a : St} (h : SetIn w n A B a) : SetIn w n none B ⟨[], a.pre⟩ := ⟨fun h => absurd h (Nat.lt_irrefl 0), h.pre, Nat.zero_le _, h.lp, fun s hs => by simp at hs, h.sp⟩
theorem same8_t {a b : St} (h : a = b) : (decide (a.rel = b.rel) && decide (a.pre = b.pre)) = true := by rw [h]; simp
theorem same8_f {a b : St} (h : ¬ a = b) : (decide (a.rel = b.rel) && decide (a.pre = b.pre)) = false := by
  cases q : (decide (a.rel = b.rel) && decide (a.pre = b.pre)) with
  | false => rfl
  | true =>
    rw [Bool.and_eq_true, decide_eq_true_eq, decide_eq_true_eq] at q
    exact absurd (St.eq q.1 q.2) h
theorem some_St {o : Option St} {a : St} (h : o.map (fun s => (s.rel, s.pre)) = some (a.rel, a.pre)) : o = some a := by
  cases o with
  | none => cases h
  | some s =>
    have h2 := Option.some.inj h
    rw [St.eq (congrArg Prod.fst h2) (congrArg Prod.snd h2)]
theorem err_two (t : List UInt8) : k6 t = 0 ∨ k6 t = 2 := by unfold k6; split <;> simp
end
section
open Go.ChangeShapes Go.WideShapes Go.ChangeAt Go.RowKit
theorem own : ownKnob Tryz.prog.godebug = none := by kernel_rfl
theorem mA {H : Type} {enc : TypeId × Value → H} {P : Program} (hl : laidOutB P = true) {W W' : World} (hb : Below W.heap.size W W') :
    ∀ (ts : List TypeId), (∀ t ∈ ts, P.readableRec t = true ∧ t < P.types.size) → ∀ (vs : List Value) (ds : List (DataW H)) (ps : List MemPlace), DataW.TrodAll enc P W 0 (fun _ => true) true ts vs ds ps → (∀ p ∈ ps, p.block < W.heap.size) →
      DataW.TrodAll enc P W' 0 (fun b => decide (b < W.heap.size)) true ts vs ds ps
  | [], _, vs, ds, ps, h, _ => by
    obtain ⟨rfl, rfl, rfl⟩ := trodAll_nil h
    exact trodAll_mk0
  | t :: ts, hr, vs, ds, ps, h, hlt => by
    obtain ⟨v, vs', d, ds', p, q, rfl, rfl, rfl, hd, hrest⟩ := trodAll_cons h
    exact ⟨p, q, Go.RowKit.Below.trod hl (hr t (by simp)).1 (hr t (by simp)).2 hd hb.old (fun x hx => hlt x (by simp [hx])), mA hl hb ts (fun t' ht' => hr t' (by simp [ht'])) vs' ds' q hrest (fun x hx => hlt x (by simp [hx])), rfl⟩
theorem pE {H : Type} {enc : TypeId × Value → H} {P : Program} {f : Func} {s : ChangeSpec} {W W' : World} {args : Array Value} {ds gs : List (DataW H)} {before : List MemPlace} {T : TypeId}
    (hl : laidOutB P = true) (hr : ∀ t ∈ f.params.toList, P.readableRec t = true ∧ t < P.types.size) (hv : s.vars = []) (hT : f.resultTypes = #[T]) (hB : P.underlying T = some .bool)
    (hW : DataW.Whole enc P f.params.toList s.vars false W args.toList ds gs before) (hf : s.fn H (ds ++ gs) = { results := [.lit (.bool true)], args := ds }) (hb : Below W.heap.size W W') :
    s.post enc P f false true false false W args (.bool true) W' := by
  have hlt : ∀ p ∈ before, p.block < W.heap.size := fun p hp => hW.lt p hp
  have hW' := hW
  obtain ⟨p, q, hA, hV, rfl, _, _⟩ := hW
  rw [hv] at hV
  obtain ⟨rfl, rfl⟩ := trodVars_none hV
  have h2 := mA hl hb _ hr _ _ _ hA (fun x hx => hlt x (by simp [hx]))
  refine ⟨ds, [], p ++ [], [], p, [], hW', ?_, ?_, ?_, World.keptBut_mono (fun x hx => ⟨hx, Or.inr (Or.inl (by simpa using hx))⟩) (hb.frame (· ∈ p ++ [])), fun h => by cases h⟩
  · rw [hf, hT]
    exact trodAll_cons_mk (shut_bool hB true) trodAll_mk0
  · rw [hf]; exact h2
  · rw [hf, hv]; rfl
theorem pF : laidOutB Tryz.prog = true := by kernel_rfl
theorem cell_lt {W : World} {a : Addr} {v : Value} (h : W.cell? a = some v) : a.block < W.heap.size := by
  rcases Nat.lt_or_ge a.block W.heap.size with h1 | h1
  · exact h1
  · unfold World.cell? at h
    rw [Array.getElem?_eq_none h1] at h
    simp at h
theorem strCells1 : Tryz.prog.cellsOf 9 = 1 := by kernel_rfl
theorem open_texts {H : Type} {enc : TypeId × Value → H} {W : World} {base : Nat} {v : Value} {d : DataW H} {ps : List MemPlace} (hval : Value.okWide Tryz.prog W .any base 83 v)
    (h : DataW.Trod enc Tryz.prog W 0 (fun _ => true) true 83 v d ps) : ∃ l : List (List UInt8), ReadsT W W.heap.size v l ∧ l.length ≤ maxLen ∧ ∀ x ∈ l, x.length ≤ maxLen := by
  obtain ⟨A, len, cap, rfl⟩ := okWide_slice Tryz.underlying83 hval
  obtain ⟨fuel, hf⟩ := h
  rcases open_strings Tryz.underlying83 Tryz.underlying9 strCells1 hf with ⟨hcs, _⟩ | ⟨a, len', cap', ss, hcs, _, hl, hm, hz, _, hcell, hws⟩
  · simp [Value.cells] at hcs
    obtain ⟨rfl, rfl, rfl⟩ := hcs
    exact ⟨[], ⟨none, 0, rfl, fun h => by cases h⟩, by simp, by simp⟩
  · simp [Value.cells] at hcs
    obtain ⟨rfl, rfl, rfl⟩ := hcs
    simp only [if_true] at hz
    have hlen : ((ss.take len).map (·.data.toList)).length = len := by rw [List.length_map, List.length_take]; omega
    refine ⟨(ss.take len).map (·.data.toList), ⟨some a, cap, by rw [hlen], fun h0 => ⟨a, rfl, ?_, fun j hj => ?_⟩⟩, by rw [hlen]; omega, fun x hx => ?_⟩
    · have := cell_lt (hcell 0 (by omega))
      rwa [addr_block] at this
    · have hj2 : j < ss.length := by omega
      rw [hcell j hj2, List.getElem_map, List.getElem_take]
      simp only [List.getD, List.getElem?_eq_getElem hj2, Option.getD_some]
      rfl
    · obtain ⟨s, hs, rfl⟩ := List.mem_map.1 hx
      have := hws s (List.mem_of_mem_take hs)
      rw [gO]; exact this
def litCells : DataW Unit → List Value
  | .lit (.int k n) => [Value.int k n]
  | .agg l => l.flatMap fun d => match d with | .lit (.int k n) => [Value.int k n] | _ => []
  | _ => []
def tabCells : DataW Unit → Array Value
  | .agg l => (l.flatMap litCells).toArray
  | _ => #[]
def gP (h : Array Obj) (g : Nat) (d : DataW Unit) : Array Obj := h.modify g fun
  | .cells _ t frozen => .cells (tabCells d) t frozen
  | o => o
theorem powType : (Tryz.prog.globals[3]?).map (·.type) = some 236 := by kernel_rfl
theorem powNamed : Tryz.prog.globalNamed "internal/strconv.uint64pow10" = some 3 := by kernel_rfl
theorem powCells : Tryz.prog.cellsOf 236 = 20 := by kernel_rfl
theorem u64Cells : Tryz.prog.cellsOf 206 = 1 := by kernel_rfl
theorem bR {W : World} {l : List (String × DataW Unit)} (h : laidMetH Tryz.prog l W) (e : (l.filter fun x => x.1 == "internal/strconv.uint64pow10") = [("internal/strconv.uint64pow10", Lib.tabData .u64 Lib.pow10Tab)]) : HasTab W := by
  have h2 := h.filter (fun x => x.1 == "internal/strconv.uint64pow10")
  rw [e] at h2
  exact Lib.tabBelow_of_tabIs (Lib.tabIs_of_head (rest := []) powNamed powType Tryz.underlying236 Tryz.underlying206 u64Cells powCells h2)
end
section
def aT8 : St := ⟨[⟨⟨0, ⟨1, 2, 0, [], []⟩, false⟩, ⟨0, ⟨2, 0, 0, [], []⟩, false⟩⟩, ⟨⟨0, ⟨3, 0, 0, [], []⟩, false⟩, zQ 1⟩], []⟩
theorem aT8_1 : yR [62, 61, 49, 46, 50, 46, 48, 32, 60, 50, 46, 48, 46, 48, 32, 111, 114, 32, 62, 61, 51, 46, 48, 46, 48] = some aT8 := some_St (by decide +kernel)
theorem aT8_2 : yR [62, 61, 49, 46, 50, 46, 48, 32, 60, 49, 46, 50, 46, 48] = none := Option.isNone_iff_eq_none.1 (by decide +kernel)
theorem aT8_sf : SF aT8 2 := SF.of (j8 aT8_1).1 (by decide) (by decide)
theorem aT8_p : zG aT8 = [62, 61, 49, 46, 50, 46, 48, 32, 60, 50, 46, 48, 46, 48, 32, 111, 114, 32, 62, 61, 51, 46, 48, 46, 48] := by rw [k9 aT8_sf]; exact (j8 aT8_1).2
theorem aT8_e1 : k6 [62, 61, 49, 46, 50, 46, 48, 32, 60, 50, 46, 48, 46, 48, 32, 111, 114, 32, 62, 61, 51, 46, 48, 46, 48] = 0 := by unfold k6; rw [aT8_1]; rfl
theorem aT8_e2 : k6 [62, 61, 49, 46, 50, 46, 48, 32, 60, 49, 46, 50, 46, 48] = 2 := by unfold k6; rw [aT8_2]; rfl
theorem aT8_g1 : (yR [62, 61, 49, 46, 50, 46, 48, 32, 60, 50, 46, 48, 46, 48, 32, 111, 114, 32, 62, 61, 51, 46, 48, 46, 48]).getD xV = aT8 := by rw [aT8_1]; rfl
theorem aT8_g2 : (yR [62, 61, 49, 46, 50, 46, 48, 32, 60, 49, 46, 50, 46, 48]).getD xV = xV := by rw [aT8_2]; rfl
theorem aT8_n : zG xV = [45] := by decide +kernel
theorem aT8_a : zG allT = [42, 32, 47, 32, 42] := by decide +kernel
theorem gN (W : World) (ht : HasLib W) : Calls Tryz.prog 10 #[] W fun e w' => e = .returned (.bool true) ∧ Below W.heap.size W w' := by
  refine zM (n := 40) Tryz.func10 rfl (by kernel_rfl) (by kernel_rfl) (ZO (Zv (.bool false) (ZR (y9 (k := 13) (args := #[.string ⟨#[62, 61, 49, 46, 50, 46, 48, 32, 60, 50, 46, 48, 46, 48, 32, 111, 114, 32, 62, 61, 51, 46, 48, 46, 48]⟩]) (fun v' L' => ∃ sv ob', v' = .tuple #[sv, .int .i64 0] ∧ L' = ob' ++ ([]) ∧ SetO sv (aT8) ob') (by kernel_rfl) (fun _ => by kernel_rfl) (fun w hO => (jU ([62, 61, 49, 46, 50, 46, 48, 32, 60, 50, 46, 48, 46, 48, 32, 111, 114, 32, 62, 61, 51, 46, 48, 46, 48]) w (by decide) (ht.on hO.below)).mono fun e w' ⟨v', ob', k1, k2, k3⟩ => ⟨.tuple #[v', .int .i64 0], _, k1.trans (by rw [show k6 ([62, 61, 49, 46, 50, 46, 48, 32, 60, 50, 46, 48, 46, 48, 32, 111, 114, 32, 62, 61, 51, 46, 48, 46, 48]) = 0 from aT8_e1]), ⟨v', ob', rfl, rfl, by rw [show (yR ([62, 61, 49, 46, 50, 46, 48, 32, 60, 50, 46, 48, 46, 48, 32, 111, 114, 32, 62, 61, 51, 46, 48, 46, 48])).getD xV = aT8 from aT8_g1] at k2; exact k2⟩, Own.joinN hO k3⟩) (fun tv L1 hv1 => ?_)))))
  obtain ⟨sv1, o1, rfl, rfl, hr1⟩ := hv1
  obtain ⟨V1, U1, c1, d1, rfl⟩ := hr1.form
  refine kI (L' := o1) (List.append_nil _) (Zv (.tuple #[.agg #[.slice V1 ((aT8).rel.length) c1, .slice U1 ((aT8).pre.length) d1], .int .i64 0]) (Zv (.agg #[.slice V1 ((aT8).rel.length) c1, .slice U1 ((aT8).pre.length) d1]) (Zv (.int .i64 0) (Za (.agg #[.slice none 0 0, .slice none 0 0]) (fun b1 => Zs 0 ⟨b1, #[.slice none 0 0, .slice none 0 0], 24⟩ (off := 0) (.agg #[.slice V1 ((aT8).rel.length) c1, .slice U1 ((aT8).pre.length) d1]) (Zv (.int .i64 0) (ZR (y9 (k := 13) (args := #[.string ⟨#[62, 61, 49, 46, 50, 46, 48, 32, 60, 49, 46, 50, 46, 48]⟩]) (fun v' L' => ∃ sv ob', v' = .tuple #[sv, .int .i64 2] ∧ L' = ob' ++ (⟨b1, #[.slice V1 ((aT8).rel.length) c1, .slice U1 ((aT8).pre.length) d1], 24⟩ :: (o1)) ∧ SetO sv (xV) ob') (by kernel_rfl) (fun _ => by kernel_rfl) (fun w hO => (jU ([62, 61, 49, 46, 50, 46, 48, 32, 60, 49, 46, 50, 46, 48]) w (by decide) (ht.on hO.below)).mono fun e w' ⟨v', ob', k1, k2, k3⟩ => ⟨.tuple #[v', .int .i64 2], _, k1.trans (by rw [show k6 ([62, 61, 49, 46, 50, 46, 48, 32, 60, 49, 46, 50, 46, 48]) = 2 from aT8_e2]), ⟨v', ob', rfl, rfl, by rw [show (yR ([62, 61, 49, 46, 50, 46, 48, 32, 60, 49, 46, 50, 46, 48])).getD xV = xV from aT8_g2] at k2; exact k2⟩, Own.joinN hO k3⟩) (fun tv L2 hv2 => ?_)))))))))
  obtain ⟨sv2, o2, rfl, rfl, hr2⟩ := hv2
  obtain ⟨V2, U2, c2, d2, rfl⟩ := hr2.form
  refine Zv (.tuple #[.agg #[.slice V2 ((xV).rel.length) c2, .slice U2 ((xV).pre.length) d2], .int .i64 2]) (Zv (.agg #[.slice V2 ((xV).rel.length) c2, .slice U2 ((xV).pre.length) d2]) (Zv (.int .i64 2) (Za (.agg #[.slice none 0 0, .slice none 0 0]) (fun b2 => Zs 0 ⟨b2, #[.slice none 0 0, .slice none 0 0], 24⟩ (off := 0) (.agg #[.slice V2 ((xV).rel.length) c2, .slice U2 ((xV).pre.length) d2]) (Zv (.int .i64 2) (ZR (Zv (.int .i64 0) (Zv (.bool true) ?_))))))))
  refine Zv (.bool true) (Zv (.int .i64 2) (Zv (.bool true) (Zv (.bool true) (Zv (.bool true) (Zv (.pointer (some ⟨b1, 0, none⟩)) (fS ⟨b1, #[.slice V1 ((aT8).rel.length) c1, .slice U1 ((aT8).pre.length) d1], 24⟩ (off := 0) (.slice V1 ((aT8).rel.length) c1) (by kernel_rfl) rfl (by simp) (by kernel_rfl) (by kernel_rfl) (Zv (.int .i64 ((aT8).rel.length : Int)) (Zd (p := ((aT8).rel.length : Int) = 2) true (decide_eq_true (rfl)) (Zv (.bool true) (Zv (.bool true) (fS ⟨b1, #[.slice V1 ((aT8).rel.length) c1, .slice U1 ((aT8).pre.length) d1], 24⟩ (off := 0) (.agg #[.slice V1 ((aT8).rel.length) c1, .slice U1 ((aT8).pre.length) d1]) (by kernel_rfl) rfl (by simp) (by kernel_rfl) (by kernel_rfl) ?_)))))))))))
  refine Zc (k := 11) (args := #[.agg #[.slice V1 ((aT8).rel.length) c1, .slice U1 ((aT8).pre.length) d1]]) (.string (mkS ([62, 61, 49, 46, 50, 46, 48, 32, 60, 50, 46, 48, 46, 48, 32, 111, 114, 32, 62, 61, 51, 46, 48, 46, 48]))) (fun w hO => qM (by rw [show zG aT8 = [62, 61, 49, 46, 50, 46, 48, 32, 60, 50, 46, 48, 46, 48, 32, 111, 114, 32, 62, 61, 51, 46, 48, 46, 48] from aT8_p]) (xN V1 U1 c1 d1 aT8 w (SetO.inn hr1 hO (fun x hx => by simp [hx]) (aT8_sf) (by decide)) hr1.caps (ht.tab.on hO.below))) (zK (.bool true) (by kernel_rfl) (zI (a := ([62, 61, 49, 46, 50, 46, 48, 32, 60, 50, 46, 48, 46, 48, 32, 111, 114, 32, 62, 61, 51, 46, 48, 46, 48])) (b := ([62, 61, 49, 46, 50, 46, 48, 32, 60, 50, 46, 48, 46, 48, 32, 111, 114, 32, 62, 61, 51, 46, 48, 46, 48])) rfl (by kernel_rfl) (by kernel_rfl) (decide_eq_true (rfl))) (Zv (.bool true) (Zv (.bool true) (Zv (.agg #[.slice none 0 0, .slice none 0 0]) (Zc (k := 11) (args := #[.agg #[.slice none 0 0, .slice none 0 0]]) (.string (mkS [45])) (fun w hO => qM (by rw [show zG xV = [45] from aT8_n]) (xN none none 0 0 xV w (none_in8 _ _) ⟨Nat.le_refl 0, Nat.le_refl 0⟩ (ht.tab.on hO.below))) (zK (.bool true) (by kernel_rfl) (zI (a := ([45])) (b := ([45])) rfl (by kernel_rfl) (by kernel_rfl) (decide_eq_true (rfl))) (Zv (.bool true) (Zv (.bool true) (y9 (k := 20) (args := #[]) (fun v' L' => ∃ ob', L' = ob' ++ (⟨b2, #[.slice V2 ((xV).rel.length) c2, .slice U2 ((xV).pre.length) d2], 24⟩ :: (o2 ++ (⟨b1, #[.slice V1 ((aT8).rel.length) c1, .slice U1 ((aT8).pre.length) d1], 24⟩ :: (o1)))) ∧ SetO v' allT ob') (by kernel_rfl) (fun _ => by kernel_rfl) (fun w hO => (rsetAll_any w).mono fun e w' ⟨v', ob', k1, k2, k3⟩ => ⟨v', _, k1, ⟨ob', rfl, k2⟩, Own.joinN hO k3⟩) (fun sv3 L3 hv3 => ?_))))))))))
  obtain ⟨o3, rfl, hr3⟩ := hv3
  obtain ⟨V3, U3, c3, d3, rfl⟩ := hr3.form
  exact Zc (k := 11) (args := #[.agg #[.slice V3 ((allT).rel.length) c3, .slice U3 ((allT).pre.length) d3]]) (.string (mkS ([42, 32, 47, 32, 42]))) (fun w hO => qM (by rw [show zG allT = [42, 32, 47, 32, 42] from aT8_a]) (xN V3 U3 c3 d3 allT w (SetO.inn hr3 hO (fun x hx => by simp [hx]) (all_sf) (by decide)) hr3.caps (ht.tab.on hO.below))) (zK (.bool true) (by kernel_rfl) (zI (a := ([42, 32, 47, 32, 42])) (b := ([42, 32, 47, 32, 42])) rfl (by kernel_rfl) (by kernel_rfl) (decide_eq_true (rfl))) (Zv (.bool true) (Zv (.bool true) (ZN (zB (ZF (.bool true) Tryz.results10 (fun w hO => ⟨rfl, hO.below⟩)))))))
end
section
open Go.ChangeShapes Go.WideShapes Go.ChangeAt Go.RowKit Go.Deep
theorem mk_self (p : ByteArray) : mkS p.data.toList = p := by unfold mkS; simp
def Ver.wide (v : Ver) : Prop := v.pre.length ≤ maxLen ∧ v.build.length ≤ maxLen
def Ver.i64 (v : Ver) : Prop := ((-9223372036854775808 ≤ v.maj ∧ v.maj ≤ 9223372036854775807) ∧ (-9223372036854775808 ≤ v.min ∧ v.min ≤ 9223372036854775807)) ∧ (-9223372036854775808 ≤ v.pat ∧ v.pat ≤ 9223372036854775807)
theorem wf_i64 {a : Int} (h : (Lit.int .i64 a).wf = true) : -9223372036854775808 ≤ a ∧ a ≤ 9223372036854775807 := bounds_i64 h
section
variable {H : Type} {enc : TypeId × Value → H} {W : World}
theorem hY {fuel : Nat} {cs : List Value} {x : DataW H × List MemPlace} (h : DataW.trod enc Tryz.prog W 0 (fun _ => true) true fuel 3 cs = some x) : ∃ a, cs = [.int .i64 a] ∧ (-9223372036854775808 ≤ a ∧ a ≤ 9223372036854775807) := by
  obtain ⟨a, e, _, hw⟩ := DataW.trod_int Tryz.underlying3 h
  exact ⟨a, e, wf_i64 hw⟩
theorem cells_str {fuel : Nat} {cs : List Value} {x : DataW H × List MemPlace} (h : DataW.trod enc Tryz.prog W 0 (fun _ => true) true fuel 9 cs = some x) : ∃ p : List UInt8, cs = [.string (mkS p)] ∧ p.length ≤ maxLen := by
  obtain ⟨p, e, _, hw⟩ := DataW.trod_string Tryz.underlying9 h
  exact ⟨p.data.toList, by rw [mk_self]; exact e, by rw [gO]; exact hw⟩
theorem cells_bool {fuel : Nat} {cs : List Value} {x : DataW H × List MemPlace} (h : DataW.trod enc Tryz.prog W 0 (fun _ => true) true fuel 4 cs = some x) : ∃ a, cs = [.bool a] := by
  obtain ⟨a, e, _⟩ := DataW.trod_bool Tryz.underlying4 h
  exact ⟨a, e⟩
theorem size_int : Tryz.prog.cellsOf 3 = 1 := by kernel_rfl
theorem size_str : Tryz.prog.cellsOf 9 = 1 := by kernel_rfl
theorem size_bool : Tryz.prog.cellsOf 4 = 1 := by kernel_rfl
theorem size_ver : Tryz.prog.cellsOf 70 = 5 := by kernel_rfl
theorem size_cut : Tryz.prog.cellsOf 72 = 7 := by kernel_rfl
theorem size_span : Tryz.prog.cellsOf 74 = 14 := by kernel_rfl
theorem cells_ver {fuel : Nat} {cs : List Value} {x : DataW H × List MemPlace} (h : DataW.trod enc Tryz.prog W 0 (fun _ => true) true fuel 70 cs = some x) : ∃ v : Ver, cs = (zP v).cells.toList ∧ v.wide ∧ v.i64 := by
  obtain ⟨xs, n, _, _, hl, hxl, hg⟩ := DataW.trod_struct Tryz.underlying70 h
  rw [size_ver] at hl
  match cs, hl with
  | [c0, c1, c2, c3, c4], _ =>
    have g : ∀ i, i < 5 → ∃ y, xs[i]? = some y := fun i hi => ⟨_, List.getElem?_eq_getElem (by rw [hxl]; exact hi)⟩
    obtain ⟨y0, e0⟩ := g 0 (by omega)
    obtain ⟨y1, e1⟩ := g 1 (by omega)
    obtain ⟨y2, e2⟩ := g 2 (by omega)
    obtain ⟨y3, e3⟩ := g 3 (by omega)
    obtain ⟨y4, e4⟩ := g 4 (by omega)
    obtain ⟨a, ha, wa⟩ := hY ((hg 0 _ rfl).trans e0)
    obtain ⟨b, hb, wb⟩ := hY ((hg 1 _ rfl).trans e1)
    obtain ⟨c, hc, wc⟩ := hY ((hg 2 _ rfl).trans e2)
    obtain ⟨p, hp, wp⟩ := cells_str ((hg 3 _ rfl).trans e3)
    obtain ⟨q, hq, wq⟩ := cells_str ((hg 4 _ rfl).trans e4)
    have ha2 : List.take (Tryz.prog.cellsOf 3) (List.drop 0 [c0, c1, c2, c3, c4]) = _ := ha
    have hb2 : List.take (Tryz.prog.cellsOf 3) (List.drop 1 [c0, c1, c2, c3, c4]) = _ := hb
    have hc2 : List.take (Tryz.prog.cellsOf 3) (List.drop 2 [c0, c1, c2, c3, c4]) = _ := hc
    have hp2 : List.take (Tryz.prog.cellsOf 9) (List.drop 3 [c0, c1, c2, c3, c4]) = _ := hp
    have hq2 : List.take (Tryz.prog.cellsOf 9) (List.drop 4 [c0, c1, c2, c3, c4]) = _ := hq
    rw [size_int] at ha2 hb2 hc2
    rw [size_str] at hp2 hq2
    obtain rfl : c0 = _ := List.singleton_inj.1 ha2
    obtain rfl : c1 = _ := List.singleton_inj.1 hb2
    obtain rfl : c2 = _ := List.singleton_inj.1 hc2
    obtain rfl : c3 = _ := List.singleton_inj.1 hp2
    obtain rfl : c4 = _ := List.singleton_inj.1 hq2
    exact ⟨⟨a, b, c, p, q⟩, rfl, ⟨wp, wq⟩, ⟨⟨wa, wb⟩, wc⟩⟩
def Cu.wide (c : Cu) : Prop := c.v.wide ∧ c.v.i64 ∧ (-9223372036854775808 ≤ c.e ∧ c.e ≤ 9223372036854775807)
theorem tL {fuel : Nat} {cs : List Value} {x : DataW H × List MemPlace} (h : DataW.trod enc Tryz.prog W 0 (fun _ => true) true fuel 72 cs = some x) : ∃ c : Cu, cs = (zC c).cells.toList ∧ c.wide := by
  obtain ⟨xs, n, _, _, hl, hxl, hg⟩ := DataW.trod_struct Tryz.underlying72 h
  rw [size_cut] at hl
  match cs, hl with
  | [c0, c1, c2, c3, c4, c5, c6], _ =>
    have g : ∀ i, i < 3 → ∃ y, xs[i]? = some y := fun i hi => ⟨_, List.getElem?_eq_getElem (by rw [hxl]; exact hi)⟩
    obtain ⟨y0, e0⟩ := g 0 (by omega)
    obtain ⟨y1, e1⟩ := g 1 (by omega)
    obtain ⟨y2, e2⟩ := g 2 (by omega)
    obtain ⟨a, ha, wa⟩ := hY ((hg 0 _ rfl).trans e0)
    obtain ⟨v, hv, w1, w2⟩ := cells_ver ((hg 1 _ rfl).trans e1)
    obtain ⟨b, hb⟩ := cells_bool ((hg 2 _ rfl).trans e2)
    have ha2 : List.take (Tryz.prog.cellsOf 3) (List.drop 0 [c0, c1, c2, c3, c4, c5, c6]) = _ := ha
    have hv2 : List.take (Tryz.prog.cellsOf 70) (List.drop 1 [c0, c1, c2, c3, c4, c5, c6]) = _ := hv
    have hb2 : List.take (Tryz.prog.cellsOf 4) (List.drop 6 [c0, c1, c2, c3, c4, c5, c6]) = _ := hb
    rw [size_int] at ha2
    rw [size_ver] at hv2
    rw [size_bool] at hb2
    obtain rfl : c0 = _ := List.singleton_inj.1 ha2
    obtain rfl : c6 = _ := List.singleton_inj.1 hb2
    have hv3 : [c1, c2, c3, c4, c5] = (zP v).cells.toList := hv2
    refine ⟨⟨a, v, b⟩, ?_, w1, w2, wa⟩
    show .int .i64 a :: ([c1, c2, c3, c4, c5] ++ [.bool b]) = _
    rw [hv3]; rfl
def Sp.wide (s : Sp) : Prop := s.lo.wide ∧ s.hi.wide
theorem cells_span {fuel : Nat} {cs : List Value} {x : DataW H × List MemPlace} (h : DataW.trod enc Tryz.prog W 0 (fun _ => true) true fuel 74 cs = some x) : ∃ s : Sp, cs = (zF s).cells.toList ∧ s.wide := by
  obtain ⟨xs, n, _, _, hl, hxl, hg⟩ := DataW.trod_struct Tryz.underlying74 h
  rw [size_span] at hl
  have g : ∀ i, i < 2 → ∃ y, xs[i]? = some y := fun i hi => ⟨_, List.getElem?_eq_getElem (by rw [hxl]; exact hi)⟩
  obtain ⟨y0, e0⟩ := g 0 (by omega)
  obtain ⟨y1, e1⟩ := g 1 (by omega)
  obtain ⟨a, ha, wa⟩ := tL ((hg 0 _ rfl).trans e0)
  obtain ⟨b, hb, wb⟩ := tL ((hg 1 _ rfl).trans e1)
  have ha2 : List.take (Tryz.prog.cellsOf 72) (List.drop 0 cs) = _ := ha
  have hb2 : List.take (Tryz.prog.cellsOf 72) (List.drop 7 cs) = _ := hb
  rw [size_cut] at ha2 hb2
  refine ⟨⟨a, b⟩, ?_, wa, wb⟩
  have e : cs = List.take 7 (List.drop 0 cs) ++ List.take 7 (List.drop 7 cs) := by
    rw [List.drop_zero, List.take_of_length_le (show (List.drop 7 cs).length ≤ 7 by rw [List.length_drop, hl]; decide), List.take_append_drop]
  rw [e, ha2, hb2]; rfl
theorem dM {v : Value} {cs : Array Value} {l : List Value} (h : v = .agg cs) (e : v.cells.toList = l) : v = .agg l.toArray := by
  subst h
  have : cs.toList = l := e
  rw [← this]
theorem open_verV {base : Nat} {v : Value} {d : DataW H} {ps : List MemPlace} (hval : Value.okWide Tryz.prog W .any base 70 v) (h : DataW.Trod enc Tryz.prog W 0 (fun _ => true) true 70 v d ps) : ∃ u : Ver, v = zP u ∧ u.wide ∧ u.i64 := by
  obtain ⟨cs, hc, _⟩ := okWide_struct Tryz.underlying70 hval
  obtain ⟨fuel, hf⟩ := h
  obtain ⟨u, e, w1, w2⟩ := cells_ver hf
  exact ⟨u, (dM hc e).trans rfl, w1, w2⟩
theorem open_cutV {base : Nat} {v : Value} {d : DataW H} {ps : List MemPlace} (hval : Value.okWide Tryz.prog W .any base 72 v) (h : DataW.Trod enc Tryz.prog W 0 (fun _ => true) true 72 v d ps) : ∃ u : Cu, v = zC u ∧ u.wide := by
  obtain ⟨cs, hc, _⟩ := okWide_struct Tryz.underlying72 hval
  obtain ⟨fuel, hf⟩ := h
  obtain ⟨u, e, w1⟩ := tL hf
  exact ⟨u, (dM hc e).trans rfl, w1⟩
theorem open_spanV {base : Nat} {v : Value} {d : DataW H} {ps : List MemPlace} (hval : Value.okWide Tryz.prog W .any base 74 v) (h : DataW.Trod enc Tryz.prog W 0 (fun _ => true) true 74 v d ps) : ∃ u : Sp, v = zF u ∧ u.wide := by
  obtain ⟨cs, hc, _⟩ := okWide_struct Tryz.underlying74 hval
  obtain ⟨fuel, hf⟩ := h
  obtain ⟨u, e, w1⟩ := cells_span hf
  exact ⟨u, (dM hc e).trans rfl, w1⟩
end
end
section
def vE (s : Sp) : Bool := decide (s.lo.v.pre.length ≤ 60) && decide (s.lo.v.build.length ≤ 60) && decide (s.hi.v.pre.length ≤ 60) && decide (s.hi.v.build.length ≤ 60)
def vQ (l : List Sp) : Bool := decide (l.length ≤ 8) && l.all vE
theorem dC {l : List Sp} (h : vQ l = true) : yL l ∧ l.length ≤ 8 := by
  unfold vQ at h
  rw [Bool.and_eq_true, decide_eq_true_eq, List.all_eq_true] at h
  refine ⟨fun s hs => ?_, h.1⟩
  have := h.2 s hs
  unfold vE at this
  simp only [Bool.and_eq_true, decide_eq_true_eq] at this
  exact ⟨⟨by omega, by omega⟩, ⟨by omega, by omega⟩⟩
theorem part_end {l : List Sp} {k : Nat} (hk : k ≤ 8) (hl : l.length ≤ k) (h : (l.take k).all vE = true) : vQ l = true := by
  unfold vQ
  rw [List.take_of_length_le hl] at h
  rw [h, decide_eq_true (by omega)]; rfl
theorem part_long {l : List Sp} (h : ¬ l.length ≤ 8) : vQ l = false := by unfold vQ; rw [decide_eq_false h]; rfl
theorem pA {l : List Sp} {k : Nat} (hk : k < l.length) (h : vE l[k] = false) : vQ l = false := by
  unfold vQ
  cases h2 : l.all vE with
  | false => simp
  | true => rw [List.all_eq_true.1 h2 _ (List.getElem_mem hk)] at h; cases h
theorem part_step {l : List Sp} {k : Nat} (hk : k < l.length) (h : (l.take k).all vE = true) (h2 : vE l[k] = true) : (l.take (k + 1)).all vE = true := by
  rw [List.take_succ_eq_append_getElem hk, List.all_append, h]
  simp [h2]
def fewT (a : St) : Bool := vQ a.rel && vQ a.pre
theorem dI {a : St} (h : fewT a = true) : yL a.rel ∧ yL a.pre ∧ a.rel.length ≤ 8 ∧ a.pre.length ≤ 8 := by
  unfold fewT at h
  rw [Bool.and_eq_true] at h
  exact ⟨(dC h.1).1, (dC h.2).1, (dC h.1).2, (dC h.2).2⟩
end
section
theorem part8_any (A : Option Addr) (cap : Nat) (l : List Sp) (W : World) (hv : Reads yB W W.heap.size A l) :
    Calls Tryz.prog 19 #[.slice A l.length cap] W fun e w' => e = .returned (.bool (vQ l)) ∧ Below W.heap.size W w' := by
  refine zM (n := 56) Tryz.func19 rfl (by kernel_rfl) (by kernel_rfl) (ZO (Zv (.bool false) (ZN (z8 (ZO (Zv (.int .i64 0) (zL (z7 ?_))))))))
  refine zX (kH (fun L f m => ∃ (k : Nat) (j : Nat → Value), (k ≤ l.length ∧ k ≤ 8 ∧ (l.take k).all vE = true) ∧ L = [] ∧ f = jD j [(0, .slice A l.length cap), (3, .int .i64 (k : Int))] ∧ m = l.length - k) (l.length - 0) ⟨0, _, ⟨Nat.zero_le _, Nat.zero_le _, by rw [List.take_zero]; rfl⟩, rfl, ZU, rfl⟩ ?_)
  rintro L f m ⟨k, j, hrel, rfl, rfl, rfl⟩
  have hkl := hrel.1; have hk8 := hrel.2.1
  refine z8 (ZO (Zv (.int .i64 (k : Int)) (Zv (.slice A l.length cap) (Zv (.int .i64 (l.length : Int)) ?_))))
  by_cases h1 : (k : Int) < (l.length : Int)
  · have hk : k < l.length := by omega
    obtain ⟨b, off, hA, hlt, hcell⟩ := hv (by omega)
    obtain ⟨s, hs⟩ : ∃ s, l[k] = s := ⟨_, rfl⟩
    have z0 : ((mkS s.lo.v.pre).size : Int) = s.lo.v.pre.length := by rw [yC]
    have z1 : ((mkS s.lo.v.build).size : Int) = s.lo.v.build.length := by rw [yC]
    have z2 : ((mkS s.hi.v.pre).size : Int) = s.hi.v.pre.length := by rw [yC]
    have z3 : ((mkS s.hi.v.build).size : Int) = s.hi.v.build.length := by rw [yC]
    refine Zd (p := (k : Int) < (l.length : Int)) true (decide_eq_true (h1)) (ZY (ZB (z8 (zX (ZO (Zv (.int .i64 (k : Int)) ?_))))))
    by_cases h2 : (7 : Int) < (k : Int)
    · refine xO (p := (7 : Int) < (k : Int)) true (by kernel_rfl) (fun _ => by kernel_rfl) (decide_eq_true (h2)) ?_
      refine Zv (.bool true) (Zk (Zk (Zk (Zk (Zk (Zk (Zk (Zk (Zk (Zv (.bool true) (Zv (.bool true) ?_)))))))))))
      refine Zk (Zk (Zk (Zk (Zk (Zk (Zk (Zk (Zk (Zv (.bool true) (Zv (.bool true) (Zk ?_)))))))))))
      refine Zk (Zk (Zk (Zk (Zk (Zk (Zk (Zk (Zv (.bool true) (Zv (.bool true) (Zk (Zk ?_)))))))))))
      refine Zk (Zk (Zk (Zk (Zk (Zk (Zk (Zv (.bool true) (ZY (z8 ?_)))))))))
      exact zA (Zv (.bool false) (ZN (zB (zD (z6 (yG (zD (z6 (ZF (.bool false) Tryz.results19 (fun w hO => ⟨by rw [part_long (by omega)], hO.below⟩))))))))))
    refine Zd (p := (7 : Int) < (k : Int)) false (decide_eq_false (h2)) (Zv (.bool false) (Zv (.slice A l.length cap) (Zv (.int .i64 (k : Int)) (zK (.pointer (some ⟨b, off + k * 14, none⟩)) (by kernel_rfl) (ZA (b := b) (off := off) (c := cap) (n := l.length) (k := .i64) (j := (k : Int)) (e := 74) (sz := 14) hA) (Zv (.pointer (some ⟨b, off + k * 14 + 0, none⟩)) (Zv (.pointer (some ⟨b, off + k * 14 + 1, none⟩)) (Zv (.pointer (some ⟨b, off + k * 14 + 4, none⟩)) (Zo (.string (mkS s.lo.v.pre)) (a := ⟨b, off + k * 14 + 4, none⟩) (fun w hO => yH yD (fun j u h => (hO.below.cell (p := ⟨b, off + j, none⟩) hlt).trans (hcell j u h)) k 4 hk (by omega) _ (by rw [hs]; kernel_rfl)) (Zv (.int .i64 ((mkS s.lo.v.pre).size)) ?_)))))))))
    by_cases h3 : (60 : Int) < (mkS s.lo.v.pre).size
    · refine xO (p := (60 : Int) < (mkS s.lo.v.pre).size) true (by kernel_rfl) (fun _ => by kernel_rfl) (decide_eq_true (h3)) ?_
      refine Zv (.bool true) (Zv (.bool true) (Zk (Zk (Zk (Zk (Zk (Zk (Zk (Zk (Zk (Zv (.bool true) ?_)))))))))))
      refine Zv (.bool true) (Zk (Zk (Zk (Zk (Zk (Zk (Zk (Zk (Zk (Zv (.bool true) (Zv (.bool true) ?_)))))))))))
      refine Zk (Zk (Zk (Zk (Zk (Zk (Zk (Zk (Zk (Zv (.bool true) (zL (z7 ?_)))))))))))
      refine Zt (ZO (Zv (.bool false) (ZN (zB (zD (z6 (yG (zD (z6 ?_)))))))))
      exact ZF (.bool false) Tryz.results19 (fun w hO => ⟨by rw [pA hk (by rw [hs]; unfold vE; simp; omega)], hO.below⟩)
    refine Zd (p := (60 : Int) < (mkS s.lo.v.pre).size) false (decide_eq_false (h3)) (Zv (.bool false) (Zv (.bool false) (Zv (.slice A l.length cap) (Zv (.int .i64 (k : Int)) (zK (.pointer (some ⟨b, off + k * 14, none⟩)) (by kernel_rfl) (ZA (b := b) (off := off) (c := cap) (n := l.length) (k := .i64) (j := (k : Int)) (e := 74) (sz := 14) hA) (Zv (.pointer (some ⟨b, off + k * 14 + 0, none⟩)) (Zv (.pointer (some ⟨b, off + k * 14 + 1, none⟩)) (Zv (.pointer (some ⟨b, off + k * 14 + 5, none⟩)) (Zo (.string (mkS s.lo.v.build)) (a := ⟨b, off + k * 14 + 5, none⟩) (fun w hO => yH yD (fun j u h => (hO.below.cell (p := ⟨b, off + j, none⟩) hlt).trans (hcell j u h)) k 5 hk (by omega) _ (by rw [hs]; kernel_rfl)) (Zv (.int .i64 ((mkS s.lo.v.build).size)) ?_))))))))))
    by_cases h4 : (60 : Int) < (mkS s.lo.v.build).size
    · refine xO (p := (60 : Int) < (mkS s.lo.v.build).size) true (by kernel_rfl) (fun _ => by kernel_rfl) (decide_eq_true (h4)) ?_
      refine Zv (.bool true) (Zv (.bool true) (Zk (Zk (Zk (Zk (Zk (Zk (Zk (Zk (Zk (Zv (.bool true) ?_)))))))))))
      refine Zv (.bool true) (Zk (Zk (Zk (Zk (Zk (Zk (Zk (Zk (Zk (Zv (.bool true) (zL ?_)))))))))))
      refine z7 (Zt (ZO (Zv (.bool false) (ZN (zB (zD (z6 (yG (zD ?_)))))))))
      exact z6 (ZF (.bool false) Tryz.results19 (fun w hO => ⟨by rw [pA hk (by rw [hs]; unfold vE; simp; omega)], hO.below⟩))
    refine Zd (p := (60 : Int) < (mkS s.lo.v.build).size) false (decide_eq_false (h4)) (Zv (.bool false) (Zv (.bool false) (Zv (.slice A l.length cap) (Zv (.int .i64 (k : Int)) (zK (.pointer (some ⟨b, off + k * 14, none⟩)) (by kernel_rfl) (ZA (b := b) (off := off) (c := cap) (n := l.length) (k := .i64) (j := (k : Int)) (e := 74) (sz := 14) hA) (Zv (.pointer (some ⟨b, off + k * 14 + 7, none⟩)) (Zv (.pointer (some ⟨b, off + k * 14 + 8, none⟩)) (Zv (.pointer (some ⟨b, off + k * 14 + 11, none⟩)) (Zo (.string (mkS s.hi.v.pre)) (a := ⟨b, off + k * 14 + 11, none⟩) (fun w hO => yH yD (fun j u h => (hO.below.cell (p := ⟨b, off + j, none⟩) hlt).trans (hcell j u h)) k 11 hk (by omega) _ (by rw [hs]; kernel_rfl)) (Zv (.int .i64 ((mkS s.hi.v.pre).size)) ?_))))))))))
    by_cases h5 : (60 : Int) < (mkS s.hi.v.pre).size
    · refine xO (p := (60 : Int) < (mkS s.hi.v.pre).size) true (by kernel_rfl) (fun _ => by kernel_rfl) (decide_eq_true (h5)) ?_
      refine Zv (.bool true) (Zv (.bool true) (Zk (Zk (Zk (Zk (Zk (Zk (Zk (Zk (Zk (Zv (.bool true) ?_)))))))))))
      refine ZY (ZO (Zv (.bool false) (ZN (zB (zD (z6 (yG ?_)))))))
      exact zD (z6 (ZF (.bool false) Tryz.results19 (fun w hO => ⟨by rw [pA hk (by rw [hs]; unfold vE; simp; omega)], hO.below⟩)))
    refine Zd (p := (60 : Int) < (mkS s.hi.v.pre).size) false (decide_eq_false (h5)) (Zv (.bool false) (Zv (.bool false) (Zv (.slice A l.length cap) (Zv (.int .i64 (k : Int)) (zK (.pointer (some ⟨b, off + k * 14, none⟩)) (by kernel_rfl) (ZA (b := b) (off := off) (c := cap) (n := l.length) (k := .i64) (j := (k : Int)) (e := 74) (sz := 14) hA) (Zv (.pointer (some ⟨b, off + k * 14 + 7, none⟩)) (Zv (.pointer (some ⟨b, off + k * 14 + 8, none⟩)) (Zv (.pointer (some ⟨b, off + k * 14 + 12, none⟩)) (Zo (.string (mkS s.hi.v.build)) (a := ⟨b, off + k * 14 + 12, none⟩) (fun w hO => yH yD (fun j u h => (hO.below.cell (p := ⟨b, off + j, none⟩) hlt).trans (hcell j u h)) k 12 hk (by omega) _ (by rw [hs]; kernel_rfl)) (Zv (.int .i64 ((mkS s.hi.v.build).size)) ?_))))))))))
    by_cases h6 : (60 : Int) < (mkS s.hi.v.build).size
    · refine xO (p := (60 : Int) < (mkS s.hi.v.build).size) true (by kernel_rfl) (fun _ => by kernel_rfl) (decide_eq_true (h6)) ?_
      refine Zv (.bool true) (ZY (ZO (Zv (.bool false) (ZN (zB (zD (z6 ?_)))))))
      exact yG (zD (z6 (ZF (.bool false) Tryz.results19 (fun w hO => ⟨by rw [pA hk (by rw [hs]; unfold vE; simp; omega)], hO.below⟩))))
    refine Zd (p := (60 : Int) < (mkS s.hi.v.build).size) false (decide_eq_false (h6)) (Zv (.bool false) (ZX (yT (zR (z7 (zA (Zv (.int .i64 (k : Int)) (Zu (k := .i64) (((k + 1 : Nat) : Int)) (IntWalk.i64_in _ (by omega)) (Zv (.int .i64 ((k + 1 : Nat) : Int)) ?_)))))))))
    exact zL (zY (m' := l.length - (k + 1)) (by omega) ⟨k + 1, _, ⟨by omega, by omega, part_step hk hrel.2.2 (by rw [hs]; unfold vE; simp; omega)⟩, rfl, ZU, rfl⟩)
  refine Zd (p := (k : Int) < (l.length : Int)) false (decide_eq_false (h1)) (ZX (xQ (yA (y5 (zW (z7 (ZO (Zv (.bool true) ?_))))))))
  exact ZN (zB (ZF (.bool true) Tryz.results19 (fun w hO => ⟨by rw [part_end hk8 (by omega) hrel.2.2], hO.below⟩)))
theorem few8_any (A B : Option Addr) (c d : Nat) (a : St) (W : World) (hr : Reads yB W W.heap.size A a.rel) (hp : Reads yB W W.heap.size B a.pre) : Calls Tryz.prog 9 #[.agg #[.slice A a.rel.length c, .slice B a.pre.length d]] W fun e w' => e = .returned (.bool (fewT a)) ∧ Below W.heap.size W w' := by
  refine zM (n := 11) Tryz.func9 rfl (by kernel_rfl) (by kernel_rfl) (ZO (Zb (.agg #[.slice A a.rel.length c, .slice B a.pre.length d]) (fun b1 => Zv (.bool false) (ZR (Zv (.pointer (some ⟨b1, 0, none⟩)) (Zl 0 ⟨b1, #[.slice A a.rel.length c, .slice B a.pre.length d], 24⟩ (off := 0) (.slice A a.rel.length c) (Zc (k := 19) (args := #[.slice A a.rel.length c]) (.bool (vQ a.rel)) (fun w hO => part8_any A c a.rel w (hr.on hO.below hO.size)) ?_)))))))
  refine Zv (.bool (vQ a.rel)) ?_
  cases h1 : vQ a.rel with
  | true =>
    exact Zv (.pointer (some ⟨b1, 1, none⟩)) (Zl 0 ⟨b1, #[.slice A a.rel.length c, .slice B a.pre.length d], 24⟩ (off := 1) (.slice B a.pre.length d) (Zc (k := 19) (args := #[.slice B a.pre.length d]) (.bool (vQ a.pre)) (fun w hO => part8_any B d a.pre w (hp.on hO.below hO.size)) (Zv (.bool (vQ a.pre)) (Zv (.bool (vQ a.pre)) (ZN (zB (ZF (.bool (vQ a.pre)) Tryz.results9 (fun w hO => ⟨by unfold fewT; simp [h1], hO.below⟩))))))))
  | false =>
    exact Zk (Zk (Zk (Zv (.bool false) (Zv (.bool false) (ZN (zB (ZF (.bool false) Tryz.results9 (fun w hO => ⟨by unfold fewT; simp [h1], hO.below⟩))))))))
end
section
open Go.ChangeShapes Go.WideShapes Go.ChangeAt Go.RowKit Go.Deep
theorem list_of {α : Type} {p : Nat → α → Prop} : ∀ (n : Nat), (∀ i, i < n → ∃ x, p i x) → ∃ l : List α, l.length = n ∧ ∀ i (h : i < l.length), p i l[i]
  | 0, _ => ⟨[], rfl, fun i h => absurd h (Nat.not_lt_zero _)⟩
  | n + 1, h => by
    obtain ⟨l, hl, hp⟩ := list_of n fun i hi => h i (Nat.lt_succ_of_lt hi)
    obtain ⟨x, hx⟩ := h n (Nat.lt_succ_self n)
    refine ⟨l ++ [x], by simp [hl], fun i hi => ?_⟩
    by_cases h1 : i < l.length
    · rw [List.getElem_append_left h1]; exact hp i h1
    · have : i = n := by simp at hi; omega
      subst this
      rw [List.getElem_append_right (by omega)]
      simpa [hl] using hx
theorem cell_spot {w : World} {a : Addr} {v : Value} (h : w.cell? a = some v) : a.spot = none := by
  unfold World.cell? at h
  split at h
  · split at h
    · cases h
    · rename_i hs; simpa using hs
  · cases h
theorem addr_at {a : Addr} (h : a.spot = none) (k : Nat) : a.add k = ⟨a.block, a.off + k, none⟩ := by
  obtain ⟨b, o, s⟩ := a
  obtain rfl : s = none := h
  exact yM b o k
end
section
open Go.ChangeShapes Go.WideShapes Go.ChangeAt Go.RowKit Go.Deep
theorem size_spans : Tryz.prog.cellsOf 22 = 1 := by kernel_rfl
theorem size_set : Tryz.prog.cellsOf 24 = 2 := by kernel_rfl
theorem cells_spans {H : Type} {enc : TypeId × Value → H} {W : World} {fuel : Nat} {cs : List Value} {x : DataW H × List MemPlace} (h : DataW.trod enc Tryz.prog W 0 (fun _ => true) true fuel 22 cs = some x) : ∃ (A : Option Addr) (cap : Nat) (l : List Sp), cs = [.slice A l.length cap] ∧ Reads yB W W.heap.size A l ∧ l.length ≤ cap ∧ cap ≤ maxLen ∧ ∀ s ∈ l, s.wide := by
  rcases DataW.trod_slice Tryz.underlying22 h with ⟨hcs, _⟩ | ⟨a, len, cap, elems, rest, n, _, hcs, _, hb, hl, hm, hlen, hel, _, _⟩
  · exact ⟨none, 0, [], hcs, fun h => by simp at h, Nat.le_refl _, Nat.zero_le _, fun s hs => by simp at hs⟩
  · subst hcs
    rw [size_span] at hel
    obtain ⟨l, hll, hp⟩ := list_of (p := fun i (s : Sp) => s.wide ∧ W.cells? 0 (a.add (i * 14)) 14 = some (yB s)) len fun i hi => by
      have h1 := hel i hi
      rw [List.getElem?_eq_getElem (by omega)] at h1
      obtain ⟨cs, e1, e2⟩ := Option.bind_eq_some_iff.1 h1
      obtain ⟨s, e3, hw⟩ := cells_span e2
      exact ⟨s, hw, by rw [e1, e3]; rfl⟩
    refine ⟨some a, cap, l, by rw [hll], fun h0 => ?_, by omega, hm, fun s hs => ?_⟩
    · have c0 := (hp 0 h0).2
      have hc : ∀ i (hi : i < l.length) j u, (yB l[i])[j]? = some u → W.cell? ((a.add (i * 14)).add j) = some u := fun i hi j u hj => by
        obtain ⟨_, hn, hx⟩ := World.cells?_some (hp i hi).2
        have hj14 : j < 14 := by have := (List.getElem?_eq_some_iff.1 hj).1; rwa [yD] at this
        first | rw [hx j hj14, hj] | (have := hx j hj14; rw [this]; exact hj)
      have s0 : (yB l[0])[0]? = some (.int .i64 l[0].lo.e) := rfl
      have sp : a.spot = none := by
        have := cell_spot (hc 0 h0 0 _ s0)
        simpa [Addr.add] using this
      refine ⟨a.block, a.off, ?_, ?_, fun k u hk => ?_⟩
      · obtain ⟨b, o, s⟩ := a
        obtain rfl : s = none := sp
        rfl
      · have := World.cells?_block c0 (by decide)
        rwa [addr_at sp] at this
      · have hkl : k < l.length * 14 := by have := (List.getElem?_eq_some_iff.1 hk).1; rwa [kM yD] at this
        have hi : k / 14 < l.length := by omega
        have e : k = k / 14 * 14 + k % 14 := by omega
        have hm14 : k % 14 < 14 := Nat.mod_lt _ (by decide)
        have h2 := flat_at yD l (k / 14) hi
        have h3 : (yB l[k / 14])[k % 14]? = some u := by
          rw [← h2, List.getElem?_take, if_pos hm14, List.getElem?_drop, ← e]; exact hk
        have := hc (k / 14) hi (k % 14) u h3
        rw [addr_at sp, yM, show a.off + k / 14 * 14 + k % 14 = a.off + k from by omega] at this
        exact this
    · obtain ⟨i, hi, rfl⟩ := List.mem_iff_getElem.1 hs
      exact (hp i hi).1
theorem open_set {H : Type} {enc : TypeId × Value → H} {W : World} {base : Nat} {v : Value} {d : DataW H} {ps : List MemPlace} (hval : Value.okWide Tryz.prog W .any base 24 v)
    (h : DataW.Trod enc Tryz.prog W 0 (fun _ => true) true 24 v d ps) : ∃ (A B : Option Addr) (c c2 : Nat) (s : St), v = .agg #[.slice A s.rel.length c, .slice B s.pre.length c2] ∧ Reads yB W W.heap.size A s.rel ∧ Reads yB W W.heap.size B s.pre ∧ (s.rel.length ≤ c ∧ s.pre.length ≤ c2) := by
  obtain ⟨cs, hc, _⟩ := okWide_struct Tryz.underlying24 hval
  obtain ⟨fuel, hf⟩ := h
  obtain ⟨xs, n, _, _, hl, hxl, hg⟩ := DataW.trod_struct Tryz.underlying24 hf
  rw [size_set] at hl
  have g : ∀ i, i < 2 → ∃ y, xs[i]? = some y := fun i hi => ⟨_, List.getElem?_eq_getElem (by rw [hxl]; exact hi)⟩
  obtain ⟨y0, e0⟩ := g 0 (by omega)
  obtain ⟨y1, e1⟩ := g 1 (by omega)
  obtain ⟨A, c, l, ha, ra, ca, _, _⟩ := cells_spans ((hg 0 _ rfl).trans e0)
  obtain ⟨B, c2, m, hb, rb, cb, _, _⟩ := cells_spans ((hg 1 _ rfl).trans e1)
  have ha2 : List.take (Tryz.prog.cellsOf 22) (List.drop 0 v.cells.toList) = _ := ha
  have hb2 : List.take (Tryz.prog.cellsOf 22) (List.drop 1 v.cells.toList) = _ := hb
  rw [size_spans] at ha2 hb2
  refine ⟨A, B, c, c2, ⟨l, m⟩, ?_, ra, rb, ca, cb⟩
  have e : v.cells.toList = List.take 1 (List.drop 0 v.cells.toList) ++ List.take 1 (List.drop 1 v.cells.toList) := by
    rw [List.drop_zero, List.take_of_length_le (show (List.drop 1 v.cells.toList).length ≤ 1 by rw [List.length_drop, hl]; decide), List.take_append_drop]
  rw [ha2, hb2] at e
  exact (dM hc e).trans rfl
end
section
open Go.ChangeShapes Go.WideShapes Go.ChangeAt Go.RowKit
theorem fY {H : Type} {enc : TypeId × Value → H} {W : World} {base : Nat} {v : Value} {d : DataW H} {ps : List MemPlace} (hval : Value.okWide Tryz.prog W .any base 33 v)
    (h : DataW.Trod enc Tryz.prog W 0 (fun _ => true) true 33 v d ps) : ∃ l : List Int, ReadsI W W.heap.size v l ∧ l.length ≤ maxLen := by
  obtain ⟨A, len, cap, rfl⟩ := okWide_slice Tryz.underlying33 hval
  obtain ⟨fuel, hf⟩ := h
  rcases open_ints Tryz.underlying33 Tryz.underlying3 (by kernel_rfl) hf with ⟨hcs, _⟩ | ⟨a, len', cap', zs, hcs, _, hl, hm, hz, _, hcell, _⟩
  · simp [Value.cells] at hcs
    obtain ⟨rfl, rfl, rfl⟩ := hcs
    exact ⟨[], ⟨none, 0, rfl, fun h => by cases h⟩, by simp⟩
  · simp [Value.cells] at hcs
    obtain ⟨rfl, rfl, rfl⟩ := hcs
    simp only [if_true] at hz
    have hlen : (zs.take len).length = len := by rw [List.length_take]; omega
    refine ⟨zs.take len, ⟨some a, cap, by rw [hlen], fun h0 => ⟨a, rfl, ?_, fun j hj => ?_⟩⟩, by rw [hlen]; omega⟩
    · have := cell_lt (hcell 0 (by omega))
      rwa [add_block] at this
    · have hj2 : j < zs.length := by omega
      rw [hcell j hj2, List.getElem_take]
      simp only [List.getD, List.getElem?_eq_getElem hj2, Option.getD_some]
end
section
def BytesAt (w : World) (e : TypeId) (g : Nat) (l : List UInt8) : Prop :=
  ∃ row, w.heap[g]? = some (.cells row e (row.size, row.size + 1)) ∧ l.length ≤ row.size ∧ ∀ j (h : j < l.length), row[j]? = some (.int .u8 (l[j].toNat : Int))
theorem BytesAt.on {w w' : World} {e : TypeId} {g : Nat} {l : List UInt8} (h : BytesAt w e g l) (hk : w'.heap[g]? = w.heap[g]?) : BytesAt w' e g l := by
  obtain ⟨row, h1, h2, h3⟩ := h
  exact ⟨row, hk.trans h1, h2, h3⟩
theorem BytesAt.lt {w : World} {e : TypeId} {g : Nat} {l : List UInt8} (h : BytesAt w e g l) : g < w.heap.size := by
  obtain ⟨row, h1, _⟩ := h
  exact (Array.getElem?_eq_some_iff.1 h1).1
theorem BytesAt.cell {w : World} {e : TypeId} {g : Nat} {l : List UInt8} (h : BytesAt w e g l) {j : Nat} (hj : j < l.length) : w.cell? ⟨g, j, none⟩ = some (.int .u8 (l[j].toNat : Int)) := by
  obtain ⟨row, h1, _, h3⟩ := h
  rw [Lib.cell_of_heap h1]; exact h3 j hj
theorem BytesAt.below {W w : World} {L : List Blk} {e : TypeId} {g : Nat} {l : List UInt8} (h : BytesAt W e g l) (hO : Own [] W w L) : BytesAt w e g l := h.on (hO.kept g h.lt (by simp))
theorem BytesAt.made (w : World) (e : TypeId) (s : List UInt8) : BytesAt (Lib.bytesWorld w e (mkS s)) e w.heap.size s ∧ Below w.heap.size w (Lib.bytesWorld w e (mkS s)) ∧ w.heap.size < (Lib.bytesWorld w e (mkS s)).heap.size := by
  have hsz := Lib.bytesWorld_size w e (mkS s)
  refine ⟨⟨Lib.bytesCells w e (mkS s), Lib.bytesWorld_at_new w e (mkS s), ?_, fun j hj => ?_⟩, ⟨?_, ?_, ?_, by omega, ?_, fun k hk => Lib.bytesWorld_at_old w e (mkS s) k hk⟩, by omega⟩
  · unfold Lib.bytesCells mkS; simp
  · unfold Lib.bytesCells mkS
    rw [Array.getElem?_append_left (by simpa using hj)]
    simp [hj]
  all_goals
    unfold Lib.bytesWorld World.freeze
    split <;> first | rfl | exact Nat.le_succ _
theorem run_xor8 {P : Program} {ρ : Operand → Value} {o : Oper} {b z : UInt8} {v : Value} (hr : ∀ w, (execOp ρ o).run P w = .ok (.value v) w) (hv : v = .int .u8 (_root_.Go.bits .xor .u8 (b.toNat : Int) (z.toNat : Int))) (w : World) : (execOp ρ o).run P w = .ok (.value (.int .u8 ((b ^^^ z).toNat : Int))) w := by
  rw [hr w, hv, u8_xor_nat b.toNat z.toNat b.toNat_lt z.toNat_lt, UInt8.toNat_xor]
section
variable {M : List Nat} {P : Program} {n0 : Nat} {ops : Array Oper} {W : World} {Q : Exit → Act → World → Prop} {rest : List Oper} {o : Oper} {L : List Blk} {f : Nat → Value}
theorem s_bytes {src dst e : TypeId} {x : Operand} {s : List UInt8} (hw : xD ops n0 f o = true) (ho : o.op = .convert src dst x) (hs : P.underlying src = some .string) (hd : P.underlying dst = some (.slice e)) (he : P.underlying e = some (.int .u8)) (hx : ev n0 f x = .string (mkS s))
    (h : ∀ (w0 w1 : World) (cap : Nat), Own M W w0 L → BytesAt w1 e w0.heap.size s → Below w0.heap.size w0 w1 → w0.heap.size < w1.heap.size → s.length ≤ cap → Seg [] P n0 ops w1 Q rest [] (upd f o.dst (.slice (some ⟨w0.heap.size, 0, none⟩) s.length cap))) : Seg M P n0 ops W Q (o :: rest) L f :=
  qO hw fun w hO => by
    obtain ⟨h1, h2, h3⟩ := BytesAt.made w e s
    have hr := Lib.run_convert_string_bytes (P := P) w src dst e (mkS s) hs hd he
    rw [yC] at hr
    refine qN _ (w' := Lib.bytesWorld w e (mkS s)) ?_ ((h w _ (grownCap w s.length 0 e) hO h1 h2 h3 (grownCap_ge w s.length 0 e)).go _ (Own.start [] _))
    unfold execOp
    simp only [ho, hx, Sem.run_bind, Sem.run_pure, Result.andThen_ok, hr]
theorem s_poke {T e : TypeId} {t : TypeInfo} {p q : Operand} {g k : Nat} {l : List UInt8} {b : UInt8} (hw : xD ops n0 f o = true) (ho : o.op = .store T p q) (hd : o.dst = none) (hp : ev n0 f p = .pointer (some ⟨g, k, none⟩)) (hq : ev n0 f q = .int .u8 (b.toNat : Int)) (hi : P.info? T = some t) (hs : t.size = 1) (hB : BytesAt W e g l) (hk : k < l.length)
    (h : ∀ w2, BytesAt w2 e g (l.set k b) → Below g W w2 → W.heap.size ≤ w2.heap.size → Seg [] P n0 ops w2 Q rest [] f) : Seg [] P n0 ops W Q (o :: rest) [] f :=
  qO hw fun w hO => by
    have hBw := hB.below hO
    have hc := hBw.cell hk
    obtain ⟨row, h1, h2, h3⟩ := hBw
    have hf : w.frozen? ⟨g, k, none⟩ = false := by
      have : k < row.size := by omega
      simp [World.frozen?, h1]; omega
    have hst := run_storeCells_cells (P := P) g k [.int .u8 (b.toNat : Int)] 0 w (fun j hj => by obtain rfl : j = 0 := (by simpa using hj); show (w.cell? ⟨g, k, none⟩).isSome = true; rw [hc]; rfl) (fun j hj => by obtain rfl : j = 0 := (by simpa using hj); exact hf) (fun v hv => by rw [List.mem_singleton.1 hv]; rfl)
    have hsc : w.setCells g (k + 0) [.int .u8 (b.toNat : Int)] = w.setCell ⟨g, k, none⟩ (.int .u8 (b.toNat : Int)) := rfl
    rw [hsc] at hst
    unfold Oper.wp
    rw [vP]
    have hr : (execOp (ev n0 f) o).run P w = .ok .skip (w.setCell ⟨g, k, none⟩ (.int .u8 (b.toNat : Int))) := by
      unfold execOp
      have hcs : (Value.int .u8 (b.toNat : Int)).cells.size = t.size := by rw [hs]; rfl
      simp only [ho, hp, hq, Instr.storeAt, Instr.sureAddr, Sem.run_bind, Sem.run_pure, Result.andThen_ok, storeVar, sizeOf, typeInfo, hi, hcs, run_program]
      simp only [ne_eq, not_true_eq_false, if_false]
      have e1 : (Value.int .u8 (b.toNat : Int)).cells.toList = [.int .u8 (b.toNat : Int)] := rfl
      rw [e1]
      simp [hst]
    rw [hr]
    show wpList P ops Q rest ((Fr n0 f).put o.dst undef) _
    rw [wH, hd]
    have hbb : Below g W (w.setCell ⟨g, k, none⟩ (.int .u8 (b.toNat : Int))) := (hO.below.mono (Nat.le_of_lt hB.lt)).setCell (p := ⟨g, k, none⟩) (Nat.le_refl _) _
    refine (h _ ⟨row.set k (.int .u8 (b.toNat : Int)) (by omega), ?_, ?_, fun j hj => ?_⟩ hbb hbb.size).go _ (Own.start [] _)
    · have e2 : row.setIfInBounds k (.int .u8 (b.toNat : Int)) = row.set k (.int .u8 (b.toNat : Int)) (by omega) := by
        unfold Array.setIfInBounds; rw [dif_pos (by omega)]
      rw [← e2]
      simp [World.setCell, Array.getElem?_modify, h1]
    · rw [List.length_set, Array.size_set]; exact h2
    · rw [List.length_set] at hj
      rw [Array.getElem?_set, List.getElem_set]
      by_cases hjk : k = j
      · subst hjk; simp
      · rw [if_neg hjk, if_neg hjk]; exact h3 j hj
theorem run_back {src dst e : TypeId} {ρ : Operand → Value} {x : Operand} {g cap : Nat} {l : List UInt8} {w : World} (ho : o.op = .convert src dst x) (hs : P.underlying src = some (.slice e)) (he : P.underlying e = some (.int .u8)) (hd : P.underlying dst = some .string) (hx : ρ x = .slice (some ⟨g, 0, none⟩) l.length cap) (hB : BytesAt w e g l) : (execOp ρ o).run P w = .ok (.value (.string (mkS l))) w := by
  have hr := run_convert_bytes_back (P := P) w src dst e ⟨g, 0, none⟩ cap l hs he hd (fun j hj => by
    rw [yM, Nat.zero_add]; exact hB.cell hj)
  unfold execOp
  simp only [ho, hx, Sem.run_bind, Sem.run_pure, Result.andThen_ok, hr]
  rfl
theorem held_load {ty : TypeId} {w0 w : World} {x : Blk} {off : Nat} {v : Value} (hr : kA P ty x.cs off = some v) (hh : w0.heap[x.b]? = some (.cells x.cs x.ty)) (hb : Below w0.heap.size w0 w) : (loadVar ty ⟨x.b, off, none⟩).run P w = .ok v w :=
  qB hr ((hb.block x.b (Array.getElem?_eq_some_iff.1 hh).1).trans hh)
theorem byte_load {ty e : TypeId} {w : World} {g k : Nat} {l : List UInt8} (hB : BytesAt w e g l) (hk : k < l.length) (hr : kA P ty #[.int .u8 (l[k].toNat : Int)] 0 = some (.int .u8 (l[k].toNat : Int))) : (loadVar ty ⟨g, k, none⟩).run P w = .ok (.int .u8 (l[k].toNat : Int)) w :=
  old_load [.int .u8 (l[k].toNat : Int)] _ (fun j u hj => by
    cases j with
    | zero => rw [Nat.add_zero, hB.cell hk]; simpa using hj
    | succ j => simp at hj) hr
end
end
end Go.Proofs.YtiekhkapgjdblaaGreatDoor
