/-
  What the statement's proof leans on: the ways of walking, plain mathematics, and what the program's functions return; each theorem says on what conditions.
-/
import Derived.Below
import Derived.ChangeSame
import Derived.ProofKit
import Derived.OpenShut
import Derived.LaidSub
import Derived.Carry
import Derived.SliceStrings
import Derived.Lib.LaidTab
import Derived.Deep.DeepHandedRow
import Derived.Shelf.Strings.SplitCore
import Derived.Test.YtiekhkapgjdblaaGreatDoorTS4
set_option maxRecDepth 1000000
set_option maxHeartbeats 8000000
set_option linter.unusedVariables false
set_option linter.unusedSimpArgs false
namespace Go.Proofs.YtiekhkapgjdblaaGreatDoor
open Go.RowKit

section
theorem tL {M : List Nat} {W w : World} {x : Blk} {A L : List Blk} (h : Own M W w (A ++ (x :: L))) : Own M W w (x :: A) :=
  (h.sublist ((List.Sublist.refl A).append (List.Sublist.cons_cons x (List.nil_sublist L)))).perm (List.perm_append_comm (l₁ := A) (l₂ := [x]))
theorem own_tl {M : List Nat} {W w : World} {x : Blk} {A : List Blk} (h : Own M W w (x :: A)) : Own M W w A := h.sublist (List.sublist_cons_self x A)
theorem SetO.reads {A B : Option Addr} {c d n m : Nat} {a : St} {ob L : List Blk} {M : List Nat} {W w : World} (h : SetO (.agg #[.slice A a.rel.length c, .slice B a.pre.length d]) a ob) (hO : Own M W w L) (hob : ∀ x ∈ ob, x ∈ L) : Reads yR w w.heap.size A a.rel ∧ Reads yR w w.heap.size B a.pre := by
  obtain ⟨v1, v2, o1, o2, e, rfl, h1, h2⟩ := h
  obtain ⟨rfl, rfl⟩ := agg_two e
  exact ⟨Sl.reads h1 rfl hO (fun x hx => hob x (by simp [hx])), Sl.reads h2 rfl hO (fun x hx => hob x (by simp [hx]))⟩
theorem notT_none : notT yY = allT := St.eq not_nil not_nil
theorem sOr_any (A B A' B' : Option Addr) (c d c' d' : Nat) (a b : St) (W : World) (hs : SetIn W W.heap.size A B a) (ht : SetIn W W.heap.size A' B' b) (ca : a.rel.length ≤ c ∧ a.pre.length ≤ d) (cb : b.rel.length ≤ c' ∧ b.pre.length ≤ d') : Calls Tryz.prog 110 #[.agg #[.slice A a.rel.length c, .slice B a.pre.length d], .agg #[.slice A' b.rel.length c', .slice B' b.pre.length d']] W fun e w' => ∃ v' ob', e = .returned v' ∧ SetO v' (if a.may && b.may then orT a b else yY) ob' ∧ Own [] W w' ob' := by
  refine zR (n := 8) Tryz.func110 rfl (by kernel_rfl) (by kernel_rfl) (ZO (Zb (.agg #[.slice A a.rel.length c, .slice B a.pre.length d]) (fun b1 => Zb (.agg #[.slice A' b.rel.length c', .slice B' b.pre.length d']) (fun b2 => Za (.agg #[.slice none 0 0, .slice none 0 0]) (fun b3 => ZR (Zl 2 ⟨b1, #[.slice A a.rel.length c, .slice B a.pre.length d], 24⟩ (off := 0) (.agg #[.slice A a.rel.length c, .slice B a.pre.length d]) (Zl 1 ⟨b2, #[.slice A' b.rel.length c', .slice B' b.pre.length d'], 24⟩ (off := 0) (.agg #[.slice A' b.rel.length c', .slice B' b.pre.length d']) ?_)))))))
  refine zV (k := 158) (args := #[.agg #[.slice A a.rel.length c, .slice B a.pre.length d], .agg #[.slice A' b.rel.length c', .slice B' b.pre.length d'], .func (.func 107) #[] #[]]) (fun v' L' => ∃ ob', L' = ob' ++ ([⟨b3, #[.slice none 0 0, .slice none 0 0], 24⟩, ⟨b2, #[.slice A' b.rel.length c', .slice B' b.pre.length d'], 24⟩, ⟨b1, #[.slice A a.rel.length c, .slice B a.pre.length d], 24⟩]) ∧ SetO v' (if a.may && b.may then orT a b else yY) ob') (by kernel_rfl) (fun _ => by kernel_rfl) (fun w hO => (combOr_any A B A' B' c d c' d' a b w (hs.on hO.below hO.size) (ht.on hO.below hO.size) ca cb).mono fun e w' ⟨v', ob', k1, k2, k3⟩ => ⟨v', _, k1, ⟨ob', rfl, k2⟩, Own.joinN hO k3⟩) (fun v1 L1 hv1 => ?_)
  obtain ⟨o1, rfl, hr1⟩ := hv1
  obtain ⟨V1, U1, c1, d1, rfl⟩ := hr1.form
  exact yQ (L' := ⟨b3, #[.slice none 0 0, .slice none 0 0], 24⟩ :: o1) (fun w hO => tL hO) (Zs 0 ⟨b3, #[.slice none 0 0, .slice none 0 0], 24⟩ (off := 0) (.agg #[.slice V1 (((if a.may && b.may then orT a b else yY)).rel.length) c1, .slice U1 (((if a.may && b.may then orT a b else yY)).pre.length) d1]) (ZN (zF (ZC 0 ⟨b3, #[.slice V1 (((if a.may && b.may then orT a b else yY)).rel.length) c1, .slice U1 (((if a.may && b.may then orT a b else yY)).pre.length) d1], 24⟩ (off := 0) (.agg #[.slice V1 (((if a.may && b.may then orT a b else yY)).rel.length) c1, .slice U1 (((if a.may && b.may then orT a b else yY)).pre.length) d1]) Tryz.results110 (fun w hO => ⟨_, o1, rfl, hr1, own_tl hO⟩)))))
theorem sNot_any (A B : Option Addr) (c d : Nat) (a : St) (W : World) (hs : SetIn W W.heap.size A B a) (ca : a.rel.length ≤ c ∧ a.pre.length ≤ d) : Calls Tryz.prog 149 #[.agg #[.slice A a.rel.length c, .slice B a.pre.length d]] W fun e w' => ∃ v' ob', e = .returned v' ∧ SetO v' (if a.may then notT a else yY) ob' ∧ Own [] W w' ob' := by
  refine zR (n := 6) Tryz.func149 rfl (by kernel_rfl) (by kernel_rfl) (ZO (Zb (.agg #[.slice A a.rel.length c, .slice B a.pre.length d]) (fun b1 => Za (.agg #[.slice none 0 0, .slice none 0 0]) (fun b2 => ZR (Zl 1 ⟨b1, #[.slice A a.rel.length c, .slice B a.pre.length d], 24⟩ (off := 0) (.agg #[.slice A a.rel.length c, .slice B a.pre.length d]) (Zl 1 ⟨b1, #[.slice A a.rel.length c, .slice B a.pre.length d], 24⟩ (off := 0) (.agg #[.slice A a.rel.length c, .slice B a.pre.length d]) (zV (k := 158) (args := #[.agg #[.slice A a.rel.length c, .slice B a.pre.length d], .agg #[.slice A a.rel.length c, .slice B a.pre.length d], .func (.func 183) #[] #[]]) (fun v' L' => ∃ ob', L' = ob' ++ ([⟨b2, #[.slice none 0 0, .slice none 0 0], 24⟩, ⟨b1, #[.slice A a.rel.length c, .slice B a.pre.length d], 24⟩]) ∧ SetO v' (if a.may then notT a else yY) ob') (by kernel_rfl) (fun _ => by kernel_rfl) (fun w hO => (combNot_any A B A B c d c d a a w (hs.on hO.below hO.size) (hs.on hO.below hO.size) ca ca).mono fun e w' ⟨v', ob', k1, k2, k3⟩ => ⟨v', _, k1, ⟨ob', rfl, by rw [Bool.and_self] at k2; exact k2⟩, Own.joinN hO k3⟩) (fun v1 L1 hv1 => ?_))))))))
  obtain ⟨o1, rfl, hr1⟩ := hv1
  obtain ⟨V1, U1, c1, d1, rfl⟩ := hr1.form
  exact yQ (L' := ⟨b2, #[.slice none 0 0, .slice none 0 0], 24⟩ :: o1) (fun w hO => tL hO) (Zs 0 ⟨b2, #[.slice none 0 0, .slice none 0 0], 24⟩ (off := 0) (.agg #[.slice V1 (((if a.may then notT a else yY)).rel.length) c1, .slice U1 (((if a.may then notT a else yY)).pre.length) d1]) (ZN (zF (ZC 0 ⟨b2, #[.slice V1 (((if a.may then notT a else yY)).rel.length) c1, .slice U1 (((if a.may then notT a else yY)).pre.length) d1], 24⟩ (off := 0) (.agg #[.slice V1 (((if a.may then notT a else yY)).rel.length) c1, .slice U1 (((if a.may then notT a else yY)).pre.length) d1]) Tryz.results149 (fun w hO => ⟨_, o1, rfl, hr1, own_tl hO⟩)))))
theorem sAll_any (W : World) : Calls Tryz.prog 104 #[] W fun e w' => ∃ v' ob', e = .returned v' ∧ SetO v' (allT) ob' ∧ Own [] W w' ob' := by
  refine zR (n := 3) Tryz.func104 rfl (by kernel_rfl) (by kernel_rfl) (ZO (Za (.agg #[.slice none 0 0, .slice none 0 0]) (fun b1 => ZR (Zc (k := 29) (args := #[]) (.agg #[.slice none 0 0, .slice none 0 0]) (fun w _ => gC w) (zV (k := 149) (args := #[.agg #[.slice none 0 0, .slice none 0 0]]) (fun v' L' => ∃ ob', L' = ob' ++ ([⟨b1, #[.slice none 0 0, .slice none 0 0], 24⟩]) ∧ SetO v' (allT) ob') (by kernel_rfl) (fun _ => by kernel_rfl) (fun w hO => (sNot_any none none 0 0 yY w (none_in _ _) ⟨Nat.le_refl 0, Nat.le_refl 0⟩).mono fun e w' ⟨v', ob', k1, k2, k3⟩ => ⟨v', _, k1, ⟨ob', rfl, by rw [if_pos none_sf.may, notT_none] at k2; exact k2⟩, Own.joinN hO k3⟩) (fun v1 L1 hv1 => ?_))))))
  obtain ⟨o1, rfl, hr1⟩ := hv1
  obtain ⟨V1, U1, c1, d1, rfl⟩ := hr1.form
  exact yQ (L' := ⟨b1, #[.slice none 0 0, .slice none 0 0], 24⟩ :: o1) (fun w hO => tL hO) (Zs 0 ⟨b1, #[.slice none 0 0, .slice none 0 0], 24⟩ (off := 0) (.agg #[.slice V1 ((allT).rel.length) c1, .slice U1 ((allT).pre.length) d1]) (ZN (zF (ZC 0 ⟨b1, #[.slice V1 ((allT).rel.length) c1, .slice U1 ((allT).pre.length) d1], 24⟩ (off := 0) (.agg #[.slice V1 ((allT).rel.length) c1, .slice U1 ((allT).pre.length) d1]) Tryz.results104 (fun w hO => ⟨_, o1, rfl, hr1, own_tl hO⟩)))))
end
section
theorem bV {l : List (List UInt8)} {i : Nat} (hi : i < l.length) {y : List UInt8} (hy : l[i] = y) {x x' : Sp} (hx : x = (l.take i).foldl kE spW0) (h : kE x y = x') : x' = (l.take (i + 1)).foldl kE spW0 := by
  rw [List.take_succ_eq_append_getElem hi, List.foldl_append, ← hx, hy]; exact h.symm
theorem tail_le (c : UInt8) (l : List UInt8) : l.length ≤ (kI c l).length := by
  unfold kI
  split
  · rename_i h; rw [List.isEmpty_iff.1 h]; exact Nat.zero_le _
  · rw [List.length_cons]; omega
theorem parse_short {s : List UInt8} (hs : s.length ≤ 1000000) : ((g5 s).getD Ver.zero).short := by
  cases h : g5 s with
  | none => exact ⟨Nat.zero_le _, Nat.zero_le _⟩
  | some v =>
    have e := congrArg List.length (parseR_back h).2
    unfold Ver.text at e
    rw [List.length_append, List.length_append] at e
    have h1 := tail_le 45 v.pre
    have h2 := tail_le 43 v.build
    show v.pre.length ≤ 1000000 ∧ v.build.length ≤ 1000000
    exact ⟨by omega, by omega⟩
theorem rdPart_short {x : Sp} (h : x.short) {p : List UInt8} (hp0 : p.length ≤ 1000000) : (kE x p).short := by
  have hp : ∀ a, (Cu.mk 0 ((g5 (vH p)).getD Ver.zero) a).short := fun a => parse_short (Nat.le_trans (num_len p) hp0)
  unfold kE
  repeat' split
  all_goals first | exact h | exact ⟨hp _, h.2⟩ | exact ⟨h.1, hp _⟩
theorem rdSpan_short {s : List UInt8} (hs : s.length ≤ 1000000) : (wU s).short := by
  unfold wU
  have key : ∀ (l : List (List UInt8)) (x : Sp), (∀ p ∈ l, p.length ≤ 1000000) → x.short → (l.foldl kE x).short := by
    intro l
    induction l with
    | nil => intro x _ h; exact h
    | cons p l ih => intro x hl h; exact ih _ (fun q hq => hl q (List.mem_cons_of_mem _ hq)) (rdPart_short h (hl p (List.mem_cons_self ..)))
  refine key _ _ (fun p hp => ?_) ⟨⟨Nat.zero_le _, Nat.zero_le _⟩, ⟨Nat.zero_le _, Nat.zero_le _⟩⟩
  have := splitL_le 32 s [] p hp
  simp at this; omega
theorem rdRow_fine {s : List UInt8} (hs : s.length ≤ 1000000) : yU (x4 s) ∧ (x4 s).length ≤ s.length + 1 := by
  unfold x4
  split
  · exact ⟨fun x hx => by simp at hx, Nat.zero_le _⟩
  · refine ⟨fun x hx => ?_, by rw [List.length_map]; exact ors_len s⟩
    obtain ⟨y, hy, rfl⟩ := List.mem_map.1 hx
    exact rdSpan_short (Nat.le_trans (ors_le s y hy) hs)
def f0 (s : List UInt8) : Int := if (gZ s).isSome then 0 else 2
theorem dD {s : List UInt8} {x : St} (hx : dW s = x) (h : yN x = s) : gZ s = some x := by rw [← land_eq, hx, if_pos h]
theorem wP {s : List UInt8} {x : St} (hx : dW s = x) (h : ¬ yN x = s) : gZ s = none := by rw [← land_eq, hx, if_neg h]
theorem own_ab {M : List Nat} {W w : World} {x y : Blk} {A B : List Blk} (h : Own M W w (A ++ (x :: y :: B))) : Own M W w (x :: y :: (A ++ B)) :=
  h.perm (List.perm_append_comm.trans ((List.Perm.cons x (List.Perm.cons y List.perm_append_comm))))
theorem tReadSpan_any (s : List UInt8) (W : World) (hs : s.length ≤ 1000000) (ht : HasLib W) : Calls Tryz.prog 48 #[.string (mkS s)] W fun e w' => e = .returned (zM (wU s)) ∧ Below W.heap.size W w' := by
  refine zR (n := 51) Tryz.func48 rfl (by kernel_rfl) (by kernel_rfl) (ZO (Za (.agg #[.int .i64 0, .int .i64 0, .int .i64 0, .int .i64 0, .string ⟨#[]⟩, .string ⟨#[]⟩, .bool false, .int .i64 0, .int .i64 0, .int .i64 0, .int .i64 0, .string ⟨#[]⟩, .string ⟨#[]⟩, .bool false]) (fun b1 => ZR (Zv (.agg #[.int .i64 (-1), .int .i64 0, .int .i64 0, .int .i64 0, .string ⟨#[]⟩, .string ⟨#[]⟩, .bool false]) (Zv (.agg #[.int .i64 1, .int .i64 0, .int .i64 0, .int .i64 0, .string ⟨#[]⟩, .string ⟨#[]⟩, .bool false]) (Zv (.agg #[.int .i64 (-1), .int .i64 0, .int .i64 0, .int .i64 0, .string ⟨#[]⟩, .string ⟨#[]⟩, .bool false, .int .i64 1, .int .i64 0, .int .i64 0, .int .i64 0, .string ⟨#[]⟩, .string ⟨#[]⟩, .bool false]) (Za (.agg #[.int .i64 0, .int .i64 0, .int .i64 0, .int .i64 0, .string ⟨#[]⟩, .string ⟨#[]⟩, .bool false, .int .i64 0, .int .i64 0, .int .i64 0, .int .i64 0, .string ⟨#[]⟩, .string ⟨#[]⟩, .bool false]) (fun b2 => ?_))))))))
  refine Zs 0 ⟨b2, #[.int .i64 0, .int .i64 0, .int .i64 0, .int .i64 0, .string ⟨#[]⟩, .string ⟨#[]⟩, .bool false, .int .i64 0, .int .i64 0, .int .i64 0, .int .i64 0, .string ⟨#[]⟩, .string ⟨#[]⟩, .bool false], 74⟩ (off := 0) (.agg #[.int .i64 (-1), .int .i64 0, .int .i64 0, .int .i64 0, .string ⟨#[]⟩, .string ⟨#[]⟩, .bool false, .int .i64 1, .int .i64 0, .int .i64 0, .int .i64 0, .string ⟨#[]⟩, .string ⟨#[]⟩, .bool false]) (ZN (z6 (ZO (Zv (.string (mkS s)) (zV (k := 47) (args := #[.string (mkS s), .string ⟨#[32]⟩]) (fun v' L' => ∃ ob', L' = ob' ++ ([⟨b2, #[.int .i64 (-1), .int .i64 0, .int .i64 0, .int .i64 0, .string ⟨#[]⟩, .string ⟨#[]⟩, .bool false, .int .i64 1, .int .i64 0, .int .i64 0, .int .i64 0, .string ⟨#[]⟩, .string ⟨#[]⟩, .bool false], 74⟩, ⟨b1, #[.int .i64 0, .int .i64 0, .int .i64 0, .int .i64 0, .string ⟨#[]⟩, .string ⟨#[]⟩, .bool false, .int .i64 0, .int .i64 0, .int .i64 0, .int .i64 0, .string ⟨#[]⟩, .string ⟨#[]⟩, .bool false], 74⟩]) ∧ SlT v' (yD 32 [] s) ob') (by kernel_rfl) (fun _ => by kernel_rfl) (fun w hO => (split_sp s w (by omega) (ht.on hO.below)).mono fun e w' ⟨v', ob', k1, k2, k3⟩ => ⟨v', _, k1, ⟨ob', rfl, k2⟩, Own.joinN hO k3⟩) (fun lv L2 hv2 => ?_))))))
  obtain ⟨ol, rfl, hol⟩ := hv2
  obtain ⟨l, hll⟩ : ∃ l, l = yD 32 [] s := ⟨_, rfl⟩
  rw [← hll] at hol
  have hln : l.length ≤ s.length + 1 := by rw [hll]; exact splitL_many 32 s []
  have hlm : ∀ x ∈ l, x.length ≤ s.length := fun x hx => by have := splitL_le 32 s [] x (hll ▸ hx); simpa using this
  obtain ⟨g, cur, lcap, rfl, rfl, hcur⟩ := SlT.blk hol (by rw [hll]; exact fZ 32 s [])
  refine Zv (.int .i64 (l.length : Int)) (Zv (.int .i64 0) (ZN (zL ?_)))
  obtain ⟨x0, hx0⟩ : ∃ x, x = spW0 := ⟨_, rfl⟩
  refine xA (fun L f m => ∃ (i : Nat) (x : Sp) (j : Nat → Value), (i ≤ l.length ∧ x = (l.take i).foldl kE spW0) ∧ L = [⟨g, cur, 9⟩, ⟨b2, (zM x).cells, 74⟩, ⟨b1, #[.int .i64 0, .int .i64 0, .int .i64 0, .int .i64 0, .string ⟨#[]⟩, .string ⟨#[]⟩, .bool false, .int .i64 0, .int .i64 0, .int .i64 0, .int .i64 0, .string ⟨#[]⟩, .string ⟨#[]⟩, .bool false], 74⟩] ∧ f = g9 j [(2, .pointer (some ⟨b1, 0, none⟩)), (3, .pointer (some ⟨b2, 0, none⟩)), (13, .slice (some ⟨g, 0, none⟩) l.length lcap), (14, .int .i64 (l.length : Int)), (15, .int .i64 (i : Int))] ∧ m = l.length - i) (l.length - 0) ⟨0, spW0, _, ⟨Nat.zero_le _, rfl⟩, rfl, ZU, rfl⟩ ?_
  rintro L f m ⟨i, x, j, hrel, rfl, rfl, rfl⟩
  have hil := hrel.1
  refine z6 (z7 ?_)
  by_cases h1 : (i : Int) < (l.length : Int)
  · have hi : i < l.length := by omega
    obtain ⟨y, hy⟩ : ∃ y, l[i] = y := ⟨_, rfl⟩
    have hyl : y.length ≤ s.length := hlm y (hy ▸ List.getElem_mem hi)
    have hnl := num_len y
    obtain ⟨v, hv⟩ : ∃ v, v = (g5 (vH y)).getD Ver.zero := ⟨_, rfl⟩
    refine Zd (p := (i : Int) < (l.length : Int)) true (decide_eq_true (h1)) (ZN (z6 (Zt (ZB (z6 (zL (ZO (zW (.pointer (some ⟨g, i * 1, none⟩)) (by kernel_rfl) (ZV (b := g) (off := 0) (n := l.length) (c := lcap) (k := .i64) (j := (i : Int)) (e := 9) (sz := 1)) ?_))))))))
    refine qS 0 ⟨g, cur, 9⟩ (off := i * 1) (.string (mkS y)) (by kernel_rfl) rfl (by kernel_rfl) (by kernel_rfl) (kX j9 hcur i 0 (by omega) (by omega) _ (by rw [hy]; kernel_rfl)) (Zv (.string (mkS y)) (ZR (Zv (.string (mkS y)) (Zc (k := 76) (args := #[.string (mkS y), .string ⟨#[60, 61, 62]⟩]) (.string (mkS (vH y))) (fun w _ => trim_signs y w) (Zv (.string (mkS (vH y))) (ZN (z6 ?_)))))))
    refine z7 (Zv (.string (mkS (vH y))) (Zc (k := 77) (args := #[.string (mkS (vH y))]) (.tuple #[yK v, .int .i64 (parE (vH y))]) (fun w hO => by rw [hv]; exact parse_any (vH y) w (by omega) (ht.tab.on hO.below)) (Zv (.tuple #[yK v, .int .i64 (parE (vH y))]) (Zv (yK v) (Zv (.int .i64 (parE (vH y))) (Za (.agg #[.int .i64 0, .int .i64 0, .int .i64 0, .string ⟨#[]⟩, .string ⟨#[]⟩]) (fun b3 => Zs 0 ⟨b3, #[.int .i64 0, .int .i64 0, .int .i64 0, .string ⟨#[]⟩, .string ⟨#[]⟩], 70⟩ (off := 0) (yK v) (Zv (.int .i64 (parE (vH y))) (ZN (z6 ?_))))))))))
    refine z7 (Zv (.string (mkS y)) (Zv (.string (mkS (vH y))) (Zc (k := 78) (args := #[.string (mkS y), .string (mkS (vH y))]) (.string (mkS (vU y))) (fun w _ => trim_number y w (by omega)) (ZN (zL (z6 (z7 ?_)))))))
    by_cases h2 : ((vU y) : List UInt8) = [62, 61]
    · refine zW (.bool true) (by kernel_rfl) (yE (a := (vU y)) (b := ([62, 61])) rfl (by kernel_rfl) (by kernel_rfl) (decide_eq_true (h2))) ?_
      refine Zv (.bool true) (ZY (z7 (Zl 0 ⟨b3, (yK v).cells, 70⟩ (off := 0) (yK v) (Zv (.agg #[.int .i64 0, .int .i64 v.maj, .int .i64 v.min, .int .i64 v.pat, .string (mkS v.pre), .string (mkS v.build), .bool false]) (Zv (.pointer (some ⟨b2, 0, none⟩)) (Zs 2 ⟨b2, (zM x).cells, 74⟩ (off := 0) (.agg #[.int .i64 0, .int .i64 v.maj, .int .i64 v.min, .int .i64 v.pat, .string (mkS v.pre), .string (mkS v.build), .bool false]) (zT (zP (zP ?_)))))))))
      refine zB (z7 (Zu (k := .i64) (((i + 1 : Nat) : Int)) (IntWalk.i64_in _ (by omega)) (Zv (.int .i64 ((i + 1 : Nat) : Int)) (zT ?_))))
      have hrd : kE x y = ⟨⟨0, v, false⟩, x.hi⟩ := by unfold kE; rw [if_pos h2, hv]
      exact yZ (L' := [⟨g, cur, 9⟩, ⟨b2, #[.int .i64 0, .int .i64 v.maj, .int .i64 v.min, .int .i64 v.pat, .string (mkS v.pre), .string (mkS v.build), .bool false, .int .i64 x.hi.e, .int .i64 x.hi.v.maj, .int .i64 x.hi.v.min, .int .i64 x.hi.v.pat, .string (mkS x.hi.v.pre), .string (mkS x.hi.v.build), .bool x.hi.aft], 74⟩, ⟨b1, #[.int .i64 0, .int .i64 0, .int .i64 0, .int .i64 0, .string ⟨#[]⟩, .string ⟨#[]⟩, .bool false, .int .i64 0, .int .i64 0, .int .i64 0, .int .i64 0, .string ⟨#[]⟩, .string ⟨#[]⟩, .bool false], 74⟩]) (fun w hO => Own.sub [⟨b3, (yK v).cells, 70⟩] hO) (zX (m' := l.length - (i + 1)) (by omega) ⟨i + 1, (⟨⟨0, v, false⟩, x.hi⟩ : Sp), _, ⟨by omega, bV hi hy hrel.2 hrd⟩, rfl, ZU, rfl⟩)
    refine zW (.bool false) (by kernel_rfl) (yE (a := (vU y)) (b := ([62, 61])) rfl (by kernel_rfl) (by kernel_rfl) (decide_eq_false (h2))) (Zv (.bool false) (ZX (z6 (z7 ?_))))
    by_cases h3 : ((vU y) : List UInt8) = [62]
    · refine zW (.bool true) (by kernel_rfl) (yE (a := (vU y)) (b := ([62])) rfl (by kernel_rfl) (by kernel_rfl) (decide_eq_true (h3))) ?_
      refine Zv (.bool true) (ZY (z7 (Zl 0 ⟨b3, (yK v).cells, 70⟩ (off := 0) (yK v) (Zv (.agg #[.int .i64 0, .int .i64 v.maj, .int .i64 v.min, .int .i64 v.pat, .string (mkS v.pre), .string (mkS v.build), .bool true]) (Zv (.pointer (some ⟨b2, 0, none⟩)) (Zs 2 ⟨b2, (zM x).cells, 74⟩ (off := 0) (.agg #[.int .i64 0, .int .i64 v.maj, .int .i64 v.min, .int .i64 v.pat, .string (mkS v.pre), .string (mkS v.build), .bool true]) (zT (zP (zP ?_)))))))))
      refine zB (z7 (Zu (k := .i64) (((i + 1 : Nat) : Int)) (IntWalk.i64_in _ (by omega)) (Zv (.int .i64 ((i + 1 : Nat) : Int)) (zT ?_))))
      have hrd : kE x y = ⟨⟨0, v, true⟩, x.hi⟩ := by unfold kE; rw [if_neg h2, if_pos h3, hv]
      exact yZ (L' := [⟨g, cur, 9⟩, ⟨b2, #[.int .i64 0, .int .i64 v.maj, .int .i64 v.min, .int .i64 v.pat, .string (mkS v.pre), .string (mkS v.build), .bool true, .int .i64 x.hi.e, .int .i64 x.hi.v.maj, .int .i64 x.hi.v.min, .int .i64 x.hi.v.pat, .string (mkS x.hi.v.pre), .string (mkS x.hi.v.build), .bool x.hi.aft], 74⟩, ⟨b1, #[.int .i64 0, .int .i64 0, .int .i64 0, .int .i64 0, .string ⟨#[]⟩, .string ⟨#[]⟩, .bool false, .int .i64 0, .int .i64 0, .int .i64 0, .int .i64 0, .string ⟨#[]⟩, .string ⟨#[]⟩, .bool false], 74⟩]) (fun w hO => Own.sub [⟨b3, (yK v).cells, 70⟩] hO) (zX (m' := l.length - (i + 1)) (by omega) ⟨i + 1, (⟨⟨0, v, true⟩, x.hi⟩ : Sp), _, ⟨by omega, bV hi hy hrel.2 hrd⟩, rfl, ZU, rfl⟩)
    refine zW (.bool false) (by kernel_rfl) (yE (a := (vU y)) (b := ([62])) rfl (by kernel_rfl) (by kernel_rfl) (decide_eq_false (h3))) (Zv (.bool false) (ZX (z6 (z7 ?_))))
    by_cases h4 : ((vU y) : List UInt8) = [60]
    · refine zW (.bool true) (by kernel_rfl) (yE (a := (vU y)) (b := ([60])) rfl (by kernel_rfl) (by kernel_rfl) (decide_eq_true (h4))) ?_
      refine Zv (.bool true) (ZY (z7 (Zl 0 ⟨b3, (yK v).cells, 70⟩ (off := 0) (yK v) (Zv (.agg #[.int .i64 0, .int .i64 v.maj, .int .i64 v.min, .int .i64 v.pat, .string (mkS v.pre), .string (mkS v.build), .bool false]) (Zv (.pointer (some ⟨b2, 7, none⟩)) (Zs 2 ⟨b2, (zM x).cells, 74⟩ (off := 7) (.agg #[.int .i64 0, .int .i64 v.maj, .int .i64 v.min, .int .i64 v.pat, .string (mkS v.pre), .string (mkS v.build), .bool false]) (zT (zP (zP ?_)))))))))
      refine zB (z7 (Zu (k := .i64) (((i + 1 : Nat) : Int)) (IntWalk.i64_in _ (by omega)) (Zv (.int .i64 ((i + 1 : Nat) : Int)) (zT ?_))))
      have hrd : kE x y = ⟨x.lo, ⟨0, v, false⟩⟩ := by unfold kE; rw [if_neg h2, if_neg h3, if_pos h4, hv]
      exact yZ (L' := [⟨g, cur, 9⟩, ⟨b2, #[.int .i64 x.lo.e, .int .i64 x.lo.v.maj, .int .i64 x.lo.v.min, .int .i64 x.lo.v.pat, .string (mkS x.lo.v.pre), .string (mkS x.lo.v.build), .bool x.lo.aft, .int .i64 0, .int .i64 v.maj, .int .i64 v.min, .int .i64 v.pat, .string (mkS v.pre), .string (mkS v.build), .bool false], 74⟩, ⟨b1, #[.int .i64 0, .int .i64 0, .int .i64 0, .int .i64 0, .string ⟨#[]⟩, .string ⟨#[]⟩, .bool false, .int .i64 0, .int .i64 0, .int .i64 0, .int .i64 0, .string ⟨#[]⟩, .string ⟨#[]⟩, .bool false], 74⟩]) (fun w hO => Own.sub [⟨b3, (yK v).cells, 70⟩] hO) (zX (m' := l.length - (i + 1)) (by omega) ⟨i + 1, (⟨x.lo, ⟨0, v, false⟩⟩ : Sp), _, ⟨by omega, bV hi hy hrel.2 hrd⟩, rfl, ZU, rfl⟩)
    refine zW (.bool false) (by kernel_rfl) (yE (a := (vU y)) (b := ([60])) rfl (by kernel_rfl) (by kernel_rfl) (decide_eq_false (h4))) (Zv (.bool false) (ZX (z6 (z7 ?_))))
    by_cases h5 : ((vU y) : List UInt8) = [60, 61]
    · refine zW (.bool true) (by kernel_rfl) (yE (a := (vU y)) (b := ([60, 61])) rfl (by kernel_rfl) (by kernel_rfl) (decide_eq_true (h5))) ?_
      refine Zv (.bool true) (ZY (z7 (Zl 0 ⟨b3, (yK v).cells, 70⟩ (off := 0) (yK v) (Zv (.agg #[.int .i64 0, .int .i64 v.maj, .int .i64 v.min, .int .i64 v.pat, .string (mkS v.pre), .string (mkS v.build), .bool true]) (Zv (.pointer (some ⟨b2, 7, none⟩)) (Zs 2 ⟨b2, (zM x).cells, 74⟩ (off := 7) (.agg #[.int .i64 0, .int .i64 v.maj, .int .i64 v.min, .int .i64 v.pat, .string (mkS v.pre), .string (mkS v.build), .bool true]) (zT (zP (zP ?_)))))))))
      refine zB (z7 (Zu (k := .i64) (((i + 1 : Nat) : Int)) (IntWalk.i64_in _ (by omega)) (Zv (.int .i64 ((i + 1 : Nat) : Int)) (zT ?_))))
      have hrd : kE x y = ⟨x.lo, ⟨0, v, true⟩⟩ := by unfold kE; rw [if_neg h2, if_neg h3, if_neg h4, if_pos h5, hv]
      exact yZ (L' := [⟨g, cur, 9⟩, ⟨b2, #[.int .i64 x.lo.e, .int .i64 x.lo.v.maj, .int .i64 x.lo.v.min, .int .i64 x.lo.v.pat, .string (mkS x.lo.v.pre), .string (mkS x.lo.v.build), .bool x.lo.aft, .int .i64 0, .int .i64 v.maj, .int .i64 v.min, .int .i64 v.pat, .string (mkS v.pre), .string (mkS v.build), .bool true], 74⟩, ⟨b1, #[.int .i64 0, .int .i64 0, .int .i64 0, .int .i64 0, .string ⟨#[]⟩, .string ⟨#[]⟩, .bool false, .int .i64 0, .int .i64 0, .int .i64 0, .int .i64 0, .string ⟨#[]⟩, .string ⟨#[]⟩, .bool false], 74⟩]) (fun w hO => Own.sub [⟨b3, (yK v).cells, 70⟩] hO) (zX (m' := l.length - (i + 1)) (by omega) ⟨i + 1, (⟨x.lo, ⟨0, v, true⟩⟩ : Sp), _, ⟨by omega, bV hi hy hrel.2 hrd⟩, rfl, ZU, rfl⟩)
    refine zW (.bool false) (by kernel_rfl) (yE (a := (vU y)) (b := ([60, 61])) rfl (by kernel_rfl) (by kernel_rfl) (decide_eq_false (h5))) (Zv (.bool false) (ZX (xK (zP (zP (zB (z7 (Zu (k := .i64) (((i + 1 : Nat) : Int)) (IntWalk.i64_in _ (by omega)) (Zv (.int .i64 ((i + 1 : Nat) : Int)) ?_)))))))))
    refine zT ?_
    have hrd : kE x y = x := by unfold kE; rw [if_neg h2, if_neg h3, if_neg h4, if_neg h5]
    exact yZ (L' := [⟨g, cur, 9⟩, ⟨b2, (zM x).cells, 74⟩, ⟨b1, #[.int .i64 0, .int .i64 0, .int .i64 0, .int .i64 0, .string ⟨#[]⟩, .string ⟨#[]⟩, .bool false, .int .i64 0, .int .i64 0, .int .i64 0, .int .i64 0, .string ⟨#[]⟩, .string ⟨#[]⟩, .bool false], 74⟩]) (fun w hO => Own.sub [⟨b3, (yK v).cells, 70⟩] hO) (zX (m' := l.length - (i + 1)) (by omega) ⟨i + 1, (x : Sp), _, ⟨by omega, bV hi hy hrel.2 hrd⟩, rfl, ZU, rfl⟩)
  refine Zd (p := (i : Int) < (l.length : Int)) false (decide_eq_false (h1)) (ZN (z6 (Zf (y8 (z8 (zQ (zG (zB (z6 (z7 ?_))))))))))
  exact Zl 1 ⟨b2, (zM x).cells, 74⟩ (off := 0) (zM x) (Zs 2 ⟨b1, #[.int .i64 0, .int .i64 0, .int .i64 0, .int .i64 0, .string ⟨#[]⟩, .string ⟨#[]⟩, .bool false, .int .i64 0, .int .i64 0, .int .i64 0, .int .i64 0, .string ⟨#[]⟩, .string ⟨#[]⟩, .bool false], 74⟩ (off := 0) (zM x) (ZN (zF (ZC 2 ⟨b1, (zM x).cells, 74⟩ (off := 0) (zM x) Tryz.results48 (fun w hO => ⟨by rw [show wU s = x from by unfold wU; rw [← hll, hrel.2, List.take_of_length_le (by omega)]], hO.below⟩)))))
theorem pA (s : List UInt8) (W : World) (hs : s.length ≤ 1000000) (ht : HasLib W) : Calls Tryz.prog 28 #[.string (mkS s)] W fun e w' => ∃ v' ob', e = .returned v' ∧ SlS v' (x4 s) ob' ∧ Own [] W w' ob' := by
  refine zR (n := 22) Tryz.func28 rfl (by kernel_rfl) (by kernel_rfl) (ZO (Zv (.slice none 0 0) (ZN (z6 (ZO (Zv (.string (mkS s)) ?_))))))
  by_cases h1 : (s : List UInt8) = [45]
  · refine zW (.bool true) (by kernel_rfl) (yE (a := s) (b := ([45])) rfl (by kernel_rfl) (by kernel_rfl) (decide_eq_true (h1))) ?_
    exact ZY (ZO (Zv (.slice none 0 0) (ZN (zF (zA (ZF (.slice none 0 0) Tryz.results28 (fun w hO => ⟨_, [], rfl, by rw [show x4 s = [] from if_pos h1]; exact Sl.nil _ _, gH hO⟩)))))))
  refine zW (.bool false) (by kernel_rfl) (yE (a := s) (b := ([45])) rfl (by kernel_rfl) (by kernel_rfl) (decide_eq_false (h1))) (ZX (ZB (ZO (Zv (.slice none 0 0) (ZN (z6 ?_))))))
  refine ZO (Zv (.string (mkS s)) (zV (k := 47) (args := #[.string (mkS s), .string ⟨#[32, 111, 114, 32]⟩]) (fun v' L' => ∃ ob', L' = ob' ++ ([]) ∧ SlT v' (tM s) ob') (by kernel_rfl) (fun _ => by kernel_rfl) (fun w hO => (split_or s w (by omega) (ht.on hO.below)).mono fun e w' ⟨v', ob', k1, k2, k3⟩ => ⟨v', _, k1, ⟨ob', rfl, k2⟩, Own.joinN hO k3⟩) (fun lv L2 hv2 => ?_)))
  obtain ⟨ol, rfl, hol⟩ := hv2
  obtain ⟨l, hll⟩ : ∃ l, l = tM s := ⟨_, rfl⟩
  rw [← hll] at hol
  have hln : l.length ≤ s.length + 1 := by rw [hll]; exact ors_len s
  have hlm : ∀ x ∈ l, x.length ≤ s.length := fun x hx => ors_le s x (hll ▸ hx)
  obtain ⟨g, cur, lcap, rfl, rfl, hcur⟩ := SlT.blk hol (by rw [hll]; exact ors_ne s)
  refine Zv (.int .i64 (l.length : Int)) (Zv (.int .i64 0) (ZN (zL (kJ (L' := ⟨g, cur, 9⟩ :: ([] ++ [])) rfl (xA (fun L f m => ∃ (i : Nat) (A : Option Addr) (cap : Nat) (xs : List Sp) (oc : List Blk) (j : Nat → Value), (i ≤ l.length ∧ xs = (l.take i).map wU ∧ SlS (.slice A xs.length cap) xs oc) ∧ L = ⟨g, cur, 9⟩ :: (oc ++ []) ∧ f = g9 j [(3, .slice A xs.length cap), (9, .slice (some ⟨g, 0, none⟩) l.length lcap), (10, .int .i64 (l.length : Int)), (11, .int .i64 (i : Int))] ∧ m = l.length - i) (l.length - 0) ⟨0, none, 0, [], [], _, ⟨Nat.zero_le _, by rw [List.take_zero]; rfl, Sl.nil _ _⟩, rfl, ZU, rfl⟩ ?_)))))
  rintro L f m ⟨i, A, cap, xs, oc, j, hrel, rfl, rfl, rfl⟩
  have hil := hrel.1; have hsl := hrel.2.2; refine kJ (L' := ⟨g, cur, 9⟩ :: oc) (by simp) ?_
  refine z6 (z7 ?_)
  by_cases h2 : (i : Int) < (l.length : Int)
  · have hi : i < l.length := by omega
    obtain ⟨y, hy⟩ : ∃ y, l[i] = y := ⟨_, rfl⟩
    have hyl : y.length ≤ s.length := hlm y (hy ▸ List.getElem_mem hi)
    obtain ⟨z, hz⟩ : ∃ z, z = wU y := ⟨_, rfl⟩
    have hxl : xs.length ≤ s.length + 1 := by rw [hrel.2.1, List.length_map, List.length_take]; omega
    refine Zd (p := (i : Int) < (l.length : Int)) true (decide_eq_true (h2)) (ZN (z6 (Zt (ZB (z6 (zL (ZO (zW (.pointer (some ⟨g, i * 1, none⟩)) (by kernel_rfl) (ZV (b := g) (off := 0) (n := l.length) (c := lcap) (k := .i64) (j := (i : Int)) (e := 9) (sz := 1)) ?_))))))))
    refine qS 0 ⟨g, cur, 9⟩ (off := i * 1) (.string (mkS y)) (by kernel_rfl) rfl (by kernel_rfl) (by kernel_rfl) (kX j9 hcur i 0 (by omega) (by omega) _ (by rw [hy]; kernel_rfl)) (Zv (.string (mkS y)) (ZN (z7 (Zv (.slice A xs.length cap) (Zv (.string (mkS y)) (Zc (k := 48) (args := #[.string (mkS y)]) (zM z) (fun w hO => jB (by rw [hz]) (tReadSpan_any y w (by omega) (ht.on hO.below))) (vQ 74 #[.int .i64 z.lo.e, .int .i64 z.lo.v.maj, .int .i64 z.lo.v.min, .int .i64 z.lo.v.pat, .string (mkS z.lo.v.pre), .string (mkS z.lo.v.build), .bool z.lo.aft, .int .i64 z.hi.e, .int .i64 z.hi.v.maj, .int .i64 z.hi.v.min, .int .i64 z.hi.v.pat, .string (mkS z.hi.v.pre), .string (mkS z.hi.v.build), .bool z.hi.aft] (by kernel_rfl) rfl (fun _ => by kernel_rfl) (fun b1 => ?_))))))))
    obtain ⟨i0, z0, e1, e2, e3, e4, e5⟩ := qL
    refine xM (L' := [⟨b1, #[.int .i64 z.lo.e, .int .i64 z.lo.v.maj, .int .i64 z.lo.v.min, .int .i64 z.lo.v.pat, .string (mkS z.lo.v.pre), .string (mkS z.lo.v.build), .bool z.lo.aft, .int .i64 z.hi.e, .int .i64 z.hi.v.maj, .int .i64 z.hi.v.min, .int .i64 z.hi.v.pat, .string (mkS z.hi.v.pre), .string (mkS z.hi.v.build), .bool z.hi.aft], 74⟩, ⟨g, cur, 9⟩] ++ oc ++ ([] : List Blk)) (by simp) (gP (sz := 14) (by kernel_rfl) rfl Tryz.underlying22 e1 e2 e3 e4 (by kernel_rfl) hsl (a := ⟨b1, 0, none⟩) (m := 1) (c := 1) (news := yR z) (by kernel_rfl) rfl (fun w hO j u hj => ?_) (gY _) (by unfold maxLen; omega) (by rw [e5]; omega) (fun u2 ob2 hu2 => ?_))
    · rw [xV, cell_of_row w b1 (0 + j) (yR z).toArray 74 _ (hO.held ⟨b1, (yR z).toArray, 74⟩ (List.mem_append_left _ (List.mem_append_left _ (List.mem_cons_self ..))))]; simpa using hj
    have hu3 : SlS u2 (xs ++ [z]) ob2 := Sl.to hu2 (by simp) (by simp)
    obtain ⟨B2, cb2, rfl⟩ := Sl.form hu3
    exact yQ (L' := ⟨g, cur, 9⟩ :: (ob2)) (fun w hO => (Own.sub [⟨b1, #[.int .i64 z.lo.e, .int .i64 z.lo.v.maj, .int .i64 z.lo.v.min, .int .i64 z.lo.v.pat, .string (mkS z.lo.v.pre), .string (mkS z.lo.v.build), .bool z.lo.aft, .int .i64 z.hi.e, .int .i64 z.hi.v.maj, .int .i64 z.hi.v.min, .int .i64 z.hi.v.pat, .string (mkS z.hi.v.pre), .string (mkS z.hi.v.build), .bool z.hi.aft], 74⟩] (show Own _ _ w (⟨b1, #[.int .i64 z.lo.e, .int .i64 z.lo.v.maj, .int .i64 z.lo.v.min, .int .i64 z.lo.v.pat, .string (mkS z.lo.v.pre), .string (mkS z.lo.v.build), .bool z.lo.aft, .int .i64 z.hi.e, .int .i64 z.hi.v.maj, .int .i64 z.hi.v.min, .int .i64 z.hi.v.pat, .string (mkS z.hi.v.pre), .string (mkS z.hi.v.build), .bool z.hi.aft], 74⟩ :: ([⟨g, cur, 9⟩] ++ ob2)) from by simpa using hO))) (Zv (.slice B2 ((xs ++ [z]).length) cb2) (zT (zP (zB (z7 (Zu (k := .i64) (((i + 1 : Nat) : Int)) (IntWalk.i64_in _ (by omega)) (Zv (.int .i64 ((i + 1 : Nat) : Int)) (zT (fin_cast (L' := ⟨g, cur, 9⟩ :: (ob2 ++ [])) (by simp) (zX (m' := l.length - (i + 1)) (by omega) ⟨i + 1, B2, cb2, (xs ++ [z]), ob2, _, ⟨by omega, by rw [List.take_succ_eq_append_getElem hi, List.map_append, ← hrel.2.1, hy, hz]; rfl, hu3⟩, rfl, ZU, rfl⟩))))))))))
  refine Zd (p := (i : Int) < (l.length : Int)) false (decide_eq_false (h2)) (ZN (z6 (Zf (y8 (z8 (zQ (zG (zB (z6 (z7 ?_))))))))))
  exact Zv (.slice A xs.length cap) (Zv (.slice A xs.length cap) (ZN (zF (ZF (.slice A xs.length cap) Tryz.results28 (fun w hO => ⟨_, oc, rfl, by rw [show x4 s = xs from by unfold x4; rw [if_neg h1, ← hll, hrel.2.1, List.take_of_length_le (by omega)]]; exact hsl, Own.sub [_] hO⟩)))))
theorem n4 (s : List UInt8) (W : World) (hs : s.length ≤ 90000) (ht : HasLib W) : Calls Tryz.prog 13 #[.string (mkS s)] W fun e w' => ∃ v' ob', e = .returned (.tuple #[v', .int .i64 (f0 s)]) ∧ SetO v' ((gZ s).getD yY) ob' ∧ Own [] W w' ob' := by
  refine zR (n := 27) Tryz.func13 rfl (by kernel_rfl) (by kernel_rfl) (ZO (Za (.agg #[.slice none 0 0, .slice none 0 0]) (fun b1 => Zv (.int .i64 0) (ZR (Zv (.string (mkS s)) ?_)))))
  obtain ⟨r1, r2, m, hc⟩ : ∃ r1 r2 m, Lib.cut s [32, 47, 32] = (r1, r2, m) := ⟨_, _, _, rfl⟩
  obtain ⟨hr1, hr2⟩ := cut_lens hc
  have hx : dW s = ⟨x4 r1, (if m = true then x4 r2 else [])⟩ := by unfold dW; rw [hc]
  obtain ⟨f1, n1⟩ := rdRow_fine (s := r1) (by omega)
  obtain ⟨f2, n2⟩ := rdRow_fine (s := r2) (by omega)
  refine Zc (k := 27) (args := #[.string (mkS s), .string ⟨#[32, 47, 32]⟩]) (.tuple #[.string (mkS r1), .string (mkS r2), .bool m]) (fun w hO => cut_stroke s r1 r2 m hc w (by omega) (ht.on hO.below)) (Zv (.tuple #[.string (mkS r1), .string (mkS r2), .bool m]) (Zv (.string (mkS r1)) (Zv (.string (mkS r2)) (Zv (.bool m) (Zv (.string (mkS r1)) (Zv (.string (mkS r2)) (Zv (.bool m) (ZN (z6 (z7 ?_))))))))))
  refine Zv (.string (mkS r1)) (zV (k := 28) (args := #[.string (mkS r1)]) (fun v' L' => ∃ ob', L' = ob' ++ ([⟨b1, #[.slice none 0 0, .slice none 0 0], 24⟩]) ∧ SlS v' (x4 r1) ob') (by kernel_rfl) (fun _ => by kernel_rfl) (fun w hO => (pA r1 w (by omega) (ht.on hO.below)).mono fun e w' ⟨v', ob', k1, k2, k3⟩ => ⟨v', _, k1, ⟨ob', rfl, k2⟩, Own.joinN hO k3⟩) (fun v1 L1 hv1 => ?_))
  obtain ⟨o1, rfl, hs1⟩ := hv1
  obtain ⟨A1, c1, rfl⟩ := SlS.form hs1
  refine yQ (L' := ⟨b1, #[.slice none 0 0, .slice none 0 0], 24⟩ :: (o1)) (fun w hO => hO.perm (List.perm_append_comm (l₁ := o1) (l₂ := [⟨b1, #[.slice none 0 0, .slice none 0 0], 24⟩]))) (Zv (.agg #[.slice A1 ((x4 r1).length) c1, .slice none 0 0]) (Za (.agg #[.slice none 0 0, .slice none 0 0]) (fun b2 => Zs 0 ⟨b2, #[.slice none 0 0, .slice none 0 0], 24⟩ (off := 0) (.agg #[.slice A1 ((x4 r1).length) c1, .slice none 0 0]) (ZN (z6 (ZO (Zv (.bool m) (zT (zB ?_)))))))))
  cases h1 : m with
  | true =>
    refine Zt (z7 (Zv (.string (mkS r2)) (zV (k := 28) (args := #[.string (mkS r2)]) (fun v' L' => ∃ ob', L' = ob' ++ (⟨b2, #[.slice A1 ((x4 r1).length) c1, .slice none 0 0], 24⟩ :: (⟨b1, #[.slice none 0 0, .slice none 0 0], 24⟩ :: (o1))) ∧ SlS v' (x4 r2) ob') (by kernel_rfl) (fun _ => by kernel_rfl) (fun w hO => (pA r2 w (by omega) (ht.on hO.below)).mono fun e w' ⟨v', ob', k1, k2, k3⟩ => ⟨v', _, k1, ⟨ob', rfl, k2⟩, Own.joinN hO k3⟩) (fun v2 L2 hv2 => ?_))))
    obtain ⟨o2, rfl, hs2⟩ := hv2
    obtain ⟨A2, c2, rfl⟩ := SlS.form hs2
    refine yQ (L' := ⟨b2, #[.slice A1 ((x4 r1).length) c1, .slice none 0 0], 24⟩ :: (⟨b1, #[.slice none 0 0, .slice none 0 0], 24⟩ :: ((o2 ++ o1)))) (fun w hO => own_ab hO) (Zv (.pointer (some ⟨b2, 1, none⟩)) (Zs 0 ⟨b2, #[.slice A1 ((x4 r1).length) c1, .slice none 0 0], 24⟩ (off := 1) (.slice A2 ((x4 r2).length) c2) (ZN (z6 (ZO (Zl 0 ⟨b2, #[.slice A1 ((x4 r1).length) c1, .slice A2 ((x4 r2).length) c2], 24⟩ (off := 0) (.agg #[.slice A1 ((x4 r1).length) c1, .slice A2 ((x4 r2).length) c2]) ?_))))))
    obtain ⟨x, ex⟩ : ∃ x : St, x = ⟨x4 r1, x4 r2⟩ := ⟨_, rfl⟩
    have hxx : dW s = x := by rw [hx, ex, if_pos h1]
    have hS : SetO (.agg #[.slice A1 x.rel.length c1, .slice A2 x.pre.length c2]) x (o2 ++ o1) := by rw [ex]; exact ⟨_, _, o1, o2, rfl, rfl, hs1, hs2⟩
    have hsh : yU x.rel ∧ yU x.pre := by rw [ex]; exact ⟨f1, f2⟩
    have hxn : x.rel.length ≤ 100000 ∧ x.pre.length ≤ 100000 := by rw [ex]; exact ⟨by show (x4 r1).length ≤ _; omega, by show (x4 r2).length ≤ _; omega⟩
    refine s_call (k := 11) (args := #[.agg #[.slice A1 x.rel.length c1, .slice A2 x.pre.length c2]]) (.string (mkS (yN x))) (by kernel_rfl) (fun _ => by rw [ex]; kernel_rfl) (fun w hO => vS A1 A2 c1 c2 x w ⟨(hS.reads (n := 0) (m := 0) hO (fun y hy => by simp at hy ⊢; simp [hy])).1, (hS.reads (n := 0) (m := 0) hO (fun y hy => by simp at hy ⊢; simp [hy])).2, hxn.1, hxn.2, hsh.1, hsh.2⟩ hS.caps (ht.tab.on hO.below)) (Zv (.string (mkS s)) ?_)
    by_cases h2 : ((yN x) : List UInt8) = s
    · refine zW (.bool false) (by kernel_rfl) (xC (a := (yN x)) (b := s) rfl (by kernel_rfl) (by kernel_rfl) (decide_eq_true (h2))) ?_
      refine ZX (ZB (ZO (Zl 0 ⟨b2, #[.slice A1 ((x4 r1).length) c1, .slice A2 ((x4 r2).length) c2], 24⟩ (off := 0) (.agg #[.slice A1 ((x4 r1).length) c1, .slice A2 ((x4 r2).length) c2]) (Zs 1 ⟨b1, #[.slice none 0 0, .slice none 0 0], 24⟩ (off := 0) (.agg #[.slice A1 ((x4 r1).length) c1, .slice A2 ((x4 r2).length) c2]) (Zv (.int .i64 0) (zT (zB ?_)))))))
      exact zF (ZD 1 ⟨b1, #[.slice A1 ((x4 r1).length) c1, .slice A2 ((x4 r2).length) c2], 24⟩ (off := 0) (.agg #[.slice A1 ((x4 r1).length) c1, .slice A2 ((x4 r2).length) c2]) (.int .i64 0) Tryz.results13 (fun w hO => ⟨.agg #[.slice A1 ((x4 r1).length) c1, .slice A2 ((x4 r2).length) c2], (o2 ++ o1), by rw [show f0 s = 0 from by unfold f0; rw [dD hxx h2]; rfl], by rw [dD hxx h2]; subst ex; exact hS, Own.sub [_, _] hO⟩))
    refine zW (.bool true) (by kernel_rfl) (xC (a := (yN x)) (b := s) rfl (by kernel_rfl) (by kernel_rfl) (decide_eq_false (h2))) (ZY (ZO (Zc (k := 29) (args := #[]) (.agg #[.slice none 0 0, .slice none 0 0]) (fun w _ => gC w) (Zs 1 ⟨b1, #[.slice none 0 0, .slice none 0 0], 24⟩ (off := 0) (.agg #[.slice none 0 0, .slice none 0 0]) (Zv (.int .i64 2) (ZN (zF ?_)))))))
    exact zA (ZD 1 ⟨b1, #[.slice none 0 0, .slice none 0 0], 24⟩ (off := 0) (.agg #[.slice none 0 0, .slice none 0 0]) (.int .i64 2) Tryz.results13 (fun w hO => ⟨_, [], by rw [show f0 s = 2 from by unfold f0; rw [wP hxx h2]; rfl], by rw [wP hxx h2]; exact SetO.none, gH hO⟩))
  | false =>
    refine Zf (ZB (z6 (ZO (Zl 0 ⟨b2, #[.slice A1 ((x4 r1).length) c1, .slice none 0 0], 24⟩ (off := 0) (.agg #[.slice A1 ((x4 r1).length) c1, .slice none 0 0]) ?_))))
    obtain ⟨x, ex⟩ : ∃ x : St, x = ⟨x4 r1, []⟩ := ⟨_, rfl⟩
    have hxx : dW s = x := by rw [hx, ex, if_neg (by rw [h1]; decide)]
    have hS : SetO (.agg #[.slice A1 x.rel.length c1, .slice none x.pre.length 0]) x o1 := by rw [ex]; exact ⟨_, _, o1, [], rfl, rfl, hs1, Sl.nil _ _⟩
    have hsh : yU x.rel ∧ yU x.pre := by rw [ex]; exact ⟨f1, fun y hy => by simp at hy⟩
    have hxn : x.rel.length ≤ 100000 ∧ x.pre.length ≤ 100000 := by rw [ex]; exact ⟨by show (x4 r1).length ≤ _; omega, Nat.zero_le _⟩
    refine s_call (k := 11) (args := #[.agg #[.slice A1 x.rel.length c1, .slice none x.pre.length 0]]) (.string (mkS (yN x))) (by kernel_rfl) (fun _ => by rw [ex]; kernel_rfl) (fun w hO => vS A1 none c1 0 x w ⟨(hS.reads (n := 0) (m := 0) hO (fun y hy => by simp at hy ⊢; simp [hy])).1, (hS.reads (n := 0) (m := 0) hO (fun y hy => by simp at hy ⊢; simp [hy])).2, hxn.1, hxn.2, hsh.1, hsh.2⟩ hS.caps (ht.tab.on hO.below)) (Zv (.string (mkS s)) ?_)
    by_cases h3 : ((yN x) : List UInt8) = s
    · refine zW (.bool false) (by kernel_rfl) (xC (a := (yN x)) (b := s) rfl (by kernel_rfl) (by kernel_rfl) (decide_eq_true (h3))) ?_
      refine ZX (ZB (ZO (Zl 0 ⟨b2, #[.slice A1 ((x4 r1).length) c1, .slice none 0 0], 24⟩ (off := 0) (.agg #[.slice A1 ((x4 r1).length) c1, .slice none 0 0]) (Zs 1 ⟨b1, #[.slice none 0 0, .slice none 0 0], 24⟩ (off := 0) (.agg #[.slice A1 ((x4 r1).length) c1, .slice none 0 0]) (Zv (.int .i64 0) (zT (zB ?_)))))))
      exact zF (ZD 1 ⟨b1, #[.slice A1 ((x4 r1).length) c1, .slice none 0 0], 24⟩ (off := 0) (.agg #[.slice A1 ((x4 r1).length) c1, .slice none 0 0]) (.int .i64 0) Tryz.results13 (fun w hO => ⟨.agg #[.slice A1 ((x4 r1).length) c1, .slice none 0 0], o1, by rw [show f0 s = 0 from by unfold f0; rw [dD hxx h3]; rfl], by rw [dD hxx h3]; subst ex; exact hS, Own.sub [_, _] hO⟩))
    refine zW (.bool true) (by kernel_rfl) (xC (a := (yN x)) (b := s) rfl (by kernel_rfl) (by kernel_rfl) (decide_eq_false (h3))) (ZY (ZO (Zc (k := 29) (args := #[]) (.agg #[.slice none 0 0, .slice none 0 0]) (fun w _ => gC w) (Zs 1 ⟨b1, #[.slice none 0 0, .slice none 0 0], 24⟩ (off := 0) (.agg #[.slice none 0 0, .slice none 0 0]) (Zv (.int .i64 2) (ZN (zF ?_)))))))
    exact zA (ZD 1 ⟨b1, #[.slice none 0 0, .slice none 0 0], 24⟩ (off := 0) (.agg #[.slice none 0 0, .slice none 0 0]) (.int .i64 2) Tryz.results13 (fun w hO => ⟨_, [], by rw [show f0 s = 2 from by unfold f0; rw [wP hxx h3]; rfl], by rw [wP hxx h3]; exact SetO.none, gH hO⟩))
end
section
def sg8 (fr : Bool) : List UInt8 := if fr then [62] else [60]
def cutD (fr : Bool) (s : List UInt8) : Cu :=
  if yV s (sg8 fr) = true then (if yV (s.drop 1) [61] = true then ⟨0, (g5 ((s.drop 1).drop 1)).getD Ver.zero, !fr⟩ else ⟨0, (g5 (s.drop 1)).getD Ver.zero, fr⟩) else ⟨0, Ver.zero, false⟩
def cutT (fr : Bool) (s : List UInt8) : Bool :=
  if yV s (sg8 fr) = true then (if yV (s.drop 1) [61] = true then (g5 ((s.drop 1).drop 1)).isSome else (g5 (s.drop 1)).isSome) else false
def oneX : List (List UInt8) → Sp × Bool
  | [] => (spW0, false)
  | a :: r => if a = [42] ∧ r = [] then (spW0, true)
    else if cutT true a = true then (if r = [] then (⟨cutD true a, zZ 1⟩, true) else (⟨cutD true a, cutD false (r.headD [])⟩, cutT false (r.headD []) && decide (r.length = 1)))
    else (⟨zZ (-1), cutD false a⟩, cutT false a && decide (r = []))
structure Row8 (s : List UInt8) (l : List (List UInt8)) (i a : Nat) (xs : List Sp) : Prop where
  h : (i ≤ l.length ∧ a ≤ i ∧ mS s = (j0 spP (grp ((l.drop a).take (i - a)) (l.drop i))).map (xs ++ ·)) ∨ (i = l.length + 1 ∧ mS s = some xs)
end
section
def withTags (v : Ver) (p q : List UInt8) : Ver := ⟨v.maj, v.min, v.pat, p, q⟩
def RPEnd (s : List UInt8) (w : World) (e : Ending) (w' : World) : Prop := e = .returned (.tuple #[yK (parV s), .int .i64 (parE s)]) ∧ Below w.heap.size w w'
end
section
end
section
end
section
structure Rows8 (s : List UInt8) (v : Value) (ob : List Blk) : Prop where
  sl : SlS v ((mS s).getD []) ob
  sh : yU ((mS s).getD [])
  le : ((mS s).getD []).length ≤ s.length + 2
end
section
end
section
def setG (l : List Int) (i : Nat) : St := ⟨gK (rowG l i), rowG l (i + 49)⟩
end
section
end
section
structure AlI (s : List UInt8) (i f : Nat) (u : Value) (P : List (List UInt8)) (ob : List Blk) : Prop where
  fi : f ≤ i + 1
  il : i ≤ s.length
  fl : f ≤ s.length
  sl : SlT u P ob
  eq : P ++ kV ((s.drop f).take (i - f)) (s.drop (max i f)) = kV [] s
  pl : P.length ≤ i
end
section
theorem altRel_next {l : List Co} {k : Nat} (hk : k < l.length) {c : Co} (hc : l[k] = c) : xJ (l.take (k + 1)) = f5 (xJ (l.take k)) c.region := by
  rw [List.take_succ_eq_append_getElem hk, hc, altRel_snoc]
theorem altZone_next {l : List Co} {k : Nat} (hk : k < l.length) {c : Co} (hc : l[k] = c) : xL (l.take (k + 1)) = orL (xL (l.take k)) c.zone := by
  rw [List.take_succ_eq_append_getElem hk, hc, tE]
theorem orAll_next {r : List (List Co)} {i : Nat} (hi : i < r.length) {a : List Co} (ha : r[i] = a) : x9 (r.take (i + 1)) = orT (x9 (r.take i)) (yX a) := by
  rw [List.take_succ_eq_append_getElem hi, ha, orAll_snoc]
theorem mK (l : List Co) (k : Nat) (h : l.length ≤ 1000) : RF (xJ (l.take k)) 4000 := (mJ _).le (by rw [List.length_take]; omega)
theorem dT (l : List Co) (k : Nat) (h : l.length ≤ 1000) : RF (xL (l.take k)) 4000 := (altZone_rf _).le (by rw [List.length_take]; omega)
theorem orAll_le {r : List (List Co)} (h : fewR r = true) (i : Nat) : SF (x9 (r.take i)) 198 := by
  obtain ⟨h1, h2⟩ := fewR.facts h
  refine (orAll_sf (n := 6) _ fun a ha => ((fewA.facts (h2 a (List.mem_of_mem_take ha))).1).2).le ?_
  rw [List.length_take]
  show min i r.length * 33 ≤ 198
  omega
section
variable {M : List Nat} {W w : World}
theorem own_tail {A B C : List Blk} (h : Own M W w ((A ++ B) ++ C)) : Own M W w (B ++ C) := by
  rw [List.append_assoc] at h
  exact Own.sub A h
theorem own_swap1 {x : Blk} {A : List Blk} (h : Own M W w (A ++ [x])) : Own M W w (x :: A) := h.perm List.perm_append_comm
end
theorem rwhole_any (W : World) : Calls Tryz.prog 36 #[] W fun e w' => ∃ v' ob', e = .returned v' ∧ SlS v' gO ob' ∧ Own [] W w' ob' := by
  refine zR (n := 5) Tryz.func36 rfl (by kernel_rfl) (by kernel_rfl) (ZO (Zv (.slice none 0 0) (ZR (Zc (k := 62) (args := #[]) (zC (zZ (-1))) (fun w _ => rfirst_any w) (Zc (k := 63) (args := #[]) (zC (zZ 1)) (fun w _ => rlast_any w) (Zv (.agg #[.int .i64 ((zZ (-1)).e), .int .i64 ((zZ (-1)).v.maj), .int .i64 ((zZ (-1)).v.min), .int .i64 ((zZ (-1)).v.pat), .string (mkS (zZ (-1)).v.pre), .string (mkS (zZ (-1)).v.build), .bool ((zZ (-1)).aft), .int .i64 ((zZ 1).e), .int .i64 ((zZ 1).v.maj), .int .i64 ((zZ 1).v.min), .int .i64 ((zZ 1).v.pat), .string (mkS (zZ 1).v.pre), .string (mkS (zZ 1).v.build), .bool ((zZ 1).aft)]) (vQ 74 #[.int .i64 ((zZ (-1)).e), .int .i64 ((zZ (-1)).v.maj), .int .i64 ((zZ (-1)).v.min), .int .i64 ((zZ (-1)).v.pat), .string (mkS (zZ (-1)).v.pre), .string (mkS (zZ (-1)).v.build), .bool ((zZ (-1)).aft), .int .i64 ((zZ 1).e), .int .i64 ((zZ 1).v.maj), .int .i64 ((zZ 1).v.min), .int .i64 ((zZ 1).v.pat), .string (mkS (zZ 1).v.pre), .string (mkS (zZ 1).v.build), .bool ((zZ 1).aft)] (by kernel_rfl) rfl (fun _ => by kernel_rfl) (fun b1 => ?_))))))))
  exact Zv (.slice (some ⟨b1, 0, none⟩) 1 1) (ZN (zF (ZF (.slice (some ⟨b1, 0, none⟩) 1 1) Tryz.results36 (fun w hO => ⟨_, _, rfl, sls_lit ⟨zZ (-1), zZ 1⟩ b1 _ (by kernel_rfl), hO⟩))))
theorem rsetAll_any (W : World) : Calls Tryz.prog 20 #[] W fun e w' => ∃ v' ob', e = .returned v' ∧ SetO v' allT ob' ∧ Own [] W w' ob' := by
  refine zR (n := 4) Tryz.func20 rfl (by kernel_rfl) (by kernel_rfl) (ZO (Za (.agg #[.slice none 0 0, .slice none 0 0]) (fun b1 => ZR (zV (k := 36) (args := #[]) (fun v' L' => ∃ ob', L' = ob' ++ ([⟨b1, #[.slice none 0 0, .slice none 0 0], 24⟩]) ∧ SlS v' gO ob') (by kernel_rfl) (fun _ => by kernel_rfl) (fun w hO => (rwhole_any w).mono fun e w' ⟨v', ob', k1, k2, k3⟩ => ⟨v', _, k1, ⟨ob', rfl, k2⟩, Own.joinN hO k3⟩) (fun x1 Lx hvx => ?_)))))
  obtain ⟨o1, rfl, hr1⟩ := hvx
  obtain ⟨V1, c1, rfl⟩ := hr1.form
  refine zV (k := 36) (args := #[]) (fun v' L' => ∃ ob', L' = ob' ++ (o1 ++ ([⟨b1, #[.slice none 0 0, .slice none 0 0], 24⟩])) ∧ SlS v' gO ob') (by kernel_rfl) (fun _ => by kernel_rfl) (fun w hO => (rwhole_any w).mono fun e w' ⟨v', ob', k1, k2, k3⟩ => ⟨v', _, k1, ⟨ob', rfl, k2⟩, Own.joinN hO k3⟩) (fun x2 Lx hvx => ?_)
  obtain ⟨o2, rfl, hr2⟩ := hvx
  obtain ⟨V2, c2, rfl⟩ := hr2.form
  exact Zv (.agg #[.slice V1 ((gO).length) c1, .slice V2 ((gO).length) c2]) (yQ (L' := ⟨b1, #[.slice none 0 0, .slice none 0 0], 24⟩ :: (o2 ++ o1)) (fun w hO => own_swap1 (by rw [List.append_assoc]; exact hO)) (Zs 0 ⟨b1, #[.slice none 0 0, .slice none 0 0], 24⟩ (off := 0) (.agg #[.slice V1 ((gO).length) c1, .slice V2 ((gO).length) c2]) (ZN (zF (ZC 0 ⟨b1, #[.slice V1 ((gO).length) c1, .slice V2 ((gO).length) c2], 24⟩ (off := 0) (.agg #[.slice V1 ((gO).length) c1, .slice V2 ((gO).length) c2]) Tryz.results20 (fun w hO => ⟨_, o2 ++ o1, rfl, ⟨_, _, o1, o2, rfl, rfl, hr1, hr2⟩, Own.sub [_] hO⟩))))))
theorem fine_get {s : List UInt8} (h : qE s = 0) : FineR ((y7 s).getD []) := by
  cases hp : y7 s with
  | none => rcases err_none hp with e | e <;> rw [e] at h <;> exact absurd h (by decide)
  | some r => exact fine_few (rgMay.facts (err_some hp).2.1).1
end
section
theorem f9 {a : St} {n : Nat} (h : SF a n) : yN a = x8 a := if_pos h.may
theorem pD {a : St} {n : Nat} (h : SF a n) : gZ (yN a) = some a := by rw [f9 h]; exact parseT_text h.may
theorem serr_print {a : St} {n : Nat} (h : SF a n) : f0 (yN a) = 0 := by unfold f0; rw [pD h]; rfl
theorem sget_print {a : St} {n : Nat} (h : SF a n) : (gZ (yN a)).getD yY = a := by rw [pD h]; rfl
theorem sprint_len {a : St} {n : Nat} (h : SF a n) : (yN a).length ≤ 5 + (n + n) * 140 := by
  rw [f9 h]
  have h1 := stext_len h.may
  have h2 := h.rel.len
  have h3 := h.pre.len
  have : (a.rel.length + a.pre.length) * 140 ≤ (n + n) * 140 := Nat.mul_le_mul_right _ (by omega)
  omega
theorem none_in8 (w : World) (n : Nat) : SetIn w n none none yY := ⟨fun h => absurd h (Nat.lt_irrefl 0), fun h => absurd h (Nat.lt_irrefl 0), Nat.zero_le _, Nat.zero_le _, fun s hs => by simp [yY] at hs, fun s hs => by simp [yY] at hs⟩
theorem same8_t {a b : St} (h : a = b) : (decide (a.rel = b.rel) && decide (a.pre = b.pre)) = true := by rw [h]; simp
theorem some_St {o : Option St} {a : St} (h : o.map (fun s => (s.rel, s.pre)) = some (a.rel, a.pre)) : o = some a := by
  cases o with
  | none => cases h
  | some s =>
    have h2 := Option.some.inj h
    rw [St.eq (congrArg Prod.fst h2) (congrArg Prod.snd h2)]
end
section
open Go.ChangeShapes Go.WideShapes Go.ChangeAt Go.RowKit
theorem own : ownKnob Tryz.prog.godebug = none := by kernel_rfl
theorem mR {H : Type} {enc : TypeId × Value → H} {P : Program} (hl : laidOutB P = true) {W W' : World} (hb : Below W.heap.size W W') :
    ∀ (ts : List TypeId), (∀ t ∈ ts, P.readableRec t = true ∧ t < P.types.size) → ∀ (vs : List Value) (ds : List (DataW H)) (ps : List MemPlace), DataW.TrodAll enc P W 0 (fun _ => true) true ts vs ds ps → (∀ p ∈ ps, p.block < W.heap.size) →
      DataW.TrodAll enc P W' 0 (fun b => decide (b < W.heap.size)) true ts vs ds ps
  | [], _, vs, ds, ps, h, _ => by
    obtain ⟨rfl, rfl, rfl⟩ := trodAll_nil h
    exact trodAll_mk0
  | t :: ts, hr, vs, ds, ps, h, hlt => by
    obtain ⟨v, vs', d, ds', p, q, rfl, rfl, rfl, hd, hrest⟩ := trodAll_cons h
    exact ⟨p, q, Go.RowKit.Below.trod hl (hr t (by simp)).1 (hr t (by simp)).2 hd hb.old (fun x hx => hlt x (by simp [hx])), mR hl hb ts (fun t' ht' => hr t' (by simp [ht'])) vs' ds' q hrest (fun x hx => hlt x (by simp [hx])), rfl⟩
theorem law_end {H : Type} {enc : TypeId × Value → H} {P : Program} {f : Func} {s : ChangeSpec} {W W' : World} {args : Array Value} {ds gs : List (DataW H)} {before : List MemPlace} {T : TypeId}
    (hl : laidOutB P = true) (hr : ∀ t ∈ f.params.toList, P.readableRec t = true ∧ t < P.types.size) (hv : s.vars = []) (hT : f.resultTypes = #[T]) (hB : P.underlying T = some .bool)
    (hW : DataW.Whole enc P f.params.toList s.vars false W args.toList ds gs before) (hf : s.fn H (ds ++ gs) = { results := [.lit (.bool true)], args := ds }) (hb : Below W.heap.size W W') :
    s.post enc P f false true false false W args (.bool true) W' := by
  have hlt : ∀ p ∈ before, p.block < W.heap.size := fun p hp => hW.lt p hp
  have hW' := hW
  obtain ⟨p, q, hA, hV, rfl, _, _⟩ := hW
  rw [hv] at hV
  obtain ⟨rfl, rfl⟩ := trodVars_none hV
  have h2 := mR hl hb _ hr _ _ _ hA (fun x hx => hlt x (by simp [hx]))
  refine ⟨ds, [], p ++ [], [], p, [], hW', ?_, ?_, ?_, World.keptBut_mono (fun x hx => ⟨hx, Or.inr (Or.inl (by simpa using hx))⟩) (hb.frame (· ∈ p ++ [])), fun h => by cases h⟩
  · rw [hf, hT]
    exact trodAll_cons_mk (shut_bool hB true) trodAll_mk0
  · rw [hf]; exact h2
  · rw [hf, hv]; rfl
theorem laidOut : laidOutB Tryz.prog = true := by kernel_rfl
theorem cell_lt {W : World} {a : Addr} {v : Value} (h : W.cell? a = some v) : a.block < W.heap.size := by
  rcases Nat.lt_or_ge a.block W.heap.size with h1 | h1
  · exact h1
  · unfold World.cell? at h
    rw [Array.getElem?_eq_none h1] at h
    simp at h
theorem strCells1 : Tryz.prog.cellsOf 9 = 1 := by kernel_rfl
theorem open_texts {H : Type} {enc : TypeId × Value → H} {W : World} {base : Nat} {v : Value} {d : DataW H} {ps : List MemPlace} (hval : Value.okWide Tryz.prog W .any base 83 v)
    (h : DataW.Trod enc Tryz.prog W 0 (fun _ => true) true 83 v d ps) : ∃ l : List (List UInt8), ReadsT W W.heap.size v l ∧ l.length ≤ maxLen ∧ ∀ x ∈ l, x.length ≤ maxLen := by
  obtain ⟨A, len, cap, rfl⟩ := okWide_slice Tryz.underlying83 hval
  obtain ⟨fuel, hf⟩ := h
  rcases open_strings Tryz.underlying83 Tryz.underlying9 strCells1 hf with ⟨hcs, _⟩ | ⟨a, len', cap', ss, hcs, _, hl, hm, hz, _, hcell, hws⟩
  · simp [Value.cells] at hcs
    obtain ⟨rfl, rfl, rfl⟩ := hcs
    exact ⟨[], ⟨none, 0, rfl, fun h => by cases h⟩, by simp, by simp⟩
  · simp [Value.cells] at hcs
    obtain ⟨rfl, rfl, rfl⟩ := hcs
    simp only [if_true] at hz
    have hlen : ((ss.take len).map (·.data.toList)).length = len := by rw [List.length_map, List.length_take]; omega
    refine ⟨(ss.take len).map (·.data.toList), ⟨some a, cap, by rw [hlen], fun h0 => ⟨a, rfl, ?_, fun j hj => ?_⟩⟩, by rw [hlen]; omega, fun x hx => ?_⟩
    · have := cell_lt (hcell 0 (by omega))
      rwa [addr_block] at this
    · have hj2 : j < ss.length := by omega
      rw [hcell j hj2, List.getElem_map, List.getElem_take]
      simp only [List.getD, List.getElem?_eq_getElem hj2, Option.getD_some]
      rfl
    · obtain ⟨s, hs, rfl⟩ := List.mem_map.1 hx
      have := hws s (List.mem_of_mem_take hs)
      rw [len_data]; exact this
def litCells : DataW Unit → List Value
  | .lit (.int k n) => [Value.int k n]
  | .agg l => l.flatMap fun d => match d with | .lit (.int k n) => [Value.int k n] | _ => []
  | _ => []
def tabCells : DataW Unit → Array Value
  | .agg l => (l.flatMap litCells).toArray
  | _ => #[]
def layAt (h : Array Obj) (g : Nat) (d : DataW Unit) : Array Obj := h.modify g fun
  | .cells _ t frozen => .cells (tabCells d) t frozen
  | o => o
theorem powType : (Tryz.prog.globals[3]?).map (·.type) = some 236 := by kernel_rfl
theorem powNamed : Tryz.prog.globalNamed "internal/strconv.uint64pow10" = some 3 := by kernel_rfl
theorem powCells : Tryz.prog.cellsOf 236 = 20 := by kernel_rfl
theorem u64Cells : Tryz.prog.cellsOf 206 = 1 := by kernel_rfl
theorem hasTab_of {W : World} {l : List (String × DataW Unit)} (h : laidMetH Tryz.prog l W) (e : (l.filter fun x => x.1 == "internal/strconv.uint64pow10") = [("internal/strconv.uint64pow10", Lib.tabData .u64 Lib.pow10Tab)]) : HasTab W := by
  have h2 := h.filter (fun x => x.1 == "internal/strconv.uint64pow10")
  rw [e] at h2
  exact Lib.tabBelow_of_tabIs (Lib.tabIs_of_head (rest := []) powNamed powType Tryz.underlying236 Tryz.underlying206 u64Cells powCells h2)
end
section
def aT8 : St := ⟨[⟨⟨0, ⟨1, 2, 0, [], []⟩, false⟩, ⟨0, ⟨2, 0, 0, [], []⟩, false⟩⟩, ⟨⟨0, ⟨3, 0, 0, [], []⟩, false⟩, zZ 1⟩], []⟩
theorem aT8_1 : gZ [62, 61, 49, 46, 50, 46, 48, 32, 60, 50, 46, 48, 46, 48, 32, 111, 114, 32, 62, 61, 51, 46, 48, 46, 48] = some aT8 := some_St (by decide +kernel)
theorem aT8_2 : gZ [62, 61, 49, 46, 50, 46, 48, 32, 60, 49, 46, 50, 46, 48] = none := Option.isNone_iff_eq_none.1 (by decide +kernel)
theorem aT8_sf : SF aT8 2 := SF.of (fG aT8_1).1 (by decide) (by decide)
theorem aT8_p : yN aT8 = [62, 61, 49, 46, 50, 46, 48, 32, 60, 50, 46, 48, 46, 48, 32, 111, 114, 32, 62, 61, 51, 46, 48, 46, 48] := by rw [f9 aT8_sf]; exact (fG aT8_1).2
theorem aT8_e1 : f0 [62, 61, 49, 46, 50, 46, 48, 32, 60, 50, 46, 48, 46, 48, 32, 111, 114, 32, 62, 61, 51, 46, 48, 46, 48] = 0 := by unfold f0; rw [aT8_1]; rfl
theorem aT8_e2 : f0 [62, 61, 49, 46, 50, 46, 48, 32, 60, 49, 46, 50, 46, 48] = 2 := by unfold f0; rw [aT8_2]; rfl
theorem aT8_g1 : (gZ [62, 61, 49, 46, 50, 46, 48, 32, 60, 50, 46, 48, 46, 48, 32, 111, 114, 32, 62, 61, 51, 46, 48, 46, 48]).getD yY = aT8 := by rw [aT8_1]; rfl
theorem aT8_g2 : (gZ [62, 61, 49, 46, 50, 46, 48, 32, 60, 49, 46, 50, 46, 48]).getD yY = yY := by rw [aT8_2]; rfl
theorem aT8_n : yN yY = [45] := by decide +kernel
theorem aT8_a : yN allT = [42, 32, 47, 32, 42] := by decide +kernel
theorem nW (W : World) (ht : HasLib W) : Calls Tryz.prog 10 #[] W fun e w' => e = .returned (.bool true) ∧ Below W.heap.size W w' := by
  refine zR (n := 40) Tryz.func10 rfl (by kernel_rfl) (by kernel_rfl) (ZO (Zv (.bool false) (ZR (zV (k := 13) (args := #[.string ⟨#[62, 61, 49, 46, 50, 46, 48, 32, 60, 50, 46, 48, 46, 48, 32, 111, 114, 32, 62, 61, 51, 46, 48, 46, 48]⟩]) (fun v' L' => ∃ sv ob', v' = .tuple #[sv, .int .i64 0] ∧ L' = ob' ++ ([]) ∧ SetO sv (aT8) ob') (by kernel_rfl) (fun _ => by kernel_rfl) (fun w hO => (n4 ([62, 61, 49, 46, 50, 46, 48, 32, 60, 50, 46, 48, 46, 48, 32, 111, 114, 32, 62, 61, 51, 46, 48, 46, 48]) w (by decide) (ht.on hO.below)).mono fun e w' ⟨v', ob', k1, k2, k3⟩ => ⟨.tuple #[v', .int .i64 0], _, k1.trans (by rw [show f0 ([62, 61, 49, 46, 50, 46, 48, 32, 60, 50, 46, 48, 46, 48, 32, 111, 114, 32, 62, 61, 51, 46, 48, 46, 48]) = 0 from aT8_e1]), ⟨v', ob', rfl, rfl, by rw [show (gZ ([62, 61, 49, 46, 50, 46, 48, 32, 60, 50, 46, 48, 46, 48, 32, 111, 114, 32, 62, 61, 51, 46, 48, 46, 48])).getD yY = aT8 from aT8_g1] at k2; exact k2⟩, Own.joinN hO k3⟩) (fun tv L1 hv1 => ?_)))))
  obtain ⟨sv1, o1, rfl, rfl, hr1⟩ := hv1
  obtain ⟨V1, U1, c1, d1, rfl⟩ := hr1.form
  refine xM (L' := o1) (List.append_nil _) (Zv (.tuple #[.agg #[.slice V1 ((aT8).rel.length) c1, .slice U1 ((aT8).pre.length) d1], .int .i64 0]) (Zv (.agg #[.slice V1 ((aT8).rel.length) c1, .slice U1 ((aT8).pre.length) d1]) (Zv (.int .i64 0) (Za (.agg #[.slice none 0 0, .slice none 0 0]) (fun b1 => Zs 0 ⟨b1, #[.slice none 0 0, .slice none 0 0], 24⟩ (off := 0) (.agg #[.slice V1 ((aT8).rel.length) c1, .slice U1 ((aT8).pre.length) d1]) (Zv (.int .i64 0) (ZR (zV (k := 13) (args := #[.string ⟨#[62, 61, 49, 46, 50, 46, 48, 32, 60, 49, 46, 50, 46, 48]⟩]) (fun v' L' => ∃ sv ob', v' = .tuple #[sv, .int .i64 2] ∧ L' = ob' ++ (⟨b1, #[.slice V1 ((aT8).rel.length) c1, .slice U1 ((aT8).pre.length) d1], 24⟩ :: (o1)) ∧ SetO sv (yY) ob') (by kernel_rfl) (fun _ => by kernel_rfl) (fun w hO => (n4 ([62, 61, 49, 46, 50, 46, 48, 32, 60, 49, 46, 50, 46, 48]) w (by decide) (ht.on hO.below)).mono fun e w' ⟨v', ob', k1, k2, k3⟩ => ⟨.tuple #[v', .int .i64 2], _, k1.trans (by rw [show f0 ([62, 61, 49, 46, 50, 46, 48, 32, 60, 49, 46, 50, 46, 48]) = 2 from aT8_e2]), ⟨v', ob', rfl, rfl, by rw [show (gZ ([62, 61, 49, 46, 50, 46, 48, 32, 60, 49, 46, 50, 46, 48])).getD yY = yY from aT8_g2] at k2; exact k2⟩, Own.joinN hO k3⟩) (fun tv L2 hv2 => ?_)))))))))
  obtain ⟨sv2, o2, rfl, rfl, hr2⟩ := hv2
  obtain ⟨V2, U2, c2, d2, rfl⟩ := hr2.form
  refine Zv (.tuple #[.agg #[.slice V2 ((yY).rel.length) c2, .slice U2 ((yY).pre.length) d2], .int .i64 2]) (Zv (.agg #[.slice V2 ((yY).rel.length) c2, .slice U2 ((yY).pre.length) d2]) (Zv (.int .i64 2) (Za (.agg #[.slice none 0 0, .slice none 0 0]) (fun b2 => Zs 0 ⟨b2, #[.slice none 0 0, .slice none 0 0], 24⟩ (off := 0) (.agg #[.slice V2 ((yY).rel.length) c2, .slice U2 ((yY).pre.length) d2]) (Zv (.int .i64 2) (ZR (Zv (.int .i64 0) (Zv (.bool true) ?_))))))))
  refine Zv (.bool true) (Zv (.int .i64 2) (Zv (.bool true) (Zv (.bool true) (Zv (.bool true) (Zv (.pointer (some ⟨b1, 0, none⟩)) (pF ⟨b1, #[.slice V1 ((aT8).rel.length) c1, .slice U1 ((aT8).pre.length) d1], 24⟩ (off := 0) (.slice V1 ((aT8).rel.length) c1) (by kernel_rfl) rfl (by simp) (by kernel_rfl) (by kernel_rfl) (Zv (.int .i64 ((aT8).rel.length : Int)) (Zd (p := ((aT8).rel.length : Int) = 2) true (decide_eq_true (rfl)) (Zv (.bool true) (Zv (.bool true) (pF ⟨b1, #[.slice V1 ((aT8).rel.length) c1, .slice U1 ((aT8).pre.length) d1], 24⟩ (off := 0) (.agg #[.slice V1 ((aT8).rel.length) c1, .slice U1 ((aT8).pre.length) d1]) (by kernel_rfl) rfl (by simp) (by kernel_rfl) (by kernel_rfl) ?_)))))))))))
  refine Zc (k := 11) (args := #[.agg #[.slice V1 ((aT8).rel.length) c1, .slice U1 ((aT8).pre.length) d1]]) (.string (mkS ([62, 61, 49, 46, 50, 46, 48, 32, 60, 50, 46, 48, 46, 48, 32, 111, 114, 32, 62, 61, 51, 46, 48, 46, 48]))) (fun w hO => jB (by rw [show yN aT8 = [62, 61, 49, 46, 50, 46, 48, 32, 60, 50, 46, 48, 46, 48, 32, 111, 114, 32, 62, 61, 51, 46, 48, 46, 48] from aT8_p]) (vS V1 U1 c1 d1 aT8 w (SetO.inn hr1 hO (fun x hx => by simp [hx]) (aT8_sf) (by decide)) hr1.caps (ht.tab.on hO.below))) (zW (.bool true) (by kernel_rfl) (yE (a := ([62, 61, 49, 46, 50, 46, 48, 32, 60, 50, 46, 48, 46, 48, 32, 111, 114, 32, 62, 61, 51, 46, 48, 46, 48])) (b := ([62, 61, 49, 46, 50, 46, 48, 32, 60, 50, 46, 48, 46, 48, 32, 111, 114, 32, 62, 61, 51, 46, 48, 46, 48])) rfl (by kernel_rfl) (by kernel_rfl) (decide_eq_true (rfl))) (Zv (.bool true) (Zv (.bool true) (Zv (.agg #[.slice none 0 0, .slice none 0 0]) (Zc (k := 11) (args := #[.agg #[.slice none 0 0, .slice none 0 0]]) (.string (mkS [45])) (fun w hO => jB (by rw [show yN yY = [45] from aT8_n]) (vS none none 0 0 yY w (none_in8 _ _) ⟨Nat.le_refl 0, Nat.le_refl 0⟩ (ht.tab.on hO.below))) (zW (.bool true) (by kernel_rfl) (yE (a := ([45])) (b := ([45])) rfl (by kernel_rfl) (by kernel_rfl) (decide_eq_true (rfl))) (Zv (.bool true) (Zv (.bool true) (zV (k := 20) (args := #[]) (fun v' L' => ∃ ob', L' = ob' ++ (⟨b2, #[.slice V2 ((yY).rel.length) c2, .slice U2 ((yY).pre.length) d2], 24⟩ :: (o2 ++ (⟨b1, #[.slice V1 ((aT8).rel.length) c1, .slice U1 ((aT8).pre.length) d1], 24⟩ :: (o1)))) ∧ SetO v' allT ob') (by kernel_rfl) (fun _ => by kernel_rfl) (fun w hO => (rsetAll_any w).mono fun e w' ⟨v', ob', k1, k2, k3⟩ => ⟨v', _, k1, ⟨ob', rfl, k2⟩, Own.joinN hO k3⟩) (fun sv3 L3 hv3 => ?_))))))))))
  obtain ⟨o3, rfl, hr3⟩ := hv3
  obtain ⟨V3, U3, c3, d3, rfl⟩ := hr3.form
  exact Zc (k := 11) (args := #[.agg #[.slice V3 ((allT).rel.length) c3, .slice U3 ((allT).pre.length) d3]]) (.string (mkS ([42, 32, 47, 32, 42]))) (fun w hO => jB (by rw [show yN allT = [42, 32, 47, 32, 42] from aT8_a]) (vS V3 U3 c3 d3 allT w (SetO.inn hr3 hO (fun x hx => by simp [hx]) (all_sf) (by decide)) hr3.caps (ht.tab.on hO.below))) (zW (.bool true) (by kernel_rfl) (yE (a := ([42, 32, 47, 32, 42])) (b := ([42, 32, 47, 32, 42])) rfl (by kernel_rfl) (by kernel_rfl) (decide_eq_true (rfl))) (Zv (.bool true) (Zv (.bool true) (ZN (zF (ZF (.bool true) Tryz.results10 (fun w hO => ⟨rfl, hO.below⟩)))))))
end
section
def jD : Nat → List UInt8 → List (List UInt8)
  | 0, s => [s]
  | k + 1, s => if (zS 46 s).2.2 then (zS 46 s).1 :: jD k (zS 46 s).2.1 else [s]
theorem pcsK_len : ∀ (k : Nat) (s : List UInt8), 1 ≤ (jD k s).length ∧ (jD k s).length ≤ k + 1
  | 0, s => ⟨Nat.le_refl _, Nat.le_refl _⟩
  | k + 1, s => by
    have h := pcsK_len k (zS 46 s).2.1
    unfold jD
    split
    · simp only [List.length_cons]; omega
    · simp only [List.length_cons, List.length_nil]; omega
theorem pcsK_mem : ∀ (k : Nat) (s : List UInt8), ∀ x ∈ jD k s, x.length ≤ s.length
  | 0, s, x, hx => by rw [List.mem_singleton.1 hx]; exact Nat.le_refl _
  | k + 1, s, x, hx => by
    unfold jD at hx
    have hl := wF 46 s
    split at hx
    · rcases List.mem_cons.1 hx with e | hx
      · rw [e]; omega
      · have := pcsK_mem k (zS 46 s).2.1 x hx; omega
    · rw [List.mem_singleton.1 hx]; exact Nat.le_refl _
theorem tK : ∀ (k : Nat) (l : List (List UInt8)), l ≠ [] → l.length ≤ k + 1 → (∀ x ∈ l, (46 : UInt8) ∉ x) → jD k (y5 46 l) = l
  | _, [], h, _, _ => absurd rfl h
  | 0, [x], _, _, _ => rfl
  | k + 1, [x], _, _, h => by
    unfold jD
    show (if (zS 46 x).2.2 = true then _ else _) = _
    rw [v7 46 x (h x (List.mem_singleton.2 rfl))]
    exact if_neg Bool.false_ne_true
  | 0, x :: y :: r, _, hl, _ => by simp at hl
  | k + 1, x :: y :: r, _, hl, h => by
    have ih := tK k (y :: r) (by simp) (by simpa using hl) fun z hz => h z (List.mem_cons_of_mem _ hz)
    unfold jD
    rw [y5, vC 46 _ _ (h x (List.mem_cons_self ..)), if_pos rfl]
    dsimp only
    rw [ih]
def sgo (s : List UInt8) : Nat → Int × List UInt8
  | 0 => (7, s)
  | k + 1 => if yV s (yB ((k + 1 : Nat) : Int)) = true ∧ (s.drop (yB ((k + 1 : Nat) : Int)).length).length < (sgo s k).2.length then (((k + 1 : Nat) : Int), s.drop (yB ((k + 1 : Nat) : Int)).length) else sgo s k
theorem sgo_le (s : List UInt8) : ∀ k, (sgo s k).2.length ≤ s.length
  | 0 => Nat.le_refl _
  | k + 1 => by
    unfold sgo
    split
    · show (s.drop _).length ≤ _; rw [List.length_drop]; omega
    · exact sgo_le s k
def j4 (s : List UInt8) : List (List UInt8) := jD 2 (zS 45 (sgo s 8).2).1
def starP (s : List UInt8) : Bool := decide ((j4 s).getLast? = some [42])
def qU (s : List UInt8) : Co := ⟨if starP s then 9 else (sgo s 8).1, if starP s then ((j4 s).length : Int) - 1 else ((j4 s).length : Int), ⟨zI (tg (j4 s) 0), zI (tg (j4 s) 1), zI (tg (j4 s) 2), (zS 45 (sgo s 8).2).2.1, []⟩⟩
theorem nob {d a : UInt8} {r t : List UInt8} (h : d ≠ a) : ¬ (yV (d :: r) (a :: t) = true) := by rw [q5 h]; decide
theorem tI {d : UInt8} {r : List UInt8} (h : kY d.toNat = true ∨ d = 42) : sgo (d :: r) 8 = (7, d :: r) := by
  have hd : ∀ a : UInt8, kY a.toNat = false → a ≠ 42 → d ≠ a := fun a ha h42 e => by
    subst e
    rcases h with h | h
    · rw [ha] at h; cases h
    · exact h42 h
  have hb : ∀ k : Nat, 1 ≤ k → k ≤ 8 → ¬ (yV (d :: r) (yB (k : Int)) = true) := fun k h1 h8 => by
    have hk : k = 1 ∨ k = 2 ∨ k = 3 ∨ k = 4 ∨ k = 5 ∨ k = 6 ∨ k = 7 ∨ k = 8 := by omega
    rcases hk with rfl | rfl | rfl | rfl | rfl | rfl | rfl | rfl
    · exact nob (hd 61 (by decide) (by decide))
    · exact nob (hd 33 (by decide) (by decide))
    · exact nob (hd 60 (by decide) (by decide))
    · exact nob (hd 60 (by decide) (by decide))
    · exact nob (hd 62 (by decide) (by decide))
    · exact nob (hd 62 (by decide) (by decide))
    · exact nob (hd 94 (by decide) (by decide))
    · exact nob (hd 126 (by decide) (by decide))
  have : ∀ k : Nat, k ≤ 8 → sgo (d :: r) k = (7, d :: r) := fun k => by
    induction k with
    | zero => intro _; rfl
    | succ k ih =>
      intro h8
      unfold sgo
      rw [if_neg (fun q => hb (k + 1) (by omega) h8 q.1)]
      exact ih (by omega)
  exact this 8 (by decide)
theorem sgo_sign {op : Int} (h1 : 1 ≤ op) (h8 : op ≤ 8) {d : UInt8} {r : List UInt8} (hd : kY d.toNat = true) : sgo (yB op ++ d :: r) 8 = (op, d :: r) := by
  have h61 : d ≠ 61 := fun e => by subst e; revert hd; decide
  have hop : op = 1 ∨ op = 2 ∨ op = 3 ∨ op = 4 ∨ op = 5 ∨ op = 6 ∨ op = 7 ∨ op = 8 := by omega
  rcases hop with rfl | rfl | rfl | rfl | rfl | rfl | rfl | rfl <;> simp [yB, sgo, yV, h61]
theorem numD_star : zI [42] = 0 := by decide
theorem tg_star {v : Ver} (hv : v.may = true) {n : Nat} (h : n ≤ 2) (h0 : 0 < n ∨ v.maj = 0) (h1 : 1 < n ∨ v.min = 0) (h2 : 2 < n ∨ v.pat = 0) : zI (tg (yI v n ++ [[42]]) 0) = v.maj ∧ zI (tg (yI v n ++ [[42]]) 1) = v.min ∧ zI (tg (yI v n ++ [[42]]) 2) = v.pat := by
  obtain ⟨m1, m2, m3⟩ := gJ hv
  have e1 := gS m1
  have e2 := gS m2
  match n, h with
  | 0, _ => exact ⟨numD_star.trans (h0.resolve_left (by decide)).symm, (h1.resolve_left (by decide)).symm, (h2.resolve_left (by decide)).symm⟩
  | 1, _ => exact ⟨e1, numD_star.trans (h1.resolve_left (by decide)).symm, (h2.resolve_left (by decide)).symm⟩
  | 2, _ => exact ⟨e1, e2, numD_star.trans (h2.resolve_left (by decide)).symm⟩
theorem rest_pieces {c : Co} (h : c.may = true) : jD 2 (zS 45 c.rest).1 = (if c.op = 9 then yI c.v c.parts.toNat ++ [[42]] else yI c.v c.parts.toNat) ∧ (zS 45 c.rest).2.1 = c.v.pre := by
  obtain ⟨_, hv, hb, h9, hn, hp, k0, k1, k2⟩ := Co.facts h
  unfold Co.rest
  by_cases e : c.op = 9
  · rw [if_pos e, if_pos e]
    have f : ∀ b : UInt8, kY b.toNat = false → b ≠ 42 → ∀ x ∈ yI c.v c.parts.toNat ++ [[42]], b ∉ x := fun b hb hb2 x hx => by
      rcases List.mem_append.1 hx with hx | hx
      · exact vA hv b hb x hx
      · rw [List.mem_singleton.1 hx]
        intro hm
        exact hb2 (List.mem_singleton.1 hm)
    rw [v7 45 _ (jT 45 (by decide) _ (f 45 (by decide) (by decide)))]
    have hq := h9 e
    have hpre : c.v.pre = [] := hp.resolve_left (by omega)
    refine ⟨?_, hpre.symm⟩
    refine tK 2 _ (by simp) ?_ (f 46 (by decide) (by decide))
    rw [List.length_append, vV c.v (by omega)]
    simp only [List.length_cons, List.length_nil]; omega
  · rw [if_neg e, if_neg e]
    have hq := hn e
    have hlen := vV c.v (n := c.parts.toNat) (by omega)
    have hne : yI c.v c.parts.toNat ≠ [] := fun h0 => by
      rw [h0] at hlen
      simp at hlen; omega
    rw [pV 45 _ _ (jT 45 (by decide) _ (vA hv 45 (by decide)))]
    exact ⟨tK 2 _ hne (by omega) (vA hv 46 (by decide)), rfl⟩
theorem nums_last {c : Co} (h : c.may = true) (hn : ¬ c.op = 9) : ¬ (yI c.v c.parts.toNat).getLast? = some [42] := fun hl => by
  have hv := (Co.facts h).2.1
  have := vA hv 42 (by decide) _ (List.mem_of_getLast? hl)
  exact this (List.mem_singleton.2 rfl)
theorem guess_of {c : Co} {s : List UInt8} (h : c.may = true) (hs : (sgo s 8).2 = c.rest) (ho : c.op = 9 ∨ (sgo s 8).1 = c.op) : qU s = c := by
  obtain ⟨_, hv, hb, h9, hn, hp, k0, k1, k2⟩ := Co.facts h
  obtain ⟨p1, p2⟩ := rest_pieces h
  have hpc : j4 s = if c.op = 9 then yI c.v c.parts.toNat ++ [[42]] else yI c.v c.parts.toNat := by unfold j4; rw [hs]; exact p1
  unfold qU
  rw [hs, p2]
  by_cases e : c.op = 9
  · have hq := h9 e
    rw [if_pos e] at hpc
    have hst : starP s = true := by unfold starP; rw [hpc, List.getLast?_concat]; exact decide_eq_true rfl
    obtain ⟨e1, e2, e3⟩ := tg_star hv (n := c.parts.toNat) (by omega) (by omega) (by omega) (by omega)
    rw [hst, hpc, if_pos rfl, if_pos rfl, e1, e2, e3, List.length_append, vV c.v (by omega), List.length_singleton]
    obtain ⟨op, parts, a, b, d, q, r⟩ := c
    simp only at hb e hq ⊢
    rw [hb, e]
    congr 1
    omega
  · have hq := hn e
    rw [if_neg e] at hpc
    have hst : starP s = false := by unfold starP; rw [hpc]; exact decide_eq_false (nums_last h e)
    obtain ⟨e1, e2, e3⟩ := nums_back hv (n := c.parts.toNat) (by omega) (by omega) (by omega) (by omega)
    rw [hst, hpc, if_neg (by decide), if_neg (by decide), e1, e2, e3, vV c.v (by omega), ho.resolve_left e]
    obtain ⟨op, parts, a, b, d, q, r⟩ := c
    simp only at hb hq ⊢
    rw [hb]
    congr 1
    omega
theorem guess_co {c : Co} {s : List UInt8} (h : c.may = true) (hs : c.text = s ∨ c.text = 94 :: s) : qU s = c := by
  obtain ⟨ho, _⟩ := Co.facts h
  by_cases hn : c.op = 9
  · obtain ⟨d, r, e, hd⟩ := fX h hn
    have ht : c.text = d :: r := by unfold Co.text; rw [hn, show yB 9 = [] from rfl, List.nil_append, e]
    rcases hs with hs | hs
    · rw [ht] at hs
      rw [← hs]
      exact guess_of h (by rw [tI hd, e]) (.inl hn)
    · rw [ht] at hs
      injection hs with e1 _
      rw [e1] at hd
      exact absurd hd (by decide)
  · obtain ⟨d, r, e, hd⟩ := bK h hn
    have ht : c.text = yB c.op ++ d :: r := by unfold Co.text; rw [e]
    have hs8 := sgo_sign ho.1 (by omega) (r := r) hd
    rcases hs with hs | hs
    · rw [ht] at hs
      rw [← hs]
      exact guess_of h (by rw [hs8, e]) (.inr (by rw [hs8]))
    · rw [ht] at hs
      have hop : c.op = 1 ∨ c.op = 2 ∨ c.op = 3 ∨ c.op = 4 ∨ c.op = 5 ∨ c.op = 6 ∨ c.op = 7 ∨ c.op = 8 := by omega
      have h7 : c.op = 7 := by rcases hop with e2 | e2 | e2 | e2 | e2 | e2 | e2 | e2 <;> rw [e2] at hs <;> first | exact e2 | simp [yB] at hs
      rw [h7] at hs
      have hs2 : d :: r = s := by injection hs
      rw [← hs2]
      exact guess_of h (by rw [tI (.inl hd), e]) (.inr (by rw [tI (.inl hd), h7]))
theorem guess_nil : qU [] = ⟨7, 1, ⟨0, 0, 0, [], []⟩⟩ := by decide
theorem fits_may {s : List UInt8} (h : (qU s).print = s ∨ (qU s).print = 94 :: s) : (qU s).may = true := by
  refine print_may fun e => ?_
  rw [e] at h
  rcases h with h | h
  · subst h
    revert e
    rw [guess_nil]
    decide +kernel
  · cases h
theorem prog_some {s : List UInt8} (h : (qU s).print = s ∨ (qU s).print = 94 :: s) : gQ s = some (qU s) := by
  have hm := fits_may h
  rw [qX hm] at h
  exact (dF s _).2 ⟨hm, h⟩
theorem prog_none {s : List UInt8} (h : ¬ ((qU s).print = s ∨ (qU s).print = 94 :: s)) : gQ s = none := by
  cases hp : gQ s with
  | none => rfl
  | some c =>
    obtain ⟨hm, ht⟩ := (dF s c).1 hp
    have hg := guess_co hm ht
    rw [hg, qX hm] at h
    exact absurd ht h
theorem may_core6 {c : Co} (h : c.may = true) : xY c.v = c.v := by
  obtain ⟨_, _, hb, _⟩ := Co.facts h
  obtain ⟨op, parts, a, b, d, q, r⟩ := c
  simp only at hb ⊢
  rw [hb]; rfl
theorem low6 {c : Co} (h : c.may = true) : c.low = ⟨0, c.v, false⟩ := by unfold Co.low; rw [may_core6 h]
def kH (c : Co) : Cu := if c.parts = 3 then ⟨0, c.v, true⟩ else if c.parts = 0 then zZ 1 else gU c.v (c.parts - 1).toNat
theorem beh_aft {c : Co} (h : c.may = true) (h0 : ¬ c.parts = 0) : kH c = c.aft := by
  obtain ⟨_, _, _, h9, hn, _⟩ := Co.facts h
  have hp : 0 ≤ c.parts ∧ c.parts ≤ 3 := by
    by_cases e : c.op = 9
    · have := h9 e; omega
    · have := hn e; omega
  unfold kH Co.aft
  by_cases h3 : c.parts = 3
  · rw [if_pos h3, if_neg (by omega), may_core6 h]
  · rw [if_neg h3, if_neg h0, if_pos (by omega)]
def qI (c : Co) : Int := if ¬ c.v.maj = 0 then 0 else if ¬ c.v.min = 0 then 1 else if ¬ c.v.pat = 0 then 2 else c.parts - 1
theorem lead_turns {c : Co} (h : c.may = true) (h7 : ¬ c.op = 9) : qI c = (turnsK c : Int) := by
  obtain ⟨_, hv, _, _, hn, _, k0, k1, k2⟩ := Co.facts h
  have hq := hn h7
  obtain ⟨m1, m2, m3⟩ := j5 hv
  unfold qI turnsK
  repeat' split
  all_goals omega
theorem span_parts {c : Co} (h : c.may = true) (e : c.op = 1 ∨ c.op = 2) : ¬ c.parts = 0 := by
  obtain ⟨_, _, _, _, hn, _⟩ := Co.facts h
  have := hn (by omega); omega
def gV (c : Co) : Cu × Cu :=
  if c.op = 3 then (zZ (-1), ⟨0, c.v, false⟩) else if c.op = 4 then (zZ (-1), kH c) else if c.op = 5 then (kH c, zZ 1) else if c.op = 6 then (⟨0, c.v, false⟩, zZ 1)
  else if c.op = 7 then (⟨0, c.v, false⟩, gU c.v (qI c).toNat) else if c.op = 8 then (⟨0, c.v, false⟩, gU c.v (min (c.parts - 1) 1).toNat) else if c.parts = 0 then (zZ (-1), zZ 1) else (⟨0, c.v, false⟩, kH c)
theorem bound_span {c : Co} (h : c.may = true) : gV c = c.span := by
  obtain ⟨ho, _, _, h9, hn, _⟩ := Co.facts h
  have e0 : ¬ c.op = 9 → kH c = c.aft := fun e => beh_aft h (by have := hn e; omega)
  have el := low6 h
  have hop : c.op = 1 ∨ c.op = 2 ∨ c.op = 3 ∨ c.op = 4 ∨ c.op = 5 ∨ c.op = 6 ∨ c.op = 7 ∨ c.op = 8 ∨ c.op = 9 := by omega
  unfold gV Co.span
  rcases hop with e | e | e | e | e | e | e | e | e
  · have := hn (by omega); simp [e, el, e0 (by omega), show ¬ c.parts = 0 by omega]
  · have := hn (by omega); simp [e, el, e0 (by omega), show ¬ c.parts = 0 by omega]
  · simp [e, el]
  · simp [e, e0 (by omega)]
  · simp [e, e0 (by omega)]
  · simp [e, el]
  · have := lead_turns h (by omega); simp [e, el, this]
  · simp [e, el]
  · have hq := h9 e
    by_cases h0 : c.parts = 0
    · simp [e, h0]
    · have hb : kH c = gU c.v (c.parts - 1).toNat := by unfold kH; rw [if_neg (by omega), if_neg h0]
      simp [e, h0, el, hb]
end
section
def qV (v : Ver) : Array Value := #[.int .i64 v.maj, .int .i64 v.min, .int .i64 v.pat]
theorem rd_nums (v : Ver) : ∀ (k : Nat), k < 3 → kQ Tryz.prog 3 (qV v) k = some (.int .i64 (x5 v.maj v.min v.pat k))
  | 0, _ => by kernel_rfl
  | 1, _ => by kernel_rfl
  | 2, _ => by kernel_rfl
theorem zero3 {v : Ver} (h : ∀ j, j < 3 → x5 v.maj v.min v.pat j = 0) : v.maj = 0 ∧ v.min = 0 ∧ v.pat = 0 := ⟨h 0 (by decide), h 1 (by decide), h 2 (by decide)⟩
theorem may_rest {c : Co} (h : c.may = true) : ∀ j, c.parts.toNat ≤ j → j < 3 → x5 c.v.maj c.v.min c.v.pat j = 0 := fun j h1 h3 => by
  obtain ⟨_, _, _, h9, hn, _, k0, k1, k2⟩ := Co.facts h
  have hj : j = 0 ∨ j = 1 ∨ j = 2 := by omega
  rcases hj with rfl | rfl | rfl
  · show c.v.maj = 0; omega
  · show c.v.min = 0; omega
  · show c.v.pat = 0; omega
theorem may_bad {c : Co} {k : Nat} (hk : c.parts.toNat + k < 3) (hn : ¬ x5 c.v.maj c.v.min c.v.pat (c.parts.toNat + k) = 0) : c.may = false := by
  cases hm : c.may with
  | false => rfl
  | true => exact absurd (may_rest hm _ (Nat.le_add_right _ _) hk) hn
theorem wW {c : Co} (h1 : 1 ≤ c.op ∧ c.op ≤ 9) (h9 : c.op = 9 → 0 ≤ c.parts ∧ c.parts ≤ 2) (hn : ¬ c.op = 9 → 1 ≤ c.parts ∧ c.parts ≤ 3) (hz : ∀ j, c.parts.toNat ≤ j → j < 3 → x5 c.v.maj c.v.min c.v.pat j = 0) :
    c.may = (c.v.may && (decide (c.v.build = []) && (decide (c.v.pre = []) || decide (c.parts = 3)))) := by
  have hp : 0 ≤ c.parts ∧ c.parts ≤ 3 := by
    by_cases e : c.op = 9
    · have := h9 e; omega
    · have := hn e; omega
  have z0 : 0 < c.parts ∨ c.v.maj = 0 := by
    by_cases q : 0 < c.parts
    · exact .inl q
    · exact .inr (hz 0 (by omega) (by decide))
  have z1 : 1 < c.parts ∨ c.v.min = 0 := by
    by_cases q : 1 < c.parts
    · exact .inl q
    · exact .inr (hz 1 (by omega) (by decide))
  have z2 : 2 < c.parts ∨ c.v.pat = 0 := by
    by_cases q : 2 < c.parts
    · exact .inl q
    · exact .inr (hz 2 (by omega) (by decide))
  refine Bool.eq_iff_iff.2 ⟨fun h => ?_, fun h => ?_⟩
  · obtain ⟨_, q1, q2, _, _, q3, _⟩ := Co.facts h
    rw [q1, decide_eq_true q2, Bool.true_and, Bool.true_and, Bool.or_eq_true, decide_eq_true_eq, decide_eq_true_eq]
    rcases q3 with q3 | q3
    · exact .inr (by omega)
    · exact .inl q3
  · simp only [Bool.and_eq_true, Bool.or_eq_true, decide_eq_true_eq] at h
    exact Co.may_iff.2 ⟨h1, h.1, h.2.1, h9, hn, h.2.2.elim .inr (fun q => .inl (by omega)), z0, z1, z2⟩
theorem lead_at {c : Co} {k : Nat} (hk : k < 3) (hz : ∀ j, j < k → x5 c.v.maj c.v.min c.v.pat j = 0) (hn : ¬ x5 c.v.maj c.v.min c.v.pat k = 0) : qI c = (k : Int) := by
  have h0 := hz 0; have h1 := hz 1
  have hj : k = 0 ∨ k = 1 ∨ k = 2 := by omega
  unfold qI
  rcases hj with rfl | rfl | rfl
  · exact if_pos (show ¬ c.v.maj = 0 from hn)
  · rw [if_neg (by simp [show c.v.maj = 0 from h0 (by decide)])]; exact if_pos (show ¬ c.v.min = 0 from hn)
  · rw [if_neg (by simp [show c.v.maj = 0 from h0 (by decide)]), if_neg (by simp [show c.v.min = 0 from h1 (by decide)])]; exact if_pos (show ¬ c.v.pat = 0 from hn)
theorem lead_end {c : Co} (hz : ∀ j, j < 3 → x5 c.v.maj c.v.min c.v.pat j = 0) : qI c = c.parts - 1 := by
  obtain ⟨a, b, d⟩ := zero3 hz
  unfold qI
  rw [if_neg (by simp [a]), if_neg (by simp [b]), if_neg (by simp [d])]
theorem zero_on {v : Ver} {a k : Nat} (hz : ∀ j, a ≤ j → j < a + k → x5 v.maj v.min v.pat j = 0) (h : x5 v.maj v.min v.pat (a + k) = 0) : ∀ j, a ≤ j → j < a + (k + 1) → x5 v.maj v.min v.pat j = 0 := fun j h1 h2 => by
  by_cases e : j = a + k
  · rw [e]; exact h
  · exact hz j h1 (by omega)
theorem zero_on0 {v : Ver} {k : Nat} (hz : ∀ j, j < k → x5 v.maj v.min v.pat j = 0) (h : x5 v.maj v.min v.pat k = 0) : ∀ j, j < k + 1 → x5 v.maj v.min v.pat j = 0 := fun j h2 => by
  by_cases e : j = k
  · rw [e]; exact h
  · exact hz j (by omega)
theorem mH (v : Ver) (W : World) : Calls Tryz.prog 139 #[yK v] W fun e w' => ∃ v' ob', e = .returned v' ∧ (∃ g, v' = .slice (some ⟨g, 0, none⟩) 3 3 ∧ ob' = [⟨g, qV v, 3⟩]) ∧ Own [] W w' ob' := by
  refine zR (n := 10) Tryz.func139 rfl (by kernel_rfl) (by kernel_rfl) (ZO (Zb (yK v) (fun b1 => Zv (.slice none 0 0) (ZR (Zv (.pointer (some ⟨b1, 0, none⟩)) (Zl 0 ⟨b1, (yK v).cells, 70⟩ (off := 0) (.int .i64 v.maj) (Zv (.pointer (some ⟨b1, 1, none⟩)) ?_)))))))
  exact Zl 0 ⟨b1, (yK v).cells, 70⟩ (off := 1) (.int .i64 v.min) (Zv (.pointer (some ⟨b1, 2, none⟩)) (Zl 0 ⟨b1, (yK v).cells, 70⟩ (off := 2) (.int .i64 v.pat) (vQ 3 #[.int .i64 v.maj, .int .i64 v.min, .int .i64 v.pat] (by kernel_rfl) rfl (fun _ => by kernel_rfl) (fun b2 => Zv (.slice (some ⟨b2, 0, none⟩) 3 3) (ZN (zF (ZF (.slice (some ⟨b2, 0, none⟩) 3 3) Tryz.results139 (fun w hO => ⟨_, _, rfl, ⟨_, rfl, rfl⟩, hO.sublist (List.cons_sublist_cons.2 (List.nil_sublist _))⟩))))))))
theorem pZ (c : Co) (W : World) (hc : c.short) : Calls Tryz.prog 101 #[coV c] W fun e w' => e = .returned (.bool c.may) ∧ Below W.heap.size W w' := by
  refine zR (n := 64) Tryz.func101 rfl (by kernel_rfl) (by kernel_rfl) (ZO (Zb (coV c) (fun b1 => Zv (.bool false) (ZR (Zv (.int .i64 1) (Zv (.int .i64 3) (zT ?_)))))))
  refine zB (z6 (ZO (Zv (.pointer (some ⟨b1, 0, none⟩)) (Zl 0 ⟨b1, (coV c).cells, 94⟩ (off := 0) (.int .i64 c.op) ?_))))
  by_cases h1 : (c.op : Int) = 9
  · refine yS (p := (c.op : Int) = 9) true (by kernel_rfl) (fun _ => by kernel_rfl) (decide_eq_true (h1)) ?_
    refine ZY (z7 (Zv (.int .i64 0) (Zv (.int .i64 2) (ZN (z6 (ZO (Zv (.pointer (some ⟨b1, 0, none⟩)) ?_)))))))
    refine Zl 0 ⟨b1, (coV c).cells, 94⟩ (off := 0) (.int .i64 c.op) ?_
    by_cases h2 : (c.op : Int) < 1
    · refine yS (p := (c.op : Int) < 1) true (by kernel_rfl) (fun _ => by kernel_rfl) (decide_eq_true (h2)) ?_
      refine Zv (.bool true) (Zk (Zk (Zk (Zv (.bool true) (Zv (.bool true) (Zk (Zk (Zk (Zk (Zv (.bool true) (Zv (.bool true) ?_)))))))))))
      refine Zk (Zk (Zk (Zk (Zv (.bool true) (ZY (ZO (Zv (.bool false) (zT ?_))))))))
      exact zB (zF (zA (ZF (.bool false) Tryz.results101 (fun w hO => ⟨by rw [show c.may = false from Bool.eq_false_iff.2 fun q0 => by have q1 := Co.may_iff.1 q0; grind], hO.below⟩))))
    refine Zd (p := (c.op : Int) < 1) false (decide_eq_false (h2)) (Zv (.bool false) (Zv (.pointer (some ⟨b1, 0, none⟩)) (Zl 0 ⟨b1, (coV c).cells, 94⟩ (off := 0) (.int .i64 c.op) ?_)))
    by_cases h3 : (9 : Int) < c.op
    · refine yS (p := (9 : Int) < c.op) true (by kernel_rfl) (fun _ => by kernel_rfl) (decide_eq_true (h3)) ?_
      refine Zv (.bool true) (Zv (.bool true) (Zk (Zk (Zk (Zk (Zv (.bool true) (Zv (.bool true) (Zk (Zk (Zk (Zk ?_)))))))))))
      refine Zv (.bool true) (ZY (ZO (Zv (.bool false) (ZN (zF (zA (ZF (.bool false) Tryz.results101 ?_)))))))
      exact fun w hO => ⟨by rw [show c.may = false from Bool.eq_false_iff.2 fun q0 => by have q1 := Co.may_iff.1 q0; grind], hO.below⟩
    refine Zd (p := (9 : Int) < c.op) false (decide_eq_false (h3)) (Zv (.bool false) (Zv (.bool false) (Zv (.pointer (some ⟨b1, 1, none⟩)) (Zl 0 ⟨b1, (coV c).cells, 94⟩ (off := 1) (.int .i64 c.parts) (Zv (.int .i64 0) ?_)))))
    by_cases h4 : (c.parts : Int) < 0
    · refine yS (p := (c.parts : Int) < 0) true (by kernel_rfl) (fun _ => by kernel_rfl) (decide_eq_true (h4)) ?_
      refine Zv (.bool true) (Zv (.bool true) (Zk (Zk (Zk (Zk (Zv (.bool true) (ZY (z6 (z7 ?_)))))))))
      exact Zv (.bool false) (ZN (zF (zA (ZF (.bool false) Tryz.results101 (fun w hO => ⟨by rw [show c.may = false from Bool.eq_false_iff.2 fun q0 => by have q1 := Co.may_iff.1 q0; grind], hO.below⟩)))))
    refine Zd (p := (c.parts : Int) < 0) false (decide_eq_false (h4)) (Zv (.bool false) (Zv (.bool false) (Zv (.pointer (some ⟨b1, 1, none⟩)) (Zl 0 ⟨b1, (coV c).cells, 94⟩ (off := 1) (.int .i64 c.parts) (Zv (.int .i64 2) ?_)))))
    by_cases h5 : (2 : Int) < c.parts
    · refine yS (p := (2 : Int) < c.parts) true (by kernel_rfl) (fun _ => by kernel_rfl) (decide_eq_true (h5)) ?_
      refine Zv (.bool true) (ZY (ZO (Zv (.bool false) (ZN (zF (zA (ZF (.bool false) Tryz.results101 ?_)))))))
      exact fun w hO => ⟨by rw [show c.may = false from Bool.eq_false_iff.2 fun q0 => by have q1 := Co.may_iff.1 q0; grind], hO.below⟩
    refine Zd (p := (2 : Int) < c.parts) false (decide_eq_false (h5)) (Zv (.bool false) (ZX (ZB (z6 (z6 (dH (by kernel_rfl) (ZT 0 [] _ (.pointer (some ⟨b1, 2, none⟩)) (zK (zK zO)) rfl (ZL 1 [] _ 0 ⟨b1, (coV c).cells, 94⟩ (off := 2) (.agg #[.int .i64 c.v.maj, .int .i64 c.v.min, .int .i64 c.v.pat, .string (mkS c.v.pre), .string (mkS c.v.build)]) (zK (zK zO)) rfl rfl ?_))))))))
    refine ZT 3 [] _ (.pointer (some ⟨b1, 1, none⟩)) (zK (zK zO)) rfl (ZL 4 [] _ 0 ⟨b1, (coV c).cells, 94⟩ (off := 1) (.int .i64 c.parts) (zK (zK zO)) rfl rfl (ZT 7 [] _ (.int .i64 0) (zK (zK zO)) rfl (y6 2 (by kernel_rfl) (vK _ (k := 139) (args := #[.agg #[.int .i64 c.v.maj, .int .i64 c.v.min, .int .i64 c.v.pat, .string (mkS c.v.pre), .string (mkS c.v.build)]]) (fun v' L' => ∃ ob', L' = ob' ++ ([] ++ ([⟨b1, (coV c).cells, 94⟩])) ∧ ∃ g, v' = .slice (some ⟨g, 0, none⟩) 3 3 ∧ ob' = [⟨g, qV c.v, 3⟩]) rfl (by kernel_rfl) (fun _ => by kernel_rfl) (fun w hO => (mH c.v w).mono fun e w' ⟨v', ob', k1, k2, k3⟩ => ⟨v', _, k1, ⟨ob', rfl, k2⟩, Own.joinN hO k3⟩) (fun v' L' ⟨ob', e, _⟩ w hO => by subst e; exact Own.sub [] (Own.sub ob' hO)) (fun v1 L2 hv2 => ?_)))))
    obtain ⟨o1, rfl, hr1⟩ := hv2
    obtain ⟨g1, rfl, ho1⟩ := hr1
    refine dL (L' := (o1 ++ ([] : List Blk)) ++ ([⟨b1, (coV c).cells, 94⟩])) (List.append_assoc _ _ _).symm (wY 5 (o1 ++ ([] : List Blk)) _ (.slice (some ⟨g1, 0 + (if 3 = c.parts.toNat then 0 else c.parts.toNat * 1), none⟩) (3 - c.parts.toNat : Nat) (3 - c.parts.toNat : Nat)) rfl (by kernel_rfl) (by kernel_rfl) (by kernel_rfl) (zK (zK zO)) (by kernel_rfl) (fun w _ => run_sllo (b := g1) (off := 0) (n := 3) (c := 3) (k := .i64) (j := c.parts) (e := 3) (sz := 1) rfl (by kernel_rfl) (by kernel_rfl) (by kernel_rfl) (by kernel_rfl) (by omega) (by omega) w) (ZT 6 (o1 ++ ([] : List Blk)) _ (.int .i64 ((3 - c.parts.toNat : Nat) : Int)) (zK (zK zO)) rfl (x7 (by kernel_rfl) (zB (zL (kJ (L' := [⟨g1, qV c.v, 3⟩, ⟨b1, (coV c).cells, 94⟩]) (by rw [ho1]; rfl) (xA (fun L f m => ∃ (k : Nat) (j : Nat → Value), (k ≤ 3 - c.parts.toNat ∧ ∀ j, c.parts.toNat ≤ j → j < c.parts.toNat + k → x5 c.v.maj c.v.min c.v.pat j = 0) ∧ L = [⟨g1, qV c.v, 3⟩, ⟨b1, (coV c).cells, 94⟩] ∧ f = g9 j [(1, .pointer (some ⟨b1, 0, none⟩)), (35, .slice (some ⟨g1, 0 + (if 3 = c.parts.toNat then 0 else c.parts.toNat * 1), none⟩) (3 - c.parts.toNat : Nat) (3 - c.parts.toNat : Nat)), (36, .int .i64 ((3 - c.parts.toNat : Nat) : Int)), (37, .int .i64 (k : Int))] ∧ m = 3 - c.parts.toNat - k) (3 - c.parts.toNat - 0) ⟨0, _, ⟨Nat.zero_le _, fun j h1 h2 => absurd h2 (by omega)⟩, rfl, ZU, rfl⟩ ?_)))))))
    rintro L f m ⟨k, j, hrel, rfl, rfl, rfl⟩
    have hkl := hrel.1
    refine z6 (z7 ?_)
    by_cases h6 : (k : Int) < ((3 - c.parts.toNat : Nat) : Int)
    · refine yS (p := (k : Int) < ((3 - c.parts.toNat : Nat) : Int)) true (by kernel_rfl) (fun _ => by kernel_rfl) (decide_eq_true (h6)) ?_
      refine ZN (z6 (Zt (ZB (z6 (zL (ZO (zW (.pointer (some ⟨g1, c.parts.toNat + k, none⟩)) (by kernel_rfl) (jA (b := g1) (off := 0 + (if 3 = c.parts.toNat then 0 else c.parts.toNat * 1)) (n := (3 - c.parts.toNat : Nat)) (c := (3 - c.parts.toNat : Nat)) (k := .i64) (j := (k : Int)) (e := 3) (sz := 1) rfl (by kernel_rfl) (by kernel_rfl) (by kernel_rfl) (by kernel_rfl) (by omega) (by omega) (by rw [if_neg (by omega)]; omega)) (qS 0 ⟨g1, qV c.v, 3⟩ (off := c.parts.toNat + k) (.int .i64 (x5 c.v.maj c.v.min c.v.pat (c.parts.toNat + k))) (by kernel_rfl) rfl (by kernel_rfl) (by kernel_rfl) (rd_nums c.v _ (by omega)) ?_))))))))
      refine Zv (.int .i64 (x5 c.v.maj c.v.min c.v.pat (c.parts.toNat + k))) (ZR (Zv (.int .i64 (x5 c.v.maj c.v.min c.v.pat (c.parts.toNat + k))) ?_))
      by_cases h7 : (x5 c.v.maj c.v.min c.v.pat (c.parts.toNat + k) : Int) = 0
      · refine d9 (p := (x5 c.v.maj c.v.min c.v.pat (c.parts.toNat + k) : Int) = 0) true (by kernel_rfl) (fun _ => by kernel_rfl) (decide_eq_true (h7)) ?_
        exact ZX (xK (zP (zB (z7 (Zu (k := .i64) (((k + 1 : Nat) : Int)) (IntWalk.i64_in _ (by omega)) (Zv (.int .i64 ((k + 1 : Nat) : Int)) (zT (zX (m' := 3 - c.parts.toNat - (k + 1)) (by omega) ⟨k + 1, _, ⟨by omega, zero_on hrel.2 h7⟩, rfl, ZU, rfl⟩))))))))
      refine Zn (p := (x5 c.v.maj c.v.min c.v.pat (c.parts.toNat + k) : Int) = 0) false (decide_eq_false (h7)) (ZY (ZO (Zv (.bool false) (ZN (zF (zH (zA ?_)))))))
      exact yT (zH (zA (ZF (.bool false) Tryz.results101 (fun w hO => ⟨by rw [may_bad (k := k) (by omega) h7], hO.below⟩))))
    refine Zd (p := (k : Int) < ((3 - c.parts.toNat : Nat) : Int)) false (decide_eq_false (h6)) (ZN (z6 (Zf (y8 (z8 (zQ (zG (zB (z6 (z7 ?_))))))))))
    refine Zv (.pointer (some ⟨b1, 2, none⟩)) (Zl 1 ⟨b1, (coV c).cells, 94⟩ (off := 2) (.agg #[.int .i64 c.v.maj, .int .i64 c.v.min, .int .i64 c.v.pat, .string (mkS c.v.pre), .string (mkS c.v.build)]) (Zc (k := 147) (args := #[.agg #[.int .i64 c.v.maj, .int .i64 c.v.min, .int .i64 c.v.pat, .string (mkS c.v.pre), .string (mkS c.v.build)]]) (.bool c.v.may) (fun w _ => qN c.v w (Nat.lt_of_le_of_lt hc.1 (by decide)) (Nat.lt_of_le_of_lt hc.2 (by decide))) (Zv (.bool c.v.may) ?_)))
    cases h8 : c.v.may with
    | true =>
      refine Zv (.pointer (some ⟨b1, 2, none⟩)) (Zv (.pointer (some ⟨b1, 6, none⟩)) (Zl 1 ⟨b1, (coV c).cells, 94⟩ (off := 6) (.string (mkS c.v.build)) ?_))
      by_cases h9 : (c.v.build : List UInt8) = []
      · refine zW (.bool true) (by kernel_rfl) (yE (a := c.v.build) (b := ([])) rfl (by kernel_rfl) (by kernel_rfl) (decide_eq_true (h9))) ?_
        refine Zv (.bool true) (Zv (.bool true) (Zv (.pointer (some ⟨b1, 2, none⟩)) (Zv (.pointer (some ⟨b1, 5, none⟩)) (Zl 1 ⟨b1, (coV c).cells, 94⟩ (off := 5) (.string (mkS c.v.pre)) ?_))))
        by_cases h10 : (c.v.pre : List UInt8) = []
        · refine zW (.bool true) (by kernel_rfl) (yE (a := c.v.pre) (b := ([])) rfl (by kernel_rfl) (by kernel_rfl) (decide_eq_true (h10))) ?_
          exact Zv (.bool true) (Zk (Zk (Zk (Zv (.bool true) (Zv (.bool true) (Zv (.bool true) (ZN (zF (ZF (.bool true) Tryz.results101 (fun w hO => ⟨by rw [wW ⟨by omega, by omega⟩ (fun _ => by omega) (fun _ => by omega) (fun j q1 q2 => hrel.2 j q1 (by omega))]; simp [h1, h2, h3, h4, h5, h6, h8, h9, h10], hO.below⟩))))))))))
        refine zW (.bool false) (by kernel_rfl) (yE (a := c.v.pre) (b := ([])) rfl (by kernel_rfl) (by kernel_rfl) (decide_eq_false (h10))) (Zv (.bool false) (Zv (.pointer (some ⟨b1, 1, none⟩)) (Zl 1 ⟨b1, (coV c).cells, 94⟩ (off := 1) (.int .i64 c.parts) ?_)))
        by_cases h11 : (c.parts : Int) = 3
        · refine yS (p := (c.parts : Int) = 3) true (by kernel_rfl) (fun _ => by kernel_rfl) (decide_eq_true (h11)) ?_
          exact Zv (.bool true) (Zv (.bool true) (Zv (.bool true) (ZN (zF (ZF (.bool true) Tryz.results101 (fun w hO => ⟨by rw [wW ⟨by omega, by omega⟩ (fun _ => by omega) (fun _ => by omega) (fun j q1 q2 => hrel.2 j q1 (by omega))]; simp [h1, h2, h3, h4, h5, h6, h8, h9, h10, h11], hO.below⟩))))))
        exact Zd (p := (c.parts : Int) = 3) false (decide_eq_false (h11)) (Zv (.bool false) (Zv (.bool false) (Zv (.bool false) (ZN (zF (ZF (.bool false) Tryz.results101 (fun w hO => ⟨by rw [wW ⟨by omega, by omega⟩ (fun _ => by omega) (fun _ => by omega) (fun j q1 q2 => hrel.2 j q1 (by omega))]; simp [h1, h2, h3, h4, h5, h6, h8, h9, h10, h11], hO.below⟩)))))))
      refine zW (.bool false) (by kernel_rfl) (yE (a := c.v.build) (b := ([])) rfl (by kernel_rfl) (by kernel_rfl) (decide_eq_false (h9))) (Zv (.bool false) (Zv (.bool false) (Zk (Zk (Zk (Zk (Zk (Zk (Zk (Zk (Zk ?_)))))))))))
      exact Zv (.bool false) (Zv (.bool false) (ZN (zF (ZF (.bool false) Tryz.results101 (fun w hO => ⟨by rw [wW ⟨by omega, by omega⟩ (fun _ => by omega) (fun _ => by omega) (fun j q1 q2 => hrel.2 j q1 (by omega))]; simp [h1, h2, h3, h4, h5, h6, h8, h9], hO.below⟩)))))
    | false =>
      refine Zk (Zk (Zk (Zk (Zv (.bool false) (Zv (.bool false) (Zk (Zk (Zk (Zk (Zk (Zk ?_)))))))))))
      exact Zk (Zk (Zk (Zv (.bool false) (Zv (.bool false) (ZN (zF (ZF (.bool false) Tryz.results101 (fun w hO => ⟨by rw [wW ⟨by omega, by omega⟩ (fun _ => by omega) (fun _ => by omega) (fun j q1 q2 => hrel.2 j q1 (by omega))]; simp [h1, h2, h3, h4, h5, h6, h8], hO.below⟩))))))))
  refine Zd (p := (c.op : Int) = 9) false (decide_eq_false (h1)) (ZX (ZB (z6 (ZO (Zv (.pointer (some ⟨b1, 0, none⟩)) (Zl 0 ⟨b1, (coV c).cells, 94⟩ (off := 0) (.int .i64 c.op) ?_))))))
  by_cases h12 : (c.op : Int) < 1
  · refine yS (p := (c.op : Int) < 1) true (by kernel_rfl) (fun _ => by kernel_rfl) (decide_eq_true (h12)) ?_
    refine Zv (.bool true) (Zk (Zk (Zk (Zv (.bool true) (Zv (.bool true) (Zk (Zk (Zk (Zk (Zv (.bool true) (Zv (.bool true) ?_)))))))))))
    refine Zk (Zk (Zk (Zk (Zv (.bool true) (ZY (ZO (Zv (.bool false) (zT ?_))))))))
    exact zB (zF (zA (ZF (.bool false) Tryz.results101 (fun w hO => ⟨by rw [show c.may = false from Bool.eq_false_iff.2 fun q0 => by have q1 := Co.may_iff.1 q0; grind], hO.below⟩))))
  refine Zd (p := (c.op : Int) < 1) false (decide_eq_false (h12)) (Zv (.bool false) (Zv (.pointer (some ⟨b1, 0, none⟩)) (Zl 0 ⟨b1, (coV c).cells, 94⟩ (off := 0) (.int .i64 c.op) ?_)))
  by_cases h13 : (9 : Int) < c.op
  · refine yS (p := (9 : Int) < c.op) true (by kernel_rfl) (fun _ => by kernel_rfl) (decide_eq_true (h13)) ?_
    refine Zv (.bool true) (Zv (.bool true) (Zk (Zk (Zk (Zk (Zv (.bool true) (Zv (.bool true) (Zk (Zk (Zk (Zk ?_)))))))))))
    refine Zv (.bool true) (ZY (ZO (Zv (.bool false) (ZN (zF (zA (ZF (.bool false) Tryz.results101 ?_)))))))
    exact fun w hO => ⟨by rw [show c.may = false from Bool.eq_false_iff.2 fun q0 => by have q1 := Co.may_iff.1 q0; grind], hO.below⟩
  refine Zd (p := (9 : Int) < c.op) false (decide_eq_false (h13)) (Zv (.bool false) (Zv (.bool false) (Zv (.pointer (some ⟨b1, 1, none⟩)) (Zl 0 ⟨b1, (coV c).cells, 94⟩ (off := 1) (.int .i64 c.parts) (Zv (.int .i64 1) ?_)))))
  by_cases h14 : (c.parts : Int) < 1
  · refine yS (p := (c.parts : Int) < 1) true (by kernel_rfl) (fun _ => by kernel_rfl) (decide_eq_true (h14)) ?_
    refine Zv (.bool true) (Zv (.bool true) (Zk (Zk (Zk (Zk (Zv (.bool true) (ZY (z6 (z7 ?_)))))))))
    exact Zv (.bool false) (ZN (zF (zA (ZF (.bool false) Tryz.results101 (fun w hO => ⟨by rw [show c.may = false from Bool.eq_false_iff.2 fun q0 => by have q1 := Co.may_iff.1 q0; grind], hO.below⟩)))))
  refine Zd (p := (c.parts : Int) < 1) false (decide_eq_false (h14)) (Zv (.bool false) (Zv (.bool false) (Zv (.pointer (some ⟨b1, 1, none⟩)) (Zl 0 ⟨b1, (coV c).cells, 94⟩ (off := 1) (.int .i64 c.parts) (Zv (.int .i64 3) ?_)))))
  by_cases h15 : (3 : Int) < c.parts
  · refine yS (p := (3 : Int) < c.parts) true (by kernel_rfl) (fun _ => by kernel_rfl) (decide_eq_true (h15)) ?_
    refine Zv (.bool true) (ZY (ZO (Zv (.bool false) (ZN (zF (zA (ZF (.bool false) Tryz.results101 ?_)))))))
    exact fun w hO => ⟨by rw [show c.may = false from Bool.eq_false_iff.2 fun q0 => by have q1 := Co.may_iff.1 q0; grind], hO.below⟩
  refine Zd (p := (3 : Int) < c.parts) false (decide_eq_false (h15)) (Zv (.bool false) (ZX (ZB (z6 (z6 (dH (by kernel_rfl) (ZT 0 [] _ (.pointer (some ⟨b1, 2, none⟩)) (zK (zK zO)) rfl (ZL 1 [] _ 0 ⟨b1, (coV c).cells, 94⟩ (off := 2) (.agg #[.int .i64 c.v.maj, .int .i64 c.v.min, .int .i64 c.v.pat, .string (mkS c.v.pre), .string (mkS c.v.build)]) (zK (zK zO)) rfl rfl ?_))))))))
  refine ZT 3 [] _ (.pointer (some ⟨b1, 1, none⟩)) (zK (zK zO)) rfl (ZL 4 [] _ 0 ⟨b1, (coV c).cells, 94⟩ (off := 1) (.int .i64 c.parts) (zK (zK zO)) rfl rfl (ZT 7 [] _ (.int .i64 0) (zK (zK zO)) rfl (y6 2 (by kernel_rfl) (vK _ (k := 139) (args := #[.agg #[.int .i64 c.v.maj, .int .i64 c.v.min, .int .i64 c.v.pat, .string (mkS c.v.pre), .string (mkS c.v.build)]]) (fun v' L' => ∃ ob', L' = ob' ++ ([] ++ ([⟨b1, (coV c).cells, 94⟩])) ∧ ∃ g, v' = .slice (some ⟨g, 0, none⟩) 3 3 ∧ ob' = [⟨g, qV c.v, 3⟩]) rfl (by kernel_rfl) (fun _ => by kernel_rfl) (fun w hO => (mH c.v w).mono fun e w' ⟨v', ob', k1, k2, k3⟩ => ⟨v', _, k1, ⟨ob', rfl, k2⟩, Own.joinN hO k3⟩) (fun v' L' ⟨ob', e, _⟩ w hO => by subst e; exact Own.sub [] (Own.sub ob' hO)) (fun v1 L2 hv2 => ?_)))))
  obtain ⟨o1, rfl, hr1⟩ := hv2
  obtain ⟨g1, rfl, ho1⟩ := hr1
  refine dL (L' := (o1 ++ ([] : List Blk)) ++ ([⟨b1, (coV c).cells, 94⟩])) (List.append_assoc _ _ _).symm (wY 5 (o1 ++ ([] : List Blk)) _ (.slice (some ⟨g1, 0 + (if 3 = c.parts.toNat then 0 else c.parts.toNat * 1), none⟩) (3 - c.parts.toNat : Nat) (3 - c.parts.toNat : Nat)) rfl (by kernel_rfl) (by kernel_rfl) (by kernel_rfl) (zK (zK zO)) (by kernel_rfl) (fun w _ => run_sllo (b := g1) (off := 0) (n := 3) (c := 3) (k := .i64) (j := c.parts) (e := 3) (sz := 1) rfl (by kernel_rfl) (by kernel_rfl) (by kernel_rfl) (by kernel_rfl) (by omega) (by omega) w) (ZT 6 (o1 ++ ([] : List Blk)) _ (.int .i64 ((3 - c.parts.toNat : Nat) : Int)) (zK (zK zO)) rfl (x7 (by kernel_rfl) (zB (zL (kJ (L' := [⟨g1, qV c.v, 3⟩, ⟨b1, (coV c).cells, 94⟩]) (by rw [ho1]; rfl) (xA (fun L f m => ∃ (k : Nat) (j : Nat → Value), (k ≤ 3 - c.parts.toNat ∧ ∀ j, c.parts.toNat ≤ j → j < c.parts.toNat + k → x5 c.v.maj c.v.min c.v.pat j = 0) ∧ L = [⟨g1, qV c.v, 3⟩, ⟨b1, (coV c).cells, 94⟩] ∧ f = g9 j [(1, .pointer (some ⟨b1, 0, none⟩)), (35, .slice (some ⟨g1, 0 + (if 3 = c.parts.toNat then 0 else c.parts.toNat * 1), none⟩) (3 - c.parts.toNat : Nat) (3 - c.parts.toNat : Nat)), (36, .int .i64 ((3 - c.parts.toNat : Nat) : Int)), (37, .int .i64 (k : Int))] ∧ m = 3 - c.parts.toNat - k) (3 - c.parts.toNat - 0) ⟨0, _, ⟨Nat.zero_le _, fun j h1 h2 => absurd h2 (by omega)⟩, rfl, ZU, rfl⟩ ?_)))))))
  rintro L f m ⟨k, j, hrel, rfl, rfl, rfl⟩
  have hkl := hrel.1
  refine z6 (z7 ?_)
  by_cases h16 : (k : Int) < ((3 - c.parts.toNat : Nat) : Int)
  · refine yS (p := (k : Int) < ((3 - c.parts.toNat : Nat) : Int)) true (by kernel_rfl) (fun _ => by kernel_rfl) (decide_eq_true (h16)) ?_
    refine ZN (z6 (Zt (ZB (z6 (zL (ZO (zW (.pointer (some ⟨g1, c.parts.toNat + k, none⟩)) (by kernel_rfl) (jA (b := g1) (off := 0 + (if 3 = c.parts.toNat then 0 else c.parts.toNat * 1)) (n := (3 - c.parts.toNat : Nat)) (c := (3 - c.parts.toNat : Nat)) (k := .i64) (j := (k : Int)) (e := 3) (sz := 1) rfl (by kernel_rfl) (by kernel_rfl) (by kernel_rfl) (by kernel_rfl) (by omega) (by omega) (by rw [if_neg (by omega)]; omega)) (qS 0 ⟨g1, qV c.v, 3⟩ (off := c.parts.toNat + k) (.int .i64 (x5 c.v.maj c.v.min c.v.pat (c.parts.toNat + k))) (by kernel_rfl) rfl (by kernel_rfl) (by kernel_rfl) (rd_nums c.v _ (by omega)) ?_))))))))
    refine Zv (.int .i64 (x5 c.v.maj c.v.min c.v.pat (c.parts.toNat + k))) (ZR (Zv (.int .i64 (x5 c.v.maj c.v.min c.v.pat (c.parts.toNat + k))) ?_))
    by_cases h17 : (x5 c.v.maj c.v.min c.v.pat (c.parts.toNat + k) : Int) = 0
    · refine d9 (p := (x5 c.v.maj c.v.min c.v.pat (c.parts.toNat + k) : Int) = 0) true (by kernel_rfl) (fun _ => by kernel_rfl) (decide_eq_true (h17)) ?_
      exact ZX (xK (zP (zB (z7 (Zu (k := .i64) (((k + 1 : Nat) : Int)) (IntWalk.i64_in _ (by omega)) (Zv (.int .i64 ((k + 1 : Nat) : Int)) (zT (zX (m' := 3 - c.parts.toNat - (k + 1)) (by omega) ⟨k + 1, _, ⟨by omega, zero_on hrel.2 h17⟩, rfl, ZU, rfl⟩))))))))
    refine Zn (p := (x5 c.v.maj c.v.min c.v.pat (c.parts.toNat + k) : Int) = 0) false (decide_eq_false (h17)) (ZY (ZO (Zv (.bool false) (ZN (zF (zH (zA ?_)))))))
    exact yT (zH (zA (ZF (.bool false) Tryz.results101 (fun w hO => ⟨by rw [may_bad (k := k) (by omega) h17], hO.below⟩))))
  refine Zd (p := (k : Int) < ((3 - c.parts.toNat : Nat) : Int)) false (decide_eq_false (h16)) (ZN (z6 (Zf (y8 (z8 (zQ (zG (zB (z6 (z7 ?_))))))))))
  refine Zv (.pointer (some ⟨b1, 2, none⟩)) (Zl 1 ⟨b1, (coV c).cells, 94⟩ (off := 2) (.agg #[.int .i64 c.v.maj, .int .i64 c.v.min, .int .i64 c.v.pat, .string (mkS c.v.pre), .string (mkS c.v.build)]) (Zc (k := 147) (args := #[.agg #[.int .i64 c.v.maj, .int .i64 c.v.min, .int .i64 c.v.pat, .string (mkS c.v.pre), .string (mkS c.v.build)]]) (.bool c.v.may) (fun w _ => qN c.v w (Nat.lt_of_le_of_lt hc.1 (by decide)) (Nat.lt_of_le_of_lt hc.2 (by decide))) (Zv (.bool c.v.may) ?_)))
  cases h18 : c.v.may with
  | true =>
    refine Zv (.pointer (some ⟨b1, 2, none⟩)) (Zv (.pointer (some ⟨b1, 6, none⟩)) (Zl 1 ⟨b1, (coV c).cells, 94⟩ (off := 6) (.string (mkS c.v.build)) ?_))
    by_cases h19 : (c.v.build : List UInt8) = []
    · refine zW (.bool true) (by kernel_rfl) (yE (a := c.v.build) (b := ([])) rfl (by kernel_rfl) (by kernel_rfl) (decide_eq_true (h19))) ?_
      refine Zv (.bool true) (Zv (.bool true) (Zv (.pointer (some ⟨b1, 2, none⟩)) (Zv (.pointer (some ⟨b1, 5, none⟩)) (Zl 1 ⟨b1, (coV c).cells, 94⟩ (off := 5) (.string (mkS c.v.pre)) ?_))))
      by_cases h20 : (c.v.pre : List UInt8) = []
      · refine zW (.bool true) (by kernel_rfl) (yE (a := c.v.pre) (b := ([])) rfl (by kernel_rfl) (by kernel_rfl) (decide_eq_true (h20))) ?_
        exact Zv (.bool true) (Zk (Zk (Zk (Zv (.bool true) (Zv (.bool true) (Zv (.bool true) (ZN (zF (ZF (.bool true) Tryz.results101 (fun w hO => ⟨by rw [wW ⟨by omega, by omega⟩ (fun _ => by omega) (fun _ => by omega) (fun j q1 q2 => hrel.2 j q1 (by omega))]; simp [h1, h12, h13, h14, h15, h16, h18, h19, h20], hO.below⟩))))))))))
      refine zW (.bool false) (by kernel_rfl) (yE (a := c.v.pre) (b := ([])) rfl (by kernel_rfl) (by kernel_rfl) (decide_eq_false (h20))) (Zv (.bool false) (Zv (.pointer (some ⟨b1, 1, none⟩)) (Zl 1 ⟨b1, (coV c).cells, 94⟩ (off := 1) (.int .i64 c.parts) ?_)))
      by_cases h21 : (c.parts : Int) = 3
      · refine yS (p := (c.parts : Int) = 3) true (by kernel_rfl) (fun _ => by kernel_rfl) (decide_eq_true (h21)) ?_
        exact Zv (.bool true) (Zv (.bool true) (Zv (.bool true) (ZN (zF (ZF (.bool true) Tryz.results101 (fun w hO => ⟨by rw [wW ⟨by omega, by omega⟩ (fun _ => by omega) (fun _ => by omega) (fun j q1 q2 => hrel.2 j q1 (by omega))]; simp [h1, h12, h13, h14, h15, h16, h18, h19, h20, h21], hO.below⟩))))))
      exact Zd (p := (c.parts : Int) = 3) false (decide_eq_false (h21)) (Zv (.bool false) (Zv (.bool false) (Zv (.bool false) (ZN (zF (ZF (.bool false) Tryz.results101 (fun w hO => ⟨by rw [wW ⟨by omega, by omega⟩ (fun _ => by omega) (fun _ => by omega) (fun j q1 q2 => hrel.2 j q1 (by omega))]; simp [h1, h12, h13, h14, h15, h16, h18, h19, h20, h21], hO.below⟩)))))))
    refine zW (.bool false) (by kernel_rfl) (yE (a := c.v.build) (b := ([])) rfl (by kernel_rfl) (by kernel_rfl) (decide_eq_false (h19))) (Zv (.bool false) (Zv (.bool false) (Zk (Zk (Zk (Zk (Zk (Zk (Zk (Zk (Zk ?_)))))))))))
    exact Zv (.bool false) (Zv (.bool false) (ZN (zF (ZF (.bool false) Tryz.results101 (fun w hO => ⟨by rw [wW ⟨by omega, by omega⟩ (fun _ => by omega) (fun _ => by omega) (fun j q1 q2 => hrel.2 j q1 (by omega))]; simp [h1, h12, h13, h14, h15, h16, h18, h19], hO.below⟩)))))
  | false =>
    refine Zk (Zk (Zk (Zk (Zv (.bool false) (Zv (.bool false) (Zk (Zk (Zk (Zk (Zk (Zk ?_)))))))))))
    exact Zk (Zk (Zk (Zv (.bool false) (Zv (.bool false) (ZN (zF (ZF (.bool false) Tryz.results101 (fun w hO => ⟨by rw [wW ⟨by omega, by omega⟩ (fun _ => by omega) (fun _ => by omega) (fun j q1 q2 => hrel.2 j q1 (by omega))]; simp [h1, h12, h13, h14, h15, h16, h18], hO.below⟩))))))))
theorem tY (op : Int) (W : World) : Calls Tryz.prog 137 #[.int .i64 op] W fun e w' => e = .returned (.string (mkS (yB op))) ∧ Below W.heap.size W w' := by
  refine zR (n := 25) Tryz.func137 rfl (by kernel_rfl) (by kernel_rfl) (ZO (Zv (.string ⟨#[]⟩) (ZR (Zv (.string ⟨#[]⟩) (Zv (.string ⟨#[]⟩) (zT (zB ?_)))))))
  refine z6 (ZO (Zv (.int .i64 op) (ZN (zL (z6 (zL (z6 (zL (z6 ?_)))))))))
  refine zL (z6 (zL (z6 (zL (z6 (zL (z6 (zL (z6 (zL (z6 ?_)))))))))))
  refine z6 (z6 (z7 ?_))
  by_cases h1 : (op : Int) = 2
  · refine yS (p := (op : Int) = 2) true (by kernel_rfl) (fun _ => by kernel_rfl) (decide_eq_true (h1)) ?_
    refine Zv (.bool true) (ZY (y8 (z8 (z8 (zG (zB (z7 (Zv (.string ⟨#[33]⟩) (zT ?_)))))))))
    refine zP (zB (ZO (Zv (.string ⟨#[61]⟩) (ZN (y8 (zD (by decide) (z8 (zD (by decide) (z8 ?_)))))))))
    refine zD (by decide) (z8 (zD (by decide) (z8 (zD (by decide) (z8 (zD (by decide) (z8 (zG (zB (z6 (z7 ?_)))))))))))
    exact Zv (.string ⟨#[33]⟩) (Zv (.string ⟨#[61]⟩) (zW (.string (mkS ([33] ++ [61]))) (by kernel_rfl) (xR (a := [33]) (b := [61]) rfl (by kernel_rfl) (by kernel_rfl) (by decide)) (Zv (.string (mkS ([33] ++ [61]))) (ZN (zF (ZF (.string (mkS ([33] ++ [61]))) Tryz.results137 (fun w hO => ⟨by unfold yB; simp [h1], hO.below⟩)))))))
  refine Zd (p := (op : Int) = 2) false (decide_eq_false (h1)) (Zv (.bool false) (ZX (ZB (z6 (z6 (z7 ?_))))))
  by_cases h2 : (op : Int) = 1
  · refine yS (p := (op : Int) = 1) true (by kernel_rfl) (fun _ => by kernel_rfl) (decide_eq_true (h2)) ?_
    refine Zv (.bool true) (ZY (y8 (z8 (z8 (zD (by decide) (z8 (zG (zB (z6 ?_)))))))))
    refine z7 (Zv (.string ⟨#[61]⟩) (ZN (y8 (zD (by decide) (z8 (zD (by decide) (z8 (zD (by decide) (z8 (zD (by decide) ?_))))))))))
    refine z8 (zD (by decide) (z8 (zD (by decide) (z8 (zG (zB (ZO (Zv (.string ⟨#[]⟩) (Zv (.string ⟨#[61]⟩) (zW (.string (mkS ([] ++ [61]))) (by kernel_rfl) (xR (a := []) (b := [61]) rfl (by kernel_rfl) (by kernel_rfl) (by decide)) ?_))))))))))
    exact Zv (.string (mkS ([] ++ [61]))) (ZN (zF (ZF (.string (mkS ([] ++ [61]))) Tryz.results137 (fun w hO => ⟨by unfold yB; simp [h1, h2], hO.below⟩))))
  refine Zd (p := (op : Int) = 1) false (decide_eq_false (h2)) (Zv (.bool false) (ZX (ZB (z6 (z6 (z7 ?_))))))
  by_cases h3 : (op : Int) = 4
  · refine yS (p := (op : Int) = 4) true (by kernel_rfl) (fun _ => by kernel_rfl) (decide_eq_true (h3)) ?_
    refine Zv (.bool true) (ZY (y8 (z8 (z8 (zD (by decide) (z8 (zD (by decide) (z8 (zG ?_)))))))))
    refine zB (z7 (Zv (.string ⟨#[61]⟩) (zT (zP (zB (ZO (Zv (.string ⟨#[60]⟩) (ZN (y8 ?_)))))))))
    refine zD (by decide) (z8 (zD (by decide) (z8 (zD (by decide) (z8 (zD (by decide) (z8 (zG (zB (z6 (z7 ?_)))))))))))
    exact Zv (.string ⟨#[60]⟩) (Zv (.string ⟨#[61]⟩) (zW (.string (mkS ([60] ++ [61]))) (by kernel_rfl) (xR (a := [60]) (b := [61]) rfl (by kernel_rfl) (by kernel_rfl) (by decide)) (Zv (.string (mkS ([60] ++ [61]))) (ZN (zF (ZF (.string (mkS ([60] ++ [61]))) Tryz.results137 (fun w hO => ⟨by unfold yB; simp [h1, h2, h3], hO.below⟩)))))))
  refine Zd (p := (op : Int) = 4) false (decide_eq_false (h3)) (Zv (.bool false) (ZX (ZB (z6 (z6 (z7 ?_))))))
  by_cases h4 : (op : Int) = 3
  · refine yS (p := (op : Int) = 3) true (by kernel_rfl) (fun _ => by kernel_rfl) (decide_eq_true (h4)) ?_
    refine Zv (.bool true) (ZY (y8 (z8 (z8 (zD (by decide) (z8 (zD (by decide) (z8 (zD (by decide) ?_)))))))))
    refine z8 (zG (zB (ZO (Zv (.string ⟨#[60]⟩) (ZN (y8 (zD (by decide) (z8 (zD (by decide) ?_)))))))))
    refine z8 (zD (by decide) (z8 (zD (by decide) (z8 (zG (zB (ZO (Zv (.string ⟨#[60]⟩) (Zv (.string ⟨#[]⟩) (zW (.string (mkS ([60] ++ []))) (by kernel_rfl) (xR (a := [60]) (b := []) rfl (by kernel_rfl) (by kernel_rfl) (by decide)) ?_))))))))))
    exact Zv (.string (mkS ([60] ++ []))) (ZN (zF (ZF (.string (mkS ([60] ++ []))) Tryz.results137 (fun w hO => ⟨by unfold yB; simp [h1, h2, h3, h4], hO.below⟩))))
  refine Zd (p := (op : Int) = 3) false (decide_eq_false (h4)) (Zv (.bool false) (ZX (ZB (z6 (z6 (z7 ?_))))))
  by_cases h5 : (op : Int) = 6
  · refine yS (p := (op : Int) = 6) true (by kernel_rfl) (fun _ => by kernel_rfl) (decide_eq_true (h5)) ?_
    refine Zv (.bool true) (ZY (y8 (z8 (z8 (zD (by decide) (z8 (zD (by decide) (z8 (zD (by decide) ?_)))))))))
    refine z8 (zD (by decide) (z8 (zG (zB (z7 (Zv (.string ⟨#[61]⟩) (zT (zP (zB (z6 (z7 ?_)))))))))))
    refine Zv (.string ⟨#[62]⟩) (ZN (y8 (zD (by decide) (z8 (zD (by decide) (z8 (zG (zB (z6 (z7 ?_))))))))))
    exact Zv (.string ⟨#[62]⟩) (Zv (.string ⟨#[61]⟩) (zW (.string (mkS ([62] ++ [61]))) (by kernel_rfl) (xR (a := [62]) (b := [61]) rfl (by kernel_rfl) (by kernel_rfl) (by decide)) (Zv (.string (mkS ([62] ++ [61]))) (ZN (zF (ZF (.string (mkS ([62] ++ [61]))) Tryz.results137 (fun w hO => ⟨by unfold yB; simp [h1, h2, h3, h4, h5], hO.below⟩)))))))
  refine Zd (p := (op : Int) = 6) false (decide_eq_false (h5)) (Zv (.bool false) (ZX (ZB (z6 (z6 (z7 ?_))))))
  by_cases h6 : (op : Int) = 5
  · refine yS (p := (op : Int) = 5) true (by kernel_rfl) (fun _ => by kernel_rfl) (decide_eq_true (h6)) ?_
    refine Zv (.bool true) (ZY (y8 (z8 (z8 (zD (by decide) (z8 (zD (by decide) (z8 (zD (by decide) ?_)))))))))
    refine z8 (zD (by decide) (z8 (zD (by decide) (z8 (zG (zB (ZO (Zv (.string ⟨#[62]⟩) (zT (zB ?_))))))))))
    refine y8 (zD (by decide) (z8 (zD (by decide) (z8 (zG (zB (ZO (Zv (.string ⟨#[62]⟩) (Zv (.string ⟨#[]⟩) (zW (.string (mkS ([62] ++ []))) (by kernel_rfl) (xR (a := [62]) (b := []) rfl (by kernel_rfl) (by kernel_rfl) (by decide)) ?_))))))))))
    exact Zv (.string (mkS ([62] ++ []))) (ZN (zF (ZF (.string (mkS ([62] ++ []))) Tryz.results137 (fun w hO => ⟨by unfold yB; simp [h1, h2, h3, h4, h5, h6], hO.below⟩))))
  refine Zd (p := (op : Int) = 5) false (decide_eq_false (h6)) (Zv (.bool false) (ZX (ZB (z6 (z6 (z7 ?_))))))
  by_cases h7 : (op : Int) = 7
  · refine yS (p := (op : Int) = 7) true (by kernel_rfl) (fun _ => by kernel_rfl) (decide_eq_true (h7)) ?_
    refine Zv (.bool true) (ZY (y8 (z8 (z8 (zD (by decide) (z8 (zD (by decide) (z8 (zD (by decide) ?_)))))))))
    refine z8 (zD (by decide) (z8 (zD (by decide) (z8 (zD (by decide) (z8 (zG (zB (ZO (Zv (.string ⟨#[94]⟩) ?_))))))))))
    refine ZN (y8 (zD (by decide) (z8 (zG (zB (ZO (Zv (.string ⟨#[94]⟩) (Zv (.string ⟨#[]⟩) (zW (.string (mkS ([94] ++ []))) (by kernel_rfl) (xR (a := [94]) (b := []) rfl (by kernel_rfl) (by kernel_rfl) (by decide)) ?_)))))))))
    exact Zv (.string (mkS ([94] ++ []))) (ZN (zF (ZF (.string (mkS ([94] ++ []))) Tryz.results137 (fun w hO => ⟨by unfold yB; simp [h1, h2, h3, h4, h5, h6, h7], hO.below⟩))))
  refine Zd (p := (op : Int) = 7) false (decide_eq_false (h7)) (Zv (.bool false) (ZX (ZB (z6 (z7 ?_)))))
  by_cases h8 : (op : Int) = 8
  · refine yS (p := (op : Int) = 8) true (by kernel_rfl) (fun _ => by kernel_rfl) (decide_eq_true (h8)) ?_
    refine Zv (.bool true) (ZY (y8 (z8 (zD (by decide) (z8 (zD (by decide) (z8 (zD (by decide) (z8 ?_)))))))))
    refine zD (by decide) (z8 (zD (by decide) (z8 (zD (by decide) (z8 (zD (by decide) (z8 (zG (zB (z6 (z7 ?_)))))))))))
    refine Zv (.string ⟨#[126]⟩) (ZN (y8 (zG (zB (ZO (Zv (.string ⟨#[126]⟩) (Zv (.string ⟨#[]⟩) (zW (.string (mkS ([126] ++ []))) (by kernel_rfl) (xR (a := [126]) (b := []) rfl (by kernel_rfl) (by kernel_rfl) (by decide)) (Zv (.string (mkS ([126] ++ []))) ?_)))))))))
    exact ZN (zF (ZF (.string (mkS ([126] ++ []))) Tryz.results137 (fun w hO => ⟨by unfold yB; simp [h1, h2, h3, h4, h5, h6, h7, h8], hO.below⟩)))
  refine Zd (p := (op : Int) = 8) false (decide_eq_false (h8)) (Zv (.bool false) (ZX (ZB (y8 (zD (by decide) (z8 (zD (by decide) (z8 ?_))))))))
  refine zD (by decide) (z8 (zD (by decide) (z8 (zD (by decide) (z8 (zD (by decide) (z8 (zD (by decide) (z8 (zD (by decide) (z8 ?_)))))))))))
  refine zG (zB (ZO (Zv (.string ⟨#[]⟩) (Zv (.string ⟨#[]⟩) (zW (.string (mkS ([] ++ []))) (by kernel_rfl) (xR (a := []) (b := []) rfl (by kernel_rfl) (by kernel_rfl) (by decide)) (Zv (.string (mkS ([] ++ []))) (ZN (zF (ZF (.string (mkS ([] ++ []))) Tryz.results137 ?_)))))))))
  exact fun w hO => ⟨by unfold yB; simp [h1, h2, h3, h4, h5, h6, h7, h8], hO.below⟩
theorem clead_any (c : Co) (W : World) (hc : c.short) (hp : 0 ≤ c.parts ∧ c.parts ≤ 3) : Calls Tryz.prog 186 #[coV c] W fun e w' => e = .returned (.int .i64 (qI c)) ∧ Below W.heap.size W w' := by
  refine zR (n := 21) Tryz.func186 rfl (by kernel_rfl) (by kernel_rfl) (ZO (Zb (coV c) (fun b1 => Zv (.int .i64 0) (ZN (z6 (ZO (Zv (.pointer (some ⟨b1, 2, none⟩)) (Zl 0 ⟨b1, (coV c).cells, 94⟩ (off := 2) (.agg #[.int .i64 c.v.maj, .int .i64 c.v.min, .int .i64 c.v.pat, .string (mkS c.v.pre), .string (mkS c.v.build)]) ?_))))))))
  refine zV (k := 139) (args := #[yK c.v]) (fun v' L' => ∃ g, v' = .slice (some ⟨g, 0, none⟩) 3 3 ∧ L' = ⟨g, qV c.v, 3⟩ :: [⟨b1, (coV c).cells, 94⟩]) (by kernel_rfl) (fun _ => by kernel_rfl) (fun w hO => (mH c.v w).mono fun e w' ⟨v', ob', k1, ⟨g, k2, k4⟩, k3⟩ => ⟨v', _, k1, ⟨g, k2, rfl⟩, by subst k4; exact Own.joinN hO k3⟩) (fun v1 L1 hv1 => ?_)
  obtain ⟨g1, rfl, rfl⟩ := hv1
  refine Zv (.int .i64 (3 : Int)) (Zv (.int .i64 0) (ZN (zL (xA (fun L f m => ∃ (k : Nat) (j : Nat → Value), (k ≤ 3 ∧ ∀ j, j < k → x5 c.v.maj c.v.min c.v.pat j = 0) ∧ L = [⟨g1, qV c.v, 3⟩, ⟨b1, (coV c).cells, 94⟩] ∧ f = g9 j [(1, .pointer (some ⟨b1, 0, none⟩)), (7, .slice (some ⟨g1, 0, none⟩) 3 3), (8, .int .i64 3), (9, .int .i64 (k : Int))] ∧ m = 3 - k) (3 - 0) ⟨0, _, ⟨Nat.zero_le _, fun j h2 => absurd h2 (Nat.not_lt_zero _)⟩, rfl, ZU, rfl⟩ ?_))))
  rintro L f m ⟨k, j, hrel, rfl, rfl, rfl⟩
  have hkl := hrel.1
  refine z6 (z7 ?_)
  by_cases h1 : (k : Int) < 3
  · refine yS (p := (k : Int) < 3) true (by kernel_rfl) (fun _ => by kernel_rfl) (decide_eq_true (h1)) ?_
    refine ZN (z6 (Zt (ZB (z6 (zL (ZO (Zv (.int .i64 (k : Int)) (zW (.pointer (some ⟨g1, 0 + k, none⟩)) (by kernel_rfl) (ZV (b := g1) (off := 0) (n := 3) (c := 3) (k := .i64) (j := (k : Int)) (e := 3) (sz := 1)) ?_))))))))
    refine qS 0 ⟨g1, qV c.v, 3⟩ (off := 0 + k) (.int .i64 (x5 c.v.maj c.v.min c.v.pat k)) (by kernel_rfl) rfl (by kernel_rfl) (by kernel_rfl) (by rw [Nat.zero_add]; exact rd_nums c.v k (by omega)) (Zv (.int .i64 (k : Int)) (Zv (.int .i64 (x5 c.v.maj c.v.min c.v.pat k)) (ZR (Zv (.int .i64 (x5 c.v.maj c.v.min c.v.pat k)) ?_))))
    by_cases h2 : (x5 c.v.maj c.v.min c.v.pat k : Int) = 0
    · refine d9 (p := (x5 c.v.maj c.v.min c.v.pat k : Int) = 0) true (by kernel_rfl) (fun _ => by kernel_rfl) (decide_eq_true (h2)) ?_
      exact ZX (xK (zP (zB (z7 (Zu (k := .i64) (((k + 1 : Nat) : Int)) (IntWalk.i64_in _ (by omega)) (Zv (.int .i64 ((k + 1 : Nat) : Int)) (zT (zX (m' := 3 - (k + 1)) (by omega) ⟨k + 1, _, ⟨by omega, zero_on0 hrel.2 h2⟩, rfl, ZU, rfl⟩))))))))
    refine Zn (p := (x5 c.v.maj c.v.min c.v.pat k : Int) = 0) false (decide_eq_false (h2)) (ZY (ZO (Zv (.int .i64 (k : Int)) (Zv (.int .i64 (k : Int)) (ZN (zF (zH ?_)))))))
    exact zA (yT (zH (zA (ZF (.int .i64 (k : Int)) Tryz.results186 (fun w hO => ⟨by rw [lead_at (by omega) hrel.2 h2], hO.below⟩)))))
  refine Zd (p := (k : Int) < 3) false (decide_eq_false (h1)) (ZN (z6 (Zf (y8 (z8 (zQ (zG (zB (z6 (z7 ?_))))))))))
  exact Zv (.pointer (some ⟨b1, 1, none⟩)) (Zl 1 ⟨b1, (coV c).cells, 94⟩ (off := 1) (.int .i64 c.parts) (Zu (k := .i64) ((c.parts : Int) - 1) (IntWalk.i64_in _ (by omega)) (Zv (.int .i64 ((c.parts : Int) - 1)) (ZN (zF (ZF (.int .i64 ((c.parts : Int) - 1)) Tryz.results186 (fun w hO => ⟨by rw [lead_end (fun j q2 => hrel.2 j (by omega))], hO.below⟩)))))))
theorem tZ (v : Ver) (z0 : Int) (W : World) (hv : v.short) (hz : -1 ≤ z0 ∧ z0 ≤ 2) : Calls Tryz.prog 185 #[yK v, .int .i64 z0] W fun e w' => e = .returned (zC (jF v z0)) ∧ Below W.heap.size W w' := by
  refine zR (n := 21) Tryz.func185 rfl (by kernel_rfl) (by kernel_rfl) (ZO (Zb (yK v) (fun b1 => Za (.agg #[.int .i64 0, .int .i64 0, .int .i64 0, .int .i64 0, .string ⟨#[]⟩, .string ⟨#[]⟩, .bool false]) (fun b2 => ZN (z6 (zL (xA (fun L f m => ∃ (z : Int) (j : Nat → Value), (-1 ≤ z ∧ z ≤ 2 ∧ jF v z0 = jF v z) ∧ L = [⟨b2, #[.int .i64 0, .int .i64 0, .int .i64 0, .int .i64 0, .string ⟨#[]⟩, .string ⟨#[]⟩, .bool false], 72⟩, ⟨b1, (yK v).cells, 70⟩] ∧ f = g9 j [(1, .int .i64 z), (2, .pointer (some ⟨b1, 0, none⟩)), (4, .pointer (some ⟨b2, 0, none⟩))] ∧ m = (z + 1).toNat) ((z0 + 1).toNat) ⟨z0, _, ⟨hz.1, hz.2, rfl⟩, rfl, ZU, rfl⟩ ?_)))))))
  rintro L f m ⟨z, j, hrel, rfl, rfl, rfl⟩
  refine z6 (ZO (Zv (.int .i64 z) ?_))
  by_cases h1 : (0 : Int) ≤ z
  · refine yS (p := (0 : Int) ≤ z) true (by kernel_rfl) (fun _ => by kernel_rfl) (decide_eq_true (h1)) ?_
    refine ZY (ZB (z6 (zL (ZO (Zl 1 ⟨b1, (yK v).cells, 70⟩ (off := 0) (yK v) (Zv (.int .i64 z) (Zc (k := 160) (args := #[yK v, .int .i64 z]) (.tuple #[yK (yO v z), .bool (y9 v z)]) (fun w _ => bump_any v z w hv.1 hv.2) ?_)))))))
    refine Zv (.tuple #[yK (yO v z), .bool (y9 v z)]) (Zv (yK (yO v z)) (Zv (.bool (y9 v z)) (Za (.agg #[.int .i64 0, .int .i64 0, .int .i64 0, .string ⟨#[]⟩, .string ⟨#[]⟩]) (fun b3 => Zs 0 ⟨b3, #[.int .i64 0, .int .i64 0, .int .i64 0, .string ⟨#[]⟩, .string ⟨#[]⟩], 70⟩ (off := 0) (yK (yO v z)) (Zv (.bool (y9 v z)) (ZR (Zv (.bool (y9 v z)) (zT ?_))))))))
    refine zB ?_
    cases h2 : y9 v z with
    | true =>
      refine Zt (ZO (Zl 0 ⟨b3, (yK (yO v z)).cells, 70⟩ (off := 0) (yK (yO v z)) (Zv (.agg #[.int .i64 0, .int .i64 ((yO v z).maj), .int .i64 ((yO v z).min), .int .i64 ((yO v z).pat), .string (mkS (yO v z).pre), .string (mkS (yO v z).build), .bool false]) (Zs 1 ⟨b2, #[.int .i64 0, .int .i64 0, .int .i64 0, .int .i64 0, .string ⟨#[]⟩, .string ⟨#[]⟩, .bool false], 72⟩ (off := 0) (.agg #[.int .i64 0, .int .i64 ((yO v z).maj), .int .i64 ((yO v z).min), .int .i64 ((yO v z).pat), .string (mkS (yO v z).pre), .string (mkS (yO v z).build), .bool false]) (ZN (zF (zH (zA (yT ?_)))))))))
      exact zH (zA (ZC 1 ⟨b2, #[.int .i64 0, .int .i64 ((yO v z).maj), .int .i64 ((yO v z).min), .int .i64 ((yO v z).pat), .string (mkS (yO v z).pre), .string (mkS (yO v z).build), .bool false], 72⟩ (off := 0) (.agg #[.int .i64 0, .int .i64 ((yO v z).maj), .int .i64 ((yO v z).min), .int .i64 ((yO v z).pat), .string (mkS (yO v z).pre), .string (mkS (yO v z).build), .bool false]) Tryz.results185 (fun w hO => ⟨by rw [hrel.2.2, highZ_hit (by omega) (by assumption)]; rfl, hO.below⟩)))
    | false =>
      exact Zf (xK (zP (zB (z7 (Zv (.int .i64 z) (Zu (k := .i64) ((z : Int) - 1) (IntWalk.i64_in _ (by omega)) (Zv (.int .i64 ((z : Int) - 1)) (zT (yZ (fun w hO => Own.sub [_] hO) (zX (m' := (z - 1 + 1).toNat) (by omega) ⟨z - 1, _, ⟨by omega, by omega, by rw [hrel.2.2, highZ_next (by omega) (by assumption)]⟩, rfl, ZU, rfl⟩))))))))))
  refine Zd (p := (0 : Int) ≤ z) false (decide_eq_false (h1)) (ZX (y8 (z8 (zQ (zG (zB (ZO (Zv (.agg #[.int .i64 1, .int .i64 0, .int .i64 0, .int .i64 0, .string ⟨#[]⟩, .string ⟨#[]⟩, .bool false]) ?_))))))))
  exact Zs 0 ⟨b2, #[.int .i64 0, .int .i64 0, .int .i64 0, .int .i64 0, .string ⟨#[]⟩, .string ⟨#[]⟩, .bool false], 72⟩ (off := 0) (.agg #[.int .i64 1, .int .i64 0, .int .i64 0, .int .i64 0, .string ⟨#[]⟩, .string ⟨#[]⟩, .bool false]) (ZN (zF (ZC 0 ⟨b2, #[.int .i64 1, .int .i64 0, .int .i64 0, .int .i64 0, .string ⟨#[]⟩, .string ⟨#[]⟩, .bool false], 72⟩ (off := 0) (.agg #[.int .i64 1, .int .i64 0, .int .i64 0, .int .i64 0, .string ⟨#[]⟩, .string ⟨#[]⟩, .bool false]) Tryz.results185 (fun w hO => ⟨by rw [hrel.2.2]; unfold jF; rw [if_pos (by omega)]; rfl, hO.below⟩))))
theorem beh_high {c : Co} (hp : 0 ≤ c.parts ∧ c.parts ≤ 3) (h : ¬ c.parts = 3) : kH c = jF c.v (c.parts - 1) := by
  unfold kH jF
  rw [if_neg h]
  by_cases h0 : c.parts = 0
  · rw [if_pos h0, if_pos (by omega)]
  · rw [if_neg h0, if_neg (by omega)]
theorem jJ (c : Co) (W : World) (hc : c.short) (hp : 0 ≤ c.parts ∧ c.parts ≤ 3) : Calls Tryz.prog 184 #[coV c] W fun e w' => e = .returned (zC (kH c)) ∧ Below W.heap.size W w' := by
  refine zR (n := 15) Tryz.func184 rfl (by kernel_rfl) (by kernel_rfl) (ZO (Zb (coV c) (fun b1 => Za (.agg #[.int .i64 0, .int .i64 0, .int .i64 0, .int .i64 0, .string ⟨#[]⟩, .string ⟨#[]⟩, .bool false]) (fun b2 => ZN (z6 (ZO (Zv (.pointer (some ⟨b1, 1, none⟩)) (Zl 1 ⟨b1, (coV c).cells, 94⟩ (off := 1) (.int .i64 c.parts) ?_))))))))
  by_cases h1 : (c.parts : Int) = 3
  · refine yS (p := (c.parts : Int) = 3) true (by kernel_rfl) (fun _ => by kernel_rfl) (decide_eq_true (h1)) ?_
    refine ZY (ZO (Zv (.pointer (some ⟨b1, 2, none⟩)) (Zl 1 ⟨b1, (coV c).cells, 94⟩ (off := 2) (.agg #[.int .i64 c.v.maj, .int .i64 c.v.min, .int .i64 c.v.pat, .string (mkS c.v.pre), .string (mkS c.v.build)]) (Zv (.agg #[.int .i64 0, .int .i64 c.v.maj, .int .i64 c.v.min, .int .i64 c.v.pat, .string (mkS c.v.pre), .string (mkS c.v.build), .bool true]) (Zs 0 ⟨b2, #[.int .i64 0, .int .i64 0, .int .i64 0, .int .i64 0, .string ⟨#[]⟩, .string ⟨#[]⟩, .bool false], 72⟩ (off := 0) (.agg #[.int .i64 0, .int .i64 c.v.maj, .int .i64 c.v.min, .int .i64 c.v.pat, .string (mkS c.v.pre), .string (mkS c.v.build), .bool true]) (ZN (zF ?_)))))))
    exact zA (ZC 0 ⟨b2, #[.int .i64 0, .int .i64 c.v.maj, .int .i64 c.v.min, .int .i64 c.v.pat, .string (mkS c.v.pre), .string (mkS c.v.build), .bool true], 72⟩ (off := 0) (.agg #[.int .i64 0, .int .i64 c.v.maj, .int .i64 c.v.min, .int .i64 c.v.pat, .string (mkS c.v.pre), .string (mkS c.v.build), .bool true]) Tryz.results184 (fun w hO => ⟨by rw [show kH c = ⟨0, c.v, true⟩ from if_pos h1]; rfl, hO.below⟩))
  refine Zd (p := (c.parts : Int) = 3) false (decide_eq_false (h1)) (ZX (ZB (ZO (Zv (.pointer (some ⟨b1, 2, none⟩)) (Zl 1 ⟨b1, (coV c).cells, 94⟩ (off := 2) (.agg #[.int .i64 c.v.maj, .int .i64 c.v.min, .int .i64 c.v.pat, .string (mkS c.v.pre), .string (mkS c.v.build)]) (Zv (.pointer (some ⟨b1, 1, none⟩)) (Zl 1 ⟨b1, (coV c).cells, 94⟩ (off := 1) (.int .i64 c.parts) ?_)))))))
  exact Zu (k := .i64) ((c.parts : Int) - 1) (IntWalk.i64_in _ (by omega)) (Zc (k := 185) (args := #[.agg #[.int .i64 c.v.maj, .int .i64 c.v.min, .int .i64 c.v.pat, .string (mkS c.v.pre), .string (mkS c.v.build)], .int .i64 ((c.parts : Int) - 1)]) (zC (jF c.v (c.parts - 1))) (fun w _ => tZ c.v (c.parts - 1) w hc (by omega)) (Zs 0 ⟨b2, #[.int .i64 0, .int .i64 0, .int .i64 0, .int .i64 0, .string ⟨#[]⟩, .string ⟨#[]⟩, .bool false], 72⟩ (off := 0) (zC (jF c.v (c.parts - 1))) (ZN (zF (ZC 0 ⟨b2, (zC (jF c.v (c.parts - 1))).cells, 72⟩ (off := 0) (zC (jF c.v (c.parts - 1))) Tryz.results184 (fun w hO => ⟨by rw [beh_high hp h1], hO.below⟩))))))
end
section
def cpL (s t : List UInt8) : List UInt8 := if yV s t = true then s.drop t.length else s
theorem mT : ∀ (t s : List UInt8), t.isPrefixOf s = yV s t
  | [], s => by simp [yV]
  | a :: t, [] => by simp [yV, List.isPrefixOf]
  | a :: t, b :: s => by
    have ih := mT t s
    unfold yV at ih ⊢
    rw [List.isPrefixOf, ih, List.length_cons, List.take_succ_cons]
    by_cases h : a = b
    · subst h; simp
    · simp [h, Ne.symm h]
theorem cutpre_any (s t : List UInt8) (w : World) : Calls Tryz.prog 136 #[.string (mkS s), .string (mkS t)] w fun e w' => e = .returned (.tuple #[.string (mkS (cpL s t)), .bool (yV s t)]) ∧ Below w.heap.size w w' :=
  (Tryz.strings_CutPrefix (mkS s) (mkS t) w).mono fun e w' ⟨he, hw⟩ => by
    subst hw
    refine ⟨?_, Below.refl _ _⟩
    rw [he, mk_data, mk_data]
    unfold Lib.trimPrefix Lib.hasPrefix cpL
    rw [mT]; rfl
theorem splitK_pcs : ∀ (k : Nat) (s : List UInt8), Lib.splitK [46] 0 k s = jD k s
  | 0, s => rfl
  | k + 1, s => by
    have hc := tX 46 s
    have hge := Lib.index_ge s [46]
    unfold Lib.splitK jD
    rw [← hc]
    unfold Lib.cut
    by_cases h : Lib.index s [46] = -1
    · have h2 : ¬ 0 ≤ Lib.index s [46] := by omega
      simp [h]
    · have h2 : 0 ≤ Lib.index s [46] := by omega
      simp [h, h2, splitK_pcs k]
theorem m8 : ∀ (k : Nat) (s : List UInt8), s.length ≤ k → jD k s = jD (k + 1) s
  | 0, s, h => by
    obtain rfl := List.eq_nil_of_length_eq_zero (Nat.le_zero.1 h)
    rfl
  | k + 1, s, h => by
    have hl := tW 46 s
    rw [jD]
    conv => rhs; rw [jD]
    cases hq : (zS 46 s).2.2 with
    | false => rw [if_neg Bool.false_ne_true, if_neg Bool.false_ne_true]
    | true =>
      rw [hq, if_pos rfl] at hl
      rw [if_pos rfl, if_pos rfl, m8 k _ (by omega)]
theorem pcsK_min (s : List UInt8) : jD (min 3 (s.length + 1) - 1) s = jD 2 s := by
  by_cases h0 : s.length = 0
  · rw [h0, show min 3 (0 + 1) - 1 = 0 from rfl, m8 0 s (by omega), m8 1 s (by omega)]
  · by_cases h1 : s.length = 1
    · rw [h1, show min 3 (1 + 1) - 1 = 1 from rfl, m8 1 s (by omega)]
    · rw [show min 3 (s.length + 1) - 1 = 2 by omega]
theorem splitB_pcs (k : Nat) (s : List UInt8) : Lib.splitB ⟨#[46]⟩ 0 k (mkS s) = (jD k s).map mkS := by
  have h := Lib.splitB_data ⟨#[46]⟩ 0 k (mkS s)
  rw [mk_data, show (⟨#[46]⟩ : ByteArray).data.toList = [46] from rfl, splitK_pcs] at h
  rw [← h, List.map_map]
  refine ((List.map_congr_left fun x _ => ?_).trans (List.map_id _)).symm
  exact Lib.mk_data x
theorem split3_any (s : List UInt8) (W : World) (hs : s.length ≤ 1000000) :
    Calls Tryz.prog 75 #[.string (mkS s), .string ⟨#[46]⟩, .int .i64 0, .int .i64 3] W fun e w' => ∃ v' ob', e = .returned v' ∧ SlT v' (jD 2 s) ob' ∧ Own [] W w' ob' := by
  have hsz := x6 s
  have hI : ∀ (x : ByteArray) (c : Array Value), x.size ≤ (mkS s).size → Calls Tryz.prog 125 #[.string x, .string ⟨#[46]⟩] (W.alloc (.cells c 9)) fun e w' => e = .returned (.int .i64 (Lib.indexB x ⟨#[46]⟩)) ∧ w' = W.alloc (.cells c 9) :=
    fun x c _ => (Tryz.strings_Index_one x 46 _).mono fun e w' ⟨he, hw⟩ => ⟨by rw [he, wX]; try rfl, hw⟩
  have hC : Calls Tryz.prog 124 #[.string (mkS s), .string ⟨#[46]⟩] W fun e w' => e = .returned (.int .i64 (Lib.countB (mkS s) ⟨#[46]⟩)) ∧ w' = W :=
    (Tryz.strings_Count_one (mkS s) 46 W).mono fun e w' ⟨he, hw⟩ => ⟨by rw [he]; show _ = Ending.returned (Value.int .i64 ((Lib.count (mkS s).data.toList [46] : Nat) : Int)); rw [Lib.count_one]; rfl, hw⟩
  have c := Any.strings_genSplit_core Tryz.lays221 (by kernel_rfl) (mkS s) ⟨#[46]⟩ 0 3 (min 3 ((mkS s).size + 1)) W (by omega) (by decide) (Nat.zero_le _) hI hC (by decide) (by decide) (by rw [if_neg (by decide)]; omega)
  rw [hsz, splitB_pcs, pcsK_min] at c
  obtain ⟨hl1, hl3⟩ := pcsK_len 2 s
  have hle : (jD 2 s).length ≤ min 3 (s.length + 1) := by
    have h := Lib.splitB_length_le ⟨#[46]⟩ 0 (min 3 (s.length + 1) - 1) (mkS s)
    rw [splitB_pcs, pcsK_min, List.length_map] at h
    omega
  rw [List.length_map] at c
  refine Calls.mono c fun e w' ⟨he, hw⟩ => ?_
  subst hw
  refine ⟨_, _, he, ⟨by rw [wL]; omega, .inr ⟨W.heap.size, min 3 (s.length + 1), _, rfl, rfl, hle, by unfold maxLen; omega, by rw [Lib.cellsOf_size (by rw [List.length_map]; exact hle), Nat.mul_one], ?_⟩⟩, (Own.start [] W).alloc _ _⟩
  unfold Lib.cellsOf
  rw [List.map_map, List.take_append_of_le_length (by rw [List.length_map]; omega), List.take_of_length_le (by rw [List.length_map]; omega)]
  rfl
end
section
theorem splitn_any (s : List UInt8) (W : World) (hs : s.length ≤ 1000000) : Calls Tryz.prog 90 #[.string (mkS s), .string ⟨#[46]⟩, .int .i64 3] W fun e w' => ∃ v' ob', e = .returned v' ∧ SlT v' (jD 2 s) ob' ∧ Own [] W w' ob' := by
  refine zR (n := 11) Tryz.func90 rfl (by kernel_rfl) (by kernel_rfl) (ZO (Zv (.slice none 0 0) (ZR (Zv (.string (mkS s)) (Zv (.string ⟨#[46]⟩) (Zv (.int .i64 3) (zV (k := 75) (args := #[.string (mkS s), .string ⟨#[46]⟩, .int .i64 0, .int .i64 3]) (fun v' L' => SlT v' (jD 2 s) L') (by kernel_rfl) (fun _ => by kernel_rfl) (fun w hO => (split3_any s w hs).mono fun e w' ⟨v', ob', k1, k2, k3⟩ => ⟨v', ob', k1, k2, by simpa using Own.joinN hO k3⟩) (fun v1 o1 hr1 => ?_))))))))
  exact Zv (v1) (ZN (zF (ZF (v1) Tryz.results90 (fun w hO => ⟨v1, o1, rfl, hr1, hO⟩))))
theorem sgo_take {s r : List UInt8} {k : Nat} {op : Int} (h : sgo s k = (op, r)) (hb : yV s (yB ((k + 1 : Nat) : Int)) = true) (hl : ((mkS (cpL s (yB ((k + 1 : Nat) : Int)))).size : Int) < ((mkS r).size : Int)) : sgo s (k + 1) = (((k + 1 : Nat) : Int), cpL s (yB ((k + 1 : Nat) : Int))) := by
  rw [x6, x6] at hl
  unfold cpL at hl ⊢
  rw [if_pos hb] at hl ⊢
  unfold sgo
  rw [h, if_pos ⟨hb, by show _ < r.length; omega⟩]
theorem sgo_not {s r : List UInt8} {k : Nat} {op : Int} (h : sgo s k = (op, r)) (hb : yV s (yB ((k + 1 : Nat) : Int)) = false) : sgo s (k + 1) = (op, r) := by
  unfold sgo
  rw [h, if_neg (fun q => by rw [hb] at q; exact Bool.false_ne_true q.1)]
theorem sgo_long {s r : List UInt8} {k : Nat} {op : Int} (h : sgo s k = (op, r)) (hb : yV s (yB ((k + 1 : Nat) : Int)) = true) (hl : ¬ ((mkS (cpL s (yB ((k + 1 : Nat) : Int)))).size : Int) < ((mkS r).size : Int)) : sgo s (k + 1) = (op, r) := by
  rw [x6, x6] at hl
  unfold cpL at hl
  rw [if_pos hb] at hl
  unfold sgo
  rw [h, if_neg (fun q => hl (by have q2 : _ < r.length := q.2; omega))]
theorem ccut_any (s : List UInt8) (W : World) (hs : s.length ≤ 1000000) : Calls Tryz.prog 89 #[.string (mkS s)] W fun e w' => e = .returned (.tuple #[.int .i64 (sgo s 8).1, .string (mkS (sgo s 8).2)]) ∧ Below W.heap.size W w' := by
  refine zR (n := 33) Tryz.func89 rfl (by kernel_rfl) (by kernel_rfl) (ZO (Zv (.int .i64 0) (Zv (.string ⟨#[]⟩) (ZR (Zv (.string (mkS s)) (Zv (.int .i64 7) (Zv (.string (mkS s)) ?_)))))))
  refine ZN (z6 (ZO (Zv (.int .i64 1) (ZN (zL (xA (fun L f m => ∃ (k : Nat) (op : Int) (r : List UInt8) (j : Nat → Value), (k ≤ 8 ∧ sgo s k = (op, r)) ∧ L = [] ∧ f = g9 j [(0, .string (mkS s)), (4, .int .i64 op), (5, .string (mkS r)), (6, .int .i64 ((k + 1 : Nat) : Int))] ∧ m = 8 - k) (8 - 0) ⟨0, _, _, _, ⟨by omega, rfl⟩, rfl, ZU, rfl⟩ ?_))))))
  rintro L f m ⟨k, op, r, j, hrel, rfl, rfl, rfl⟩
  have hkl := hrel.1
  refine z6 (ZO (Zv (.int .i64 ((k + 1 : Nat) : Int)) ?_))
  by_cases h1 : ((k + 1 : Nat) : Int) < 9
  · refine yS (p := ((k + 1 : Nat) : Int) < 9) true (by kernel_rfl) (fun _ => by kernel_rfl) (decide_eq_true (h1)) ?_
    refine ZY (ZB (z6 (zL (ZO (Zv (.string (mkS s)) (Zv (.int .i64 ((k + 1 : Nat) : Int)) (Zc (k := 137) (args := #[.int .i64 ((k + 1 : Nat) : Int)]) (.string (mkS (yB ((k + 1 : Nat) : Int)))) (fun w _ => tY _ w) ?_)))))))
    refine Zc (k := 136) (args := #[.string (mkS s), .string (mkS (yB ((k + 1 : Nat) : Int)))]) (.tuple #[.string (mkS (cpL s (yB ((k + 1 : Nat) : Int)))), .bool (yV s (yB ((k + 1 : Nat) : Int)))]) (fun w _ => cutpre_any s (yB ((k + 1 : Nat) : Int)) w) (Zv (.tuple #[.string (mkS (cpL s (yB ((k + 1 : Nat) : Int)))), .bool (yV s (yB ((k + 1 : Nat) : Int)))]) (Zv (.string (mkS (cpL s (yB ((k + 1 : Nat) : Int))))) (Zv (.bool (yV s (yB ((k + 1 : Nat) : Int)))) (Zv (.string (mkS (cpL s (yB ((k + 1 : Nat) : Int))))) (Zv (.bool (yV s (yB ((k + 1 : Nat) : Int)))) (ZR (Zv (.bool (yV s (yB ((k + 1 : Nat) : Int)))) (Zv (.bool (yV s (yB ((k + 1 : Nat) : Int)))) ?_))))))))
    cases h2 : yV s (yB ((k + 1 : Nat) : Int)) with
    | true =>
      refine Zv (.string (mkS (cpL s (yB ((k + 1 : Nat) : Int))))) (Zv (.int .i64 ((mkS (cpL s (yB ((k + 1 : Nat) : Int)))).size)) (Zv (.string (mkS r)) (Zv (.int .i64 ((mkS r).size)) ?_)))
      by_cases h3 : ((mkS (cpL s (yB ((k + 1 : Nat) : Int)))).size : Int) < (mkS r).size
      · refine yS (p := ((mkS (cpL s (yB ((k + 1 : Nat) : Int)))).size : Int) < (mkS r).size) true (by kernel_rfl) (fun _ => by kernel_rfl) (decide_eq_true (h3)) ?_
        refine Zv (.bool true) (ZY (z7 (Zv (.int .i64 ((k + 1 : Nat) : Int)) (Zv (.string (mkS (cpL s (yB ((k + 1 : Nat) : Int))))) (Zv (.int .i64 ((k + 1 : Nat) : Int)) (Zv (.string (mkS (cpL s (yB ((k + 1 : Nat) : Int))))) (zT (zP (zB ?_)))))))))
        exact z7 (Zv (.int .i64 ((k + 1 : Nat) : Int)) (Zu (k := .i64) (((k + 1 + 1 : Nat) : Int)) (IntWalk.i64_in _ (by omega)) (Zv (.int .i64 ((k + 1 + 1 : Nat) : Int)) (zT (zX (m' := 8 - (k + 1)) (by omega) ⟨k + 1, ((k + 1 : Nat) : Int), cpL s (yB ((k + 1 : Nat) : Int)), _, ⟨by omega, sgo_take hrel.2 h2 h3⟩, rfl, ZU, rfl⟩)))))
      refine Zd (p := ((mkS (cpL s (yB ((k + 1 : Nat) : Int)))).size : Int) < (mkS r).size) false (decide_eq_false (h3)) (Zv (.bool false) (ZX (xK (zP (zB (z7 (Zv (.int .i64 ((k + 1 : Nat) : Int)) (Zu (k := .i64) (((k + 1 + 1 : Nat) : Int)) (IntWalk.i64_in _ (by omega)) (Zv (.int .i64 ((k + 1 + 1 : Nat) : Int)) ?_)))))))))
      exact zT (zX (m' := 8 - (k + 1)) (by omega) ⟨k + 1, op, r, _, ⟨by omega, sgo_long hrel.2 h2 h3⟩, rfl, ZU, rfl⟩)
    | false =>
      refine Zk (Zk (Zk (Zk (Zk (Zv (.bool false) (ZX (xK (zP (zB ?_)))))))))
      exact z7 (Zv (.int .i64 ((k + 1 : Nat) : Int)) (Zu (k := .i64) (((k + 1 + 1 : Nat) : Int)) (IntWalk.i64_in _ (by omega)) (Zv (.int .i64 ((k + 1 + 1 : Nat) : Int)) (zT (zX (m' := 8 - (k + 1)) (by omega) ⟨k + 1, op, r, _, ⟨by omega, sgo_not hrel.2 h2⟩, rfl, ZU, rfl⟩)))))
  refine Zd (p := ((k + 1 : Nat) : Int) < 9) false (decide_eq_false (h1)) (ZX (y8 (z8 (zQ (zG (zB (ZO (Zv (.int .i64 op) ?_))))))))
  exact Zv (.string (mkS r)) (Zv (.int .i64 op) (Zv (.string (mkS r)) (ZN (zF (pU (.int .i64 op) (.string (mkS r)) Tryz.results89 (by kernel_rfl) (by kernel_rfl) (fun w hO => ⟨by have hk8 : k = 8 := (by omega); subst hk8; rw [hrel.2], hO.below⟩))))))
theorem nth_ok {v : Ver} (h : v.may = true) {k : Nat} (hk : k < 3) : yF (x5 v.maj v.min v.pat k) = true := by
  obtain ⟨m1, m2, m3⟩ := gJ h
  have hj : k = 0 ∨ k = 1 ∨ k = 2 := by omega
  rcases hj with rfl | rfl | rfl
  · exact m1
  · exact m2
  · exact m3
theorem nth_in {v : Ver} (h : v.may = true) {k : Nat} (hk : k < 3) : -9223372036854775808 ≤ x5 v.maj v.min v.pat k ∧ x5 v.maj v.min v.pat k ≤ 9223372036854775807 := by
  have q := nth_ok h hk
  unfold yF at q; simp at q; omega
theorem nums_next (v : Ver) {k : Nat} (hk : k < 3) : yI v (k + 1) = yI v k ++ [Lib.itoa (x5 v.maj v.min v.pat k)] := by
  have hj : k = 0 ∨ k = 1 ∨ k = 2 := by omega
  rcases hj with rfl | rfl | rfl <;> rfl
theorem own_dropP {M : List Nat} {W w : World} {x y z : Blk} {A : List Blk} (h : Own M W w ([x, y, z] ++ A ++ [])) : Own M W w (y :: z :: A) := h.sublist (by rw [List.append_nil]; exact List.sublist_append_right [x] _)
theorem star_ne {l : List (List UInt8)} : y5 46 (l ++ [[42]]) ≠ [] := fun e => by
  have h := tQ [] l
  rw [show ([] : List UInt8) ++ [42] = [42] from rfl, e] at h
  cases h
theorem nums_ne {c : Co} (h : c.may = true) (hn : ¬ c.op = 9) : y5 46 (yI c.v c.parts.toNat) ≠ [] := fun e => by
  obtain ⟨d, r, e2, hd⟩ := bK h hn
  unfold Co.rest at e2
  rw [if_neg hn, e, List.nil_append] at e2
  unfold kI at e2
  split at e2
  · cases e2
  · injection e2 with e3 _
    rw [← e3] at hd
    revert hd; decide
theorem text_pre2 {c : Co} (h9 : ¬ c.op = 9) (hp : ¬ c.v.pre = []) : yB c.op ++ y5 46 (yI c.v c.parts.toNat) ++ ([45] ++ c.v.pre) = c.text := by
  rw [← text_pre h9 hp]; simp
theorem star_text2 {c : Co} (h9 : c.op = 9) : yB c.op ++ y5 46 (yI c.v c.parts.toNat ++ [[42]]) = c.text := by
  rw [← star_text h9, h9]; rfl
theorem star_pre {c : Co} (h : c.may = true) (h9 : c.op = 9) : c.v.pre = [] := by
  obtain ⟨_, _, _, k9, _, hp, _⟩ := Co.facts h
  have := k9 h9
  exact hp.resolve_left (by omega)
theorem nR (c : Co) (W : World) (hc : c.short) (ht : HasTab W) : Calls Tryz.prog 92 #[coV c] W fun e w' => e = .returned (.string (mkS c.print)) ∧ Below W.heap.size W w' := by
  refine zR (n := 50) Tryz.func92 rfl (by kernel_rfl) (by kernel_rfl) (ZO (Zb (coV c) (fun b1 => Zv (.string ⟨#[]⟩) (ZN (z6 (ZO (Zl 0 ⟨b1, (coV c).cells, 94⟩ (off := 0) (coV c) (Zc (k := 101) (args := #[coV c]) (.bool c.may) (fun w _ => pZ c w hc) ?_))))))))
  cases h1 : c.may with
  | true =>
    have hcm := h1
    have hcv := (Co.facts hcm).2.1
    have hpn := parts_nat hcm
    have hpr := hpn.2
    have hpc := hpn.1
    refine Zv (.bool false) (ZX (ZB (ZO (Zv (.slice none 0 0) (ZN (z6 ?_))))))
    refine z6 (dH (by kernel_rfl) (ZT 0 [] _ (.pointer (some ⟨b1, 2, none⟩)) (zK (zK zO)) rfl (ZL 1 [] _ 0 ⟨b1, (coV c).cells, 94⟩ (off := 2) (.agg #[.int .i64 c.v.maj, .int .i64 c.v.min, .int .i64 c.v.pat, .string (mkS c.v.pre), .string (mkS c.v.build)]) (zK (zK zO)) rfl rfl (ZT 3 [] _ (.pointer (some ⟨b1, 1, none⟩)) (zK (zK zO)) rfl (ZL 4 [] _ 0 ⟨b1, (coV c).cells, 94⟩ (off := 1) (.int .i64 c.parts) (zK (zK zO)) rfl rfl (ZT 7 [] _ (.int .i64 0) (zK (zK zO)) rfl (y6 2 (by kernel_rfl) (vK _ (k := 139) (args := #[.agg #[.int .i64 c.v.maj, .int .i64 c.v.min, .int .i64 c.v.pat, .string (mkS c.v.pre), .string (mkS c.v.build)]]) (fun v' L' => ∃ ob', L' = ob' ++ ([] ++ ([⟨b1, (coV c).cells, 94⟩])) ∧ ∃ g, v' = .slice (some ⟨g, 0, none⟩) 3 3 ∧ ob' = [⟨g, qV c.v, 3⟩]) rfl (by kernel_rfl) (fun _ => by kernel_rfl) (fun w hO => (mH c.v w).mono fun e w' ⟨v', ob', k1, k2, k3⟩ => ⟨v', _, k1, ⟨ob', rfl, k2⟩, Own.joinN hO k3⟩) (fun v' L' ⟨ob', e, _⟩ w hO => by subst e; exact Own.sub [] (Own.sub ob' hO)) (fun v1 L2 hv2 => ?_)))))))))
    obtain ⟨o1, rfl, hr1⟩ := hv2
    obtain ⟨g1, rfl, ho1⟩ := hr1
    refine dL (L' := (o1 ++ ([] : List Blk)) ++ ([⟨b1, (coV c).cells, 94⟩])) (List.append_assoc _ _ _).symm (wY 5 (o1 ++ ([] : List Blk)) _ (.slice (some ⟨g1, 0, none⟩) c.parts.toNat 3) rfl (by kernel_rfl) (by kernel_rfl) (by kernel_rfl) (zK (zK zO)) (by kernel_rfl) (fun w _ => run_slhi (b := g1) (off := 0) (n := 3) (c := 3) (k := .i64) (j := c.parts) (e := 3) (sz := 1) rfl (by kernel_rfl) (by kernel_rfl) (by kernel_rfl) (by kernel_rfl) (by omega) (by omega) w) (ZT 6 (o1 ++ ([] : List Blk)) _ (.int .i64 (c.parts.toNat : Int)) (zK (zK zO)) rfl (x7 (by kernel_rfl) (zB (zL (kJ (L' := ⟨g1, qV c.v, 3⟩ :: ⟨b1, (coV c).cells, 94⟩ :: []) (by rw [ho1]; rfl) (xA (fun L f m => ∃ (k : Nat) (va : Value) (oa : List Blk) (j : Nat → Value), (k ≤ c.parts.toNat ∧ SlT va (yI c.v k) oa) ∧ L = ⟨g1, qV c.v, 3⟩ :: ⟨b1, (coV c).cells, 94⟩ :: oa ∧ f = g9 j [(1, .pointer (some ⟨b1, 0, none⟩)), (3, va), (15, .slice (some ⟨g1, 0, none⟩) c.parts.toNat 3), (16, .int .i64 (c.parts.toNat : Int)), (17, .int .i64 (k : Int))] ∧ m = c.parts.toNat - k) (c.parts.toNat - 0) ⟨0, _, [], _, ⟨Nat.zero_le _, Sl.nil _ _⟩, rfl, ZU, rfl⟩ ?_)))))))
    rintro L f m ⟨k, va, oa, j, hrel, rfl, rfl, rfl⟩
    have hkl := hrel.1
    refine z6 (z7 ?_)
    by_cases h2 : (k : Int) < (c.parts.toNat : Int)
    · refine yS (p := (k : Int) < (c.parts.toNat : Int)) true (by kernel_rfl) (fun _ => by kernel_rfl) (decide_eq_true (h2)) ?_
      refine ZN (z6 (Zt (ZB (z6 (zL (ZO (zW (.pointer (some ⟨g1, 0 + k, none⟩)) (by kernel_rfl) (ZV (b := g1) (off := 0) (n := c.parts.toNat) (c := 3) (k := .i64) (j := (k : Int)) (e := 3) (sz := 1)) (qS 0 ⟨g1, qV c.v, 3⟩ (off := 0 + k) (.int .i64 (x5 c.v.maj c.v.min c.v.pat k)) (by kernel_rfl) rfl (by kernel_rfl) (by kernel_rfl) (by rw [Nat.zero_add]; exact rd_nums c.v k (by omega)) ?_))))))))
      refine Zv (.int .i64 (x5 c.v.maj c.v.min c.v.pat k)) (ZN (z7 (Zv (va) (Zv (.int .i64 (x5 c.v.maj c.v.min c.v.pat k)) (Zc (k := 140) (args := #[.int .i64 (x5 c.v.maj c.v.min c.v.pat k)]) (.string (mkS (Lib.itoa (x5 c.v.maj c.v.min c.v.pat k)))) (fun w hO => digits_mk _ (nth_in hcv (show k < 3 by omega)).1 (nth_in hcv (show k < 3 by omega)).2 w (ht.on hO.below)) (vQ 9 #[.string (mkS (Lib.itoa (x5 c.v.maj c.v.min c.v.pat k)))] (by kernel_rfl) rfl (fun _ => by kernel_rfl) (fun b2 => ?_)))))))
      obtain ⟨i0, z0, e1, e2, e3, e4, e5⟩ := pB
      have hlk : (yI c.v k).length ≤ 3 := by have := bL c.v k; omega
      refine xM (L' := [⟨b2, #[.string (mkS (Lib.itoa (x5 c.v.maj c.v.min c.v.pat k)))], 9⟩, ⟨g1, qV c.v, 3⟩, ⟨b1, (coV c).cells, 94⟩] ++ oa ++ []) (List.append_nil _).symm (gP (sz := 1) (by kernel_rfl) rfl Tryz.underlying83 e1 e2 e3 e4 (by kernel_rfl) hrel.2 (a := ⟨b2, 0, none⟩) (m := 1) (c := 1) (news := vT [Lib.itoa (x5 c.v.maj c.v.min c.v.pat k)]) (by kernel_rfl) rfl (fun w hO j u hj => ?_) (str_cells _) (by unfold maxLen; omega) (by rw [e5]; omega) (fun va2 oa2 hva0 => ?_))
      · rw [xV, cell_of_row w b2 (0 + j) (vT [Lib.itoa (x5 c.v.maj c.v.min c.v.pat k)]).toArray 9 _ (hO.held ⟨b2, (vT [Lib.itoa (x5 c.v.maj c.v.min c.v.pat k)]).toArray, 9⟩ (List.mem_append_left _ (List.mem_append_left _ (List.mem_cons_self ..))))]; simpa using hj
      have hva2 : SlT va2 ((yI c.v k) ++ [Lib.itoa (x5 c.v.maj c.v.min c.v.pat k)]) oa2 := hva0.to (by rw [List.length_append]; rfl) (by unfold vT; rw [List.map_append])
      exact Zv (va2) (zT (zP (zB (z7 (Zu (k := .i64) (((k + 1 : Nat) : Int)) (IntWalk.i64_in _ (by omega)) (Zv (.int .i64 ((k + 1 : Nat) : Int)) (zT (yZ (L' := ⟨g1, qV c.v, 3⟩ :: ⟨b1, (coV c).cells, 94⟩ :: oa2) (fun w hO => own_dropP hO) (zX (m' := c.parts.toNat - (k + 1)) (by omega) ⟨k + 1, va2, oa2, _, ⟨by omega, by rw [nums_next c.v (by omega)]; exact hva2⟩, rfl, ZU, rfl⟩)))))))))
    have hkq : k = c.parts.toNat := by omega
    have hvk : SlT va (yI c.v c.parts.toNat) oa := hkq ▸ hrel.2
    refine Zd (p := (k : Int) < (c.parts.toNat : Int)) false (decide_eq_false (h2)) (ZN (z6 (Zf (y8 (z8 (zQ (zG (zB (z6 (z6 ?_))))))))))
    refine z7 (Zv (.pointer (some ⟨b1, 0, none⟩)) (Zl 1 ⟨b1, (coV c).cells, 94⟩ (off := 0) (.int .i64 c.op) ?_))
    by_cases h3 : (c.op : Int) = 9
    · refine yS (p := (c.op : Int) = 9) true (by kernel_rfl) (fun _ => by kernel_rfl) (decide_eq_true (h3)) ?_
      refine ZY (z7 (Zv (va) (vQ 9 #[.string ⟨#[42]⟩] (by kernel_rfl) rfl (fun _ => by kernel_rfl) (fun b2 => ?_))))
      obtain ⟨i0, z0, e1, e2, e3, e4, e5⟩ := pB
      have hlk : (yI c.v c.parts.toNat).length ≤ 3 := by have := bL c.v c.parts.toNat; omega
      refine xM (L' := [⟨b2, #[.string ⟨#[42]⟩], 9⟩, ⟨g1, qV c.v, 3⟩, ⟨b1, (coV c).cells, 94⟩] ++ oa ++ []) (List.append_nil _).symm (gP (sz := 1) (by kernel_rfl) rfl Tryz.underlying83 e1 e2 e3 e4 (by kernel_rfl) hvk (a := ⟨b2, 0, none⟩) (m := 1) (c := 1) (news := vT [[42]]) (by kernel_rfl) rfl (fun w hO j u hj => ?_) (str_cells _) (by unfold maxLen; omega) (by rw [e5]; omega) (fun va2 oa2 hva0 => ?_))
      · rw [xV, cell_of_row w b2 (0 + j) (vT [[42]]).toArray 9 _ (hO.held ⟨b2, (vT [[42]]).toArray, 9⟩ (List.mem_append_left _ (List.mem_append_left _ (List.mem_cons_self ..))))]; simpa using hj
      have hva2 : SlT va2 ((yI c.v c.parts.toNat) ++ [[42]]) oa2 := hva0.to (by rw [List.length_append]; rfl) (by unfold vT; rw [List.map_append])
      refine Zv (va2) (zT (yZ (L' := ⟨g1, qV c.v, 3⟩ :: ⟨b1, (coV c).cells, 94⟩ :: oa2) (fun w hO => own_dropP hO) (zB (ZO (Zv (.pointer (some ⟨b1, 0, none⟩)) (Zl 1 ⟨b1, (coV c).cells, 94⟩ (off := 0) (.int .i64 c.op) (Zc (k := 137) (args := #[.int .i64 c.op]) (.string (mkS (yB c.op))) (fun w _ => tY c.op w) (Zv (va2) (Zc (k := 141) (args := #[va2, .int .u8 46]) (.string (mkS (y5 46 (yI c.v c.parts.toNat ++ [[42]])))) (fun w hO => bT va2 _ 46 w (SlT.readsT hva2 hO (fun x hx => by simp [hx])) (Nat.le_trans (jR hcv _) (by decide)) (by rw [List.length_append]; have := bL c.v c.parts.toNat; simp; omega) star_ne) (zW (.string (mkS ((yB c.op) ++ (y5 46 (yI c.v c.parts.toNat ++ [[42]]))))) (by kernel_rfl) (xR (a := (yB c.op)) (b := (y5 46 (yI c.v c.parts.toNat ++ [[42]]))) rfl (by kernel_rfl) (by kernel_rfl) (by have q1 := hD c.op; have q2 := jS hcv c.parts.toNat; have q4 := jR hcv c.parts.toNat; have q3 := hc.1; first | omega | (simp only [List.length_append, List.length_cons, List.length_nil]; omega))) ?_))))))))))
      refine Zv (.string (mkS ((yB c.op) ++ (y5 46 (yI c.v c.parts.toNat ++ [[42]]))))) (ZN (z6 (ZO (Zv (.pointer (some ⟨b1, 2, none⟩)) (Zv (.pointer (some ⟨b1, 5, none⟩)) (Zl 1 ⟨b1, (coV c).cells, 94⟩ (off := 5) (.string (mkS c.v.pre)) (zW (.bool false) (by kernel_rfl) (xC (a := c.v.pre) (b := ([])) rfl (by kernel_rfl) (by kernel_rfl) (decide_eq_true (star_pre hcm h3))) (zT (zB ?_)))))))))
      exact Zf (ZB (ZO (Zv (.string (mkS ((yB c.op) ++ (y5 46 (yI c.v c.parts.toNat ++ [[42]]))))) (Zv (.string (mkS ((yB c.op) ++ (y5 46 (yI c.v c.parts.toNat ++ [[42]]))))) (ZN (zF (ZF (.string (mkS ((yB c.op) ++ (y5 46 (yI c.v c.parts.toNat ++ [[42]]))))) Tryz.results92 (fun w hO => ⟨by rw [qX hcm, ← star_text2 h3], hO.below⟩))))))))
    refine Zd (p := (c.op : Int) = 9) false (decide_eq_false (h3)) (ZX (ZB (ZO (Zv (.pointer (some ⟨b1, 0, none⟩)) (Zl 1 ⟨b1, (coV c).cells, 94⟩ (off := 0) (.int .i64 c.op) (Zc (k := 137) (args := #[.int .i64 c.op]) (.string (mkS (yB c.op))) (fun w _ => tY c.op w) (Zv (va) ?_)))))))
    refine Zc (k := 141) (args := #[va, .int .u8 46]) (.string (mkS (y5 46 (yI c.v c.parts.toNat)))) (fun w hO => bT va _ 46 w (SlT.readsT hvk hO (fun x hx => by simp [hx])) (Nat.le_trans (jS hcv _) (by decide)) (Nat.le_trans (bL _ _) (by decide)) (nums_ne hcm h3)) (zW (.string (mkS ((yB c.op) ++ (y5 46 (yI c.v c.parts.toNat))))) (by kernel_rfl) (xR (a := (yB c.op)) (b := (y5 46 (yI c.v c.parts.toNat))) rfl (by kernel_rfl) (by kernel_rfl) (by have q1 := hD c.op; have q2 := jS hcv c.parts.toNat; have q4 := jR hcv c.parts.toNat; have q3 := hc.1; first | omega | (simp only [List.length_append, List.length_cons, List.length_nil]; omega))) (Zv (.string (mkS ((yB c.op) ++ (y5 46 (yI c.v c.parts.toNat))))) (ZN (z6 (ZO (Zv (.pointer (some ⟨b1, 2, none⟩)) (Zv (.pointer (some ⟨b1, 5, none⟩)) (Zl 1 ⟨b1, (coV c).cells, 94⟩ (off := 5) (.string (mkS c.v.pre)) ?_))))))))
    by_cases h4 : (c.v.pre : List UInt8) = []
    · refine zW (.bool false) (by kernel_rfl) (xC (a := c.v.pre) (b := ([])) rfl (by kernel_rfl) (by kernel_rfl) (decide_eq_true (h4))) ?_
      refine ZX (ZB (ZO (Zv (.string (mkS ((yB c.op) ++ (y5 46 (yI c.v c.parts.toNat))))) (Zv (.string (mkS ((yB c.op) ++ (y5 46 (yI c.v c.parts.toNat))))) (ZN (zF ?_))))))
      exact ZF (.string (mkS ((yB c.op) ++ (y5 46 (yI c.v c.parts.toNat))))) Tryz.results92 (fun w hO => ⟨by rw [qX hcm, ← text_bare h3 h4], hO.below⟩)
    refine zW (.bool true) (by kernel_rfl) (xC (a := c.v.pre) (b := ([])) rfl (by kernel_rfl) (by kernel_rfl) (decide_eq_false (h4))) (ZY (z7 (Zv (.string (mkS ((yB c.op) ++ (y5 46 (yI c.v c.parts.toNat))))) (Zv (.pointer (some ⟨b1, 2, none⟩)) (Zv (.pointer (some ⟨b1, 5, none⟩)) (Zl 1 ⟨b1, (coV c).cells, 94⟩ (off := 5) (.string (mkS c.v.pre)) (zW (.string (mkS ([45] ++ c.v.pre))) (by kernel_rfl) (xR (a := [45]) (b := c.v.pre) rfl (by kernel_rfl) (by kernel_rfl) (by have q1 := hD c.op; have q2 := jS hcv c.parts.toNat; have q4 := jR hcv c.parts.toNat; have q3 := hc.1; first | omega | (simp only [List.length_append, List.length_cons, List.length_nil]; omega))) (zW (.string (mkS (((yB c.op) ++ (y5 46 (yI c.v c.parts.toNat))) ++ ([45] ++ c.v.pre)))) (by kernel_rfl) (xR (a := ((yB c.op) ++ (y5 46 (yI c.v c.parts.toNat)))) (b := ([45] ++ c.v.pre)) rfl (by kernel_rfl) (by kernel_rfl) (by have q1 := hD c.op; have q2 := jS hcv c.parts.toNat; have q4 := jR hcv c.parts.toNat; have q3 := hc.1; first | omega | (simp only [List.length_append, List.length_cons, List.length_nil]; omega))) (Zv (.string (mkS (((yB c.op) ++ (y5 46 (yI c.v c.parts.toNat))) ++ ([45] ++ c.v.pre)))) ?_)))))))))
    exact ZR (Zv (.string (mkS (((yB c.op) ++ (y5 46 (yI c.v c.parts.toNat))) ++ ([45] ++ c.v.pre)))) (Zv (.string (mkS (((yB c.op) ++ (y5 46 (yI c.v c.parts.toNat))) ++ ([45] ++ c.v.pre)))) (ZN (zF (ZF (.string (mkS (((yB c.op) ++ (y5 46 (yI c.v c.parts.toNat))) ++ ([45] ++ c.v.pre)))) Tryz.results92 (fun w hO => ⟨by rw [qX hcm, ← text_pre2 h3 h4], hO.below⟩))))))
  | false =>
    refine Zv (.bool true) (ZY (ZO (Zv (.string ⟨#[]⟩) (ZN (zF (zA (ZF (.string ⟨#[]⟩) Tryz.results92 ?_)))))))
    exact fun w hO => ⟨by unfold Co.print; simp [h1]; rfl, hO.below⟩
end
end Go.Proofs.YtiekhkapgjdblaaGreatDoor
