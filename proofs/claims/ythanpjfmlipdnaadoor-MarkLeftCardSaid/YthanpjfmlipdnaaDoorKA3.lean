/-
  What the statement's proof leans on: the ways of walking, qX mathematics, and what the program's functions return; each theorem says on what conditions.
-/
import Derived.WalkKit
import Derived.Lib.Hide
import Derived.Below
import Derived.ChangeSame
import Derived.ProofKit
import Derived.OpenShut
import Derived.LaidSub
import Derived.Carry
import Derived.Deep.DeepHandedRow
import Derived.Test.YthanpjfmlipdnaaDoorRows
import Derived.Lib.AppendStr
import Derived.Laws.OwnMore
import Derived.Test.YthanpjfmlipdnaaDoorKA2
set_option maxRecDepth 1000000
set_option maxHeartbeats 8000000
set_option linter.unusedVariables false
set_option linter.unusedSimpArgs false
namespace Go.Proofs.YthanpjfmlipdnaaDoor
open Go.RowKit

section
set_option linter.unnecessarySimpa false
def Rd (b : Nat) (A : Option Addr) (cap : Nat) (ws : List Tok) (ts : List Tok) (nd : List Nd) (bad : Bool) (ob : List Blk) : Prop :=
  ∃ pre C cc g, ws = pre ++ ts ∧ ob = ⟨b, #[.slice A ws.length cap, .int .i64 ((pre.length : Nat) : Int), .slice C nd.length cc, .bool bad], 58⟩ :: g ∧ SlN (.slice C nd.length cc) nd g
structure Lent (B b : Nat) (A : Option Addr) (cap : Nat) (ws ts : List Tok) (nd : List Nd) (bad : Bool) (ob : List Blk) (W : World) : Prop where
  rd : Rd b A cap ws ts nd bad ob
  own : Own (ob.map Blk.b) W W ob
  ge : ∀ x ∈ ob, B ≤ x.b
  le : B ≤ W.heap.size
  words : Reads tG W B A ws
  short : ∀ x ∈ ws, x.length ≤ 1000000
  few : ws.length ≤ 10000
  small : nd.length + ts.length ≤ 10000
structure Back (b : Nat) (A : Option Addr) (cap : Nat) (ws ts : List Tok) (nd : List Nd) (bad : Bool) (ob ob' : List Blk) (W w' : World) : Prop where
  rd : Rd b A cap ws ts nd bad ob'
  own : Own (ob.map Blk.b) W w' ob'
def xE (x : Tok) (ts : List Tok) : Bool := decide (ts.head? = some x)
def yJ (x : Tok) (ts : List Tok) : List Tok := if xE x ts then ts.tail else ts
theorem qF (x : Tok) (ts : List Tok) : (yJ x ts).length ≤ ts.length := by unfold yJ; split <;> simp
theorem next_yes {x : Tok} {r : List Tok} : xE x (x :: r) = true ∧ yJ x (x :: r) = r := by
  have h : xE x (x :: r) = true := by unfold xE; simp
  exact ⟨h, by unfold yJ; rw [h]; rfl⟩
theorem kI {x : Tok} {ts : List Tok} (h : ts.head? ≠ some x) : xE x ts = false ∧ yJ x ts = ts := by
  have h1 : xE x ts = false := decide_eq_false h
  exact ⟨h1, by unfold yJ; rw [h1]; rfl⟩
theorem vP {B b : Nat} {A : Option Addr} {cap : Nat} {ws ts : List Tok} {nd : List Nd} {bad : Bool} {ob : List Blk} {W : World} (hL : Lent B b A cap ws ts nd bad ob W) (x : Tok) : Calls Tryd.prog 49 #[.pointer (some ⟨b, 0, none⟩), .string (mkS x)] W fun e w' => ∃ ob', e = .returned (.bool (xE x ts)) ∧ Back b A cap ws (yJ x ts) nd bad ob ob' W w' := by
  have hO0 := hL.own
  have hM' := x4 hL.ge
  have hBW := hL.le
  have hw := hL.words
  have hsh := hL.short
  have hfw := hL.few
  have hsm := hL.small
  obtain ⟨pre, C, cc, g, hws, rfl, hsl⟩ := hL.rd
  have hwl : ws.length = pre.length + ts.length := by rw [hws, List.length_append]
  have hO := hO0
  refine y6 (n := 36) hO Tryd.func49 rfl (by kernel_rfl) (by kernel_rfl) (ZO (Zv (.bool false) (ZN (zF (zF (xU (by kernel_rfl) (by kernel_rfl) (Zw (.pointer (some ⟨b, 0, none⟩)) (Zw (.pointer (some ⟨b, 0, none⟩)) (Zw (.pointer (some ⟨b, 1, none⟩)) ?_)))))))))
  refine Zm 0 ⟨b, #[.slice A ws.length cap, .int .i64 ((pre.length : Nat) : Int), .slice C nd.length cc, .bool bad], 58⟩ (off := 1) (.int .i64 ((pre.length : Nat) : Int)) (Zw (.pointer (some ⟨b, 0, none⟩)) (Zw (.pointer (some ⟨b, 0, none⟩)) (Zw (.pointer (some ⟨b, 0, none⟩)) (Zm 0 ⟨b, #[.slice A ws.length cap, .int .i64 ((pre.length : Nat) : Int), .slice C nd.length cc, .bool bad], 58⟩ (off := 0) (.slice A ws.length cap) (Zw (.int .i64 (ws.length : Int)) ?_)))))
  by_cases h1 : ((pre.length : Nat) : Int) < (ws.length : Int)
  · obtain ⟨c, r, rfl⟩ : ∃ c r, ts = c :: r := by cases ts with | nil => simp at hwl; omega | cons c r => exact ⟨c, r, rfl⟩
    obtain ⟨bp, off, hA, hlt, hcell⟩ := hw (by omega)
    have hc : ∀ h : pre.length < ws.length, ws[pre.length] = c := by subst hws; intro h; simp
    refine Ze (p := ((pre.length : Nat) : Int) < (ws.length : Int)) true (decide_eq_true (h1)) (Zw (.bool true) (Zw (.pointer (some ⟨b, 0, none⟩)) (Zw (.pointer (some ⟨b, 0, none⟩)) (Zw (.pointer (some ⟨b, 0, none⟩)) (Zm 0 ⟨b, #[.slice A ws.length cap, .int .i64 ((pre.length : Nat) : Int), .slice C nd.length cc, .bool bad], 58⟩ (off := 0) (.slice A ws.length cap) (Zw (.pointer (some ⟨b, 0, none⟩)) (Zw (.pointer (some ⟨b, 0, none⟩)) (Zw (.pointer (some ⟨b, 1, none⟩)) (Zm 0 ⟨b, #[.slice A ws.length cap, .int .i64 ((pre.length : Nat) : Int), .slice C nd.length cc, .bool bad], 58⟩ (off := 1) (.int .i64 ((pre.length : Nat) : Int)) (yQ (.pointer (some ⟨bp, off + pre.length * 1, none⟩)) (by kernel_rfl) (xY (b := bp) (off := off) (c := cap) (n := ws.length) (k := .i64) (j := ((pre.length : Nat) : Int)) (e := 9) (sz := 1) rfl (by kernel_rfl) hA (by kernel_rfl) (by kernel_rfl) (by kernel_rfl) (by omega) (by omega) (by omega)) (qW (.string (mkS c)) (a := ⟨bp, off + pre.length * 1, none⟩) (by kernel_rfl) rfl (by kernel_rfl) (fun w hO => Reads.load vO (hw.on (hO.belowB hM' hBW) (Nat.le_refl _)) hA pre.length 0 (by omega) (by omega) _ (by rw [hc]; kernel_rfl)) ?_)))))))))))
    refine Zw (.string (mkS x)) ?_
    by_cases h2 : (c : List UInt8) = x
    · refine yQ (.bool true) (by kernel_rfl) (zV (a := c) (b := x) rfl (by kernel_rfl) (by kernel_rfl) (decide_eq_true (h2))) ?_
      refine Zw (.bool true) (yU (z8 (Zt (ZO (Zv (.pointer (some ⟨b, 0, none⟩)) (Zv (.pointer (some ⟨b, 0, none⟩)) (Zv (.pointer (some ⟨b, 1, none⟩)) (Zl 0 ⟨b, #[.slice A ws.length cap, .int .i64 ((pre.length : Nat) : Int), .slice C nd.length cc, .bool bad], 58⟩ (off := 1) (.int .i64 ((pre.length : Nat) : Int)) (Zu (k := .i64) (((pre.length + 1 : Nat) : Int)) (IntWalk.i64_in _ (by omega)) (Zv (.pointer (some ⟨b, 0, none⟩)) ?_))))))))))
      refine Zv (.pointer (some ⟨b, 1, none⟩)) (Zs 0 ⟨b, #[.slice A ws.length cap, .int .i64 ((pre.length : Nat) : Int), .slice C nd.length cc, .bool bad], 58⟩ (off := 1) (.int .i64 ((pre.length + 1 : Nat) : Int)) (ZR (Zv (.bool true) (ZN (zG (z5 (ZF (.bool true) Tryd.results49 ?_)))))))
      exact fun w hO => ⟨_, by subst h2; exact congrArg (fun z => Ending.returned (.bool z)) next_yes.1.symm, ⟨by rw [← h2, next_yes.2]; exact ⟨pre ++ [c], C, cc, g, by rw [hws]; simp, by rw [show (pre ++ [c]).length = pre.length + 1 from by simp]; rfl, hsl⟩, hO⟩⟩
    refine yQ (.bool false) (by kernel_rfl) (zV (a := c) (b := x) rfl (by kernel_rfl) (by kernel_rfl) (decide_eq_false (h2))) (Zw (.bool false) (yU (z8 (Zf (ZB (ZO (Zv (.bool false) (zK (z8 ?_)))))))))
    exact zG (ZF (.bool false) Tryd.results49 (fun w hO => ⟨_, congrArg (fun z => Ending.returned (.bool z)) (kI (x := x) (ts := c :: r) (by simp; exact h2)).1.symm, ⟨by rw [(kI (x := x) (ts := c :: r) (by simp; exact h2)).2]; exact ⟨pre, C, cc, g, hws, rfl, hsl⟩, hO⟩⟩))
  obtain rfl : ts = [] := by cases ts with | nil => rfl | cons c r => simp at hwl; omega
  refine Ze (p := ((pre.length : Nat) : Int) < (ws.length : Int)) false (decide_eq_false (h1)) (Zw (.bool false) (Zj (Zj (Zj (Zj (Zj (Zj (Zj (Zj (Zj (Zj ?_)))))))))))
  refine Zj (Zj (Zw (.bool false) (yU (z8 (Zf (ZB (ZO (Zv (.bool false) (zK ?_)))))))))
  exact z8 (zG (ZF (.bool false) Tryd.results49 (fun w hO => ⟨_, congrArg (fun z => Ending.returned (.bool z)) (kI (x := x) (ts := ([] : List Tok)) (by simp)).1.symm, ⟨by rw [(kI (x := x) (ts := ([] : List Tok)) (by simp)).2]; exact ⟨pre, C, cc, g, hws, rfl, hsl⟩, hO⟩⟩)))
theorem wX {B b : Nat} {A : Option Addr} {cap : Nat} {ws ts : List Tok} {nd : List Nd} {bad : Bool} {ob : List Blk} {W : World} (hL : Lent B b A cap ws ts nd bad ob W) : Calls Tryd.prog 89 #[.pointer (some ⟨b, 0, none⟩)] W fun e w' => ∃ ob', e = .returned (.string (mkS (ts.headD []))) ∧ Back b A cap ws ts.tail nd (bad || decide (ts = [])) ob ob' W w' := by
  have hO0 := hL.own
  have hM' := x4 hL.ge
  have hBW := hL.le
  have hw := hL.words
  have hsh := hL.short
  have hfw := hL.few
  have hsm := hL.small
  obtain ⟨pre, C, cc, g, hws, rfl, hsl⟩ := hL.rd
  have hwl : ws.length = pre.length + ts.length := by rw [hws, List.length_append]
  have hO := hO0
  refine y6 (n := 34) hO Tryd.func89 rfl (by kernel_rfl) (by kernel_rfl) (ZO (Zv (.string ⟨#[]⟩) (ZN (zF (zF (xU (by kernel_rfl) (by kernel_rfl) (Zw (.pointer (some ⟨b, 0, none⟩)) (Zw (.pointer (some ⟨b, 0, none⟩)) (Zw (.pointer (some ⟨b, 1, none⟩)) ?_)))))))))
  refine Zm 0 ⟨b, #[.slice A ws.length cap, .int .i64 ((pre.length : Nat) : Int), .slice C nd.length cc, .bool bad], 58⟩ (off := 1) (.int .i64 ((pre.length : Nat) : Int)) (Zw (.pointer (some ⟨b, 0, none⟩)) (Zw (.pointer (some ⟨b, 0, none⟩)) (Zw (.pointer (some ⟨b, 0, none⟩)) (Zm 0 ⟨b, #[.slice A ws.length cap, .int .i64 ((pre.length : Nat) : Int), .slice C nd.length cc, .bool bad], 58⟩ (off := 0) (.slice A ws.length cap) (Zw (.int .i64 (ws.length : Int)) ?_)))))
  by_cases h1 : (ws.length : Int) ≤ ((pre.length : Nat) : Int)
  · obtain rfl : ts = [] := by cases ts with | nil => rfl | cons c r => simp at hwl; omega
    refine Ze (p := (ws.length : Int) ≤ ((pre.length : Nat) : Int)) true (decide_eq_true (h1)) (yU (z8 (Zt (ZO (Zv (.pointer (some ⟨b, 0, none⟩)) (Zv (.pointer (some ⟨b, 0, none⟩)) (Zv (.pointer (some ⟨b, 3, none⟩)) (Zs 0 ⟨b, #[.slice A ws.length cap, .int .i64 ((pre.length : Nat) : Int), .slice C nd.length cc, .bool bad], 58⟩ (off := 3) (.bool true) (zK (z8 ?_))))))))))
    exact ZO (Zv (.string ⟨#[]⟩) (ZN (zG (z5 (ZF (.string ⟨#[]⟩) Tryd.results89 (fun w hO => ⟨_, rfl, ⟨by rw [show (bad || decide (([] : List Tok) = [])) = true from by simp]; exact ⟨pre, C, cc, g, hws, rfl, hsl⟩, hO⟩⟩))))))
  obtain ⟨c, r, rfl⟩ : ∃ c r, ts = c :: r := by cases ts with | nil => simp at hwl; omega | cons c r => exact ⟨c, r, rfl⟩
  obtain ⟨bp, off, hA, hlt, hcell⟩ := hw (by omega)
  have hc : ∀ h : pre.length < ws.length, ws[pre.length] = c := by subst hws; intro h; simp
  refine Ze (p := (ws.length : Int) ≤ ((pre.length : Nat) : Int)) false (decide_eq_false (h1)) (yU (z8 (Zf (ZB (ZO (Zv (.pointer (some ⟨b, 0, none⟩)) (Zv (.pointer (some ⟨b, 0, none⟩)) (Zv (.pointer (some ⟨b, 1, none⟩)) (Zl 0 ⟨b, #[.slice A ws.length cap, .int .i64 ((pre.length : Nat) : Int), .slice C nd.length cc, .bool bad], 58⟩ (off := 1) (.int .i64 ((pre.length : Nat) : Int)) ?_)))))))))
  refine Zu (k := .i64) (((pre.length + 1 : Nat) : Int)) (IntWalk.i64_in _ (by omega)) (Zv (.pointer (some ⟨b, 0, none⟩)) (Zv (.pointer (some ⟨b, 1, none⟩)) (Zs 0 ⟨b, #[.slice A ws.length cap, .int .i64 ((pre.length : Nat) : Int), .slice C nd.length cc, .bool bad], 58⟩ (off := 1) (.int .i64 ((pre.length + 1 : Nat) : Int)) (ZN (zF (xU (by kernel_rfl) (by kernel_rfl) (Zw (.pointer (some ⟨b, 0, none⟩)) (Zw (.pointer (some ⟨b, 0, none⟩)) (Zw (.pointer (some ⟨b, 0, none⟩)) (Zm 0 ⟨b, #[.slice A ws.length cap, .int .i64 ((pre.length + 1 : Nat) : Int), .slice C nd.length cc, .bool bad], 58⟩ (off := 0) (.slice A ws.length cap) ?_))))))))))
  refine Zw (.pointer (some ⟨b, 0, none⟩)) (Zw (.pointer (some ⟨b, 0, none⟩)) (Zw (.pointer (some ⟨b, 1, none⟩)) (Zm 0 ⟨b, #[.slice A ws.length cap, .int .i64 ((pre.length + 1 : Nat) : Int), .slice C nd.length cc, .bool bad], 58⟩ (off := 1) (.int .i64 ((pre.length + 1 : Nat) : Int)) (j7 (k := .i64) (((pre.length + 1 : Nat) : Int) - 1) (by kernel_rfl) (fun _ => by kernel_rfl) (IntWalk.i64_in _ (by omega)) (yQ (.pointer (some ⟨bp, off + pre.length * 1, none⟩)) (by kernel_rfl) (xY (b := bp) (off := off) (c := cap) (n := ws.length) (k := .i64) (j := ((pre.length + 1 : Nat) : Int) - 1) (e := 9) (sz := 1) rfl (by kernel_rfl) hA (by kernel_rfl) (by kernel_rfl) (by kernel_rfl) (by omega) (by omega) (by omega)) (qW (.string (mkS c)) (a := ⟨bp, off + pre.length * 1, none⟩) (by kernel_rfl) rfl (by kernel_rfl) (fun w hO => Reads.load vO (hw.on (hO.belowB hM' hBW) (Nat.le_refl _)) hA pre.length 0 (by omega) (by omega) _ (by rw [hc]; kernel_rfl)) (Zw (.string (mkS c)) (yU (z8 (zG (ZF (.string (mkS c)) Tryd.results89 ?_)))))))))))
  exact fun w hO => ⟨_, rfl, ⟨by rw [show (bad || decide ((c :: r) = ([] : List Tok))) = bad from by simp]; exact ⟨pre ++ [c], C, cc, g, by rw [hws]; simp, by rw [show (pre ++ [c]).length = pre.length + 1 from by simp]; rfl, hsl⟩, hO⟩⟩
theorem qI {B b : Nat} {A : Option Addr} {cap : Nat} {ws ts : List Tok} {nd : List Nd} {bad : Bool} {ob : List Blk} {W : World} (hL : Lent B b A cap ws ts nd bad ob W) (n : Nd) (hn9 : nd.length ≤ 1000000) : Calls Tryd.prog 50 #[.pointer (some ⟨b, 0, none⟩), ndV n] W fun e w' => ∃ ob', e = .returned (.int .i64 (nd.length : Int)) ∧ Back b A cap ws ts (nd ++ [n]) bad ob ob' W w' := by
  have hO0 := hL.own
  have hM' := x4 hL.ge
  have hBW := hL.le
  have hw := hL.words
  have hsh := hL.short
  have hfw := hL.few
  have hsm := hL.small
  obtain ⟨pre, C, cc, g, hws, rfl, hsl⟩ := hL.rd
  have hwl : ws.length = pre.length + ts.length := by rw [hws, List.length_append]
  have hO := hO0
  have hnl : (nd ++ [n]).length = nd.length + 1 := by simp
  refine y6 (n := 21) hO Tryd.func50 rfl (by kernel_rfl) (by kernel_rfl) (ZO (Zb (ndV n) (fun b1 => Zv (.int .i64 0) (ZN (zF (gB (L' := [⟨b, #[.slice A ws.length cap, .int .i64 ((pre.length : Nat) : Int), .slice C nd.length cc, .bool bad], 58⟩] ++ g ++ [⟨b1, (ndV n).cells, 48⟩]) (fun w hO => hO.perm (by simpa using (List.perm_append_comm (l₁ := [⟨b1, (ndV n).cells, 48⟩]) (l₂ := ⟨b, #[.slice A ws.length cap, .int .i64 ((pre.length : Nat) : Int), .slice C nd.length cc, .bool bad], 58⟩ :: g)))) (yB (L' := (⟨b, #[.slice A ws.length cap, .int .i64 ((pre.length : Nat) : Int), .slice C nd.length cc, .bool bad], 58⟩ :: (g ++ ([] : List Blk))) ++ [⟨b1, (ndV n).cells, 48⟩]) (by simp) (kQ ([⟨b1, (ndV n).cells, 48⟩]) (by kernel_rfl) (fun w hO => Own.sub (⟨b, #[.slice A ws.length cap, .int .i64 ((pre.length : Nat) : Int), .slice C nd.length cc, .bool bad], 58⟩ :: (g ++ ([] : List Blk))) hO) (ZT 0 (⟨b, #[.slice A ws.length cap, .int .i64 ((pre.length : Nat) : Int), .slice C nd.length cc, .bool bad], 58⟩ :: (g ++ ([] : List Blk))) _ (.pointer (some ⟨b, 0, none⟩)) (zA zB) rfl ?_)))))))))
  refine ZT 1 (⟨b, #[.slice A ws.length cap, .int .i64 ((pre.length : Nat) : Int), .slice C nd.length cc, .bool bad], 58⟩ :: (g ++ ([] : List Blk))) _ (.pointer (some ⟨b, 0, none⟩)) (zA zB) rfl (ZT 2 (⟨b, #[.slice A ws.length cap, .int .i64 ((pre.length : Nat) : Int), .slice C nd.length cc, .bool bad], 58⟩ :: (g ++ ([] : List Blk))) _ (.pointer (some ⟨b, 0, none⟩)) (zA zB) rfl (ZT 3 (⟨b, #[.slice A ws.length cap, .int .i64 ((pre.length : Nat) : Int), .slice C nd.length cc, .bool bad], 58⟩ :: (g ++ ([] : List Blk))) _ (.pointer (some ⟨b, 2, none⟩)) (zA zB) rfl (ZL 5 (⟨b, #[.slice A ws.length cap, .int .i64 ((pre.length : Nat) : Int), .slice C nd.length cc, .bool bad], 58⟩ :: (g ++ ([] : List Blk))) _ 0 ⟨b1, (ndV n).cells, 48⟩ (off := 0) (ndV n) (zA zB) rfl rfl (d5 4 6 (by kernel_rfl) ?_ ?_))))
  · refine gO (⟨b, #[.slice A ws.length cap, .int .i64 ((pre.length : Nat) : Int), .slice C nd.length cc, .bool bad], 58⟩ :: (g ++ ([] : List Blk))) _ (.slice C nd.length cc) rfl (by kernel_rfl) (fun w hO => yF (a := ⟨b, 2, none⟩) rfl (by kernel_rfl) (yO (off := 2) (cs := (⟨b, #[.slice A ws.length cap, .int .i64 ((pre.length : Nat) : Int), .slice C nd.length cc, .bool bad], 58⟩ : Blk).cs) (by kernel_rfl) (hO.held ⟨b, #[.slice A ws.length cap, .int .i64 ((pre.length : Nat) : Int), .slice C nd.length cc, .bool bad], 58⟩ (by simp)))) ?_
    refine yK 6 (by kernel_rfl) (kY _ 48 #[.int .i64 n.op, .int .i64 n.a, .int .i64 n.b, .int .i64 n.key, .string (mkS n.text)] rfl (by kernel_rfl) rfl (fun w hO => Own.sub (⟨b, #[.slice A ws.length cap, .int .i64 ((pre.length : Nat) : Int), .slice C nd.length cc, .bool bad], 58⟩ :: (g ++ ([] : List Blk))) hO) (fun _ => by kernel_rfl) (fun b2 => ?_))
    obtain ⟨i0, z0, e1, e2, e3, e4, e5⟩ := xD
    refine yT (L' := [⟨b2, #[.int .i64 n.op, .int .i64 n.a, .int .i64 n.b, .int .i64 n.key, .string (mkS n.text)], 48⟩, ⟨b, #[.slice A ws.length cap, .int .i64 ((pre.length : Nat) : Int), .slice C nd.length cc, .bool bad], 58⟩] ++ g ++ ([⟨b1, (ndV n).cells, 48⟩])) (by simp) (yK 7 (by kernel_rfl) (x5 (E := [⟨b2, #[.int .i64 n.op, .int .i64 n.a, .int .i64 n.b, .int .i64 n.key, .string (mkS n.text)], 48⟩, ⟨b, #[.slice A ws.length cap, .int .i64 ((pre.length : Nat) : Int), .slice C nd.length cc, .bool bad], 58⟩]) (ob := g) (R := ([⟨b1, (ndV n).cells, 48⟩])) (sz := 5) _ rfl (by kernel_rfl) rfl Tryd.underlying23 e1 e2 e3 e4 (by kernel_rfl) hsl (a := ⟨b2, 0, none⟩) (m := 1) (c := 1) (news := nC n) (by kernel_rfl) rfl (fun w hO j u hj => ?_) (fun u hu => by simp only [nC, List.mem_cons, List.not_mem_nil, or_false] at hu; rcases hu with rfl | rfl | rfl | rfl | rfl <;> rfl) (by unfold maxLen; omega) (by rw [e5]; omega) (fun ob' w h => Own.sub ([⟨b2, #[.int .i64 n.op, .int .i64 n.a, .int .i64 n.b, .int .i64 n.key, .string (mkS n.text)], 48⟩, ⟨b, #[.slice A ws.length cap, .int .i64 ((pre.length : Nat) : Int), .slice C nd.length cc, .bool bad], 58⟩] ++ ob') h) (fun u2 ob2 hu2 => ?_)))
    · rw [y5, cell_of_row w b2 (0 + j) (nC n).toArray 48 _ (hO.held ⟨b2, (nC n).toArray, 48⟩ (List.mem_append_left _ (List.mem_append_left _ (by first | exact List.mem_cons_self .. | (refine List.mem_cons_of_mem _ ?_; exact List.mem_cons_self ..)))))]; simpa using hj
    have hu2s : SlN u2 (nd ++ [n]) ob2 := SlN.add hu2
    obtain ⟨B2, cb2, rfl⟩ := Sl.form hu2s
    refine yT (L' := (⟨b2, #[.int .i64 n.op, .int .i64 n.a, .int .i64 n.b, .int .i64 n.key, .string (mkS n.text)], 48⟩ :: (⟨b, #[.slice A ws.length cap, .int .i64 ((pre.length : Nat) : Int), .slice C nd.length cc, .bool bad], 58⟩ :: (ob2 ++ ([] : List Blk)))) ++ ([⟨b1, (ndV n).cells, 48⟩])) (by simp) (ZT 8 (⟨b2, #[.int .i64 n.op, .int .i64 n.a, .int .i64 n.b, .int .i64 n.key, .string (mkS n.text)], 48⟩ :: (⟨b, #[.slice A ws.length cap, .int .i64 ((pre.length : Nat) : Int), .slice C nd.length cc, .bool bad], 58⟩ :: (ob2 ++ ([] : List Blk)))) _ (.pointer (some ⟨b, 0, none⟩)) (zA zB) rfl (ZT 9 (⟨b2, #[.int .i64 n.op, .int .i64 n.a, .int .i64 n.b, .int .i64 n.key, .string (mkS n.text)], 48⟩ :: (⟨b, #[.slice A ws.length cap, .int .i64 ((pre.length : Nat) : Int), .slice C nd.length cc, .bool bad], 58⟩ :: (ob2 ++ ([] : List Blk)))) _ (.pointer (some ⟨b, 2, none⟩)) (zA zB) rfl (yK 10 (by kernel_rfl) (ZS (⟨b2, #[.int .i64 n.op, .int .i64 n.a, .int .i64 n.b, .int .i64 n.key, .string (mkS n.text)], 48⟩ :: (⟨b, #[.slice A ws.length cap, .int .i64 ((pre.length : Nat) : Int), .slice C nd.length cc, .bool bad], 58⟩ :: (ob2 ++ ([] : List Blk)))) _ 1 ⟨b, #[.slice A ws.length cap, .int .i64 ((pre.length : Nat) : Int), .slice C nd.length cc, .bool bad], 58⟩ (off := 2) (.slice B2 ((nd ++ [n]).length) cb2) rfl rfl (xR (by kernel_rfl) (z8 (ZO (Zv (.pointer (some ⟨b, 0, none⟩)) (Zv (.pointer (some ⟨b, 0, none⟩)) (Zv (.pointer (some ⟨b, 2, none⟩)) ?_))))))))))
    exact Zl 1 ⟨b, #[.slice A ws.length cap, .int .i64 ((pre.length : Nat) : Int), .slice B2 ((nd ++ [n]).length) cb2, .bool bad], 58⟩ (off := 2) (.slice B2 ((nd ++ [n]).length) cb2) (Zv (.int .i64 ((nd ++ [n]).length : Int)) (Zu (k := .i64) (((nd ++ [n]).length : Int) - 1) (IntWalk.i64_in _ (by omega)) (Zv (.int .i64 (((nd ++ [n]).length : Int) - 1)) (ZN (zG (ZF (.int .i64 (((nd ++ [n]).length : Int) - 1)) Tryd.results50 (fun w hO => ⟨_, by rw [show (nd.length : Int) = ((nd ++ [n]).length : Int) - 1 from by simp], ⟨⟨pre, B2, cb2, ob2, hws, rfl, hu2s⟩, hO.sublist (List.Sublist.cons _ (List.Sublist.cons_cons _ (by simp)))⟩⟩)))))))
  refine kY _ 48 #[.int .i64 n.op, .int .i64 n.a, .int .i64 n.b, .int .i64 n.key, .string (mkS n.text)] rfl (by kernel_rfl) rfl (fun w hO => Own.sub (⟨b, #[.slice A ws.length cap, .int .i64 ((pre.length : Nat) : Int), .slice C nd.length cc, .bool bad], 58⟩ :: (g ++ ([] : List Blk))) hO) (fun _ => by kernel_rfl) (fun b2 => yK 4 (by kernel_rfl) (gO (⟨b2, #[.int .i64 n.op, .int .i64 n.a, .int .i64 n.b, .int .i64 n.key, .string (mkS n.text)], 48⟩ :: (⟨b, #[.slice A ws.length cap, .int .i64 ((pre.length : Nat) : Int), .slice C nd.length cc, .bool bad], 58⟩ :: (g ++ ([] : List Blk)))) _ (.slice C nd.length cc) rfl (by kernel_rfl) (fun w hO => yF (a := ⟨b, 2, none⟩) rfl (by kernel_rfl) (yO (off := 2) (cs := (⟨b, #[.slice A ws.length cap, .int .i64 ((pre.length : Nat) : Int), .slice C nd.length cc, .bool bad], 58⟩ : Blk).cs) (by kernel_rfl) (hO.held ⟨b, #[.slice A ws.length cap, .int .i64 ((pre.length : Nat) : Int), .slice C nd.length cc, .bool bad], 58⟩ (by simp)))) ?_))
  obtain ⟨i0, z0, e1, e2, e3, e4, e5⟩ := xD
  refine yT (L' := [⟨b2, #[.int .i64 n.op, .int .i64 n.a, .int .i64 n.b, .int .i64 n.key, .string (mkS n.text)], 48⟩, ⟨b, #[.slice A ws.length cap, .int .i64 ((pre.length : Nat) : Int), .slice C nd.length cc, .bool bad], 58⟩] ++ g ++ ([⟨b1, (ndV n).cells, 48⟩])) (by simp) (yK 7 (by kernel_rfl) (x5 (E := [⟨b2, #[.int .i64 n.op, .int .i64 n.a, .int .i64 n.b, .int .i64 n.key, .string (mkS n.text)], 48⟩, ⟨b, #[.slice A ws.length cap, .int .i64 ((pre.length : Nat) : Int), .slice C nd.length cc, .bool bad], 58⟩]) (ob := g) (R := ([⟨b1, (ndV n).cells, 48⟩])) (sz := 5) _ rfl (by kernel_rfl) rfl Tryd.underlying23 e1 e2 e3 e4 (by kernel_rfl) hsl (a := ⟨b2, 0, none⟩) (m := 1) (c := 1) (news := nC n) (by kernel_rfl) rfl (fun w hO j u hj => ?_) (fun u hu => by simp only [nC, List.mem_cons, List.not_mem_nil, or_false] at hu; rcases hu with rfl | rfl | rfl | rfl | rfl <;> rfl) (by unfold maxLen; omega) (by rw [e5]; omega) (fun ob' w h => Own.sub ([⟨b2, #[.int .i64 n.op, .int .i64 n.a, .int .i64 n.b, .int .i64 n.key, .string (mkS n.text)], 48⟩, ⟨b, #[.slice A ws.length cap, .int .i64 ((pre.length : Nat) : Int), .slice C nd.length cc, .bool bad], 58⟩] ++ ob') h) (fun u2 ob2 hu2 => ?_)))
  · rw [y5, cell_of_row w b2 (0 + j) (nC n).toArray 48 _ (hO.held ⟨b2, (nC n).toArray, 48⟩ (List.mem_append_left _ (List.mem_append_left _ (by first | exact List.mem_cons_self .. | (refine List.mem_cons_of_mem _ ?_; exact List.mem_cons_self ..)))))]; simpa using hj
  have hu2s : SlN u2 (nd ++ [n]) ob2 := SlN.add hu2
  obtain ⟨B2, cb2, rfl⟩ := Sl.form hu2s
  refine yT (L' := (⟨b2, #[.int .i64 n.op, .int .i64 n.a, .int .i64 n.b, .int .i64 n.key, .string (mkS n.text)], 48⟩ :: (⟨b, #[.slice A ws.length cap, .int .i64 ((pre.length : Nat) : Int), .slice C nd.length cc, .bool bad], 58⟩ :: (ob2 ++ ([] : List Blk)))) ++ ([⟨b1, (ndV n).cells, 48⟩])) (by simp) (ZT 8 (⟨b2, #[.int .i64 n.op, .int .i64 n.a, .int .i64 n.b, .int .i64 n.key, .string (mkS n.text)], 48⟩ :: (⟨b, #[.slice A ws.length cap, .int .i64 ((pre.length : Nat) : Int), .slice C nd.length cc, .bool bad], 58⟩ :: (ob2 ++ ([] : List Blk)))) _ (.pointer (some ⟨b, 0, none⟩)) (zA zB) rfl (ZT 9 (⟨b2, #[.int .i64 n.op, .int .i64 n.a, .int .i64 n.b, .int .i64 n.key, .string (mkS n.text)], 48⟩ :: (⟨b, #[.slice A ws.length cap, .int .i64 ((pre.length : Nat) : Int), .slice C nd.length cc, .bool bad], 58⟩ :: (ob2 ++ ([] : List Blk)))) _ (.pointer (some ⟨b, 2, none⟩)) (zA zB) rfl (yK 10 (by kernel_rfl) (ZS (⟨b2, #[.int .i64 n.op, .int .i64 n.a, .int .i64 n.b, .int .i64 n.key, .string (mkS n.text)], 48⟩ :: (⟨b, #[.slice A ws.length cap, .int .i64 ((pre.length : Nat) : Int), .slice C nd.length cc, .bool bad], 58⟩ :: (ob2 ++ ([] : List Blk)))) _ 1 ⟨b, #[.slice A ws.length cap, .int .i64 ((pre.length : Nat) : Int), .slice C nd.length cc, .bool bad], 58⟩ (off := 2) (.slice B2 ((nd ++ [n]).length) cb2) rfl rfl (xR (by kernel_rfl) (z8 (ZO (Zv (.pointer (some ⟨b, 0, none⟩)) (Zv (.pointer (some ⟨b, 0, none⟩)) (Zv (.pointer (some ⟨b, 2, none⟩)) ?_))))))))))
  exact Zl 1 ⟨b, #[.slice A ws.length cap, .int .i64 ((pre.length : Nat) : Int), .slice B2 ((nd ++ [n]).length) cb2, .bool bad], 58⟩ (off := 2) (.slice B2 ((nd ++ [n]).length) cb2) (Zv (.int .i64 ((nd ++ [n]).length : Int)) (Zu (k := .i64) (((nd ++ [n]).length : Int) - 1) (IntWalk.i64_in _ (by omega)) (Zv (.int .i64 (((nd ++ [n]).length : Int) - 1)) (ZN (zG (ZF (.int .i64 (((nd ++ [n]).length : Int) - 1)) Tryd.results50 (fun w hO => ⟨_, by rw [show (nd.length : Int) = ((nd ++ [n]).length : Int) - 1 from by simp], ⟨⟨pre, B2, cb2, ob2, hws, rfl, hu2s⟩, hO.sublist (List.Sublist.cons _ (List.Sublist.cons_cons _ (by simp)))⟩⟩)))))))
end
section
set_option linter.unnecessarySimpa false
theorem Lent.at {B b : Nat} {A : Option Addr} {cap : Nat} {ws ts ts' : List Tok} {nd nd' : List Nd} {bad bad' : Bool} {ob ob' R : List Blk} {W w : World} (h : Lent B b A cap ws ts nd bad ob W) (hR : Rd b A cap ws ts' nd' bad' ob') (hs : nd'.length + ts'.length ≤ 10000) (hO : Own (ob.map Blk.b) W w (ob' ++ R)) : Lent B b A cap ws ts' nd' bad' ob' w :=
  ⟨hR, Own.lent hO, fun x hx => hO.allB (x4 h.ge) h.le x (List.mem_append_left _ hx), Nat.le_trans h.le hO.size, h.words.on (hO.belowB (x4 h.ge) h.le) (Nat.le_refl _), h.short, h.few, hs⟩
theorem Rd.load {b : Nat} {A : Option Addr} {cap : Nat} {ws ts : List Tok} {nd : List Nd} {bad : Bool} {ob L : List Blk} {M : List Nat} {W w : World} (h : Rd b A cap ws ts nd bad ob) (hO : Own M W w L) (hs : ∀ x ∈ ob, x ∈ L) : (loadVar 4 ⟨b, 3, none⟩).run Tryd.prog w = .ok (.bool bad) w := by
  obtain ⟨pre, C, cc, g, hws, rfl, hsl⟩ := h
  exact yO (by kernel_rfl) (hO.held _ (hs _ (List.mem_cons_self ..)))
def Got (part : List Tok → Option (Tr × List Tok)) (ts : List Tok) (nd : List Nd) (z : Int) (ts' : List Tok) (nd' : List Nd) (bad' : Bool) : Prop :=
  nd'.length + ts'.length ≤ nd.length + ts.length ∧ ts'.length ≤ ts.length ∧
    match part ts with
    | some (t, r) => bad' = false ∧ ts' = r ∧ nd' = nd ++ t.enc nd.length ∧ z = ((nd.length + t.sz - 1 : Nat) : Int)
    | none => bad' = true
def ChI (part : List Tok → Option (Tr × List Tok)) (c : Tok) (mk : Tr → Tr → Tr) (ts : List Tok) (nd : List Nd) (z : Int) (tq : List Tok) (nq : List Nd) (bq : Bool) : Prop :=
  nq.length + tq.length ≤ nd.length + ts.length ∧ tq.length ≤ ts.length ∧
    (if bq = true then x9 part c mk ts = none else ∃ t, x9 part c mk ts = kL part c mk tq.length t tq ∧ nq = nd ++ t.enc nd.length ∧ z = ((nd.length + t.sz - 1 : Nat) : Int))
structure MkOf (op : Int) (mk : Tr → Tr → Tr) : Prop where
  enc : ∀ a b o, (mk a b).enc o = a.enc o ++ b.enc (o + a.sz) ++ [⟨op, ((o + a.sz - 1 : Nat) : Int), ((o + a.sz + b.sz - 1 : Nat) : Int), 0, []⟩]
  sz : ∀ a b, (mk a b).sz = a.sz + b.sz + 1
theorem mk_both : MkOf 3 .both := ⟨fun _ _ _ => rfl, fun _ _ => rfl⟩
theorem mk_one : MkOf 4 .one := ⟨fun _ _ _ => rfl, fun _ _ => rfl⟩
theorem ch_start {part : List Tok → Option (Tr × List Tok)} {c : Tok} {mk : Tr → Tr → Tr} {ts ts' : List Tok} {nd nd' : List Nd} {z : Int} {bad' : Bool} (h : Got part ts nd z ts' nd' bad') : ChI part c mk ts nd z ts' nd' bad' := by
  obtain ⟨h1, h2, h3⟩ := h
  refine ⟨h1, h2, ?_⟩
  cases hp : part ts with
  | none => rw [hp] at h3; rw [if_pos h3]; unfold x9; rw [hp]
  | some x =>
    obtain ⟨t, r⟩ := x
    rw [hp] at h3
    obtain ⟨hb, hr, hn, hz⟩ := h3
    rw [if_neg (by rw [hb]; simp)]
    exact ⟨t, by unfold x9; rw [hp, hr], hn, hz⟩
theorem ch_stop {part : List Tok → Option (Tr × List Tok)} {c : Tok} {mk : Tr → Tr → Tr} {ts tq : List Tok} {nd nq : List Nd} {z : Int} (h : ChI part c mk ts nd z tq nq false) (hc : xE c tq = false) : Got (x9 part c mk) ts nd z tq nq false := by
  obtain ⟨h1, h2, h3⟩ := h
  rw [if_neg (by simp)] at h3
  obtain ⟨t, e, hn, hz⟩ := h3
  rw [kF _ _ _ _ _ _ (of_decide_eq_false hc)] at e
  refine ⟨h1, h2, ?_⟩
  rw [e]
  exact ⟨rfl, rfl, hn, hz⟩
theorem ch_fell {part : List Tok → Option (Tr × List Tok)} {c : Tok} {mk : Tr → Tr → Tr} {ts tq : List Tok} {nd nq : List Nd} {z : Int} (h : ChI part c mk ts nd z tq nq true) : Got (x9 part c mk) ts nd z tq nq true := by
  obtain ⟨h1, h2, h3⟩ := h
  rw [if_pos rfl] at h3
  refine ⟨h1, h2, ?_⟩
  rw [h3]
theorem kS {c : Tok} {ts : List Tok} (h : xE c ts = true) : ∃ r, ts = c :: r ∧ yJ c ts = r := by
  unfold xE at h
  have := of_decide_eq_true h
  cases ts with
  | nil => cases this
  | cons d r => simp only [List.head?_cons, Option.some.injEq] at this; subst this; exact ⟨r, rfl, next_yes.2⟩
theorem ch_step {part : List Tok → Option (Tr × List Tok)} (hp : Eats part) {op : Int} {c : Tok} {mk : Tr → Tr → Tr} (hmk : MkOf op mk) {ts tq r ts2 : List Tok} {nd nq nd2 : List Nd} {z z2 : Int} {bad2 : Bool} (h : ChI part c mk ts nd z tq nq false) (htq : tq = c :: r) (h2 : Got part r nq z2 ts2 nd2 bad2) :
    ChI part c mk ts nd (nd2.length : Int) ts2 (nd2 ++ [⟨op, z, z2, 0, []⟩]) bad2 := by
  obtain ⟨h1, h3, h4⟩ := h
  rw [if_neg (by simp)] at h4
  obtain ⟨t, e, hn, hz⟩ := h4
  obtain ⟨g1, g2, g3⟩ := h2
  subst htq
  simp only [List.length_cons] at h1 h3
  refine ⟨by rw [List.length_append, List.length_singleton]; omega, by omega, ?_⟩
  rw [List.length_cons, kL, if_pos rfl] at e
  cases hq : part r with
  | none =>
    rw [hq] at g3 e
    rw [if_pos g3, e]
  | some y =>
    obtain ⟨u, r'⟩ := y
    rw [hq] at g3 e
    obtain ⟨hb, hr, hn2, hz2⟩ := g3
    rw [if_neg (by rw [hb]; simp)]
    have hl := hp _ _ _ hq
    have hz1 := t.sz_pos
    have hz3 := u.sz_pos
    subst hr
    have hnl : nq.length = nd.length + t.sz := by rw [hn, List.length_append, Tr.enc_len]
    refine ⟨mk t u, ?_, ?_, ?_⟩
    · rw [e]; exact jA hp _ _ _ _ _ _ (by omega) (Nat.le_refl _)
    · rw [hmk.enc, hn2, hz2, hz, hnl]
      rw [show nd ++ (t.enc nd.length ++ u.enc (nd.length + t.sz) ++ [(⟨op, ((nd.length + t.sz - 1 : Nat) : Int), ((nd.length + t.sz + u.sz - 1 : Nat) : Int), 0, []⟩ : Nd)]) = nq ++ u.enc (nd.length + t.sz) ++ [(⟨op, ((nd.length + t.sz - 1 : Nat) : Int), ((nd.length + t.sz + u.sz - 1 : Nat) : Int), 0, []⟩ : Nd)] from by rw [hn]; simp]
    · rw [hmk.sz, hn2, List.length_append, Tr.enc_len, hnl]; congr 1; omega
structure d7 (f : FuncId) (n : Nat) (part : List Tok → Option (Tr × List Tok)) : Prop where
  go : ∀ {B b : Nat} {A : Option Addr} {cap : Nat} {ws ts : List Tok} {nd : List Nd} {ob : List Blk} {W : World}, Lent B b A cap ws ts nd false ob W → ts.length ≤ n →
    Calls Tryd.prog f #[.pointer (some ⟨b, 0, none⟩)] W fun e w' => ∃ z ts' nd' bad' ob', e = .returned (.int .i64 z) ∧ Back b A cap ws ts' nd' bad' ob ob' W w' ∧ Got part ts nd z ts' nd' bad'
theorem p6 {n : Nat} {ts : List Tok} (h1 : xE yZ ts = false) (h2 : xE yP ts = false) (hn : ts.length ≤ n) : xO n ts = kP ts := by
  cases ts with
  | nil => cases n <;> rfl
  | cons c r =>
    cases n with
    | zero => simp at hn
    | succ n =>
      have q1 := of_decide_eq_false h1
      have q2 := of_decide_eq_false h2
      simp only [List.head?_cons, Option.some.injEq] at q1 q2
      rw [xO, if_neg q1, if_neg q2]
theorem m2 (n : Nat) (hp : d7 72 n (xO n)) : d7 48 n (qK n) := by
  refine ⟨fun {B b A cap ws ts nd ob W} hL hln => ?_⟩
  have hM' := x4 hL.ge
  have hBW := hL.le
  refine y6 (n := 24) hL.own Tryd.func48 rfl (by kernel_rfl) (by kernel_rfl) (ZO (Zv (.int .i64 0) (ZR (Zv (.pointer (some ⟨b, 0, none⟩)) (zH (L' := ob ++ ([] : List Blk)) (by simp) (zO (k := 72) (args := #[.pointer (some ⟨b, 0, none⟩)]) (fun v' L' => ∃ z ts' nd' bad', v' = .int .i64 z ∧ ∃ ob', L' = ob' ++ ([] : List Blk) ∧ Rd b A cap ws ts' nd' bad' ob' ∧ Got (xO n) ts nd z ts' nd' bad') (by kernel_rfl) (fun _ => by kernel_rfl) (fun w hO => (hp.go (hL.at hL.rd hL.small hO) (hln)).mono fun e w' ⟨z, ts', nd', bad', ob', k1, k2, k3⟩ => ⟨_, _, k1, ⟨z, ts', nd', bad', rfl, ob', rfl, k2.rd, k3⟩, Own.join hO k2.own⟩) (fun v1 L1 hv1 => ?_)))))))
  obtain ⟨z1, ts1, nd1, bd1, rfl, ob1, rfl, hR1, hG1⟩ := hv1
  refine zH (L' := ob1) (List.append_nil _) ?_
  have hS1 : nd1.length + ts1.length ≤ 10000 := Nat.le_trans hG1.1 hL.small
  have hT1 := hG1.2.1
  refine Zv (.int .i64 z1) (ZN (zF (zP (yB (L' := ob1 ++ ([] : List Blk)) (by simp) (xT (fun L f m => ∃ (z : Int) (tq : List Tok) (nq : List Nd) (bq : Bool) (oq : List Blk) (j : Nat → Value), (ChI (xO n) xB .both ts nd z tq nq bq ∧ Rd b A cap ws tq nq bq oq ∧ nq.length + tq.length ≤ 10000) ∧ L = (oq ++ ([] : List Blk)) ∧ f = qT j [(0, .pointer (some ⟨b, 0, none⟩)), (3, .int .i64 z)] ∧ m = tq.length) (ts1.length) ⟨z1, ts1, nd1, bd1, ob1, _, ⟨ch_start hG1, hR1, hS1⟩, rfl, ZU, rfl⟩ ?_)))))
  rintro L f m ⟨z, tq, nq, bq, oq, j, hrel, rfl, rfl, rfl⟩
  obtain ⟨hch, hRq, hsq⟩ := hrel; refine yB (L' := oq) (by simp) ?_
  refine zF (ZO (Zv (.pointer (some ⟨b, 0, none⟩)) (Zv (.pointer (some ⟨b, 0, none⟩)) (Zv (.pointer (some ⟨b, 3, none⟩)) (Zo (.bool bq) (a := ⟨b, 3, none⟩) (fun w hO => hRq.load hO (fun x hx => by simp [hx])) ?_)))))
  cases h1 : bq with
  | true =>
    rw [h1] at hch hRq
    have hbq9 := h1
    refine Zv (.bool false) (Zv (.bool false) (Zk (Zk (Zv (.bool false) (ZX (xN (yG (zY (zZ ?_)))))))))
    exact z8 (ZO (Zv (.int .i64 z) (Zv (.int .i64 z) (ZN (zG (ZF (.int .i64 z) Tryd.results48 (fun w hO => ⟨z, tq, nq, true, oq, rfl, ⟨hRq, hO⟩, ch_fell hch⟩)))))))
  | false =>
    rw [h1] at hch hRq
    have hbq9 := h1
    refine Zv (.bool true) (Zv (.bool true) (Zv (.pointer (some ⟨b, 0, none⟩)) (zH (L' := oq ++ ([] : List Blk)) (by simp) (zO (k := 49) (args := #[.pointer (some ⟨b, 0, none⟩), .string ⟨#[97, 110, 100]⟩]) (fun v' L' =>  v' = .bool (xE xB tq) ∧ ∃ ob', L' = ob' ++ ([] : List Blk) ∧ Rd b A cap ws (yJ xB tq) nq false ob') (by kernel_rfl) (fun _ => by kernel_rfl) (fun w hO => (vP (hL.at hRq hsq hO) xB).mono fun e w' ⟨ob', k1, k2⟩ => ⟨_, _, k1, ⟨rfl, ob', rfl, k2.rd⟩, Own.join hO k2.own⟩) (fun v2 L2 hv2 => ?_)))))
    obtain ⟨rfl, ob2, rfl, hR2⟩ := hv2
    refine zH (L' := ob2) (List.append_nil _) ?_
    have hS2 : nq.length + (yJ xB tq).length ≤ 10000 := Nat.le_trans (Nat.add_le_add_left (qF _ _) _) hsq
    refine Zv (.bool (xE xB tq)) (zK (z8 ?_))
    cases h2 : xE xB tq with
    | true =>
      obtain ⟨r, htq, hnr⟩ := kS h2
      have htl : tq.length = r.length + 1 := by rw [htq]; rfl
      have hrest : nq.length + r.length + 1 ≤ 10000 := by have := hsq; omega
      have hnl9 := congrArg List.length hnr
      refine Zt (ZB (zP (ZO (Zv (.pointer (some ⟨b, 0, none⟩)) (zH (L' := ob2 ++ ([] : List Blk)) (by simp) (zO (k := 72) (args := #[.pointer (some ⟨b, 0, none⟩)]) (fun v' L' => ∃ z ts' nd' bad', v' = .int .i64 z ∧ ∃ ob', L' = ob' ++ ([] : List Blk) ∧ Rd b A cap ws ts' nd' bad' ob' ∧ Got (xO n) (yJ xB tq) nq z ts' nd' bad') (by kernel_rfl) (fun _ => by kernel_rfl) (fun w hO => (hp.go (hL.at hR2 (hS2) hO) (by rw [hnr]; have := hch.2.1; omega)).mono fun e w' ⟨z, ts', nd', bad', ob', k1, k2, k3⟩ => ⟨_, _, k1, ⟨z, ts', nd', bad', rfl, ob', rfl, k2.rd, k3⟩, Own.join hO k2.own⟩) (fun v3 L3 hv3 => ?_)))))))
      obtain ⟨z3, ts3, nd3, bd3, rfl, ob3, rfl, hR3, hG3⟩ := hv3
      refine zH (L' := ob3) (List.append_nil _) ?_
      have hS3 : nd3.length + ts3.length ≤ 10000 := Nat.le_trans hG3.1 (hS2)
      have hT3 := hG3.2.1
      refine Zv (.int .i64 z3) (ZN (z7 (Zv (.pointer (some ⟨b, 0, none⟩)) (Zv (.int .i64 z) (Zv (.int .i64 z3) (Zv (ndV (⟨3, z, z3, 0, []⟩ : Nd)) (zH (L' := ob3 ++ ([] : List Blk)) (by simp) ?_)))))))
      have hP4 : (nd3 ++ [(⟨3, z, z3, 0, []⟩ : Nd)]).length + ts3.length ≤ 10000 := by have q8 := hrest; have q9 := hG3.2.1; have q7 := hG3.1; rw [List.length_append, List.length_singleton]; omega
      refine zO (k := 50) (args := #[.pointer (some ⟨b, 0, none⟩), ndV (⟨3, z, z3, 0, []⟩ : Nd)]) (fun v' L' =>  v' = .int .i64 (nd3.length : Int) ∧ ∃ ob', L' = ob' ++ ([] : List Blk) ∧ Rd b A cap ws ts3 (nd3 ++ [(⟨3, z, z3, 0, []⟩ : Nd)]) bd3 ob') (by kernel_rfl) (fun _ => by kernel_rfl) (fun w hO => (qI (hL.at hR3 (hS3) hO) (⟨3, z, z3, 0, []⟩ : Nd) (by have := (hS3); omega)).mono fun e w' ⟨ob', k1, k2⟩ => ⟨_, _, k1, ⟨rfl, ob', rfl, k2.rd⟩, Own.join hO k2.own⟩) (fun v4 L4 hv4 => ?_)
      obtain ⟨rfl, ob4, rfl, hR4⟩ := hv4
      exact zH (L' := ob4) (List.append_nil _) (Zv (.int .i64 (nd3.length : Int)) (zK (zJ (fE (L' := ob4 ++ ([] : List Blk)) (by simp) (zS (m' := ts3.length) (by omega) ⟨(nd3.length : Int), ts3, (nd3 ++ [⟨3, z, z3, 0, []⟩]), bd3, ob4, _, ⟨ch_step (jT n) mk_both (hch) htq (hnr ▸ hG3), hR4, hP4⟩, rfl, ZU, rfl⟩)))))
    | false =>
      refine Zf (xN (yG (zY (zZ (z8 (ZO (Zv (.int .i64 z) (Zv (.int .i64 z) (zK (z8 ?_))))))))))
      exact zG (ZF (.int .i64 z) Tryd.results48 (fun w hO => ⟨z, tq, nq, false, ob2, rfl, ⟨(kI (of_decide_eq_false h2)).2 ▸ hR2, hO⟩, ch_stop hch h2⟩))
theorem bW (n : Nat) (hp : d7 48 n (qK n)) : d7 29 n (pOr n) := by
  refine ⟨fun {B b A cap ws ts nd ob W} hL hln => ?_⟩
  have hM' := x4 hL.ge
  have hBW := hL.le
  refine y6 (n := 24) hL.own Tryd.func29 rfl (by kernel_rfl) (by kernel_rfl) (ZO (Zv (.int .i64 0) (ZR (Zv (.pointer (some ⟨b, 0, none⟩)) (zH (L' := ob ++ ([] : List Blk)) (by simp) (zO (k := 48) (args := #[.pointer (some ⟨b, 0, none⟩)]) (fun v' L' => ∃ z ts' nd' bad', v' = .int .i64 z ∧ ∃ ob', L' = ob' ++ ([] : List Blk) ∧ Rd b A cap ws ts' nd' bad' ob' ∧ Got (qK n) ts nd z ts' nd' bad') (by kernel_rfl) (fun _ => by kernel_rfl) (fun w hO => (hp.go (hL.at hL.rd hL.small hO) (hln)).mono fun e w' ⟨z, ts', nd', bad', ob', k1, k2, k3⟩ => ⟨_, _, k1, ⟨z, ts', nd', bad', rfl, ob', rfl, k2.rd, k3⟩, Own.join hO k2.own⟩) (fun v1 L1 hv1 => ?_)))))))
  obtain ⟨z1, ts1, nd1, bd1, rfl, ob1, rfl, hR1, hG1⟩ := hv1
  refine zH (L' := ob1) (List.append_nil _) ?_
  have hS1 : nd1.length + ts1.length ≤ 10000 := Nat.le_trans hG1.1 hL.small
  have hT1 := hG1.2.1
  refine Zv (.int .i64 z1) (ZN (zF (zP (yB (L' := ob1 ++ ([] : List Blk)) (by simp) (xT (fun L f m => ∃ (z : Int) (tq : List Tok) (nq : List Nd) (bq : Bool) (oq : List Blk) (j : Nat → Value), (ChI (qK n) tOr .one ts nd z tq nq bq ∧ Rd b A cap ws tq nq bq oq ∧ nq.length + tq.length ≤ 10000) ∧ L = (oq ++ ([] : List Blk)) ∧ f = qT j [(0, .pointer (some ⟨b, 0, none⟩)), (3, .int .i64 z)] ∧ m = tq.length) (ts1.length) ⟨z1, ts1, nd1, bd1, ob1, _, ⟨ch_start hG1, hR1, hS1⟩, rfl, ZU, rfl⟩ ?_)))))
  rintro L f m ⟨z, tq, nq, bq, oq, j, hrel, rfl, rfl, rfl⟩
  obtain ⟨hch, hRq, hsq⟩ := hrel; refine yB (L' := oq) (by simp) ?_
  refine zF (ZO (Zv (.pointer (some ⟨b, 0, none⟩)) (Zv (.pointer (some ⟨b, 0, none⟩)) (Zv (.pointer (some ⟨b, 3, none⟩)) (Zo (.bool bq) (a := ⟨b, 3, none⟩) (fun w hO => hRq.load hO (fun x hx => by simp [hx])) ?_)))))
  cases h1 : bq with
  | true =>
    rw [h1] at hch hRq
    have hbq9 := h1
    refine Zv (.bool false) (Zv (.bool false) (Zk (Zk (Zv (.bool false) (ZX (xN (yG (zY (zZ ?_)))))))))
    exact z8 (ZO (Zv (.int .i64 z) (Zv (.int .i64 z) (ZN (zG (ZF (.int .i64 z) Tryd.results29 (fun w hO => ⟨z, tq, nq, true, oq, rfl, ⟨hRq, hO⟩, ch_fell hch⟩)))))))
  | false =>
    rw [h1] at hch hRq
    have hbq9 := h1
    refine Zv (.bool true) (Zv (.bool true) (Zv (.pointer (some ⟨b, 0, none⟩)) (zH (L' := oq ++ ([] : List Blk)) (by simp) (zO (k := 49) (args := #[.pointer (some ⟨b, 0, none⟩), .string ⟨#[111, 114]⟩]) (fun v' L' =>  v' = .bool (xE tOr tq) ∧ ∃ ob', L' = ob' ++ ([] : List Blk) ∧ Rd b A cap ws (yJ tOr tq) nq false ob') (by kernel_rfl) (fun _ => by kernel_rfl) (fun w hO => (vP (hL.at hRq hsq hO) tOr).mono fun e w' ⟨ob', k1, k2⟩ => ⟨_, _, k1, ⟨rfl, ob', rfl, k2.rd⟩, Own.join hO k2.own⟩) (fun v2 L2 hv2 => ?_)))))
    obtain ⟨rfl, ob2, rfl, hR2⟩ := hv2
    refine zH (L' := ob2) (List.append_nil _) ?_
    have hS2 : nq.length + (yJ tOr tq).length ≤ 10000 := Nat.le_trans (Nat.add_le_add_left (qF _ _) _) hsq
    refine Zv (.bool (xE tOr tq)) (zK (z8 ?_))
    cases h2 : xE tOr tq with
    | true =>
      obtain ⟨r, htq, hnr⟩ := kS h2
      have htl : tq.length = r.length + 1 := by rw [htq]; rfl
      have hrest : nq.length + r.length + 1 ≤ 10000 := by have := hsq; omega
      have hnl9 := congrArg List.length hnr
      refine Zt (ZB (zP (ZO (Zv (.pointer (some ⟨b, 0, none⟩)) (zH (L' := ob2 ++ ([] : List Blk)) (by simp) (zO (k := 48) (args := #[.pointer (some ⟨b, 0, none⟩)]) (fun v' L' => ∃ z ts' nd' bad', v' = .int .i64 z ∧ ∃ ob', L' = ob' ++ ([] : List Blk) ∧ Rd b A cap ws ts' nd' bad' ob' ∧ Got (qK n) (yJ tOr tq) nq z ts' nd' bad') (by kernel_rfl) (fun _ => by kernel_rfl) (fun w hO => (hp.go (hL.at hR2 (hS2) hO) (by rw [hnr]; have := hch.2.1; omega)).mono fun e w' ⟨z, ts', nd', bad', ob', k1, k2, k3⟩ => ⟨_, _, k1, ⟨z, ts', nd', bad', rfl, ob', rfl, k2.rd, k3⟩, Own.join hO k2.own⟩) (fun v3 L3 hv3 => ?_)))))))
      obtain ⟨z3, ts3, nd3, bd3, rfl, ob3, rfl, hR3, hG3⟩ := hv3
      refine zH (L' := ob3) (List.append_nil _) ?_
      have hS3 : nd3.length + ts3.length ≤ 10000 := Nat.le_trans hG3.1 (hS2)
      have hT3 := hG3.2.1
      refine Zv (.int .i64 z3) (ZN (z7 (Zv (.pointer (some ⟨b, 0, none⟩)) (Zv (.int .i64 z) (Zv (.int .i64 z3) (Zv (ndV (⟨4, z, z3, 0, []⟩ : Nd)) (zH (L' := ob3 ++ ([] : List Blk)) (by simp) ?_)))))))
      have hP4 : (nd3 ++ [(⟨4, z, z3, 0, []⟩ : Nd)]).length + ts3.length ≤ 10000 := by have q8 := hrest; have q9 := hG3.2.1; have q7 := hG3.1; rw [List.length_append, List.length_singleton]; omega
      refine zO (k := 50) (args := #[.pointer (some ⟨b, 0, none⟩), ndV (⟨4, z, z3, 0, []⟩ : Nd)]) (fun v' L' =>  v' = .int .i64 (nd3.length : Int) ∧ ∃ ob', L' = ob' ++ ([] : List Blk) ∧ Rd b A cap ws ts3 (nd3 ++ [(⟨4, z, z3, 0, []⟩ : Nd)]) bd3 ob') (by kernel_rfl) (fun _ => by kernel_rfl) (fun w hO => (qI (hL.at hR3 (hS3) hO) (⟨4, z, z3, 0, []⟩ : Nd) (by have := (hS3); omega)).mono fun e w' ⟨ob', k1, k2⟩ => ⟨_, _, k1, ⟨rfl, ob', rfl, k2.rd⟩, Own.join hO k2.own⟩) (fun v4 L4 hv4 => ?_)
      obtain ⟨rfl, ob4, rfl, hR4⟩ := hv4
      exact zH (L' := ob4) (List.append_nil _) (Zv (.int .i64 (nd3.length : Int)) (zK (zJ (fE (L' := ob4 ++ ([] : List Blk)) (by simp) (zS (m' := ts3.length) (by omega) ⟨(nd3.length : Int), ts3, (nd3 ++ [⟨4, z, z3, 0, []⟩]), bd3, ob4, _, ⟨ch_step (fQ n) mk_one (hch) htq (hnr ▸ hG3), hR4, hP4⟩, rfl, ZU, rfl⟩)))))
    | false =>
      refine Zf (xN (yG (zY (zZ (z8 (ZO (Zv (.int .i64 z) (Zv (.int .i64 z) (zK (z8 ?_))))))))))
      exact zG (ZF (.int .i64 z) Tryd.results29 (fun w hO => ⟨z, tq, nq, false, ob2, rfl, ⟨(kI (of_decide_eq_false h2)).2 ▸ hR2, hO⟩, ch_stop hch h2⟩))
end
section
set_option linter.unnecessarySimpa false
def jY (c : Tok) : Nat → Int
  | 0 => -1
  | i + 1 => if yH i = c then (i : Int) else jY c i
theorem keyZ_3 (c : Tok) : (bS c = none ∧ jY c 3 = -1) ∨ ∃ n, bS c = some n ∧ jY c 3 = (n : Int) := by
  have e : jY c 3 = if yH 2 = c then (2 : Int) else if yH 1 = c then (1 : Int) else if yH 0 = c then (0 : Int) else -1 := rfl
  by_cases h0 : c = yH 0
  · subst h0; exact .inr ⟨0, rfl, by decide⟩
  · by_cases h1 : c = yH 1
    · subst h1; exact .inr ⟨1, rfl, by decide⟩
    · by_cases h2 : c = yH 2
      · subst h2; exact .inr ⟨2, rfl, by decide⟩
      · refine .inl ⟨by unfold bS; rw [if_neg h0, if_neg h1, if_neg h2], ?_⟩
        rw [e, if_neg (fun q => h2 q.symm), if_neg (fun q => h1 q.symm), if_neg (fun q => h0 q.symm)]
theorem keyZ_low (c : Tok) : ∀ i, -1 ≤ jY c i ∧ jY c i < 3 ∨ 3 < i
  | 0 => .inl ⟨by show (-1 : Int) ≤ -1; omega, by show (-1 : Int) < 3; omega⟩
  | i + 1 => by
    rcases keyZ_low c i with h | h
    · by_cases hi : 3 < i + 1
      · exact .inr hi
      · left
        show -1 ≤ (if yH i = c then (i : Int) else jY c i) ∧ (if yH i = c then (i : Int) else jY c i) < 3
        split <;> omega
    · exact .inr (by omega)
theorem dL {ts : List Tok} (h : wdL (ts.tail.tail.headD []) = true) : ∃ k s v r, ts = k :: s :: v :: r := by
  match ts, h with
  | [], h => cases h
  | [a], h => cases h
  | [a, b], h => cases h
  | a :: b :: c :: r, _ => exact ⟨a, b, c, r, rfl⟩
theorem hE {ts : List Tok} (h : jY (ts.headD []) 3 < 0 ∨ wdL (ts.tail.tail.headD []) = false ∨ (ts.tail.headD [] ≠ tEq ∧ ts.tail.headD [] ≠ tNe)) : kP ts = none := by
  match ts, h with
  | [], _ => rfl
  | [a], _ => rfl
  | [a, b], _ => rfl
  | k :: s :: v :: r, h =>
    have h' : jY k 3 < 0 ∨ wdL v = false ∨ (s ≠ tEq ∧ s ≠ tNe) := h
    have : gQ k s v = none := by
      unfold gQ
      rcases keyZ_3 k with ⟨q, _⟩ | ⟨n, q, e⟩
      · rw [q]
      · rw [q]
        rcases h' with h' | h' | ⟨h1, h2⟩
        · omega
        · simp only; rw [if_neg (by rw [h']; simp)]
        · simp [h1, h2]
    rw [kP, this]
theorem n8 {ts : List Tok} {nd : List Nd} {z : Int} (h : kP ts = none) : Got kP ts nd z ts.tail.tail.tail nd true := by
  refine ⟨?_, ?_, by rw [h]⟩
  · simp only [List.length_tail]; omega
  · simp only [List.length_tail]; omega
theorem atom_key {k : Tok} (h : ¬ jY k 3 < 0) : ∃ n, bS k = some n ∧ jY k 3 = (n : Int) := by
  rcases keyZ_3 k with ⟨_, q⟩ | h'
  · omega
  · exact h'
theorem got_is {ts : List Tok} {nd : List Nd} (h : ¬ jY (ts.headD []) 3 < 0) (hv : wdL (ts.tail.tail.headD []) = true) (hs : ts.tail.headD [] = tEq) :
    Got kP ts nd (nd.length : Int) ts.tail.tail.tail (nd ++ [⟨1, 0, 0, jY (ts.headD []) 3, ts.tail.tail.headD []⟩]) (((false || decide (ts = [])) || decide (ts.tail = [])) || decide (ts.tail.tail = [])) := by
  obtain ⟨k, s, v, r, rfl⟩ := dL hv
  obtain ⟨n, h1, h2⟩ := atom_key h
  have hv : wdL v = true := hv
  have hs : s = tEq := hs
  have e : gQ k s v = some (.is n v) := by
    unfold gQ
    rw [show bS k = some n from h1]
    simp only
    rw [if_pos hv, if_pos hs]
  refine ⟨by simp; omega, by simp; omega, ?_⟩
  rw [kP, e]
  refine ⟨by simp, rfl, by rw [h2]; rfl, ?_⟩
  show (nd.length : Int) = ((nd.length + 1 - 1 : Nat) : Int)
  rw [Nat.add_sub_cancel]
theorem got_isnot {ts : List Tok} {nd : List Nd} (h : ¬ jY (ts.headD []) 3 < 0) (hv : wdL (ts.tail.tail.headD []) = true) (hs : ts.tail.headD [] = tNe) :
    Got kP ts nd ((nd ++ [(⟨1, 0, 0, jY (ts.headD []) 3, ts.tail.tail.headD []⟩ : Nd)]).length : Int) ts.tail.tail.tail (nd ++ [⟨1, 0, 0, jY (ts.headD []) 3, ts.tail.tail.headD []⟩] ++ [⟨2, (nd.length : Int), 0, 0, []⟩]) (((false || decide (ts = [])) || decide (ts.tail = [])) || decide (ts.tail.tail = [])) := by
  obtain ⟨k, s, v, r, rfl⟩ := dL hv
  obtain ⟨n, h1, h2⟩ := atom_key h
  have hv : wdL v = true := hv
  have hs : s = tNe := hs
  have e : gQ k s v = some (.no (.is n v)) := by
    unfold gQ
    rw [show bS k = some n from h1]
    simp only
    rw [if_pos hv, if_neg (by rw [show s = tNe from hs]; decide), if_pos hs]
  refine ⟨by simp; omega, by simp; omega, ?_⟩
  rw [kP, e]
  refine ⟨by simp, rfl, ?_, ?_⟩
  · rw [h2]
    show _ = nd ++ ([⟨1, 0, 0, (n : Int), v⟩] ++ [⟨2, ((nd.length + 1 - 1 : Nat) : Int), 0, 0, []⟩])
    rw [Nat.add_sub_cancel]; simp
  · show ((nd ++ [_]).length : Int) = ((nd.length + (1 + 1) - 1 : Nat) : Int)
    rw [List.length_append]; simp; try omega
theorem got_not {n : Nat} {ts r ts2 : List Tok} {nd nd2 : List Nd} {z : Int} {bad2 : Bool} (htq : ts = yZ :: r) (h : Got (xO n) r nd z ts2 nd2 bad2) : Got (xO (n + 1)) ts nd (nd2.length : Int) ts2 (nd2 ++ [⟨2, z, 0, 0, []⟩]) bad2 := by
  subst htq
  obtain ⟨h1, h2, h3⟩ := h
  refine ⟨by rw [List.length_append, List.length_singleton, List.length_cons]; omega, by rw [List.length_cons]; omega, ?_⟩
  rw [vT]
  cases hp : xO n r with
  | none => rw [hp] at h3; exact h3
  | some x =>
    obtain ⟨t, r'⟩ := x
    rw [hp] at h3
    obtain ⟨hb, hr, hn, hz⟩ := h3
    have hz1 := t.sz_pos
    refine ⟨hb, hr, ?_, ?_⟩
    · rw [hn, hz]; show _ = nd ++ (t.enc nd.length ++ [⟨2, ((nd.length + t.sz - 1 : Nat) : Int), 0, 0, []⟩]); simp
    · rw [hn, List.length_append, Tr.enc_len]; show ((nd.length + t.sz : Nat) : Int) = ((nd.length + (t.sz + 1) - 1 : Nat) : Int); congr 1
theorem got_close {n : Nat} {ts r ts2 : List Tok} {nd nd2 : List Nd} {z : Int} {bad2 : Bool} (htq : ts = yP :: r) (h : Got (pOr n) r nd z ts2 nd2 bad2) (hc : xE yC ts2 = true) : Got (xO (n + 1)) ts nd z (yJ yC ts2) nd2 bad2 := by
  subst htq
  obtain ⟨h1, h2, h3⟩ := h
  obtain ⟨r2, e1, e2⟩ := kS hc
  rw [e2]
  have hl : ts2.length = r2.length + 1 := by rw [e1]; rfl
  refine ⟨by rw [List.length_cons]; omega, by rw [List.length_cons]; omega, ?_⟩
  rw [qR]
  cases hp : pOr n r with
  | none => rw [hp] at h3; exact h3
  | some x =>
    obtain ⟨t, r'⟩ := x
    rw [hp] at h3
    obtain ⟨hb, hr, hn, hz⟩ := h3
    have : r' = yC :: r2 := by rw [← hr, e1]
    subst this
    rw [show jO (some (t, yC :: r2)) = some (t, r2) from by rw [jO, if_pos rfl]]
    exact ⟨hb, rfl, hn, hz⟩
theorem t0 {n : Nat} {ts r ts2 : List Tok} {nd nd2 : List Nd} {z : Int} {bad2 : Bool} (htq : ts = yP :: r) (h : Got (pOr n) r nd z ts2 nd2 bad2) (hc : xE yC ts2 = false) : Got (xO (n + 1)) ts nd z (yJ yC ts2) nd2 true := by
  subst htq
  obtain ⟨h1, h2, h3⟩ := h
  have hne := of_decide_eq_false hc
  rw [(kI hne).2]
  refine ⟨by rw [List.length_cons]; omega, by rw [List.length_cons]; omega, ?_⟩
  rw [qR]
  cases hp : pOr n r with
  | none => rfl
  | some x =>
    obtain ⟨t, r'⟩ := x
    rw [hp] at h3
    obtain ⟨hb, hr, hn, hz⟩ := h3
    subst hr
    cases ts2 with
    | nil => rfl
    | cons d q =>
      rw [jO, if_neg (fun e => hne (by rw [e]; rfl))]
theorem tS (n : Nat) : d7 82 n kP := by
  refine ⟨fun {B b A cap ws ts nd ob W} hL hln => ?_⟩
  have hM' := x4 hL.ge
  have hBW := hL.le
  have hwl : ∀ x : Tok, x = ts.tail.tail.headD [] → x.length ≤ 1000000 := fun x hx => by
    subst hx
    obtain ⟨pre, C, cc, g, hws, _, _⟩ := hL.rd
    match ts, hws with
    | [], _ => simp
    | [a], _ => simp
    | [a, b], _ => simp
    | a :: b :: c :: r, hws => exact hL.short c (by rw [hws]; simp)
  refine y6 (n := 56) hL.own Tryd.func82 rfl (by kernel_rfl) (by kernel_rfl) (ZO (Zv (.int .i64 0) (ZR (Zv (.pointer (some ⟨b, 0, none⟩)) (zH (L' := ob ++ ([] : List Blk)) (by simp) (zO (k := 89) (args := #[.pointer (some ⟨b, 0, none⟩)]) (fun v' L' =>  v' = .string (mkS (ts.headD [])) ∧ ∃ ob', L' = ob' ++ ([] : List Blk) ∧ Rd b A cap ws ts.tail nd (false || decide (ts = [])) ob') (by kernel_rfl) (fun _ => by kernel_rfl) (fun w hO => (wX (hL.at hL.rd hL.small hO)).mono fun e w' ⟨ob', k1, k2⟩ => ⟨_, _, k1, ⟨rfl, ob', rfl, k2.rd⟩, Own.join hO k2.own⟩) (fun v1 L1 hv1 => ?_)))))))
  obtain ⟨rfl, ob1, rfl, hR1⟩ := hv1
  refine zH (L' := ob1) (List.append_nil _) ?_
  have hS1 : nd.length + (ts.tail).length ≤ 10000 := by have := hL.small; rw [List.length_tail]; omega
  refine Zv (.pointer (some ⟨b, 0, none⟩)) (zH (L' := ob1 ++ ([] : List Blk)) (by simp) (zO (k := 89) (args := #[.pointer (some ⟨b, 0, none⟩)]) (fun v' L' =>  v' = .string (mkS (ts.tail.headD [])) ∧ ∃ ob', L' = ob' ++ ([] : List Blk) ∧ Rd b A cap ws ts.tail.tail nd ((false || decide (ts = [])) || decide (ts.tail = [])) ob') (by kernel_rfl) (fun _ => by kernel_rfl) (fun w hO => (wX (hL.at hR1 (hS1) hO)).mono fun e w' ⟨ob', k1, k2⟩ => ⟨_, _, k1, ⟨rfl, ob', rfl, k2.rd⟩, Own.join hO k2.own⟩) (fun v2 L2 hv2 => ?_)))
  obtain ⟨rfl, ob2, rfl, hR2⟩ := hv2
  refine zH (L' := ob2) (List.append_nil _) ?_
  have hS2 : nd.length + (ts.tail.tail).length ≤ 10000 := by have := (hS1); rw [List.length_tail]; omega
  refine Zv (.pointer (some ⟨b, 0, none⟩)) (zH (L' := ob2 ++ ([] : List Blk)) (by simp) (zO (k := 89) (args := #[.pointer (some ⟨b, 0, none⟩)]) (fun v' L' =>  v' = .string (mkS (ts.tail.tail.headD [])) ∧ ∃ ob', L' = ob' ++ ([] : List Blk) ∧ Rd b A cap ws ts.tail.tail.tail nd (((false || decide (ts = [])) || decide (ts.tail = [])) || decide (ts.tail.tail = [])) ob') (by kernel_rfl) (fun _ => by kernel_rfl) (fun w hO => (wX (hL.at hR2 (hS2) hO)).mono fun e w' ⟨ob', k1, k2⟩ => ⟨_, _, k1, ⟨rfl, ob', rfl, k2.rd⟩, Own.join hO k2.own⟩) (fun v3 L3 hv3 => ?_)))
  obtain ⟨rfl, ob3, rfl, hR3⟩ := hv3
  refine zH (L' := ob3) (List.append_nil _) ?_
  have hS3 : nd.length + (ts.tail.tail.tail).length ≤ 10000 := by have := (hS2); rw [List.length_tail]; omega
  refine Zv (.string (mkS (ts.headD []))) (Zv (.string (mkS (ts.tail.headD []))) (Zv (.string (mkS (ts.tail.tail.headD []))) (ZR (Zv (.string (mkS (ts.tail.tail.headD []))) (Zv (ndV (⟨1, 0, 0, -1, ts.tail.tail.headD []⟩ : Nd)) (Za (.agg #[.int .i64 0, .int .i64 0, .int .i64 0, .int .i64 0, .string ⟨#[]⟩]) (fun b1 => Zs 0 ⟨b1, #[.int .i64 0, .int .i64 0, .int .i64 0, .int .i64 0, .string ⟨#[]⟩], 48⟩ (off := 0) (ndV (⟨1, 0, 0, -1, ts.tail.tail.headD []⟩ : Nd)) (zK ?_))))))))
  refine z8 (zF (ZO (Zv (.int .i64 0) (ZN (zP (xT (fun L f m => ∃ (i : Nat) (q : Int) (j : Nat → Value), (i ≤ 3 ∧ q = jY (ts.headD []) i) ∧ L = ⟨b1, #[.int .i64 1, .int .i64 0, .int .i64 0, .int .i64 q, .string (mkS (ts.tail.tail.headD []))], 48⟩ :: (ob3) ∧ f = qT j [(0, .pointer (some ⟨b, 0, none⟩)), (3, .string (mkS (ts.headD []))), (4, .string (mkS (ts.tail.headD []))), (5, .string (mkS (ts.tail.tail.headD []))), (6, .pointer (some ⟨b1, 0, none⟩)), (7, .int .i64 (i : Int))] ∧ m = 3 - i) (3 - 0) ⟨0, (-1), _, ⟨by omega, rfl⟩, rfl, ZU, rfl⟩ ?_))))))
  rintro L f m ⟨i, q, j, hrel, rfl, rfl, rfl⟩
  obtain ⟨hi6, hq⟩ := hrel
  refine zF (ZO (Zv (.int .i64 (i : Int)) ?_))
  by_cases h1 : (i : Int) < 3
  · have hi3 : i < 3 := by omega
    refine Zd (p := (i : Int) < 3) true (decide_eq_true (h1)) (ZY (ZB (zF (zP (ZO (Zv (.int .i64 (i : Int)) (Zc (k := 83) (args := #[.int .i64 (i : Int)]) (.string (mkS (yH i))) (fun w _ => dI i hi3 w) ?_)))))))
    refine Zv (.string (mkS (ts.headD []))) ?_
    by_cases h2 : ((yH i) : List UInt8) = (ts.headD [])
    · refine zM (.bool true) (by kernel_rfl) (zV (a := (yH i)) (b := (ts.headD [])) rfl (by kernel_rfl) (by kernel_rfl) (decide_eq_true (h2))) ?_
      refine ZY (z7 (Zv (.int .i64 (i : Int)) (Zv (.pointer (some ⟨b1, 3, none⟩)) (Zs 0 ⟨b1, #[.int .i64 1, .int .i64 0, .int .i64 0, .int .i64 q, .string (mkS (ts.tail.tail.headD []))], 48⟩ (off := 3) (.int .i64 (i : Int)) (zK (zJ (z8 (z7 (Zv (.int .i64 (i : Int)) ?_)))))))))
      exact Zu (k := .i64) (((i + 1 : Nat) : Int)) (IntWalk.i64_in _ (by omega)) (Zv (.int .i64 ((i + 1 : Nat) : Int)) (zK (zS (m' := 3 - (i + 1)) (by omega) ⟨i + 1, (i : Int), _, ⟨by omega, by show (i : Int) = if yH i = ts.headD [] then (i : Int) else jY (ts.headD []) i; rw [if_pos h2]⟩, rfl, ZU, rfl⟩)))
    refine zM (.bool false) (by kernel_rfl) (zV (a := (yH i)) (b := (ts.headD [])) rfl (by kernel_rfl) (by kernel_rfl) (decide_eq_false (h2))) (ZX (x6 (zJ (z8 (z7 (Zv (.int .i64 (i : Int)) (Zu (k := .i64) (((i + 1 : Nat) : Int)) (IntWalk.i64_in _ (by omega)) (Zv (.int .i64 ((i + 1 : Nat) : Int)) (zK ?_)))))))))
    exact zS (m' := 3 - (i + 1)) (by omega) ⟨i + 1, q, _, ⟨by omega, by show q = if yH i = ts.headD [] then (i : Int) else jY (ts.headD []) i; rw [if_neg h2, hq]⟩, rfl, ZU, rfl⟩
  have hi3 : i = 3 := by omega
  rw [hi3] at hq
  refine Zd (p := (i : Int) < 3) false (decide_eq_false (h1)) (ZX (xN (yG (zY (zZ (z8 (zF (zF (z7 ?_)))))))))
  refine Zv (.pointer (some ⟨b1, 3, none⟩)) (Zl 0 ⟨b1, #[.int .i64 1, .int .i64 0, .int .i64 0, .int .i64 q, .string (mkS (ts.tail.tail.headD []))], 48⟩ (off := 3) (.int .i64 q) ?_)
  by_cases h3 : (q : Int) < 0
  · refine x8 (p := (q : Int) < 0) true (by kernel_rfl) (fun _ => by kernel_rfl) (decide_eq_true (h3)) ?_
    refine Zv (.bool true) (Zk (Zk (Zk (Zv (.bool true) (Zv (.bool true) (Zk (Zk (Zk (Zk (Zk (Zk ?_)))))))))))
    refine Zv (.bool true) (ZY (ZO (Zv (.pointer (some ⟨b, 0, none⟩)) (Zv (.pointer (some ⟨b, 0, none⟩)) (Zv (.pointer (some ⟨b, 3, none⟩)) ?_)))))
    obtain ⟨pre9, C9, c9, g9, hws9, hob9, hsl9⟩ := hR3
    subst hob9
    refine yI (L' := ⟨b, #[.slice A ws.length cap, .int .i64 ((pre9.length : Nat) : Int), .slice C9 nd.length c9, .bool (((false || decide (ts = [])) || decide (ts.tail = [])) || decide (ts.tail.tail = []))], 58⟩ :: (g9 ++ ([⟨b1, #[.int .i64 1, .int .i64 0, .int .i64 0, .int .i64 q, .string (mkS (ts.tail.tail.headD []))], 48⟩]))) (fun w hO => hO.perm (by simpa using (List.perm_append_comm (l₁ := [⟨b1, #[.int .i64 1, .int .i64 0, .int .i64 0, .int .i64 q, .string (mkS (ts.tail.tail.headD []))], 48⟩]) (l₂ := ⟨b, #[.slice A ws.length cap, .int .i64 ((pre9.length : Nat) : Int), .slice C9 nd.length c9, .bool (((false || decide (ts = [])) || decide (ts.tail = [])) || decide (ts.tail.tail = []))], 58⟩ :: g9)))) (vC 0 ⟨b, #[.slice A ws.length cap, .int .i64 ((pre9.length : Nat) : Int), .slice C9 nd.length c9, .bool (((false || decide (ts = [])) || decide (ts.tail = [])) || decide (ts.tail.tail = []))], 58⟩ (off := 3) (.bool true) (by kernel_rfl) rfl rfl rfl (by kernel_rfl) (by kernel_rfl) (by kernel_rfl) (by kernel_rfl) ?_)
    have hR99 : Rd b A cap ws ts.tail.tail.tail nd true (⟨b, #[.slice A ws.length cap, .int .i64 ((pre9.length : Nat) : Int), .slice C9 nd.length c9, .bool true], 58⟩ :: g9) := ⟨pre9, C9, c9, g9, hws9, rfl, hsl9⟩
    refine zH (L' := ⟨b, #[.slice A ws.length cap, .int .i64 ((pre9.length : Nat) : Int), .slice C9 nd.length c9, .bool true], 58⟩ :: (g9 ++ ([⟨b1, #[.int .i64 1, .int .i64 0, .int .i64 0, .int .i64 q, .string (mkS (ts.tail.tail.headD []))], 48⟩]))) rfl (yI (L' := [⟨b1, #[.int .i64 1, .int .i64 0, .int .i64 0, .int .i64 q, .string (mkS (ts.tail.tail.headD []))], 48⟩] ++ (⟨b, #[.slice A ws.length cap, .int .i64 ((pre9.length : Nat) : Int), .slice C9 nd.length c9, .bool true], 58⟩ :: g9)) (fun w hO => hO.perm (by simpa using (List.perm_append_comm (l₁ := ⟨b, #[.slice A ws.length cap, .int .i64 ((pre9.length : Nat) : Int), .slice C9 nd.length c9, .bool true], 58⟩ :: g9) (l₂ := [⟨b1, #[.int .i64 1, .int .i64 0, .int .i64 0, .int .i64 q, .string (mkS (ts.tail.tail.headD []))], 48⟩])))) (ZR (Zv (.int .i64 0) (ZN (zG (z5 (ZF (.int .i64 0) Tryd.results82 ?_)))))))
    exact fun w hO => ⟨0, _, _, true, _, rfl, ⟨hR99, hO.sublist (List.sublist_cons_self _ _)⟩, n8 (hE (.inl (by rw [← hq]; exact h3)))⟩
  refine Zd (p := (q : Int) < 0) false (decide_eq_false (h3)) (Zv (.bool false) (Zv (.string (mkS (ts.tail.tail.headD []))) (Zc (k := 76) (args := #[.string (mkS (ts.tail.tail.headD []))]) (.bool (wdL (ts.tail.tail.headD []))) (fun w _ => dH _ w (hwl _ (by simp))) ?_)))
  cases h4 : wdL (ts.tail.tail.headD []) with
  | true =>
    have h3w : 3 ≤ ts.length := by obtain ⟨k9, s9, v9, r9, e9⟩ := dL h4; rw [e9]; simp
    refine Zv (.bool false) (Zv (.bool false) (Zv (.bool false) (Zv (.string (mkS (ts.tail.headD []))) ?_)))
    by_cases h5 : ((ts.tail.headD []) : List UInt8) = [61]
    · refine zM (.bool false) (by kernel_rfl) (xJ (a := (ts.tail.headD [])) (b := ([61])) rfl (by kernel_rfl) (by kernel_rfl) (decide_eq_true (h5))) ?_
      refine Zv (.bool false) (Zk (Zk (Zv (.bool false) (Zv (.bool false) (ZX (ZB (zF (z7 ?_))))))))
      refine Zv (.pointer (some ⟨b, 0, none⟩)) (Zl 0 ⟨b1, #[.int .i64 1, .int .i64 0, .int .i64 0, .int .i64 q, .string (mkS (ts.tail.tail.headD []))], 48⟩ (off := 0) (.agg #[.int .i64 1, .int .i64 0, .int .i64 0, .int .i64 q, .string (mkS (ts.tail.tail.headD []))]) (yI (L' := ob3 ++ ([⟨b1, #[.int .i64 1, .int .i64 0, .int .i64 0, .int .i64 q, .string (mkS (ts.tail.tail.headD []))], 48⟩] : List Blk)) (fun w hO => hO.perm (by simpa using (List.perm_append_comm (l₁ := ([⟨b1, #[.int .i64 1, .int .i64 0, .int .i64 0, .int .i64 q, .string (mkS (ts.tail.tail.headD []))], 48⟩] : List Blk)) (l₂ := ob3)))) ?_))
      have hP4 : (nd ++ [(⟨1, 0, 0, q, ts.tail.tail.headD []⟩ : Nd)]).length + ts.tail.tail.tail.length ≤ 10000 := by simp only [List.length_append, List.length_singleton, List.length_tail]; have := hL.small; have := h3w; omega
      refine zO (k := 50) (args := #[.pointer (some ⟨b, 0, none⟩), .agg #[.int .i64 1, .int .i64 0, .int .i64 0, .int .i64 q, .string (mkS (ts.tail.tail.headD []))]]) (fun v' L' =>  v' = .int .i64 (nd.length : Int) ∧ ∃ ob', L' = ob' ++ ([⟨b1, #[.int .i64 1, .int .i64 0, .int .i64 0, .int .i64 q, .string (mkS (ts.tail.tail.headD []))], 48⟩] : List Blk) ∧ Rd b A cap ws ts.tail.tail.tail (nd ++ [(⟨1, 0, 0, q, ts.tail.tail.headD []⟩ : Nd)]) (((false || decide (ts = [])) || decide (ts.tail = [])) || decide (ts.tail.tail = [])) ob') (by kernel_rfl) (fun _ => by kernel_rfl) (fun w hO => (qI (hL.at hR3 (hS3) hO) (⟨1, 0, 0, q, ts.tail.tail.headD []⟩ : Nd) (by have := (hS3); omega)).mono fun e w' ⟨ob', k1, k2⟩ => ⟨_, _, k1, ⟨rfl, ob', rfl, k2.rd⟩, Own.join hO k2.own⟩) (fun v4 L4 hv4 => ?_)
      obtain ⟨rfl, ob4, rfl, hR4⟩ := hv4
      refine yI (L' := ⟨b1, #[.int .i64 1, .int .i64 0, .int .i64 0, .int .i64 q, .string (mkS (ts.tail.tail.headD []))], 48⟩ :: (ob4)) (fun w hO => hO.perm (by simpa using (List.perm_append_comm (l₁ := ob4) (l₂ := ([⟨b1, #[.int .i64 1, .int .i64 0, .int .i64 0, .int .i64 q, .string (mkS (ts.tail.tail.headD []))], 48⟩] : List Blk))))) (Zv (.int .i64 (nd.length : Int)) (ZN (zF (ZO (Zv (.string (mkS (ts.tail.headD []))) ?_)))))
      by_cases h6 : ((ts.tail.headD []) : List UInt8) = [33, 61]
      · refine zM (.bool true) (by kernel_rfl) (zV (a := (ts.tail.headD [])) (b := ([33, 61])) rfl (by kernel_rfl) (by kernel_rfl) (decide_eq_true (h6))) ?_
        refine ZY (z7 (Zv (.pointer (some ⟨b, 0, none⟩)) (Zv (.int .i64 (nd.length : Int)) (Zv (ndV (⟨2, (nd.length : Int), 0, 0, []⟩ : Nd)) (yI (L' := ob4 ++ ([⟨b1, #[.int .i64 1, .int .i64 0, .int .i64 0, .int .i64 q, .string (mkS (ts.tail.tail.headD []))], 48⟩] : List Blk)) (fun w hO => hO.perm (by simpa using (List.perm_append_comm (l₁ := ([⟨b1, #[.int .i64 1, .int .i64 0, .int .i64 0, .int .i64 q, .string (mkS (ts.tail.tail.headD []))], 48⟩] : List Blk)) (l₂ := ob4)))) ?_)))))
        have hP5 : ((nd ++ [(⟨1, 0, 0, q, ts.tail.tail.headD []⟩ : Nd)]) ++ [(⟨2, (nd.length : Int), 0, 0, []⟩ : Nd)]).length + ts.tail.tail.tail.length ≤ 10000 := by simp only [List.length_append, List.length_singleton, List.length_tail]; have := hL.small; have := h3w; omega
        refine zO (k := 50) (args := #[.pointer (some ⟨b, 0, none⟩), ndV (⟨2, (nd.length : Int), 0, 0, []⟩ : Nd)]) (fun v' L' =>  v' = .int .i64 ((nd ++ [(⟨1, 0, 0, q, ts.tail.tail.headD []⟩ : Nd)]).length : Int) ∧ ∃ ob', L' = ob' ++ ([⟨b1, #[.int .i64 1, .int .i64 0, .int .i64 0, .int .i64 q, .string (mkS (ts.tail.tail.headD []))], 48⟩] : List Blk) ∧ Rd b A cap ws ts.tail.tail.tail ((nd ++ [(⟨1, 0, 0, q, ts.tail.tail.headD []⟩ : Nd)]) ++ [(⟨2, (nd.length : Int), 0, 0, []⟩ : Nd)]) (((false || decide (ts = [])) || decide (ts.tail = [])) || decide (ts.tail.tail = [])) ob') (by kernel_rfl) (fun _ => by kernel_rfl) (fun w hO => (qI (hL.at hR4 hP4 hO) (⟨2, (nd.length : Int), 0, 0, []⟩ : Nd) (by have := hP4; omega)).mono fun e w' ⟨ob', k1, k2⟩ => ⟨_, _, k1, ⟨rfl, ob', rfl, k2.rd⟩, Own.join hO k2.own⟩) (fun v5 L5 hv5 => ?_)
        obtain ⟨rfl, ob5, rfl, hR5⟩ := hv5
        refine yI (L' := ⟨b1, #[.int .i64 1, .int .i64 0, .int .i64 0, .int .i64 q, .string (mkS (ts.tail.tail.headD []))], 48⟩ :: (ob5)) (fun w hO => hO.perm (by simpa using (List.perm_append_comm (l₁ := ob5) (l₂ := ([⟨b1, #[.int .i64 1, .int .i64 0, .int .i64 0, .int .i64 q, .string (mkS (ts.tail.tail.headD []))], 48⟩] : List Blk))))) (Zv (.int .i64 ((nd ++ [(⟨1, 0, 0, q, ts.tail.tail.headD []⟩ : Nd)]).length : Int)) (ZR (Zv (.int .i64 ((nd ++ [(⟨1, 0, 0, q, ts.tail.tail.headD []⟩ : Nd)]).length : Int)) (Zv (.int .i64 ((nd ++ [(⟨1, 0, 0, q, ts.tail.tail.headD []⟩ : Nd)]).length : Int)) (ZN (zG (ZF (.int .i64 ((nd ++ [(⟨1, 0, 0, q, ts.tail.tail.headD []⟩ : Nd)]).length : Int)) Tryd.results82 ?_)))))))
        exact fun w hO => absurd (h5.symm.trans h6) (by decide)
      refine zM (.bool false) (by kernel_rfl) (zV (a := (ts.tail.headD [])) (b := ([33, 61])) rfl (by kernel_rfl) (by kernel_rfl) (decide_eq_false (h6))) (ZX (ZB (ZO (Zv (.int .i64 (nd.length : Int)) (Zv (.int .i64 (nd.length : Int)) (zK (z8 ?_)))))))
      exact zG (ZF (.int .i64 (nd.length : Int)) Tryd.results82 (fun w hO => ⟨_, _, _, _, _, rfl, ⟨hR4, hO.sublist (List.sublist_cons_self _ _)⟩, by rw [hq]; exact got_is (by rw [← hq]; exact h3) h4 h5⟩))
    refine zM (.bool true) (by kernel_rfl) (xJ (a := (ts.tail.headD [])) (b := ([61])) rfl (by kernel_rfl) (by kernel_rfl) (decide_eq_false (h5))) (Zv (.bool true) (Zv (.string (mkS (ts.tail.headD []))) ?_))
    by_cases h7 : ((ts.tail.headD []) : List UInt8) = [33, 61]
    · refine zM (.bool false) (by kernel_rfl) (xJ (a := (ts.tail.headD [])) (b := ([33, 61])) rfl (by kernel_rfl) (by kernel_rfl) (decide_eq_true (h7))) ?_
      refine Zv (.bool false) (Zv (.bool false) (ZX (ZB (ZO (Zv (.pointer (some ⟨b, 0, none⟩)) (Zl 0 ⟨b1, #[.int .i64 1, .int .i64 0, .int .i64 0, .int .i64 q, .string (mkS (ts.tail.tail.headD []))], 48⟩ (off := 0) (.agg #[.int .i64 1, .int .i64 0, .int .i64 0, .int .i64 q, .string (mkS (ts.tail.tail.headD []))]) (yI (L' := ob3 ++ ([⟨b1, #[.int .i64 1, .int .i64 0, .int .i64 0, .int .i64 q, .string (mkS (ts.tail.tail.headD []))], 48⟩] : List Blk)) (fun w hO => hO.perm (by simpa using (List.perm_append_comm (l₁ := ([⟨b1, #[.int .i64 1, .int .i64 0, .int .i64 0, .int .i64 q, .string (mkS (ts.tail.tail.headD []))], 48⟩] : List Blk)) (l₂ := ob3)))) ?_)))))))
      have hP4 : (nd ++ [(⟨1, 0, 0, q, ts.tail.tail.headD []⟩ : Nd)]).length + ts.tail.tail.tail.length ≤ 10000 := by simp only [List.length_append, List.length_singleton, List.length_tail]; have := hL.small; have := h3w; omega
      refine zO (k := 50) (args := #[.pointer (some ⟨b, 0, none⟩), .agg #[.int .i64 1, .int .i64 0, .int .i64 0, .int .i64 q, .string (mkS (ts.tail.tail.headD []))]]) (fun v' L' =>  v' = .int .i64 (nd.length : Int) ∧ ∃ ob', L' = ob' ++ ([⟨b1, #[.int .i64 1, .int .i64 0, .int .i64 0, .int .i64 q, .string (mkS (ts.tail.tail.headD []))], 48⟩] : List Blk) ∧ Rd b A cap ws ts.tail.tail.tail (nd ++ [(⟨1, 0, 0, q, ts.tail.tail.headD []⟩ : Nd)]) (((false || decide (ts = [])) || decide (ts.tail = [])) || decide (ts.tail.tail = [])) ob') (by kernel_rfl) (fun _ => by kernel_rfl) (fun w hO => (qI (hL.at hR3 (hS3) hO) (⟨1, 0, 0, q, ts.tail.tail.headD []⟩ : Nd) (by have := (hS3); omega)).mono fun e w' ⟨ob', k1, k2⟩ => ⟨_, _, k1, ⟨rfl, ob', rfl, k2.rd⟩, Own.join hO k2.own⟩) (fun v4 L4 hv4 => ?_)
      obtain ⟨rfl, ob4, rfl, hR4⟩ := hv4
      refine yI (L' := ⟨b1, #[.int .i64 1, .int .i64 0, .int .i64 0, .int .i64 q, .string (mkS (ts.tail.tail.headD []))], 48⟩ :: (ob4)) (fun w hO => hO.perm (by simpa using (List.perm_append_comm (l₁ := ob4) (l₂ := ([⟨b1, #[.int .i64 1, .int .i64 0, .int .i64 0, .int .i64 q, .string (mkS (ts.tail.tail.headD []))], 48⟩] : List Blk))))) (Zv (.int .i64 (nd.length : Int)) (ZN (zF (ZO (Zv (.string (mkS (ts.tail.headD []))) (zM (.bool true) (by kernel_rfl) (zV (a := (ts.tail.headD [])) (b := ([33, 61])) rfl (by kernel_rfl) (by kernel_rfl) (decide_eq_true (h7))) (ZN (Zt ?_))))))))
      refine z7 (Zv (.pointer (some ⟨b, 0, none⟩)) (Zv (.int .i64 (nd.length : Int)) (Zv (ndV (⟨2, (nd.length : Int), 0, 0, []⟩ : Nd)) (yI (L' := ob4 ++ ([⟨b1, #[.int .i64 1, .int .i64 0, .int .i64 0, .int .i64 q, .string (mkS (ts.tail.tail.headD []))], 48⟩] : List Blk)) (fun w hO => hO.perm (by simpa using (List.perm_append_comm (l₁ := ([⟨b1, #[.int .i64 1, .int .i64 0, .int .i64 0, .int .i64 q, .string (mkS (ts.tail.tail.headD []))], 48⟩] : List Blk)) (l₂ := ob4)))) ?_))))
      have hP5 : ((nd ++ [(⟨1, 0, 0, q, ts.tail.tail.headD []⟩ : Nd)]) ++ [(⟨2, (nd.length : Int), 0, 0, []⟩ : Nd)]).length + ts.tail.tail.tail.length ≤ 10000 := by simp only [List.length_append, List.length_singleton, List.length_tail]; have := hL.small; have := h3w; omega
      refine zO (k := 50) (args := #[.pointer (some ⟨b, 0, none⟩), ndV (⟨2, (nd.length : Int), 0, 0, []⟩ : Nd)]) (fun v' L' =>  v' = .int .i64 ((nd ++ [(⟨1, 0, 0, q, ts.tail.tail.headD []⟩ : Nd)]).length : Int) ∧ ∃ ob', L' = ob' ++ ([⟨b1, #[.int .i64 1, .int .i64 0, .int .i64 0, .int .i64 q, .string (mkS (ts.tail.tail.headD []))], 48⟩] : List Blk) ∧ Rd b A cap ws ts.tail.tail.tail ((nd ++ [(⟨1, 0, 0, q, ts.tail.tail.headD []⟩ : Nd)]) ++ [(⟨2, (nd.length : Int), 0, 0, []⟩ : Nd)]) (((false || decide (ts = [])) || decide (ts.tail = [])) || decide (ts.tail.tail = [])) ob') (by kernel_rfl) (fun _ => by kernel_rfl) (fun w hO => (qI (hL.at hR4 hP4 hO) (⟨2, (nd.length : Int), 0, 0, []⟩ : Nd) (by have := hP4; omega)).mono fun e w' ⟨ob', k1, k2⟩ => ⟨_, _, k1, ⟨rfl, ob', rfl, k2.rd⟩, Own.join hO k2.own⟩) (fun v5 L5 hv5 => ?_)
      obtain ⟨rfl, ob5, rfl, hR5⟩ := hv5
      refine yI (L' := ⟨b1, #[.int .i64 1, .int .i64 0, .int .i64 0, .int .i64 q, .string (mkS (ts.tail.tail.headD []))], 48⟩ :: (ob5)) (fun w hO => hO.perm (by simpa using (List.perm_append_comm (l₁ := ob5) (l₂ := ([⟨b1, #[.int .i64 1, .int .i64 0, .int .i64 0, .int .i64 q, .string (mkS (ts.tail.tail.headD []))], 48⟩] : List Blk))))) (Zv (.int .i64 ((nd ++ [(⟨1, 0, 0, q, ts.tail.tail.headD []⟩ : Nd)]).length : Int)) (ZR (Zv (.int .i64 ((nd ++ [(⟨1, 0, 0, q, ts.tail.tail.headD []⟩ : Nd)]).length : Int)) (Zv (.int .i64 ((nd ++ [(⟨1, 0, 0, q, ts.tail.tail.headD []⟩ : Nd)]).length : Int)) (ZN (zG (ZF (.int .i64 ((nd ++ [(⟨1, 0, 0, q, ts.tail.tail.headD []⟩ : Nd)]).length : Int)) Tryd.results82 ?_)))))))
      exact fun w hO => ⟨_, _, _, _, _, rfl, ⟨hR5, hO.sublist (List.sublist_cons_self _ _)⟩, by rw [hq]; exact got_isnot (by rw [← hq]; exact h3) h4 h7⟩
    refine zM (.bool true) (by kernel_rfl) (xJ (a := (ts.tail.headD [])) (b := ([33, 61])) rfl (by kernel_rfl) (by kernel_rfl) (decide_eq_false (h7))) (Zv (.bool true) (Zv (.bool true) (ZY (ZO (Zv (.pointer (some ⟨b, 0, none⟩)) (Zv (.pointer (some ⟨b, 0, none⟩)) (Zv (.pointer (some ⟨b, 3, none⟩)) ?_)))))))
    obtain ⟨pre9, C9, c9, g9, hws9, hob9, hsl9⟩ := hR3
    subst hob9
    refine yI (L' := ⟨b, #[.slice A ws.length cap, .int .i64 ((pre9.length : Nat) : Int), .slice C9 nd.length c9, .bool (((false || decide (ts = [])) || decide (ts.tail = [])) || decide (ts.tail.tail = []))], 58⟩ :: (g9 ++ ([⟨b1, #[.int .i64 1, .int .i64 0, .int .i64 0, .int .i64 q, .string (mkS (ts.tail.tail.headD []))], 48⟩]))) (fun w hO => hO.perm (by simpa using (List.perm_append_comm (l₁ := [⟨b1, #[.int .i64 1, .int .i64 0, .int .i64 0, .int .i64 q, .string (mkS (ts.tail.tail.headD []))], 48⟩]) (l₂ := ⟨b, #[.slice A ws.length cap, .int .i64 ((pre9.length : Nat) : Int), .slice C9 nd.length c9, .bool (((false || decide (ts = [])) || decide (ts.tail = [])) || decide (ts.tail.tail = []))], 58⟩ :: g9)))) (vC 0 ⟨b, #[.slice A ws.length cap, .int .i64 ((pre9.length : Nat) : Int), .slice C9 nd.length c9, .bool (((false || decide (ts = [])) || decide (ts.tail = [])) || decide (ts.tail.tail = []))], 58⟩ (off := 3) (.bool true) (by kernel_rfl) rfl rfl rfl (by kernel_rfl) (by kernel_rfl) (by kernel_rfl) (by kernel_rfl) ?_)
    have hR99 : Rd b A cap ws ts.tail.tail.tail nd true (⟨b, #[.slice A ws.length cap, .int .i64 ((pre9.length : Nat) : Int), .slice C9 nd.length c9, .bool true], 58⟩ :: g9) := ⟨pre9, C9, c9, g9, hws9, rfl, hsl9⟩
    refine zH (L' := ⟨b, #[.slice A ws.length cap, .int .i64 ((pre9.length : Nat) : Int), .slice C9 nd.length c9, .bool true], 58⟩ :: (g9 ++ ([⟨b1, #[.int .i64 1, .int .i64 0, .int .i64 0, .int .i64 q, .string (mkS (ts.tail.tail.headD []))], 48⟩]))) rfl (yI (L' := [⟨b1, #[.int .i64 1, .int .i64 0, .int .i64 0, .int .i64 q, .string (mkS (ts.tail.tail.headD []))], 48⟩] ++ (⟨b, #[.slice A ws.length cap, .int .i64 ((pre9.length : Nat) : Int), .slice C9 nd.length c9, .bool true], 58⟩ :: g9)) (fun w hO => hO.perm (by simpa using (List.perm_append_comm (l₁ := ⟨b, #[.slice A ws.length cap, .int .i64 ((pre9.length : Nat) : Int), .slice C9 nd.length c9, .bool true], 58⟩ :: g9) (l₂ := [⟨b1, #[.int .i64 1, .int .i64 0, .int .i64 0, .int .i64 q, .string (mkS (ts.tail.tail.headD []))], 48⟩])))) (ZR (Zv (.int .i64 0) (ZN (zG (z5 (ZF (.int .i64 0) Tryd.results82 ?_)))))))
    exact fun w hO => ⟨0, _, _, true, _, rfl, ⟨hR99, hO.sublist (List.sublist_cons_self _ _)⟩, n8 (hE (.inr (.inr ⟨h5, h7⟩)))⟩
  | false =>
    refine Zv (.bool true) (Zv (.bool true) (Zv (.bool true) (Zk (Zk (Zk (Zk (Zk (Zk (Zv (.bool true) (zK (z8 ?_)))))))))))
    refine Zt (ZO (Zv (.pointer (some ⟨b, 0, none⟩)) (Zv (.pointer (some ⟨b, 0, none⟩)) (Zv (.pointer (some ⟨b, 3, none⟩)) ?_))))
    obtain ⟨pre9, C9, c9, g9, hws9, hob9, hsl9⟩ := hR3
    subst hob9
    refine yI (L' := ⟨b, #[.slice A ws.length cap, .int .i64 ((pre9.length : Nat) : Int), .slice C9 nd.length c9, .bool (((false || decide (ts = [])) || decide (ts.tail = [])) || decide (ts.tail.tail = []))], 58⟩ :: (g9 ++ ([⟨b1, #[.int .i64 1, .int .i64 0, .int .i64 0, .int .i64 q, .string (mkS (ts.tail.tail.headD []))], 48⟩]))) (fun w hO => hO.perm (by simpa using (List.perm_append_comm (l₁ := [⟨b1, #[.int .i64 1, .int .i64 0, .int .i64 0, .int .i64 q, .string (mkS (ts.tail.tail.headD []))], 48⟩]) (l₂ := ⟨b, #[.slice A ws.length cap, .int .i64 ((pre9.length : Nat) : Int), .slice C9 nd.length c9, .bool (((false || decide (ts = [])) || decide (ts.tail = [])) || decide (ts.tail.tail = []))], 58⟩ :: g9)))) (vC 0 ⟨b, #[.slice A ws.length cap, .int .i64 ((pre9.length : Nat) : Int), .slice C9 nd.length c9, .bool (((false || decide (ts = [])) || decide (ts.tail = [])) || decide (ts.tail.tail = []))], 58⟩ (off := 3) (.bool true) (by kernel_rfl) rfl rfl rfl (by kernel_rfl) (by kernel_rfl) (by kernel_rfl) (by kernel_rfl) ?_)
    have hR99 : Rd b A cap ws ts.tail.tail.tail nd true (⟨b, #[.slice A ws.length cap, .int .i64 ((pre9.length : Nat) : Int), .slice C9 nd.length c9, .bool true], 58⟩ :: g9) := ⟨pre9, C9, c9, g9, hws9, rfl, hsl9⟩
    refine zH (L' := ⟨b, #[.slice A ws.length cap, .int .i64 ((pre9.length : Nat) : Int), .slice C9 nd.length c9, .bool true], 58⟩ :: (g9 ++ ([⟨b1, #[.int .i64 1, .int .i64 0, .int .i64 0, .int .i64 q, .string (mkS (ts.tail.tail.headD []))], 48⟩]))) rfl (yI (L' := [⟨b1, #[.int .i64 1, .int .i64 0, .int .i64 0, .int .i64 q, .string (mkS (ts.tail.tail.headD []))], 48⟩] ++ (⟨b, #[.slice A ws.length cap, .int .i64 ((pre9.length : Nat) : Int), .slice C9 nd.length c9, .bool true], 58⟩ :: g9)) (fun w hO => hO.perm (by simpa using (List.perm_append_comm (l₁ := ⟨b, #[.slice A ws.length cap, .int .i64 ((pre9.length : Nat) : Int), .slice C9 nd.length c9, .bool true], 58⟩ :: g9) (l₂ := [⟨b1, #[.int .i64 1, .int .i64 0, .int .i64 0, .int .i64 q, .string (mkS (ts.tail.tail.headD []))], 48⟩])))) (ZR (Zv (.int .i64 0) (ZN (zG (z5 (ZF (.int .i64 0) Tryd.results82 ?_)))))))
    exact fun w hO => ⟨0, _, _, true, _, rfl, ⟨hR99, hO.sublist (List.sublist_cons_self _ _)⟩, n8 (hE (.inr (.inl h4)))⟩
theorem m1 (n : Nat) (hf : ∀ k, k + 1 = n → d7 72 k (xO k)) (he : ∀ k, k + 1 = n → d7 29 k (pOr k)) : d7 72 n (xO n) := by
  refine ⟨fun {B b A cap ws ts nd ob W} hL hln => ?_⟩
  have hM' := x4 hL.ge
  have hBW := hL.le
  refine y6 (n := 30) hL.own Tryd.func72 rfl (by kernel_rfl) (by kernel_rfl) (ZO (Zv (.int .i64 0) (ZN (zF (ZO (Zv (.pointer (some ⟨b, 0, none⟩)) (Zv (.pointer (some ⟨b, 0, none⟩)) (Zv (.pointer (some ⟨b, 3, none⟩)) ?_))))))))
  refine Zo (.bool false) (a := ⟨b, 3, none⟩) (fun w hO => hL.rd.load hO (fun x hx => by simp [hx])) (ZX (ZB (zF (ZO (Zv (.pointer (some ⟨b, 0, none⟩)) (zH (L' := ob ++ ([] : List Blk)) (by simp) (zO (k := 49) (args := #[.pointer (some ⟨b, 0, none⟩), .string ⟨#[110, 111, 116]⟩]) (fun v' L' =>  v' = .bool (xE yZ ts) ∧ ∃ ob', L' = ob' ++ ([] : List Blk) ∧ Rd b A cap ws (yJ yZ ts) nd false ob') (by kernel_rfl) (fun _ => by kernel_rfl) (fun w hO => (vP (hL.at hL.rd hL.small hO) yZ).mono fun e w' ⟨ob', k1, k2⟩ => ⟨_, _, k1, ⟨rfl, ob', rfl, k2.rd⟩, Own.join hO k2.own⟩) (fun v1 L1 hv1 => ?_))))))))
  obtain ⟨rfl, ob1, rfl, hR1⟩ := hv1
  refine zH (L' := ob1) (List.append_nil _) ?_
  have hS1 : nd.length + (yJ yZ ts).length ≤ 10000 := Nat.le_trans (Nat.add_le_add_left (qF _ _) _) hL.small
  refine zK (z8 ?_)
  cases h1 : xE yZ ts with
  | true =>
    obtain ⟨r, htq, hnr⟩ := kS h1
    have htl : ts.length = r.length + 1 := by rw [htq]; rfl
    have hnl9 := congrArg List.length hnr
    obtain ⟨k, rfl⟩ : ∃ k, n = k + 1 := ⟨n - 1, by omega⟩
    refine Zt (ZO (Zv (.pointer (some ⟨b, 0, none⟩)) (zH (L' := ob1 ++ ([] : List Blk)) (by simp) (zO (k := 72) (args := #[.pointer (some ⟨b, 0, none⟩)]) (fun v' L' => ∃ z ts' nd' bad', v' = .int .i64 z ∧ ∃ ob', L' = ob' ++ ([] : List Blk) ∧ Rd b A cap ws ts' nd' bad' ob' ∧ Got (xO k) (yJ yZ ts) nd z ts' nd' bad') (by kernel_rfl) (fun _ => by kernel_rfl) (fun w hO => ((hf k rfl).go (hL.at hR1 (hS1) hO) (by omega)).mono fun e w' ⟨z, ts', nd', bad', ob', k1, k2, k3⟩ => ⟨_, _, k1, ⟨z, ts', nd', bad', rfl, ob', rfl, k2.rd, k3⟩, Own.join hO k2.own⟩) (fun v2 L2 hv2 => ?_)))))
    obtain ⟨z2, ts2, nd2, bd2, rfl, ob2, rfl, hR2, hG2⟩ := hv2
    refine zH (L' := ob2) (List.append_nil _) ?_
    have hS2 : nd2.length + ts2.length ≤ 10000 := Nat.le_trans hG2.1 (hS1)
    have hT2 := hG2.2.1
    refine Zv (.int .i64 z2) (ZR (Zv (.pointer (some ⟨b, 0, none⟩)) (Zv (.int .i64 z2) (Zv (ndV (⟨2, z2, 0, 0, []⟩ : Nd)) (zH (L' := ob2 ++ ([] : List Blk)) (by simp) ?_)))))
    have hP3 : (nd2 ++ [(⟨2, z2, 0, 0, []⟩ : Nd)]).length + ts2.length ≤ 10000 := by have q9 := hG2.1; have q7 := hL.small; rw [List.length_append, List.length_singleton]; omega
    refine zO (k := 50) (args := #[.pointer (some ⟨b, 0, none⟩), ndV (⟨2, z2, 0, 0, []⟩ : Nd)]) (fun v' L' =>  v' = .int .i64 (nd2.length : Int) ∧ ∃ ob', L' = ob' ++ ([] : List Blk) ∧ Rd b A cap ws ts2 (nd2 ++ [(⟨2, z2, 0, 0, []⟩ : Nd)]) bd2 ob') (by kernel_rfl) (fun _ => by kernel_rfl) (fun w hO => (qI (hL.at hR2 (hS2) hO) (⟨2, z2, 0, 0, []⟩ : Nd) (by have := (hS2); omega)).mono fun e w' ⟨ob', k1, k2⟩ => ⟨_, _, k1, ⟨rfl, ob', rfl, k2.rd⟩, Own.join hO k2.own⟩) (fun v3 L3 hv3 => ?_)
    obtain ⟨rfl, ob3, rfl, hR3⟩ := hv3
    exact zH (L' := ob3) (List.append_nil _) (Zv (.int .i64 (nd2.length : Int)) (ZN (zG (z5 (ZF (.int .i64 (nd2.length : Int)) Tryd.results72 (fun w hO => ⟨_, _, _, _, _, rfl, ⟨hR3, hO⟩, got_not htq (hnr ▸ hG2)⟩))))))
  | false =>
    have hn1 := (kI (of_decide_eq_false h1)).2
    refine Zf (ZB (zF (ZO (Zv (.pointer (some ⟨b, 0, none⟩)) (zH (L' := ob1 ++ ([] : List Blk)) (by simp) (zO (k := 49) (args := #[.pointer (some ⟨b, 0, none⟩), .string ⟨#[40]⟩]) (fun v' L' =>  v' = .bool (xE yP (yJ yZ ts)) ∧ ∃ ob', L' = ob' ++ ([] : List Blk) ∧ Rd b A cap ws (yJ yP (yJ yZ ts)) nd false ob') (by kernel_rfl) (fun _ => by kernel_rfl) (fun w hO => (vP (hL.at hR1 (hS1) hO) yP).mono fun e w' ⟨ob', k1, k2⟩ => ⟨_, _, k1, ⟨rfl, ob', rfl, k2.rd⟩, Own.join hO k2.own⟩) (fun v2 L2 hv2 => ?_)))))))
    obtain ⟨rfl, ob2, rfl, hR2⟩ := hv2
    refine zH (L' := ob2) (List.append_nil _) ?_
    have hS2 : nd.length + (yJ yP (yJ yZ ts)).length ≤ 10000 := Nat.le_trans (Nat.add_le_add_left (qF _ _) _) (hS1)
    refine zK (z8 ?_)
    cases h2 : xE yP (yJ yZ ts) with
    | true =>
      have hop := h2
      rw [hn1] at hop
      obtain ⟨r, htq, hnr⟩ := kS hop
      have htl : ts.length = r.length + 1 := by rw [htq]; rfl
      have hnr2 : yJ yP (yJ yZ ts) = r := by rw [hn1]; exact hnr
      have hnl9 := congrArg List.length hnr2
      obtain ⟨k, rfl⟩ : ∃ k, n = k + 1 := ⟨n - 1, by omega⟩
      refine Zt (ZO (Zv (.pointer (some ⟨b, 0, none⟩)) (zH (L' := ob2 ++ ([] : List Blk)) (by simp) (zO (k := 29) (args := #[.pointer (some ⟨b, 0, none⟩)]) (fun v' L' => ∃ z ts' nd' bad', v' = .int .i64 z ∧ ∃ ob', L' = ob' ++ ([] : List Blk) ∧ Rd b A cap ws ts' nd' bad' ob' ∧ Got (pOr k) (yJ yP (yJ yZ ts)) nd z ts' nd' bad') (by kernel_rfl) (fun _ => by kernel_rfl) (fun w hO => ((he k rfl).go (hL.at hR2 (hS2) hO) (by omega)).mono fun e w' ⟨z, ts', nd', bad', ob', k1, k2, k3⟩ => ⟨_, _, k1, ⟨z, ts', nd', bad', rfl, ob', rfl, k2.rd, k3⟩, Own.join hO k2.own⟩) (fun v3 L3 hv3 => ?_)))))
      obtain ⟨z3, ts3, nd3, bd3, rfl, ob3, rfl, hR3, hG3⟩ := hv3
      refine zH (L' := ob3) (List.append_nil _) ?_
      have hS3 : nd3.length + ts3.length ≤ 10000 := Nat.le_trans hG3.1 (hS2)
      have hT3 := hG3.2.1
      refine Zv (.int .i64 z3) (ZN (zF (ZO (Zv (.pointer (some ⟨b, 0, none⟩)) (zH (L' := ob3 ++ ([] : List Blk)) (by simp) (zO (k := 49) (args := #[.pointer (some ⟨b, 0, none⟩), .string ⟨#[41]⟩]) (fun v' L' =>  v' = .bool (xE yC ts3) ∧ ∃ ob', L' = ob' ++ ([] : List Blk) ∧ Rd b A cap ws (yJ yC ts3) nd3 bd3 ob') (by kernel_rfl) (fun _ => by kernel_rfl) (fun w hO => (vP (hL.at hR3 (hS3) hO) yC).mono fun e w' ⟨ob', k1, k2⟩ => ⟨_, _, k1, ⟨rfl, ob', rfl, k2.rd⟩, Own.join hO k2.own⟩) (fun v4 L4 hv4 => ?_)))))))
      obtain ⟨rfl, ob4, rfl, hR4⟩ := hv4
      refine zH (L' := ob4) (List.append_nil _) ?_
      have hS4 : nd3.length + (yJ yC ts3).length ≤ 10000 := Nat.le_trans (Nat.add_le_add_left (qF _ _) _) (hS3)
      cases h3 : xE yC ts3 with
      | true =>
        refine Zv (.bool false) (ZX (ZB (ZO (Zv (.int .i64 z3) (Zv (.int .i64 z3) (zK (z8 ?_)))))))
        exact zG (z5 (ZF (.int .i64 z3) Tryd.results72 (fun w hO => ⟨_, _, _, _, _, rfl, ⟨hR4, hO⟩, got_close htq (hnr2 ▸ hG3) h3⟩)))
      | false =>
        refine Zv (.bool true) (ZY (z7 (Zv (.pointer (some ⟨b, 0, none⟩)) (Zv (.pointer (some ⟨b, 0, none⟩)) (Zv (.pointer (some ⟨b, 3, none⟩)) ?_)))))
        obtain ⟨pre9, C9, c9, g9, hws9, hob9, hsl9⟩ := hR4
        subst hob9
        refine zH (L' := ⟨b, #[.slice A ws.length cap, .int .i64 ((pre9.length : Nat) : Int), .slice C9 nd3.length c9, .bool bd3], 58⟩ :: (g9)) rfl (vC 0 ⟨b, #[.slice A ws.length cap, .int .i64 ((pre9.length : Nat) : Int), .slice C9 nd3.length c9, .bool bd3], 58⟩ (off := 3) (.bool true) (by kernel_rfl) rfl rfl rfl (by kernel_rfl) (by kernel_rfl) (by kernel_rfl) (by kernel_rfl) ?_)
        have hR99 : Rd b A cap ws (yJ yC ts3) nd3 true (⟨b, #[.slice A ws.length cap, .int .i64 ((pre9.length : Nat) : Int), .slice C9 nd3.length c9, .bool true], 58⟩ :: g9) := ⟨pre9, C9, c9, g9, hws9, rfl, hsl9⟩
        refine zH (L' := ⟨b, #[.slice A ws.length cap, .int .i64 ((pre9.length : Nat) : Int), .slice C9 nd3.length c9, .bool true], 58⟩ :: (g9)) rfl (ZR (Zv (.int .i64 z3) (Zv (.int .i64 z3) (ZN (zG (z5 (ZF (.int .i64 z3) Tryd.results72 ?_)))))))
        exact fun w hO => ⟨_, _, _, true, _, rfl, ⟨hR99, hO⟩, t0 htq (hnr2 ▸ hG3) h3⟩
    | false =>
      have hop := h2
      rw [hn1] at hop
      have hn2 : yJ yP (yJ yZ ts) = ts := by rw [hn1]; exact (kI (of_decide_eq_false hop)).2
      refine Zf (ZB (ZO (Zv (.pointer (some ⟨b, 0, none⟩)) (zH (L' := ob2 ++ ([] : List Blk)) (by simp) (zO (k := 82) (args := #[.pointer (some ⟨b, 0, none⟩)]) (fun v' L' => ∃ z ts' nd' bad', v' = .int .i64 z ∧ ∃ ob', L' = ob' ++ ([] : List Blk) ∧ Rd b A cap ws ts' nd' bad' ob' ∧ Got (kP) (yJ yP (yJ yZ ts)) nd z ts' nd' bad') (by kernel_rfl) (fun _ => by kernel_rfl) (fun w hO => ((tS n).go (hL.at hR2 (hS2) hO) (by rw [hn2]; exact hln)).mono fun e w' ⟨z, ts', nd', bad', ob', k1, k2, k3⟩ => ⟨_, _, k1, ⟨z, ts', nd', bad', rfl, ob', rfl, k2.rd, k3⟩, Own.join hO k2.own⟩) (fun v3 L3 hv3 => ?_))))))
      obtain ⟨z3, ts3, nd3, bd3, rfl, ob3, rfl, hR3, hG3⟩ := hv3
      refine zH (L' := ob3) (List.append_nil _) ?_
      have hS3 : nd3.length + ts3.length ≤ 10000 := Nat.le_trans hG3.1 (hS2)
      have hT3 := hG3.2.1
      exact Zv (.int .i64 z3) (ZN (zG (ZF (.int .i64 z3) Tryd.results72 (fun w hO => ⟨_, _, _, _, _, rfl, ⟨hR3, hO⟩, by have q := hG3; rw [hn2] at q; unfold Got at q ⊢; rw [p6 h1 hop hln]; exact q⟩))))
theorem mS : ∀ n, d7 72 n (xO n)
  | 0 => m1 0 (fun k h => absurd h (by omega)) (fun k h => absurd h (by omega))
  | n + 1 => by
    have ih := mS n
    refine m1 (n + 1) (fun k h => ?_) (fun k h => ?_)
    · obtain rfl : k = n := by omega
      exact ih
    · obtain rfl : k = n := by omega
      exact bW k (m2 k ih)
theorem r10eitherP (n : Nat) : d7 29 n (pOr n) := bW n (m2 n (mS n))
end
section
theorem bU (b : UInt8) : ∀ (s acc : List UInt8), (xZ b acc s).length ≤ s.length + 1 := fun s acc => by
  rw [split_len]; have := List.length_filter_le (· == b) s; omega
theorem tN (s : List UInt8) (b : UInt8) (W : World) (hs : s.length ≤ 1000000) :
    Calls Tryd.prog 28 #[.string (mkS s), .int .u8 (b.toNat : Int)] W fun e w' => ∃ v' ob', e = .returned v' ∧ SlT v' (xZ b [] s) ob' ∧ Own [] W w' ob' :=
  (rsplit_any (mkS s) b W (by rw [k0]; exact hs)).mono fun e w' ⟨v, h1, h2, h3⟩ => by
    obtain ⟨ob, k1, k2⟩ := Own.row h2 h3
    unfold gT at k1
    rw [fA] at k1
    exact ⟨v, ob, h1, k1, k2⟩
theorem s_anew {M : List Nat} {P : Program} {n : Nat} {ops : Array Oper} {W : World} {Q : Exit → Act → World → Prop} {rest : List Oper} {L : List Blk} {f : Nat → Value} (h : ∀ w1, Own M W w1 L → Seg (L.map Blk.b) P n ops w1 Q rest L f) : Seg M P n ops W Q rest L f := ⟨fun w hO => (h w hO).go w (Own.lend hO)⟩
theorem own_new {W w : World} {E L0 : List Blk} (h : Own (L0.map Blk.b) W w (E ++ L0)) : ∀ x ∈ E, W.heap.size ≤ x.b := fun x hx => by
  rcases h.base x (List.mem_append_left _ hx) with q | q
  · exact q
  · obtain ⟨y, hy, e⟩ := List.mem_map.1 q
    have ha := h.apart
    rw [List.map_append, List.nodup_append] at ha
    exact absurd e.symm (ha.2.2 x.b (List.mem_map.2 ⟨x, hx, rfl⟩) y.b (List.mem_map.2 ⟨y, hy, rfl⟩))
theorem Reads.bound {α : Type} {g : α → List Value} {w w1 : World} {B1 B2 : Nat} {A : Option Addr} {l : List α} (h : Reads g w B1 A l) (h1 : Reads g w1 B2 A l) : Reads g w B2 A l := fun h0 => by
  obtain ⟨b, off, e, _, hc⟩ := h h0
  obtain ⟨b', off', e', hl, _⟩ := h1 h0
  rw [e] at e'
  injection e' with e'
  injection e' with q1 q2
  subst q1; subst q2
  exact ⟨b, off, e, hl, hc⟩
end
section
set_option linter.unnecessarySimpa false
theorem q6 : ∀ (t : Tr) (o : Nat), t.ok = true → ∀ n ∈ t.enc o, n.text.length ≤ 12
  | .is k v, o, h, n, hn => by
    unfold Tr.ok at h
    simp only [Bool.and_eq_true, decide_eq_true_eq] at h
    rw [Tr.enc, List.mem_singleton] at hn
    rw [hn]; exact wF h.2
  | .no x, o, h, n, hn => by
    rw [Tr.enc] at hn
    rcases List.mem_append.1 hn with hn | hn
    · exact q6 x o h n hn
    · rw [List.mem_singleton.1 hn]; simp
  | .both x y, o, h, n, hn => by
    unfold Tr.ok at h
    rw [Bool.and_eq_true] at h
    rw [Tr.enc] at hn
    rcases List.mem_append.1 hn with hn | hn
    · rcases List.mem_append.1 hn with hn | hn
      · exact q6 x o h.1 n hn
      · exact q6 y _ h.2 n hn
    · rw [List.mem_singleton.1 hn]; simp
  | .one x y, o, h, n, hn => by
    unfold Tr.ok at h
    rw [Bool.and_eq_true] at h
    rw [Tr.enc] at hn
    rcases List.mem_append.1 hn with hn | hn
    · rcases List.mem_append.1 hn with hn | hn
      · exact q6 x o h.1 n hn
      · exact q6 y _ h.2 n hn
    · rw [List.mem_singleton.1 hn]; simp
theorem hS {s : List UInt8} : ∀ x ∈ zT s, x.length ≤ s.length := fun x hx => by have := split_le 32 s [] x hx; simpa using this
theorem k5 {s : List UInt8} (h1 : ¬ 96 < s.length) (h2 : ¬ s = []) : yY s = (match xV s with | some _ => 0 | none => 7) ∧ y7 s = (match xV s with | some t => t.enc 0 | none => []) := by
  unfold yY y7
  rw [if_neg h1, if_neg h1, if_neg h2, if_neg h2]; exact ⟨rfl, rfl⟩
theorem got_fell {s : List UInt8} {z : Int} {ts' : List Tok} {nd' : List Nd} (h : Got (pOr (zT s).length) (zT s) [] z ts' nd' true) : xV s = none := by
  unfold xV
  obtain ⟨_, _, h3⟩ := h
  cases hp : pOr (zT s).length (zT s) with
  | none => rfl
  | some x => rw [hp] at h3; cases h3.1
theorem got_more {s : List UInt8} {z : Int} {ts' : List Tok} {nd' : List Nd} {bad' : Bool} (h : Got (pOr (zT s).length) (zT s) [] z ts' nd' bad') (hn : ts' ≠ []) : xV s = none := by
  unfold xV
  obtain ⟨_, _, h3⟩ := h
  cases hp : pOr (zT s).length (zT s) with
  | none => rfl
  | some x =>
    obtain ⟨t, r⟩ := x
    rw [hp] at h3
    obtain ⟨_, hr, _⟩ := h3
    subst hr
    cases ts' with
    | nil => exact absurd rfl hn
    | cons c q => rfl
theorem got_all {s : List UInt8} {z : Int} {nd' : List Nd} (h : Got (pOr (zT s).length) (zT s) [] z [] nd' false) : ∃ t : Tr, t.ok = true ∧ nd' = t.enc 0 ∧ xV s = if t.fit then some t else none := by
  unfold xV
  obtain ⟨_, _, h3⟩ := h
  cases hp : pOr (zT s).length (zT s) with
  | none => rw [hp] at h3; cases h3
  | some x =>
    obtain ⟨t, r⟩ := x
    rw [hp] at h3
    obtain ⟨_, hr, hn, _⟩ := h3
    subst hr
    exact ⟨t, pU _ _ _ _ hp, by simpa using hn, rfl⟩
theorem pS (s : List UInt8) (W : World) (hs : s.length ≤ 1000000) : Calls Tryd.prog 12 #[.string (mkS s)] W fun e w' => ∃ v' ob', e = .returned (.tuple #[.agg #[v'], .int .i64 (yY s)]) ∧ SlN v' (y7 s) ob' ∧ Own [] W w' ob' := by
  have hsz := k0 s
  have hwn : (zT s).length ≤ s.length + 1 := bU 32 s []
  refine zU (n := 47) Tryd.func12 rfl (by kernel_rfl) (by kernel_rfl) (ZO (Za (.agg #[.slice none 0 0]) (fun b1 => Zv (.int .i64 0) (ZN (zF (ZO (Zv (.string (mkS s)) (Zv (.int .i64 ((mkS s).size)) ?_))))))))
  by_cases h1 : (96 : Int) < (mkS s).size
  · have h96 : 96 < s.length := by omega
    refine Zd (p := (96 : Int) < (mkS s).size) true (decide_eq_true (h1)) (ZY (ZO (Zv (.agg #[.slice none 0 0]) (Zs 0 ⟨b1, #[.slice none 0 0], 25⟩ (off := 0) (.agg #[.slice none 0 0]) (Zv (.int .i64 3) (ZN (zG ?_)))))))
    exact z5 (ZD 0 ⟨b1, #[.slice none 0 0], 25⟩ (off := 0) (.agg #[.slice none 0 0]) (.int .i64 3) Tryd.results12 (fun w hO => ⟨_, [], by rw [show yY s = 3 from if_pos h96], by rw [show y7 s = [] from if_pos h96]; exact Sl.nil _ _, hO.sublist (by simp)⟩))
  have h96 : ¬ 96 < s.length := by omega
  refine Zd (p := (96 : Int) < (mkS s).size) false (decide_eq_false (h1)) (ZX (ZB (zF (ZO (Zv (.string (mkS s)) ?_)))))
  by_cases h2 : (s : List UInt8) = []
  · refine zM (.bool true) (by kernel_rfl) (zV (a := s) (b := ([])) rfl (by kernel_rfl) (by kernel_rfl) (decide_eq_true (h2))) ?_
    refine ZY (ZO (Zv (.agg #[.slice none 0 0]) (Zs 0 ⟨b1, #[.slice none 0 0], 25⟩ (off := 0) (.agg #[.slice none 0 0]) (Zv (.int .i64 0) (ZN (zG (z5 ?_)))))))
    exact ZD 0 ⟨b1, #[.slice none 0 0], 25⟩ (off := 0) (.agg #[.slice none 0 0]) (.int .i64 0) Tryd.results12 (fun w hO => ⟨_, [], by rw [show yY s = 0 from by unfold yY; rw [if_neg h96, if_pos h2]], by rw [show y7 s = [] from by unfold y7; rw [if_neg h96, if_pos h2]]; exact Sl.nil _ _, hO.sublist (by simp)⟩)
  refine zM (.bool false) (by kernel_rfl) (zV (a := s) (b := ([])) rfl (by kernel_rfl) (by kernel_rfl) (decide_eq_false (h2))) (ZX (ZB (ZO (Zv (.string (mkS s)) (zO (k := 28) (args := #[.string (mkS s), .int .u8 32]) (fun v' L' => ∃ ob', L' = ob' ++ [⟨b1, #[.slice none 0 0], 25⟩] ∧ SlT v' (zT s) ob') (by kernel_rfl) (fun _ => by kernel_rfl) (fun w hO => (tN s 32 w hs).mono fun e w' ⟨v', ob', k1, k2, k3⟩ => ⟨v', _, k1, ⟨ob', rfl, k2⟩, Own.joinN hO k3⟩) (fun vw Lw hvw => ?_))))))
  obtain ⟨ow, rfl, hsw⟩ := hvw
  obtain ⟨AW, cw, rfl⟩ := SlT.form hsw
  refine s_anew (fun w1 hO1 => ?_)
  have hw1 : Reads tG w1 w1.heap.size AW (zT s) := SlT.reads hsw rfl hO1 (fun x hx => List.mem_append_left _ hx)
  refine Zv (.agg #[.slice AW ((zT s).length) cw, .int .i64 0, .slice none 0 0, .bool false]) (Zb (.agg #[.slice AW ((zT s).length) cw, .int .i64 0, .slice none 0 0, .bool false]) (fun b2 => Zv (.pointer (some ⟨b2, 0, none⟩)) (ZR (Zv (.pointer (some ⟨b2, 0, none⟩)) ?_))))
  have hRd0 : Rd b2 AW cw (zT s) (zT s) [] false [⟨b2, #[.slice AW ((zT s).length) cw, .int .i64 0, .slice none 0 0, .bool false], 58⟩] := ⟨[], none, 0, [], rfl, rfl, Sl.nil _ _⟩
  refine zH (L' := [⟨b2, #[.slice AW ((zT s).length) cw, .int .i64 0, .slice none 0 0, .bool false], 58⟩] ++ (ow ++ ([⟨b1, #[.slice none 0 0], 25⟩]))) rfl (zO (k := 29) (args := #[.pointer (some ⟨b2, 0, none⟩)]) (fun v' L' => ∃ z ts' nd' bad', v' = .int .i64 z ∧ ∃ ob', L' = ob' ++ (ow ++ ([⟨b1, #[.slice none 0 0], 25⟩])) ∧ Rd b2 AW cw (zT s) ts' nd' bad' ob' ∧ Got (pOr (zT s).length) (zT s) [] z ts' nd' bad') (by kernel_rfl) (fun _ => by kernel_rfl) (fun w hO => ((r10eitherP (zT s).length).go (⟨hRd0, Own.lent hO, own_new hO, hO.size, Reads.bound (SlT.reads hsw rfl hO (fun x hx => by simp [hx])) hw1, fun x hx => Nat.le_trans (hS x hx) hs, by omega, by simp only [List.length_nil]; omega⟩ : Lent w1.heap.size b2 AW cw (zT s) (zT s) [] false [⟨b2, #[.slice AW ((zT s).length) cw, .int .i64 0, .slice none 0 0, .bool false], 58⟩] w) (Nat.le_refl _)).mono fun e w' ⟨z, ts', nd', bad', ob', k1, k2, k3⟩ => ⟨_, _, k1, ⟨z, ts', nd', bad', rfl, ob', rfl, k2.rd, k3⟩, Own.join hO k2.own⟩) (fun ve Le hve => ?_))
  obtain ⟨z, ts2, nd2, bd, rfl, obe, rfl, hRe, hG⟩ := hve
  obtain ⟨pre, C, cc, g, hpw, rfl, hsl⟩ := hRe
  have hnw : nd2.length ≤ 1000 := by have q := hG.1; simp only [List.length_nil] at q; omega
  refine zH (L' := ⟨b2, #[.slice AW ((zT s).length) cw, .int .i64 ((pre.length : Nat) : Int), .slice C nd2.length cc, .bool bd], 58⟩ :: (g ++ (ow ++ ([⟨b1, #[.slice none 0 0], 25⟩])))) (by simp) (ZR (Zv (.pointer (some ⟨b2, 0, none⟩)) (Zv (.pointer (some ⟨b2, 0, none⟩)) (Zv (.pointer (some ⟨b2, 2, none⟩)) (Zl 0 ⟨b2, #[.slice AW ((zT s).length) cw, .int .i64 ((pre.length : Nat) : Int), .slice C nd2.length cc, .bool bd], 58⟩ (off := 2) (.slice C nd2.length cc) (Zv (.agg #[.slice C nd2.length cc]) (Za (.agg #[.slice none 0 0]) (fun b3 => Zs 0 ⟨b3, #[.slice none 0 0], 25⟩ (off := 0) (.agg #[.slice C nd2.length cc]) ?_))))))))
  refine ZN (zF (zF (xU (by kernel_rfl) (by kernel_rfl) (Zw (.pointer (some ⟨b2, 0, none⟩)) (Zw (.pointer (some ⟨b2, 0, none⟩)) (Zw (.pointer (some ⟨b2, 3, none⟩)) (Zm 1 ⟨b2, #[.slice AW ((zT s).length) cw, .int .i64 ((pre.length : Nat) : Int), .slice C nd2.length cc, .bool bd], 58⟩ (off := 3) (.bool bd) (Zw (.bool bd) ?_))))))))
  cases h3 : bd with
  | true =>
    have hbd := h3
    rw [hbd] at hG
    refine Zj (Zj (Zj (Zj (Zj (Zj (Zj (Zj (Zj (Zj (Zw (.bool true) (Zw (.bool true) ?_)))))))))))
    refine Zj (Zj (Zj (Zw (.bool true) (yU (z8 (Zt (ZO (Zv (.agg #[.slice none 0 0]) (zH (L' := ⟨b3, #[.slice C nd2.length cc], 25⟩ :: (⟨b2, #[.slice AW ((zT s).length) cw, .int .i64 ((pre.length : Nat) : Int), .slice C nd2.length cc, .bool true], 58⟩ :: (g ++ (ow ++ ([⟨b1, #[.slice none 0 0], 25⟩]))))) rfl (yI (L' := ⟨b1, #[.slice none 0 0], 25⟩ :: (⟨b3, #[.slice C nd2.length cc], 25⟩ :: (⟨b2, #[.slice AW ((zT s).length) cw, .int .i64 ((pre.length : Nat) : Int), .slice C nd2.length cc, .bool true], 58⟩ :: (g ++ (ow))))) (fun w hO => hO.perm (by simpa [List.append_assoc] using (List.perm_middle (a := ⟨b1, #[.slice none 0 0], 25⟩) (l₁ := (⟨b3, #[.slice C nd2.length cc], 25⟩ :: (⟨b2, #[.slice AW ((zT s).length) cw, .int .i64 ((pre.length : Nat) : Int), .slice C nd2.length cc, .bool true], 58⟩ :: (g ++ (ow ++ ([] : List Blk)))))) (l₂ := ([] : List Blk))))) ?_))))))))))
    exact Zs 0 ⟨b1, #[.slice none 0 0], 25⟩ (off := 0) (.agg #[.slice none 0 0]) (Zv (.int .i64 7) (ZN (zG (z5 (ZD 0 ⟨b1, #[.slice none 0 0], 25⟩ (off := 0) (.agg #[.slice none 0 0]) (.int .i64 7) Tryd.results12 (fun w hO => ⟨_, [], by rw [(k5 h96 h2).1, show xV s = none from got_fell hG], by rw [(k5 h96 h2).2, show xV s = none from got_fell hG]; exact Sl.nil _ _, (by have q := Own.join (R := []) (by rw [List.append_nil]; exact hO1) hO; rw [List.append_nil] at q; exact q.sublist (by first | exact List.nil_sublist _ | exact (((List.sublist_append_left _ _).cons _).cons _).cons _))⟩))))))
  | false =>
    have hbd := h3
    rw [hbd] at hG
    refine Zw (.pointer (some ⟨b2, 0, none⟩)) (Zw (.pointer (some ⟨b2, 0, none⟩)) (Zw (.pointer (some ⟨b2, 1, none⟩)) (Zm 1 ⟨b2, #[.slice AW ((zT s).length) cw, .int .i64 ((pre.length : Nat) : Int), .slice C nd2.length cc, .bool false], 58⟩ (off := 1) (.int .i64 ((pre.length : Nat) : Int)) (Zw (.pointer (some ⟨b2, 0, none⟩)) (Zw (.pointer (some ⟨b2, 0, none⟩)) (Zw (.pointer (some ⟨b2, 0, none⟩)) (Zm 1 ⟨b2, #[.slice AW ((zT s).length) cw, .int .i64 ((pre.length : Nat) : Int), .slice C nd2.length cc, .bool false], 58⟩ (off := 0) (.slice AW ((zT s).length) cw) (Zw (.int .i64 ((zT s).length : Int)) ?_))))))))
    by_cases h4 : ((pre.length : Nat) : Int) < ((zT s).length : Int)
    · have hne : ts2 ≠ [] := fun q => by rw [q] at hpw; have := congrArg List.length hpw; simp at this; omega
      refine Ze (p := ((pre.length : Nat) : Int) < ((zT s).length : Int)) true (decide_eq_true (h4)) (Zw (.bool true) (Zw (.bool true) (Zj (Zj (Zj (Zw (.bool true) (yU (z8 (Zt (zF (z7 ?_)))))))))))
      exact Zv (.agg #[.slice none 0 0]) (zH (L' := ⟨b3, #[.slice C nd2.length cc], 25⟩ :: (⟨b2, #[.slice AW ((zT s).length) cw, .int .i64 ((pre.length : Nat) : Int), .slice C nd2.length cc, .bool false], 58⟩ :: (g ++ (ow ++ ([⟨b1, #[.slice none 0 0], 25⟩]))))) rfl (yI (L' := ⟨b1, #[.slice none 0 0], 25⟩ :: (⟨b3, #[.slice C nd2.length cc], 25⟩ :: (⟨b2, #[.slice AW ((zT s).length) cw, .int .i64 ((pre.length : Nat) : Int), .slice C nd2.length cc, .bool false], 58⟩ :: (g ++ (ow))))) (fun w hO => hO.perm (by simpa [List.append_assoc] using (List.perm_middle (a := ⟨b1, #[.slice none 0 0], 25⟩) (l₁ := (⟨b3, #[.slice C nd2.length cc], 25⟩ :: (⟨b2, #[.slice AW ((zT s).length) cw, .int .i64 ((pre.length : Nat) : Int), .slice C nd2.length cc, .bool false], 58⟩ :: (g ++ (ow ++ ([] : List Blk)))))) (l₂ := ([] : List Blk))))) (Zs 0 ⟨b1, #[.slice none 0 0], 25⟩ (off := 0) (.agg #[.slice none 0 0]) (Zv (.int .i64 7) (ZN (zG (z5 (ZD 0 ⟨b1, #[.slice none 0 0], 25⟩ (off := 0) (.agg #[.slice none 0 0]) (.int .i64 7) Tryd.results12 (fun w hO => ⟨_, [], by rw [(k5 h96 h2).1, show xV s = none from got_more hG hne], by rw [(k5 h96 h2).2, show xV s = none from got_more hG hne]; exact Sl.nil _ _, (by have q := Own.join (R := []) (by rw [List.append_nil]; exact hO1) hO; rw [List.append_nil] at q; exact q.sublist (by first | exact List.nil_sublist _ | exact (((List.sublist_append_left _ _).cons _).cons _).cons _))⟩)))))))))
    have hts : ts2 = [] := by cases ts2 with | nil => rfl | cons c r => have := congrArg List.length hpw; simp at this; omega
    rw [hts] at hG
    obtain ⟨t, hok, hnd, hrd⟩ := got_all hG
    have hnl : nd2.length = t.sz := by rw [hnd, Tr.enc_len]
    have hnt : ∀ n ∈ nd2, n.text.length ≤ 1000000 := fun n hn => by rw [hnd] at hn; have := q6 t 0 hok n hn; omega
    refine Ze (p := ((pre.length : Nat) : Int) < ((zT s).length : Int)) false (decide_eq_false (h4)) (Zw (.bool false) (Zw (.bool false) (Zm 0 ⟨b3, #[.slice C nd2.length cc], 25⟩ (off := 0) (.agg #[.slice C nd2.length cc]) (Zq (k := 30) (args := #[.agg #[.slice C nd2.length cc]]) (.bool (kB nd2)) (fun w hO => mT C cc nd2 w (Sl.reads hsl rfl hO (fun x hx => by simp [hx])) hnw hnt) ?_))))
    cases h5 : kB nd2 with
    | true =>
      refine Zw (.bool false) (Zw (.bool false) (yU (z8 (Zf (ZB (ZO (Zl 0 ⟨b3, #[.slice C nd2.length cc], 25⟩ (off := 0) (.agg #[.slice C nd2.length cc]) (zH (L' := ⟨b3, #[.slice C nd2.length cc], 25⟩ :: (⟨b2, #[.slice AW ((zT s).length) cw, .int .i64 ((pre.length : Nat) : Int), .slice C nd2.length cc, .bool false], 58⟩ :: (g ++ (ow ++ ([⟨b1, #[.slice none 0 0], 25⟩]))))) rfl (yI (L' := ⟨b1, #[.slice none 0 0], 25⟩ :: (⟨b3, #[.slice C nd2.length cc], 25⟩ :: (⟨b2, #[.slice AW ((zT s).length) cw, .int .i64 ((pre.length : Nat) : Int), .slice C nd2.length cc, .bool false], 58⟩ :: (g ++ (ow))))) (fun w hO => hO.perm (by simpa [List.append_assoc] using (List.perm_middle (a := ⟨b1, #[.slice none 0 0], 25⟩) (l₁ := (⟨b3, #[.slice C nd2.length cc], 25⟩ :: (⟨b2, #[.slice AW ((zT s).length) cw, .int .i64 ((pre.length : Nat) : Int), .slice C nd2.length cc, .bool false], 58⟩ :: (g ++ (ow ++ ([] : List Blk)))))) (l₂ := ([] : List Blk))))) ?_)))))))))
      exact Zs 0 ⟨b1, #[.slice none 0 0], 25⟩ (off := 0) (.agg #[.slice C nd2.length cc]) (Zv (.int .i64 0) (ZN (zG (ZD 0 ⟨b1, #[.slice C nd2.length cc], 25⟩ (off := 0) (.agg #[.slice C nd2.length cc]) (.int .i64 0) Tryd.results12 (fun w hO => ⟨_, g, by rw [(k5 h96 h2).1, show xV s = some t from by rw [hrd, if_pos (by rw [← v6 hok, ← hnd]; exact h5)]], by rw [(k5 h96 h2).2, show xV s = some t from by rw [hrd, if_pos (by rw [← v6 hok, ← hnd]; exact h5)]]; show SlN _ (t.enc 0) g; rw [← hnd]; exact hsl, (by have q := Own.join (R := []) (by rw [List.append_nil]; exact hO1) hO; rw [List.append_nil] at q; exact q.sublist (by first | exact List.nil_sublist _ | exact (((List.sublist_append_left _ _).cons _).cons _).cons _))⟩)))))
    | false =>
      refine Zw (.bool true) (Zw (.bool true) (yU (z8 (Zt (ZO (Zv (.agg #[.slice none 0 0]) (zH (L' := ⟨b3, #[.slice C nd2.length cc], 25⟩ :: (⟨b2, #[.slice AW ((zT s).length) cw, .int .i64 ((pre.length : Nat) : Int), .slice C nd2.length cc, .bool false], 58⟩ :: (g ++ (ow ++ ([⟨b1, #[.slice none 0 0], 25⟩]))))) rfl (yI (L' := ⟨b1, #[.slice none 0 0], 25⟩ :: (⟨b3, #[.slice C nd2.length cc], 25⟩ :: (⟨b2, #[.slice AW ((zT s).length) cw, .int .i64 ((pre.length : Nat) : Int), .slice C nd2.length cc, .bool false], 58⟩ :: (g ++ (ow))))) (fun w hO => hO.perm (by simpa [List.append_assoc] using (List.perm_middle (a := ⟨b1, #[.slice none 0 0], 25⟩) (l₁ := (⟨b3, #[.slice C nd2.length cc], 25⟩ :: (⟨b2, #[.slice AW ((zT s).length) cw, .int .i64 ((pre.length : Nat) : Int), .slice C nd2.length cc, .bool false], 58⟩ :: (g ++ (ow ++ ([] : List Blk)))))) (l₂ := ([] : List Blk))))) (Zs 0 ⟨b1, #[.slice none 0 0], 25⟩ (off := 0) (.agg #[.slice none 0 0]) (Zv (.int .i64 7) ?_))))))))))
      exact ZN (zG (z5 (ZD 0 ⟨b1, #[.slice none 0 0], 25⟩ (off := 0) (.agg #[.slice none 0 0]) (.int .i64 7) Tryd.results12 (fun w hO => ⟨_, [], by rw [(k5 h96 h2).1, show xV s = none from by rw [hrd, if_neg (by rw [← v6 hok, ← hnd, h5]; simp)]], by rw [(k5 h96 h2).2, show xV s = none from by rw [hrd, if_neg (by rw [← v6 hok, ← hnd, h5]; simp)]]; exact Sl.nil _ _, (by have q := Own.join (R := []) (by rw [List.append_nil]; exact hO1) hO; rw [List.append_nil] at q; exact q.sublist (by first | exact List.nil_sublist _ | exact (((List.sublist_append_left _ _).cons _).cons _).cons _))⟩))))
end
section
set_option linter.unnecessarySimpa false
def Tr.sts : Nat → Tr → List Nat
  | o, .is _ _ => [o]
  | o, .no x => x.sts o ++ [o]
  | o, .both x y => x.sts o ++ y.sts (o + x.sz) ++ [o]
  | o, .one x y => x.sts o ++ y.sts (o + x.sz) ++ [o]
theorem Tr.sts_len : ∀ (t : Tr) (o : Nat), (t.sts o).length = t.sz
  | .is _ _, _ => rfl
  | .no x, o => by rw [sts, List.length_append, sts_len x o]; rfl
  | .both x y, o => by rw [sts, List.length_append, List.length_append, sts_len x o, sts_len y _]; rfl
  | .one x y, o => by rw [sts, List.length_append, List.length_append, sts_len x o, sts_len y _]; rfl
theorem fN {α : Type} (l : List α) (x : α) {k : Nat} (h : k = l.length) : (l ++ [x])[k]? = some x := by subst h; simp
theorem Tr.sts_last : ∀ (t : Tr) (o : Nat), (t.sts o)[t.sz - 1]? = some o
  | .is _ _, _ => rfl
  | .no x, o => fN _ _ (by rw [sts_len]; rfl)
  | .both x y, o => fN _ _ (by rw [List.length_append, sts_len, sts_len]; rfl)
  | .one x y, o => fN _ _ (by rw [List.length_append, sts_len, sts_len]; rfl)
def FS : List (Nat × Tr) → Nat → List Nat → Prop
  | [], i, F => i = 0 ∧ F = []
  | p :: r, i, F => ∃ i0 F0, FS r i0 F0 ∧ i = i0 + p.2.sz ∧ p.1 = i - 1 ∧ F = F0 ++ p.2.sts i0
theorem FS.len : ∀ {st : List (Nat × Tr)} {i : Nat} {F : List Nat}, FS st i F → F.length = i
  | [], i, F, h => by obtain ⟨rfl, rfl⟩ := h; rfl
  | p :: r, i, F, h => by
    obtain ⟨i0, F0, h0, rfl, _, rfl⟩ := h
    rw [List.length_append, Tr.sts_len, h0.len]
theorem fs_last {F0 : List Nat} {t : Tr} {i0 : Nat} (h : F0.length = i0) : (F0 ++ t.sts i0)[i0 + t.sz - 1]? = some i0 := by
  have hz := t.sz_pos
  rw [List.getElem?_append_right (by omega), h, show i0 + t.sz - 1 - i0 = t.sz - 1 by omega, Tr.sts_last]
theorem FS.cons {st : List (Nat × Tr)} {i : Nat} {F : List Nat} (h : FS st i F) (hi : ¬ i = 0) : ∃ p r, st = p :: r := by
  cases st with
  | nil => exact absurd h.1 hi
  | cons p r => exact ⟨p, r, rfl⟩
theorem FS.top {p : Nat × Tr} {r : List (Nat × Tr)} {i : Nat} {F : List Nat} (h : FS (p :: r) i F) : ∃ i0 F0, FS r i0 F0 ∧ i = i0 + p.2.sz ∧ p.1 = i - 1 ∧ F = F0 ++ p.2.sts i0 ∧ F[i - 1]? = some i0 := by
  obtain ⟨i0, F0, h0, rfl, h1, rfl⟩ := h
  exact ⟨i0, F0, h0, rfl, h1, rfl, fs_last h0.len⟩
theorem FS.two {p : Nat × Tr} {r : List (Nat × Tr)} {i i0 : Nat} {F : List Nat} (h : FS (p :: r) i F) (hi : F[i - 1]? = some i0) (h0 : ¬ i0 = 0) : ∃ q s j, r = q :: s ∧ q.1 = i0 - 1 ∧ F[i0 - 1]? = some j ∧ ∀ t : Tr, t.sts j = q.2.sts j ++ p.2.sts i0 ++ [j] → t.sz = q.2.sz + p.2.sz + 1 → FS ((i, t) :: s) (i + 1) (F ++ [j]) := by
  obtain ⟨k, F0, h1, h2, h3, h4, h5⟩ := h.top
  rw [h5] at hi
  obtain rfl := Option.some.inj hi
  cases r with
  | nil => exact absurd h1.1 h0
  | cons q s =>
    obtain ⟨j, F1, g1, g2, g3, g4, g5⟩ := h1.top
    have hk := h1.len
    have hz := p.2.sz_pos
    refine ⟨q, s, j, rfl, g3, ?_, fun t ht hs => ⟨j, F1, g1, ?_, rfl, ?_⟩⟩
    · have hz2 := q.2.sz_pos
      rw [h4, List.getElem?_append_left (by omega)]; exact g5
    · show i + 1 = j + t.sz; omega
    · show F ++ [j] = F1 ++ t.sts j
      rw [ht, h4, g4]; simp
theorem FS.leaf {st : List (Nat × Tr)} {i : Nat} {F : List Nat} (h : FS st i F) (k : Nat) (v : List UInt8) : FS ((i, .is k v) :: st) (i + 1) (F ++ [i]) := ⟨i, F, h, rfl, rfl, rfl⟩
theorem FS.no {p : Nat × Tr} {r : List (Nat × Tr)} {i i0 : Nat} {F : List Nat} (h : FS (p :: r) i F) (hi : F[i - 1]? = some i0) : FS ((i, .no p.2) :: r) (i + 1) (F ++ [i0]) := by
  obtain ⟨k, F0, h1, h2, h3, h4, h5⟩ := h.top
  rw [h5] at hi
  obtain rfl := Option.some.inj hi
  refine ⟨k, F0, h1, ?_, rfl, ?_⟩
  · show i + 1 = k + (p.2.sz + 1); omega
  · show F ++ [k] = F0 ++ (p.2.sts k ++ [k]); rw [h4]; simp
def qG (l : List Nd) : Bool := decide (l.length ≤ 15) && (gN l).isSome
theorem jK {n : Nd} (h : ¬ n.op = 1) : xH n = false := dT (o := 0) (i := 0) (j := 0) (st := []) h
theorem ck_leaf {st : List (Nat × Tr)} {i : Nat} {n : Nd} {F : List Nat} (h : FS st i F) (hl : xH n = true) : ∃ s, stp i st n = some s ∧ FS s (i + 1) (F ++ [i]) := ⟨_, tH hl, h.leaf _ _⟩
theorem nG {st : List (Nat × Tr)} {i : Nat} {n : Nd} (ho : n.op = 1) (hl : xH n = false) : stp i st n = none := wV hl (fS (by omega)) (pV (by omega) (by omega))
theorem ck_else {st : List (Nat × Tr)} {i : Nat} {n : Nd} (h1 : ¬ n.op = 1) (h2 : ¬ n.op = 2) (h3 : ¬ n.op = 3) (h4 : ¬ n.op = 4) : stp i st n = none := wV (jK h1) (fS h2) (pV h3 h4)
theorem ck_not0 {st : List (Nat × Tr)} {i : Nat} {n : Nd} {F : List Nat} (h : FS st i F) (ho : n.op = 2) (hi : i = 0) : stp i st n = none := by
  cases st with
  | nil => exact wV (jK (by omega)) rfl rfl
  | cons p r => obtain ⟨k, F0, h1, h2, _⟩ := h.top; have := p.2.sz_pos; omega
theorem ck_not {st : List (Nat × Tr)} {i i0 : Nat} {n : Nd} {F : List Nat} (h : FS st i F) (ho : n.op = 2) (hi : ¬ i = 0) (hF : F[i - 1]? = some i0) (he : n = ⟨n.op, (i : Int) - 1, 0, 0, []⟩) : ∃ s, stp i st n = some s ∧ FS s (i + 1) (F ++ [i0]) := by
  obtain ⟨p, r, rfl⟩ := h.cons hi
  obtain ⟨k, F0, h1, h2, h3, _⟩ := h.top
  have hb : kH (p :: r) n = true := by
    rw [he]; unfold kH k8; simp [ho]; omega
  exact ⟨_, stp_not (jK (by omega)) hb, h.no hF⟩
theorem ck_notno {st : List (Nat × Tr)} {i : Nat} {n : Nd} {F : List Nat} (h : FS st i F) (ho : n.op = 2) (hi : ¬ i = 0) (he : ¬ n = ⟨n.op, (i : Int) - 1, 0, 0, []⟩) : stp i st n = none := by
  obtain ⟨p, r, rfl⟩ := h.cons hi
  obtain ⟨k, F0, h1, h2, h3, _⟩ := h.top
  refine wV (jK (by omega)) ?_ (pV (by omega) (by omega))
  cases hb : kH (p :: r) n with
  | false => rfl
  | true =>
    exfalso; apply he
    unfold kH k8 at hb
    simp only [Bool.and_eq_true, decide_eq_true_eq] at hb
    obtain ⟨⟨⟨q1, q2, q3⟩, q4⟩, q5⟩ := hb
    obtain ⟨op, a, b, key, text⟩ := n
    simp only at q1 q2 q3 q4 q5 ho
    subst q2; subst q3; subst q5
    rw [Nd.mk.injEq]; exact ⟨rfl, by omega, rfl, rfl, rfl⟩
theorem ck_bin0 {st : List (Nat × Tr)} {i : Nat} {n : Nd} {F : List Nat} (h : FS st i F) (ho : n.op = 3 ∨ n.op = 4) (hi : i = 0) : stp i st n = none := by
  cases st with
  | nil => exact wV (jK (by omega)) rfl rfl
  | cons p r => obtain ⟨k, F0, h1, h2, _⟩ := h.top; have := p.2.sz_pos; omega
theorem ck_bin1 {st : List (Nat × Tr)} {i i0 : Nat} {n : Nd} {F : List Nat} (h : FS st i F) (ho : n.op = 3 ∨ n.op = 4) (hi : ¬ i = 0) (hF : F[i - 1]? = some i0) (h0 : i0 = 0) : stp i st n = none := by
  obtain ⟨p, r, rfl⟩ := h.cons hi
  obtain ⟨k, F0, h1, h2, h3, h4, h5⟩ := h.top
  rw [h5] at hF
  obtain rfl := Option.some.inj hF
  subst h0
  cases r with
  | nil => exact wV (jK (by omega)) (fS (by omega)) rfl
  | cons q s => obtain ⟨j, F1, g1, g2, _⟩ := h1.top; have := q.2.sz_pos; omega
theorem ck_bin {st : List (Nat × Tr)} {i i0 : Nat} {n : Nd} {F : List Nat} (h : FS st i F) (ho : n.op = 3 ∨ n.op = 4) (hi : ¬ i = 0) (hF : F[i - 1]? = some i0) (h0 : ¬ i0 = 0) (he : n = ⟨n.op, (i0 : Int) - 1, (i : Int) - 1, 0, []⟩) : ∃ s j, stp i st n = some s ∧ F[i0 - 1]? = some j ∧ FS s (i + 1) (F ++ [j]) := by
  obtain ⟨p, r, rfl⟩ := h.cons hi
  obtain ⟨k, F0, h1, h2, h3, _, hk⟩ := h.top
  obtain ⟨q, s, j, rfl, g1, g2, g3⟩ := h.two hF h0
  have hb : isBin (p :: q :: s) n = true := by
    rw [he]; unfold isBin k8
    rcases ho with ho | ho <;> simp [ho] <;> omega
  rw [hk] at hF
  obtain rfl := Option.some.inj hF
  refine ⟨_, j, stp_bin (jK (by omega)) (fS (by omega)) hb, g2, g3 _ ?_ ?_⟩
  · obtain ⟨k2, F2, f1, f2, f3, f4, f5⟩ := h1.top
    have hj : k2 = j := by
      have hl := h1.len
      have hz := q.2.sz_pos
      obtain ⟨k3, F3, e1, e2, e3, e4, _⟩ := h.top
      have e5 : k3 = k := by omega
      subst e5
      have e6 : F3 = F0 := by
        have q1 := e1.len
        have q2 := hl
        have q3 : F = F0 ++ p.2.sts k3 := by assumption
        exact (List.append_inj (e4.symm.trans q3) (by omega)).1
      subst e6
      rw [e4, List.getElem?_append_left (by omega), f5] at g2
      exact Option.some.inj g2
    subst hj
    have hk3 : k2 + q.2.sz = k := f2.symm
    split
    · show q.2.sts k2 ++ p.2.sts (k2 + q.2.sz) ++ [k2] = _; rw [hk3]
    · show q.2.sts k2 ++ p.2.sts (k2 + q.2.sz) ++ [k2] = _; rw [hk3]
  · split <;> rfl
theorem ck_binno {st : List (Nat × Tr)} {i i0 : Nat} {n : Nd} {F : List Nat} (h : FS st i F) (ho : n.op = 3 ∨ n.op = 4) (hi : ¬ i = 0) (hF : F[i - 1]? = some i0) (h0 : ¬ i0 = 0) (he : ¬ n = ⟨n.op, (i0 : Int) - 1, (i : Int) - 1, 0, []⟩) : stp i st n = none := by
  obtain ⟨p, r, rfl⟩ := h.cons hi
  obtain ⟨k, F0, h1, h2, h3, _⟩ := h.top
  obtain ⟨q, s, j, rfl, g1, g2, g3⟩ := h.two hF h0
  refine wV (jK (by omega)) (fS (by omega)) ?_
  cases hb : isBin (p :: q :: s) n with
  | false => rfl
  | true =>
    exfalso; apply he
    unfold isBin k8 at hb
    simp only [Bool.and_eq_true, decide_eq_true_eq] at hb
    obtain ⟨⟨⟨q1, q2, q3⟩, q4⟩, q5⟩ := hb
    obtain ⟨op, a, b, key, text⟩ := n
    simp only at q1 q2 q3 q4 q5 ho
    subst q2; subst q3
    rw [Nd.mk.injEq]; exact ⟨rfl, by omega, by omega, rfl, rfl⟩
theorem ck_end {st : List (Nat × Tr)} {l : List Nd} {F : List Nat} {i0 : Nat} (h : FS st l.length F) (hr : gA 0 [] l = some st) (hl : l ≠ []) (hF : F[l.length - 1]? = some i0) : (gN l).isSome = decide (i0 = 0) := by
  have hn : ¬ l.length = 0 := fun q => hl (List.eq_nil_of_length_eq_zero q)
  obtain ⟨p, r, rfl⟩ := h.cons hn
  obtain ⟨k, F0, h1, h2, h3, h4, h5⟩ := h.top
  rw [h5] at hF
  obtain rfl := Option.some.inj hF
  cases r with
  | nil => unfold gN; rw [hr]; simp [h1.1]
  | cons q s =>
    obtain ⟨j, F1, g1, g2, _⟩ := h1.top
    have hz := q.2.sz_pos
    unfold gN; rw [hr]; simp; omega
theorem gP {l : List Nd} (h : gA 0 [] l = none) : (gN l).isSome = false := by unfold gN; rw [h]; rfl
def vH (c : Tok) : Int := match bS c with | some n => (n : Int) | none => -1
def Bd (nd : List Nd) (bad : Bool) : Prop := bad = true ∨ ∃ n ∈ nd, n.op = 1 ∧ xH n = false
theorem Bd.add {nd : List Nd} {bad : Bool} (h : Bd nd bad) (xs : List Nd) : Bd (nd ++ xs) bad := h.imp id fun ⟨n, h1, h2⟩ => ⟨n, List.mem_append_left _ h1, h2⟩
theorem Bd.mark (nd : List Nd) : Bd nd true := .inl rfl
theorem wA : ∀ (t : Tr) (o : Nat), t.ok = true → ∀ n ∈ t.enc o, n.op = 1 → xH n = true
  | .is k v, o, h, n, hn, h1 => by
    unfold Tr.ok at h
    simp only [Bool.and_eq_true, decide_eq_true_eq] at h
    rw [Tr.enc, List.mem_singleton] at hn
    rw [hn]; unfold xH; simp [h.2]; omega
  | .no x, o, h, n, hn, h1 => by
    rw [Tr.enc] at hn
    rcases List.mem_append.1 hn with hn | hn
    · exact wA x o h n hn h1
    · rw [List.mem_singleton.1 hn] at h1; simp at h1
  | .both x y, o, h, n, hn, h1 => by
    unfold Tr.ok at h
    rw [Bool.and_eq_true] at h
    rw [Tr.enc] at hn
    rcases List.mem_append.1 hn with hn | hn
    · rcases List.mem_append.1 hn with hn | hn
      · exact wA x o h.1 n hn h1
      · exact wA y _ h.2 n hn h1
    · rw [List.mem_singleton.1 hn] at h1; simp at h1
  | .one x y, o, h, n, hn, h1 => by
    unfold Tr.ok at h
    rw [Bool.and_eq_true] at h
    rw [Tr.enc] at hn
    rcases List.mem_append.1 hn with hn | hn
    · rcases List.mem_append.1 hn with hn | hn
      · exact wA x o h.1 n hn h1
      · exact wA y _ h.2 n hn h1
    · rw [List.mem_singleton.1 hn] at h1; simp at h1
theorem bd_may {nd : List Nd} (h : Bd nd false) : kB nd = false := by
  cases hm : kB nd with
  | false => rfl
  | true =>
    rcases h with h | ⟨n, h1, h2, h3⟩
    · cases h
    · rcases kG hm with rfl | ⟨t, hok, rfl, _⟩
      · cases h1
      · rw [wA t 0 hok n h1 h2] at h3; cases h3
def GotL (part : List Tok → Option (Tr × List Tok)) (ts : List Tok) (nd : List Nd) (bad : Bool) (ts' : List Tok) (nd' : List Nd) (bad' : Bool) : Prop :=
  nd'.length + ts'.length ≤ nd.length + ts.length ∧ ts'.length ≤ ts.length ∧ (Bd nd bad → Bd nd' bad') ∧
    match part ts with
    | some (t, r) => ts' = r ∧ nd' = nd ++ t.enc nd.length ∧ bad' = bad
    | none => Bd nd' bad'
theorem GotL.mk' {part : List Tok → Option (Tr × List Tok)} {ts ts' : List Tok} {nd nd' : List Nd} {bad bad' : Bool} (h1 : nd'.length + ts'.length ≤ nd.length + ts.length) (h2 : ts'.length ≤ ts.length) (h3 : Bd nd bad → Bd nd' bad') (hs : ∀ t r, part ts = some (t, r) → ts' = r ∧ nd' = nd ++ t.enc nd.length ∧ bad' = bad) (hn : part ts = none → Bd nd' bad') : GotL part ts nd bad ts' nd' bad' := by
  refine ⟨h1, h2, h3, ?_⟩
  cases h : part ts with
  | none => exact hn h
  | some x => exact hs x.1 x.2 h
theorem GotL.yes {part : List Tok → Option (Tr × List Tok)} {ts ts' : List Tok} {nd nd' : List Nd} {bad bad' : Bool} (h : GotL part ts nd bad ts' nd' bad') {t : Tr} {r : List Tok} (hp : part ts = some (t, r)) : ts' = r ∧ nd' = nd ++ t.enc nd.length ∧ bad' = bad := by
  have := h.2.2.2; rw [hp] at this; exact this
theorem GotL.nay {part : List Tok → Option (Tr × List Tok)} {ts ts' : List Tok} {nd nd' : List Nd} {bad bad' : Bool} (h : GotL part ts nd bad ts' nd' bad') (hp : part ts = none) : Bd nd' bad' := by
  have := h.2.2.2; rw [hp] at this; exact this
theorem gl_short {ts : List Tok} {nd : List Nd} {bad : Bool} (h : ts.length < 3) : GotL kP ts nd bad ts nd true := by
  refine GotL.mk' (Nat.le_refl _) (Nat.le_refl _) (fun _ => Bd.mark _) (fun t r hp => ?_) (fun _ => Bd.mark _)
  match ts, h, hp with
  | [], _, hp => cases hp
  | [a], _, hp => cases hp
  | [a, b], _, hp => cases hp
theorem leaf_is {k : Int} {v : Tok} : xH ⟨1, 0, 0, k, v⟩ = (decide (0 ≤ k) && decide (k < 3) && wdL v) := by unfold xH; simp
theorem hD {k s v : Tok} {t : Tr} (h : gQ k s v = some t) : (s = tEq ∧ t = .is (vH k).toNat v ∧ 0 ≤ vH k) ∨ (s ≠ tEq ∧ s = tNe ∧ t = .no (.is (vH k).toNat v) ∧ 0 ≤ vH k) := by
  unfold gQ at h
  unfold vH
  cases hk : bS k with
  | none => rw [hk] at h; cases h
  | some n =>
    rw [hk] at h
    simp only at h ⊢
    split at h
    · split at h
      · rename_i e; exact .inl ⟨e, (Option.some.inj h).symm, by omega⟩
      · rename_i e
        split at h
        · rename_i e2; exact .inr ⟨e, e2, (Option.some.inj h).symm, by omega⟩
        · cases h
    · cases h
theorem atom_bad {k s v : Tok} (h : gQ k s v = none) (hs : s = tEq ∨ s = tNe) : xH ⟨1, 0, 0, vH k, v⟩ = false := by
  rw [leaf_is]
  unfold gQ at h
  unfold vH
  cases hk : bS k with
  | none => simp
  | some n =>
    rw [hk] at h
    simp only at h ⊢
    split at h
    · rcases hs with hs | hs
      · rw [if_pos hs] at h; cases h
      · split at h
        · cases h
        · first | cases h | (rw [if_pos hs] at h; cases h)
    · rename_i hv; simp [hv]
theorem gl_eq {k s v : Tok} {r : List Tok} {nd : List Nd} {bad : Bool} (hs : s = tEq) : GotL kP (k :: s :: v :: r) nd bad r (nd ++ [⟨1, 0, 0, vH k, v⟩]) bad := by
  refine GotL.mk' (by simp; omega) (by simp; omega) (fun h => h.add _) (fun t q hp => ?_) (fun hp => ?_)
  · rw [kP] at hp
    cases ha : gQ k s v with
    | none => rw [ha] at hp; cases hp
    | some u =>
      rw [ha] at hp
      simp only [Option.some.injEq, Prod.mk.injEq] at hp
      obtain ⟨rfl, rfl⟩ := hp
      rcases hD ha with ⟨_, rfl, h0⟩ | ⟨h1, _⟩
      · refine ⟨rfl, ?_, rfl⟩
        show _ = nd ++ [⟨1, 0, 0, (((vH k).toNat : Nat) : Int), v⟩]
        rw [Int.toNat_of_nonneg h0]
      · exact absurd hs h1
  · rw [kP] at hp
    cases ha : gQ k s v with
    | none => exact .inr ⟨_, List.mem_append_right _ (List.mem_singleton.2 rfl), rfl, atom_bad ha (.inl hs)⟩
    | some u => rw [ha] at hp; cases hp
theorem gl_ne {k s v : Tok} {r : List Tok} {nd : List Nd} {bad : Bool} (h0 : ¬ s = tEq) (hs : s = tNe) : GotL kP (k :: s :: v :: r) nd bad r (nd ++ [⟨1, 0, 0, vH k, v⟩] ++ [⟨2, ((nd ++ [(⟨1, 0, 0, vH k, v⟩ : Nd)]).length : Int) - 1, 0, 0, []⟩]) bad := by
  refine GotL.mk' (by simp; omega) (by simp; omega) (fun h => (h.add _).add _) (fun t q hp => ?_) (fun hp => ?_)
  · rw [kP] at hp
    cases ha : gQ k s v with
    | none => rw [ha] at hp; cases hp
    | some u =>
      rw [ha] at hp
      simp only [Option.some.injEq, Prod.mk.injEq] at hp
      obtain ⟨rfl, rfl⟩ := hp
      rcases hD ha with ⟨h1, _⟩ | ⟨_, _, rfl, h2⟩
      · exact absurd h1 h0
      · refine ⟨rfl, ?_, rfl⟩
        show _ = nd ++ ([⟨1, 0, 0, (((vH k).toNat : Nat) : Int), v⟩] ++ [⟨2, ((nd.length + 1 - 1 : Nat) : Int), 0, 0, []⟩])
        rw [Int.toNat_of_nonneg h2, List.append_assoc, List.length_append, List.length_singleton]
        congr 4; omega
  · rw [kP] at hp
    cases ha : gQ k s v with
    | none => exact .inr ⟨_, List.mem_append_left _ (List.mem_append_right _ (List.mem_singleton.2 rfl)), rfl, atom_bad ha (.inr hs)⟩
    | some u => rw [ha] at hp; cases hp
theorem gl_sign {k s v : Tok} {r : List Tok} {nd : List Nd} {bad : Bool} (h0 : ¬ s = tEq) (hs : ¬ s = tNe) : GotL kP (k :: s :: v :: r) nd bad r (nd ++ [⟨1, 0, 0, vH k, v⟩]) true := by
  refine GotL.mk' (by simp; omega) (by simp; omega) (fun h => Bd.mark _) (fun t q hp => ?_) (fun hp => Bd.mark _)
  rw [kP] at hp
  cases ha : gQ k s v with
  | none => rw [ha] at hp; cases hp
  | some u => rcases hD ha with ⟨h1, _⟩ | ⟨_, h1, _⟩ <;> contradiction
theorem gl_not {k : Nat} {ts r ts2 : List Tok} {nd nd2 : List Nd} {bad bad2 : Bool} (hts : ts = yZ :: r) (h : GotL (xO k) r nd bad ts2 nd2 bad2) : GotL (xO (k + 1)) ts nd bad ts2 (nd2 ++ [⟨2, (nd2.length : Int) - 1, 0, 0, []⟩]) bad2 := by
  subst hts
  have g1 := h.1
  have g2 := h.2.1
  refine GotL.mk' (by simp; omega) (by simp; omega) (fun q => (h.2.2.1 q).add _) (fun t q hp => ?_) (fun hp => ?_)
  · rw [vT] at hp
    cases hq : xO k r with
    | none => rw [hq] at hp; cases hp
    | some x =>
      obtain ⟨u, r'⟩ := x
      rw [hq] at hp
      simp only [pNo, Option.some.injEq, Prod.mk.injEq] at hp
      obtain ⟨rfl, rfl⟩ := hp
      obtain ⟨rfl, e2, rfl⟩ := h.yes hq
      refine ⟨rfl, ?_, rfl⟩
      have hz := u.sz_pos
      show _ = nd ++ (u.enc nd.length ++ [⟨2, ((nd.length + u.sz - 1 : Nat) : Int), 0, 0, []⟩])
      rw [← List.append_assoc, ← e2]
      have hl : nd2.length = nd.length + u.sz := by rw [e2, List.length_append, Tr.enc_len]
      congr 3; rw [hl]; omega
  · rw [vT] at hp
    cases hq : xO k r with
    | none => exact (h.nay hq).add _
    | some x => rw [hq] at hp; cases hp
theorem gl_open {k : Nat} {ts r ts2 : List Tok} {nd nd2 : List Nd} {bad bad2 : Bool} (hts : ts = yP :: r) (h : GotL (pOr k) r nd bad ts2 nd2 bad2) (hc : xE yC ts2 = true) : GotL (xO (k + 1)) ts nd bad (yJ yC ts2) nd2 bad2 := by
  subst hts
  obtain ⟨r2, rfl, hr2⟩ := kS hc
  rw [hr2]
  have g1 := h.1
  have g2 := h.2.1
  simp only [List.length_cons] at g1 g2
  refine GotL.mk' (by simp; omega) (by simp; omega) h.2.2.1 (fun t q hp => ?_) (fun hp => ?_)
  · rw [qR] at hp
    cases hq : pOr k r with
    | none => rw [hq] at hp; cases hp
    | some x =>
      obtain ⟨u, r'⟩ := x
      rw [hq] at hp
      obtain ⟨e1, e2, e3⟩ := h.yes hq
      subst e1
      rw [jO, if_pos rfl] at hp
      simp only [Option.some.injEq, Prod.mk.injEq] at hp
      obtain ⟨rfl, rfl⟩ := hp
      exact ⟨rfl, e2, e3⟩
  · rw [qR] at hp
    cases hq : pOr k r with
    | none => exact h.nay hq
    | some x =>
      obtain ⟨u, r'⟩ := x
      rw [hq] at hp
      obtain ⟨e1, e2, e3⟩ := h.yes hq
      subst e1
      rw [jO, if_pos rfl] at hp; cases hp
theorem gl_unclosed {k : Nat} {ts r ts2 : List Tok} {nd nd2 : List Nd} {bad bad2 : Bool} (hts : ts = yP :: r) (h : GotL (pOr k) r nd bad ts2 nd2 bad2) (hc : xE yC ts2 = false) : GotL (xO (k + 1)) ts nd bad ts2 nd2 true := by
  subst hts
  have g1 := h.1
  have g2 := h.2.1
  refine GotL.mk' (by simp; omega) (by simp; omega) (fun _ => Bd.mark _) (fun t q hp => ?_) (fun hp => Bd.mark _)
  rw [qR] at hp
  cases hq : pOr k r with
  | none => rw [hq] at hp; cases hp
  | some x =>
    obtain ⟨u, r'⟩ := x
    rw [hq] at hp
    obtain ⟨e1, e2, e3⟩ := h.yes hq
    subst e1
    cases ts2 with
    | nil => cases hp
    | cons c q =>
      have := of_decide_eq_false hc
      simp only [List.head?_cons, Option.some.injEq] at this
      rw [jO, if_neg this] at hp; cases hp
theorem gl_atom {n : Nat} {ts ts2 : List Tok} {nd nd2 : List Nd} {bad bad2 : Bool} (h1 : xE yZ ts = false) (h2 : xE yP ts = false) (hn : ts.length ≤ n) (h : GotL kP ts nd bad ts2 nd2 bad2) : GotL (xO n) ts nd bad ts2 nd2 bad2 := by
  unfold GotL at h ⊢; rw [p6 h1 h2 hn]; exact h
def ChL (part : List Tok → Option (Tr × List Tok)) (c : Tok) (mk : Tr → Tr → Tr) (ts : List Tok) (nd : List Nd) (bad : Bool) (tq : List Tok) (nq : List Nd) (bq : Bool) : Prop :=
  nq.length + tq.length ≤ nd.length + ts.length ∧ tq.length ≤ ts.length ∧ (Bd nd bad → Bd nq bq) ∧
    ((x9 part c mk ts = none ∧ Bd nq bq) ∨ ∃ t, x9 part c mk ts = kL part c mk tq.length t tq ∧ nq = nd ++ t.enc nd.length ∧ bq = bad)
theorem cl_start {part : List Tok → Option (Tr × List Tok)} {c : Tok} {mk : Tr → Tr → Tr} {ts ts' : List Tok} {nd nd' : List Nd} {bad bad' : Bool} (h : GotL part ts nd bad ts' nd' bad') : ChL part c mk ts nd bad ts' nd' bad' := by
  refine ⟨h.1, h.2.1, h.2.2.1, ?_⟩
  cases hp : part ts with
  | none => exact .inl ⟨by unfold x9; rw [hp], h.nay hp⟩
  | some x =>
    obtain ⟨t, r⟩ := x
    obtain ⟨e1, e2, e3⟩ := h.yes hp
    exact .inr ⟨t, by unfold x9; rw [hp, e1], e2, e3⟩
theorem cl_stop {part : List Tok → Option (Tr × List Tok)} {c : Tok} {mk : Tr → Tr → Tr} {ts tq : List Tok} {nd nq : List Nd} {bad bq : Bool} (h : ChL part c mk ts nd bad tq nq bq) (hc : xE c tq = false) : GotL (x9 part c mk) ts nd bad tq nq bq := by
  obtain ⟨h1, h2, h3, h4⟩ := h
  refine GotL.mk' h1 h2 h3 (fun t r hp => ?_) (fun hp => ?_)
  · rcases h4 with ⟨q, _⟩ | ⟨u, q, e2, e3⟩
    · rw [hp] at q; cases q
    · rw [kF _ _ _ _ _ _ (of_decide_eq_false hc)] at q
      rw [hp] at q
      simp only [Option.some.injEq, Prod.mk.injEq] at q
      obtain ⟨rfl, rfl⟩ := q
      exact ⟨rfl, e2, e3⟩
  · rcases h4 with ⟨_, q⟩ | ⟨u, q, e2, e3⟩
    · exact q
    · rw [kF _ _ _ _ _ _ (of_decide_eq_false hc), hp] at q; cases q
theorem cl_step {part : List Tok → Option (Tr × List Tok)} (hp : Eats part) {op : Int} {c : Tok} {mk : Tr → Tr → Tr} (hmk : MkOf op mk) {ts tq r ts2 : List Tok} {nd nq nd2 : List Nd} {bad bq bad2 : Bool} (h : ChL part c mk ts nd bad tq nq bq) (htq : tq = c :: r) (h2 : GotL part r nq bq ts2 nd2 bad2) :
    ChL part c mk ts nd bad ts2 (nd2 ++ [⟨op, (nq.length : Int) - 1, (nd2.length : Int) - 1, 0, []⟩]) bad2 := by
  obtain ⟨h1, h3, h4, h5⟩ := h
  have g1 := h2.1
  have g2 := h2.2.1
  subst htq
  simp only [List.length_cons] at h1 h3
  refine ⟨by rw [List.length_append, List.length_singleton]; omega, by omega, fun q => (h2.2.2.1 (h4 q)).add _, ?_⟩
  rcases h5 with ⟨e, hb⟩ | ⟨t, e, hn, hb⟩
  · exact .inl ⟨e, (h2.2.2.1 hb).add _⟩
  · rw [List.length_cons, kL, if_pos rfl] at e
    cases hq : part r with
    | none =>
      rw [hq] at e
      exact .inl ⟨e, (h2.nay hq).add _⟩
    | some y =>
      obtain ⟨u, r'⟩ := y
      rw [hq] at e
      obtain ⟨rfl, e2, e3⟩ := h2.yes hq
      have hl := hp _ _ _ hq
      have hz1 := t.sz_pos
      have hz3 := u.sz_pos
      have hnl : nq.length = nd.length + t.sz := by rw [hn, List.length_append, Tr.enc_len]
      have hnl2 : nd2.length = nd.length + t.sz + u.sz := by rw [e2, List.length_append, Tr.enc_len, hnl]
      refine .inr ⟨mk t u, ?_, ?_, e3.trans hb⟩
      · rw [e]; exact jA hp _ _ _ _ _ _ (by omega) (Nat.le_refl _)
      · rw [hmk.enc, hnl2, hnl, e2, hnl, hn]
        rw [show ((nd.length + t.sz : Nat) : Int) - 1 = ((nd.length + t.sz - 1 : Nat) : Int) by omega, show ((nd.length + t.sz + u.sz : Nat) : Int) - 1 = ((nd.length + t.sz + u.sz - 1 : Nat) : Int) by omega]
        simp
theorem bM {s : List UInt8} {ts' : List Tok} {nd' : List Nd} {bad' : Bool} (h : GotL (pOr (zT s).length) (zT s) [] false ts' nd' bad') (hb : bad' = true ∨ ts' ≠ [] ∨ kB nd' = false) : xV s = none := by
  unfold xV
  cases hp : pOr (zT s).length (zT s) with
  | none => rfl
  | some x =>
    obtain ⟨t, r⟩ := x
    obtain ⟨e1, e2, e3⟩ := h.yes hp
    subst e1; subst e3
    rcases hb with hb | hb | hb
    · cases hb
    · cases ts' with
      | nil => exact absurd rfl hb
      | cons c q => rfl
    · cases ts' with
      | cons c q => rfl
      | nil =>
        have hok := pU _ _ _ _ hp
        rw [e2, show ([] : List Nd) ++ t.enc ([] : List Nd).length = t.enc 0 from rfl, v6 hok] at hb
        simp [hb]
theorem gl_some {s : List UInt8} {nd' : List Nd} (h : GotL (pOr (zT s).length) (zT s) [] false [] nd' false) (hm : kB nd' = true) : ∃ t : Tr, t.ok = true ∧ nd' = t.enc 0 ∧ xV s = some t := by
  unfold xV
  cases hp : pOr (zT s).length (zT s) with
  | none => have := bd_may (h.nay hp); rw [hm] at this; cases this
  | some x =>
    obtain ⟨t, r⟩ := x
    obtain ⟨e1, e2, _⟩ := h.yes hp
    subst e1
    have hok := pU _ _ _ _ hp
    have e3 : nd' = t.enc 0 := e2
    refine ⟨t, hok, e3, ?_⟩
    rw [e3, v6 hok] at hm
    simp [hm]
theorem print_no {l : List Nd} (h : qG l = false) : z6 l = [] := by
  unfold z6
  cases hm : kB l with
  | false => rfl
  | true =>
    rcases kG hm with rfl | ⟨t, hok, rfl, hs, _⟩
    · rfl
    · unfold qG at h
      rw [g8 hok, Tr.enc_len, decide_eq_true hs] at h; cases h
theorem treeOk_yes {l : List Nd} (h : qG l = true) : ∃ t : Tr, t.ok = true ∧ l = t.enc 0 ∧ t.sz ≤ 15 := by
  unfold qG at h
  rw [Bool.and_eq_true, decide_eq_true_eq] at h
  obtain ⟨t, ht⟩ := Option.isSome_iff_exists.1 h.2
  obtain ⟨h1, h2⟩ := treeOf_iff.1 ht
  exact ⟨t, h1, h2, by rw [h2, Tr.enc_len] at h; exact h.1⟩
theorem print_long {t : Tr} (h : t.ok = true) (hl : 96 < t.text.length) : z6 (t.enc 0) = [] := by
  unfold z6
  rw [fC h, decide_eq_false (p := t.text.length ≤ 96) (by omega)]; simp
theorem print_yes {t : Tr} (h : t.ok = true) (hs : t.sz ≤ 15) (hl : ¬ 96 < t.text.length) : z6 (t.enc 0) = t.text := dJ h (by unfold Tr.fit; rw [decide_eq_true hs, decide_eq_true (by omega)]; rfl)
theorem p9 {l : List Nd} (h : ¬ l = []) : kB l = !decide (z6 l = []) := by
  unfold z6
  cases hm : kB l with
  | false => simp
  | true =>
    rcases kG hm with rfl | ⟨t, hok, rfl, _⟩
    · exact absurd rfl h
    · rw [g8 hok]; simp [pN]
end
section
theorem jW (r : Int) (b : Bool) (hb : jX r = b) (w : World) :
    Calls Tryd.prog 77 #[.int .i32 r] w fun e w' => e = .returned (.bool b) ∧ w = w' := by
  subst hb
  unfold jX
  go_enter Tryd.func77, Tryd.ntmps77
  go_wp2
  all_goals go_ret
  all_goals exact ⟨j6 (by simp; try omega), rfl⟩
theorem word_any (s : ByteArray) (w : World) (hs : s.size ≤ maxLen) :
    Calls Tryd.prog 61 #[.string s] w fun e w' => e = .returned (.bool (hU s)) ∧ Below w.heap.size w w' := by
  unfold maxLen at hs
  by_cases h0 : s.size = 0
  · have H0 := Lib.hid h0
    have hz : ((s.size : Int) == 0) = true := by simp [h0]
    clear h0
    go_enter Tryd.func61, Tryd.ntmps61
    go_wp2
    go_ret
    exact ⟨j6 (by unfold hU; simp [H0.out]), Below.refl _ _⟩
  · have hz : ((s.size : Int) == 0) = false := vK (by omega)
    by_cases h12 : s.size ≤ 12
    · go_enter Tryd.func61, Tryd.ntmps61
      go_wp2
      go_loopw [] (fun wr => ∃ (pos : Nat), wr = w.iter s pos ∧ pos ≤ s.size ∧ Hid (kM (s.data.toList.drop pos) = kM s.data.toList)) (fun wr => s.size - wr.iterPos w.heap.size)
      case atStart => exact ⟨0, rfl, Nat.zero_le _, rfl⟩
      case round =>
        obtain ⟨pos, rfl, hple, HR⟩ := hrel
        by_cases hp : pos < s.size
        · have HD := Lib.hid (fX s pos hp)
          by_cases ha : (s[pos]'hp).toNat < 128
          · have hnx : ∀ ty, (Instr.next (.pointer (some ⟨w.heap.size, 0, none⟩)) true ty).run Tryd.prog (w.iter s pos) = _ := fun ty => run_next_ascii w s pos ty hp ha
            by_cases hl : jX (s[pos]'hp).toNat = true
            · have HL := Lib.hid hl
              clear hl
              go_wp2_with (go_at_call 77; refine (jW _ true HL.out _).mono ?_; rintro e w' ⟨rfl, rfl⟩)
              go_roundw
              case rel => exact ⟨pos + 1, rfl, by omega, by rw [← HR.out, HD.out, v8 _ _ (by unfold wdB; rw [HL.out]; rfl)]; rfl⟩
              case measure => simp; omega
            · have HL := Lib.hid (Bool.eq_false_iff.2 hl)
              clear hl
              by_cases hd : jE (s[pos]'hp).toNat = true
              · have HG := Lib.hid hd
                clear hd
                go_wp2_with (first | (go_at_call 77; refine (jW _ false HL.out _).mono ?_; rintro e w' ⟨rfl, rfl⟩) | (go_at_call 78; refine (fH _ true HG.out _).mono ?_; rintro e w' ⟨rfl, rfl⟩))
                go_roundw
                case rel => exact ⟨pos + 1, rfl, by omega, by rw [← HR.out, HD.out, v8 _ _ (by unfold wdB; rw [HL.out, HG.out]; rfl)]; rfl⟩
                case measure => simp; omega
              · have HG := Lib.hid (Bool.eq_false_iff.2 hd)
                clear hd
                by_cases h3 : ((s[pos]'hp).toNat : Int) = 95
                · have H3 := Lib.hid h3
                  have h3b : (((s[pos]'hp).toNat : Int) != 95) = false := by simp [h3]
                  clear h3
                  go_wp2_with (first | (go_at_call 77; refine (jW _ false HL.out _).mono ?_; rintro e w' ⟨rfl, rfl⟩) | (go_at_call 78; refine (fH _ false HG.out _).mono ?_; rintro e w' ⟨rfl, rfl⟩))
                  go_roundw
                  case rel => exact ⟨pos + 1, rfl, by omega, by rw [← HR.out, HD.out, v8 _ _ (by unfold wdB; rw [HL.out, HG.out, H3.out]; rfl)]; rfl⟩
                  case measure => simp; omega
                · have h3b : (((s[pos]'hp).toNat : Int) != 95) = true := by simpa using h3
                  go_wp2_with (first | (go_at_call 77; refine (jW _ false HL.out _).mono ?_; rintro e w' ⟨rfl, rfl⟩) | (go_at_call 78; refine (fH _ false HG.out _).mono ?_; rintro e w' ⟨rfl, rfl⟩))
                  go_ret
                  exact ⟨j6 (by unfold hU; rw [← HR.out, HD.out, d9 _ _ (by unfold wdB; rw [HL.out, HG.out]; simpa using h3)]; simp), wQ _ _ _⟩
          · have hnx : ∀ ty, (Instr.next (.pointer (some ⟨w.heap.size, 0, none⟩)) true ty).run Tryd.prog (w.iter s pos) = _ := fun ty => run_next_any w s pos ty hp
            have hhi := (decode_high s pos hp (by omega)).1
            have HL := Lib.hid (letB_hi _ hhi)
            have HG := Lib.hid (digB_hi _ hhi)
            have h3b : (((Utf8.decode s pos).1 : Int) != 95) = true := by simp; omega
            go_wp2_with (first | (go_at_call 77; refine (jW _ false HL.out _).mono ?_; rintro e w' ⟨rfl, rfl⟩) | (go_at_call 78; refine (fH _ false HG.out _).mono ?_; rintro e w' ⟨rfl, rfl⟩))
            go_ret
            exact ⟨j6 (by unfold hU; rw [← HR.out, HD.out, d9 _ _ (by unfold wdB; rw [letB_hi8 _ (by omega), digB_hi8 _ (by omega)]; simp; omega)]; simp), wQ _ _ _⟩
        · have hnx : ∀ ty, (Instr.next (.pointer (some ⟨w.heap.size, 0, none⟩)) true ty).run Tryd.prog (w.iter s pos) = _ := fun ty => run_next_end w s pos ty hp
          have HD := Lib.hid (nE s pos hp)
          go_wp2
          go_ret
          exact ⟨j6 (by unfold hU; rw [← HR.out, HD.out, kM]; simp; omega), wQ _ _ _⟩
    · go_enter Tryd.func61, Tryd.ntmps61
      go_wp2
      go_ret
      exact ⟨j6 (by unfold hU; simp [h12]), Below.refl _ _⟩
end
section
open Go.ChangeShapes Go.WideShapes Go.ChangeAt Go.RowKit
theorem own : ownKnob Tryd.prog.godebug = none := by kernel_rfl
theorem bT {H : Type} {enc : TypeId × Value → H} {P : Program} (hl : laidOutB P = true) {W W' : World} (hb : Below W.heap.size W W') :
    ∀ (ts : List TypeId), (∀ t ∈ ts, P.readableRec t = true ∧ t < P.types.size) → ∀ (vs : List Value) (ds : List (DataW H)) (ps : List MemPlace), DataW.TrodAll enc P W 0 (fun _ => true) true ts vs ds ps → (∀ p ∈ ps, p.block < W.heap.size) →
      DataW.TrodAll enc P W' 0 (fun b => decide (b < W.heap.size)) true ts vs ds ps
  | [], _, vs, ds, ps, h, _ => by
    obtain ⟨rfl, rfl, rfl⟩ := trodAll_nil h
    exact trodAll_mk0
  | t :: ts, hr, vs, ds, ps, h, hlt => by
    obtain ⟨v, vs', d, ds', p, q, rfl, rfl, rfl, hd, hrest⟩ := trodAll_cons h
    exact ⟨p, q, Go.RowKit.Below.trod hl (hr t (by simp)).1 (hr t (by simp)).2 hd hb.old (fun x hx => hlt x (by simp [hx])), bT hl hb ts (fun t' ht' => hr t' (by simp [ht'])) vs' ds' q hrest (fun x hx => hlt x (by simp [hx])), rfl⟩
theorem wL {H : Type} {enc : TypeId × Value → H} {P : Program} {f : Func} {s : ChangeSpec} {W W' : World} {args : Array Value} {ds gs : List (DataW H)} {before : List MemPlace} {T : TypeId}
    (hl : laidOutB P = true) (hr : ∀ t ∈ f.params.toList, P.readableRec t = true ∧ t < P.types.size) (hv : s.vars = []) (hT : f.resultTypes = #[T]) (hB : P.underlying T = some .bool)
    (hW : DataW.Whole enc P f.params.toList s.vars false W args.toList ds gs before) (hf : s.fn H (ds ++ gs) = { results := [.lit (.bool true)], args := ds }) (hb : Below W.heap.size W W') :
    s.post enc P f false true false false W args (.bool true) W' := by
  have hlt : ∀ p ∈ before, p.block < W.heap.size := fun p hp => hW.lt p hp
  have hW' := hW
  obtain ⟨p, q, hA, hV, rfl, _, _⟩ := hW
  rw [hv] at hV
  obtain ⟨rfl, rfl⟩ := trodVars_none hV
  have h2 := bT hl hb _ hr _ _ _ hA (fun x hx => hlt x (by simp [hx]))
  refine ⟨ds, [], p ++ [], [], p, [], hW', ?_, ?_, ?_, World.keptBut_mono (fun x hx => ⟨hx, Or.inr (Or.inl (by simpa using hx))⟩) (hb.frame (· ∈ p ++ [])), fun h => by cases h⟩
  · rw [hf, hT]
    exact trodAll_cons_mk (shut_bool hB true) trodAll_mk0
  · rw [hf]; exact h2
  · rw [hf, hv]; rfl
theorem wM : laidOutB Tryd.prog = true := by kernel_rfl
theorem cell_lt {W : World} {a : Addr} {v : Value} (h : W.cell? a = some v) : a.block < W.heap.size := by
  rcases Nat.lt_or_ge a.block W.heap.size with h1 | h1
  · exact h1
  · unfold World.cell? at h
    rw [Array.getElem?_eq_none h1] at h
    simp at h
theorem strCells1 : Tryd.prog.cellsOf 9 = 1 := by kernel_rfl
def litCells : DataW Unit → List Value
  | .lit (.int k n) => [Value.int k n]
  | .lit (.string s) => [Value.string ⟨s.toArray⟩]
  | .agg l => l.flatMap fun d => match d with | .lit (.int k n) => [Value.int k n] | _ => []
  | _ => []
def tabCells : DataW Unit → Array Value
  | .agg l => (l.flatMap litCells).toArray
  | _ => #[]
def n6 (h : Array Obj) (g : Nat) (d : DataW Unit) : Array Obj := h.modify g fun
  | .cells _ t frozen => .cells (tabCells d) t frozen
  | o => o
end
section
set_option linter.unnecessarySimpa false
theorem p3 {P : Program} {ρ : Operand → Value} {o : Oper} {t e : TypeId} {x y : Operand} {n k : Nat} {vals : Array Value} (g : Nat → List UInt8) (hk : k < n) (ho : o.op = .index t x y) (hx : ρ x = .agg vals) (hy : ρ y = .int .i64 (k : Int))
    (hu : P.underlying t = some (.array n e)) (hp : ∀ i, i < n → ∀ w, (part e vals i).run P w = .ok (.string (mkS (g i))) w) (hs : (P.info? e).map (·.size) = some 1) (w : World) : (execOp ρ o).run P w = .ok (.value (.string (mkS (g k)))) w := by
  cases he : P.info? e with
  | none => rw [he] at hs; cases hs
  | some i =>
    rw [he] at hs
    have hs1 : i.size = 1 := Option.some.inj hs
    unfold execOp
    have h2 := hp k hk
    have hkn : ¬ n ≤ k := by omega
    simp [ho, hx, hy, Instr.index, Sem.run_bind, asIntOf, run_underlying hu, sizeOf, typeInfo, he, hs1, h2, hk, hkn]
structure MkAt (B : Nat) (W : World) : Prop where
  lt : 0 < B
  held : ∃ T, W.heap[(0 : Nat)]? = some (.cells #[.string ⟨#[111, 115]⟩, .string ⟨#[97, 114, 99, 104]⟩, .string ⟨#[97, 98, 105]⟩] T)
def MkLib (W : World) : Prop := MkAt W.heap.size W
theorem MkAt.on {B B' : Nat} {W w : World} (h : MkAt B W) (hb : Below B W w) (hB : B ≤ B') : MkAt B' w :=
  ⟨Nat.lt_of_lt_of_le h.lt hB, by obtain ⟨T, q⟩ := h.held; exact ⟨T, by rw [hb.block _ h.lt]; exact q⟩⟩
theorem MkLib.on {W w : World} (h : MkLib W) (hb : Below W.heap.size W w) : MkLib w := MkAt.on h hb hb.size
theorem MkAt.all {B : Nat} {W : World} (h : MkAt B W) : (loadVar 31 ⟨0, 0, none⟩).run Tryd.prog W = .ok (.agg #[.string ⟨#[111, 115]⟩, .string ⟨#[97, 114, 99, 104]⟩, .string ⟨#[97, 98, 105]⟩]) W := by
  obtain ⟨T, q⟩ := h.held
  exact yO (by kernel_rfl) q
theorem MkAt.one {B : Nat} {W : World} (h : MkAt B W) (k : Nat) (hk : k < 3) : (loadVar 9 ⟨0, 0 + k * 1, none⟩).run Tryd.prog W = .ok (.string (mkS (yH k))) W := by
  obtain ⟨T, q⟩ := h.held
  exact yO (rd_key k hk) q
theorem key_part : ∀ (i : Nat), i < 3 → ∀ w, (part 9 #[.string ⟨#[111, 115]⟩, .string ⟨#[97, 114, 99, 104]⟩, .string ⟨#[97, 98, 105]⟩] i).run Tryd.prog w = .ok (.string (mkS (yH i))) w
  | 0, _, w => by kernel_rfl
  | 1, _, w => by kernel_rfl
  | 2, _, w => by kernel_rfl
theorem env_part (e : Pf) : ∀ (i : Nat), i < 3 → ∀ w, (part 9 #[.string (mkS (e 0)), .string (mkS (e 1)), .string (mkS (e 2))] i).run Tryd.prog w = .ok (.string (mkS (e i))) w
  | 0, _, w => by kernel_rfl
  | 1, _, w => by kernel_rfl
  | 2, _, w => by kernel_rfl
theorem mE (s : List UInt8) (W : World) (hs : s.length ≤ 1000000) : Calls Tryd.prog 61 #[.string (mkS s)] W fun e w' => e = .returned (.bool (wdL s)) ∧ Below W.heap.size W w' :=
  hZ (wd_mk s) (word_any (mkS s) W (by rw [k0]; unfold maxLen; omega))
theorem key_at {c : Tok} {k : Nat} (hk : k < 3) (h : ∀ i, i < k → yH i ≠ c) (e : yH k = c) : vH c = (k : Int) := by
  unfold vH bS
  match k, hk with
  | 0, _ => rw [if_pos e.symm]
  | 1, _ => rw [if_neg (fun q => h 0 (by omega) q.symm), if_pos e.symm]
  | 2, _ => rw [if_neg (fun q => h 0 (by omega) q.symm), if_neg (fun q => h 1 (by omega) q.symm), if_pos e.symm]
theorem key_not {c : Tok} (h : ∀ i, i < 3 → yH i ≠ c) : vH c = -1 := by
  unfold vH bS
  rw [if_neg (fun q => h 0 (by omega) q.symm), if_neg (fun q => h 1 (by omega) q.symm), if_neg (fun q => h 2 (by omega) q.symm)]
theorem cmp10_any (u v : List UInt8) (W : World) : Calls Tryd.prog 58 #[.string (mkS u), .string (mkS v)] W fun e w' => e = .returned (.int .i64 (if u = [] then 1 else if u = v then 2 else 0)) ∧ Below W.heap.size W w' := by
  refine zU (n := 11) Tryd.func58 rfl (by kernel_rfl) (by kernel_rfl) (ZO (Zv (.int .i64 0) (ZN (zF (ZO (Zv (.string (mkS u)) (zK (z8 ?_))))))))
  refine zP (zF (z7 ?_))
  by_cases h1 : (u : List UInt8) = []
  · refine zM (.bool true) (by kernel_rfl) (zV (a := u) (b := ([])) rfl (by kernel_rfl) (by kernel_rfl) (decide_eq_true (h1))) ?_
    refine Zv (.bool true) (ZY (ZO (Zv (.int .i64 1) (ZN (zG (zD (z5 ?_)))))))
    exact ZF (.int .i64 1) Tryd.results58 (fun w hO => ⟨by rw [if_pos h1], hO.below⟩)
  refine zM (.bool false) (by kernel_rfl) (zV (a := u) (b := ([])) rfl (by kernel_rfl) (by kernel_rfl) (decide_eq_false (h1))) (Zv (.bool false) (ZX (ZO (Zv (.string (mkS v)) ?_))))
  by_cases h2 : (u : List UInt8) = v
  · refine zM (.bool true) (by kernel_rfl) (zV (a := u) (b := v) rfl (by kernel_rfl) (by kernel_rfl) (decide_eq_true (h2))) ?_
    refine Zv (.bool true) (ZY (ZO (Zv (.int .i64 2) (ZN (zG (zD (z5 ?_)))))))
    exact ZF (.int .i64 2) Tryd.results58 (fun w hO => ⟨by rw [if_neg h1, if_pos h2], hO.below⟩)
  refine zM (.bool false) (by kernel_rfl) (zV (a := u) (b := v) rfl (by kernel_rfl) (by kernel_rfl) (decide_eq_false (h2))) (Zv (.bool false) (ZX (x6 (zJ (z8 (ZO (Zv (.int .i64 0) (zK ?_))))))))
  exact z8 (zG (ZF (.int .i64 0) Tryd.results58 (fun w hO => ⟨by rw [if_neg h1, if_neg h2], hO.below⟩)))
theorem nO (e : Pf) (W : World) (he : PfS e) : Calls Tryd.prog 43 #[pfV e] W fun x w' => x = .returned (.bool (vQ e)) ∧ Below W.heap.size W w' := by
  refine zU (n := 18) Tryd.func43 rfl (by kernel_rfl) (by kernel_rfl) (ZO (Zb (pfV e) (fun b1 => Zv (.bool false) (ZN (zF (ZO (Zv (.pointer (some ⟨b1, 0, none⟩)) (Zl 0 ⟨b1, (pfV e).cells, 33⟩ (off := 0) (pfV e) ?_))))))))
  refine Zv (.int .i64 0) (ZN (zP (xT (fun L f m => ∃ (k : Nat) (j : Nat → Value), (k ≤ 3 ∧ ∀ i, i < k → (decide (e i = []) || wdL (e i)) = true) ∧ L = [⟨b1, (pfV e).cells, 33⟩] ∧ f = qT j [(6, .agg #[.string (mkS (e 0)), .string (mkS (e 1)), .string (mkS (e 2))]), (7, .int .i64 (k : Int))] ∧ m = 3 - k) (3 - 0) ⟨0, _, ⟨by omega, fun i hi => absurd hi (Nat.not_lt_zero _)⟩, rfl, ZU, rfl⟩ ?_)))
  rintro L f m ⟨k, j, hrel, rfl, rfl, rfl⟩
  have hk6 := hrel.1
  refine zF (z7 ?_)
  by_cases h1 : (k : Int) < 3
  · have hk3 : k < 3 := by omega
    have hek := he.at hk3
    refine Zd (p := (k : Int) < 3) true (decide_eq_true (h1)) (ZN (zF (Zt (ZB (zF (zP (ZO (zM (.string (mkS (e k))) (by kernel_rfl) (p3 e hk3 rfl (by kernel_rfl) (by kernel_rfl) Tryd.underlying31 (env_part e) (by kernel_rfl)) ?_))))))))
    refine Zv (.string (mkS (e k))) (ZR (Zv (.string (mkS (e k))) ?_))
    by_cases h2 : ((e k) : List UInt8) = []
    · refine zM (.bool false) (by kernel_rfl) (xJ (a := (e k)) (b := ([])) rfl (by kernel_rfl) (by kernel_rfl) (decide_eq_true (h2))) ?_
      refine Zv (.bool false) (Zk (Zk (Zk (Zv (.bool false) (ZX (x6 (zJ (z8 (z7 ?_)))))))))
      exact Zu (k := .i64) (((k + 1 : Nat) : Int)) (IntWalk.i64_in _ (by omega)) (Zv (.int .i64 ((k + 1 : Nat) : Int)) (zK (zS (m' := 3 - (k + 1)) (by omega) ⟨k + 1, _, ⟨by omega, fun i hi => by rcases Nat.lt_succ_iff_lt_or_eq.1 hi with q | rfl; exact hrel.2 i q; simp [h2]⟩, rfl, ZU, rfl⟩)))
    refine zM (.bool true) (by kernel_rfl) (xJ (a := (e k)) (b := ([])) rfl (by kernel_rfl) (by kernel_rfl) (decide_eq_false (h2))) (Zv (.bool true) (Zv (.string (mkS (e k))) (Zc (k := 61) (args := #[.string (mkS (e k))]) (.bool (wdL (e k))) (fun w _ => mE (e k) w hek) ?_)))
    cases h3 : wdL (e k) with
    | true =>
      refine Zv (.bool false) (Zv (.bool false) (ZX (x6 (zJ (z8 (z7 (Zu (k := .i64) (((k + 1 : Nat) : Int)) (IntWalk.i64_in _ (by omega)) (Zv (.int .i64 ((k + 1 : Nat) : Int)) (zK ?_)))))))))
      exact zS (m' := 3 - (k + 1)) (by omega) ⟨k + 1, _, ⟨by omega, fun i hi => by rcases Nat.lt_succ_iff_lt_or_eq.1 hi with q | rfl; exact hrel.2 i q; simp [h2, h3]⟩, rfl, ZU, rfl⟩
    | false =>
      refine Zv (.bool true) (Zv (.bool true) (ZY (ZO (Zv (.bool false) (ZN (zG (zD ?_)))))))
      exact z5 (yE (zD (z5 (ZF (.bool false) Tryd.results43 (fun w hO => ⟨by rw [pf_bad hk3 (by simp [h2, h3])], hO.below⟩)))))
  refine Zd (p := (k : Int) < 3) false (decide_eq_false (h1)) (ZN (zF (Zf (xN (yG (zY (zZ (z8 (zF (z7 ?_))))))))))
  exact Zv (.bool true) (ZN (zG (ZF (.bool true) Tryd.results43 (fun w hO => ⟨by rw [show vQ e = true from by unfold vQ; rw [hrel.2 0 (by omega), hrel.2 1 (by omega), hrel.2 2 (by omega)]; rfl], hO.below⟩))))
theorem keyOf_any (c : List UInt8) (B : Nat) (W : World) (hK : MkAt B W) (hB : B ≤ W.heap.size) : Calls Tryd.prog 88 #[.string (mkS c)] W fun x w' => x = .returned (.int .i64 (vH c)) ∧ Below W.heap.size W w' := by
  have hK : MkAt W.heap.size W := ⟨Nat.lt_of_lt_of_le hK.lt hB, hK.held⟩
  refine zU (n := 15) Tryd.func88 rfl (by kernel_rfl) (by kernel_rfl) (ZO (Zv (.int .i64 0) (ZN (zF (ZO (Zo (.agg #[.string ⟨#[111, 115]⟩, .string ⟨#[97, 114, 99, 104]⟩, .string ⟨#[97, 98, 105]⟩]) (a := ⟨0, 0, none⟩) (fun w hO => (hK.on hO.below hO.size).all) (Zv (.int .i64 0) (zK ?_))))))))
  refine z8 (zP (xT (fun L f m => ∃ (k : Nat) (j : Nat → Value), (k ≤ 3 ∧ ∀ i, i < k → yH i ≠ c) ∧ L = [] ∧ f = qT j [(0, .string (mkS c)), (5, .agg #[.string ⟨#[111, 115]⟩, .string ⟨#[97, 114, 99, 104]⟩, .string ⟨#[97, 98, 105]⟩]), (6, .int .i64 (k : Int))] ∧ m = 3 - k) (3 - 0) ⟨0, _, ⟨by omega, fun i hi => absurd hi (Nat.not_lt_zero _)⟩, rfl, ZU, rfl⟩ ?_))
  rintro L f m ⟨k, j, hrel, rfl, rfl, rfl⟩
  have hk6 := hrel.1
  refine zF (z7 ?_)
  by_cases h1 : (k : Int) < 3
  · have hk3 : k < 3 := by omega
    refine Zd (p := (k : Int) < 3) true (decide_eq_true (h1)) (ZN (zF (Zt (ZB (zF (zP (ZO (Zv (.int .i64 (k : Int)) ?_))))))))
    refine zM (.string (mkS (yH k))) (by kernel_rfl) (p3 yH hk3 rfl (by kernel_rfl) (by kernel_rfl) Tryd.underlying31 key_part (by kernel_rfl)) (Zv (.int .i64 (k : Int)) (Zv (.string (mkS (yH k))) (ZR (Zv (.string (mkS (yH k))) (Zv (.string (mkS c)) ?_)))))
    by_cases h2 : ((yH k) : List UInt8) = c
    · refine zM (.bool true) (by kernel_rfl) (zV (a := (yH k)) (b := c) rfl (by kernel_rfl) (by kernel_rfl) (decide_eq_true (h2))) ?_
      refine ZY (ZO (Zv (.int .i64 (k : Int)) (Zv (.int .i64 (k : Int)) (ZN (zG (zD (z5 ?_)))))))
      exact yE (zD (z5 (ZF (.int .i64 (k : Int)) Tryd.results88 (fun w hO => ⟨by rw [key_at hk3 hrel.2 h2], hO.below⟩))))
    exact zM (.bool false) (by kernel_rfl) (zV (a := (yH k)) (b := c) rfl (by kernel_rfl) (by kernel_rfl) (decide_eq_false (h2))) (ZX (x6 (zJ (z8 (z7 (Zu (k := .i64) (((k + 1 : Nat) : Int)) (IntWalk.i64_in _ (by omega)) (Zv (.int .i64 ((k + 1 : Nat) : Int)) (zK (zS (m' := 3 - (k + 1)) (by omega) ⟨k + 1, _, ⟨by omega, fun i hi => by rcases Nat.lt_succ_iff_lt_or_eq.1 hi with q | rfl; exact hrel.2 i q; exact h2⟩, rfl, ZU, rfl⟩)))))))))
  refine Zd (p := (k : Int) < 3) false (decide_eq_false (h1)) (ZN (zF (Zf (xN (yG (zY (zZ (z8 (zF (z7 ?_))))))))))
  exact Zv (.int .i64 (-1)) (ZN (zG (ZF (.int .i64 (-1)) Tryd.results88 (fun w hO => ⟨by rw [key_not fun i hi => hrel.2 i (by omega)], hO.below⟩))))
end
section
section
variable {M : List Nat} {P : Program} {W w : World} {E ob L0 : List Blk}
end
section
variable {M : List Nat} {P : Program} {n0 : Nat} {ops : Array Oper} {W : World} {Q : Exit → Act → World → Prop} {rest : List Oper} {o : Oper} {E ob L0 : List Blk} {f : Nat → Value}
end
section
variable {M : List Nat} {P : Program} {n : Nat} {W : World} {L : List Blk} {f : Nat → Value}
theorem yM {fn : Func} {R : Ending → World → Prop} (hres : fn.results = #[]) (hR : ∀ w, Own M W w L → R (.returned (.tuple #[])) w) : Fin M n W (bodyPost P fn R) .normal L f := ⟨fun w hO =>
  bodyPost_end (results_none hres _ _ _) rfl (hR w hO)⟩
theorem wO {fn : Func} {R : Ending → World → Prop} (hres : fn.results = #[]) (hR : ∀ w, Own M W w L → R (.returned (.tuple #[])) w) : Fin M n W (bodyPost P fn R) .ret L f := ⟨fun w hO =>
  bodyPost_ret (results_none hres _ _ _) rfl (hR w hO)⟩
end
end
section
set_option linter.unnecessarySimpa false
def xI (zs : List Int) : Array Value := (zs.flatMap zC).toArray
theorem fL (zs : List Int) : zs.flatMap zC = zs.map fun z => Value.int .i64 z := by
  induction zs with
  | nil => rfl
  | cons a l ih => rw [List.flatMap_cons, ih]; rfl
theorem gZ (zs : List Int) : (xI zs).size = zs.length := by unfold xI; rw [fL]; simp
theorem vV {zs : List Int} {k : Nat} (hk : k < zs.length) (z : Int) : xX (xI zs) k (Value.int .i64 z).cells = xI (zs.set k z) := by
  unfold xX xI
  rw [fL, fL, List.map_set, List.set_eq_take_append_cons_drop, if_pos (by rw [List.length_map]; exact hk)]
  simp [Value.cells]
theorem pB (n : Nat) : madeCells #[.int .i64 0] n = xI (List.replicate n 0) := by
  apply Array.toList_inj.1
  rw [toList_madeCells_one]
  unfold xI
  rw [fL]; simp
theorem vE {zs : List Int} {k : Nat} {z : Int} (h : zs[k]? = some z) : xQ Tryd.prog 3 (xI zs) k = some (.int .i64 z) := by
  show (xI zs)[k]? = _
  unfold xI
  rw [fL]; simp [h]
theorem int_made : ∃ i, Tryd.prog.info? 3 = some i ∧ i.zero = some (.int .i64 0) ∧ i.size = 1 ∧ i.bytes = 8 := by
  have h : (Tryd.prog.info? 3).map (fun i => (i.zero, i.size, i.bytes)) = some (some (.int .i64 0), 1, 8) := by kernel_rfl
  cases hi : Tryd.prog.info? 3 with
  | none => rw [hi] at h; cases h
  | some i =>
    rw [hi] at h
    simp only [Option.map_some, Option.some.injEq, Prod.mk.injEq] at h
    exact ⟨i, rfl, h.1, h.2.1, h.2.2⟩
theorem intA_sl {zs : List Int} {b n : Nat} (hn : zs.length = n) (h : n ≤ maxLen) : SlZ (.slice (some ⟨b, 0, none⟩) n n) zs [⟨b, xI zs, 3⟩] := by
  subst hn
  have hl : (zs.flatMap zC).length = zs.length := by rw [fL]; simp
  refine ⟨by rw [hl, Nat.mul_one], .inr ⟨b, zs.length, xI zs, rfl, rfl, Nat.le_refl _, h, by rw [gZ, Nat.mul_one], ?_⟩⟩
  unfold xI
  rw [Nat.mul_one]
  show (zs.flatMap zC).take zs.length = _
  rw [List.take_of_length_le (by rw [hl]; exact Nat.le_refl _)]
def qJ (F : List Nat) (n : Nat) : List Int := F.map (fun (k : Nat) => (k : Int)) ++ List.replicate (n - F.length) 0
theorem vS {F : List Nat} {n : Nat} (h : F.length ≤ n) : (qJ F n).length = n := by unfold qJ; simp; omega
theorem padF_set {F : List Nat} {n : Nat} (h : F.length < n) (k : Nat) : (qJ F n).set F.length (k : Int) = qJ (F ++ [k]) n := by
  unfold qJ
  obtain ⟨m, hm⟩ : ∃ m, n - F.length = m + 1 := ⟨n - F.length - 1, by omega⟩
  rw [hm, List.length_append, List.length_singleton, show n - (F.length + 1) = m by omega, List.set_append_right _ _ (by simp)]
  simp [List.replicate_succ]
theorem jH {F : List Nat} {n j k : Nat} (h : F[j]? = some k) : (qJ F n)[j]? = some (k : Int) := by
  unfold qJ
  rw [List.getElem?_append_left (by rw [List.length_map]; exact (List.getElem?_eq_some_iff.1 h).1), List.getElem?_map, h]; rfl
theorem fs_lt {st : List (Nat × Tr)} {i i0 : Nat} {F : List Nat} (h : FS st i F) (hi : ¬ i = 0) (hF : F[i - 1]? = some i0) : i0 < i := by
  obtain ⟨p, r, rfl⟩ := h.cons hi
  obtain ⟨k, F0, h1, h2, h3, h4, h5⟩ := h.top
  rw [h5] at hF
  have := Option.some.inj hF
  have := p.2.sz_pos
  omega
theorem jJ {l : List Nd} (h : (gN l).isSome = false) : qG l = false := by unfold qG; rw [h]; simp
theorem tree10_any (A : Option Addr) (cap0 : Nat) (l : List Nd) (W : World) (hv : Reads nC W W.heap.size A l) (hne : l ≠ []) (hn0 : l.length ≤ 1000) (ht : ∀ n ∈ l, n.text.length ≤ 1000000) : Calls Tryd.prog 40 #[.slice A l.length cap0] W fun e w' => e = .returned (.bool (qG l)) ∧ Below W.heap.size W w' := by
  have hlp : 0 < l.length := List.length_pos_iff.2 hne
  refine zU (n := 116) Tryd.func40 rfl (by kernel_rfl) (by kernel_rfl) (ZO (Zv (.bool false) (ZN (zF (ZO (Zv (.slice A l.length cap0) (Zv (.int .i64 (l.length : Int)) ?_)))))))
  by_cases h1 : (15 : Int) < (l.length : Int)
  · refine x8 (p := (15 : Int) < (l.length : Int)) true (by kernel_rfl) (fun _ => by kernel_rfl) (decide_eq_true (h1)) ?_
    exact ZY (ZO (Zv (.bool false) (ZN (zG (z5 (ZF (.bool false) Tryd.results40 (fun w hO => ⟨by rw [show qG l = false from by unfold qG; rw [decide_eq_false (by omega)]; rfl], hO.below⟩)))))))
  have hl15 : l.length ≤ 15 := by omega
  refine Zd (p := (15 : Int) < (l.length : Int)) false (decide_eq_false (h1)) (ZX (ZB (ZO (Zv (.slice A l.length cap0) (Zv (.int .i64 (l.length : Int)) ?_)))))
  obtain ⟨ii, e1, e2, e3, e4⟩ := int_made
  refine s_make (kl := .i64) (kc := .i64) (l := (l.length : Int)) (c := (l.length : Int)) (by kernel_rfl) rfl (by kernel_rfl) (by kernel_rfl) Tryd.underlying39 e1 e2 (by omega) (by omega) (by rw [e4]; omega) (by omega) (fun b => ?_)
  rw [show ((l.length : Nat) : Int).toNat = l.length from rfl, e3, Nat.mul_one]
  rw [show (Value.int .i64 0).cells = #[.int .i64 0] from rfl, pB]
  refine zH (L' := [⟨b, xI (List.replicate l.length 0), 3⟩]) rfl (Zv (.slice (some ⟨b, 0, none⟩) l.length l.length) (ZN (zF (ZO (Zv (.slice A l.length cap0) (Zv (.int .i64 (l.length : Int)) (Zv (.int .i64 0) (zK (z8 ?_)))))))))
  refine zP (yB (L' := [⟨b, xI (qJ [] l.length), 3⟩]) rfl (xT (fun L f m => ∃ (i : Nat) (st : List (Nat × Tr)) (F : List Nat) (j : Nat → Value), (i ≤ l.length ∧ gA 0 [] l = gA i st (l.drop i) ∧ FS st i F) ∧ L = [⟨b, xI (qJ F l.length), 3⟩] ∧ f = qT j [(0, .slice A l.length cap0), (3, .slice (some ⟨b, 0, none⟩) l.length l.length), (12, .slice A l.length cap0), (13, .int .i64 (l.length : Int)), (14, .int .i64 (i : Int))] ∧ m = l.length - i) (l.length - 0) ⟨0, [], [], _, ⟨Nat.zero_le _, rfl, rfl, rfl⟩, rfl, ZU, rfl⟩ ?_))
  rintro L f m ⟨i, st, F, j, hrel, rfl, rfl, rfl⟩
  obtain ⟨hi6, hrun, hfs⟩ := hrel; have hFl := hfs.len
  refine zF (z7 ?_)
  by_cases h2 : (i : Int) < (l.length : Int)
  · have hil : i < l.length := by omega
    obtain ⟨bp, off, hA, hlt, hcell⟩ := hv (by omega)
    obtain ⟨n, hn⟩ : ∃ n, l[i] = n := ⟨_, rfl⟩
    have hnt := hn ▸ ht l[i] (List.getElem_mem hil)
    have hdr : l.drop i = n :: l.drop (i + 1) := by rw [← hn]; exact List.drop_eq_getElem_cons hil
    have hset : ∀ k : Nat, (qJ F l.length).set i (k : Int) = qJ (F ++ [k]) l.length := fun k => by have q := padF_set (F := F) (n := l.length) (by omega) k; rw [hFl] at q; exact q
    refine Zd (p := (i : Int) < (l.length : Int)) true (decide_eq_true (h2)) (ZN (zF (Zt (ZB (zF (zP (ZO (Zv (.int .i64 (i : Int)) ?_))))))))
    refine zM (.pointer (some ⟨bp, off + i * 5, none⟩)) (by kernel_rfl) (ZA (b := bp) (off := off) (c := cap0) (n := l.length) (k := .i64) (j := (i : Int)) (e := 48) (sz := 5) hA) (Zo (ndV n) (a := ⟨bp, off + i * 5, none⟩) (fun w hO => Reads.load yX (hv.on hO.below hO.size) hA i 0 hil (by omega) _ (by rw [hn]; kernel_rfl)) (Za (.agg #[.int .i64 0, .int .i64 0, .int .i64 0, .int .i64 0, .string ⟨#[]⟩]) (fun b1 => Zv (.int .i64 (i : Int)) (Zs 0 ⟨b1, #[.int .i64 0, .int .i64 0, .int .i64 0, .int .i64 0, .string ⟨#[]⟩], 48⟩ (off := 0) (ndV n) (ZR (Zv (.pointer (some ⟨b1, 0, none⟩)) (Zl 0 ⟨b1, (ndV n).cells, 48⟩ (off := 0) (.int .i64 n.op) (zK ?_))))))))
    refine z8 (zP (zF (z7 ?_)))
    by_cases h3 : (n.op : Int) = 1
    · refine x8 (p := (n.op : Int) = 1) true (by kernel_rfl) (fun _ => by kernel_rfl) (decide_eq_true (h3)) ?_
      refine Zv (.bool true) (ZY (zF (ZO (Zv (.pointer (some ⟨b1, 3, none⟩)) (Zl 0 ⟨b1, (ndV n).cells, 48⟩ (off := 3) (.int .i64 n.key) ?_)))))
      by_cases h4 : (n.key : Int) < 0
      · refine x8 (p := (n.key : Int) < 0) true (by kernel_rfl) (fun _ => by kernel_rfl) (decide_eq_true (h4)) ?_
        refine Zv (.bool true) (Zk (Zk (Zk (Zv (.bool true) (Zv (.bool true) (Zk (Zk (Zk (Zv (.bool true) (Zv (.bool true) (Zk ?_)))))))))))
        refine Zk (Zk (Zv (.bool true) (Zv (.bool true) (Zk (Zk (Zk (Zk (Zv (.bool true) (ZN (Zt ?_))))))))))
        refine ZO (Zv (.bool false) (ZN (zG (z5 (zD (zD (z5 (yE (zD ?_)))))))))
        exact z5 (ZF (.bool false) Tryd.results40 (fun w hO => ⟨by rw [jJ (gP (by rw [hrun, hdr, xW (nG h3 (by unfold xH; simp [h3, h4]; try omega))]))], hO.below⟩))
      refine Zd (p := (n.key : Int) < 0) false (decide_eq_false (h4)) (Zv (.bool false) (Zv (.pointer (some ⟨b1, 3, none⟩)) (Zl 0 ⟨b1, (ndV n).cells, 48⟩ (off := 3) (.int .i64 n.key) ?_)))
      by_cases h5 : (3 : Int) ≤ n.key
      · refine x8 (p := (3 : Int) ≤ n.key) true (by kernel_rfl) (fun _ => by kernel_rfl) (decide_eq_true (h5)) ?_
        refine Zv (.bool true) (Zv (.bool true) (Zk (Zk (Zk (Zv (.bool true) (Zv (.bool true) (Zk (Zk (Zk (Zv (.bool true) (Zv (.bool true) ?_)))))))))))
        refine Zk (Zk (Zk (Zk (Zv (.bool true) (ZY (ZO (Zv (.bool false) (zK ?_))))))))
        exact z8 (zG (z5 (zD (zD (z5 (yE (zD (z5 (ZF (.bool false) Tryd.results40 (fun w hO => ⟨by rw [jJ (gP (by rw [hrun, hdr, xW (nG h3 (by unfold xH; simp [h3, h4, h5]; try omega))]))], hO.below⟩))))))))))
      refine Zd (p := (3 : Int) ≤ n.key) false (decide_eq_false (h5)) (Zv (.bool false) (Zv (.bool false) (Zv (.pointer (some ⟨b1, 1, none⟩)) (Zl 0 ⟨b1, (ndV n).cells, 48⟩ (off := 1) (.int .i64 n.a) ?_))))
      by_cases h6 : (n.a : Int) = 0
      · refine dE (p := (n.a : Int) = 0) true (by kernel_rfl) (fun _ => by kernel_rfl) (decide_eq_true (h6)) ?_
        refine Zv (.bool false) (Zv (.bool false) (Zv (.pointer (some ⟨b1, 2, none⟩)) (Zl 0 ⟨b1, (ndV n).cells, 48⟩ (off := 2) (.int .i64 n.b) ?_)))
        by_cases h7 : (n.b : Int) = 0
        · refine dE (p := (n.b : Int) = 0) true (by kernel_rfl) (fun _ => by kernel_rfl) (decide_eq_true (h7)) ?_
          refine Zv (.bool false) (Zv (.bool false) (Zv (.pointer (some ⟨b1, 4, none⟩)) (Zl 0 ⟨b1, (ndV n).cells, 48⟩ (off := 4) (.string (mkS n.text)) (Zc (k := 61) (args := #[.string (mkS n.text)]) (.bool (wdL n.text)) (fun w _ => mE n.text w hnt) ?_))))
          cases h8 : wdL n.text with
          | true =>
            have hlf : xH n = true := by unfold xH; simp [h1, h2, h3, h4, h5, h6, h7, h8]; omega
            obtain ⟨s9, hstp, hfs9⟩ := ck_leaf hfs hlf
            refine Zv (.bool false) (Zv (.bool false) (ZX (ZB (z7 (Zv (.slice (some ⟨b, 0, none⟩) l.length l.length) (Zv (.int .i64 (i : Int)) (Zv (.int .i64 (i : Int)) (zM (.pointer (some ⟨b, i, none⟩)) (by kernel_rfl) (ZA (b := b) (off := 0) (c := l.length) (n := l.length) (k := .i64) (j := (i : Int)) (e := 3) (sz := 1) rfl) ?_))))))))
            exact kV 1 ⟨b, xI (qJ F l.length), 3⟩ (off := i) (.int .i64 (i : Int)) 1 (by kernel_rfl) rfl rfl (by kernel_rfl) (by kernel_rfl) (by kernel_rfl) (by kernel_rfl) (by kernel_rfl) (by show _ + 1 ≤ (xI _).size; rw [gZ, vS (by omega)]; omega) (by kernel_rfl) (zH (L' := [⟨b1, (ndV n).cells, 48⟩, ⟨b, xI (qJ (F ++ [i]) l.length), 3⟩]) (by rw [← hset i, ← vV (by rw [vS (by omega)]; omega)]; rfl) (zK (zJ (zJ (z8 (z7 (Zu (k := .i64) (((i + 1 : Nat) : Int)) (IntWalk.i64_in _ (by omega)) (Zv (.int .i64 ((i + 1 : Nat) : Int)) (zK (xF (L' := [⟨b, xI (qJ (F ++ [i]) l.length), 3⟩]) (fun w hO => hO.sublist (by simp)) (zS (m' := l.length - (i + 1)) (by omega) ⟨i + 1, s9, (F ++ [i]), _, ⟨by omega, by rw [hrun, hdr, vD hstp], hfs9⟩, rfl, ZU, rfl⟩)))))))))))
          | false =>
            refine Zv (.bool true) (Zv (.bool true) (ZY (ZO (Zv (.bool false) (ZN (zG (z5 ?_)))))))
            exact zD (zD (z5 (yE (zD (z5 (ZF (.bool false) Tryd.results40 (fun w hO => ⟨by rw [jJ (gP (by rw [hrun, hdr, xW (nG h3 (by unfold xH; simp [h3, h4, h5, h6, h7, h8]; try omega))]))], hO.below⟩)))))))
        refine Zn (p := (n.b : Int) = 0) false (decide_eq_false (h7)) (Zv (.bool true) (Zv (.bool true) (Zk (Zk (Zk (Zk (Zv (.bool true) (ZY (zF ?_)))))))))
        refine z7 (Zv (.bool false) (ZN (zG (z5 (zD (zD (z5 (yE (zD (z5 ?_))))))))))
        exact ZF (.bool false) Tryd.results40 (fun w hO => ⟨by rw [jJ (gP (by rw [hrun, hdr, xW (nG h3 (by unfold xH; simp [h3, h4, h5, h6, h7]; try omega))]))], hO.below⟩)
      refine Zn (p := (n.a : Int) = 0) false (decide_eq_false (h6)) (Zv (.bool true) (Zv (.bool true) (Zk (Zk (Zk (Zv (.bool true) (Zv (.bool true) (Zk (Zk (Zk (Zk ?_)))))))))))
      refine Zv (.bool true) (ZY (ZO (Zv (.bool false) (ZN (zG (z5 (zD ?_)))))))
      exact zD (z5 (yE (zD (z5 (ZF (.bool false) Tryd.results40 (fun w hO => ⟨by rw [jJ (gP (by rw [hrun, hdr, xW (nG h3 (by unfold xH; simp [h3, h4, h5, h6]; try omega))]))], hO.below⟩))))))
    refine Zd (p := (n.op : Int) = 1) false (decide_eq_false (h3)) (Zv (.bool false) (ZX (zF (z7 ?_))))
    by_cases h9 : (n.op : Int) = 2
    · refine x8 (p := (n.op : Int) = 2) true (by kernel_rfl) (fun _ => by kernel_rfl) (decide_eq_true (h9)) ?_
      refine Zv (.bool true) (ZY (zF (ZO (Zv (.int .i64 (i : Int)) ?_))))
      by_cases h10 : (i : Int) = 0
      · have hi0 : i = 0 := by omega
        refine Zd (p := (i : Int) = 0) true (decide_eq_true (h10)) (Zv (.bool true) (Zk (Zk (Zk (Zk (Zk (Zk (Zk (Zv (.bool true) (zK (z8 ?_)))))))))))
        refine Zt (ZO (Zv (.bool false) (ZN (zG (z5 (zD (zD (z5 (yE ?_)))))))))
        exact zD (z5 (ZF (.bool false) Tryd.results40 (fun w hO => ⟨by rw [jJ (gP (by rw [hrun, hdr, xW (ck_not0 hfs h9 hi0)]))], hO.below⟩)))
      have hi0 : ¬ i = 0 := by omega
      obtain ⟨i0, hF0⟩ : ∃ i0, F[i - 1]? = some i0 := ⟨_, List.getElem?_eq_getElem (by omega)⟩
      have hi0l := fs_lt hfs hi0 hF0
      refine Zd (p := (i : Int) = 0) false (decide_eq_false (h10)) (Zv (.bool false) (Zl 0 ⟨b1, (ndV n).cells, 48⟩ (off := 0) (ndV n) (Zv (.pointer (some ⟨b1, 0, none⟩)) (Zl 0 ⟨b1, (ndV n).cells, 48⟩ (off := 0) (.int .i64 n.op) (Zv (.int .i64 (i : Int)) (Zu (k := .i64) ((i : Int) - 1) (IntWalk.i64_in _ (by omega)) (Zv (ndV (⟨n.op, (i : Int) - 1, 0, 0, []⟩ : Nd)) ?_)))))))
      by_cases h11 : n = (⟨n.op, (i : Int) - 1, 0, 0, []⟩ : Nd)
      · have hna : n.a = (i : Int) - 1 := congrArg Nd.a h11
        obtain ⟨s9, hstp, hfs9⟩ := ck_not hfs h9 hi0 hF0 h11
        refine zM (.bool false) (by kernel_rfl) (vU (u := n) (v := (⟨n.op, (i : Int) - 1, 0, 0, []⟩ : Nd)) rfl (by kernel_rfl) (by kernel_rfl) (decide_eq_true (h11))) (Zv (.bool false) (ZX (ZB (z7 (Zv (.slice (some ⟨b, 0, none⟩) l.length l.length) (Zv (.int .i64 (i : Int)) (Zv (.slice (some ⟨b, 0, none⟩) l.length l.length) (Zv (.pointer (some ⟨b1, 1, none⟩)) ?_))))))))
        refine Zl 0 ⟨b1, (ndV n).cells, 48⟩ (off := 1) (.int .i64 n.a) (zM (.pointer (some ⟨b, (i - 1), none⟩)) (by kernel_rfl) (ZA (b := b) (off := 0) (c := l.length) (n := l.length) (k := .i64) (j := n.a) (e := 3) (sz := 1) rfl) (qH 1 ⟨b, xI (qJ F l.length), 3⟩ (off := (i - 1)) (.int .i64 (i0 : Int)) (by kernel_rfl) rfl (by kernel_rfl) (by kernel_rfl) (vE (jH hF0)) (zM (.pointer (some ⟨b, i, none⟩)) (by kernel_rfl) (ZA (b := b) (off := 0) (c := l.length) (n := l.length) (k := .i64) (j := (i : Int)) (e := 3) (sz := 1) rfl) (kV 1 ⟨b, xI (qJ F l.length), 3⟩ (off := i) (.int .i64 (i0 : Int)) 1 (by kernel_rfl) rfl rfl (by kernel_rfl) (by kernel_rfl) (by kernel_rfl) (by kernel_rfl) (by kernel_rfl) (by show _ + 1 ≤ (xI _).size; rw [gZ, vS (by omega)]; omega) (by kernel_rfl) (zH (L' := [⟨b1, (ndV n).cells, 48⟩, ⟨b, xI (qJ (F ++ [i0]) l.length), 3⟩]) (by rw [← hset i0, ← vV (by rw [vS (by omega)]; omega)]; rfl) (zK (zJ (zJ (z8 (z7 (Zu (k := .i64) (((i + 1 : Nat) : Int)) (IntWalk.i64_in _ (by omega)) ?_)))))))))))
        exact Zv (.int .i64 ((i + 1 : Nat) : Int)) (zK (xF (L' := [⟨b, xI (qJ (F ++ [i0]) l.length), 3⟩]) (fun w hO => hO.sublist (by simp)) (zS (m' := l.length - (i + 1)) (by omega) ⟨i + 1, s9, (F ++ [i0]), _, ⟨by omega, by rw [hrun, hdr, vD hstp], hfs9⟩, rfl, ZU, rfl⟩)))
      refine zM (.bool true) (by kernel_rfl) (vU (u := n) (v := (⟨n.op, (i : Int) - 1, 0, 0, []⟩ : Nd)) rfl (by kernel_rfl) (by kernel_rfl) (decide_eq_false (h11))) (Zv (.bool true) (ZY (ZO (Zv (.bool false) (ZN (zG (z5 ?_)))))))
      exact zD (zD (z5 (yE (zD (z5 (ZF (.bool false) Tryd.results40 (fun w hO => ⟨by rw [jJ (gP (by rw [hrun, hdr, xW (ck_notno hfs h9 hi0 h11)]))], hO.below⟩)))))))
    refine Zd (p := (n.op : Int) = 2) false (decide_eq_false (h9)) (Zv (.bool false) (ZX (zF (zF (z7 ?_)))))
    by_cases h12 : (n.op : Int) = 3
    · refine x8 (p := (n.op : Int) = 3) true (by kernel_rfl) (fun _ => by kernel_rfl) (decide_eq_true (h12)) ?_
      refine Zv (.bool true) (ZY (ZB (Zt (zF (zF (xU (by kernel_rfl) (by kernel_rfl) (Zw (.int .i64 (i : Int)) ?_)))))))
      by_cases h13 : (i : Int) = 0
      · have hi0 : i = 0 := by omega
        refine Ze (p := (i : Int) = 0) true (decide_eq_true (h13)) (Zw (.bool true) (Zj (Zj (Zj (Zj (Zj (Zj (Zw (.bool true) (Zw (.bool true) (Zj (Zj ?_)))))))))))
        refine Zj (Zj (Zj (Zj (Zj (Zj (Zj (Zj (Zj (Zj (Zj (Zw (.bool true) ?_)))))))))))
        refine yU (z8 (Zt (ZO (Zv (.bool false) (ZN (zG (z5 (zD (zD ?_)))))))))
        exact z5 (yE (zD (z5 (ZF (.bool false) Tryd.results40 (fun w hO => ⟨by rw [jJ (gP (by rw [hrun, hdr, xW (ck_bin0 hfs (.inl h12) hi0)]))], hO.below⟩)))))
      have hi0 : ¬ i = 0 := by omega
      obtain ⟨i0, hF0⟩ : ∃ i0, F[i - 1]? = some i0 := ⟨_, List.getElem?_eq_getElem (by omega)⟩
      have hi0l := fs_lt hfs hi0 hF0
      refine Ze (p := (i : Int) = 0) false (decide_eq_false (h13)) (Zw (.bool false) (Zw (.slice (some ⟨b, 0, none⟩) l.length l.length) (Zw (.int .i64 (i : Int)) (j7 (k := .i64) ((i : Int) - 1) (by kernel_rfl) (fun _ => by kernel_rfl) (IntWalk.i64_in _ (by omega)) (yQ (.pointer (some ⟨b, (i - 1), none⟩)) (by kernel_rfl) (ZA (b := b) (off := 0) (c := l.length) (n := l.length) (k := .i64) (j := (i : Int) - 1) (e := 3) (sz := 1) rfl) (j8 1 ⟨b, xI (qJ F l.length), 3⟩ (off := (i - 1)) (.int .i64 (i0 : Int)) (by kernel_rfl) rfl (by kernel_rfl) (by kernel_rfl) (vE (jH hF0)) ?_))))))
      by_cases h14 : (i0 : Int) = 0
      · have hz0 : i0 = 0 := by omega
        refine Ze (p := (i0 : Int) = 0) true (decide_eq_true (h14)) (Zw (.bool true) (Zw (.bool true) (Zj (Zj (Zj (Zj (Zj (Zj (Zj (Zj (Zj ?_)))))))))))
        refine Zj (Zj (Zj (Zj (Zw (.bool true) (yU (z8 (Zt (ZO (Zv (.bool false) (zK ?_))))))))))
        exact z8 (zG (z5 (zD (zD (z5 (yE (zD (z5 (ZF (.bool false) Tryd.results40 (fun w hO => ⟨by rw [jJ (gP (by rw [hrun, hdr, xW (ck_bin1 hfs (.inl h12) hi0 hF0 hz0)]))], hO.below⟩))))))))))
      have hz0 : ¬ i0 = 0 := by omega
      refine Ze (p := (i0 : Int) = 0) false (decide_eq_false (h14)) (Zw (.bool false) (Zw (.bool false) (Zm 0 ⟨b1, (ndV n).cells, 48⟩ (off := 0) (ndV n) (Zw (.pointer (some ⟨b1, 0, none⟩)) (Zm 0 ⟨b1, (ndV n).cells, 48⟩ (off := 0) (.int .i64 n.op) (Zw (.slice (some ⟨b, 0, none⟩) l.length l.length) (Zw (.int .i64 (i : Int)) (j7 (k := .i64) ((i : Int) - 1) (by kernel_rfl) (fun _ => by kernel_rfl) (IntWalk.i64_in _ (by omega)) (yQ (.pointer (some ⟨b, (i - 1), none⟩)) (by kernel_rfl) (ZA (b := b) (off := 0) (c := l.length) (n := l.length) (k := .i64) (j := (i : Int) - 1) (e := 3) (sz := 1) rfl) (j8 1 ⟨b, xI (qJ F l.length), 3⟩ (off := (i - 1)) (.int .i64 (i0 : Int)) (by kernel_rfl) rfl (by kernel_rfl) (by kernel_rfl) (vE (jH hF0)) (j7 (k := .i64) ((i0 : Int) - 1) (by kernel_rfl) (fun _ => by kernel_rfl) (IntWalk.i64_in _ (by omega)) ?_)))))))))))
      refine Zw (.int .i64 (i : Int)) (j7 (k := .i64) ((i : Int) - 1) (by kernel_rfl) (fun _ => by kernel_rfl) (IntWalk.i64_in _ (by omega)) (Zw (ndV (⟨n.op, (i0 : Int) - 1, (i : Int) - 1, 0, []⟩ : Nd)) ?_))
      by_cases h15 : n = (⟨n.op, (i0 : Int) - 1, (i : Int) - 1, 0, []⟩ : Nd)
      · have hna : n.a = (i0 : Int) - 1 := congrArg Nd.a h15
        obtain ⟨s9, j9, hstp, hj9, hfs9⟩ := ck_bin hfs (.inl h12) hi0 hF0 hz0 h15
        refine yQ (.bool false) (by kernel_rfl) (vU (u := n) (v := (⟨n.op, (i0 : Int) - 1, (i : Int) - 1, 0, []⟩ : Nd)) rfl (by kernel_rfl) (by kernel_rfl) (decide_eq_true (h15))) (Zw (.bool false) (yU (z8 (Zf (ZB (z7 (Zv (.slice (some ⟨b, 0, none⟩) l.length l.length) (Zv (.int .i64 (i : Int)) (Zv (.slice (some ⟨b, 0, none⟩) l.length l.length) (Zv (.pointer (some ⟨b1, 1, none⟩)) ?_))))))))))
        refine Zl 0 ⟨b1, (ndV n).cells, 48⟩ (off := 1) (.int .i64 n.a) (zM (.pointer (some ⟨b, (i0 - 1), none⟩)) (by kernel_rfl) (ZA (b := b) (off := 0) (c := l.length) (n := l.length) (k := .i64) (j := n.a) (e := 3) (sz := 1) rfl) (qH 1 ⟨b, xI (qJ F l.length), 3⟩ (off := (i0 - 1)) (.int .i64 (j9 : Int)) (by kernel_rfl) rfl (by kernel_rfl) (by kernel_rfl) (vE (jH hj9)) (zM (.pointer (some ⟨b, i, none⟩)) (by kernel_rfl) (ZA (b := b) (off := 0) (c := l.length) (n := l.length) (k := .i64) (j := (i : Int)) (e := 3) (sz := 1) rfl) (kV 1 ⟨b, xI (qJ F l.length), 3⟩ (off := i) (.int .i64 (j9 : Int)) 1 (by kernel_rfl) rfl rfl (by kernel_rfl) (by kernel_rfl) (by kernel_rfl) (by kernel_rfl) (by kernel_rfl) (by show _ + 1 ≤ (xI _).size; rw [gZ, vS (by omega)]; omega) (by kernel_rfl) (zH (L' := [⟨b1, (ndV n).cells, 48⟩, ⟨b, xI (qJ (F ++ [j9]) l.length), 3⟩]) (by rw [← hset j9, ← vV (by rw [vS (by omega)]; omega)]; rfl) (zK (zJ (zJ (z8 (z7 (Zu (k := .i64) (((i + 1 : Nat) : Int)) (IntWalk.i64_in _ (by omega)) ?_)))))))))))
        exact Zv (.int .i64 ((i + 1 : Nat) : Int)) (zK (xF (L' := [⟨b, xI (qJ (F ++ [j9]) l.length), 3⟩]) (fun w hO => hO.sublist (by simp)) (zS (m' := l.length - (i + 1)) (by omega) ⟨i + 1, s9, (F ++ [j9]), _, ⟨by omega, by rw [hrun, hdr, vD hstp], hfs9⟩, rfl, ZU, rfl⟩)))
      refine yQ (.bool true) (by kernel_rfl) (vU (u := n) (v := (⟨n.op, (i0 : Int) - 1, (i : Int) - 1, 0, []⟩ : Nd)) rfl (by kernel_rfl) (by kernel_rfl) (decide_eq_false (h15))) (Zw (.bool true) (yU (z8 (Zt (ZO (Zv (.bool false) (ZN (zG (z5 ?_)))))))))
      exact zD (zD (z5 (yE (zD (z5 (ZF (.bool false) Tryd.results40 (fun w hO => ⟨by rw [jJ (gP (by rw [hrun, hdr, xW (ck_binno hfs (.inl h12) hi0 hF0 hz0 h15)]))], hO.below⟩)))))))
    refine Zd (p := (n.op : Int) = 3) false (decide_eq_false (h12)) (Zv (.bool false) (ZX (z7 ?_)))
    by_cases h16 : (n.op : Int) = 4
    · refine x8 (p := (n.op : Int) = 4) true (by kernel_rfl) (fun _ => by kernel_rfl) (decide_eq_true (h16)) ?_
      refine Zv (.bool true) (ZY (zF (zF (xU (by kernel_rfl) (by kernel_rfl) (Zw (.int .i64 (i : Int)) ?_)))))
      by_cases h17 : (i : Int) = 0
      · have hi0 : i = 0 := by omega
        refine Ze (p := (i : Int) = 0) true (decide_eq_true (h17)) (Zw (.bool true) (Zj (Zj (Zj (Zj (Zj (Zj (Zw (.bool true) (Zw (.bool true) (Zj (Zj ?_)))))))))))
        refine Zj (Zj (Zj (Zj (Zj (Zj (Zj (Zj (Zj (Zj (Zj (Zw (.bool true) ?_)))))))))))
        refine yU (z8 (Zt (ZO (Zv (.bool false) (ZN (zG (z5 (zD (zD ?_)))))))))
        exact z5 (yE (zD (z5 (ZF (.bool false) Tryd.results40 (fun w hO => ⟨by rw [jJ (gP (by rw [hrun, hdr, xW (ck_bin0 hfs (.inr h16) hi0)]))], hO.below⟩)))))
      have hi0 : ¬ i = 0 := by omega
      obtain ⟨i0, hF0⟩ : ∃ i0, F[i - 1]? = some i0 := ⟨_, List.getElem?_eq_getElem (by omega)⟩
      have hi0l := fs_lt hfs hi0 hF0
      refine Ze (p := (i : Int) = 0) false (decide_eq_false (h17)) (Zw (.bool false) (Zw (.slice (some ⟨b, 0, none⟩) l.length l.length) (Zw (.int .i64 (i : Int)) (j7 (k := .i64) ((i : Int) - 1) (by kernel_rfl) (fun _ => by kernel_rfl) (IntWalk.i64_in _ (by omega)) (yQ (.pointer (some ⟨b, (i - 1), none⟩)) (by kernel_rfl) (ZA (b := b) (off := 0) (c := l.length) (n := l.length) (k := .i64) (j := (i : Int) - 1) (e := 3) (sz := 1) rfl) (j8 1 ⟨b, xI (qJ F l.length), 3⟩ (off := (i - 1)) (.int .i64 (i0 : Int)) (by kernel_rfl) rfl (by kernel_rfl) (by kernel_rfl) (vE (jH hF0)) ?_))))))
      by_cases h18 : (i0 : Int) = 0
      · have hz0 : i0 = 0 := by omega
        refine Ze (p := (i0 : Int) = 0) true (decide_eq_true (h18)) (Zw (.bool true) (Zw (.bool true) (Zj (Zj (Zj (Zj (Zj (Zj (Zj (Zj (Zj ?_)))))))))))
        refine Zj (Zj (Zj (Zj (Zw (.bool true) (yU (z8 (Zt (ZO (Zv (.bool false) (zK ?_))))))))))
        exact z8 (zG (z5 (zD (zD (z5 (yE (zD (z5 (ZF (.bool false) Tryd.results40 (fun w hO => ⟨by rw [jJ (gP (by rw [hrun, hdr, xW (ck_bin1 hfs (.inr h16) hi0 hF0 hz0)]))], hO.below⟩))))))))))
      have hz0 : ¬ i0 = 0 := by omega
      refine Ze (p := (i0 : Int) = 0) false (decide_eq_false (h18)) (Zw (.bool false) (Zw (.bool false) (Zm 0 ⟨b1, (ndV n).cells, 48⟩ (off := 0) (ndV n) (Zw (.pointer (some ⟨b1, 0, none⟩)) (Zm 0 ⟨b1, (ndV n).cells, 48⟩ (off := 0) (.int .i64 n.op) (Zw (.slice (some ⟨b, 0, none⟩) l.length l.length) (Zw (.int .i64 (i : Int)) (j7 (k := .i64) ((i : Int) - 1) (by kernel_rfl) (fun _ => by kernel_rfl) (IntWalk.i64_in _ (by omega)) (yQ (.pointer (some ⟨b, (i - 1), none⟩)) (by kernel_rfl) (ZA (b := b) (off := 0) (c := l.length) (n := l.length) (k := .i64) (j := (i : Int) - 1) (e := 3) (sz := 1) rfl) (j8 1 ⟨b, xI (qJ F l.length), 3⟩ (off := (i - 1)) (.int .i64 (i0 : Int)) (by kernel_rfl) rfl (by kernel_rfl) (by kernel_rfl) (vE (jH hF0)) (j7 (k := .i64) ((i0 : Int) - 1) (by kernel_rfl) (fun _ => by kernel_rfl) (IntWalk.i64_in _ (by omega)) ?_)))))))))))
      refine Zw (.int .i64 (i : Int)) (j7 (k := .i64) ((i : Int) - 1) (by kernel_rfl) (fun _ => by kernel_rfl) (IntWalk.i64_in _ (by omega)) (Zw (ndV (⟨n.op, (i0 : Int) - 1, (i : Int) - 1, 0, []⟩ : Nd)) ?_))
      by_cases h19 : n = (⟨n.op, (i0 : Int) - 1, (i : Int) - 1, 0, []⟩ : Nd)
      · have hna : n.a = (i0 : Int) - 1 := congrArg Nd.a h19
        obtain ⟨s9, j9, hstp, hj9, hfs9⟩ := ck_bin hfs (.inr h16) hi0 hF0 hz0 h19
        refine yQ (.bool false) (by kernel_rfl) (vU (u := n) (v := (⟨n.op, (i0 : Int) - 1, (i : Int) - 1, 0, []⟩ : Nd)) rfl (by kernel_rfl) (by kernel_rfl) (decide_eq_true (h19))) (Zw (.bool false) (yU (z8 (Zf (ZB (z7 (Zv (.slice (some ⟨b, 0, none⟩) l.length l.length) (Zv (.int .i64 (i : Int)) (Zv (.slice (some ⟨b, 0, none⟩) l.length l.length) (Zv (.pointer (some ⟨b1, 1, none⟩)) ?_))))))))))
        refine Zl 0 ⟨b1, (ndV n).cells, 48⟩ (off := 1) (.int .i64 n.a) (zM (.pointer (some ⟨b, (i0 - 1), none⟩)) (by kernel_rfl) (ZA (b := b) (off := 0) (c := l.length) (n := l.length) (k := .i64) (j := n.a) (e := 3) (sz := 1) rfl) (qH 1 ⟨b, xI (qJ F l.length), 3⟩ (off := (i0 - 1)) (.int .i64 (j9 : Int)) (by kernel_rfl) rfl (by kernel_rfl) (by kernel_rfl) (vE (jH hj9)) (zM (.pointer (some ⟨b, i, none⟩)) (by kernel_rfl) (ZA (b := b) (off := 0) (c := l.length) (n := l.length) (k := .i64) (j := (i : Int)) (e := 3) (sz := 1) rfl) (kV 1 ⟨b, xI (qJ F l.length), 3⟩ (off := i) (.int .i64 (j9 : Int)) 1 (by kernel_rfl) rfl rfl (by kernel_rfl) (by kernel_rfl) (by kernel_rfl) (by kernel_rfl) (by kernel_rfl) (by show _ + 1 ≤ (xI _).size; rw [gZ, vS (by omega)]; omega) (by kernel_rfl) (zH (L' := [⟨b1, (ndV n).cells, 48⟩, ⟨b, xI (qJ (F ++ [j9]) l.length), 3⟩]) (by rw [← hset j9, ← vV (by rw [vS (by omega)]; omega)]; rfl) (zK (zJ (zJ (z8 (z7 (Zu (k := .i64) (((i + 1 : Nat) : Int)) (IntWalk.i64_in _ (by omega)) ?_)))))))))))
        exact Zv (.int .i64 ((i + 1 : Nat) : Int)) (zK (xF (L' := [⟨b, xI (qJ (F ++ [j9]) l.length), 3⟩]) (fun w hO => hO.sublist (by simp)) (zS (m' := l.length - (i + 1)) (by omega) ⟨i + 1, s9, (F ++ [j9]), _, ⟨by omega, by rw [hrun, hdr, vD hstp], hfs9⟩, rfl, ZU, rfl⟩)))
      refine yQ (.bool true) (by kernel_rfl) (vU (u := n) (v := (⟨n.op, (i0 : Int) - 1, (i : Int) - 1, 0, []⟩ : Nd)) rfl (by kernel_rfl) (by kernel_rfl) (decide_eq_false (h19))) (Zw (.bool true) (yU (z8 (Zt (ZO (Zv (.bool false) (ZN (zG (z5 ?_)))))))))
      exact zD (zD (z5 (yE (zD (z5 (ZF (.bool false) Tryd.results40 (fun w hO => ⟨by rw [jJ (gP (by rw [hrun, hdr, xW (ck_binno hfs (.inr h16) hi0 hF0 hz0 h19)]))], hO.below⟩)))))))
    refine Zd (p := (n.op : Int) = 4) false (decide_eq_false (h16)) (Zv (.bool false) (ZX (ZO (Zv (.bool false) (ZN (zG (zD ?_)))))))
    exact zD (z5 (yE (zD (z5 (ZF (.bool false) Tryd.results40 (fun w hO => ⟨by rw [jJ (gP (by rw [hrun, hdr, xW (ck_else h3 h9 h12 h16)]))], hO.below⟩))))))
  have hil : i = l.length := by omega
  rw [List.drop_of_length_le (by omega), hil] at hrun
  rw [hil] at hfs
  obtain ⟨i0, hF0⟩ : ∃ i0, F[l.length - 1]? = some i0 := ⟨_, List.getElem?_eq_getElem (by omega)⟩
  have hend := ck_end hfs hrun hne hF0
  refine Zd (p := (i : Int) < (l.length : Int)) false (decide_eq_false (h2)) (ZN (zF (Zf (xN (yG (zY (zZ (z8 (zF (z7 ?_))))))))))
  refine Zv (.slice (some ⟨b, 0, none⟩) l.length l.length) (Zv (.slice A l.length cap0) (Zv (.int .i64 (l.length : Int)) (Zu (k := .i64) ((l.length : Int) - 1) (IntWalk.i64_in _ (by omega)) (zM (.pointer (some ⟨b, (l.length - 1), none⟩)) (by kernel_rfl) (ZA (b := b) (off := 0) (c := l.length) (n := l.length) (k := .i64) (j := (l.length : Int) - 1) (e := 3) (sz := 1) rfl) (qH 0 ⟨b, xI (qJ F l.length), 3⟩ (off := (l.length - 1)) (.int .i64 (i0 : Int)) (by kernel_rfl) rfl (by kernel_rfl) (by kernel_rfl) (vE (jH hF0)) ?_)))))
  by_cases h20 : (i0 : Int) = 0
  · have hz0 : i0 = 0 := by omega
    exact Zd (p := (i0 : Int) = 0) true (decide_eq_true (h20)) (Zv (.bool true) (ZN (zG (ZF (.bool true) Tryd.results40 (fun w hO => ⟨by rw [show qG l = true from by unfold qG; rw [hend, decide_eq_true hl15]; simp; omega], hO.below⟩)))))
  have hz0 : ¬ i0 = 0 := by omega
  exact Zd (p := (i0 : Int) = 0) false (decide_eq_false (h20)) (Zv (.bool false) (ZN (zG (ZF (.bool false) Tryd.results40 (fun w hO => ⟨by rw [show qG l = false from by unfold qG; rw [hend, decide_eq_true hl15]; simp; omega], hO.below⟩)))))
end
end Go.Proofs.YthanpjfmlipdnaaDoor
