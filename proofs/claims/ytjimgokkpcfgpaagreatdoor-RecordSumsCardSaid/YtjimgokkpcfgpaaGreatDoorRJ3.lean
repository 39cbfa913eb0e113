/-
 What the statement's proof leans on: the ways of walking, plain mathematics, and what the program's functions return; each theorem says on what conditions.
-/
import Derived.Lib.SplitLaws
import Derived.Lib.TrimByte
import Derived.Lib.Join
import Derived.Shelf.Strings.SplitCore
import Derived.LoopN
import Derived.Lib.AppendStr
import Derived.Deep.RegionHeld3
import Derived.Outline
import Derived.WalkKit
import Derived.Lib.Hide
import Derived.Test.YtjimgokkpcfgpaaGreatDoorRJ2
set_option maxRecDepth 1000000
set_option maxHeartbeats 8000000
set_option linter.unusedVariables false
set_option linter.unusedSimpArgs false
set_option linter.unnecessarySimpa false
namespace Go.Proofs.YtjimgokkpcfgpaaGreatDoor
open Go.RowKit

section
def highC (v : Ver) : Nat → Cu
 | 0 => if fX v 0 then ⟨0, bumpV v 0, false⟩ else bV 1
 | k + 1 => if fX v ((k + 1 : Nat) : Int) then ⟨0, bumpV v ((k + 1 : Nat) : Int), false⟩ else highC v k
def turnsK (c : Co) : Nat := if 0 < c.v.maj ∨ c.parts = 1 then 0 else if 0 < c.v.min ∨ c.parts = 2 then 1 else 2
def Co.low (c : Co) : Cu := ⟨0, jW c.v, false⟩
def Co.aft (c : Co) : Cu := if c.parts < 3 ∧ 0 < c.parts then highC c.v (c.parts - 1).toNat else ⟨0, jW c.v, true⟩
def Co.span (c : Co) : Cu × Cu :=
 if c.op = 1 ∨ c.op = 2 then (c.low, c.aft) else if c.op = 3 then (bV (-1), c.low) else if c.op = 4 then (bV (-1), c.aft) else if c.op = 5 then (c.aft, bV 1) else if c.op = 6 then (c.low, bV 1)
 else if c.op = 7 then (c.low, highC c.v (turnsK c)) else if c.op = 8 then (c.low, highC c.v (min (c.parts - 1) 1).toNat) else if c.parts = 0 then (bV (-1), bV 1) else (c.low, highC c.v (c.parts - 1).toNat)
def oneRow (lo hi : Cu) : List Sp := addL [] lo hi
def Co.region (c : Co) : List Sp := if c.may then (if c.op = 2 then notL (oneRow c.span.1 c.span.2) else oneRow c.span.1 c.span.2) else []
def Co.zone (c : Co) : List Sp := if c.may && !decide (c.v.pre = []) then [⟨⟨0, { c.v with pre := [48], build := [] }, false⟩, ⟨0, { c.v with pre := [], build := [] }, false⟩⟩] else []
def upN (v : Ver) (k : Nat) : Int := if k = 0 then (v.maj + 1) * 100000000 else if k = 1 then v.maj * 100000000 + (v.min + 1) * 10000 else v.code + 1
def ordB (op n : Int) : Bool := if op = 1 then decide (n = 0) else if op = 2 then decide (¬ n = 0) else if op = 3 then decide (n < 0) else if op = 4 then decide (n ≤ 0) else if op = 5 then decide (0 < n) else decide (0 ≤ n)
end
section
def fF (c : Co) (v : Ver) (p : Int) : Bool := (decide (p < 1) || decide (v.maj = c.v.maj)) && (decide (p < 2) || decide (v.min = c.v.min)) && (decide (p < 3) || decide (v.pat = c.v.pat))
def overB (c : Co) (v : Ver) : Bool := if ¬ v.maj = c.v.maj ∨ c.parts = 1 then decide (c.v.maj < v.maj) else if ¬ v.min = c.v.min ∨ c.parts = 2 then decide (c.v.min < v.min) else decide (c.v.pat < v.pat)
def saysN (c : Co) : Int := if 0 < c.v.maj ∨ c.parts = 1 then 1 else if 0 < c.v.min ∨ c.parts = 2 then 2 else 3
def saysB (c : Co) (v : Ver) : Bool :=
 if c.op = 1 ∨ c.op = 9 then fF c v c.parts else if c.op = 2 then !fF c v c.parts else if c.op = 3 then !fF c v c.parts && !overB c v else if c.op = 4 then fF c v c.parts || !overB c v
 else if c.op = 5 then overB c v else if c.op = 6 then fF c v c.parts || overB c v else if c.op = 8 then fF c v (min c.parts 2) && (fF c v c.parts || overB c v)
 else fF c v (saysN c) && (fF c v c.parts || overB c v)
def truncN (v : Ver) (q : Nat) : Int := if q = 1 then v.maj * 100000000 else if q = 2 then v.maj * 100000000 + v.min * 10000 else v.code
end
section
def leastP (v : Ver) : Ver := { v with pre := [48], build := [] }
def bareV (v : Ver) : Ver := { v with pre := [], build := [] }
def withO (c : Co) (o : Int) : Co := { c with op := o }
end
section
def flatC : List Sp → List Cu
 | [] => []
 | s :: l => s.lo :: s.hi :: flatC l
def altRel (a : List Co) : List Sp := a.foldl (fun l c => andL l c.region) wholeL
def altZone (a : List Co) : List Sp := a.foldl (fun l c => orL l c.zone) []
def altSet (a : List Co) : St := ⟨makeRel (altRel a), andL (altRel a) (altZone a)⟩
def orAll (r : List (List Co)) : St := r.foldl (fun s a => orT s (altSet a)) noneT
def rgSet (r : List (List Co)) : St := if rgMay r then orAll r else noneT
end
section
theorem altsL_index : ∀ (s acc : List UInt8), kW acc s = if Lib.index s [124, 124] = -1 then [acc ++ s] else (acc ++ s.take (Lib.index s [124, 124]).toNat) :: kW [] (s.drop ((Lib.index s [124, 124]).toNat + 2))
 | [], acc => by simp [kW, Lib.index]
 | [c], acc => by simp [kW, Lib.index, List.isPrefixOf]
 | c :: d :: r, acc => by
  by_cases h : c = 124 ∧ d = 124
  ·obtain ⟨rfl, rfl⟩ := h
   have e : Lib.index (124 :: 124 :: r) [124, 124] = 0 := by simp [Lib.index, List.isPrefixOf]
   rw [e, kW, if_pos ⟨rfl, rfl⟩, if_neg (by decide)]; simp
  ·have hp : List.isPrefixOf ([124, 124] : List UInt8) (c :: d :: r) = false := by
    rw [List.isPrefixOf, List.isPrefixOf, List.isPrefixOf]
    by_cases hc : c = 124
    ·have hd : ¬ d = 124 := fun q => h ⟨hc, q⟩
     have : ((124 : UInt8) == d) = false := beq_eq_false_iff_ne.2 (Ne.symm hd)
     simp [this]
    ·have : ((124 : UInt8) == c) = false := beq_eq_false_iff_ne.2 (Ne.symm hc)
     simp [this]
   have ge := Lib.index_ge (d :: r) [124, 124]
   rw [kW, if_neg h, altsL_index (d :: r) (acc ++ [c])]
   have e : Lib.index (c :: d :: r) [124, 124] = if Lib.index (d :: r) [124, 124] = -1 then -1 else Lib.index (d :: r) [124, 124] + 1 := by
    conv => lhs; rw [Lib.index]
    rw [hp, if_neg (by decide)]
    simp
   rw [e]
   generalize Lib.index (d :: r) [124, 124] = n at ge
   by_cases hn : n = -1
   ·subst hn; simp
   ·rw [if_neg hn, if_neg hn, if_neg Om]
    have e2 : (n + 1).toNat = n.toNat + 1 := by omega
    rw [e2, List.take_succ_cons, show n.toNat + 1 + 2 = (n.toNat + 2) + 1 from by omega, List.drop_succ_cons]
    simp
theorem splitK_from (sep : List UInt8) : ∀ (f : Nat) (s : List UInt8), s.length < f → Lib.splitK sep 0 (Lib.countFrom sep f s) s = if Lib.index s sep = -1 then [s] else s.take (Lib.index s sep).toNat :: Lib.splitK sep 0 (Lib.countFrom sep (f - 1) (s.drop ((Lib.index s sep).toNat + sep.length))) (s.drop ((Lib.index s sep).toNat + sep.length))
 | f + 1, s, h => by
  rw [Lib.countFrom]
  by_cases q : Lib.index s sep = -1
  ·rw [if_pos (by simp [q]), if_pos q, Lib.splitK]
  ·rw [if_neg (by simp [q]), if_neg q, Nat.add_comm 1, Lib.splitK, if_neg (by simp [q]), Nat.add_zero]; rfl
theorem alts_from : ∀ (f : Nat) (s : List UInt8), s.length < f → Lib.splitK [124, 124] 0 (Lib.countFrom [124, 124] f s) s = kW [] s
 | f + 1, s, h => by
  rw [splitK_from _ _ _ h, altsL_index s []]
  by_cases q : Lib.index s [124, 124] = -1
  ·rw [if_pos q, if_pos q]; rfl
  ·have hr := Lib.index_room s [124, 124] (by have := Lib.index_ge s [124, 124]; omega)
   rw [if_neg q, if_neg q]
   show _ :: Lib.splitK [124, 124] 0 (Lib.countFrom [124, 124] f _) _ = _
   rw [alts_from f _ (by rw [List.length_drop]; simp only [List.length_cons, List.length_nil]; simp only [List.length_cons, List.length_nil] at hr; have := Lib.index_ge s [124, 124]; omega)]
   rfl
theorem split_alts (s : List UInt8) : Lib.splitK [124, 124] 0 (Lib.count s [124, 124]) s = kW [] s := alts_from _ s (Nat.lt_succ_self _)
theorem cut_index (b : UInt8) (s : List UInt8) : zB b [] s = if Lib.index s [b] = -1 then [s] else s.take (Lib.index s [b]).toNat :: zB b [] (s.drop ((Lib.index s [b]).toNat + 1)) := by
 have hc := cutAt_cut b s
 have hge := Lib.index_ge s [b]
 rw [x4, ← hc]
 unfold Lib.cut
 by_cases h : Lib.index s [b] = -1
 ·have h2 : ¬ 0 ≤ Lib.index s [b] := by omega
  simp [h]
 ·have h2 : 0 ≤ Lib.index s [b] := by omega
  simp [h, h2]
theorem cuts_from (b : UInt8) : ∀ (f : Nat) (s : List UInt8), s.length < f → Lib.splitK [b] 0 (Lib.countFrom [b] f s) s = zB b [] s
 | f + 1, s, h => by
  rw [splitK_from _ _ _ h, cut_index b s]
  by_cases q : Lib.index s [b] = -1
  ·rw [if_pos q, if_pos q]
  ·have hr := Lib.index_room s [b] (by have := Lib.index_ge s [b]; omega)
   rw [if_neg q, if_neg q]
   show _ :: Lib.splitK [b] 0 (Lib.countFrom [b] f _) _ = _
   rw [cuts_from b f _ (by rw [List.length_drop]; simp only [List.length_cons, List.length_nil]; simp only [List.length_cons, List.length_nil] at hr; have := Lib.index_ge s [b]; omega)]
   rfl
theorem nQ (b : UInt8) (s : List UInt8) : Lib.splitK [b] 0 (Lib.count s [b]) s = zB b [] s := cuts_from b _ s (Nat.lt_succ_self _)
theorem pX (sep : List UInt8) (k : Nat) (s : List UInt8) : Lib.splitB (mkS sep) 0 k (mkS s) = (Lib.splitK sep 0 k s).map mkS := by
 have h := Lib.splitB_data (mkS sep) 0 k (mkS s)
 rw [mk_data, mk_data] at h
 rw [← h, List.map_map]
 refine ((List.map_congr_left fun x _ => ?_).trans (List.map_id _)).symm
 exact Lib.mk_data x
theorem splitB_alts (s : List UInt8) : Lib.splitB (mkS [124, 124]) 0 (Lib.countB (mkS s) (mkS [124, 124])) (mkS s) = (kW [] s).map mkS := by
 rw [pX, show Lib.countB (mkS s) (mkS [124, 124]) = Lib.count s [124, 124] from by unfold Lib.countB; rw [mk_data, mk_data], split_alts]
theorem splitB_cuts (b : UInt8) (s : List UInt8) : Lib.splitB (mkS [b]) 0 (Lib.countB (mkS s) (mkS [b])) (mkS s) = (zB b [] s).map mkS := by
 rw [pX, show Lib.countB (mkS s) (mkS [b]) = Lib.count s [b] from by unfold Lib.countB; rw [mk_data, mk_data], nQ]
theorem bareF_drop : ∀ (s : List UInt8), Lib.trimLeftB s 32 = xY s
 | [] => rfl
 | c :: l => by
  unfold Lib.trimLeftB
  rw [xY, List.dropWhile_cons]
  by_cases h : c = 32
  ·subst h
   rw [if_pos (by decide), if_pos rfl]; exact bareF_drop l
  ·rw [if_neg (by simp [h]), if_neg h]
def bareR (s : List UInt8) : List UInt8 := (xY s.reverse).reverse
theorem bareF_snoc {c : UInt8} (h : c ≠ 32) : ∀ (x : List UInt8), xY (x ++ [c]) = xY x ++ [c]
 | [] => by
  show xY [c] = [c]
  rw [xY]; exact if_neg h
 | d :: x => by
  rw [List.cons_append, xY, xY]
  by_cases q : d = 32
  ·rw [if_pos q, if_pos q, bareF_snoc h x]
  ·rw [if_neg q, if_neg q]; rfl
theorem bareF_snoc32 : ∀ (x : List UInt8), xY (x ++ [32]) = if xY x = [] then [] else xY x ++ [32]
 | [] => by simp [xY]
 | d :: x => by
  rw [List.cons_append, xY, xY]
  by_cases q : d = 32
  ·rw [if_pos q, if_pos q, bareF_snoc32 x]
  ·rw [if_neg q, if_neg q, if_neg (by simp)]; rfl
theorem bare_swap : ∀ (s : List UInt8), xY (bareR s) = bareR (xY s)
 | [] => rfl
 | c :: l => by
  have ih := bare_swap l
  by_cases h : c = 32
  ·subst h
   rw [show xY (32 :: l) = xY l from by rw [xY, if_pos rfl], ← ih]
   unfold bareR
   rw [List.reverse_cons, bareF_snoc32]
   by_cases q : xY l.reverse = []
   ·rw [if_pos q, q]
   ·rw [if_neg q, List.reverse_append]
    show xY (32 :: (xY l.reverse).reverse) = _
    rw [xY, if_pos rfl]
  ·rw [show xY (c :: l) = c :: l from by rw [xY, if_neg h]]
   unfold bareR
   rw [List.reverse_cons, bareF_snoc h, List.reverse_append]
   show xY (c :: (xY l.reverse).reverse) = c :: (xY l.reverse).reverse
   rw [xY, if_neg h]
theorem trim_bare (s : List UInt8) : Lib.trimB s 32 = x6 s := by
 unfold Lib.trimB Lib.trimRightB
 have e : ∀ l : List UInt8, l.dropWhile (· == 32) = xY l := bareF_drop
 rw [e, bareF_drop]
 exact bare_swap s
def mA (r : List (List Co)) : List UInt8 := if fewR r then vU r else []
theorem altText_ne {a : List Co} (h : fewA a = true) : xP a ≠ [] := by
 obtain ⟨h1, h2⟩ := fewA.facts h
 cases a with
 | nil => exact absurd h1.1 (by decide)
 | cons c l =>
  have hc : c.print ≠ [] := by
   rw [qF (h2 c (List.mem_cons_self ..))]
   exact text_ne (h2 c (List.mem_cons_self ..))
  unfold xP
  cases l with
  | nil => exact hc
  | cons d l => 
   rw [List.map_cons, List.map_cons, fI]
   intro e
   exact hc (List.append_eq_nil_iff.1 (List.append_eq_nil_iff.1 e).1).1
theorem rgText_ne {r : List (List Co)} (h : fewR r = true) : vU r ≠ [] := by
 obtain ⟨h1, h2⟩ := fewR.facts h
 cases r with
 | nil => exact absurd h1.1 (by decide)
 | cons a l =>
  have hc := altText_ne (h2 a (List.mem_cons_self ..))
  unfold vU
  cases l with
  | nil => exact hc
  | cons d l =>
   rw [List.map_cons, List.map_cons, fI]
   intro e
   exact hc (List.append_eq_nil_iff.1 (List.append_eq_nil_iff.1 e).1).1
theorem textR_nil {r : List (List Co)} : mA r = [] ↔ fewR r = false := by
 unfold mA
 cases h : fewR r with
 | false => simp
 | true => simp [rgText_ne h]
theorem print_text (r : List (List Co)) : fB r = if 96 < (mA r).length then [] else mA r := by
 unfold fB rgMay mA
 cases fewR r with
 | false => simp
 | true =>
  by_cases h : (vU r).length ≤ 96
  ·simp [h, Nat.not_lt.2 h]
  ·simp [h, Nat.lt_of_not_le h]
end
section
def dB : Nat → List UInt8 → List (List UInt8)
 | 0, s => [s]
 | k + 1, s => if (z8 46 s).2.2 then (z8 46 s).1 :: dB k (z8 46 s).2.1 else [s]
theorem pcsK_len : ∀ (k : Nat) (s : List UInt8), 1 ≤ (dB k s).length ∧ (dB k s).length ≤ k + 1
 | 0, s => ⟨Nat.le_refl _, Nat.le_refl _⟩
 | k + 1, s => by
  have h := pcsK_len k (z8 46 s).2.1
  unfold dB
  split
  ·simp only [List.length_cons]; omega
  ·simp only [List.length_cons, List.length_nil]; omega
theorem pcsK_mem : ∀ (k : Nat) (s : List UInt8), ∀ x ∈ dB k s, x.length ≤ s.length
 | 0, s, x, hx => by rw [List.mem_singleton.1 hx]; exact Nat.le_refl _
 | k + 1, s, x, hx => by
  unfold dB at hx
  have hl := dO 46 s
  split at hx
  ·rcases List.mem_cons.1 hx with e | hx
   ·rw [e]; omega
   ·have := pcsK_mem k (z8 46 s).2.1 x hx; omega
  ·rw [List.mem_singleton.1 hx]; exact Nat.le_refl _
theorem pcsK_join : ∀ (k : Nat) (l : List (List UInt8)), l ≠ [] → l.length ≤ k + 1 → (∀ x ∈ l, (46 : UInt8) ∉ x) → dB k (zD 46 l) = l
 | _, [], h, _, _ => absurd rfl h
 | 0, [x], _, _, _ => rfl
 | k + 1, [x], _, _, h => by
  unfold dB
  show (if (z8 46 x).2.2 = true then _ else _) = _
  rw [wH 46 x (h x (List.mem_singleton.2 rfl))]
  exact if_neg Bool.false_ne_true
 | 0, x :: y :: r, _, hl, _ => by simp at hl
 | k + 1, x :: y :: r, _, hl, h => by
  have ih := pcsK_join k (y :: r) (by simp) (by simpa using hl) fun z hz => h z (List.mem_cons_of_mem _ hz)
  unfold dB
  rw [zD, bW 46 _ _ (h x (List.mem_cons_self ..)), if_pos rfl]
  dsimp only
  rw [ih]
def sgo (s : List UInt8) : Nat → Int × List UInt8
 | 0 => (7, s)
 | k + 1 => if yS s (zN ((k + 1 : Nat) : Int)) = true ∧ (s.drop (zN ((k + 1 : Nat) : Int)).length).length < (sgo s k).2.length then (((k + 1 : Nat) : Int), s.drop (zN ((k + 1 : Nat) : Int)).length) else sgo s k
theorem sgo_le (s : List UInt8) : ∀ k, (sgo s k).2.length ≤ s.length
 | 0 => Nat.le_refl _
 | k + 1 => by
  unfold sgo
  split
  ·show (s.drop _).length ≤ _; rw [List.length_drop]; omega
  ·exact sgo_le s k
def bY (s : List UInt8) : List (List UInt8) := dB 2 (z8 45 (sgo s 8).2).1
def starP (s : List UInt8) : Bool := decide ((bY s).getLast? = some [42])
def jM (s : List UInt8) : Co := ⟨if starP s then 9 else (sgo s 8).1, if starP s then ((bY s).length : Int) - 1 else ((bY s).length : Int), ⟨zK (tg (bY s) 0), zK (tg (bY s) 1), zK (tg (bY s) 2), (z8 45 (sgo s 8).2).2.1, []⟩⟩
theorem nob {d a : UInt8} {r t : List UInt8} (h : d ≠ a) : ¬ (yS (d :: r) (a :: t) = true) := by rw [qT h]; decide
theorem sgo_plain {d : UInt8} {r : List UInt8} (h : x2 d.toNat = true ∨ d = 42) : sgo (d :: r) 8 = (7, d :: r) := by
 have hd : ∀ a : UInt8, x2 a.toNat = false → a ≠ 42 → d ≠ a := fun a ha h42 e => by
  subst e
  rcases h with h | h
  ·rw [ha] at h; cases h
  ·exact h42 h
 have hb : ∀ k : Nat, 1 ≤ k → k ≤ 8 → ¬ (yS (d :: r) (zN (k : Int)) = true) := fun k h1 h8 => by
  have hk : k = 1 ∨ k = 2 ∨ k = 3 ∨ k = 4 ∨ k = 5 ∨ k = 6 ∨ k = 7 ∨ k = 8 := by omega
  rcases hk with rfl | rfl | rfl | rfl | rfl | rfl | rfl | rfl
  ·exact nob (hd 61 (by decide) (by decide))
  ·exact nob (hd 33 (by decide) (by decide))
  ·exact nob (hd 60 (by decide) (by decide))
  ·exact nob (hd 60 (by decide) (by decide))
  ·exact nob (hd 62 (by decide) (by decide))
  ·exact nob (hd 62 (by decide) (by decide))
  ·exact nob (hd 94 (by decide) (by decide))
  ·exact nob (hd 126 (by decide) (by decide))
 have : ∀ k : Nat, k ≤ 8 → sgo (d :: r) k = (7, d :: r) := fun k => by
  induction k with
  | zero => intro _; rfl
  | succ k ih =>
   intro h8
   unfold sgo
   rw [if_neg (fun q => hb (k + 1) Om h8 q.1)]
   exact ih Om
 exact this 8 (by decide)
theorem sgo_sign {op : Int} (h1 : 1 ≤ op) (h8 : op ≤ 8) {d : UInt8} {r : List UInt8} (hd : x2 d.toNat = true) : sgo (zN op ++ d :: r) 8 = (op, d :: r) := by
 have h61 : d ≠ 61 := fun e => by subst e; revert hd; decide
 have hop : op = 1 ∨ op = 2 ∨ op = 3 ∨ op = 4 ∨ op = 5 ∨ op = 6 ∨ op = 7 ∨ op = 8 := by omega
 rcases hop with rfl | rfl | rfl | rfl | rfl | rfl | rfl | rfl <;> simp [zN, sgo, yS, h61]
theorem numD_star : zK [42] = 0 := by decide
theorem tg_star {v : Ver} (hv : v.may = true) {n : Nat} (h : n ≤ 2) (h0 : 0 < n ∨ v.maj = 0) (h1 : 1 < n ∨ v.min = 0) (h2 : 2 < n ∨ v.pat = 0) : zK (tg (zM v n ++ [[42]]) 0) = v.maj ∧ zK (tg (zM v n ++ [[42]]) 1) = v.min ∧ zK (tg (zM v n ++ [[42]]) 2) = v.pat := by
 obtain ⟨m1, m2, m3⟩ := qD hv
 have e1 := qC m1
 have e2 := qC m2
 match n, h with
 | 0, _ => exact ⟨numD_star.trans (h0.resolve_left (by decide)).symm, (h1.resolve_left (by decide)).symm, (h2.resolve_left (by decide)).symm⟩
 | 1, _ => exact ⟨e1, numD_star.trans (h1.resolve_left (by decide)).symm, (h2.resolve_left (by decide)).symm⟩
 | 2, _ => exact ⟨e1, e2, numD_star.trans (h2.resolve_left (by decide)).symm⟩
theorem rest_pieces {c : Co} (h : c.may = true) : dB 2 (z8 45 c.rest).1 = (if c.op = 9 then zM c.v c.parts.toNat ++ [[42]] else zM c.v c.parts.toNat) ∧ (z8 45 c.rest).2.1 = c.v.pre := by
 obtain ⟨_, hv, hb, h9, hn, hp, k0, k1, k2⟩ := Co.facts h
 unfold Co.rest
 by_cases e : c.op = 9
 ·rw [if_pos e, if_pos e]
  have f : ∀ b : UInt8, x2 b.toNat = false → b ≠ 42 → ∀ x ∈ zM c.v c.parts.toNat ++ [[42]], b ∉ x := fun b hb hb2 x hx => by
   rcases List.mem_append.1 hx with hx | hx
   ·exact vD hv b hb x hx
   ·rw [List.mem_singleton.1 hx]
    intro hm
    exact hb2 (List.mem_singleton.1 hm)
  rw [wH 45 _ (wN 45 (by decide) _ (f 45 (by decide) (by decide)))]
  have hq := h9 e
  have hpre : c.v.pre = [] := hp.resolve_left Om
  refine ⟨?_, hpre.symm⟩
  refine pcsK_join 2 _ (by simp) ?_ (f 46 (by decide) (by decide))
  rw [List.length_append, vE c.v Om]
  simp only [List.length_cons, List.length_nil]; omega
 ·rw [if_neg e, if_neg e]
  have hq := hn e
  have hlen := vE c.v (n := c.parts.toNat) Om
  have hne : zM c.v c.parts.toNat ≠ [] := fun h0 => by
   rw [h0] at hlen
   simp at hlen; omega
  rw [cut_tail 45 _ _ (wN 45 (by decide) _ (vD hv 45 (by decide)))]
  exact ⟨pcsK_join 2 _ hne Om (vD hv 46 (by decide)), rfl⟩
theorem nums_last {c : Co} (h : c.may = true) (hn : ¬ c.op = 9) : ¬ (zM c.v c.parts.toNat).getLast? = some [42] := fun hl => by
 have hv := (Co.facts h).2.1
 have := vD hv 42 (by decide) _ (List.mem_of_getLast? hl)
 exact this (List.mem_singleton.2 rfl)
theorem guess_of {c : Co} {s : List UInt8} (h : c.may = true) (hs : (sgo s 8).2 = c.rest) (ho : c.op = 9 ∨ (sgo s 8).1 = c.op) : jM s = c := by
 obtain ⟨_, hv, hb, h9, hn, hp, k0, k1, k2⟩ := Co.facts h
 obtain ⟨p1, p2⟩ := rest_pieces h
 have hpc : bY s = if c.op = 9 then zM c.v c.parts.toNat ++ [[42]] else zM c.v c.parts.toNat := by unfold bY; rw [hs]; exact p1
 unfold jM
 rw [hs, p2]
 by_cases e : c.op = 9
 ·have hq := h9 e
  rw [if_pos e] at hpc
  have hst : starP s = true := by unfold starP; rw [hpc, List.getLast?_concat]; exact decide_eq_true rfl
  obtain ⟨e1, e2, e3⟩ := tg_star hv (n := c.parts.toNat) Om Om Om Om
  rw [hst, hpc, if_pos rfl, if_pos rfl, e1, e2, e3, List.length_append, vE c.v Om, List.length_singleton]
  obtain ⟨op, parts, a, b, d, q, r⟩ := c
  simp only at hb e hq ⊢
  rw [hb, e]
  congr 1
  omega
 ·have hq := hn e
  rw [if_neg e] at hpc
  have hst : starP s = false := by unfold starP; rw [hpc]; exact decide_eq_false (nums_last h e)
  obtain ⟨e1, e2, e3⟩ := nums_back hv (n := c.parts.toNat) Om Om Om Om
  rw [hst, hpc, if_neg (by decide), if_neg (by decide), e1, e2, e3, vE c.v Om, ho.resolve_left e]
  obtain ⟨op, parts, a, b, d, q, r⟩ := c
  simp only at hb hq ⊢
  rw [hb]
  congr 1
  omega
theorem guess_co {c : Co} {s : List UInt8} (h : c.may = true) (hs : c.text = s ∨ c.text = 94 :: s) : jM s = c := by
 obtain ⟨ho, _⟩ := Co.facts h
 by_cases hn : c.op = 9
 ·obtain ⟨d, r, e, hd⟩ := tY h hn
  have ht : c.text = d :: r := by unfold Co.text; rw [hn, show zN 9 = [] from rfl, List.nil_append, e]
  rcases hs with hs | hs
  ·rw [ht] at hs
   rw [← hs]
   exact guess_of h (by rw [sgo_plain hd, e]) (.inl hn)
  ·rw [ht] at hs
   injection hs with e1 _
   rw [e1] at hd
   exact absurd hd (by decide)
 ·obtain ⟨d, r, e, hd⟩ := n6 h hn
  have ht : c.text = zN c.op ++ d :: r := by unfold Co.text; rw [e]
  have hs8 := sgo_sign ho.1 Om (r := r) hd
  rcases hs with hs | hs
  ·rw [ht] at hs
   rw [← hs]
   exact guess_of h (by rw [hs8, e]) (.inr (by rw [hs8]))
  ·rw [ht] at hs
   have hop : c.op = 1 ∨ c.op = 2 ∨ c.op = 3 ∨ c.op = 4 ∨ c.op = 5 ∨ c.op = 6 ∨ c.op = 7 ∨ c.op = 8 := by omega
   have h7 : c.op = 7 := by rcases hop with e2 | e2 | e2 | e2 | e2 | e2 | e2 | e2 <;> rw [e2] at hs <;> first | exact e2 | simp [zN] at hs
   rw [h7] at hs
   have hs2 : d :: r = s := by injection hs
   rw [← hs2]
   exact guess_of h (by rw [sgo_plain (.inl hd), e]) (.inr (by rw [sgo_plain (.inl hd), h7]))
theorem guess_nil : jM [] = ⟨7, 1, ⟨0, 0, 0, [], []⟩⟩ := by decide
theorem fits_may {s : List UInt8} (h : (jM s).print = s ∨ (jM s).print = 94 :: s) : (jM s).may = true := by
 refine print_may fun e => ?_
 rw [e] at h
 rcases h with h | h
 ·subst h
  revert e
  rw [guess_nil]
  decide +kernel
 ·cases h
theorem prog_some {s : List UInt8} (h : (jM s).print = s ∨ (jM s).print = 94 :: s) : qB s = some (jM s) := by
 have hm := fits_may h
 rw [qF hm] at h
 exact (nY s _).2 ⟨hm, h⟩
theorem prog_none {s : List UInt8} (h : ¬ ((jM s).print = s ∨ (jM s).print = 94 :: s)) : qB s = none := by
 cases hp : qB s with
 | none => rfl
 | some c =>
  obtain ⟨hm, ht⟩ := (nY s c).1 hp
  have hg := guess_co hm ht
  rw [hg, qF hm] at h
  exact absurd ht h
def behC (c : Co) : Cu := if c.parts = 3 then ⟨0, c.v, true⟩ else if c.parts = 0 then bV 1 else highC c.v (c.parts - 1).toNat
def leadK (c : Co) : Int := if ¬ c.v.maj = 0 then 0 else if ¬ c.v.min = 0 then 1 else if ¬ c.v.pat = 0 then 2 else c.parts - 1
def boundC (c : Co) : Cu × Cu :=
 if c.op = 3 then (bV (-1), ⟨0, c.v, false⟩) else if c.op = 4 then (bV (-1), behC c) else if c.op = 5 then (behC c, bV 1) else if c.op = 6 then (⟨0, c.v, false⟩, bV 1)
 else if c.op = 7 then (⟨0, c.v, false⟩, highC c.v (leadK c).toNat) else if c.op = 8 then (⟨0, c.v, false⟩, highC c.v (min (c.parts - 1) 1).toNat) else if c.parts = 0 then (bV (-1), bV 1) else (⟨0, c.v, false⟩, behC c)
end
section
theorem rjoin_any (v : Value) (l : List (List UInt8)) (b : UInt8) (w : World) (hv : ReadsT w w.heap.size v l) (hl : (zD b l).length ≤ 1000000000) (hn : l.length ≤ 1000000000) :
  YC 90 #[v, .int .u8 b.toNat] w (YR (.string (mkS (zD b l))) w) := by
 have hcv := fun (w : World) (x : Int) => conv1 w x
 obtain ⟨A, cap, rfl, hcell⟩ := hv
 go_enter Tryz.func90, Tryz.ntmps90
 go_wp2
 go_loopw [5, 6] (fun sv iv wr => ∃ (k : Nat), iv = YI k ∧ k ≤ l.length ∧ sv = .string (mkS (zD b (l.take k))) ∧ Below w.heap.size w wr) (fun _ iv _ => l.length - (intOf iv).toNat)
 case atStart => exact ⟨0, rfl, Nat.zero_le _, rfl, Below.refl _ _⟩
 case round =>
  obtain ⟨k, rfl, hk, rfl, hb⟩ := hrel
  have hsz := hb.size
  by_cases hp : k < l.length
  ·obtain ⟨ad, rfl, hlt, hc⟩ := hcell Om
   have hck : wr.cell? (ad.add k) = some (.string (mkS l[k])) := (hb.cell (by rw [pD]; exact hlt)).trans (hc k hp)
   have hln : (zD b (l.take (k + 1))).length ≤ 1000000000 := Nat.le_trans (joinL_take_le b l (k + 1)) hl
   have HJ := Lib.hid (joinL_snoc b (l.take k) l[k])
   rw [← take_snocL l k hp] at HJ
   clear hc hcell
   by_cases h0 : k = 0
   ·subst h0
    have hx1 : (mkS (zD b [])).size ≤ 0 := by rw [dF]; simp [zD]
    have hx2 : (mkS l[0]).size ≤ 1000000000 := by
     rw [dF]; rw [HJ.out, if_pos List.take_zero] at hln; exact hln
    have hck0 : wr.cell? ad = some (.string (mkS l[0])) := hck
    clear hck
    go_wp2
    go_roundw
    case rel => exact ⟨0 + 1, by go_num, by omega, by rw [HJ.out, if_pos List.take_zero, kQ]; rfl, hb⟩
    case measure => simp [intOf]; omega
   ·have h0p : 0 < k := by omega
    have hlen : (zD b (l.take k)).length + (l[k].length + 1) ≤ 1000000000 := by
     rw [HJ.out, if_neg (f0 l k hp h0p), List.length_append, List.length_cons] at hln; exact hln
    have hx1 : (mkS (zD b (l.take k))).size + ((mkS l[k]).size + 1) ≤ 1000000000 := by rw [dF, dF]; exact hlen
    have hx2 : (one (b.toNat : Int)).size ≤ 1 := Nat.le_refl _
    have hx3 : (mkS (zD b (l.take k)) ++ one (b.toNat : Int)).size ≤ (mkS (zD b (l.take k))).size + 1 := by rw [ByteArray.size_append]; omega
    clear hlen
    have hck2 := fun o => (World.cell?_alloc_lt wr o (ad.add k) (by rw [pD]; omega)).trans hck
    clear hck
    go_wp2
    go_roundw
    case rel => exact ⟨k + 1, by go_num, by omega, by rw [HJ.out, if_neg (f0 l k hp h0p), one_mk, kQ, kQ, List.append_assoc]; rfl, hb.alloc hsz _⟩
    case measure => simp [intOf]; omega
  ·obtain rfl : k = l.length := by omega
   go_wp2
   go_ret
   exact ⟨fC (by rw [List.take_length]), hb⟩
end
section
section
variable {M : List Nat} {P : Program} {n : Nat} {ops : Array Oper} {W : World} {L0 : List Blk} {Q : Exit → Act → World → Prop} {fuel : Nat} {listed : Array Bool} {L : List Blk} {f : Nat → Value}
end
theorem own_nil {M : List Nat} {W w : World} {L : List Blk} (h : Own M W w L) : Own M W w [] := h.sublist (List.nil_sublist _)
end
section
end
section
def cpL (s t : List UInt8) : List UInt8 := if yS s t = true then s.drop t.length else s
theorem prefix_begins : ∀ (t s : List UInt8), t.isPrefixOf s = yS s t
 | [], s => by simp [yS]
 | a :: t, [] => by simp [yS, List.isPrefixOf]
 | a :: t, b :: s => by
  have ih := prefix_begins t s
  unfold yS at ih ⊢
  rw [List.isPrefixOf, ih, List.length_cons, List.take_succ_cons]
  by_cases h : a = b
  ·subst h; simp
  ·simp [h, Ne.symm h]
theorem cutpre_any (s t : List UInt8) (w : World) : YC 120 #[.string (mkS s), .string (mkS t)] w (YR (.tuple #[.string (mkS (cpL s t)), .bool (yS s t)]) w) :=
 (Tryz.strings_CutPrefix (mkS s) (mkS t) w).mono fun e w' ⟨he, hw⟩ => by
  subst hw
  refine ⟨?_, Below.refl _ _⟩
  rw [he, mk_data, mk_data]
  unfold Lib.trimPrefix Lib.hasPrefix cpL
  rw [prefix_begins]; rfl
theorem splitK_pcs : ∀ (k : Nat) (s : List UInt8), Lib.splitK [46] 0 k s = dB k s
 | 0, s => rfl
 | k + 1, s => by
  have hc := cutAt_cut 46 s
  have hge := Lib.index_ge s [46]
  unfold Lib.splitK dB
  rw [← hc]
  unfold Lib.cut
  by_cases h : Lib.index s [46] = -1
  ·have h2 : ¬ 0 ≤ Lib.index s [46] := by omega
   simp [h]
  ·have h2 : 0 ≤ Lib.index s [46] := by omega
   simp [h, h2, splitK_pcs k]
theorem pcsK_more : ∀ (k : Nat) (s : List UInt8), s.length ≤ k → dB k s = dB (k + 1) s
 | 0, s, h => by
  obtain rfl := List.eq_nil_of_length_eq_zero (Nat.le_zero.1 h)
  rfl
 | k + 1, s, h => by
  have hl := wP 46 s
  rw [dB]
  conv => rhs; rw [dB]
  cases hq : (z8 46 s).2.2 with
  | false => rw [if_neg Bool.false_ne_true, if_neg Bool.false_ne_true]
  | true =>
   rw [hq, if_pos rfl] at hl
   rw [if_pos rfl, if_pos rfl, pcsK_more k _ Om]
theorem pcsK_min (s : List UInt8) : dB (min 3 (s.length + 1) - 1) s = dB 2 s := by
 by_cases h0 : s.length = 0
 ·rw [h0, show min 3 (0 + 1) - 1 = 0 from rfl, pcsK_more 0 s Om, pcsK_more 1 s Om]
 ·by_cases h1 : s.length = 1
  ·rw [h1, show min 3 (1 + 1) - 1 = 1 from rfl, pcsK_more 1 s Om]
  ·rw [show min 3 (s.length + 1) - 1 = 2 by omega]
theorem splitB_pcs (k : Nat) (s : List UInt8) : Lib.splitB ⟨#[46]⟩ 0 k (mkS s) = (dB k s).map mkS := by
 have h := Lib.splitB_data ⟨#[46]⟩ 0 k (mkS s)
 rw [mk_data, show (⟨#[46]⟩ : ByteArray).data.toList = [46] from rfl, splitK_pcs] at h
 rw [← h, List.map_map]
 refine ((List.map_congr_left fun x _ => ?_).trans (List.map_id _)).symm
 exact Lib.mk_data x
theorem split3_any (s : List UInt8) (W : World) (hs : s.length ≤ 1000000) :
  YC 173 #[.string (mkS s), .string ⟨#[46]⟩, YI 0, YI 3] W fun e w' => ∃ v' ob', e = .returned v' ∧ SlT v' (dB 2 s) ob' ∧ Own [] W w' ob' := by
 have hsz := yD s
 have hI : ∀ (x : ByteArray) (c : Array Value), x.size ≤ (mkS s).size → YC 210 #[.string x, .string ⟨#[46]⟩] (W.alloc (.cells c 9)) fun e w' => e = .returned (YI (Lib.indexB x ⟨#[46]⟩)) ∧ w' = W.alloc (.cells c 9) :=
  fun x c _ => (Tryz.strings_Index_one x 46 _).mono fun e w' ⟨he, hw⟩ => ⟨by rw [he, d2]; try rfl, hw⟩
 have hC : YC 209 #[.string (mkS s), .string ⟨#[46]⟩] W fun e w' => e = .returned (YI (Lib.countB (mkS s) ⟨#[46]⟩)) ∧ w' = W :=
  (Tryz.strings_Count_one (mkS s) 46 W).mono fun e w' ⟨he, hw⟩ => ⟨by rw [he]; show _ = Ending.returned (Value.int .i64 ((Lib.count (mkS s).data.toList [46] : Nat) : Int)); rw [Lib.count_one]; rfl, hw⟩
 have c := Any.strings_genSplit_core Tryz.lays221 Kr (mkS s) ⟨#[46]⟩ 0 3 (min 3 ((mkS s).size + 1)) W Om (by decide) (Nat.zero_le _) hI hC (by decide) (by decide) (by rw [if_neg (by decide)]; omega)
 rw [hsz, splitB_pcs, pcsK_min] at c
 obtain ⟨hl1, hl3⟩ := pcsK_len 2 s
 have hle : (dB 2 s).length ≤ min 3 (s.length + 1) := by
  have h := Lib.splitB_length_le ⟨#[46]⟩ 0 (min 3 (s.length + 1) - 1) (mkS s)
  rw [splitB_pcs, pcsK_min, List.length_map] at h
  omega
 rw [List.length_map] at c
 refine Calls.mono c fun e w' ⟨he, hw⟩ => ?_
 subst hw
 refine ⟨_, _, he, ⟨by rw [vT]; omega, .inr ⟨W.heap.size, min 3 (s.length + 1), _, rfl, rfl, hle, by unfold maxLen; omega, by rw [Lib.cellsOf_size (by rw [List.length_map]; exact hle), Nat.mul_one], ?_⟩⟩, (Own.start [] W).alloc _ _⟩
 unfold Lib.cellsOf
 rw [List.map_map, List.take_append_of_le_length (by rw [List.length_map]; omega), List.take_of_length_le (by rw [List.length_map]; omega)]
 rfl
end
section
section
variable {M : List Nat} {P : Program} {n : Nat} {W : World} {L : List Blk} {f : Nat → Value}
theorem fin_ret3 {fn : Func} {R : Ending → World → Prop} {t u s : Tmp} (v v' v2 : Value) (hres : fn.results = #[.tmp t, .tmp u, .tmp s]) (hv : ev n f (.tmp t) = v) (hv' : ev n f (.tmp u) = v') (hv2 : ev n f (.tmp s) = v2) (hR : ∀ w, Own M W w L → R (.returned (.tuple #[v, v', v2])) w) : Fin M n W (bodyPost P fn R) .ret L f := ⟨fun w hO => by
 have e1 : (Fr n f).tmps.getD t undef = v := (kM n f t).trans hv
 have e2 : (Fr n f).tmps.getD u undef = v' := (kM n f u).trans hv'
 have e3 : (Fr n f).tmps.getD s undef = v2 := (kM n f s).trans hv2
 have hr : ∀ tm : Array Value, (results fn tm).run P w = .ok (.tuple #[tm.getD t undef, tm.getD u undef, tm.getD s undef]) w := fun tm => by simp [results, hres]
 refine bodyPost_ret (v := .tuple #[v, v', v2]) ?_ rfl (hR w hO)
 rw [hr, e1, e2, e3]⟩
end
end
section
section
variable {M : List Nat} {P : Program} {n : Nat} {ops : Array Oper} {W : World} {Q : Exit → Act → World → Prop} {L : List Blk} {f : Nat → Value} {rest : List Oper} {o : Oper}
def RoundW (n : Nat) (Inv : World → (Nat → Value) → Nat → Prop) (m : Nat) (Q : Exit → Act → World → Prop) : Exit → Act → World → Prop :=
 Exit.then (fun a w => ∃ f m', m' < m ∧ Inv w f m' ∧ a = Fr n f) Q
theorem fin_roundW {Inv : World → (Nat → Value) → Nat → Prop} {m m' : Nat} (hlt : m' < m) (hI : ∀ w, Own M W w L → Inv w f m') : Fin M n W (RoundW n Inv m Q) .normal L f := ⟨fun w hO => ⟨f, m', hlt, hI w hO, rfl⟩⟩
end
structure RdT (w : World) (v : Value) (l : List (List UInt8)) : Prop where
 ex : ∃ A cap, v = .slice A l.length cap ∧ Reads y9 w w.heap.size A l ∧ (A = none → cap = 0)
end
section
section
variable {P : Program} {md : Region.Mode} {l : List Oper} {m : Nat}
theorem upon_then {o : Oper} {a : Act} {K K' : Act → World → Prop} {Q : Exit → Act → World → Prop} {r : Result Next} : o.upon P a K (Exit.then K' Q) r = o.upon P a K Q r := by
 cases r with
 | ok x w => cases x <;> rfl
 | halt x w => cases x <;> rfl
theorem wpOp_take (hp : PreOk md l m) {Q : Exit → Act → World → Prop} {K' : Act → World → Prop} {i : Nat} (hi : i < m) {K : Act → World → Prop} {a : Act} {w : World} (h : wpOp P (l.take m).toArray (Exit.then K' Q) i K a w) : wpOp P l.toArray Q i K a w := by
 unfold wpOp at h ⊢
 rw [take_at hi] at h
 cases ho : l.toArray[i]? with
 | none => rw [ho] at h; exact h
 | some o =>
  rw [ho] at h
  have ho' : l[i]? = some o := by simpa using ho
  dsimp only at h ⊢
  rw [want_take hp hi ho'] at h
  split
  ·rename_i hw
   rw [if_pos hw] at h
   unfold Oper.wp at h ⊢
   rw [upon_then] at h
   exact h
  ·rename_i hw
   rw [if_neg hw] at h
   exact h
theorem any_comp (hp : PreOk md l m) {Q : Exit → Act → World → Prop} {K' : Act → World → Prop} {g : Nat} (H : ∀ (fuel : Nat) (listed : Array Bool) (a : Act) (w : World), g ≤ fuel → Upto l.length m listed → K' a w → wpAny P md l.toArray Q fuel listed a w) :
  ∀ (fuel : Nat) (listed' listed : Array Bool) (a : Act) (w : World), Part l.length m listed' listed → wpAny P md (l.take m).toArray (Exit.then K' Q) fuel listed' a w → wpAny P md l.toArray Q (fuel + g) listed a w := by
 have full : ∀ (listed' listed : Array Bool), Part l.length m listed' listed → (¬ ∃ i, i < m ∧ listed'.getD i true = false) → Upto l.length m listed := by
  intro listed' listed h hno
  refine ⟨h.size, fun i hi => ?_⟩
  by_cases him : i < m
  ·rw [h.same i him, decide_eq_true him]
   obtain ⟨b, e⟩ := h.get him
   rw [e]
   cases b with
   | true => rfl
   | false => exact absurd ⟨i, him, by rw [Array.getD_eq_getD_getElem?, e]; rfl⟩ hno
  ·rw [decide_eq_false him]; exact h.rest i Om hi
 have some_ready : ∀ (listed' listed : Array Bool), Part l.length m listed' listed → (∃ i, i < m ∧ listed'.getD i true = false) → ∃ k, k < m ∧ k ∈ Region.ready md l.toArray listed := by
  intro listed' listed h hun
  obtain ⟨k, hk, hf, hall⟩ := least_false (fun i => listed'.getD i true) m hun
  refine ⟨k, hk, (part_ready hp h hk).2 (mem_ready.2 ⟨hf, l[k]'(by have := hp.le; omega), ?_, fun e he hb => ?_⟩)⟩
  ·rw [take_at hk]; simp
  ·have := hp.back k _ (List.getElem?_eq_getElem (by have := hp.le; omega)) e he hb
   have h2 := hall e.on this
   obtain ⟨b, e2⟩ := h.get (i := e.on) Om
   rw [Array.getD_eq_getD_getElem?, e2] at h2 ⊢
   simpa using h2
 intro fuel
 induction fuel with
 | zero =>
  intro listed' listed a w h hq
  have hno : ¬ ∃ i, i < m ∧ listed'.getD i true = false := fun hun => by
   obtain ⟨k, hk, hr⟩ := some_ready _ _ h hun
   have := (part_ready hp h hk).1 hr
   rw [hq.1] at this; cases this
  exact H _ listed a w Om (full _ _ h hno) hq.2
 | succ f ih =>
  intro listed' listed a w h hq
  by_cases hun : ∃ i, i < m ∧ listed'.getD i true = false
  ·rw [show f + 1 + g = (f + g) + 1 from by omega]
   refine ⟨fun hr => ?_, fun i hi => ?_⟩
   ·obtain ⟨k, hk, hr2⟩ := some_ready _ _ h hun
    rw [hr] at hr2; cases hr2
   ·have him := part_in hp h hun i hi
    have h1 := hq.2 i ((part_ready hp h him).1 hi)
    exact wpOp_mono (fun a' w' hk => ih _ _ a' w' (h.set him) hk) (wpOp_take hp him h1)
  ·have hr : Region.ready md (l.take m).toArray listed' = [] := by
    apply List.eq_nil_iff_forall_not_mem.2
    intro i hi
    have h1 := (mem_ready.1 hi).1
    obtain ⟨_, o, ho, _⟩ := mem_ready.1 hi
    have : i < m := by
     have := (Array.getElem?_eq_some_iff.1 ho).1
     simp at this; omega
    exact hun ⟨i, this, h1⟩
   exact H _ listed a w Om (full _ _ h hun) (hq.1 hr)
end
section
variable {M : List Nat} {P : Program} {n : Nat} {W : World} {Q : Exit → Act → World → Prop} {L : List Blk} {f : Nat → Value}
theorem ok_drawh {id : Nat} {l : List Oper} (m : Nat) (L0 : List Blk) (hm : P.follows .mixedOrders = true) (hP : preB .any l m = true) (h : vQ M P n (l.take m).toArray W L0 (Exit.then (wpList P l.toArray Q (l.drop m)) Q) m (Array.replicate m false) L f) : Ok M P n W Q (.region id l.toArray true) L f := ⟨fun w hO => by
 have hp := preB_ok hP
 have hle : (l.take m).length = m := by rw [List.length_take]; have := hp.le; omega
 refine wp_region_any hm ?_
 have hq := wpAny_of_held _ _ _ _ (h.go _ hO.drew)
 have hres := any_comp (P := P) (md := .any) hp (Q := Q) (g := l.length - m) (K' := wpList P l.toArray Q (l.drop m)) (fun fuel listed a w hf hu hk => any_tail hp (l.length - m) m fuel listed _ w rfl (Nat.le_refl _) hp.le hf hu hk) m (Array.replicate m false) (Array.replicate l.toArray.size false) (Fr n f) { w with drawn := w.drawn + 1 }
  ⟨by simp, by simp, fun i hi => by
   have := hp.le
   rw [Array.getElem?_replicate, Array.getElem?_replicate, if_pos (by simp; omega), if_pos hi], fun t _ ht => by rw [Array.getElem?_replicate, if_pos (by simpa using ht)]⟩ hq
 rw [show m + (l.length - m) = l.toArray.size from by have := hp.le; simp; omega] at hres
 exact hres⟩
end
end
section
inductive XTop where
 | ops (a : Array Oper) (r : List Oper)
 | qps (a : Array Oper) (r : List Oper)
 | hps (a : Array Oper) (s : Array Bool) (u : Nat) (L0 : List Blk)
 | hst (a : Array Oper) (s : Array Bool) (u : Nat) (L0 : List Blk) (i : Nat)
 | code (c : Code)
 | fin (e : Exit)
inductive XIt where
 | code (c : Code)
 | blk (id : Nat)
 | lp (I : List Blk → (Nat → Value) → Nat → Prop) (m : Nat)
 | tl (a : Array Oper) (r : List Oper)
 | rd (c : Code) (m : Nat)
structure Xc where
 top : XTop
 k : List XIt
 L : List Blk
 f : Nat → Value
def KQ (M : List Nat) (P : Program) (n : Nat) (W : World) (Q : Exit → Act → World → Prop) : List XIt → Exit → Act → World → Prop
 | [] => Q
 | .code c :: k => Exit.then (Code.wp P c (KQ M P n W Q k)) (KQ M P n W Q k)
 | .blk id :: k => Exit.inBlock id (KQ M P n W Q k)
 | .lp I m :: k => Round M n W I m (KQ M P n W Q k)
 | .tl a r :: k => Exit.then (wpList P a (KQ M P n W Q k) r) (KQ M P n W Q k)
 | .rd c m :: k => Exit.then (Code.rounds P c (KQ M P n W Q k) m) (KQ M P n W Q k)
theorem pq_KQ {M : List Nat} {P : Program} {n : Nat} {W : World} {Q : Exit → Act → World → Prop} (h : PQ Q) : ∀ k : List XIt, PQ (KQ M P n W Q k)
 | [] => h
 | .code _ :: k => yW (pq_KQ h k)
 | .blk _ :: k => tD (pq_KQ h k)
 | .lp _ _ :: k => pq_round (pq_KQ h k)
 | .tl _ _ :: k => yW (pq_KQ h k)
 | .rd _ _ :: k => yW (pq_KQ h k)
structure zI (M : List Nat) (P : Program) (n : Nat) (W : World) (Q : Exit → Act → World → Prop) (c : Xc) : Prop where
 go : PQ Q → match c.top with
  | .ops a r => Seg M P n a W (KQ M P n W Q c.k) r c.L c.f
  | .qps a r => jL M P n a W (Fin M n W (KQ M P n W Q c.k) .normal) r c.L c.f
  | .hps a s u L0 => (∀ w, Own M W w c.L → Own M W w L0) → vQ M P n a W L0 (KQ M P n W Q c.k) u s c.L c.f
  | .hst a s u L0 i => (∀ w, Own M W w c.L → Own M W w L0) → bD M P n a W L0 (KQ M P n W Q c.k) u s i c.L c.f
  | .code x => Ok M P n W (KQ M P n W Q c.k) x c.L c.f
  | .fin e => Fin M n W (KQ M P n W Q c.k) e c.L c.f
def xPure : Op → Bool
 | .move _ | .assign _ | .pick _ _ _ | .build _ _ | .binOp _ _ _ _ _ | .unOp _ _ _ | .convert _ _ _ | .fieldAddr _ _ _ | .field _ _ _ | .indexAddr _ _ _ | .index _ _ _ | .extract _ _ | .slice _ _ _ _ _ | .nilCheck _ => true
 | .call c => match c.callee with
  | .builtin .len | .builtin .cap | .builtin .max | .builtin .min => true
  | _ => false
 | _ => false
def xQuiet (o : Oper) : Bool :=
 match o.op with
 | .load _ _ => true
 | .call c => match c.callee with
  | .builtin .append => false
  | _ => true
 | op => xPure op
abbrev XR : Type := World → Result Next
inductive XK where
 | no
 | r (g : XR)
 | ld (p : Value) (x : Option Blk) (v : Option Value)
 | st (p : Value) (x : Option Blk) (a : Option Bool) (b : Bool)
 | h (a b : Bool) (k : XK)
def xVal (P : Program) (n : Nat) (f : Nat → Value) (o : Oper) : Value :=
 match (execOp (ev n f) o).run P default with
 | .ok (.value v) _ => v
 | _ => undef
def xOff : Value → Nat
 | .pointer (some a) => a.off
 | _ => 0
def jB (L : List Blk) (i : Nat) : Blk := L.getD i ⟨0, #[], 0⟩
structure XS where
 go : Bool
 c : Xc
 h : List Nat
 l : XK
 r : XK
def xhd (h : List Nat) : Nat := h.headD 0
def xop (P : Program) (n : Nat) (q : Bool) (a : Array Oper) (o : Oper) (r : List Oper) (c : Xc) (h : List Nat) : XS :=
 let nx (L : List Blk) (f : Nat → Value) : Xc := ⟨bif q then .qps a r else .ops a r, c.k, L, f⟩
 match zT a n c.f o with
 | false => ⟨true, nx c.L (upd c.f o.dst undef), h, .no, .no⟩
 | true =>
  match o.op with
  | .load ty p =>
   let x := jB c.L (xhd h)
   let v := yO P ty x.cs (xOff (ev n c.f p))
   ⟨true, nx c.L (upd c.f o.dst (v.getD undef)), h.tail, .ld (ev n c.f p) (c.L[xhd h]?) v, .ld (.pointer (some ⟨x.b, xOff (ev n c.f p), none⟩)) (some x) (some (v.getD undef))⟩
  | .store T p y =>
   match q, o.dst with
   | false, none =>
    let x := jB c.L (xhd h)
    let v := ev n c.f y
    ⟨true, nx (c.L.set (xhd h) ⟨x.b, zW x.cs (xOff (ev n c.f p)) v.cells, x.ty⟩) c.f, h.tail, .st (ev n c.f p) (c.L[xhd h]?) ((P.info? T).map fun t => Nat.beq v.cells.size t.size && Nat.ble (xOff (ev n c.f p) + t.size) x.cs.size) (v.cells.toList.all fun u => u.oneCell'),
     .st (.pointer (some ⟨x.b, xOff (ev n c.f p), none⟩)) (some x) (some true) true⟩
   | _, _ => ⟨false, c, h, .no, .no⟩
  | op =>
   match xPure op with
   | true => ⟨true, nx c.L (upd c.f o.dst (xVal P n c.f o)), h, .r (fun w => (execOp (ev n c.f) o).run P w), .r (fun w => .ok (.value (xVal P n c.f o)) w)⟩
   | false => ⟨false, c, h, .no, .no⟩
def xTak (n : Nat) (a : Array Oper) (f : Nat → Value) (i : Nat) : Bool :=
 match a[i]? with
 | none => false
 | some o =>
  match zT a n f o with
  | false => true
  | true =>
   match o.op with
   | .load _ _ => true
   | op => xPure op
def xhp (P : Program) (n : Nat) (a : Array Oper) (s : Array Bool) (u : Nat) (L0 : List Blk) (i : Nat) (o : Oper) (c : Xc) (h : List Nat) : XS :=
 let nx (f : Nat → Value) : Xc := ⟨.hps a (s.setIfInBounds i true) u L0, c.k, c.L, f⟩
 let fr : Bool := Region.noSelect a && Region.free .any a s i && (Region.ready .any a s).contains i
 match zT a n c.f o with
 | false => ⟨true, nx (upd c.f o.dst undef), h, .h fr true .no, .h true true .no⟩
 | true =>
  match o.op with
  | .load ty p =>
   let x := jB L0 (xhd h)
   let v := yO P ty x.cs (xOff (ev n c.f p))
   ⟨true, nx (upd c.f o.dst (v.getD undef)), h.tail, .h fr true (.ld (ev n c.f p) (L0[xhd h]?) v), .h true true (.ld (.pointer (some ⟨x.b, xOff (ev n c.f p), none⟩)) (some x) (some (v.getD undef)))⟩
  | op => ⟨true, nx (upd c.f o.dst (xVal P n c.f o)), h, .h fr true (.r (fun w => (execOp (ev n c.f) o).run P w)), .h true true (.r (fun w => .ok (.value (xVal P n c.f o)) w))⟩
def xhs (P : Program) (n : Nat) (a : Array Oper) (s : Array Bool) (u : Nat) (L0 : List Blk) (c : Xc) (h : List Nat) : XS :=
 match Region.ready .any a s with
 | [] => ⟨true, { c with top := .fin .normal }, h, .no, .no⟩
 | _ =>
  match u, (Region.ready .any a s).find? (xTak n a c.f) with
  | u' + 1, some i =>
   match a[i]? with
   | some o => xhp P n a s u' L0 i o c h
   | none => ⟨false, c, h, .no, .no⟩
  | _, _ => ⟨false, c, h, .no, .no⟩
def xcode (P : Program) (n : Nat) (x : Code) (c : Xc) : Bool × Xc :=
 match x with
 | .skip => (true, { c with top := .fin .normal })
 | .region _ a false => (true, { c with top := .ops a a.toList })
 | .region _ a true => bif P.follows .mixedOrders && Region.lexB .any a && a.toList.all xQuiet then (true, { c with top := .qps a a.toList }) else (false, c)
 | .seq a b => (true, { c with top := .code a, k := .code b :: c.k })
 | .block id b => (true, { c with top := .code b, k := .blk id :: c.k })
 | .exit id => (true, { c with top := .fin (.exit id) })
 | .ret => (true, { c with top := .fin .ret })
 | .cond o a b =>
  match ev n c.f o with
  | .bool true => (true, { c with top := .code a })
  | .bool false => (true, { c with top := .code b })
  | _ => (false, c)
 | _ => (false, c)
def xfin (e : Exit) (c : Xc) : Bool × Xc :=
 match c.k, e with
 | .code b :: k, .normal => (true, { c with top := .code b, k := k })
 | .code _ :: k, .exit id => (true, { c with top := .fin (.exit id), k := k })
 | .code _ :: k, .ret => (true, { c with top := .fin .ret, k := k })
 | .blk _ :: k, .normal => (true, { c with top := .fin .normal, k := k })
 | .blk id :: k, .exit id' => (true, { c with top := .fin (bif Nat.beq id' id then .normal else .exit id'), k := k })
 | .blk _ :: k, .ret => (true, { c with top := .fin .ret, k := k })
 | .lp _ _ :: k, .exit id => (true, { c with top := .fin (.exit id), k := k })
 | .lp _ _ :: k, .ret => (true, { c with top := .fin .ret, k := k })
 | .tl a r :: k, .normal => (true, { c with top := .ops a r, k := k })
 | .rd b (m + 1) :: k, .normal => (true, { c with top := .code b, k := .rd b m :: k })
 | .rd _ _ :: k, .exit id => (true, { c with top := .fin (.exit id), k := k })
 | .rd _ _ :: k, .ret => (true, { c with top := .fin .ret, k := k })
 | _, _ => (false, c)
def dV (P : Program) (n : Nat) (c : Xc) (h : List Nat) : XS :=
 match c.top with
 | .ops _ [] => ⟨true, { c with top := .fin .normal }, h, .no, .no⟩
 | .ops a (o :: r) => xop P n false a o r c h
 | .qps _ [] => ⟨true, { c with top := .fin .normal }, h, .no, .no⟩
 | .qps a (o :: r) => xop P n true a o r c h
 | .hps a s u L0 => xhs P n a s u L0 c h
 | .hst _ _ _ _ _ => ⟨false, c, h, .no, .no⟩
 | .code x => ⟨(xcode P n x c).1, (xcode P n x c).2, h, .no, .no⟩
 | .fin e => ⟨(xfin e c).1, (xfin e c).2, h, .no, .no⟩
def xdst (n : Nat) (c : Xc) : Option Tmp :=
 match c.top with
 | .ops _ (o :: _) => o.dst
 | .qps _ (o :: _) => o.dst
 | .hps a s _ _ =>
  match (Region.ready .any a s).find? (xTak n a c.f) with
  | some i => (a.getD i default).dst
  | none => none
 | _ => none
def xisd (d : Option Tmp) (t : Nat) : Bool := match d with
 | some d => Nat.beq d t
 | none => false
def xhit (n t : Nat) (c : Xc) : Bool := xisd (xdst n c) t
def xlen : List XIt → Nat
 | [] => 0
 | _ :: k => xlen k + 1
def xAt (m : Nat) : Nat := Nat.add m 90000
def xCt (d : Nat) : Nat := Nat.add d 70000
def xend (t : Nat) (c : Xc) : Bool :=
 match c.top with
 | .fin .normal => Nat.beq (xAt (xlen c.k)) t
 | _ => false
def xcnd (t : Nat) (c : Xc) : Bool :=
 match c.top with
 | .code (.cond (.tmp d) _ _) => Nat.beq d t
 | _ => false
noncomputable def xpre (n t : Nat) (c : Xc) : Bool := @Bool.rec (fun _ => Bool) false (@Bool.rec (fun _ => Bool) (@Bool.rec (fun _ => Bool) (xisd (xdst n c) (t - 50000)) (xcnd (t - 70000) c) (Nat.ble 70000 t)) (xend t c) (Nat.ble 90000 t)) (Nat.ble 50000 t)
inductive Fuel1 where
 | z
 | s (m : Fuel1)
def fuel5 (m : Fuel1) : Fuel1 := .s (.s (.s (.s (.s m))))
def fuel25 (m : Fuel1) : Fuel1 := fuel5 (fuel5 (fuel5 (fuel5 (fuel5 m))))
def fuel125 (m : Fuel1) : Fuel1 := fuel25 (fuel25 (fuel25 (fuel25 (fuel25 m))))
def fuelA : Fuel1 := fuel125 (fuel125 (fuel125 .z))
inductive Fuel2 where
 | z
 | s (m : Fuel2)
def fuel12 : Fuel1 → Fuel2
 | .z => .z
 | .s m => .s (fuel12 m)
def fuelB : Fuel2 := fuel12 fuelA
noncomputable def xH (P : Program) (n t : Nat) : Fuel1 → List Nat → Xc → Xc
 | .z, _, c => c
 | .s m, h, c => @Bool.rec (fun _ => Xc) (@Bool.rec (fun _ => Xc) (dV P n c h).c (xH P n t m (dV P n c h).h (dV P n c h).c) ((dV P n c h).go && !xhit n t c)) c (xpre n t c)
noncomputable def xl (P : Program) (n t : Nat) : Fuel1 → List Nat → Xc → List XK
 | .z, _, _ => []
 | .s m, h, c => @Bool.rec (fun _ => List XK) ((dV P n c h).l :: @Bool.rec (fun _ => List XK) [] (xl P n t m (dV P n c h).h (dV P n c h).c) ((dV P n c h).go && !xhit n t c)) [] (xpre n t c)
noncomputable def xr (P : Program) (n t : Nat) : Fuel2 → List Nat → Xc → List XK
 | .z, _, _ => []
 | .s m, h, c => @Bool.rec (fun _ => List XK) ((dV P n c h).r :: @Bool.rec (fun _ => List XK) [] (xr P n t m (dV P n c h).h (dV P n c h).c) ((dV P n c h).go && !xhit n t c)) [] (xpre n t c)
section
variable {M : List Nat} {P : Program} {n : Nat} {W : World} {Q : Exit → Act → World → Prop}
theorem xop_ok {a : Array Oper} {o : Oper} {r : List Oper} {k : List XIt} {L : List Blk} {f : Nat → Value} {h : List Nat} (hk : (xop P n false a o r ⟨.ops a (o :: r), k, L, f⟩ h).l = (xop P n false a o r ⟨.ops a (o :: r), k, L, f⟩ h).r)
  (hg : zI M P n W Q (xop P n false a o r ⟨.ops a (o :: r), k, L, f⟩ h).c) : zI M P n W Q ⟨.ops a (o :: r), k, L, f⟩ := by
 unfold xop at hk hg
 cases hw : zT a n f o with
 | false => rw [hw] at hk hg; exact ⟨fun hq => s_skip hw (hg.go hq)⟩
 | true =>
  rw [hw] at hk hg
  cases ho : o.op with
  | load ty p =>
   rw [ho] at hk hg
   simp only [XK.ld.injEq] at hk
   exact ⟨fun hq => nW (xhd h) _ _ hw ho hk.2.1 hk.1 hk.2.2 (hg.go hq)⟩
  | store T p y =>
   rw [ho] at hk hg
   cases hd : o.dst with
   | some d => rw [hd] at hg; exact hg
   | none =>
    rw [hd] at hk hg
    simp only [XK.st.injEq] at hk
    exact ⟨fun hq => s_store_at (xhd h) _ (ev n f y) hw ho hd hk.2.1 hk.1 rfl hk.2.2.1 hk.2.2.2 (hg.go hq)⟩
  | _ =>
   rw [ho] at hk hg
   dsimp only at hk hg
   split at hk
   ·rename_i hp
    rw [hp] at hg
    exact ⟨fun hq => yB _ hw (fun w => congrFun (XK.r.inj hk) w) (hg.go hq)⟩
   ·rename_i hp
    rw [hp] at hg
    exact hg
theorem xqp_ok {a : Array Oper} {o : Oper} {r : List Oper} {k : List XIt} {L : List Blk} {f : Nat → Value} {h : List Nat} (hk : (xop P n true a o r ⟨.qps a (o :: r), k, L, f⟩ h).l = (xop P n true a o r ⟨.qps a (o :: r), k, L, f⟩ h).r)
  (hg : zI M P n W Q (xop P n true a o r ⟨.qps a (o :: r), k, L, f⟩ h).c) : zI M P n W Q ⟨.qps a (o :: r), k, L, f⟩ := by
 unfold xop at hk hg
 cases hw : zT a n f o with
 | false => rw [hw] at hk hg; exact ⟨fun hq => q_skip hw (hg.go hq)⟩
 | true =>
  rw [hw] at hk hg
  cases ho : o.op with
  | load ty p =>
   rw [ho] at hk hg
   simp only [XK.ld.injEq] at hk
   exact ⟨fun hq => q_load (xhd h) _ _ hw ho hk.2.1 hk.1 hk.2.2 (hg.go hq)⟩
  | store T p y => rw [ho] at hk hg; exact hg
  | _ =>
   rw [ho] at hk hg
   dsimp only at hk hg
   split at hk
   ·rename_i hp
    rw [hp] at hg
    exact ⟨fun hq => wL _ hw (fun w => congrFun (XK.r.inj hk) w) (hg.go hq)⟩
   ·rename_i hp
    rw [hp] at hg
    exact hg
theorem ok_drawA {id : Nat} {a : Array Oper} {L : List Blk} {f : Nat → Value} {Q : Exit → Act → World → Prop} (hm : P.follows .mixedOrders = true) (hB : Region.lexB .any a = true) (h : jL M P n a W (Fin M n W Q .normal) a.toList L f) : Ok M P n W Q (.region id a true) L f := by
 obtain ⟨l, rfl⟩ : ∃ l : List Oper, a = l.toArray := ⟨a.toList, by simp⟩
 exact ok_draw hm hB (by simpa using h)
theorem ok_regA {id : Nat} {a : Array Oper} {L : List Blk} {f : Nat → Value} {Q : Exit → Act → World → Prop} (h : Seg M P n a W Q a.toList L f) : Ok M P n W Q (.region id a false) L f := by
 obtain ⟨l, rfl⟩ : ∃ l : List Oper, a = l.toArray := ⟨a.toList, by simp⟩
 exact zG (by simpa using h)
theorem xcode_ok {x : Code} {k : List XIt} {L : List Blk} {f : Nat → Value} (hg : zI M P n W Q (xcode P n x ⟨.code x, k, L, f⟩).2) : zI M P n W Q ⟨.code x, k, L, f⟩ := by
 cases x with
 | skip => exact ⟨fun hq => p6 (hg.go hq)⟩
 | region id a d =>
  cases d with
  | false => exact ⟨fun hq => ok_regA (hg.go hq)⟩
  | true =>
   unfold xcode at hg
   dsimp only at hg
   revert hg
   cases hb : (P.follows .mixedOrders && Region.lexB .any a && a.toList.all xQuiet) with
   | false => exact fun hg => hg
   | true =>
    intro hg
    rw [Bool.and_eq_true, Bool.and_eq_true] at hb
    exact ⟨fun hq => ok_drawA hb.1.1 hb.1.2 (hg.go hq)⟩
 | seq a b => exact ⟨fun hq => zH (hg.go hq)⟩
 | cond o a b =>
  unfold xcode at hg
  dsimp only at hg
  split at hg
  ·rename_i e; exact ⟨fun hq => ok_true e (hg.go hq)⟩
  ·rename_i e; exact ⟨fun hq => ok_false e (hg.go hq)⟩
  ·exact hg
 | block id b => exact ⟨fun hq => yN (hg.go hq)⟩
 | exit id => exact ⟨fun hq => jZ (hg.go hq)⟩
 | ret => exact ⟨fun hq => zL (hg.go hq)⟩
 | _ => exact hg
theorem xfin_ok {e : Exit} {k : List XIt} {L : List Blk} {f : Nat → Value} (hg : zI M P n W Q (xfin e ⟨.fin e, k, L, f⟩).2) : zI M P n W Q ⟨.fin e, k, L, f⟩ := by
 cases k with
 | nil => exact hg
 | cons i k =>
  cases i with
  | code b => cases e with
   | normal => exact ⟨fun hq => zJ (hg.go hq)⟩
   | exit id => exact ⟨fun hq => yV (hg.go hq)⟩
   | ret => exact ⟨fun hq => z7 (hg.go hq)⟩
   | _ => exact hg
  | blk id => cases e with
   | normal => exact ⟨fun hq => y7 (hg.go hq)⟩
   | exit id' =>
    cases hb : Nat.beq id' id with
    | true =>
     obtain rfl := Nat.eq_of_beq_eq_true hb
     have hg' := hg.go
     simp only [xfin, hb, cond_true] at hg'
     exact ⟨fun hq => yR (hg' hq)⟩
    | false =>
     have hne : id' ≠ id := fun e => by rw [e, Nat.beq_refl] at hb; cases hb
     have hg' := hg.go
     simp only [xfin, hb, cond_false] at hg'
     exact ⟨fun hq => fin_block_other hne (hg' hq)⟩
   | ret => exact ⟨fun hq => zA (hg.go hq)⟩
   | _ => exact hg
  | lp I m => cases e with
   | exit id => exact ⟨fun hq => yQ (hg.go hq)⟩
   | ret => exact ⟨fun hq => zR (hg.go hq)⟩
   | _ => exact hg
  | tl a r => cases e with
   | normal => exact ⟨fun hq => ⟨(hg.go hq).go⟩⟩
   | _ => exact hg
  | rd b m => cases m with
   | zero => cases e with
    | exit id => exact ⟨fun hq => yV (hg.go hq)⟩
    | ret => exact ⟨fun hq => z7 (hg.go hq)⟩
    | _ => exact hg
   | succ m => cases e with
    | normal => exact ⟨fun hq => ⟨(hg.go hq).go⟩⟩
    | exit id => exact ⟨fun hq => yV (hg.go hq)⟩
    | ret => exact ⟨fun hq => z7 (hg.go hq)⟩
    | _ => exact hg
theorem xhs_ok {a : Array Oper} {s : Array Bool} {u : Nat} {L0 : List Blk} {k : List XIt} {L : List Blk} {f : Nat → Value} {h : List Nat} (hk : (xhs P n a s u L0 ⟨.hps a s u L0, k, L, f⟩ h).l = (xhs P n a s u L0 ⟨.hps a s u L0, k, L, f⟩ h).r)
  (hg : zI M P n W Q (xhs P n a s u L0 ⟨.hps a s u L0, k, L, f⟩ h).c) : zI M P n W Q ⟨.hps a s u L0, k, L, f⟩ := by
 unfold xhs at hk hg
 split at hk
 ·rename_i hr
  rw [hr] at hg
  exact ⟨fun hq hs => h_done hr (hg.go hq)⟩
 ·rename_i hr
  split at hg
  ·rename_i e; exact absurd e hr
  split at hk
  ·rename_i u' i hf
   rw [hf] at hg
   dsimp only at hg
   have ht := List.find?_some hf
   unfold xTak at ht
   cases ho : a[i]? with
   | none => rw [ho] at hg; exact hg
   | some o =>
    rw [ho] at hk hg ht
    dsimp only at hk hg ht
    unfold xhp at hk hg
    have fin3 : ∀ {b1 b2 b3 : Bool}, (b1 && b2 && b3) = true → b1 = true ∧ b2 = true ∧ b3 = true := fun {b1 b2 b3} h => by cases b1 <;> cases b2 <;> cases b3 <;> simp_all
    cases hw : zT a n f o with
    | false =>
     rw [hw] at hk hg
     simp only [XK.h.injEq] at hk
     obtain ⟨e1, e2, e3⟩ := fin3 hk.1
     exact ⟨fun hq hs => hl_skip i o ho e1 e2 e3 (pq_KQ hq k) hs hw (hg.go hq hs)⟩
    | true =>
     rw [hw] at hk hg ht
     dsimp only at ht
     cases hop : o.op with
     | load ty p =>
      rw [hop] at hk hg
      simp only [XK.h.injEq, XK.ld.injEq] at hk
      obtain ⟨e1, e2, e3⟩ := fin3 hk.1
      exact ⟨fun hq hs => hl_load i o (xhd h) _ _ ho e1 e2 e3 (pq_KQ hq k) hs hw hop hk.2.2.2.1 hk.2.2.1 hk.2.2.2.2 (hg.go hq hs)⟩
     | _ =>
      rw [hop] at hk hg
      dsimp only at hk hg
      have e0 := XK.h.inj hk
      obtain ⟨e1, e2, e3⟩ := fin3 e0.1
      exact ⟨fun hq hs => hl_take i o _ ho e1 e2 e3 (pq_KQ hq k) hs hw (fun w _ => congrFun (XK.r.inj e0.2.2) w) (hg.go hq hs)⟩
  ·rename_i hno
   split at hg
   ·rename_i u' i hf; exact absurd hf (hno u' i rfl)
   ·exact hg
theorem xstep_ok {c : Xc} {h : List Nat} (hk : (dV P n c h).l = (dV P n c h).r) (hg : zI M P n W Q (dV P n c h).c) : zI M P n W Q c := by
 obtain ⟨top, k, L, f⟩ := c
 cases top with
 | ops a r => cases r with
  | nil => exact ⟨fun hq => yC (hg.go hq)⟩
  | cons o r => exact xop_ok hk hg
 | qps a r => cases r with
  | nil => exact ⟨fun hq => tB (hg.go hq)⟩
  | cons o r => exact xqp_ok hk hg
 | hps a s u L0 =>
  change (xhs P n a s u L0 ⟨.hps a s u L0, k, L, f⟩ h).l = (xhs P n a s u L0 ⟨.hps a s u L0, k, L, f⟩ h).r at hk
  change zI M P n W Q (xhs P n a s u L0 ⟨.hps a s u L0, k, L, f⟩ h).c at hg
  exact xhs_ok hk hg
 | hst a s u L0 i => exact hg
 | code x => exact xcode_ok hg
 | fin e => exact xfin_ok hg
theorem xrun_ok {t : Nat} : ∀ (m : Fuel1) (h : List Nat) (c : Xc), xl P n t m h c = xr P n t (fuel12 m) h c → zI M P n W Q (xH P n t m h c) → zI M P n W Q c
 | .z, _, _, _, hg => hg
 | .s m, h, c, hk, hg => by
  unfold xl fuel12 xr at hk
  unfold xH at hg
  cases hp : xpre n t c with
  | true => simp only [hp] at hg; exact hg
  | false =>
   simp only [hp] at hk hg
   cases hb : (dV P n c h).go && !xhit n t c with
   | true =>
    simp only [hb] at hk hg
    have h2 := List.cons.inj hk
    exact xstep_ok h2.1 (xrun_ok m _ _ h2.2 hg)
   | false =>
    simp only [hb] at hk hg
    exact xstep_ok (List.cons.inj hk).1 hg
end
end
section
abbrev nS : Nat := 40000
noncomputable def xgo (P : Program) (n t : Nat) (h : List Nat) (c : Xc) : Xc := xH P n t fuelA h c
noncomputable def xgl (P : Program) (n t : Nat) (h : List Nat) (c : Xc) : List XK := xl P n t fuelA h c
noncomputable def xgr (P : Program) (n t : Nat) (h : List Nat) (c : Xc) : List XK := xr P n t fuelB h c
theorem zP {M : List Nat} {P : Program} {n t : Nat} {W : World} {Q : Exit → Act → World → Prop} (h : List Nat) (c : Xc) (hk : xgl P n t h c = xgr P n t h c) (hg : zI M P n W Q (xgo P n t h c)) : zI M P n W Q c := xrun_ok fuelA h c hk hg
def xA (c : Xc) : Array Oper := match c.top with
 | .ops a _ => a
 | .qps a _ => a
 | .hps a _ _ _ => a
 | .hst a _ _ _ _ => a
 | _ => #[]
def xL (c : Xc) : List Oper := match c.top with
 | .ops _ r => r
 | .qps _ r => r
 | _ => []
def xO (c : Xc) : Oper := match c.top with
 | .hst a _ _ _ i => a.getD i default
 | _ => (xL c).headD default
def xT (c : Xc) : List Oper := (xL c).tail
def xC (c : Xc) : Code := match c.top with
 | .code x => x
 | _ => .skip
def pI (c : Xc) : Code := match xC c with
 | .loop b => b
 | _ => .skip
def xTy (o : Oper) : TypeId := match o.op with
 | .alloc T => T
 | .box T _ => T
 | _ => 0
def xZ (P : Program) (o : Oper) : Value := ((P.info? (xTy o)).bind (·.zero)).getD undef
def xX (n : Nat) (f : Nat → Value) (o : Oper) : Value := match o.op with
 | .box _ x => ev n f x
 | _ => undef
def xBx (o : Oper) : Operand := match o.op with
 | .box _ x => x
 | _ => .tmp 0
def Xc.st (c : Xc) (t : Nat) (v : Value) : Xc := { c with f := upd c.f (some t) v }
def Xc.put (c : Xc) (v : Value) : Xc := match c.top with
 | .ops a (o :: r) => ⟨.ops a r, c.k, c.L, upd c.f o.dst v⟩
 | .qps a (o :: r) => ⟨.qps a r, c.k, c.L, upd c.f o.dst v⟩
 | .hst a s u L0 i => ⟨.hps a (s.setIfInBounds i true) u L0, c.k, c.L, upd c.f (a.getD i default).dst v⟩
 | _ => c
def xEnt (P : Program) (n : Nat) (c : Xc) : XR := match c.top with
 | .ops a (o :: _) => bif zT a n c.f o then (fun w => (execOp (ev n c.f) o).run P w) else fun w => .ok .skip w
 | .qps a (o :: _) => bif zT a n c.f o then (fun w => (execOp (ev n c.f) o).run P w) else fun w => .ok .skip w
 | .hst a _ _ _ i => bif zT a n c.f (a.getD i default) then (fun w => (execOp (ev n c.f) (a.getD i default)).run P w) else fun w => .ok .skip w
 | _ => fun w => .ok .skip w
def xNew (c : Xc) (x : Blk) : Xc := ⟨.ops (xA c) (xT c), c.k, x :: c.L, upd c.f (xO c).dst (.pointer (some ⟨x.b, 0, none⟩))⟩
def xQ (c : Xc) : Bool := match c.top with
 | .qps _ _ => true
 | .hps _ _ _ _ => true
 | .hst _ _ _ _ _ => true
 | _ => false
def xAdd (c : Xc) (ob : List Blk) : Xc := { c with L := c.L ++ ob }
section
variable {M : List Nat} {P : Program} {n : Nat} {W : World} {Q : Exit → Act → World → Prop} {c : Xc}
theorem ent_ne {k : FuncId} {args : Array Value} (h : (fun w : World => (Result.ok Next.skip w)) = fun w => .ok (.enter k args) w) : False := by
 have := congrFun h default
 simp at this
theorem no_ent {P : Program} {n : Nat} {f : Nat → Value} {k : FuncId} {args : Array Value} (h : (fun w : World => (execOp (ev n f) (default : Oper)).run P w) = fun w => .ok (.enter k args) w) : False := by
 have := congrFun h default
 unfold execOp at this
 simp [default, instInhabitedOper.default, instInhabitedOp.default] at this
theorem xput_call {k : FuncId} {args : Array Value} {v : Value} (hc : ∀ w, Own M W w c.L → Calls P k args w (YR v w)) (hg : zI M P n W Q (c.put v))
  (he : xEnt P n c = fun w => .ok (.enter k args) w) : zI M P n W Q c := by
 obtain ⟨top, kk, L, f⟩ := c
 unfold xEnt at he
 unfold Xc.put at hg
 dsimp only at he hg hc
 cases top with
 | ops a r => cases r with
  | nil => exact (ent_ne he).elim
  | cons o r =>
   dsimp only at he hg
   cases hw : zT a n f o with
   | false => rw [hw] at he; exact (ent_ne he).elim
   | true => rw [hw] at he; exact ⟨fun hq => s_call v hw (fun w => congrFun he w) hc (hg.go hq)⟩
 | qps a r => cases r with
  | nil => exact (ent_ne he).elim
  | cons o r =>
   dsimp only at he hg
   cases hw : zT a n f o with
   | false => rw [hw] at he; exact (ent_ne he).elim
   | true => rw [hw] at he; exact ⟨fun hq => q_call v hw (fun w => congrFun he w) hc (hg.go hq)⟩
 | hst a s u L0 i =>
  dsimp only at he hg
  cases hw : zT a n f (a.getD i default) with
  | false => rw [hw] at he; exact (ent_ne he).elim
  | true =>
   rw [hw] at he
   cases ha : a[i]? with
   | none =>
    have hd : a.getD i default = default := by rw [Array.getD_eq_getD_getElem?, ha]; rfl
    rw [hd] at he
    exact (no_ent (P := P) (n := n) he).elim
   | some o =>
    have hd : a.getD i default = o := by rw [Array.getD_eq_getD_getElem?, ha]; rfl
    rw [hd] at he hg hw
    exact ⟨fun hq hs => hl_call o v ha hw hs (fun w => congrFun he w) hc (hg.go hq hs)⟩
 | _ => exact (ent_ne he).elim
theorem zE {k : FuncId} {args : Array Value} {v : Value} (h : List Nat) (hc : ∀ w, Own M W w (xgo P n nS h c).L → Calls P k args w (YR v w)) (hg : zI M P n W Q ((xgo P n nS h c).put v))
  (hkt : (xgl P n nS h c, xEnt P n (xgo P n nS h c)) = (xgr P n nS h c, (fun w => .ok (.enter k args) w)) := by kernel_rfl) : zI M P n W Q c :=  by
 obtain ⟨hk, he⟩ := Prod.mk.inj hkt
 exact zP h c hk (xput_call hc hg he)
theorem qP {k : FuncId} {args : Array Value} {R : Value → List Blk → Prop} (h : List Nat) (hc : ∀ w, Own M W w (xgo P n nS h c).L → Calls P k args w fun e w' => ∃ v ob, e = .returned v ∧ R v ob ∧ Own [] w w' ob)
  (hg : ∀ v ob, R v ob → zI M P n W Q (xAdd ((xgo P n nS h c).put v) ob)) (hkt : (xgl P n nS h c, ((xgo P n nS h c).top, zT (xA (xgo P n nS h c)) n (xgo P n nS h c).f (xO (xgo P n nS h c)))) = (xgr P n nS h c, (.ops (xA (xgo P n nS h c)) (xO (xgo P n nS h c) :: xT (xgo P n nS h c)), true)) := by kernel_rfl)
  (he : xEnt P n (xgo P n nS h c) = (fun w => .ok (.enter k args) w) := by kernel_rfl) : zI M P n W Q c := by
 obtain ⟨hk, ht⟩ := Prod.mk.inj hkt
 refine zP h c hk ?_
 generalize xgo P n nS h c = d at hc hg ht he ⊢
 obtain ⟨top, kk, L, f⟩ := d
 generalize hA : xA ⟨top, kk, L, f⟩ = a at ht
 generalize hO : xO ⟨top, kk, L, f⟩ = o at ht
 generalize hT : xT ⟨top, kk, L, f⟩ = r at ht
 simp only [Prod.mk.injEq] at ht
 obtain ⟨rfl, hw⟩ := ht
 have hg' : ∀ v ob, R v ob → zI M P n W Q ⟨.ops a r, kk, L ++ ob, upd f o.dst v⟩ := hg
 simp only [xEnt, hw, cond_true] at he
 refine ⟨fun hq => s_callx (fun v L' => ∃ ob, L' = L ++ ob ∧ R v ob) hw (fun w => congrFun he w) (fun w hO => ((hc w hO).mono fun e w' ⟨v, ob, e1, e2, e3⟩ => ⟨v, L ++ ob, e1, ⟨ob, rfl, e2⟩, (Own.joinN hO e3).perm List.perm_append_comm⟩)) ?_⟩
 rintro v L' ⟨ob, rfl, hR⟩
 exact (hg' v ob hR).go hq
def xW0 (n : Nat) (c : Xc) : Bool := match c.top with
 | .ops a (o :: _) => zT a n c.f o
 | .hst a _ _ _ i => zT a n c.f (a.getD i default) && decide (i < a.size)
 | _ => false
theorem m8 {k : FuncId} {args : Array Value} {R : Value → Prop} (h : List Nat) (hc : ∀ w, Own M W w (xgo P n nS h c).L → Calls P k args w fun e w' => ∃ v, e = .returned v ∧ R v ∧ Below w.heap.size w w') (hg : ∀ v, R v → zI M P n W Q ((xgo P n nS h c).put v))
  (hkt : (xgl P n nS h c, xW0 n (xgo P n nS h c), xEnt P n (xgo P n nS h c)) = (xgr P n nS h c, true, fun w => .ok (.enter k args) w) := by kernel_rfl) : zI M P n W Q c := by
 simp only [Prod.mk.injEq] at hkt
 obtain ⟨hk, e1, e2⟩ := hkt
 refine zP h c hk ?_
 generalize xgo P n nS h c = d at *
 obtain ⟨top, kk, L, f⟩ := d
 unfold xW0 at e1
 unfold xEnt at e2
 cases top with
 | ops a r => cases r with
  | nil => cases e1
  | cons o r =>
   dsimp only at e1 e2
   rw [e1] at e2
   have hg' : ∀ v, R v → zI M P n W Q ⟨.ops a r, kk, L, upd f o.dst v⟩ := hg
   refine ⟨fun hq => s_callx (fun v L' => L' = L ∧ R v) e1 (fun w => congrFun e2 w) (fun w hO => (hc w hO).mono fun e w' ⟨v, q1, q2, q3⟩ => ⟨v, L, q1, ⟨rfl, q2⟩, hO.on q3⟩) ?_⟩
   rintro v L' ⟨rfl, hR⟩
   exact (hg' v hR).go hq
 | hst a s u L0 i =>
  dsimp only at e1 e2
  rw [Bool.and_eq_true] at e1
  obtain ⟨hw, hi⟩ := e1
  have hi' : i < a.size := of_decide_eq_true hi
  rw [hw] at e2
  have hd : a[i]? = some (a.getD i default) := by rw [Array.getElem?_eq_getElem hi']; simp [Array.getD, hi']
  have hg' : ∀ v, R v → zI M P n W Q ⟨.hps a (s.setIfInBounds i true) u L0, kk, L, upd f (a.getD i default).dst v⟩ := hg
  refine ⟨fun hq hs => tK (a.getD i default) (fun v L' => L' = L ∧ R v) hd hw (fun w => congrFun e2 w) (fun w hO => (hc w hO).mono fun e w' ⟨v, q1, q2, q3⟩ => ⟨v, L, q1, ⟨rfl, q2⟩, hO.on q3⟩) (fun v L' ⟨e, _⟩ w hO => by subst e; exact hs w hO) ?_⟩
  rintro v L' ⟨rfl, hR⟩
  exact (hg' v hR).go hq hs
 | _ => cases e1
theorem pF (t : Nat) (h : List Nat) (v : Value) (hv : (xgo P n t h c).f t = v) (hg : zI M P n W Q ((xgo P n t h c).st t v)) (hk : xgl P n t h c = xgr P n t h c := by kernel_rfl) : zI M P n W Q c := by
 refine zP h c hk ?_
 unfold Xc.st at hg
 rw [← mX hv] at hg
 exact hg
theorem y8 (t : Nat) (h : List Nat) (p : Prop) [Decidable p] (h1 : p → zI M P n W Q ((xgo P n t h c).st t (.bool true))) (h2 : ¬ p → zI M P n W Q ((xgo P n t h c).st t (.bool false)))
  (hkt : (xgl P n t h c, (xgo P n t h c).f t) = (xgr P n t h c, .bool (decide p)) := by kernel_rfl) : zI M P n W Q c := by
 obtain ⟨hk, hv⟩ := Prod.mk.inj hkt
 by_cases hp : p
 ·exact pF t h _ (hv.trans (by rw [decide_eq_true hp])) (h1 hp) hk
 ·exact pF t h _ (hv.trans (by rw [decide_eq_false hp])) (h2 hp) hk
theorem x_bn (t : Nat) (h : List Nat) (p : Prop) [Decidable p] (h1 : p → zI M P n W Q ((xgo P n t h c).st t (.bool false))) (h2 : ¬ p → zI M P n W Q ((xgo P n t h c).st t (.bool true)))
  (hkt : (xgl P n t h c, (xgo P n t h c).f t) = (xgr P n t h c, .bool (!decide p)) := by kernel_rfl) : zI M P n W Q c := by
 obtain ⟨hk, hv⟩ := Prod.mk.inj hkt
 by_cases hp : p
 ·exact pF t h _ (hv.trans (by rw [decide_eq_true hp]; rfl)) (h1 hp) hk
 ·exact pF t h _ (hv.trans (by rw [decide_eq_false hp]; rfl)) (h2 hp) hk
theorem x_bb (t : Nat) (h : List Nat) (b : Bool) (h1 : b = true → zI M P n W Q ((xgo P n t h c).st t (.bool true))) (h2 : b = false → zI M P n W Q ((xgo P n t h c).st t (.bool false)))
  (hkt : (xgl P n t h c, (xgo P n t h c).f t) = (xgr P n t h c, .bool b) := by kernel_rfl) : zI M P n W Q c := by
 obtain ⟨hk, hv⟩ := Prod.mk.inj hkt
 cases b with
 | true => exact pF t h _ hv (h1 rfl) hk
 | false => exact pF t h _ hv (h2 rfl) hk
theorem x_sum {k : IntKind} (t : Nat) (h : List Nat) (z : Int) (hz : k.wrap z = z) (hg : zI M P n W Q ((xgo P n t h c).st t (.int k z)))
  (hkt : (xgl P n t h c, (xgo P n t h c).f t) = (xgr P n t h c, .int k (k.wrap z)) := by kernel_rfl) : zI M P n W Q c :=  by
 obtain ⟨hk, hv⟩ := Prod.mk.inj hkt
 exact pF t h _ (hv.trans (by rw [hz])) hg hk
theorem yG (h : List Nat) (L' : List Blk) (hs : ∀ w, Own M W w (xgo P n nS h c).L → Own M W w L') (hg : zI M P n W Q { xgo P n nS h c with L := L' }) (hk : xgl P n nS h c = xgr P n nS h c := by kernel_rfl) (hqq : xQ (xgo P n nS h c) = false := by kernel_rfl) : zI M P n W Q c := by
 refine zP h c hk ?_
 generalize xgo P n nS h c = d at hs hg hqq ⊢
 obtain ⟨top, kk, L, f⟩ := d
 cases top with
 | ops a r => exact ⟨fun hq => dR hs (hg.go hq)⟩
 | code x => exact ⟨fun hq => ok_take hs (hg.go hq)⟩
 | fin e => exact ⟨fun hq => jV hs (hg.go hq)⟩
 | _ => cases hqq
theorem zV (h : List Nat) (hg : ∀ b, zI M P n W Q (xNew (xgo P n nS h c) ⟨b, (xZ P (xO (xgo P n nS h c))).cells, xTy (xO (xgo P n nS h c))⟩)) (hkt : (xgl P n nS h c, ((xgo P n nS h c).top, zT (xA (xgo P n nS h c)) n (xgo P n nS h c).f (xO (xgo P n nS h c)), (xO (xgo P n nS h c)).op, (P.info? (xTy (xO (xgo P n nS h c)))).map (·.zero))) = (xgr P n nS h c, (.ops (xA (xgo P n nS h c)) (xO (xgo P n nS h c) :: xT (xgo P n nS h c)), true, .alloc (xTy (xO (xgo P n nS h c))), some (some (xZ P (xO (xgo P n nS h c)))))) := by kernel_rfl) : zI M P n W Q c := by
 obtain ⟨hk, ht⟩ := Prod.mk.inj hkt
 refine zP h c hk ?_
 generalize xgo P n nS h c = d at hg ht ⊢
 simp only [Prod.mk.injEq] at ht
 obtain ⟨e1, e2, e3, e4⟩ := ht
 have key := fun hq => s_alloc_at (M := M) (W := W) (Q := KQ M P n W Q d.k) (rest := xT d) (L := d.L) _ e2 e3 e4 fun b => (hg b).go hq
 have : d = ⟨.ops (xA d) (xO d :: xT d), d.k, d.L, d.f⟩ := by rw [← e1]
 rw [this]
 exact ⟨key⟩
theorem wK (h : List Nat) (hg : ∀ b, zI M P n W Q (xNew (xgo P n nS h c) ⟨b, (xX n (xgo P n nS h c).f (xO (xgo P n nS h c))).cells, xTy (xO (xgo P n nS h c))⟩))
  (hkt : (xgl P n nS h c, (xgo P n nS h c).top, zT (xA (xgo P n nS h c)) n (xgo P n nS h c).f (xO (xgo P n nS h c)), (xO (xgo P n nS h c)).op)
   = (xgr P n nS h c, .ops (xA (xgo P n nS h c)) (xO (xgo P n nS h c) :: xT (xgo P n nS h c)), true, .box (xTy (xO (xgo P n nS h c))) (xBx (xO (xgo P n nS h c)))) := by kernel_rfl) : zI M P n W Q c := by
 simp only [Prod.mk.injEq] at hkt
 obtain ⟨hk, e1, e2, e3⟩ := hkt
 refine zP h c hk ?_
 generalize xgo P n nS h c = d at *
 have hx : xX n d.f (xO d) = ev n d.f (xBx (xO d)) := by unfold xX; rw [e3]
 rw [hx] at hg
 have key := fun hq => s_box (M := M) (W := W) (Q := KQ M P n W Q d.k) (rest := xT d) (L := d.L) (ev n d.f (xBx (xO d))) e2 e3 rfl fun b => (hg b).go hq
 have : d = ⟨.ops (xA d) (xO d :: xT d), d.k, d.L, d.f⟩ := by rw [← e1]
 rw [this]
 exact ⟨key⟩
def xDr (c : Xc) : Array Oper := match xC c with
 | .region _ a true => a
 | _ => #[]
def xId (c : Xc) : Nat := match xC c with
 | .region i _ _ => i
 | _ => 0
theorem pQ (m : Nat) (h : List Nat) (hg : zI M P n W Q ⟨.hps ((xDr (xgo P n nS h c)).toList.take m).toArray (Array.replicate m false) m (xgo P n nS h c).L, .tl (xDr (xgo P n nS h c)) ((xDr (xgo P n nS h c)).toList.drop m) :: (xgo P n nS h c).k, (xgo P n nS h c).L, (xgo P n nS h c).f⟩)
  (hkt : (xgl P n nS h c, (xgo P n nS h c).top, P.follows .mixedOrders, preB .any (xDr (xgo P n nS h c)).toList m) = (xgr P n nS h c, .code (.region (xId (xgo P n nS h c)) (xDr (xgo P n nS h c)) true), true, true) := by kernel_rfl) : zI M P n W Q c := by
 simp only [Prod.mk.injEq] at hkt
 obtain ⟨hk, e1, e2, e3⟩ := hkt
 refine zP h c hk ?_
 generalize xgo P n nS h c = d at hg e1 e3 ⊢
 generalize xDr d = a at hg e1 e3
 obtain ⟨l, rfl⟩ : ∃ l : List Oper, a = l.toArray := ⟨a.toList, by simp⟩
 have : d = ⟨.code (.region (xId d) l.toArray true), d.k, d.L, d.f⟩ := by rw [← e1]
 rw [this]
 have hg' : zI M P n W Q ⟨.hps (l.take m).toArray (Array.replicate m false) m d.L, .tl l.toArray (l.drop m) :: d.k, d.L, d.f⟩ := by simpa using hg
 exact ⟨fun hq => ok_drawh m d.L e2 (by simpa using e3) (hg'.go hq fun _ h => h)⟩
theorem xB (m : Nat) (h : List Nat) (L0 : List Blk) (hs : ∀ w, Own M W w (xgo P n nS h c).L → Own M W w L0) (hg : zI M P n W Q ⟨.hps ((xDr (xgo P n nS h c)).toList.take m).toArray (Array.replicate m false) m L0, .tl (xDr (xgo P n nS h c)) ((xDr (xgo P n nS h c)).toList.drop m) :: (xgo P n nS h c).k, (xgo P n nS h c).L, (xgo P n nS h c).f⟩)
  (hkt : (xgl P n nS h c, (xgo P n nS h c).top, P.follows .mixedOrders, preB .any (xDr (xgo P n nS h c)).toList m) = (xgr P n nS h c, .code (.region (xId (xgo P n nS h c)) (xDr (xgo P n nS h c)) true), true, true) := by kernel_rfl) : zI M P n W Q c := by
 simp only [Prod.mk.injEq] at hkt
 obtain ⟨hk, e1, e2, e3⟩ := hkt
 refine zP h c hk ?_
 generalize xgo P n nS h c = d at hs hg e1 e3 ⊢
 generalize xDr d = a at hg e1 e3
 obtain ⟨l, rfl⟩ : ∃ l : List Oper, a = l.toArray := ⟨a.toList, by simp⟩
 have : d = ⟨.code (.region (xId d) l.toArray true), d.k, d.L, d.f⟩ := by rw [← e1]
 rw [this]
 have hg' : zI M P n W Q ⟨.hps (l.take m).toArray (Array.replicate m false) m L0, .tl l.toArray (l.drop m) :: d.k, d.L, d.f⟩ := by simpa using hg
 exact ⟨fun hq => ok_drawh m L0 e2 (by simpa using e3) (hg'.go hq hs)⟩
def xS (c : Xc) : Array Bool := match c.top with
 | .hps _ s _ _ => s
 | _ => #[]
def xU (c : Xc) : Nat := match c.top with
 | .hps _ _ u _ => u.pred
 | _ => 0
def xL0 (c : Xc) : List Blk := match c.top with
 | .hps _ _ _ l => l
 | _ => []
def xHs (c : Xc) (i : Nat) : Xc := { c with top := .hst (xA c) (xS c) (xU c) (xL0 c) i }
theorem yH (h : List Nat) (i : Nat) (hg : zI M P n W Q (xHs (xgo P n nS h c) i))
  (hkt : (xgl P n nS h c, (xgo P n nS h c).top, Region.ready .any (xA (xgo P n nS h c)) (xS (xgo P n nS h c))) = (xgr P n nS h c, .hps (xA (xgo P n nS h c)) (xS (xgo P n nS h c)) (xU (xgo P n nS h c) + 1) (xL0 (xgo P n nS h c)), [i]) := by kernel_rfl) : zI M P n W Q c := by
 simp only [Prod.mk.injEq] at hkt
 obtain ⟨hk, e1, e2⟩ := hkt
 refine zP h c hk ?_
 generalize xgo P n nS h c = d at hg e1 e2 ⊢
 have : d = ⟨.hps (xA d) (xS d) (xU d + 1) (xL0 d), d.k, d.L, d.f⟩ := by rw [← e1]
 rw [this]
 exact ⟨fun hq hs => h_one i e2 (hg.go hq hs)⟩
theorem x_h2 (h : List Nat) (i j : Nat) (hg : zI M P n W Q (xHs (xgo P n nS h c) i)) (hg' : zI M P n W Q (xHs (xgo P n nS h c) j))
  (hkt : (xgl P n nS h c, (xgo P n nS h c).top, Region.ready .any (xA (xgo P n nS h c)) (xS (xgo P n nS h c))) = (xgr P n nS h c, .hps (xA (xgo P n nS h c)) (xS (xgo P n nS h c)) (xU (xgo P n nS h c) + 1) (xL0 (xgo P n nS h c)), [i, j]) := by kernel_rfl) : zI M P n W Q c := by
 simp only [Prod.mk.injEq] at hkt
 obtain ⟨hk, e1, e2⟩ := hkt
 refine zP h c hk ?_
 generalize xgo P n nS h c = d at hg hg' e1 e2 ⊢
 have : d = ⟨.hps (xA d) (xS d) (xU d + 1) (xL0 d), d.k, d.L, d.f⟩ := by rw [← e1]
 rw [this]
 exact ⟨fun hq hs => h_two i j e2 (hg.go hq hs) (hg'.go hq hs)⟩
def hS (c : Xc) : Array Bool := match c.top with
 | .hst _ s _ _ _ => s
 | _ => #[]
def hU (c : Xc) : Nat := match c.top with
 | .hst _ _ u _ _ => u
 | _ => 0
def hL (c : Xc) : List Blk := match c.top with
 | .hst _ _ _ l _ => l
 | _ => []
def hI (c : Xc) : Nat := match c.top with
 | .hst _ _ _ _ i => i
 | _ => 0
def hNew (c : Xc) (x : Blk) (v : Value) : Xc := ⟨.hps (xA c) ((hS c).setIfInBounds (hI c) true) (hU c) (hL c), c.k, x :: c.L, upd c.f (xO c).dst v⟩
theorem Own.left {L ob : List Blk} {w : World} (h : Own M W w (L ++ ob)) : Own M W w L := Own.sub ob (h.perm List.perm_append_comm)
theorem mV (hg : ∀ b, zI M P n W Q (hNew c ⟨b, (xZ P (xO c)).cells, xTy (xO c)⟩ (.pointer (some ⟨b, 0, none⟩))))
  (hkt : (c.top, (xA c)[hI c]?, zT (xA c) n c.f (xO c), (xO c).op, (P.info? (xTy (xO c))).map (·.zero)) = (.hst (xA c) (hS c) (hU c) (hL c) (hI c), some (xO c), true, .alloc (xTy (xO c)), some (some (xZ P (xO c)))) := by kernel_rfl) : zI M P n W Q c := by
 simp only [Prod.mk.injEq] at hkt
 obtain ⟨e1, e2, e3, e4, e5⟩ := hkt
 have : c = ⟨.hst (xA c) (hS c) (hU c) (hL c) (hI c), c.k, c.L, c.f⟩ := by rw [← e1]
 rw [this]
 refine ⟨fun hq hs => hl_step (xO c) e2 e3 (fun _ _ _ => True) fun w hO => ?_⟩
 cases hi : P.info? (xTy (xO c)) with
 | none => rw [hi] at e5; cases e5
 | some i =>
  rw [hi] at e5
  have hz : i.zero = some (xZ P (xO c)) := Option.some.inj e5
  refine gO (Zp w.heap.size 0) (w' := w.alloc (.cells (xZ P (xO c)).cells (xTy (xO c)))) ?_ ⟨_, _, rfl, hO.alloc _ _, hs _ (Own.sub [_] (hO.alloc _ _)), (hg w.heap.size).go hq fun w hO => hs w (Own.sub [_] hO)⟩
  unfold execOp
  simp [e4, Instr.alloc, zeroValue, typeInfo, hi, hz, newVar, newRow, Sem.run_bind]
theorem gY (len : Nat) (T : TypeId) (cs : Array Value) (hg : ∀ b, zI M P n W Q (hNew c ⟨b, cs, T⟩ (.slice (some ⟨b, 0, none⟩) len len)))
  (hkt : (c.top, (xA c)[hI c]?, zT (xA c) n c.f (xO c), fun w => (execOp (ev n c.f) (xO c)).run P w) = (.hst (xA c) (hS c) (hU c) (hL c) (hI c), some (xO c), true, fun w => .ok (.value (.slice (some ⟨w.heap.size, 0, none⟩) len len)) (w.alloc (.cells cs T))) := by kernel_rfl) : zI M P n W Q c := by
 simp only [Prod.mk.injEq] at hkt
 obtain ⟨e1, e2, e3, e4⟩ := hkt
 have : c = ⟨.hst (xA c) (hS c) (hU c) (hL c) (hI c), c.k, c.L, c.f⟩ := by rw [← e1]
 rw [this]
 exact ⟨fun hq hs => hl_step (xO c) e2 e3 (fun _ _ _ => True) fun w hO => gO _ (congrFun e4 w) ⟨_, _, rfl, hO.alloc _ _, hs _ (Own.sub [_] (hO.alloc _ _)), (hg w.heap.size).go hq fun w hO => hs w (Own.sub [_] hO)⟩⟩
theorem wJ (h : List Nat) (len : Nat) (T : TypeId) (cs : Array Value) (hg : ∀ b, zI M P n W Q ⟨.ops (xA (xgo P n nS h c)) (xT (xgo P n nS h c)), (xgo P n nS h c).k, ⟨b, cs, T⟩ :: (xgo P n nS h c).L, upd (xgo P n nS h c).f (xO (xgo P n nS h c)).dst (.slice (some ⟨b, 0, none⟩) len len)⟩)
  (hkt : (xgl P n nS h c, (xgo P n nS h c).top, zT (xA (xgo P n nS h c)) n (xgo P n nS h c).f (xO (xgo P n nS h c)), fun w => (execOp (ev n (xgo P n nS h c).f) (xO (xgo P n nS h c))).run P w)
   = (xgr P n nS h c, .ops (xA (xgo P n nS h c)) (xO (xgo P n nS h c) :: xT (xgo P n nS h c)), true, fun w => .ok (.value (.slice (some ⟨w.heap.size, 0, none⟩) len len)) (w.alloc (.cells cs T))) := by kernel_rfl) : zI M P n W Q c := by
 simp only [Prod.mk.injEq] at hkt
 obtain ⟨hk, e1, e3, e4⟩ := hkt
 refine zP h c hk ?_
 generalize xgo P n nS h c = d at *
 have : d = ⟨.ops (xA d) (xO d :: xT d), d.k, d.L, d.f⟩ := by rw [← e1]
 rw [this]
 exact ⟨fun hq => vI e3 fun w hO => gO _ (congrFun e4 w) (((hg w.heap.size).go hq).go _ (hO.alloc _ _))⟩
theorem kS {k : FuncId} {args : Array Value} {R : Value → List Blk → Prop} (hc : ∀ w, Own M W w c.L → Calls P k args w fun e w' => ∃ v ob, e = .returned v ∧ R v ob ∧ Own [] w w' ob)
  (hg : ∀ v ob, R v ob → zI M P n W Q (xAdd (c.put v) ob))
  (hkt : (c.top, (xA c)[hI c]?, zT (xA c) n c.f (xO c), fun w => (execOp (ev n c.f) (xO c)).run P w) = (.hst (xA c) (hS c) (hU c) (hL c) (hI c), some (xO c), true, fun w => .ok (.enter k args) w) := by kernel_rfl) : zI M P n W Q c := by
 simp only [Prod.mk.injEq] at hkt
 obtain ⟨e1, e2, e3, e4⟩ := hkt
 have hc' : c = ⟨.hst (xA c) (hS c) (hU c) (hL c) (hI c), c.k, c.L, c.f⟩ := by rw [← e1]
 have hg' : ∀ v ob, R v ob → zI M P n W Q ⟨.hps (xA c) ((hS c).setIfInBounds (hI c) true) (hU c) (hL c), c.k, c.L ++ ob, upd c.f (xO c).dst v⟩ := fun v ob h => by
  have hp : xAdd (c.put v) ob = ⟨.hps (xA c) ((hS c).setIfInBounds (hI c) true) (hU c) (hL c), c.k, c.L ++ ob, upd c.f (xO c).dst v⟩ := by
   have ho : xO c = (xA c).getD (hI c) default := by unfold xO; rw [e1]
   unfold Xc.put
   rw [e1, ho]
   rfl
  rw [← hp]; exact hg v ob h
 rw [hc']
 refine ⟨fun hq hs => tK (xO c) (fun v L' => ∃ ob, L' = c.L ++ ob ∧ R v ob) e2 e3 (fun w => congrFun e4 w) (fun w hO => ((hc w hO).mono fun e w' ⟨v, ob, q1, q2, q3⟩ => ⟨v, c.L ++ ob, q1, ⟨ob, rfl, q2⟩, (Own.joinN hO q3).perm List.perm_append_comm⟩)) (fun v L' ⟨ob, e, _⟩ w hO => by subst e; exact hs w hO.left) ?_⟩
 rintro v L' ⟨ob, rfl, hR⟩
 exact (hg' v ob hR).go hq fun w hO => hs w hO.left
def xV (f : Nat → Value) (l : List (Nat × Value)) : List Value := l.map fun p => f p.1
theorem qG {f : Nat → Value} : ∀ {l : List (Nat × Value)}, xV f l = l.map Prod.snd → Agrees f l
 | [], _ => trivial
 | p :: r, h => ⟨(List.cons.inj h).1, qG (List.cons.inj h).2⟩
def xJ {α : Type} (lv : α → List (Nat × Value)) (Lf : α → List Blk) (rel : α → Prop) : List Blk → (Nat → Value) → Prop := fun L f => ∃ x, rel x ∧ L = Lf x ∧ Agrees f (lv x)
def Nj (M : List Nat) (P : Program) (n : Nat) (W : World) {α : Type} (lv : α → List (Nat × Value)) (Lf : α → List Blk) (rel : α → Prop) : Prop :=
 ∀ (x' : α) (h : List Nat) {c' : Xc}, rel x' → (xgl P n nS h c', (xgo P n nS h c').top, (xgo P n nS h c').k, (xgo P n nS h c').L, xV (xgo P n nS h c').f (lv x')) = (xgr P n nS h c', .fin .normal, [], Lf x', (lv x').map Prod.snd) → zI M P n W (JoinQ M n W (xJ lv Lf rel)) c'
theorem x_join {α : Type} (lv : α → List (Nat × Value)) (Lf : α → List Blk) (rel : α → Prop) (h : List Nat) (h1 : Nj M P n W lv Lf rel → zI M P n W (JoinQ M n W (xJ lv Lf rel)) ⟨.code (xC (xgo P n nS h c)), [], (xgo P n nS h c).L, (xgo P n nS h c).f⟩)
  (h2 : ∀ x g, rel x → zI M P n W Q ⟨.fin .normal, (xgo P n nS h c).k, Lf x, jR g (lv x)⟩) (hkt : (xgl P n nS h c, (xgo P n nS h c).top) = (xgr P n nS h c, .code (xC (xgo P n nS h c))) := by kernel_rfl) : zI M P n W Q c := by
 obtain ⟨hk, e1⟩ := Prod.mk.inj hkt
 refine zP h c hk ?_
 generalize xgo P n nS h c = d at *
 have : d = ⟨.code (xC d), d.k, d.L, d.f⟩ := by rw [← e1]
 rw [this]
 refine ⟨fun hq => ok_join (xJ lv Lf rel) ((h1 fun x' h c' hr hkt' => ?_).go pq_join) fun L f ⟨x, hr, hL, hA⟩ => ?_⟩
 ·simp only [Prod.mk.injEq] at hkt'
  obtain ⟨hk', f1, f2, f3, f4⟩ := hkt'
  refine zP h c' hk' ?_
  generalize xgo P n nS h c' = d' at *
  have : d' = ⟨.fin .normal, [], d'.L, d'.f⟩ := by rw [← f1, ← f2]
  rw [this]
  exact ⟨fun _ => fin_join ⟨x', hr, f3, qG f4⟩⟩
 ·subst hL
  rw [vC _ hA]
  exact (h2 x f hr).go hq
theorem m7 {α : Type} (d0 : Nat) (lv : α → List (Nat × Value)) (Lf : α → List Blk) (rel : α → Prop) (h : List Nat) (h1 : Nj M P n W lv Lf rel → zI M P n W (JoinQ M n W (xJ lv Lf rel)) ⟨.code (xC (xgo P n (xCt d0) h c)), [], (xgo P n (xCt d0) h c).L, (xgo P n (xCt d0) h c).f⟩)
  (h2 : ∀ x g, rel x → zI M P n W Q ⟨.fin .normal, (xgo P n (xCt d0) h c).k, Lf x, jR g (lv x)⟩) (hkt : (xgl P n (xCt d0) h c, (xgo P n (xCt d0) h c).top) = (xgr P n (xCt d0) h c, .code (xC (xgo P n (xCt d0) h c))) := by kernel_rfl) : zI M P n W Q c := by
 obtain ⟨hk, e1⟩ := Prod.mk.inj hkt
 refine zP h c hk ?_
 generalize xgo P n (xCt d0) h c = d at *
 have : d = ⟨.code (xC d), d.k, d.L, d.f⟩ := by rw [← e1]
 rw [this]
 refine ⟨fun hq => ok_join (xJ lv Lf rel) ((h1 fun x' h c' hr hkt' => ?_).go pq_join) fun L f ⟨x, hr, hL, hA⟩ => ?_⟩
 ·simp only [Prod.mk.injEq] at hkt'
  obtain ⟨hk', f1, f2, f3, f4⟩ := hkt'
  refine zP h c' hk' ?_
  generalize xgo P n nS h c' = d' at *
  have : d' = ⟨.fin .normal, [], d'.L, d'.f⟩ := by rw [← f1, ← f2]
  rw [this]
  exact ⟨fun _ => fin_join ⟨x', hr, f3, qG f4⟩⟩
 ·subst hL
  rw [vC _ hA]
  exact (h2 x f hr).go hq
theorem x_now (t : Nat) (p : Prop) [Decidable p] (h1 : p → zI M P n W Q (c.st t (.bool true))) (h2 : ¬ p → zI M P n W Q (c.st t (.bool false))) (hv : c.f t = .bool (decide p) := by kernel_rfl) : zI M P n W Q c := by
 by_cases hp : p
 ·have h := h1 hp
  unfold Xc.st at h
  rw [← mX (hv.trans (by rw [decide_eq_true hp]))] at h
  exact h
 ·have h := h2 hp
  unfold Xc.st at h
  rw [← mX (hv.trans (by rw [decide_eq_false hp]))] at h
  exact h
def xI {α : Type} (lv : α → List (Nat × Value)) (Lf : α → List Blk) (rel : α → Nat → Prop) : List Blk → (Nat → Value) → Nat → Prop := fun L f m => ∃ x, rel x m ∧ L = Lf x ∧ Agrees f (lv x)
def Nx (M : List Nat) (P : Program) (n : Nat) (W : World) (Q : Exit → Act → World → Prop) {α : Type} (lv : α → List (Nat × Value)) (Lf : α → List Blk) (rel : α → Nat → Prop) (kk : List XIt) (k : Nat) : Prop :=
 ∀ (x' : α) (k' : Nat) (h : List Nat) {c' : Xc}, k' < k → rel x' k' → xgl P n nS h c' = xgr P n nS h c' → ((xgo P n nS h c').top, (xgo P n nS h c').k, (xgo P n nS h c').L, xV (xgo P n nS h c').f (lv x')) = (.fin .normal, kk, Lf x', (lv x').map Prod.snd) → zI M P n W Q c'
theorem qO {α : Type} (lv : α → List (Nat × Value)) (Lf : α → List Blk) (rel : α → Nat → Prop) (x0 : α) (m0 : Nat) (h : List Nat) (h0 : rel x0 m0)
  (hg : ∀ x k g kk, rel x k → Nx M P n W Q lv Lf rel (kk :: (xgo P n nS h c).k) k → kk = .lp (xI lv Lf rel) k → zI M P n W Q ⟨.code (pI (xgo P n nS h c)), .lp (xI lv Lf rel) k :: (xgo P n nS h c).k, Lf x, jR g (lv x)⟩)
  (hkt : (xgl P n nS h c, ((xgo P n nS h c).top, (xgo P n nS h c).L, xV (xgo P n nS h c).f (lv x0))) = (xgr P n nS h c, (.code (.loop (pI (xgo P n nS h c))), Lf x0, (lv x0).map Prod.snd)) := by kernel_rfl) : zI M P n W Q c := by
 obtain ⟨hk, ht⟩ := Prod.mk.inj hkt
 refine zP h c hk ?_
 generalize xgo P n nS h c = d at hg ht ⊢
 simp only [Prod.mk.injEq] at ht
 obtain ⟨e1, e2, e3⟩ := ht
 have : d = ⟨.code (.loop (pI d)), d.k, d.L, d.f⟩ := by rw [← e1]
 rw [this]
 refine ⟨fun hq => jY (xI lv Lf rel) m0 ⟨x0, h0, e2, qG e3⟩ fun L f k ⟨x, hr, hL, hA⟩ => ?_⟩
 subst hL
 rw [vC _ hA]
 refine (hg x k f _ hr (fun x' k' h c' hlt hr' hk' ht' => zP h c' hk' ?_) rfl).go hq
 generalize xgo P n nS h c' = d' at ht' ⊢
 simp only [Prod.mk.injEq] at ht'
 obtain ⟨f1, f2, f3, f4⟩ := ht'
 have : d' = ⟨.fin .normal, .lp (xI lv Lf rel) k :: d.k, d'.L, d'.f⟩ := by rw [← f1, ← f2]
 rw [this]
 exact ⟨fun _ => x9 hlt ⟨x', hr', f3, qG f4⟩⟩
theorem fin_at {kk : List XIt} {L' : List Blk} {lv : List (Nat × Value)} {d : Xc} (hg : ∀ g, zI M P n W Q ⟨.fin .normal, kk, L', jR g lv⟩) (e1 : d.top = .fin .normal) (e2 : d.k = kk) (e3 : d.L = L') (e4 : xV d.f lv = lv.map Prod.snd) : zI M P n W Q d := by
 have hgo := hg d.f
 rw [← vC _ (qG e4)] at hgo
 have : d = ⟨.fin .normal, kk, L', d.f⟩ := by rw [← e1, ← e2, ← e3]
 rw [this]
 exact hgo
def Nex (M : List Nat) (P : Program) (n : Nat) (W : World) (Q : Exit → Act → World → Prop) {β : Type} (lv : β → List (Nat × Value)) (Lf : β → List Blk) (rel : β → Prop) (kk : List XIt) : Prop :=
 ∀ (y : β) (h : List Nat) {c' : Xc}, rel y → (xgl P n (xAt (xlen kk)) h c', (xgo P n (xAt (xlen kk)) h c').top, (xgo P n (xAt (xlen kk)) h c').k, (xgo P n (xAt (xlen kk)) h c').L, xV (xgo P n (xAt (xlen kk)) h c').f (lv y)) = (xgr P n (xAt (xlen kk)) h c', .fin .normal, kk, Lf y, (lv y).map Prod.snd) → zI M P n W Q c'
theorem x_loopE {α β : Type} (lv : α → List (Nat × Value)) (Lf : α → List Blk) (rel : α → Nat → Prop) (x0 : α) (m0 : Nat) (lvE : β → List (Nat × Value)) (LfE : β → List Blk) (relE : β → Prop) (h : List Nat) (h0 : rel x0 m0)
  (hg : ∀ x k g, rel x k → Nx M P n W Q lv Lf rel (.lp (xI lv Lf rel) k :: (xgo P n nS h c).k) k → Nex M P n W Q lvE LfE relE (xgo P n nS h c).k.tail → zI M P n W Q ⟨.code (pI (xgo P n nS h c)), .lp (xI lv Lf rel) k :: (xgo P n nS h c).k, Lf x, jR g (lv x)⟩)
  (he : ∀ y g, relE y → zI M P n W Q ⟨.fin .normal, (xgo P n nS h c).k.tail, LfE y, jR g (lvE y)⟩)
  (hkt : (xgl P n nS h c, (xgo P n nS h c).top, (xgo P n nS h c).L, xV (xgo P n nS h c).f (lv x0)) = (xgr P n nS h c, .code (.loop (pI (xgo P n nS h c))), Lf x0, (lv x0).map Prod.snd) := by kernel_rfl) : zI M P n W Q c := by
 refine qO lv Lf rel x0 m0 h h0 (fun x k g kk hr nx hkk => ?_) hkt
 subst hkk
 refine hg x k g hr nx fun y h' c' hy hkt' => ?_
 simp only [Prod.mk.injEq] at hkt'
 obtain ⟨hk, e1, e2, e3, e4⟩ := hkt'
 exact zP h' c' hk (fin_at (fun g => he y g hy) e1 e2 e3 e4)
theorem jN (m : Nat) (h : List Nat) (hg : zI M P n W Q ⟨.code (pI (xgo P n nS h c)), .rd (pI (xgo P n nS h c)) m :: (xgo P n nS h c).k, (xgo P n nS h c).L, (xgo P n nS h c).f⟩)
  (hkt : (xgl P n nS h c, (xgo P n nS h c).top) = (xgr P n nS h c, .code (.loop (pI (xgo P n nS h c)))) := by kernel_rfl) : zI M P n W Q c := by
 obtain ⟨hk, e1⟩ := Prod.mk.inj hkt
 refine zP h c hk ?_
 generalize xgo P n nS h c = d at *
 have : d = ⟨.code (.loop (pI d)), d.k, d.L, d.f⟩ := by rw [← e1]
 rw [this]
 exact ⟨fun hq => ⟨fun w hO => wp_loop_rounds (m + 1) ((hg.go hq).go w hO)⟩⟩
theorem zQ {k : FuncId} {fn : Func} {args : Array Value} {R : Ending → World → Prop} (hf : P.funcs[k]? = some fn) (hg : zI [] P fn.ntmps W (bodyPost P fn R) ⟨.code (fn.body.getD .skip), [], [], fun t => args.getD t undef⟩)
  (hb : fn.body.isSome = true := by kernel_rfl) (hle : Nat.ble args.size fn.ntmps = true := by kernel_rfl) : Calls P k args W R := by
 cases hb' : fn.body with
 | none => rw [hb'] at hb; cases hb
 | some b => rw [hb'] at hg; exact calls_ok hf hb' rfl hle (hg.go xD)
def xRt (fn : Func) (i : Nat) : Tmp := match fn.results[i]? with
 | some (.tmp t) => t
 | some (.cell t _) => t
 | _ => 0
def xRy (fn : Func) (i : Nat) : TypeId := match fn.results[i]? with
 | some (.cell _ y) => y
 | _ => 0
theorem zF {fn : Func} {R : Ending → World → Prop} (h : List Nat) (v : Value) (hR : ∀ w, Own M W w (xgo P n nS h c).L → R (.returned v) w) (hkt : (xgl P n nS h c, ((xgo P n nS h c).top, (xgo P n nS h c).k, fn.results, ev n (xgo P n nS h c).f (.tmp (xRt fn 0)))) = (xgr P n nS h c, (.fin .ret, [], #[.tmp (xRt fn 0)], v)) := by kernel_rfl) : zI M P n W (bodyPost P fn R) c := by
 obtain ⟨hk, ht⟩ := Prod.mk.inj hkt
 refine zP h c hk ?_
 generalize xgo P n nS h c = d at hR ht ⊢
 obtain ⟨top, kk, L, f⟩ := d
 simp only [Prod.mk.injEq] at ht
 obtain ⟨rfl, rfl, e3, e4⟩ := ht
 exact ⟨fun _ => fin_ret v e3 e4 hR⟩
theorem qN {fn : Func} {R : Ending → World → Prop} (h : List Nat) (v v' : Value) (hR : ∀ w, Own M W w (xgo P n nS h c).L → R (.returned (.tuple #[v, v'])) w) (hkt : (xgl P n nS h c, ((xgo P n nS h c).top, (xgo P n nS h c).k, fn.results, ev n (xgo P n nS h c).f (.tmp (xRt fn 0)), ev n (xgo P n nS h c).f (.tmp (xRt fn 1)))) = (xgr P n nS h c, (.fin .ret, [], #[.tmp (xRt fn 0), .tmp (xRt fn 1)], v, v')) := by kernel_rfl) : zI M P n W (bodyPost P fn R) c := by
 obtain ⟨hk, ht⟩ := Prod.mk.inj hkt
 refine zP h c hk ?_
 generalize xgo P n nS h c = d at hR ht ⊢
 obtain ⟨top, kk, L, f⟩ := d
 simp only [Prod.mk.injEq] at ht
 obtain ⟨rfl, rfl, e3, e4, e5⟩ := ht
 exact ⟨fun _ => fin_ret2 v v' e3 e4 e5 hR⟩
theorem nO {fn : Func} {R : Ending → World → Prop} (h : List Nat) (i : Nat) (v : Value) (hR : ∀ w, Own M W w (xgo P n nS h c).L → R (.returned v) w) (hkt : (xgl P n nS h c, ((xgo P n nS h c).top, (xgo P n nS h c).k, fn.results, (xgo P n nS h c).L[i]?, ev n (xgo P n nS h c).f (.tmp (xRt fn 0)), yO P (xRy fn 0) (jB (xgo P n nS h c).L i).cs 0)) = (xgr P n nS h c, (.fin .ret, [], #[.cell (xRt fn 0) (xRy fn 0)], some (jB (xgo P n nS h c).L i), .pointer (some ⟨(jB (xgo P n nS h c).L i).b, 0, none⟩), some v)) := by kernel_rfl) : zI M P n W (bodyPost P fn R) c := by
 obtain ⟨hk, ht⟩ := Prod.mk.inj hkt
 refine zP h c hk ?_
 generalize xgo P n nS h c = d at hR ht ⊢
 obtain ⟨top, kk, L, f⟩ := d
 simp only [Prod.mk.injEq] at ht
 obtain ⟨rfl, rfl, e3, e4, e5, e6⟩ := ht
 exact ⟨fun _ => fin_cell i _ v e3 e4 e5 e6 hR⟩
end
end
section
theorem mk_take (s : List UInt8) (j : Nat) : (mkS s).extract 0 j = mkS (s.take j) := by rw [bU, mk_data]; simp
theorem mk_drop (s : List UInt8) (j : Nat) : (mkS s).extract j (mkS s).size = mkS (s.drop j) := by
 rw [bU, mk_data, yD]
 congr 1
 exact List.take_of_length_le (by rw [List.length_drop]; omega)
theorem run_strhi {P : Program} {ρ : Operand → Value} {o : Oper} {t : TypeId} {x z : Operand} {s : List UInt8} {k : IntKind} {j : Int} (ho : o.op = .slice t x none (some z) none) (hx : ρ x = .string (mkS s)) (hz : ρ z = .int k j)
  (hu : P.underlying t = some .string) (h0 : 0 ≤ j) (h1 : j ≤ s.length) (w : World) : (execOp ρ o).run P w = .ok (.value (.string (mkS (s.take j.toNat)))) w := by
 unfold execOp
 have h2 : j ≤ ((mkS s).size : Int) := by rw [yD]; exact h1
 simp [ho, hx, hz, Instr.sliceAt, Instr.slice, Instr.sliceBounds, Instr.sliceBound, Sem.run_bind, asIntOf, run_underlying hu, h0, h2, mk_take]
theorem run_strlo {P : Program} {ρ : Operand → Value} {o : Oper} {t : TypeId} {x y : Operand} {s : List UInt8} {k : IntKind} {j : Int} (ho : o.op = .slice t x (some y) none none) (hx : ρ x = .string (mkS s)) (hy : ρ y = .int k j)
  (hu : P.underlying t = some .string) (h0 : 0 ≤ j) (h1 : j ≤ s.length) (w : World) : (execOp ρ o).run P w = .ok (.value (.string (mkS (s.drop j.toNat)))) w := by
 unfold execOp
 have h2 : j ≤ ((mkS s).size : Int) := by rw [yD]; exact h1
 simp [ho, hx, hy, Instr.sliceAt, Instr.slice, Instr.sliceBounds, Instr.sliceBound, Sem.run_bind, asIntOf, run_underlying hu, h0, h2, mk_drop]
theorem run_slhm {P : Program} {ρ : Operand → Value} {o : Oper} {t e : TypeId} {x z y : Operand} {b n c sz : Nat} {k q : IntKind} {j m : Int} (ho : o.op = .slice t x none (some z) (some y)) (hx : ρ x = .slice (some ⟨b, 0, none⟩) n c) (hz : ρ z = .int k j) (hy : ρ y = .int q m)
  (hu : P.underlying t = some (.slice e)) (hs : (P.info? e).map (·.size) = some sz) (h0 : 0 ≤ j) (h1 : j ≤ m) (h2 : m ≤ c) (w : World) : (execOp ρ o).run P w = .ok (.value (.slice (some ⟨b, 0, none⟩) j.toNat m.toNat)) w := by
 cases he : P.info? e with
 | none => rw [he] at hs; cases hs
 | some i =>
  rw [he] at hs
  obtain rfl := Option.some.inj hs
  have h3 : 0 ≤ m := Int.le_trans h0 h1
  unfold execOp
  simp [ho, hx, hz, hy, Instr.sliceAt, Instr.slice, Instr.sliceBounds, Instr.sliceBound, Sem.run_bind, asIntOf, run_underlying hu, h0, h1, h2, h3, sizeOf, typeInfo, he, x3]
  try (first | omega | (rw [if_pos Om]; simp [x3]))
theorem kY {P : Program} {ρ : Operand → Value} {o : Oper} {t t' : TypeId} {x y : Operand} {a b : List UInt8} (ho : o.op = .binOp .add t x y t') (hx : ρ x = .string (mkS a)) (hy : ρ y = .string (mkS b)) (hb : a.length + b.length ≤ 4000000000) (w : World) : (execOp ρ o).run P w = .ok (.value (.string (mkS (a ++ b)))) w := by
 unfold execOp
 have h1 : ¬ (9223372036854775807 : Int) < ((mkS a).size : Int) + ((mkS b).size : Int) := by rw [yD, yD]; omega
 simp [ho, hx, hy, Sem.run_bind, eqGuard, binOp, Op.stringOp, kQ, h1]
section
variable {M : List Nat} {P : Program} {n0 : Nat} {ops : Array Oper} {W : World} {Q : Exit → Act → World → Prop} {rest : List Oper} {o : Oper} {L : List Blk} {f : Nat → Value}
theorem s_appendF {t T : TypeId} {s x : Operand} {i : TypeInfo} {z : Value} {sz : Nat} (hw : zT ops n0 f o = true) (ho : o.op = .call { callee := .builtin .append, args := #[s, x], argTypes := #[t, t] })
  (ht : P.underlying t = some (.slice T)) (hi : P.info? T = some i) (hz : i.zero = some z) (hsz : i.size = sz) (hzs : z.cells.size = sz)
  {b : Addr} {n cap : Nat} {xs : List Value} (hs : ev n0 f s = .slice (some b) n cap) (hxl : xs.length = n * sz) (hxs : ∀ w, Own M W w L → ∀ j u, xs[j]? = some u → w.cell? (b.add j) = some u)
  {a : Addr} {m c : Nat} {news : List Value} (hx : ev n0 f x = .slice (some a) m c) (hl : news.length = m * sz) (hnews : ∀ w, Own M W w L → ∀ j u, news[j]? = some u → w.cell? (a.add j) = some u)
  (hroom : cap < n + m) (h63 : n + m ≤ maxLen) (hbytes : (n + m) * i.bytes ≤ 140737488355328)
  (h : ∀ v' ob', Sl T sz v' (n + m) (xs ++ news) ob' → Seg M P n0 ops W Q rest (ob' ++ L) (upd f o.dst v')) : Seg M P n0 ops W Q (o :: rest) L f :=
 vI hw fun w hO => by
  subst hsz
  have hsmall : n + m ≤ 9223372036854775807 := by simp only [maxLen] at h63; omega
  have hlen : (xs ++ news).length = (n + m) * i.size := by rw [List.length_append, hxl, hl, Nat.add_mul]
  have hr := run_append_grow (P := P) w t o.type T i z ht hi hz b n cap xs hxl (hxs w hO) a m c news hl (hnews w hO) Om Om (growslice_fits Om hbytes)
  have hge := grownCap_ge w (n + m) cap T
  have hcm := grownCap_le_maxLen w (n + m) cap T h63
  refine gO _ (w' := _) ?_ ((h _ [⟨w.heap.size, xs.toArray ++ news.toArray ++ Builtin.zeroCells z.cells (grownCap w (n + m) cap T - (n + m)), T⟩] ⟨hlen, .inr ⟨w.heap.size, grownCap w (n + m) cap T, _, rfl, rfl, hge, hcm, ?_, ?_⟩⟩).go _ ((tM hO).alloc (xs.toArray ++ news.toArray ++ Builtin.zeroCells z.cells (grownCap w (n + m) cap T - (n + m))) T))
  ·unfold execOp
   simp only [ho, resolve, invoke, builtin, Sem.run_bind, Sem.run_pure, Result.andThen_ok, List.map_toArray, List.map_cons, List.map_nil, hs, hx, hr]
  ·simp only [Array.size_append, List.size_toArray, size_zeroCells, hzs, hxl, hl, ← Nat.add_mul]
   congr 1
   omega
  ·simp only [Array.toList_append, List.append_assoc]
   rw [← List.append_assoc, ← hlen]
   exact List.take_left
end
section
variable {M : List Nat} {P : Program} {n : Nat} {ops : Array Oper} {W : World} {L0 : List Blk} {Q : Exit → Act → World → Prop} {fuel : Nat} {listed : Array Bool} {f : Nat → Value}
end
end
section
section
variable {M : List Nat} {P : Program} {n : Nat} {ops : Array Oper} {W : World} {L0 : List Blk} {Q : Exit → Act → World → Prop} {fuel : Nat} {listed : Array Bool} {f : Nat → Value}
end
end
section
end
section
section
variable {M : List Nat} {P : Program} {n : Nat} {ops : Array Oper} {W : World} {L0 : List Blk} {Q : Exit → Act → World → Prop} {fuel : Nat} {listed : Array Bool} {f : Nat → Value}
theorem hs_cast {i : Nat} {L L' : List Blk} (e : L = L') (h : bD M P n ops W L0 Q fuel listed i L' f) : bD M P n ops W L0 Q fuel listed i L f := by subst e; exact h
theorem gW {L L' : List Blk} {w : World} (D : List Blk) (h : Own M W w L) (e : ∀ p : Blk → Bool, L.countP p = (D ++ L').countP p) : Own M W w L' := by
 classical
 refine Own.sub D (h.perm ?_)
 rw [List.perm_iff_count]
 intro a
 exact e fun x => x == a
end
end
section
structure Fv where
 name : List UInt8
 A : Option Addr
 of : List (List UInt8)
 cap : Nat
def fvC (x : Fv) : List Value := [.string (mkS x.name), .slice x.A x.of.length x.cap]
theorem fvC_len (x : Fv) : (fvC x).length = 2 := rfl
def fvV (x : Fv) : Value := .agg #[.string (mkS x.name), .slice x.A x.of.length x.cap]
def Fv.ft (x : Fv) : Ft := ⟨x.name, x.of⟩
def kA (xs : List Fv) : List Ft := xs.map Fv.ft
theorem nG (xs : List Fv) : (kA xs).length = xs.length := List.length_map ..
theorem ftOf_take (xs : List Fv) (k : Nat) : kA (xs.take k) = (kA xs).take k := by unfold kA; rw [List.map_take]
theorem ftOf_get {xs : List Fv} {i : Nat} (hi : i < xs.length) {x : Fv} (h : xs[i] = x) : (kA xs)[i]'(by rw [nG]; exact hi) = x.ft := by
 unfold kA; rw [List.getElem_map, h]
structure FtIn (w : World) (B : Nat) (A : Option Addr) (xs : List Fv) : Prop where
 top : Reads fvC w B A xs
 each : ∀ x ∈ xs, Reads y9 w B x.A x.of
 n : xs.length ≤ 5000
 m : ∀ x ∈ xs, x.of.length ≤ 5000
 name : ∀ x ∈ xs, x.name.length ≤ 1000000
 text : ∀ x ∈ xs, ∀ s ∈ x.of, s.length ≤ 1000000
theorem FtIn.on {w w' : World} {B B' : Nat} {A : Option Addr} {xs : List Fv} (h : FtIn w B A xs) (hb : Below B w w') (hB : B ≤ B') : FtIn w' B' A xs := ⟨h.top.on hb hB, fun x hx => (h.each x hx).on hb hB, h.n, h.m, h.name, h.text⟩
def findI (l : List Ft) (n : List UInt8) : Int := match findT l n with
 | some i => (i : Int)
 | none => -1
theorem findI_at {l : List Ft} {n : List UInt8} {i : Nat} (hi : i < l.length) (h : l[i].name = n) (h0 : ∀ f ∈ l.take i, ¬ f.name = n) : findT l n = some i := by
 unfold findT
 rw [List.findIdx?_eq_some_iff_getElem]
 refine ⟨hi, decide_eq_true h, fun j hj => ?_⟩
 simpa using h0 l[j] (List.mem_take_iff_getElem.2 ⟨j, by omega, rfl⟩)
theorem findI_none {l : List Ft} {n : List UInt8} (h0 : ∀ f ∈ l, ¬ f.name = n) : findT l n = none := by
 unfold findT
 rw [List.findIdx?_eq_none_iff]
 exact fun x hx => decide_eq_false (h0 x hx)
theorem findI_isT {l : List Ft} {n : List UInt8} : isT l n = (decide (n = dfl) || decide (0 ≤ findI l n)) := by
 unfold isT findI
 cases findT l n <;> simp
theorem run_strlss {P : Program} {ρ : Operand → Value} {o : Oper} {t t' : TypeId} {x y : Operand} {a b : List UInt8} {r : Bool} (ho : o.op = .binOp .lss t x y t') (hx : ρ x = .string (mkS a)) (hy : ρ y = .string (mkS b)) (h : Op.bytesLess a b = r) (w : World) : (execOp ρ o).run P w = .ok (.value (.bool r)) w := by
 have e : binOp .lss t (.string (mkS a)) (.string (mkS b)) = pure (.bool (Op.bytesLess a b)) := by
  have : binOp .lss t (.string (mkS a)) (.string (mkS b)) = pure (.bool (Op.bytesLess (mkS a).toList (mkS b).toList)) := by simp [binOp, Op.stringOp]
  rw [this, Lib.toList_data, Lib.toList_data, mk_data, mk_data]
 unfold execOp
 simp only [ho, hx, hy, Sem.run_bind, guard_str, Result.andThen_ok, e, Sem.run_pure, h]
end
section
set_option linter.unnecessarySimpa false
theorem run_idxg {P : Program} {ρ : Operand → Value} {o : Oper} {t e : TypeId} {x y : Operand} {n k : Nat} {vals : Array Value} (g : Nat → List UInt8) (hk : k < n) (ho : o.op = .index t x y) (hx : ρ x = .agg vals) (hy : ρ y = YI (k : Int))
  (hu : P.underlying t = some (.array n e)) (hp : ∀ i, i < n → ∀ w, (part e vals i).run P w = .ok (.string (mkS (g i))) w) (hs : (P.info? e).map (·.size) = some 1) (w : World) : (execOp ρ o).run P w = .ok (.value (.string (mkS (g k)))) w := by
 cases he : P.info? e with
 | none => rw [he] at hs; cases hs
 | some i =>
  rw [he] at hs
  have hs1 : i.size = 1 := Option.some.inj hs
  unfold execOp
  have h2 := hp k hk
  have hkn : ¬ n ≤ k := by omega
  simp [ho, hx, hy, Instr.index, Sem.run_bind, asIntOf, run_underlying hu, sizeOf, typeInfo, he, hs1, h2, hk, hkn]
def qI (k : Nat) : List UInt8 := if k = 0 then [120] else if k = 1 then [121] else if k = 2 then [122] else [119, 95, 49]
theorem wordT_ok (k : Nat) : wdL (qI k) = true := by
 unfold qI
 split
 ·decide
 ·split
  ·decide
  ·split <;> decide
def yP (k : Nat) : List UInt8 := if k = 0 then [97, 112, 112] else if k = 1 then [98] else if k = 2 then [99] else if k = 3 then [100] else [101, 45, 50]
theorem nameT_ok (k : Nat) : nmL (yP k) = true := by
 unfold yP
 split
 ·kernel_rfl
 ·split
  ·kernel_rfl
  ·split
   ·kernel_rfl
   ·split <;> kernel_rfl
theorem wordT_part : ∀ (i : Nat), i < 4 → ∀ w, (part 9 #[.string ⟨#[120]⟩, .string ⟨#[121]⟩, .string ⟨#[122]⟩, .string ⟨#[119, 95, 49]⟩] i).run Tryz.prog w = .ok (.string (mkS (qI i))) w
 | 0, _, w => by kernel_rfl
 | 1, _, w => by kernel_rfl
 | 2, _, w => by kernel_rfl
 | 3, _, w => by kernel_rfl
theorem wordT_any (z : Int) : ∃ k, k < 4 ∧ ∀ W : World, YC 106 #[YI z] W (YR (.string (mkS (qI k))) W) := by
 obtain ⟨k, hkz, hk⟩ := xR z 4 (by decide)
 refine ⟨k, hk, fun W => ?_⟩
 refine Z2 (n := 7) Tryz.func106 rfl (ZO (Zv (.string ⟨#[]⟩) (ZR (Zv (.agg #[.string ⟨#[120]⟩, .string ⟨#[121]⟩, .string ⟨#[122]⟩, .string ⟨#[119, 95, 49]⟩]) (Zv (YI z) (Zc (k := 24) (args := #[YI z, YI 4]) (YI (k : Int)) (fun w _ => (place_any z 4 w (by decide) (by decide)).mono fun _ _ ⟨e1, e2⟩ => ⟨by rw [e1, show plc z 4 = (k : Int) from hkz], e2 ▸ Below.refl _ _⟩) (yB (.string (mkS (qI k))) Kr (run_idxg qI hk rfl Kr Kr Tryz.underlying95 (fun i hi w => wordT_part i hi w) Kr) ?_)))))))
 exact Zv (.string (mkS (qI k))) (ZN (zL (ZF (.string (mkS (qI k))) Tryz.results106 (fun w hO => ⟨rfl, hO.below⟩))))
end
section
def oT (o : Oper) : TypeId := match o.op with
 | .index t _ _ => t
 | .indexAddr t _ _ => t
 | .binOp _ t _ _ _ => t
 | .load t _ => t
 | _ => 0
def oU (o : Oper) : TypeId := match o.op with
 | .binOp _ _ _ _ t => t
 | _ => 0
def oX (o : Oper) : Operand := match o.op with
 | .index _ x _ => x
 | .indexAddr _ x _ => x
 | .binOp _ _ x _ _ => x
 | .load _ x => x
 | _ => .tmp 0
def oY (o : Oper) : Operand := match o.op with
 | .index _ _ y => y
 | .indexAddr _ _ y => y
 | .binOp _ _ _ y _ => y
 | _ => .tmp 0
def xAg : Value → Array Value
 | .agg vs => vs
 | _ => #[]
def xEl (P : Program) (t : TypeId) : TypeId := match P.underlying t with
 | some (.array _ e) => e
 | some (.slice e) => e
 | _ => 0
def xW (n : Nat) (c : Xc) : Bool := match c.top with
 | .ops a (o :: _) => zT a n c.f o
 | .qps a (o :: _) => zT a n c.f o
 | _ => false
section
variable {M : List Nat} {P : Program} {n : Nat} {W : World} {Q : Exit → Act → World → Prop} {c : Xc}
theorem jO (t : Nat) (h : List Nat) (v0 v : Value) (e : v0 = v) (hg : zI M P n W Q ((xgo P n t h c).st t v)) (hkt : (xgl P n t h c, (xgo P n t h c).f t) = (xgr P n t h c, v0) := by kernel_rfl) : zI M P n W Q c := by
 obtain ⟨hk, hv⟩ := Prod.mk.inj hkt
 exact pF t h v (hv.trans e) hg hk
theorem x_i (t : Nat) (h : List Nat) (z : Int) (hg : zI M P n W Q ((xgo P n t h c).st t (YI z))) (hz : -9223372036854775808 ≤ z ∧ z ≤ 9223372036854775807 := by omega)
  (hkt : (xgl P n t h c, (xgo P n t h c).f t) = (xgr P n t h c, YI (IntKind.i64.wrap z)) := by kernel_rfl) : zI M P n W Q c :=  by
 obtain ⟨hk, hv⟩ := Prod.mk.inj hkt
 exact x_sum t h z (IntWalk.i64_in _ hz) hg hkt
theorem Own.nth {L : List Blk} {w : World} (i : Nat) (x : Blk) (hO : Own M W w L) (h : L[i]? = some x := by kernel_rfl) : Own M W w [x] := hO.take (fun y hy => by rw [List.mem_singleton.1 hy]; exact List.mem_of_getElem? h) (by simp)
theorem Own.past {L : List Blk} {w : World} (i : Nat) (L' : List Blk) (hO : Own M W w L) (h : L.drop i = L' := by kernel_rfl) : Own M W w L' := by
 rw [← h]
 exact Own.sub (L.take i) (by rw [List.take_append_drop]; exact hO)
theorem Own.cast {L L' : List Blk} {w : World} (hO : Own M W w L) (e : L = L') : Own M W w L' := e ▸ hO
theorem Own.no {L : List Blk} {w : World} (hO : Own M W w L) : Own M W w [] := hO.take (fun y hy => by simp at hy) (by simp)
theorem jG {v : Value} (hw : xW n c = true) (hr : ∀ w, (execOp (ev n c.f) (xO c)).run P w = .ok (.value v) w) (hg : zI M P n W Q (c.put v)) : zI M P n W Q c := by
 obtain ⟨top, kk, L, f⟩ := c
 unfold xW at hw
 unfold Xc.put at hg
 cases top with
 | ops a r => cases r with
  | nil => cases hw
  | cons o r => exact ⟨fun hq => yB v hw hr (hg.go hq)⟩
 | qps a r => cases r with
  | nil => cases hw
  | cons o r => exact ⟨fun hq => wL v hw hr (hg.go hq)⟩
 | _ => cases hw
theorem x_val (d : Nat) (h : List Nat) (v : Value) (hr : ∀ w, (execOp (ev n (xgo P n (d + 50000) h c).f) (xO (xgo P n (d + 50000) h c))).run P w = .ok (.value v) w) (hg : zI M P n W Q ((xgo P n (d + 50000) h c).put v))
  (hkt : (xgl P n (d + 50000) h c, xW n (xgo P n (d + 50000) h c)) = (xgr P n (d + 50000) h c, true) := by kernel_rfl) : zI M P n W Q c :=  by
 obtain ⟨hk, hw⟩ := Prod.mk.inj hkt
 exact zP h c hk (jG hw hr hg)
theorem x_idx (d : Nat) (h : List Nat) (g : Nat → List UInt8) (k N : Nat) (hN : k < N) (hg : zI M P n W Q ((xgo P n (d + 50000) h c).put (.string (mkS (g k)))))
  (hk : xgl P n (d + 50000) h c = xgr P n (d + 50000) h c := by kernel_rfl)
  (hp : ((List.range N).map fun i => fun w => (part (xEl P (oT (xO (xgo P n (d + 50000) h c)))) (xAg (ev n (xgo P n (d + 50000) h c).f (oX (xO (xgo P n (d + 50000) h c))))) i).run P w) = (List.range N).map fun i => (fun w => .ok (.string (mkS (g i))) w) := by kernel_rfl)
  (ht : (xW n (xgo P n (d + 50000) h c), (xO (xgo P n (d + 50000) h c)).op, ev n (xgo P n (d + 50000) h c).f (oX (xO (xgo P n (d + 50000) h c))), ev n (xgo P n (d + 50000) h c).f (oY (xO (xgo P n (d + 50000) h c))), P.underlying (oT (xO (xgo P n (d + 50000) h c))), (P.info? (xEl P (oT (xO (xgo P n (d + 50000) h c))))).map (·.size))
   = (true, .index (oT (xO (xgo P n (d + 50000) h c))) (oX (xO (xgo P n (d + 50000) h c))) (oY (xO (xgo P n (d + 50000) h c))), .agg (xAg (ev n (xgo P n (d + 50000) h c).f (oX (xO (xgo P n (d + 50000) h c))))), YI (k : Int), some (.array N (xEl P (oT (xO (xgo P n (d + 50000) h c))))), some 1) := by kernel_rfl) : zI M P n W Q c := by
 simp only [Prod.mk.injEq] at ht
 obtain ⟨e1, e2, e3, e4, e5, e6⟩ := ht
 refine zP h c hk (jG e1 (run_idxg g hN e2 e3 e4 e5 (fun i hi w => ?_) e6) hg)
 have := congrFun (List.map_inj_left.1 hp i (List.mem_range.2 hi)) w
 exact this
theorem bF (d : Nat) (h : List Nat) (a b : List UInt8) (hg : zI M P n W Q ((xgo P n (d + 50000) h c).put (.string (mkS (a ++ b))))) (hb : a.length + b.length ≤ 4000000000 := by (try simp only [List.length_append, List.length_cons, List.length_nil]); omega)
  (hkt : (xgl P n (d + 50000) h c, (xW n (xgo P n (d + 50000) h c), (xO (xgo P n (d + 50000) h c)).op, ev n (xgo P n (d + 50000) h c).f (oX (xO (xgo P n (d + 50000) h c))), ev n (xgo P n (d + 50000) h c).f (oY (xO (xgo P n (d + 50000) h c))))) = (xgr P n (d + 50000) h c, (true, .binOp .add (oT (xO (xgo P n (d + 50000) h c))) (oX (xO (xgo P n (d + 50000) h c))) (oY (xO (xgo P n (d + 50000) h c))) (oU (xO (xgo P n (d + 50000) h c))), .string (mkS a), .string (mkS b))) := by kernel_rfl) : zI M P n W Q c := by
 obtain ⟨hk, ht⟩ := Prod.mk.inj hkt
 simp only [Prod.mk.injEq] at ht
 exact zP h c hk (jG ht.1 (kY ht.2.1 ht.2.2.1 ht.2.2.2 hb) hg)
def xPb : Value → Nat
 | .pointer (some a) => a.block
 | _ => 0
def xOi (i : Nat) (c : Xc) : Oper := (xA c).getD i default
def xHn (c : Xc) (i : Nat) (v : Value) : Xc := ⟨.hps (xA c) ((xS c).setIfInBounds i true) (xU c) (xL0 c), c.k, c.L, upd c.f (xOi i c).dst v⟩
def pH (n : Nat) (i : Nat) (c : Xc) : XTop × Option Oper × Bool × Bool × Bool × Bool :=
 (c.top, (xA c)[i]?, zT (xA c) n c.f (xOi i c), Region.noSelect (xA c), Region.free .any (xA c) (xS c) i, (Region.ready .any (xA c) (xS c)).contains i)
def dQ (i : Nat) (c : Xc) : XTop × Option Oper × Bool × Bool × Bool × Bool := (.hps (xA c) (xS c) (xU c + 1) (xL0 c), some (xOi i c), true, true, true, true)
theorem xtake {i : Nat} {v : Value} (hv : ∀ w, Own M W w (xL0 c) → (execOp (ev n c.f) (xOi i c)).run P w = .ok (.value v) w) (hg : zI M P n W Q (xHn c i v)) (hf : pH n i c = dQ i c) : zI M P n W Q c := by
 simp only [pH, dQ, Prod.mk.injEq] at hf
 obtain ⟨e1, e2, e3, e4, e5, e6⟩ := hf
 have : c = ⟨.hps (xA c) (xS c) (xU c + 1) (xL0 c), c.k, c.L, c.f⟩ := by rw [← e1]
 rw [this]
 exact ⟨fun hq hs => hl_take i _ v e2 e4 e5 e6 (pq_KQ hq c.k) hs e3 hv (hg.go hq hs)⟩
theorem xh_ixa (t : Nat) (h : List Nat) (i N k sz : Nat) (hN : k < N) (hg : zI M P n W Q (xHn (xgo P n t h c) i (.pointer (some ⟨xPb (ev n (xgo P n t h c).f (oX (xOi i (xgo P n t h c)))), xOff (ev n (xgo P n t h c).f (oX (xOi i (xgo P n t h c)))) + (k : Int).toNat * sz, none⟩))))
  (hkt : (xgl P n t h c, pH n i (xgo P n t h c), (xOi i (xgo P n t h c)).op, ev n (xgo P n t h c).f (oX (xOi i (xgo P n t h c))), ev n (xgo P n t h c).f (oY (xOi i (xgo P n t h c))), P.underlying (oT (xOi i (xgo P n t h c))), (P.info? (xEl P (oT (xOi i (xgo P n t h c))))).map (·.size))
   = (xgr P n t h c, dQ i (xgo P n t h c), .indexAddr (oT (xOi i (xgo P n t h c))) (oX (xOi i (xgo P n t h c))) (oY (xOi i (xgo P n t h c))), .pointer (some ⟨xPb (ev n (xgo P n t h c).f (oX (xOi i (xgo P n t h c)))), xOff (ev n (xgo P n t h c).f (oX (xOi i (xgo P n t h c)))), none⟩), YI (k : Int), some (.array N (xEl P (oT (xOi i (xgo P n t h c))))), some sz) := by kernel_rfl) : zI M P n W Q c := by
 simp only [Prod.mk.injEq] at hkt
 obtain ⟨hk, e1, e2, e3, e4, e5, e6⟩ := hkt
 exact zP h c hk (xtake (fun w _ => run_ixarr e2 e3 e4 e5 e6 Om Om rfl w) hg e1)
theorem xh_ldk (t : Nat) (h : List Nat) (i q : Nat) (cs : Array Value) (off : Nat) (ty : TypeId) (v : Value) (hv : yO P ty cs off = some v) (hg : zI M P n W Q (xHn (xgo P n t h c) i v))
  (hkt : (xgl P n t h c, pH n i (xgo P n t h c), (xOi i (xgo P n t h c)).op, (xL0 (xgo P n t h c))[q]?, (jB (xL0 (xgo P n t h c)) q).cs, ev n (xgo P n t h c).f (oX (xOi i (xgo P n t h c))))
   = (xgr P n t h c, dQ i (xgo P n t h c), .load ty (oX (xOi i (xgo P n t h c))), some (jB (xL0 (xgo P n t h c)) q), cs, .pointer (some ⟨(jB (xL0 (xgo P n t h c)) q).b, off, none⟩)) := by kernel_rfl) : zI M P n W Q c := by
 simp only [Prod.mk.injEq] at hkt
 obtain ⟨hk, e1, e2, e3, e4, e5⟩ := hkt
 exact zP h c hk (xtake (fun w hO => kV e2 e5 (yY (by rw [e4]; exact hv) (hO.get e3))) hg e1)
def aT (o : Oper) : TypeId := match o.op with
 | .call c => c.argTypes.getD 0 0
 | _ => 0
def aX (o : Oper) (i : Nat) : Operand := match o.op with
 | .call c => c.args.getD i (.tmp 0)
 | _ => .tmp 0
def aOp (o : Oper) : Op := .call { callee := .builtin .append, args := #[aX o 0, aX o 1], argTypes := #[aT o, aT o] }
def aInfo (P : Program) (T : TypeId) : Option (Bool × Nat × Option Nat) := (P.info? T).map fun i => (Nat.ble i.bytes 1000000, i.size, i.zero.map fun z => z.cells.size)
def aNext (c : Xc) (L : List Blk) (v : Value) : Xc := ⟨.hps (xA c) ((hS c).setIfInBounds (hI c) true) (hU c) (hL c), c.k, L, upd c.f (xO c).dst v⟩
theorem hs_take' {ops : Array Oper} {L L' L0 : List Blk} {u i : Nat} {s : Array Bool} {f : Nat → Value} (hs : ∀ w, Own M W w L → Own M W w L') (h : bD M P n ops W L0 Q u s i L' f) : bD M P n ops W L0 Q u s i L f := ⟨fun w hO => h.go w (hs w hO)⟩
theorem aInfo_is {T : TypeId} {sz : Nat} (h : aInfo P T = some (true, sz, some sz)) : ∃ i z, P.info? T = some i ∧ i.zero = some z ∧ i.size = sz ∧ z.cells.size = sz ∧ i.bytes ≤ 1000000 := by
 unfold aInfo at h
 cases hi : P.info? T with
 | none => rw [hi] at h; cases h
 | some i =>
  rw [hi] at h
  simp only [Option.map_some, Option.some.injEq, Prod.mk.injEq] at h
  obtain ⟨h1, h2, h3⟩ := h
  cases hz : i.zero with
  | none => rw [hz] at h3; cases h3
  | some z => rw [hz] at h3; exact ⟨i, z, rfl, hz, h2, Option.some.inj h3, Nat.le_of_ble_eq_true h1⟩
theorem qM {T : TypeId} {sz k m cp : Nat} {v : Value} {xs : List Value} (E ob R : List Blk) (q : Nat) (L1 L0 : List Blk) (hs : ∀ w, Own M W w L1 → Own M W w (E ++ ob ++ R)) (hsub : ∀ ob' w, Own M W w (E ++ ob' ++ R) → Own M W w L0) (hv : Sl T sz v k xs ob) (hN : k + m ≤ 1000000)
  (hg : ∀ v' ob', Sl T sz v' (k + m) (xs ++ (jB E q).cs.toList) ob' → zI M P n W Q (aNext c (E ++ ob' ++ R) v'))
  (hkt : (c.L, hL c, c.top, (xA c)[hI c]?, zT (xA c) n c.f (xO c), (xO c).op, ev n c.f (aX (xO c) 0), ev n c.f (aX (xO c) 1), E[q]?, P.underlying (aT (xO c)), aInfo P T, (jB E q).cs.toList.length, (jB E q).cs.toList.all fun u => u.oneCell')
   = (L1, L0, .hst (xA c) (hS c) (hU c) (hL c) (hI c), some (xO c), true, aOp (xO c), v, .slice (some ⟨(jB E q).b, 0, none⟩) m cp, some (jB E q), some (.slice T), some (true, sz, some sz), m * sz, true) := by kernel_rfl) : zI M P n W Q c := by
 simp only [Prod.mk.injEq] at hkt
 obtain ⟨f1, f2, e1, e2, e3, e4, e5, e6, e7, e8, e9, e10, e11⟩ := hkt
 rw [← f1] at hs
 rw [← f2] at hsub
 have : c = ⟨.hst (xA c) (hS c) (hU c) (hL c) (hI c), c.k, c.L, c.f⟩ := by rw [← e1]
 rw [this]
 obtain ⟨i, z, hi, hz, hsz, hzs, hby⟩ := aInfo_is e9
 refine ⟨fun hq hs0 => hs_take' hs (hl_append (E := E) (ob := ob) (R := R) (xO c) e2 e3 e4 e8 hi hz hsz hzs e5 hv e6 e10 (fun w hO j u hj => ?_) (List.all_eq_true.1 e11) ?_ ?_ hsub fun v' ob' h => (hg v' ob' h).go hq (hsub ob'))⟩
 ·have hmem : jB E q ∈ E ++ ob ++ R := List.mem_append_left _ (List.mem_append_left _ (List.mem_of_getElem? e7))
  rw [x3, cell_of_row w _ _ _ _ _ (hO.held _ hmem), Nat.zero_add]
  simpa using hj
 ·unfold maxLen; omega
 ·have := Nat.mul_le_mul hN hby; omega
theorem put_read {v : Value} (hw : xW n c = true) (hr : ∀ w, Own M W w c.L → (execOp (ev n c.f) (xO c)).run P w = .ok (.value v) w) (hg : zI M P n W Q (c.put v)) : zI M P n W Q c := by
 obtain ⟨top, kk, L, f⟩ := c
 unfold xW at hw
 unfold Xc.put at hg
 cases top with
 | ops a r => cases r with
  | nil => cases hw
  | cons o r => exact ⟨fun hq => s_read v hw hr (hg.go hq)⟩
 | qps a r => cases r with
  | nil => cases hw
  | cons o r => exact ⟨fun hq => q_read v hw hr (hg.go hq)⟩
 | _ => cases hw
theorem kH (d : Nat) (h : List Nat) {A : Option Addr} {b off : Nat} (hA : A = some ⟨b, off, none⟩) (N cp j sz : Nat) (hj : j < N) (hg : zI M P n W Q ((xgo P n (d + 50000) h c).put (.pointer (some ⟨b, off + (j : Int).toNat * sz, none⟩))))
  (hkt : (xgl P n (d + 50000) h c, xW n (xgo P n (d + 50000) h c), (xO (xgo P n (d + 50000) h c)).op, ev n (xgo P n (d + 50000) h c).f (oX (xO (xgo P n (d + 50000) h c))), ev n (xgo P n (d + 50000) h c).f (oY (xO (xgo P n (d + 50000) h c))), P.underlying (oT (xO (xgo P n (d + 50000) h c))), (P.info? (xEl P (oT (xO (xgo P n (d + 50000) h c))))).map (·.size))
   = (xgr P n (d + 50000) h c, true, .indexAddr (oT (xO (xgo P n (d + 50000) h c))) (oX (xO (xgo P n (d + 50000) h c))) (oY (xO (xgo P n (d + 50000) h c))), .slice A N cp, YI (j : Int), some (.slice (xEl P (oT (xO (xgo P n (d + 50000) h c))))), some sz) := by kernel_rfl) : zI M P n W Q c := by
 simp only [Prod.mk.injEq] at hkt
 obtain ⟨hk, e1, e2, e3, e4, e5, e6⟩ := hkt
 exact zP h c hk (jG e1 (fun w => run_ixA e2 e3 hA e4 e5 e6 Om Om rfl w) hg)
theorem kB (d : Nat) (h : List Nat) (ty : TypeId) (b o : Nat) (v : Value) (hv : ∀ w, Own M W w (xgo P n (d + 50000) h c).L → (loadVar ty ⟨b, o, none⟩).run P w = .ok v w) (hg : zI M P n W Q ((xgo P n (d + 50000) h c).put v))
  (hkt : (xgl P n (d + 50000) h c, xW n (xgo P n (d + 50000) h c), (xO (xgo P n (d + 50000) h c)).op, ev n (xgo P n (d + 50000) h c).f (oX (xO (xgo P n (d + 50000) h c)))) = (xgr P n (d + 50000) h c, true, .load ty (oX (xO (xgo P n (d + 50000) h c))), .pointer (some ⟨b, o, none⟩)) := by kernel_rfl) : zI M P n W Q c := by
 simp only [Prod.mk.injEq] at hkt
 obtain ⟨hk, e1, e2, e3⟩ := hkt
 exact zP h c hk (put_read e1 (fun w hO => kV e2 e3 (hv w hO)) hg)
theorem qH (d : Nat) (h : List Nat) (s u : List UInt8) (h1 : s = u → zI M P n W Q ((xgo P n (d + 50000) h c).put (.bool true))) (h2 : ¬ s = u → zI M P n W Q ((xgo P n (d + 50000) h c).put (.bool false)))
  (hkt : (xgl P n (d + 50000) h c, xW n (xgo P n (d + 50000) h c), (xO (xgo P n (d + 50000) h c)).op, ev n (xgo P n (d + 50000) h c).f (oX (xO (xgo P n (d + 50000) h c))), ev n (xgo P n (d + 50000) h c).f (oY (xO (xgo P n (d + 50000) h c)))) = (xgr P n (d + 50000) h c, true, .binOp .eql (oT (xO (xgo P n (d + 50000) h c))) (oX (xO (xgo P n (d + 50000) h c))) (oY (xO (xgo P n (d + 50000) h c))) (oU (xO (xgo P n (d + 50000) h c))), .string (mkS s), .string (mkS u)) := by kernel_rfl) : zI M P n W Q c := by
 simp only [Prod.mk.injEq] at hkt
 obtain ⟨hk, e1, e2, e3, e4⟩ := hkt
 by_cases hp : s = u
 ·exact zP h c hk (jG e1 (fun w => k8 e2 e3 e4 (decide_eq_true hp) w) (h1 hp))
 ·exact zP h c hk (jG e1 (fun w => k8 e2 e3 e4 (decide_eq_false hp) w) (h2 hp))
theorem wI (d : Nat) (h : List Nat) (s u : List UInt8) (h1 : s = u → zI M P n W Q ((xgo P n (d + 50000) h c).put (.bool false))) (h2 : ¬ s = u → zI M P n W Q ((xgo P n (d + 50000) h c).put (.bool true)))
  (hkt : (xgl P n (d + 50000) h c, xW n (xgo P n (d + 50000) h c), (xO (xgo P n (d + 50000) h c)).op, ev n (xgo P n (d + 50000) h c).f (oX (xO (xgo P n (d + 50000) h c))), ev n (xgo P n (d + 50000) h c).f (oY (xO (xgo P n (d + 50000) h c)))) = (xgr P n (d + 50000) h c, true, .binOp .neq (oT (xO (xgo P n (d + 50000) h c))) (oX (xO (xgo P n (d + 50000) h c))) (oY (xO (xgo P n (d + 50000) h c))) (oU (xO (xgo P n (d + 50000) h c))), .string (mkS s), .string (mkS u)) := by kernel_rfl) : zI M P n W Q c := by
 simp only [Prod.mk.injEq] at hkt
 obtain ⟨hk, e1, e2, e3, e4⟩ := hkt
 by_cases hp : s = u
 ·exact zP h c hk (jG e1 (fun w => kX e2 e3 e4 (decide_eq_true hp) w) (h1 hp))
 ·exact zP h c hk (jG e1 (fun w => kX e2 e3 e4 (decide_eq_false hp) w) (h2 hp))
def xBo : Value → Bool
 | .bool b => b
 | _ => false
theorem x_tst (t : Nat) (h : List Nat) (h1 : zI M P n W Q ((xgo P n t h c).st t (.bool true))) (h2 : zI M P n W Q ((xgo P n t h c).st t (.bool false)))
  (hkt : (xgl P n t h c, (xgo P n t h c).f t) = (xgr P n t h c, .bool (xBo ((xgo P n t h c).f t))) := by kernel_rfl) : zI M P n W Q c := by
 obtain ⟨hk, hv⟩ := Prod.mk.inj hkt
 cases hb : xBo ((xgo P n t h c).f t) with
 | true => rw [hb] at hv; exact pF t h _ hv h1 hk
 | false => rw [hb] at hv; exact pF t h _ hv h2 hk
theorem qL (t : Nat) (h : List Nat) (i : Nat) {A : Option Addr} {b off : Nat} (hA : A = some ⟨b, off, none⟩) (N cp j sz : Nat) (hj : j < N) (hg : zI M P n W Q (xHn (xgo P n t h c) i (.pointer (some ⟨b, off + (j : Int).toNat * sz, none⟩))))
  (hkt : (xgl P n t h c, pH n i (xgo P n t h c), (xOi i (xgo P n t h c)).op, ev n (xgo P n t h c).f (oX (xOi i (xgo P n t h c))), ev n (xgo P n t h c).f (oY (xOi i (xgo P n t h c))), P.underlying (oT (xOi i (xgo P n t h c))), (P.info? (xEl P (oT (xOi i (xgo P n t h c))))).map (·.size))
   = (xgr P n t h c, dQ i (xgo P n t h c), .indexAddr (oT (xOi i (xgo P n t h c))) (oX (xOi i (xgo P n t h c))) (oY (xOi i (xgo P n t h c))), .slice A N cp, YI (j : Int), some (.slice (xEl P (oT (xOi i (xgo P n t h c))))), some sz) := by kernel_rfl) : zI M P n W Q c := by
 simp only [Prod.mk.injEq] at hkt
 obtain ⟨hk, e1, e2, e3, e4, e5, e6⟩ := hkt
 exact zP h c hk (xtake (fun w _ => run_ixA e2 e3 hA e4 e5 e6 Om Om rfl w) hg e1)
theorem gX (t : Nat) (h : List Nat) (i : Nat) (ty : TypeId) (b o : Nat) (v : Value) (hv : ∀ w, Own M W w (xL0 (xgo P n t h c)) → (loadVar ty ⟨b, o, none⟩).run P w = .ok v w) (hg : zI M P n W Q (xHn (xgo P n t h c) i v))
  (hkt : (xgl P n t h c, pH n i (xgo P n t h c), (xOi i (xgo P n t h c)).op, ev n (xgo P n t h c).f (oX (xOi i (xgo P n t h c)))) = (xgr P n t h c, dQ i (xgo P n t h c), .load ty (oX (xOi i (xgo P n t h c))), .pointer (some ⟨b, o, none⟩)) := by kernel_rfl) : zI M P n W Q c := by
 simp only [Prod.mk.injEq] at hkt
 obtain ⟨hk, e1, e2, e3⟩ := hkt
 exact zP h c hk (xtake (fun w hO => kV e2 e3 (hv w hO)) hg e1)
theorem dP (t : Nat) (h : List Nat) (i : Nat) (a b : List UInt8) (hg : zI M P n W Q (xHn (xgo P n t h c) i (.string (mkS (a ++ b))))) (hb : a.length + b.length ≤ 4000000000 := by (try simp only [List.length_append, List.length_cons, List.length_nil]); omega)
  (hkt : (xgl P n t h c, pH n i (xgo P n t h c), (xOi i (xgo P n t h c)).op, ev n (xgo P n t h c).f (oX (xOi i (xgo P n t h c))), ev n (xgo P n t h c).f (oY (xOi i (xgo P n t h c))))
   = (xgr P n t h c, dQ i (xgo P n t h c), .binOp .add (oT (xOi i (xgo P n t h c))) (oX (xOi i (xgo P n t h c))) (oY (xOi i (xgo P n t h c))) (oU (xOi i (xgo P n t h c))), .string (mkS a), .string (mkS b)) := by kernel_rfl) : zI M P n W Q c := by
 simp only [Prod.mk.injEq] at hkt
 obtain ⟨hk, e1, e2, e3, e4⟩ := hkt
 exact zP h c hk (xtake (fun w _ => kY e2 e3 e4 hb w) hg e1)
theorem Reads.elem {α : Type} {g : α → List Value} {sz : Nat} (hg : ∀ x, (g x).length = sz) {A : Option Addr} {l : List α} {B : Nat} (h : Reads g W B A l) (j : Nat) (hj : j < l.length) : ∃ b off, A = some ⟨b, off, none⟩ ∧ ∀ w, Below B W w → ∀ (ty : TypeId) (fo : Nat) (v : Value), yO P ty ((g l[j]).drop fo).toArray 0 = some v → (loadVar ty ⟨b, off + j * sz + fo, none⟩).run P w = .ok v w := by
 obtain ⟨b, off, e, hb, hc⟩ := h Om
 refine ⟨b, off, e, fun w hw ty fo v hr => nJ hg (fun k u hu => ?_) j fo hj rfl v hr⟩
 have := hc k u hu
 rw [← this]
 unfold World.cell?
 rw [hw.block b hb]
theorem x_ixa (d : Nat) (h : List Nat) (N k sz : Nat) (hN : k < N) (hg : zI M P n W Q ((xgo P n (d + 50000) h c).put (.pointer (some ⟨xPb (ev n (xgo P n (d + 50000) h c).f (oX (xO (xgo P n (d + 50000) h c)))), xOff (ev n (xgo P n (d + 50000) h c).f (oX (xO (xgo P n (d + 50000) h c)))) + (k : Int).toNat * sz, none⟩))))
  (hkt : (xgl P n (d + 50000) h c, xW n (xgo P n (d + 50000) h c), (xO (xgo P n (d + 50000) h c)).op, ev n (xgo P n (d + 50000) h c).f (oX (xO (xgo P n (d + 50000) h c))), ev n (xgo P n (d + 50000) h c).f (oY (xO (xgo P n (d + 50000) h c))), P.underlying (oT (xO (xgo P n (d + 50000) h c))), (P.info? (xEl P (oT (xO (xgo P n (d + 50000) h c))))).map (·.size))
   = (xgr P n (d + 50000) h c, true, .indexAddr (oT (xO (xgo P n (d + 50000) h c))) (oX (xO (xgo P n (d + 50000) h c))) (oY (xO (xgo P n (d + 50000) h c))), .pointer (some ⟨xPb (ev n (xgo P n (d + 50000) h c).f (oX (xO (xgo P n (d + 50000) h c)))), xOff (ev n (xgo P n (d + 50000) h c).f (oX (xO (xgo P n (d + 50000) h c)))), none⟩), YI (k : Int), some (.array N (xEl P (oT (xO (xgo P n (d + 50000) h c))))), some sz) := by kernel_rfl) : zI M P n W Q c := by
 simp only [Prod.mk.injEq] at hkt
 obtain ⟨hk, e1, e2, e3, e4, e5, e6⟩ := hkt
 exact zP h c hk (jG e1 (fun w => run_ixarr e2 e3 e4 e5 e6 Om Om rfl w) hg)
theorem x_ldk (d : Nat) (h : List Nat) (q : Nat) (cs : Array Value) (off : Nat) (ty : TypeId) (v : Value) (hv : yO P ty cs off = some v) (hg : zI M P n W Q ((xgo P n (d + 50000) h c).put v))
  (hkt : (xgl P n (d + 50000) h c, xW n (xgo P n (d + 50000) h c), (xO (xgo P n (d + 50000) h c)).op, (xgo P n (d + 50000) h c).L[q]?, (jB (xgo P n (d + 50000) h c).L q).cs, ev n (xgo P n (d + 50000) h c).f (oX (xO (xgo P n (d + 50000) h c)))) = (xgr P n (d + 50000) h c, true, .load ty (oX (xO (xgo P n (d + 50000) h c))), some (jB (xgo P n (d + 50000) h c).L q), cs, .pointer (some ⟨(jB (xgo P n (d + 50000) h c).L q).b, off, none⟩)) := by kernel_rfl) : zI M P n W Q c := by
 simp only [Prod.mk.injEq] at hkt
 obtain ⟨hk, e1, e2, e3, e4, e5⟩ := hkt
 exact zP h c hk (put_read e1 (fun w hO => kV e2 e5 (yY (by rw [e4]; exact hv) (hO.get e3))) hg)
theorem pG {T : TypeId} {sz k m cp : Nat} {v : Value} {xs : List Value} (h : List Nat) (E ob R : List Blk) (q : Nat) (L1 : List Blk) (hs : ∀ w, Own M W w L1 → Own M W w (E ++ ob ++ R)) (hv : Sl T sz v k xs ob) (hN : k + m ≤ 1000000)
  (hg : ∀ v' ob', Sl T sz v' (k + m) (xs ++ (jB E q).cs.toList) ob' → zI M P n W Q ⟨.ops (xA (xgo P n nS h c)) (xT (xgo P n nS h c)), (xgo P n nS h c).k, E ++ ob' ++ R, upd (xgo P n nS h c).f (xO (xgo P n nS h c)).dst v'⟩)
  (hkt : (xgl P n nS h c, (xgo P n nS h c).L, (xgo P n nS h c).top, zT (xA (xgo P n nS h c)) n (xgo P n nS h c).f (xO (xgo P n nS h c)), (xO (xgo P n nS h c)).op, ev n (xgo P n nS h c).f (aX (xO (xgo P n nS h c)) 0), ev n (xgo P n nS h c).f (aX (xO (xgo P n nS h c)) 1), E[q]?, P.underlying (aT (xO (xgo P n nS h c))), aInfo P T, (jB E q).cs.toList.length, (jB E q).cs.toList.all fun u => u.oneCell')
   = (xgr P n nS h c, L1, .ops (xA (xgo P n nS h c)) (xO (xgo P n nS h c) :: xT (xgo P n nS h c)), true, aOp (xO (xgo P n nS h c)), v, .slice (some ⟨(jB E q).b, 0, none⟩) m cp, some (jB E q), some (.slice T), some (true, sz, some sz), m * sz, true) := by kernel_rfl) : zI M P n W Q c := by
 simp only [Prod.mk.injEq] at hkt
 obtain ⟨hk, f1, e1, e3, e4, e5, e6, e7, e8, e9, e10, e11⟩ := hkt
 refine zP h c hk ?_
 generalize (xgo P n nS h c) = d at *
 rw [← f1] at hs
 have : d = ⟨.ops (xA d) (xO d :: xT d), d.k, d.L, d.f⟩ := by rw [← e1]
 rw [this]
 obtain ⟨i, z, hi, hz, hsz, hzs, hby⟩ := aInfo_is e9
 refine ⟨fun hq => dR hs (dA (E := E) (ob := ob) (L0 := R) e3 e4 e8 hi hz hsz hzs e5 hv e6 e10 (fun w hO j u hj => ?_) (List.all_eq_true.1 e11) ?_ ?_ fun v' ob' h => (hg v' ob' h).go hq)⟩
 ·have hmem : jB E q ∈ E ++ ob ++ R := List.mem_append_left _ (List.mem_append_left _ (List.mem_of_getElem? e7))
  rw [x3, cell_of_row w _ _ _ _ _ (hO.held _ hmem), Nat.zero_add]
  simpa using hj
 ·unfold maxLen; omega
 ·have := Nat.mul_le_mul hN hby; omega
end
end
section
def xNl : List XIt → Bool
 | [] => true
 | .lp _ _ :: _ => false
 | _ :: k => xNl k
theorem KQ_any {M M' : List Nat} {P : Program} {n : Nat} {W W' : World} {Q : Exit → Act → World → Prop} : ∀ {k : List XIt}, xNl k = true → KQ M P n W Q k = KQ M' P n W' Q k
 | [], _ => rfl
 | .lp _ _ :: _, h => by cases h
 | .code c :: k, h => by unfold KQ; rw [KQ_any (k := k) h]
 | .blk _ :: k, h => by unfold KQ; rw [KQ_any (k := k) h]
 | .tl _ _ :: k, h => by unfold KQ; rw [KQ_any (k := k) h]
 | .rd _ _ :: k, h => by unfold KQ; rw [KQ_any (k := k) h]
theorem pq_of {M : List Nat} {P : Program} {n : Nat} {W : World} {Q : Exit → Act → World → Prop} : ∀ {k : List XIt}, PQ (KQ M P n W Q k) → PQ Q
 | [], h => h
 | .lp _ _ :: k, h => pq_of (k := k) fun c a d v w q => h c a d v w q
 | .code c :: k, h => pq_of (k := k) fun c a d v w q => h c a d v w q
 | .blk _ :: k, h => pq_of (k := k) fun c a d v w q => h c a d v w q
 | .tl _ _ :: k, h => pq_of (k := k) fun c a d v w q => h c a d v w q
 | .rd _ _ :: k, h => pq_of (k := k) fun c a d v w q => h c a d v w q
def xOut : Exit → Bool
 | .exit _ => true
 | .ret => true
 | _ => false
section
variable {M : List Nat} {P : Program} {n : Nat} {W : World} {Q : Exit → Act → World → Prop} {c : Xc}
theorem wp_skip {K : Act → World → Prop} {o : Oper} {f : Nat → Value} {w w' : World} (hr : (execOp (ev n f) o).run P w = .ok .skip w') (h : K (Fr n (upd f o.dst undef)) w') : o.wp P (Fr n f) w K Q := by
 unfold Oper.wp
 rw [kN, hr]
 show K ((Fr n f).put o.dst undef) w'
 rw [vL]; exact h
def xNx (d : Xc) (L' : List Blk) (v : Value) : Xc := ⟨.ops (xA d) (xT d), d.k, L', upd d.f (xO d).dst v⟩
theorem ok_loopW' {c : Code} {L : List Blk} {f : Nat → Value} (Inv : World → (Nat → Value) → Nat → Prop) (m : Nat) (h0 : ∀ w, Own M W w L → Inv w f m) (h : ∀ w f m, Inv w f m → Code.wp P c (RoundW n Inv m Q) (Fr n f) w) : Ok M P n W Q (.loop c) L f := ⟨fun w hO => by
 intro b k cs
 have run : ∀ (m : Nat) (f : Nat → Value) (w : World), Inv w f m → ∃ e a' w', Q e a' w' ∧ Arrives P (lone (b.at (Fr n f) (.code c :: .inLoop c :: k)) cs w) b k cs e a' w' := by
  intro m
  induction m using Nat.strongRecOn with
  | _ m ih =>
   intro f w hI
   obtain ⟨e, a₁, w₁, hq, harr⟩ := h w f m hI b (.inLoop c :: k) cs
   cases e with
   | normal =>
    obtain ⟨f', m', hlt, hI', rfl⟩ := hq
    obtain ⟨e₂, a₂, w₂, hq₂, harr₂⟩ := ih m' hlt f' w₁ hI'
    exact ⟨e₂, a₂, w₂, hq₂, .of_steps (Steps.trans harr (.one step_inLoop)) harr₂⟩
   | exit id => exact ⟨_, a₁, w₁, hq, .pass (x := .inLoop c) rfl (fun _ _ => .inl (by simp)) harr⟩
   | goto l => exact ⟨_, a₁, w₁, hq, .pass (x := .inLoop c) rfl (fun _ _ => .inl (by simp)) harr⟩
   | ret => exact ⟨_, a₁, w₁, hq, .pass (x := .inLoop c) rfl (fun _ _ => .inl (by simp)) harr⟩
   | panic ch => exact ⟨_, a₁, w₁, hq, .pass (x := .inLoop c) rfl (fun _ _ => .inl (by simp)) harr⟩
   | outgrown => exact ⟨_, a₁, w₁, hq, .pass (x := .inLoop c) rfl (fun _ _ => .inl (by simp)) harr⟩
 obtain ⟨e, a', w', hq, harr⟩ := run m f w (h0 w hO)
 exact ⟨e, a', w', hq, .of_steps (.one step_loop) harr⟩⟩
theorem pq_roundW {Inv : World → (Nat → Value) → Nat → Prop} {m : Nat} (h : PQ Q) : PQ (RoundW n Inv m Q) := fun c a d v w h2 => h c a d v w h2
def xIW (n : Nat) {α : Type} (lv : α → List (Nat × Value)) (Mf : α → List Nat) (Lf : α → List Blk) (rel : α → World → Nat → Prop) : World → (Nat → Value) → Nat → Prop := fun w f m => ∃ x, rel x w m ∧ Own (Mf x) w w (Lf x) ∧ Agrees f (lv x)
theorem x_loopW {α : Type} (lv : α → List (Nat × Value)) (Mf : α → List Nat) (Lf : α → List Blk) (rel : α → World → Nat → Prop) (x0 : α) (m0 : Nat) (h : List Nat) (h0 : ∀ w, Own M W w (xgo P n nS h c).L → rel x0 w m0 ∧ Own (Mf x0) w w (Lf x0))
  (hg : ∀ x w m g, rel x w m → Own (Mf x) w w (Lf x) → zI (Mf x) P n w (RoundW n (xIW n lv Mf Lf rel) m (KQ M P n W Q (xgo P n nS h c).k)) ⟨.code (pI (xgo P n nS h c)), [], Lf x, jR g (lv x)⟩)
  (hkt : (xgl P n nS h c, (xgo P n nS h c).top, xV (xgo P n nS h c).f (lv x0)) = (xgr P n nS h c, .code (.loop (pI (xgo P n nS h c))), (lv x0).map Prod.snd) := by kernel_rfl) : zI M P n W Q c := by
 simp only [Prod.mk.injEq] at hkt
 obtain ⟨hk, e1, e2⟩ := hkt
 refine zP h c hk ?_
 generalize xgo P n nS h c = d at *
 have : d = ⟨.code (.loop (pI d)), d.k, d.L, d.f⟩ := by rw [← e1]
 rw [this]
 refine ⟨fun hq => ok_loopW' (M := M) (W := W) (xIW n lv Mf Lf rel) m0 (fun w hO => ⟨x0, (h0 w hO).1, (h0 w hO).2, qG e2⟩) fun w f m ⟨x, hr, hO, hA⟩ => ?_⟩
 have hx := hg x w m f hr hO
 rw [← vC _ hA] at hx
 exact (hx.go (pq_roundW (pq_KQ hq d.k))).go w hO
theorem x_nxW {α : Type} {lv : α → List (Nat × Value)} {Mf : α → List Nat} {Lf : α → List Blk} {rel : α → World → Nat → Prop} {m : Nat} (x' : α) (m' : Nat) (h : List Nat) (hlt : m' < m) (hs : ∀ w, Own M W w (xgo P n nS h c).L → rel x' w m' ∧ Own (Mf x') w w (Lf x'))
  (hkt : (xgl P n nS h c, (xgo P n nS h c).top, (xgo P n nS h c).k, xV (xgo P n nS h c).f (lv x')) = (xgr P n nS h c, .fin .normal, [], (lv x').map Prod.snd) := by kernel_rfl) : zI M P n W (RoundW n (xIW n lv Mf Lf rel) m Q) c := by
 simp only [Prod.mk.injEq] at hkt
 obtain ⟨hk, e1, e2, e3⟩ := hkt
 refine zP h c hk ?_
 generalize xgo P n nS h c = d at *
 have : d = ⟨.fin .normal, [], d.L, d.f⟩ := by rw [← e1, ← e2]
 rw [this]
 exact ⟨fun _ => fin_roundW hlt fun w hO => ⟨x', (hs w hO).1, (hs w hO).2, qG e3⟩⟩
theorem x_outW {M0 : List Nat} {W0 : World} {k : List XIt} {Inv : World → (Nat → Value) → Nat → Prop} {m : Nat} (e : Exit) (h : List Nat) (hg : zI M P n W Q ⟨.fin e, k, (xgo P n nS h c).L, (xgo P n nS h c).f⟩) (he : xOut e = true)
  (hkt : (xgl P n nS h c, (xgo P n nS h c).top, (xgo P n nS h c).k, xNl k) = (xgr P n nS h c, .fin e, [], true) := by kernel_rfl) : zI M P n W (RoundW n Inv m (KQ M0 P n W0 Q k)) c := by
 simp only [Prod.mk.injEq] at hkt
 obtain ⟨hk, e1, e2, e3⟩ := hkt
 refine zP h c hk ?_
 generalize xgo P n nS h c = d at *
 have : d = ⟨.fin e, [], d.L, d.f⟩ := by rw [← e1, ← e2]
 rw [this]
 refine ⟨fun hq => ⟨fun w hO => ?_⟩⟩
 have hq' : PQ Q := pq_of (k := k) (M := M0) (W := W0) (P := P) (n := n) fun c a dd v w h2 => hq c a dd v w h2
 have hf := (hg.go hq').go w hO
 rw [KQ_any (M := M) (W := W) (M' := M0) (W' := W0) e3] at hf
 cases e with
 | exit id => exact hf
 | ret => exact hf
 | _ => cases he
end
end
section
section
variable {M : List Nat} {P : Program} {W w : World} {E ob L0 : List Blk}
theorem own_append_str {t u ty T : TypeId} {i : TypeInfo} (ht : P.underlying t = some (.slice T)) (hu : P.underlying u = some .string) (hi : P.info? T = some i) (hz : i.zero = some (.int .u8 0)) (hsz : i.size = 1) (hby : i.bytes = 1)
  {v : Value} {n : Nat} {xs : List Value} (hv : Sl T 1 v n xs ob) (hO : Own M W w (E ++ ob ++ L0)) (s : ByteArray)
  (h63 : n + s.size ≤ maxLen) (hbytes : n + s.size ≤ 140737488355328) :
  ∃ v' w' ob', (Builtin.append_ #[t, u] ty #[v, .string s]).run P w = .ok v' w' ∧ Sl T 1 v' (n + s.size) (xs ++ Lib.strCells s) ob' ∧ Own M W w' (E ++ ob' ++ L0) := by
 have hsmall : n + s.size ≤ 9223372036854775807 := by simp only [maxLen] at h63; omega
 have hxl : xs.length = n := by simpa using hv.1
 have hsl := Lib.strCells_length s
 have hlen : (xs ++ Lib.strCells s).length = (n + s.size) * 1 := by rw [List.length_append, hxl, hsl, Nat.mul_one]
 have hz1 : (Value.int IntKind.u8 0).cells.size = 1 := rfl
 rcases hv.2 with ⟨rfl, rfl, rfl⟩ | ⟨g, cap, cur, rfl, rfl, hnc, hcm, hcs, htake⟩
 ·have hx : xs = [] := List.eq_nil_of_length_eq_zero hxl
  subst hx
  by_cases hm : s.size = 0
  ·have hn : Lib.strCells s = [] := List.eq_nil_of_length_eq_zero (by rw [hsl]; exact hm)
   refine ⟨.slice none 0 0, w, [], ?_, by rw [hm, hn]; exact Sl.nil T 1, hO⟩
   have hf := Lib.run_firstCells_string (P := P) w 1 s
   rw [hm] at hf
   simp [Builtin.append_, run_underlying ht, run_underlying hu, sizeOf, typeInfo, hi, hsz, Builtin.lenOf, hm, hf]
  ·have hr := run_append_nil_string (P := P) w t u ty T i (.int .u8 0) ht hu hi hz s Om Om (by rw [hby]; omega)
   have e1 : (s.data.map fun b => Value.int .u8 b.toNat) = (Lib.strCells s).toArray := by
    apply Array.ext'
    simp [Lib.strCells]
   rw [e1] at hr
   have hge := grownCap_ge w s.size 0 T
   have hcm := grownCap_le_maxLen w s.size 0 T (by simpa using h63)
   refine ⟨_, _, [⟨w.heap.size, (Lib.strCells s).toArray ++ Builtin.zeroCells (Value.int .u8 0).cells (grownCap w s.size 0 T - s.size), T⟩], hr, ⟨by simpa using hlen, .inr ⟨w.heap.size, _, _, by simp, rfl, by simpa using hge, hcm, ?_, ?_⟩⟩, ?_⟩
   ·simp only [Array.size_append, List.size_toArray, size_zeroCells, hz1, hsl]
    omega
   ·simp only [Array.toList_append, Nat.zero_add, List.nil_append, Nat.mul_one]
    rw [← hsl]
    exact List.take_left
   ·have := (tM hO).alloc ((Lib.strCells s).toArray ++ Builtin.zeroCells (Value.int .u8 0).cells (grownCap w s.size 0 T - s.size)) T
    exact Own.move (ob := []) this
 ·have hcs' : cur.size = cap := by simpa using hcs
  have ht' : cur.toList.take n = xs := by simpa using htake
  by_cases hroom : n + s.size ≤ cap
  ·have hk : (E ++ [Blk.mk g cur T] ++ L0)[E.length]? = some ⟨g, cur, T⟩ := by simp
   have hg := hO.get hk
   have hr := Lib.run_append_room_string (P := P) w t u ty T i ht hu hi hsz g n cap cur hg s hroom Om
   refine ⟨_, _, [⟨g, (cur.toList.take n ++ Lib.strCells s ++ cur.toList.drop (n + s.size)).toArray, T⟩], hr, ⟨hlen, .inr ⟨g, cap, _, rfl, rfl, hroom, hcm, ?_, ?_⟩⟩, ?_⟩
   ·simp only [List.size_toArray, List.length_append, List.length_take, List.length_drop, Array.length_toList, hsl]
    omega
   ·rw [ht', ← hlen]
    exact List.take_left
   ·have := hO.put hk (cur.toList.take n ++ Lib.strCells s ++ cur.toList.drop (n + s.size)).toArray
    have e : (E ++ [Blk.mk g cur T] ++ L0).set E.length ⟨g, (cur.toList.take n ++ Lib.strCells s ++ cur.toList.drop (n + s.size)).toArray, T⟩ = E ++ [⟨g, (cur.toList.take n ++ Lib.strCells s ++ cur.toList.drop (n + s.size)).toArray, T⟩] ++ L0 := by simp
    rw [e] at this; exact this
  ·have hk : (E ++ [Blk.mk g cur T] ++ L0)[E.length]? = some ⟨g, cur, T⟩ := by simp
   have hg := hO.get hk
   have holds : ∀ j u, xs[j]? = some u → w.cell? ((⟨g, 0, none⟩ : Addr).add j) = some u := fun j u hj => by
    rw [x3, cell_of_row w g (0 + j) cur T _ hg]
    rw [← ht', List.getElem?_take] at hj
    split at hj
    ·simpa using hj
    ·cases hj
   have hr := Lib.run_append_grow_string (P := P) w t u ty T i (.int .u8 0) ht hu hi hz ⟨g, 0, none⟩ n cap xs (by rw [hsz]; simpa using hxl) holds s Om Om (by rw [hby]; exact growslice_fits Om Om)
   have hge := grownCap_ge w (n + s.size) cap T
   have hcm := grownCap_le_maxLen w (n + s.size) cap T h63
   refine ⟨_, _, [⟨w.heap.size, xs.toArray ++ (Lib.strCells s).toArray ++ Builtin.zeroCells (Value.int .u8 0).cells (grownCap w (n + s.size) cap T - (n + s.size)), T⟩], hr, ⟨hlen, .inr ⟨w.heap.size, _, _, rfl, rfl, hge, hcm, ?_, ?_⟩⟩, ?_⟩
   ·simp only [Array.size_append, List.size_toArray, size_zeroCells, hz1, hxl, hsl]
    omega
   ·simp only [Array.toList_append, List.append_assoc]
    rw [← List.append_assoc, ← hlen]
    exact List.take_left
   ·exact Own.move ((tM hO).alloc (xs.toArray ++ (Lib.strCells s).toArray ++ Builtin.zeroCells (Value.int .u8 0).cells (grownCap w (n + s.size) cap T - (n + s.size))) T)
end
section
variable {M : List Nat} {P : Program} {n0 : Nat} {ops : Array Oper} {W : World} {Q : Exit → Act → World → Prop} {rest : List Oper} {o : Oper} {E ob L0 : List Blk} {f : Nat → Value}
theorem s_appstr {t u T : TypeId} {x y : Operand} {i : TypeInfo} (hw : zT ops n0 f o = true) (ho : o.op = .call { callee := .builtin .append, args := #[x, y], argTypes := #[t, u] })
  (ht : P.underlying t = some (.slice T)) (hu : P.underlying u = some .string) (hi : P.info? T = some i) (hz : i.zero = some (.int .u8 0)) (hsz : i.size = 1) (hby : i.bytes = 1)
  {v : Value} {n : Nat} {xs : List Value} (hx : ev n0 f x = v) (hv : Sl T 1 v n xs ob) {s : ByteArray} (hy : ev n0 f y = .string s)
  (h63 : n + s.size ≤ maxLen) (hbytes : n + s.size ≤ 140737488355328)
  (h : ∀ v' ob', Sl T 1 v' (n + s.size) (xs ++ Lib.strCells s) ob' → Seg M P n0 ops W Q rest (E ++ ob' ++ L0) (upd f o.dst v')) : Seg M P n0 ops W Q (o :: rest) (E ++ ob ++ L0) f :=
 vI hw fun w hO => by
  obtain ⟨v', w', ob', hr, h2, h3⟩ := own_append_str (P := P) (ty := o.type) ht hu hi hz hsz hby hv hO s h63 hbytes
  refine gO v' (w' := w') ?_ ((h v' ob' h2).go w' h3)
  unfold execOp
  simp only [ho, resolve, invoke, builtin, Sem.run_bind, Sem.run_pure, Result.andThen_ok, List.map_toArray, List.map_cons, List.map_nil, hx, hy, hr]
end
section
variable {M : List Nat} {P : Program} {n : Nat} {W : World} {L : List Blk} {f : Nat → Value}
theorem vA {fn : Func} {R : Ending → World → Prop} (hres : fn.results = #[]) (hR : ∀ w, Own M W w L → R (.returned (.tuple #[])) w) : Fin M n W (bodyPost P fn R) .normal L f := ⟨fun w hO =>
 bodyPost_end (results_none hres _ _ _) rfl (hR w hO)⟩
theorem fin_none_ret {fn : Func} {R : Ending → World → Prop} (hres : fn.results = #[]) (hR : ∀ w, Own M W w L → R (.returned (.tuple #[])) w) : Fin M n W (bodyPost P fn R) .ret L f := ⟨fun w hO =>
 bodyPost_ret (results_none hres _ _ _) rfl (hR w hO)⟩
end
end
section
section
variable {M : List Nat} {P : Program} {n : Nat} {W : World} {Q : Exit → Act → World → Prop} {c : Xc}
theorem yJ {M : List Nat} {L : List Blk} {k : FuncId} {fn : Func} {args : Array Value} {R : Ending → World → Prop} (hO : Own M W W L) (hf : P.funcs[k]? = some fn) (hg : zI M P fn.ntmps W (bodyPost P fn R) ⟨.code (fn.body.getD .skip), [], L, fun t => args.getD t undef⟩)
  (hb : fn.body.isSome = true := by kernel_rfl) (hle : Nat.ble args.size fn.ntmps = true := by kernel_rfl) : Calls P k args W R := by
 cases hb' : fn.body with
 | none => rw [hb'] at hb; cases hb
 | some b => rw [hb'] at hg; exact vG hO hf hb' rfl hle (hg.go xD)
theorem mO {fn : Func} {R : Ending → World → Prop} (h : List Nat) (v v' v2 : Value) (hR : ∀ w, Own M W w (xgo P n nS h c).L → R (.returned (.tuple #[v, v', v2])) w)
  (hkt : (xgl P n nS h c, ((xgo P n nS h c).top, (xgo P n nS h c).k, fn.results, ev n (xgo P n nS h c).f (.tmp (xRt fn 0)), ev n (xgo P n nS h c).f (.tmp (xRt fn 1)), ev n (xgo P n nS h c).f (.tmp (xRt fn 2)))) = (xgr P n nS h c, (.fin .ret, [], #[.tmp (xRt fn 0), .tmp (xRt fn 1), .tmp (xRt fn 2)], v, v', v2)) := by kernel_rfl) : zI M P n W (bodyPost P fn R) c := by
 obtain ⟨hk, ht⟩ := Prod.mk.inj hkt
 refine zP h c hk ?_
 generalize xgo P n nS h c = d at hR ht ⊢
 obtain ⟨top, kk, L, f⟩ := d
 simp only [Prod.mk.injEq] at ht
 obtain ⟨rfl, rfl, e3, e4, e5, e6⟩ := ht
 exact ⟨fun _ => fin_ret3 v v' v2 e3 e4 e5 e6 hR⟩
theorem gA {fn : Func} {R : Ending → World → Prop} (h : List Nat) (i : Nat) (v v' : Value) (hR : ∀ w, Own M W w (xgo P n nS h c).L → R (.returned (.tuple #[v, v'])) w) (hkt : (xgl P n nS h c, ((xgo P n nS h c).top, (xgo P n nS h c).k, fn.results, (xgo P n nS h c).L[i]?, ev n (xgo P n nS h c).f (.tmp (xRt fn 0)), yO P (xRy fn 0) (jB (xgo P n nS h c).L i).cs 0, ev n (xgo P n nS h c).f (.tmp (xRt fn 1)))) = (xgr P n nS h c, (.fin .ret, [], #[.cell (xRt fn 0) (xRy fn 0), .tmp (xRt fn 1)], some (jB (xgo P n nS h c).L i), .pointer (some ⟨(jB (xgo P n nS h c).L i).b, 0, none⟩), some v, v')) := by kernel_rfl) : zI M P n W (bodyPost P fn R) c := by
 obtain ⟨hk, ht⟩ := Prod.mk.inj hkt
 refine zP h c hk ?_
 generalize xgo P n nS h c = d at hR ht ⊢
 obtain ⟨top, kk, L, f⟩ := d
 simp only [Prod.mk.injEq] at ht
 obtain ⟨rfl, rfl, e3, e4, e5, e6, e7⟩ := ht
 exact ⟨fun _ => fin_cell2 i (jB L i) v v' e3 e4 e5 e6 e7 hR⟩
theorem x_ret0 {fn : Func} {R : Ending → World → Prop} (h : List Nat) (hR : ∀ w, Own M W w (xgo P n nS h c).L → R (.returned (.tuple #[])) w)
  (hkt : (xgl P n nS h c, (xgo P n nS h c).top, (xgo P n nS h c).k, fn.results) = (xgr P n nS h c, .fin .ret, [], #[]) := by kernel_rfl) : zI M P n W (bodyPost P fn R) c := by
 simp only [Prod.mk.injEq] at hkt
 obtain ⟨hk, e1, e2, e3⟩ := hkt
 refine zP h c hk ?_
 generalize xgo P n nS h c = d at *
 obtain ⟨top, kk, L, f⟩ := d
 dsimp only at e1 e2
 subst e1; subst e2
 exact ⟨fun _ => fin_none_ret e3 hR⟩
theorem vH {fn : Func} {R : Ending → World → Prop} (h : List Nat) (hR : ∀ w, Own M W w (xgo P n nS h c).L → R (.returned (.tuple #[])) w)
  (hkt : (xgl P n nS h c, (xgo P n nS h c).top, (xgo P n nS h c).k, fn.results) = (xgr P n nS h c, .fin .normal, [], #[]) := by kernel_rfl) : zI M P n W (bodyPost P fn R) c := by
 simp only [Prod.mk.injEq] at hkt
 obtain ⟨hk, e1, e2, e3⟩ := hkt
 refine zP h c hk ?_
 generalize xgo P n nS h c = d at *
 obtain ⟨top, kk, L, f⟩ := d
 dsimp only at e1 e2
 subst e1; subst e2
 exact ⟨fun _ => vA e3 hR⟩
theorem xE (t : Nat) (b : Bool) (h1 : b = true → zI M P n W Q (c.st t (.bool true))) (h2 : b = false → zI M P n W Q (c.st t (.bool false))) (hv : c.f t = .bool b := by kernel_rfl) : zI M P n W Q c := by
 cases b with
 | true =>
  have h := h1 rfl
  unfold Xc.st at h
  rw [← mX hv] at h
  exact h
 | false =>
  have h := h2 rfl
  unfold Xc.st at h
  rw [← mX hv] at h
  exact h
end
theorem Own.and {M : List Nat} {W w w' : World} (h : Own M W w []) (h' : Own M w w' []) : Own M W w' [] :=
 ⟨h'.os.trans h.os, h'.tape.trans h.tape, h'.output.trans h.output, Nat.le_trans h.size h'.size, Nat.le_trans h.drawn h'.drawn, fun k hk hm => (h'.kept k (Nat.lt_of_lt_of_le hk h.size) hm).trans (h.kept k hk hm), by simp, by simp, by simp⟩
end
section
end
section
abbrev ZQ (x : Co) : Array Value := #[YI x.op, YI x.parts, YI x.v.maj, YI x.v.min, YI x.v.pat, .string (mkS x.v.pre), .string (mkS x.v.build)]
def coV (c : Co) : Value := .agg #[YI c.op, YI c.parts, YI c.v.maj, YI c.v.min, YI c.v.pat, .string (mkS c.v.pre), .string (mkS c.v.build)]
def Co.short (c : Co) : Prop := c.v.short
def toldV (p : Int) (v : Ver) : Ver := ⟨if p < 1 then 0 else v.maj, if p < 2 then 0 else v.min, if p < 3 then 0 else v.pat, if p < 3 then [] else v.pre, []⟩
def genCo (l : List Int) (i : Nat) : Co :=
 ⟨1 + plc (atL l (i + 5)) 9, if 1 + plc (atL l (i + 5)) 9 = 9 then plc (atL l (i + 6)) 3 else 1 + plc (atL l (i + 6)) 3, toldV (if 1 + plc (atL l (i + 5)) 9 = 9 then plc (atL l (i + 6)) 3 else 1 + plc (atL l (i + 6)) 3) (genV l i)⟩
end
section
end
section
def ordSp (c d : Cu) : Sp := if 0 < vP c d then ⟨d, c⟩ else ⟨c, d⟩
def spG (l : List Int) (i n : Nat) : Sp := ordSp (genC l (i + 12 * n - 11)) (genC l (i + 12 * n - 5))
def spansG (l : List Int) (i : Nat) : Nat → List Sp
 | 0 => []
 | n + 1 => (if (spG l i (n + 1)).may then [spG l i (n + 1)] else []) ++ spansG l i n
end
section
def rowG (l : List Int) (i : Nat) : List Sp := makeL (spansG l i (plc (atL l i) (4 + 1 : Nat)).toNat)
end
section
end
section
end
section
def highZ (v : Ver) (z : Int) : Cu := if z < 0 then bV 1 else highC v z.toNat
theorem rcMay_any (c : Co) (W : World) (hc : c.short) : YC 148 #[coV c] W (YR (.bool c.may) W) := by
 obtain ⟨op, parts, v⟩ := c
 have hm := @Co.may_iff ⟨op, parts, v⟩
 simp only at hm
 have no : ∀ w, Below W.heap.size W w → ¬ (Co.may ⟨op, parts, v⟩ = true) → Ending.returned (.bool false) = .returned (.bool (Co.may ⟨op, parts, v⟩)) ∧ Below W.heap.size W w := fun w hb h => ⟨by rw [Bool.eq_false_iff.2 h], hb⟩
 have hmay : ∀ w, YC 37 #[jC v] w (YR (.bool v.may) w) := fun w => rmay_any v w hc.1 hc.2
 refine zQ Tryz.func148 (wK [] fun b1 => y8 7 [0] (op < 1) (fun h1 => (zF [] Z5 fun w hO => no w hO.below fun q => by have := hm.1 q; grind)) (fun h1 => y8 11 [0] (op > 9) (fun h2 => (zF [] Z5 fun w hO => no w hO.below fun q => by have := hm.1 q; grind)) (fun h2 => zE (v := .bool v.may) [0] (fun w hO => hmay w) (xE 16 v.may (fun e3 => wI 23 [0] v.build [] (fun h4 => ?_) (fun h4 => (zF [] Z5 fun w hO => no w hO.below fun q => by have := hm.1 q; grind))) (fun e3 => (zF [] Z5 fun w hO => no w hO.below fun q => by have := hm.1 q; grind))))))
 refine m7 27 (α := Int × Int) (fun q => [(1, Zp b1 0), (3, YI q.1), (4, YI q.2)]) (fun _ => [⟨b1, (coV ⟨op, parts, v⟩).cells, 142⟩]) (fun q => (op = 9 → q.1 = 0 ∧ q.2 = 2) ∧ (¬ op = 9 → q.1 = 1 ∧ q.2 = 3)) [0] (fun nj => x_now 27 (op = 9) (fun h => nj (0, 2) [] ⟨fun _ => ⟨rfl, rfl⟩, fun q => absurd h q⟩ Kr) (fun h => nj (1, 3) [] ⟨fun q => absurd q h, fun _ => ⟨rfl, rfl⟩⟩ Kr)) ?_
 rintro ⟨lo, hi⟩ g hr
 simp only at hr
 refine y8 31 [0] (parts < lo) (fun h5 => (zF [] Z5 fun w hO => no w hO.below fun q => by have := hm.1 q; grind)) (fun h5 => y8 36 [0] (parts > hi) (fun h6 => (zF [] Z5 fun w hO => no w hO.below fun q => by have := hm.1 q; grind)) (fun h6 => ?_))
 rcases (by omega : parts = 0 ∨ parts = 1 ∨ parts = 2 ∨ parts = 3) with rfl | rfl | rfl | rfl
 ·exact wI 46 [0, 0] v.pre [] (fun h8 => y8 56 [0, 0] (v.maj = 0) (fun a1 => y8 66 [0, 0] (v.min = 0) (fun a2 => y8 77 [0, 0] (v.pat = 0) (fun a3 => (zF [] Z4 fun w hO => ⟨by rw [hm.2 ⟨by omega, e3, h4, by omega, by omega, by first | exact .inl Om | exact .inr h8, by omega, by omega, by omega⟩], hO.below⟩)) (fun a3 => (zF [] Z5 fun w hO => no w hO.below fun q => by have := hm.1 q; grind))) (fun a2 => (zF [] Z5 fun w hO => no w hO.below fun q => by have := hm.1 q; grind))) (fun a1 => (zF [] Z5 fun w hO => no w hO.below fun q => by have := hm.1 q; grind))) (fun h8 => (zF [] Z5 fun w hO => no w hO.below fun q => by have := hm.1 q; grind))
 ·exact wI 46 [0, 0] v.pre [] (fun h8 => y8 66 [0, 0, 0] (v.min = 0) (fun a2 => y8 77 [0, 0] (v.pat = 0) (fun a3 => (zF [] Z4 fun w hO => ⟨by rw [hm.2 ⟨by omega, e3, h4, by omega, by omega, by first | exact .inl Om | exact .inr h8, by omega, by omega, by omega⟩], hO.below⟩)) (fun a3 => (zF [] Z5 fun w hO => no w hO.below fun q => by have := hm.1 q; grind))) (fun a2 => (zF [] Z5 fun w hO => no w hO.below fun q => by have := hm.1 q; grind))) (fun h8 => (zF [] Z5 fun w hO => no w hO.below fun q => by have := hm.1 q; grind))
 ·exact wI 46 [0, 0] v.pre [] (fun h8 => y8 77 [0, 0, 0, 0] (v.pat = 0) (fun a3 => (zF [] Z4 fun w hO => ⟨by rw [hm.2 ⟨by omega, e3, h4, by omega, by omega, by first | exact .inl Om | exact .inr h8, by omega, by omega, by omega⟩], hO.below⟩)) (fun a3 => (zF [] Z5 fun w hO => no w hO.below fun q => by have := hm.1 q; grind))) (fun h8 => (zF [] Z5 fun w hO => no w hO.below fun q => by have := hm.1 q; grind))
 ·exact zF [0, 0, 0, 0] Z4 fun w hO => ⟨by rw [hm.2 ⟨by omega, e3, h4, by omega, by omega, by first | exact .inl Om | exact .inr h8, by omega, by omega, by omega⟩], hO.below⟩
theorem rcsign_any (op : Int) (W : World) : YC 150 #[YI op] W (YR (.string (mkS (zN op))) W) := by
 exact zQ Tryz.func150 (y8 5 [] (op = 1) (fun h => zF [] (.string (mkS [61])) fun w hO => ⟨by subst h; rfl, hO.below⟩) (fun h1 => y8 7 [] (op = 2) (fun h => zF [] (.string (mkS [33, 61])) fun w hO => ⟨by subst h; rfl, hO.below⟩) (fun h2 => y8 9 [] (op = 3) (fun h => zF [] (.string (mkS [60])) fun w hO => ⟨by subst h; rfl, hO.below⟩) (fun h3 => y8 11 [] (op = 4) (fun h => zF [] (.string (mkS [60, 61])) fun w hO => ⟨by subst h; rfl, hO.below⟩) (fun h4 => y8 13 [] (op = 5) (fun h => zF [] (.string (mkS [62])) fun w hO => ⟨by subst h; rfl, hO.below⟩) (fun h5 => y8 15 [] (op = 6) (fun h => zF [] (.string (mkS [62, 61])) fun w hO => ⟨by subst h; rfl, hO.below⟩) (fun h6 => y8 17 [] (op = 7) (fun h => zF [] (.string (mkS [94])) fun w hO => ⟨by subst h; rfl, hO.below⟩) (fun h7 => y8 19 [] (op = 8) (fun h => zF [] (.string (mkS [126])) fun w hO => ⟨by subst h; rfl, hO.below⟩) (fun h8 => zF [] (.string (mkS [])) fun w hO => ⟨by unfold zN; rw [if_neg h1, if_neg h2, if_neg h3, if_neg h4, if_neg h5, if_neg h6, if_neg h7, if_neg h8], hO.below⟩)))))))))
end
section
end
section
def triV (l : List (List UInt8)) : Ver := if l.length = 3 then ⟨zK (tg l 0), zK (tg l 1), zK (tg l 2), [], []⟩ else Ver.zero
def triB (l : List (List UInt8)) : Bool := decide (l.length = 3) && (j0 (tg l 0) && j0 (tg l 1) && j0 (tg l 2))
theorem rdigits_mk (n : Int) (h : zU n = true) (w : World) :
  YC 170 #[YI n] w (YR (.string (mkS (Lib.itoa n))) w) := by
 unfold zU at h; simp at h
 exact rdigits_any n Om Om w
end
section
theorem bL (op : Int) : (zN op).length ≤ 2 := by
 unfold zN
 repeat' split
 all_goals decide
theorem join_len (b : UInt8) (m : Nat) : ∀ (l : List (List UInt8)), (∀ x ∈ l, x.length ≤ m) → (zD b l).length ≤ l.length * (m + 1)
 | [], _ => by simp [zD]
 | [x], h => by
  have := h x (List.mem_singleton.2 rfl)
  simp [zD]; omega
 | x :: y :: r, h => by
  have h1 := h x (List.mem_cons_self ..)
  have h2 := join_len b m (y :: r) fun z hz => h z (List.mem_cons_of_mem _ hz)
  rw [zD, List.length_append, List.length_cons]
  simp only [List.length_cons, Nat.add_mul] at h2 ⊢
  omega
theorem nums_len9 {v : Ver} (hv : v.may = true) {n : Nat} : ∀ x ∈ zM v n, x.length ≤ 21 := fun x hx => by
 obtain ⟨k, hk, rfl⟩ := nums_mem hv hx
 have := itoa_len hk
 omega
theorem dE (v : Ver) (n : Nat) : (zM v n).length ≤ 3 := by unfold zM; rw [List.length_take]; simp; omega
theorem vF {v : Ver} (hv : v.may = true) (n : Nat) : (zD 46 (zM v n)).length ≤ 100 := by
 have h := join_len 46 21 (zM v n) (nums_len9 hv)
 have := dE v n
 omega
theorem bK {v : Ver} (hv : v.may = true) (n : Nat) : (zD 46 (zM v n ++ [[42]])).length ≤ 200 := by
 have h := join_len 46 21 (zM v n ++ [[42]]) (fun x hx => by
  rcases List.mem_append.1 hx with hx | hx
  ·exact nums_len9 hv x hx
  ·rw [List.mem_singleton.1 hx]; decide)
 have := dE v n
 rw [List.length_append] at h
 simp at h; omega
def toldC (v : Ver) : Array Value := #[.string (mkS (Lib.itoa v.maj)), .string (mkS (Lib.itoa v.min)), .string (mkS (Lib.itoa v.pat))]
theorem told_take (v : Ver) {n : Nat} (h : n ≤ 3) : (toldC v).toList.take (n * 1) = gI (zM v n) := by
 rw [Nat.mul_one]
 unfold gI zM
 rw [List.map_take]; rfl
theorem told_slt (v : Ver) {n : Nat} (h : n ≤ 3) (g : Nat) : SlT (.slice (some ⟨g, 0, none⟩) n 3) (zM v n) [⟨g, toldC v, 9⟩] := by
 have e := vE v h
 refine ⟨by rw [vT, e]; omega, .inr ⟨g, 3, toldC v, by rw [e], rfl, by rw [e]; exact h, by decide, rfl, ?_⟩⟩
 rw [e]; exact told_take v h
theorem parts_nat {c : Co} (h : c.may = true) : ((c.parts.toNat : Nat) : Int) = c.parts ∧ c.parts.toNat ≤ 3 := by
 obtain ⟨_, _, _, h9, hn, _⟩ := Co.facts h
 by_cases e : c.op = 9
 ·have := h9 e; omega
 ·have := hn e; omega
theorem star_text {c : Co} (h9 : c.op = 9) : zD 46 (zM c.v c.parts.toNat ++ [[42]]) = c.text := by
 unfold Co.text Co.rest
 rw [h9, if_pos rfl]; rfl
theorem text_pre {c : Co} (h9 : ¬ c.op = 9) (hp : ¬ c.v.pre = []) : zN c.op ++ zD 46 (zM c.v c.parts.toNat) ++ [45] ++ c.v.pre = c.text := by
 unfold Co.text Co.rest kD
 rw [if_neg h9]
 cases hq : c.v.pre with
 | nil => exact absurd hq hp
 | cons a r => simp
theorem text_bare {c : Co} (h9 : ¬ c.op = 9) (hp : c.v.pre = []) : zN c.op ++ zD 46 (zM c.v c.parts.toNat) = c.text := by
 unfold Co.text Co.rest kD
 rw [if_neg h9, hp]; simp
theorem rctold_any (c : Co) (W : World) (hc : c.short) (hm : c.may = true) : YC 149 #[coV c] W fun e w' => ∃ v' ob', e = .returned v' ∧ (∃ g, v' = .slice (some ⟨g, 0, none⟩) c.parts.toNat 3 ∧ ob' = [⟨g, toldC c.v, 9⟩]) ∧ Own [] W w' ob' := by
 obtain ⟨m1, m2, m3⟩ := qD (Co.facts hm).2.1
 have hpn := parts_nat hm
 refine Z2 (n := 21) Tryz.func149 rfl (ZO (Zb (coV c) (fun b1 => Zv (.slice none 0 0) (ZN (zH (ok_anyh Kr (ZT 0 [] _ (Zp b1 2) (yW xD) rfl (ZT 1 [] _ (Zp b1 2) (yW xD) rfl (ZL 2 [] _ 0 ⟨b1, (coV c).cells, 142⟩ (off := 2) (YI c.v.maj) (yW xD) rfl rfl ?_)))))))))
 refine ZT 4 [] _ (Zp b1 2) (yW xD) rfl (ZT 5 [] _ (Zp b1 3) (yW xD) rfl (ZL 6 [] _ 0 ⟨b1, (coV c).cells, 142⟩ (off := 3) (YI c.v.min) (yW xD) rfl rfl (ZT 8 [] _ (Zp b1 2) (yW xD) rfl (ZT 9 [] _ (Zp b1 4) (yW xD) rfl (ZL 10 [] _ 0 ⟨b1, (coV c).cells, 142⟩ (off := 4) (YI c.v.pat) (yW xD) rfl rfl (Zz 3 (Zx [] _ (k := 170) (args := #[YI c.v.maj]) (.string (mkS (Lib.itoa c.v.maj))) rfl (fun w _ => rdigits_mk c.v.maj m1 w) (Zz 7 (Zx [] _ (k := 170) (args := #[YI c.v.min]) (.string (mkS (Lib.itoa c.v.min))) rfl (fun w _ => rdigits_mk c.v.min m2 w) (Zz 11 (Zx [] _ (k := 170) (args := #[YI c.v.pat]) (.string (mkS (Lib.itoa c.v.pat))) rfl (fun w _ => rdigits_mk c.v.pat m3 w) ?_)))))))))))
 refine Zz 12 (hl_lit _ 9 #[.string (mkS (Lib.itoa c.v.maj)), .string (mkS (Lib.itoa c.v.min)), .string (mkS (Lib.itoa c.v.pat))] rfl Kr rfl (fun w hO => Own.sub [] hO) (fun _ => Kr) (fun b2 => ZT 13 [⟨b2, #[.string (mkS (Lib.itoa c.v.maj)), .string (mkS (Lib.itoa c.v.min)), .string (mkS (Lib.itoa c.v.pat))], 9⟩] _ (.slice (some ⟨b2, 0, none⟩) 3 3) (yW xD) rfl (ZZ (zJ (ZO (Zv (.slice (some ⟨b2, 0, none⟩) 3 3) (Zv (Zp b1 1) (Zl 1 ⟨b1, (coV c).cells, 142⟩ (off := 1) (YI c.parts) (yB (.slice (some ⟨b2, 0, none⟩) c.parts.toNat 3) Kr (run_slhi (b := b2) (off := 0) (n := 3) (c := 3) (k := .i64) (j := c.parts) (e := 9) (sz := 1) rfl Kr Kr Kr Kr Om Om) (Zv (.slice (some ⟨b2, 0, none⟩) c.parts.toNat 3) ?_))))))))))
 exact ZN (zL (ZF (.slice (some ⟨b2, 0, none⟩) c.parts.toNat 3) Tryz.results149 (fun w hO => ⟨_, _, rfl, ⟨_, rfl, rfl⟩, hO.sublist (List.cons_sublist_cons.2 (List.nil_sublist _))⟩)))
theorem rcPrint_any (c : Co) (W : World) (hc : c.short) : YC 107 #[coV c] W (YR (.string (mkS c.print)) W) := by
 refine Z2 (n := 39) Tryz.func107 rfl (ZO (Zb (coV c) (fun b1 => Zv (.string ⟨#[]⟩) (ZN (zH (ZO (Zl 0 ⟨b1, (coV c).cells, 142⟩ (off := 0) (coV c) (Zc (k := 148) (args := #[coV c]) (.bool c.may) (fun w _ => rcMay_any c w hc) ?_))))))))
 cases h1 : c.may with
 | true =>
  refine Zv Z5 (ZX (ZB (ZO (Zl 0 ⟨b1, (coV c).cells, 142⟩ (off := 0) (coV c) ?_))))
  have hcm := h1
  have hcv := (Co.facts hcm).2.1
  have hpn := parts_nat hcm
  refine Zr (k := 149) (args := #[coV c]) (fun v' L' => ∃ g, v' = .slice (some ⟨g, 0, none⟩) c.parts.toNat 3 ∧ L' = ⟨g, toldC c.v, 9⟩ :: [⟨b1, (coV c).cells, 142⟩]) (fun w hO => (rctold_any c w hc hcm).mono fun e w' ⟨v', ob', k1, ⟨g, k2, k4⟩, k3⟩ => ⟨v', _, k1, ⟨g, k2, rfl⟩, by subst k4; exact Own.joinN hO k3⟩) (fun v1 L1 hv1 => ?_)
  obtain ⟨g1, rfl, rfl⟩ := hv1
  refine Zv (.slice (some ⟨g1, 0, none⟩) c.parts.toNat 3) (ZN (zH (ZO (Zv (Zp b1 0) (Zl 1 ⟨b1, (coV c).cells, 142⟩ (off := 0) (YI c.op) ?_)))))
  by_cases h2 : (c.op : Int) = 9
  ·refine Zg h2 (ZY (ZO (Zv (.slice (some ⟨g1, 0, none⟩) c.parts.toNat 3) (Zv (Zp b1 1) (Zl 1 ⟨b1, (coV c).cells, 142⟩ (off := 1) (YI c.parts) (Zv (Zp b1 1) (Zl 1 ⟨b1, (coV c).cells, 142⟩ (off := 1) (YI c.parts) (yB (.slice (some ⟨g1, 0, none⟩) c.parts.toNat c.parts.toNat) Kr (run_slhm (b := g1) (n := c.parts.toNat) (c := 3) (k := .i64) (q := .i64) (j := c.parts) (m := c.parts) (e := 9) (sz := 1) rfl Kr Kr Kr Kr Kr Om Om Om) ?_))))))))
   refine s_lit 9 #[.string ⟨#[42]⟩] Kr rfl (fun _ => Kr) (fun b2 => ?_)
   obtain ⟨i0, z0, e1, e2, e3, e4, e5⟩ := pU
   refine s_appendF (sz := 1) Kr rfl Tryz.underlying58 e1 e2 e3 e4 (b := ⟨g1, 0, none⟩) (n := c.parts.toNat) (cap := c.parts.toNat) (xs := gI (zM c.v c.parts.toNat)) Kr (by rw [vT, vE c.v hpn.2, Nat.mul_one]) (fun w hO j u hj => ?_) (a := ⟨b2, 0, none⟩) (m := 1) (c := 1) (news := gI [[42]]) Kr Kr (fun w hO j u hj => ?_) (by omega) (by unfold maxLen; omega) (by rw [e5]; omega) (fun va oa hva0 => ?_)
   ·rw [← told_take c.v hpn.2, Nat.mul_one, List.getElem?_take] at hj
    split at hj
    ·rw [x3, cell_of_row w g1 (0 + j) (toldC c.v) 9 _ (hO.held ⟨g1, toldC c.v, 9⟩ (by simp))]; simpa using hj
    ·cases hj
   ·rw [x3, cell_of_row w b2 (0 + j) (gI [[42]]).toArray 9 _ (hO.held ⟨b2, (gI [[42]]).toArray, 9⟩ List.mem_cons_self)]; simpa using hj
   have hva : SlT va (zM c.v c.parts.toNat ++ [[42]]) oa := hva0.to (by rw [List.length_append, vE c.v hpn.2]; rfl) (by unfold gI; rw [List.map_append])
   exact Zc (k := 90) (args := #[va, .int .u8 46]) (.string (mkS (zD 46 (zM c.v c.parts.toNat ++ [[42]])))) (fun w hO => rjoin_any va _ 46 w (SlT.readsT hva hO (fun x hx => by simp [hx])) (Nat.le_trans (bK hcv _) (by decide)) (by rw [List.length_append]; have := dE c.v c.parts.toNat; simp; omega)) (Zv (.string (mkS (zD 46 (zM c.v c.parts.toNat ++ [[42]])))) (ZN (zL (z7 (ZF (.string (mkS (zD 46 (zM c.v c.parts.toNat ++ [[42]])))) Tryz.results107 (fun w hO => ⟨by rw [qF hcm, ← star_text h2], hO.below⟩))))))
  refine Zh h2 (ZX (ZB (ZO (Zv (Zp b1 0) (Zl 1 ⟨b1, (coV c).cells, 142⟩ (off := 0) (YI c.op) (Zc (k := 150) (args := #[YI c.op]) (.string (mkS (zN c.op))) (fun w _ => rcsign_any c.op w) (Zv (.slice (some ⟨g1, 0, none⟩) c.parts.toNat 3) ?_)))))))
  refine Zc (k := 90) (args := #[.slice (some ⟨g1, 0, none⟩) c.parts.toNat 3, .int .u8 46]) (.string (mkS (zD 46 (zM c.v c.parts.toNat)))) (fun w hO => rjoin_any _ _ 46 w (SlT.readsT (told_slt c.v hpn.2 g1) hO (fun x hx => by rw [List.mem_singleton.1 hx]; exact List.mem_cons_self)) (Nat.le_trans (vF hcv _) (by decide)) (Nat.le_trans (dE _ _) (by decide))) (yB (.string (mkS ((zN c.op) ++ (zD 46 (zM c.v c.parts.toNat))))) Kr (kY (a := (zN c.op)) (b := (zD 46 (zM c.v c.parts.toNat))) rfl Kr Kr (by have q1 := bL c.op; have q2 := vF hcv c.parts.toNat; have q3 := hc.1; first | omega | (simp only [List.length_append, List.length_cons, List.length_nil]; omega))) (Zv (.string (mkS ((zN c.op) ++ (zD 46 (zM c.v c.parts.toNat))))) (ZN (zH (ZO (Zv (Zp b1 2) (Zv (Zp b1 5) (Zl 1 ⟨b1, (coV c).cells, 142⟩ (off := 5) (.string (mkS c.v.pre)) ?_))))))))
  by_cases h3 : (c.v.pre : List UInt8) = []
  ·refine yB Z5 Kr (kX (a := c.v.pre) (b := ([])) rfl Kr Kr (decide_eq_true (h3))) (ZX (ZB (ZO (Zv (.string (mkS ((zN c.op) ++ (zD 46 (zM c.v c.parts.toNat))))) (Zv (.string (mkS ((zN c.op) ++ (zD 46 (zM c.v c.parts.toNat))))) (yC (zJ ?_)))))))
   exact zL (ZF (.string (mkS ((zN c.op) ++ (zD 46 (zM c.v c.parts.toNat))))) Tryz.results107 (fun w hO => ⟨by rw [qF hcm, ← text_bare h2 h3], hO.below⟩))
  refine yB Z4 Kr (kX (a := c.v.pre) (b := ([])) rfl Kr Kr (decide_eq_false (h3))) (ZY (zG (Zv (.string (mkS ((zN c.op) ++ (zD 46 (zM c.v c.parts.toNat))))) (yB (.string (mkS (((zN c.op) ++ (zD 46 (zM c.v c.parts.toNat))) ++ [45]))) Kr (kY (a := ((zN c.op) ++ (zD 46 (zM c.v c.parts.toNat)))) (b := [45]) rfl Kr Kr (by have q1 := bL c.op; have q2 := vF hcv c.parts.toNat; have q3 := hc.1; first | omega | (simp only [List.length_append, List.length_cons, List.length_nil]; omega))) (Zv (Zp b1 2) (Zv (Zp b1 5) (Zl 1 ⟨b1, (coV c).cells, 142⟩ (off := 5) (.string (mkS c.v.pre)) (yB (.string (mkS ((((zN c.op) ++ (zD 46 (zM c.v c.parts.toNat))) ++ [45]) ++ c.v.pre))) Kr (kY (a := (((zN c.op) ++ (zD 46 (zM c.v c.parts.toNat))) ++ [45])) (b := c.v.pre) rfl Kr Kr (by have q1 := bL c.op; have q2 := vF hcv c.parts.toNat; have q3 := hc.1; first | omega | (simp only [List.length_append, List.length_cons, List.length_nil]; omega))) (Zv (.string (mkS ((((zN c.op) ++ (zD 46 (zM c.v c.parts.toNat))) ++ [45]) ++ c.v.pre))) ?_)))))))))
  exact ZR (Zv (.string (mkS ((((zN c.op) ++ (zD 46 (zM c.v c.parts.toNat))) ++ [45]) ++ c.v.pre))) (Zv (.string (mkS ((((zN c.op) ++ (zD 46 (zM c.v c.parts.toNat))) ++ [45]) ++ c.v.pre))) (ZN (zL (ZF (.string (mkS ((((zN c.op) ++ (zD 46 (zM c.v c.parts.toNat))) ++ [45]) ++ c.v.pre))) Tryz.results107 (fun w hO => ⟨by rw [qF hcm, ← text_pre h2 h3], hO.below⟩))))))
 | false =>
  refine Zv Z4 (ZY (ZO (Zv (.string ⟨#[]⟩) (ZN (zL (z7 (ZF (.string ⟨#[]⟩) Tryz.results107 ?_)))))))
  exact fun w hO => ⟨by unfold Co.print; simp [h1]; rfl, hO.below⟩
end
section
def opF (k : Nat) : Int := if k = 0 then 9 else if k = 1 then 7 else if k = 2 then 6 else if k = 3 then 3 else if k = 4 then 1 else 2
structure FewC (c : Co) : Prop where
 op : c.op = 7 ∨ c.op = 6 ∨ c.op = 3 ∨ c.op = 1 ∨ c.op = 2
 parts : c.parts = 3
 v : ∃ a b : Nat, a < 3 ∧ b < 2 ∧ c.v = ⟨a, b, 0, [], []⟩
def FewT (t : List UInt8) : Prop := t = [42] ∨ ∃ c, FewC c ∧ t = c.print
theorem opF_few {k : Nat} (h : k < 6) (h9 : ¬ opF k = 9) : opF k = 7 ∨ opF k = 6 ∨ opF k = 3 ∨ opF k = 1 ∨ opF k = 2 := by
 unfold opF at *
 repeat (first | split at * | omega)
theorem few_rd : ∀ k : Nat, k < 6 → yO Tryz.prog 3 #[YI 9, YI 7, YI 6, YI 3, YI 1, YI 2] (0 + (k : Int).toNat * 1) = some (YI (opF k))
 | 0, _ => by kernel_rfl
 | 1, _ => by kernel_rfl
 | 2, _ => by kernel_rfl
 | 3, _ => by kernel_rfl
 | 4, _ => by kernel_rfl
 | 5, _ => by kernel_rfl
theorem few_gen (v : Value) (l : List Int) (i : Nat) (W : World) (hv : ReadsI W W.heap.size v l) (hl : l.length ≤ 9223372036854775807) (hi : i ≤ 100000) : YC 50 #[v, YI (i : Int)] W fun e w' => ∃ t, FewT t ∧ e = .returned (.string (mkS t)) ∧ Below W.heap.size W w' := by
 obtain ⟨k, hk, hk6⟩ := xR (atL l i) 6 (by decide)
 obtain ⟨a, ha, ha3⟩ := xR (atL l (i + 1)) 3 (by decide)
 obtain ⟨b, hb, hb2⟩ := xR (atL l (i + 2)) 2 (by decide)
 have f1 := gN hv hl i 6 Om (by decide) (by decide) hk
 have f2 := gN hv hl (i + 1) 3 Om (by decide) (by decide) ha
 have f3 := gN hv hl (i + 2) 2 Om (by decide) (by decide) hb
 have hrd := few_rd k hk6
 refine zQ Tryz.func50 (zV [] fun b1 => x_join (α := Nat) (fun b2 => [(6, Zp b2 0)])
  (fun b2 => [⟨b2, (coV ⟨opF k, 3, ⟨a, b, 0, [], []⟩⟩).cells, 142⟩, ⟨b1, #[YI 9, YI 7, YI 6, YI 3, YI 1, YI 2], 140⟩]) (fun _ => True) [0]
  (fun nj => pQ 16 [] (x_i 15 [] ((i + 1 : Nat) : Int) (x_i 19 [] ((i + 2 : Nat) : Int) (x_h2 [] 2 15
    (zE [] (fun w hO => f1 w hO.below) (xh_ixa 50011 [] 3 6 k 1 hk6 (xh_ldk 50012 [] 4 0 _ _ 3 _ hrd (x_h2 [] 8 15
    (zE [] (fun w hO => f2 w hO.below) (x_h2 [] 12 15
    (zE [] (fun w hO => f3 w hO.below) (yH [] 15 (mV fun b2 => (nj b2 [0] trivial Kr))))
    (mV fun b2 => (yH [] 12 (zE [] (fun w hO => f3 w hO.below) (nj b2 [0] trivial Kr))))))
    (mV fun b2 => (yH [] 8 (zE [] (fun w hO => f2 w hO.below) (yH [] 12 (zE [] (fun w hO => f3 w hO.below) (nj b2 [0] trivial Kr))))))))))
    (mV fun b2 => (yH [] 2 (zE [] (fun w hO => f1 w hO.below) (xh_ixa 50011 [] 3 6 k 1 hk6 (xh_ldk 50012 [] 4 0 _ _ 3 _ hrd (yH [] 8 (zE [] (fun w hO => f2 w hO.below) (yH [] 12 (zE [] (fun w hO => f3 w hO.below) (nj b2 [0] trivial Kr))))))))))))))
  (fun b2 g _ => y8 25 [0] (opF k = 9) (fun h => zF [] (.string ⟨#[42]⟩) fun w hO => ⟨[42], .inl rfl, rfl, hO.below⟩) (fun h => ?_)))
 exact zE [0] (fun w hO => rcPrint_any ⟨opF k, 3, ⟨a, b, 0, [], []⟩⟩ w (by constructor <;> simp)) (zF [] _ fun w hO => ⟨_, .inr ⟨⟨opF k, 3, ⟨a, b, 0, [], []⟩⟩, ⟨opF_few hk6 h, rfl, a, b, ha3, hb2, rfl⟩, rfl⟩, rfl, hO.below⟩)
end
section
theorem plc_mod (z n : Nat) (h : 0 < n) : plc (z : Int) (n : Int) = ((z % n : Nat) : Int) := by
 have e : (z : Int).tmod n = ((z % n : Nat) : Int) := rfl
 unfold plc
 rw [e, if_neg Om]
theorem name_at (z : Nat) (W : World) : YC 48 #[YI (z : Int)] W (YR (.string (mkS (yP (z % 5)))) W) := by
 have hp := plc_mod z 5 (by decide)
 refine zQ Tryz.func48 (zE [] (fun w _ => (place_any z 5 w (by decide) (by decide)).mono fun _ _ ⟨e1, e2⟩ => ⟨by rw [e1, show plc (z : Int) 5 = ((z % 5 : Nat) : Int) from hp], e2 ▸ Below.refl _ _⟩) ?_)
 exact x_idx 6 [] yP (z % 5) 5 Om (zF [] _ fun w hO => ⟨rfl, hO.below⟩)
structure Wv where
 name : List UInt8
 rng : List UInt8
 A : Option Addr
 cap : Nat
 fs : List (List UInt8)
 bare : Bool
def wvC (x : Wv) : List Value := [.string (mkS x.name), .string (mkS x.rng), .slice x.A x.fs.length x.cap, .bool x.bare]
def wvV (x : Wv) : Value := .agg #[.string (mkS x.name), .string (mkS x.rng), .slice x.A x.fs.length x.cap, .bool x.bare]
structure WishG (own : Nat) (alone : Bool) (x : Wv) : Prop where
 name : ∃ k, k < 4 ∧ x.name = yP ((own + 1 + k) % 5)
 rng : FewT x.rng
 fs : x.fs = [] ∨ alone = true ∧ (x.fs = [[120]] ∨ x.fs = [[120], [121]])
theorem wish_gen (v : Value) (l : List Int) (i own : Nat) (alone : Bool) (W : World) (hv : ReadsI W W.heap.size v l) (hl : l.length ≤ 9223372036854775807) (hi : i ≤ 50000) (ho : own ≤ 50000) : YC 105 #[v, YI (i : Int), YI (own : Int), .bool alone] W fun e w' => ∃ x ob, e = .returned (wvV x) ∧ (WishG own alone x ∧ SlT (.slice x.A x.fs.length x.cap) x.fs ob) ∧ Own [] W w' ob := by
 obtain ⟨k, hk, hk4⟩ := xR (atL l i) 4 (by decide)
 obtain ⟨b, hb, _⟩ := xR (atL l (i + 4)) 3 (by decide)
 obtain ⟨m, hm, hm5⟩ := xR (atL l (i + 5)) 5 (by decide)
 have f1 := gN hv hl i 4 Om (by decide) (by decide) hk
 have f2 := gN hv hl (i + 4) 3 Om (by decide) (by decide) hb
 have f3 := gN hv hl (i + 5) 5 Om (by decide) (by decide) hm
 refine zQ Tryz.func105 (zV [] fun b1 => x_i 12 [] ((own + 1 : Nat) : Int) (zE [] (fun w hO => f1 w hO.below) (x_i 16 [] ((own + 1 + k : Nat) : Int) (zE [] (fun w hO => name_at (own + 1 + k) w) (x_i 20 [] ((i + 1 : Nat) : Int) (m8 (R := fun v => ∃ t, FewT t ∧ v = .string (mkS t)) [] (fun w hO => (few_gen v l (i + 1) w ((hv.below hO.below).more hO.size) hl Om).mono fun e w' ⟨t, h1, h2, h3⟩ => ⟨_, h2, ⟨t, h1, rfl⟩, h3⟩) ?_))))))
 rintro _ ⟨t, ht, rfl⟩
 refine x_i 24 [] ((i + 4 : Nat) : Int) (zE [] (fun w hO => f2 w hO.below) ?_)
 refine pF 26 [] (.bool (decide ((b : Int) = 0))) Kr (zV [] fun b2 => x_i 30 [0] ((i + 5 : Nat) : Int) (zE [] (fun w hO => f3 w hO.below) ?_))
 have fin : ∀ (fs : List (List UInt8)) (A : Option Addr) (cap : Nat), (fs = [] ∨ alone = true ∧ (fs = [[120]] ∨ fs = [[120], [121]])) → WishG own alone ⟨yP ((own + 1 + k) % 5), t, A, cap, fs, decide ((b : Int) = 0)⟩ := fun fs A cap h => ⟨⟨k, hk4, rfl⟩, ht, h⟩
 refine x_bb 33 [] alone (fun h => y8 35 [] ((2 : Int) < m) (fun h2 => ?_) (fun h2 => ?_)) (fun h => ?_)
 ·have hm2 : m = 3 ∨ m = 4 := by omega
  rcases hm2 with rfl | rfl
  ·exact wJ [] 2 9 #[.string (mkS [120]), .string (mkS [121])] (fun b3 => nO [1, 1, 2] 2 (wvV ⟨yP ((own + 1 + k) % 5), t, some ⟨b3, 0, none⟩, 2, [[120]], decide ((b : Int) = 0)⟩) fun w hO => ⟨_, _, rfl, ⟨fin _ _ _ (.inr ⟨h, .inl rfl⟩), ⟨rfl, .inr ⟨b3, 2, #[.string (mkS [120]), .string (mkS [121])], rfl, rfl, by simp, by decide, rfl, rfl⟩⟩⟩, hO.nth 0 _⟩)
  ·exact wJ [] 2 9 #[.string (mkS [120]), .string (mkS [121])] (fun b3 => nO [1, 1, 2] 2 (wvV ⟨yP ((own + 1 + k) % 5), t, some ⟨b3, 0, none⟩, 2, [[120], [121]], decide ((b : Int) = 0)⟩) fun w hO => ⟨_, _, rfl, ⟨fin _ _ _ (.inr ⟨h, .inr rfl⟩), ⟨rfl, .inr ⟨b3, 2, #[.string (mkS [120]), .string (mkS [121])], rfl, rfl, by simp, by decide, rfl, rfl⟩⟩⟩, hO.nth 0 _⟩)
 ·exact nO [0, 1] 1 (wvV ⟨yP ((own + 1 + k) % 5), t, none, 0, [], decide ((b : Int) = 0)⟩) fun w hO => ⟨_, [], rfl, ⟨fin _ _ _ (.inl rfl), Sl.nil _ _⟩, hO.no⟩
 ·exact nO [0, 1] 1 (wvV ⟨yP ((own + 1 + k) % 5), t, none, 0, [], decide ((b : Int) = 0)⟩) fun w hO => ⟨_, [], rfl, ⟨fin _ _ _ (.inl rfl), Sl.nil _ _⟩, hO.no⟩
end
section
set_option linter.unnecessarySimpa false
def sepT (c : Nat) : List UInt8 := if c = 0 then [32, 61, 32] else [32, 33, 61, 32]
theorem keyL_part : ∀ (i : Nat), i < 3 → ∀ w, (part 9 #[.string ⟨#[111, 115]⟩, .string ⟨#[97, 114, 99, 104]⟩, .string ⟨#[97, 98, 105]⟩] i).run Tryz.prog w = .ok (.string (mkS (xM i))) w
 | 0, _, w => by kernel_rfl
 | 1, _, w => by kernel_rfl
 | 2, _, w => by kernel_rfl
theorem sepT_part : ∀ (i : Nat), i < 2 → ∀ w, (part 9 #[.string ⟨#[32, 61, 32]⟩, .string ⟨#[32, 33, 61, 32]⟩] i).run Tryz.prog w = .ok (.string (mkS (sepT i))) w
 | 0, _, w => by kernel_rfl
 | 1, _, w => by kernel_rfl
theorem keyL_four (k : Nat) : (xM k).length ≤ 4 := by unfold xM; split <;> (try split) <;> simp
theorem sepT_four (k : Nat) : (sepT k).length ≤ 4 := by unfold sepT; split <;> simp
theorem wordT_four (k : Nat) : (qI k).length ≤ 4 := by unfold qI; split <;> (try split) <;> (try split) <;> simp
def WhenT (t : List UInt8) : Prop := t = [] ∨ ∃ k c j, k < 3 ∧ t = xM k ++ sepT c ++ qI j
theorem when_gen (v : Value) (l : List Int) (i : Nat) (W : World) (hv : ReadsI W W.heap.size v l) (hl : l.length ≤ 9223372036854775807) (hi : i ≤ 10000) : YC 51 #[v, YI (i : Int)] W fun e w' => ∃ t, WhenT t ∧ e = .returned (.string (mkS t)) ∧ Below W.heap.size W w' := by
 obtain ⟨k, hk, hk6⟩ := xR (atL l i) 6 (by decide)
 obtain ⟨c, hc, hc2⟩ := xR (atL l (i + 1)) 2 (by decide)
 obtain ⟨b, hb, hb3⟩ := xR (atL l (i + 1)) 3 (by decide)
 obtain ⟨j, hj4, hj⟩ := wordT_any ((1 : Int) + (b : Int))
 have hf6 := gN hv hl i 6 Om (by decide) (by decide) hk
 have hf2 := gN hv hl (i + 1) 2 Om (by decide) (by decide) hc
 have hf3 := gN hv hl (i + 1) 3 Om (by decide) (by decide) hb
 refine Z2 (n := 28) Tryz.func51 rfl (ZO (Zv (.string ⟨#[]⟩) (ZR (Zv (v) (Zv (YI (i : Int)) (Zc (k := 25) (args := #[v, YI (i : Int), YI 6]) (YI (k : Int)) (fun w hO => hf6 w hO.below) (Zv (YI (k : Int)) ?_)))))))
 refine ZN (zH (ZO (Zv (YI (k : Int)) ?_)))
 by_cases h1 : (2 : Int) < (k : Int)
 ·refine Zg h1 (ZY (ZO (Zv (.string ⟨#[]⟩) (ZN (zL (z7 (ZF (.string ⟨#[]⟩) Tryz.results51 ?_)))))))
  exact fun w hO => ⟨[], .inl rfl, rfl, hO.below⟩
 have hk3 : k < 3 := by omega
 have q1 := keyL_four k; have q2 := sepT_four c; have q3 := wordT_four j
 refine Zh h1 (ZX (ZB (zH (ok_draw Kr Kr (Zw (.agg #[.string ⟨#[111, 115]⟩, .string ⟨#[97, 114, 99, 104]⟩, .string ⟨#[97, 98, 105]⟩]) (Zw (YI (k : Int)) (wL (.string (mkS (xM k))) Kr (run_idxg xM hk3 rfl Kr Kr Tryz.underlying144 (fun i hi w => keyL_part i hi w) Kr) (Zw (.agg #[.string ⟨#[32, 61, 32]⟩, .string ⟨#[32, 33, 61, 32]⟩]) ?_))))))))
 refine Zw (v) (Zw (YI (i : Int)) (tA (k := .i64) (((i + 1 : Nat) : Int)) Kr (fun _ => Kr) (IntWalk.i64_in _ Om) (Zq (k := 25) (args := #[v, YI ((i + 1 : Nat) : Int), YI 2]) (YI (c : Int)) (fun w hO => hf2 w hO.below) (wL (.string (mkS (sepT c))) Kr (run_idxg sepT hc2 rfl Kr Kr Tryz.underlying145 (fun i hi w => sepT_part i hi w) Kr) (wL (.string (mkS ((xM k) ++ (sepT c)))) Kr (kY (a := (xM k)) (b := (sepT c)) rfl Kr Kr (by first | omega | (simp only [List.length_append, List.length_cons, List.length_nil]; omega))) (Zw (v) (Zw (YI (i : Int)) (tA (k := .i64) (((i + 1 : Nat) : Int)) Kr (fun _ => Kr) (IntWalk.i64_in _ Om) (Zq (k := 25) (args := #[v, YI ((i + 1 : Nat) : Int), YI 3]) (YI (b : Int)) (fun w hO => hf3 w hO.below) (tA (k := .i64) ((1 : Int) + (b : Int)) Kr (fun _ => Kr) (IntWalk.i64_in _ Om) (Zq (k := 106) (args := #[YI ((1 : Int) + (b : Int))]) (.string (mkS (qI j))) (fun w hO => hj w) ?_)))))))))))
 exact wL (.string (mkS (((xM k) ++ (sepT c)) ++ (qI j)))) Kr (kY (a := ((xM k) ++ (sepT c))) (b := (qI j)) rfl Kr Kr (by first | omega | (simp only [List.length_append, List.length_cons, List.length_nil]; omega))) (Zw (.string (mkS (((xM k) ++ (sepT c)) ++ (qI j)))) (tB (zJ (zL (ZF (.string (mkS (((xM k) ++ (sepT c)) ++ (qI j)))) Tryz.results51 (fun w hO => ⟨_, .inr ⟨k, c, j, hk3, rfl⟩, rfl, hO.below⟩))))))
end
section
structure Nv where
 A : Option Addr
 cap : Nat
 any : List Wv
 wh : List UInt8
 opt : List UInt8
def nvC (x : Nv) : List Value := [.slice x.A x.any.length x.cap, .string (mkS x.wh), .string (mkS x.opt)]
def nvV (x : Nv) : Value := .agg #[.slice x.A x.any.length x.cap, .string (mkS x.wh), .string (mkS x.opt)]
structure WsO (A : Option Addr) (cap : Nat) (xs : List Wv) (ob : List Blk) : Prop where
 ex : ∃ o1 o2, ob = o1 ++ o2 ∧ Sl 60 4 (.slice A xs.length cap) xs.length (xs.flatMap wvC) o1 ∧ ∀ x ∈ xs, ∃ o, SlT (.slice x.A x.fs.length x.cap) x.fs o ∧ ∀ b ∈ o, b ∈ o2
structure NeedG (own : Nat) (x : Nv) : Prop where
 any : (∃ w, x.any = [w] ∧ WishG own true w) ∨ ∃ w u, x.any = [w, u] ∧ WishG own false w ∧ WishG own false u
 wh : WhenT x.wh
 opt : x.opt = [] ∨ ∃ j, j < 4 ∧ x.opt = qI j
def WishR (own : Nat) (alone : Bool) (v : Value) (ob : List Blk) : Prop := ∃ x, v = wvV x ∧ WishG own alone x ∧ SlT (.slice x.A x.fs.length x.cap) x.fs ob
theorem wish_R {v : Value} {l : List Int} {i own : Nat} {alone : Bool} {W w : World} (hb : Below W.heap.size W w) (hv : ReadsI W W.heap.size v l) (hl : l.length ≤ 9223372036854775807) (hi : i ≤ 50000) (ho : own ≤ 50000) : YC 105 #[v, YI (i : Int), YI (own : Int), .bool alone] w fun e w' => ∃ v ob, e = .returned v ∧ WishR own alone v ob ∧ Own [] w w' ob :=
 (wish_gen v l i own alone w ((hv.below hb).more hb.size) hl hi ho).mono fun e w' ⟨x, ob, h1, h2, h3⟩ => ⟨_, ob, h1, ⟨x, rfl, h2⟩, h3⟩
theorem need_gen (v : Value) (l : List Int) (i own : Nat) (W : World) (hv : ReadsI W W.heap.size v l) (hl : l.length ≤ 9223372036854775807) (hi : i ≤ 5000) (ho : own ≤ 5000) : YC 49 #[v, YI (i : Int), YI (own : Int)] W fun e w' => ∃ x ob, e = .returned (nvV x) ∧ (NeedG own x ∧ WsO x.A x.cap x.any ob) ∧ Own [] W w' ob := by
 obtain ⟨m, hm, hm5⟩ := xR (atL l i) 5 (by decide)
 obtain ⟨q, hq, hq4⟩ := xR (atL l (i + 16)) 4 (by decide)
 obtain ⟨j, hj4, hj⟩ := wordT_any (atL l (i + 17))
 have f1 := gN hv hl i 5 Om (by decide) (by decide) hm
 have f2 := gN hv hl (i + 16) 4 Om (by decide) (by decide) hq
 have fa : ∀ w, Below W.heap.size W w → YC 53 #[v, YI ((i + 17 : Nat) : Int)] w (YR (YI (atL l (i + 17))) w) := fun w hb => (at_any v l (i + 17) w ((hv.below hb).more hb.size) hl Om).mono fun _ _ ⟨e1, e2⟩ => ⟨e1, e2 ▸ Below.refl _ _⟩
 have ho' : own ≤ 50000 := by omega
 refine zQ Tryz.func49 (zV [] fun b1 => zV [] fun b2 => zE [] (fun w hO => f1 w hO.below) (y8 13 [] ((m : Int) = 1) (fun h1 => ?_) (fun h1 => ?_)))
 ·refine jN 2 [] (xB 14 [] [⟨b2, ZM, 57⟩] (fun w hO => hO.nth 0 _) (x_i 23 [0] ((i + 1 : Nat) : Int) (x_i 26 [] ((i + 1 : Nat) : Int) (yH [] 11 (kS (R := WishR own false) (fun w hO => wish_R (i := i + 1) hO.below hv hl Om ho') ?_)))))
  rintro _ ob ⟨x, rfl, hx, hxs⟩
  refine yH [] 12 (gY 1 60 (wvV x).cells fun b3 => yH [] 13 (qM [⟨b3, (wvV x).cells, 60⟩, ⟨b2, ZM, 57⟩, ⟨b1, ZM, 57⟩] [] (ob) 0 ([⟨b3, (wvV x).cells, 60⟩, ⟨b2, ZM, 57⟩, ⟨b1, ZM, 57⟩] ++ ob) [⟨b2, ZM, 57⟩] (fun w hO => by simpa using hO) (fun o w hO => hO.nth 1 _) (Sl.nil 60 4) (m := 1) (cp := 1) Om fun v' o' h => ?_))
  obtain ⟨A', c', rfl⟩ := Sl.form h
  refine (xB 14 [1] [⟨b2, #[.slice A' 1 c', .string ⟨#[]⟩, .string ⟨#[]⟩], 57⟩] (fun w hO => hO.nth 1 _) (x_i 23 [0] ((i + 1 : Nat) : Int) (x_i 26 [] ((i + 7 : Nat) : Int) (yH [] 11 (kS (R := WishR own false) (fun w hO => wish_R (i := i + 7) hO.below hv hl Om ho') ?_)))))
  rintro _ ob2 ⟨y, rfl, hy, hys⟩
  refine yH [] 12 (gY 1 60 (wvV y).cells fun b4 => yH [] 13 (qM [⟨b4, (wvV y).cells, 60⟩, ⟨b3, (wvV x).cells, 60⟩, ⟨b2, #[.slice A' 1 c', .string ⟨#[]⟩, .string ⟨#[]⟩], 57⟩, ⟨b1, ZM, 57⟩] o' (ob ++ ob2) 0 (⟨b4, (wvV y).cells, 60⟩ :: (([⟨b3, (wvV x).cells, 60⟩, ⟨b2, #[.slice A' 1 c', .string ⟨#[]⟩, .string ⟨#[]⟩], 57⟩, ⟨b1, ZM, 57⟩] ++ o' ++ ob) ++ ob2)) [⟨b2, #[.slice A' 1 c', .string ⟨#[]⟩, .string ⟨#[]⟩], 57⟩] (fun w hO => by simpa [List.append_assoc] using hO) (fun o w hO => hO.nth 2 _) h (m := 1) (cp := 1) Om fun v2 o2 h' => ?_))
  obtain ⟨A2, c2, rfl⟩ := Sl.form h'
  refine x_i 36 [2] ((i + 14 : Nat) : Int) (m8 (R := fun v => ∃ t, WhenT t ∧ v = .string (mkS t)) [] (fun w hO => (when_gen v l (i + 14) w ((hv.below hO.below).more hO.size) hl Om).mono fun e w' ⟨t, h1, h2, h3⟩ => ⟨_, h2, ⟨t, h1, rfl⟩, h3⟩) ?_)
  rintro _ ⟨t, ht, rfl⟩
  refine x_i 41 [2] ((i + 16 : Nat) : Int) (zE [] (fun w hO => f2 w hO.below) (y8 43 [] ((q : Int) = 1) (fun h2 => ?_) (fun h2 => ?_)))
  ·exact x_i 46 [] ((i + 17 : Nat) : Int) (zE [] (fun w hO => fa w hO.below) (zE [] (fun w hO => hj w) (nO [2, 2, 3] 3 (nvV ⟨A2, c2, [x, y], t, qI j⟩) fun w hO => ⟨_, _, rfl, ⟨⟨.inr ⟨x, y, rfl, hx, hy⟩, ht, .inr ⟨j, hj4, rfl⟩⟩, ⟨o2, ob ++ ob2, rfl, h', fun z hz => by
    rcases List.mem_cons.1 hz with rfl | hz
    ·exact ⟨ob, hxs, fun b hb => List.mem_append_left _ hb⟩
    ·rw [List.mem_singleton.1 hz]; exact ⟨ob2, hys, fun b hb => List.mem_append_right _ hb⟩⟩⟩, hO.past 4 _⟩)))
  ·exact nO [2, 3] 3 (nvV ⟨A2, c2, [x, y], t, []⟩) fun w hO => ⟨_, _, rfl, ⟨⟨.inr ⟨x, y, rfl, hx, hy⟩, ht, .inl rfl⟩, ⟨o2, ob ++ ob2, rfl, h', fun z hz => by
    rcases List.mem_cons.1 hz with rfl | hz
    ·exact ⟨ob, hxs, fun b hb => List.mem_append_left _ hb⟩
    ·rw [List.mem_singleton.1 hz]; exact ⟨ob2, hys, fun b hb => List.mem_append_right _ hb⟩⟩⟩, hO.past 4 _⟩
 ·refine jN 1 [] (xB 14 [] [⟨b2, ZM, 57⟩] (fun w hO => hO.nth 0 _) (x_i 23 [0] ((i + 1 : Nat) : Int) (x_i 26 [] ((i + 1 : Nat) : Int) (yH [] 11 (kS (R := WishR own true) (fun w hO => wish_R (i := i + 1) hO.below hv hl Om ho') ?_)))))
  rintro _ ob ⟨x, rfl, hx, hxs⟩
  refine yH [] 12 (gY 1 60 (wvV x).cells fun b3 => yH [] 13 (qM [⟨b3, (wvV x).cells, 60⟩, ⟨b2, ZM, 57⟩, ⟨b1, ZM, 57⟩] [] (ob) 0 ([⟨b3, (wvV x).cells, 60⟩, ⟨b2, ZM, 57⟩, ⟨b1, ZM, 57⟩] ++ ob) [⟨b2, ZM, 57⟩] (fun w hO => by simpa using hO) (fun o w hO => hO.nth 1 _) (Sl.nil 60 4) (m := 1) (cp := 1) Om fun v' o' h => ?_))
  obtain ⟨A', c', rfl⟩ := Sl.form h
  refine x_i 36 [1] ((i + 14 : Nat) : Int) (m8 (R := fun v => ∃ t, WhenT t ∧ v = .string (mkS t)) [] (fun w hO => (when_gen v l (i + 14) w ((hv.below hO.below).more hO.size) hl Om).mono fun e w' ⟨t, h1, h2, h3⟩ => ⟨_, h2, ⟨t, h1, rfl⟩, h3⟩) ?_)
  rintro _ ⟨t, ht, rfl⟩
  refine x_i 41 [1] ((i + 16 : Nat) : Int) (zE [] (fun w hO => f2 w hO.below) (y8 43 [] ((q : Int) = 1) (fun h2 => ?_) (fun h2 => ?_)))
  ·exact x_i 46 [] ((i + 17 : Nat) : Int) (zE [] (fun w hO => fa w hO.below) (zE [] (fun w hO => hj w) (nO [1, 1, 2] 2 (nvV ⟨A', c', [x], t, qI j⟩) fun w hO => ⟨_, _, rfl, ⟨⟨.inl ⟨x, rfl, hx⟩, ht, .inr ⟨j, hj4, rfl⟩⟩, ⟨o', ob, rfl, h, fun y hy => ⟨ob, by rw [List.mem_singleton.1 hy]; exact hxs, fun b hb => hb⟩⟩⟩, hO.past 3 _⟩)))
  ·exact nO [1, 2] 2 (nvV ⟨A', c', [x], t, []⟩) fun w hO => ⟨_, _, rfl, ⟨⟨.inl ⟨x, rfl, hx⟩, ht, .inl rfl⟩, ⟨o', ob, rfl, h, fun y hy => ⟨ob, by rw [List.mem_singleton.1 hy]; exact hxs, fun b hb => hb⟩⟩⟩, hO.past 3 _⟩
end
section
theorem splitL_many10 (b : UInt8) : ∀ (s acc : List UInt8), (zB b acc s).length ≤ s.length + 1 := fun s acc => by
 rw [split_len]; have := List.length_filter_le (· == b) s; omega
theorem s_anew {M : List Nat} {P : Program} {n : Nat} {ops : Array Oper} {W : World} {Q : Exit → Act → World → Prop} {rest : List Oper} {L : List Blk} {f : Nat → Value} (h : ∀ w1, Own M W w1 L → Seg (L.map Blk.b) P n ops w1 Q rest L f) : Seg M P n ops W Q rest L f := ⟨fun w hO => (h w hO).go w (Own.lend hO)⟩
theorem own_new {W w : World} {E L0 : List Blk} (h : Own (L0.map Blk.b) W w (E ++ L0)) : ∀ x ∈ E, W.heap.size ≤ x.b := fun x hx => by
 rcases h.base x (List.mem_append_left _ hx) with q | q
 ·exact q
 ·obtain ⟨y, hy, e⟩ := List.mem_map.1 q
  have ha := h.apart
  rw [List.map_append, List.nodup_append] at ha
  exact absurd e.symm (ha.2.2 x.b (List.mem_map.2 ⟨x, hx, rfl⟩) y.b (List.mem_map.2 ⟨y, hy, rfl⟩))
theorem Reads.bound {α : Type} {g : α → List Value} {w w1 : World} {B1 B2 : Nat} {A : Option Addr} {l : List α} (h : Reads g w B1 A l) (h1 : Reads g w1 B2 A l) : Reads g w B2 A l := fun h0 => by
 obtain ⟨b, off, e, _, hc⟩ := h h0
 obtain ⟨b', off', e', hl, _⟩ := h1 h0
 rw [e] at e'
 injection e' with e'
 injection e' with q1 q2
 subst q1; subst q2
 exact ⟨b, off, e, hl, hc⟩
end
section
def nC (n : Nd) : List Value := [YI n.op, YI n.a, YI n.b, YI n.key, .string (mkS n.text)]
theorem mS (n : Nd) : (nC n).length = 5 := rfl
def zC (z : Int) : List Value := [YI z]
def SlN (v : Value) (l : List Nd) (ob : List Blk) : Prop := Sl 219 5 v l.length (l.flatMap nC) ob
def SlZ (v : Value) (l : List Int) (ob : List Blk) : Prop := Sl 3 1 v l.length (l.flatMap zC) ob
def ndV (n : Nd) : Value := .agg #[YI n.op, YI n.a, YI n.b, YI n.key, .string (mkS n.text)]
def pfV (e : Pf) : Value := .agg #[.string (mkS (e 0)), .string (mkS (e 1)), .string (mkS (e 2))]
theorem SlN.add {u : Value} {l : List Nd} {x : Nd} {ob : List Blk} (h : Sl 219 5 u (l.length + 1) (l.flatMap nC ++ nC x) ob) : SlN u (l ++ [x]) ob := Sl.to h (by simp) (by simp)
theorem wd_mk (s : List UInt8) : wordB (mkS s) = wdL s := by unfold wordB wdL; rw [yD, mk_data]
structure PfS (e : Pf) : Prop where
 h0 : (e 0).length ≤ 1000000
 h1 : (e 1).length ≤ 1000000
 h2 : (e 2).length ≤ 1000000
end
section
section
variable {M : List Nat} {P : Program} {n : Nat} {W : World} {Q : Exit → Act → World → Prop} {c : Xc}
end
def shQ (o : Oper) : TypeId × Operand × Operand × Bool := match o.op with
 | .slice t x none (some y) none => (t, x, y, true)
 | _ => (0, .tmp 0, .tmp 0, false)
theorem shQ_op {o : Oper} (h : (shQ o).2.2.2 = true) : o.op = .slice (shQ o).1 (shQ o).2.1 none (some (shQ o).2.2.1) none := by
 unfold shQ at h ⊢
 split at h
 ·rename_i q; simp only [q]
 ·cases h
def slQ (o : Oper) : TypeId × Operand × Operand × Bool := match o.op with
 | .slice t x (some y) none none => (t, x, y, true)
 | _ => (0, .tmp 0, .tmp 0, false)
theorem slQ_op {o : Oper} (h : (slQ o).2.2.2 = true) : o.op = .slice (slQ o).1 (slQ o).2.1 (some (slQ o).2.2.1) none none := by
 unfold slQ at h ⊢
 split at h
 ·rename_i e; rw [e]
 ·cases h
section
variable {M : List Nat} {P : Program} {n : Nat} {W : World} {Q : Exit → Act → World → Prop} {c : Xc}
end
def ltB (o : Oper) : Bool := match o.op with
 | .binOp .lss _ _ _ _ => true
 | _ => false
theorem ltB_op {o : Oper} (h : ltB o = true) : o.op = .binOp .lss (oT o) (oX o) (oY o) (oU o) := by
 unfold ltB at h
 split at h
 ·rename_i q; simp only [oT, oX, oY, oU, q]
 ·cases h
def geB (o : Oper) : Bool := match o.op with
 | .binOp .geq _ _ _ _ => true
 | _ => false
section
variable {M : List Nat} {P : Program} {n : Nat} {W : World} {Q : Exit → Act → World → Prop} {c : Xc}
theorem x_slt (d : Nat) (h : List Nat) (s u : List UInt8) (h1 : Op.bytesLess s u = true → zI M P n W Q ((xgo P n (d + 50000) h c).put (.bool true))) (h2 : Op.bytesLess s u = false → zI M P n W Q ((xgo P n (d + 50000) h c).put (.bool false)))
  (hkt : (xgl P n (d + 50000) h c, xW n (xgo P n (d + 50000) h c), ltB (xO (xgo P n (d + 50000) h c)), ev n (xgo P n (d + 50000) h c).f (oX (xO (xgo P n (d + 50000) h c))), ev n (xgo P n (d + 50000) h c).f (oY (xO (xgo P n (d + 50000) h c)))) = (xgr P n (d + 50000) h c, true, true, .string (mkS s), .string (mkS u)) := by kernel_rfl) : zI M P n W Q c := by
 simp only [Prod.mk.injEq] at hkt
 obtain ⟨hk, e1, e2, e3, e4⟩ := hkt
 cases hb : Op.bytesLess s u with
 | true => exact zP h c hk (jG e1 (fun w => run_strlss (ltB_op e2) e3 e4 hb w) (h1 hb))
 | false => exact zP h c hk (jG e1 (fun w => run_strlss (ltB_op e2) e3 e4 hb w) (h2 hb))
end
end
section
set_option linter.unnecessarySimpa false
theorem rd_key : ∀ (k : Nat), k < 3 → yO Tryz.prog 9 #[.string ⟨#[111, 115]⟩, .string ⟨#[97, 114, 99, 104]⟩, .string ⟨#[97, 98, 105]⟩] (0 + k * 1) = some (.string (mkS (xM k)))
 | 0, _ => by kernel_rfl
 | 1, _ => by kernel_rfl
 | 2, _ => by kernel_rfl
def wrapB (c : Bool) (s : List UInt8) : List UInt8 := if c then [40, 32] ++ s ++ [32, 41] else s
end
section
theorem gG (r : Int) (b : Bool) (hb : dS r = b) (w : World) :
  YC 60 #[.int .i32 r] w fun e w' => e = .returned (.bool b) ∧ w = w' := by
 subst hb
 unfold dS
 go_enter Tryz.func60, Tryz.ntmps60
 go_wp2
 all_goals go_ret
 all_goals exact ⟨zO (by simp; try omega), rfl⟩
theorem name_any (s : ByteArray) (w : World) (hs : s.size ≤ maxLen) :
  YC 29 #[.string s] w (YR (.bool (nameB s)) w) := by
 unfold maxLen at hs
 by_cases h16 : s.size ≤ 16
 ·go_enter Tryz.func29, Tryz.ntmps29
  go_wp2
  go_loopw [3] (fun v wr => ∃ (pos : Nat) (l : Int), wr = w.iter s pos ∧ pos ≤ s.size ∧ v = .int .i32 l ∧ Hid (g0 (decide (pos = 0)) l (s.data.toList.drop pos) = g0 true 45 s.data.toList)) (fun _ wr => s.size - wr.iterPos w.heap.size)
  case atStart => exact ⟨0, 45, rfl, Nat.zero_le _, rfl, rfl⟩
  case round =>
   obtain ⟨pos, l, rfl, hple, rfl, HR⟩ := hrel
   by_cases hp : pos < s.size
   ·have HD := Lib.hid (qE s pos hp)
    by_cases ha : (s[pos]'hp).toNat < 128
    ·have hnx : ∀ ty, (Instr.next (.pointer (some ⟨w.heap.size, 0, none⟩)) true ty).run Tryz.prog (w.iter s pos) = _ := fun ty => run_next_ascii w s pos ty hp ha
     by_cases hl : dS (s[pos]'hp).toNat = true
     ·have HL := Lib.hid hl
      clear hl
      go_wp2_with (go_at_call 60; refine (gG _ true HL.out _).mono ?_; rintro e w' ⟨rfl, rfl⟩)
      go_roundw
      case rel => exact ⟨pos + 1, _, rfl, by omega, rfl, by rw [← HR.out, HD.out, nameGo_let _ _ _ _ HL.out]; rfl⟩
      case measure => simp; omega
     ·have HL := Lib.hid (Bool.eq_false_iff.2 hl)
      clear hl
      by_cases hd : x2 (s[pos]'hp).toNat = true
      ·have HG := Lib.hid hd
       clear hd
       by_cases h0 : pos = 0
       ·subst h0
        go_wp2_with (first | (go_at_call 60; refine (gG _ false HL.out _).mono ?_; rintro e w' ⟨rfl, rfl⟩) | (go_at_call 61; refine (kF _ true HG.out _).mono ?_; rintro e w' ⟨rfl, rfl⟩))
        go_ret
        exact ⟨zO (by unfold nameB; rw [← HR.out, HD.out, nameGo_dig _ _ _ _ HL.out HG.out]; simp), yE _ _ _⟩
       ·have hpi : ((pos : Int) == 0) = false := by simp; omega
        go_wp2_with (first | (go_at_call 60; refine (gG _ false HL.out _).mono ?_; rintro e w' ⟨rfl, rfl⟩) | (go_at_call 61; refine (kF _ true HG.out _).mono ?_; rintro e w' ⟨rfl, rfl⟩))
        go_roundw
        case rel => exact ⟨pos + 1, _, rfl, by omega, rfl, by rw [← HR.out, HD.out, nameGo_dig _ _ _ _ HL.out HG.out]; simp [h0, Hid]⟩
        case measure => simp; omega
      ·have HG := Lib.hid (Bool.eq_false_iff.2 hd)
       clear hd
       by_cases h3 : ((s[pos]'hp).toNat : Int) = 45
       ·have H3 := Lib.hid h3
        have h3b : (((s[pos]'hp).toNat : Int) == 45) = true := by simp [h3]
        clear h3
        by_cases h4 : l = 45
        ·have h4b : (l == 45) = true := by simp [h4]
         have H4 := Lib.hid h4
         clear h4
         go_wp2_with (first | (go_at_call 60; refine (gG _ false HL.out _).mono ?_; rintro e w' ⟨rfl, rfl⟩) | (go_at_call 61; refine (kF _ false HG.out _).mono ?_; rintro e w' ⟨rfl, rfl⟩))
         go_ret
         exact ⟨zO (by unfold nameB; rw [← HR.out, HD.out, nameGo_dash _ _ _ _ HL.out HG.out H3.out, if_pos H4.out]; simp), yE _ _ _⟩
        ·have h4b : (l == 45) = false := by simp [h4]
         go_wp2_with (first | (go_at_call 60; refine (gG _ false HL.out _).mono ?_; rintro e w' ⟨rfl, rfl⟩) | (go_at_call 61; refine (kF _ false HG.out _).mono ?_; rintro e w' ⟨rfl, rfl⟩))
         go_roundw
         case rel => exact ⟨pos + 1, _, rfl, by omega, rfl, by rw [← HR.out, HD.out, nameGo_dash _ _ _ _ HL.out HG.out H3.out, if_neg h4]; rfl⟩
         case measure => simp; omega
       ·have h3b : (((s[pos]'hp).toNat : Int) == 45) = false := by simpa using h3
        go_wp2_with (first | (go_at_call 60; refine (gG _ false HL.out _).mono ?_; rintro e w' ⟨rfl, rfl⟩) | (go_at_call 61; refine (kF _ false HG.out _).mono ?_; rintro e w' ⟨rfl, rfl⟩))
        go_ret
        exact ⟨zO (by unfold nameB; rw [← HR.out, HD.out, nameGo_else _ _ _ _ HL.out HG.out h3]; simp), yE _ _ _⟩
    ·have hnx : ∀ ty, (Instr.next (.pointer (some ⟨w.heap.size, 0, none⟩)) true ty).run Tryz.prog (w.iter s pos) = _ := fun ty => run_next_any w s pos ty hp
     have hhi := (decode_high s pos hp Om).1
     have HL := Lib.hid (letB_hi _ hhi)
     have HG := Lib.hid (digB_hi _ hhi)
     have h3b : (((Utf8.decode s pos).1 : Int) == 45) = false := by simp; omega
     go_wp2_with (first | (go_at_call 60; refine (gG _ false HL.out _).mono ?_; rintro e w' ⟨rfl, rfl⟩) | (go_at_call 61; refine (kF _ false HG.out _).mono ?_; rintro e w' ⟨rfl, rfl⟩))
     go_ret
     exact ⟨zO (by unfold nameB; rw [← HR.out, HD.out, nameGo_hi _ _ _ _ Om]; simp), yE _ _ _⟩
   ·have hnx : ∀ ty, (Instr.next (.pointer (some ⟨w.heap.size, 0, none⟩)) true ty).run Tryz.prog (w.iter s pos) = _ := fun ty => run_next_end w s pos ty hp
    have HD := Lib.hid (bB s pos hp)
    go_wp2
    go_ret
    exact ⟨zO (by unfold nameB; rw [← HR.out, HD.out, g0]; by_cases hq : l = 45 <;> simp [h16, hq]), yE _ _ _⟩
 ·go_enter Tryz.func29, Tryz.ntmps29
  go_wp2
  go_ret
  exact ⟨zO (by unfold nameB; simp [h16]), Below.refl _ _⟩
theorem word_any (s : ByteArray) (w : World) (hs : s.size ≤ maxLen) :
  YC 68 #[.string s] w (YR (.bool (wordB s)) w) := by
 unfold maxLen at hs
 by_cases h0 : s.size = 0
 ·have H0 := Lib.hid h0
  have hz : ((s.size : Int) == 0) = true := by simp [h0]
  clear h0
  go_enter Tryz.func68, Tryz.ntmps68
  go_wp2
  go_ret
  exact ⟨zO (by unfold wordB; simp [H0.out]), Below.refl _ _⟩
 ·have hz : ((s.size : Int) == 0) = false := jX Om
  by_cases h12 : s.size ≤ 12
  ·go_enter Tryz.func68, Tryz.ntmps68
   go_wp2
   go_loopw [] (fun wr => ∃ (pos : Nat), wr = w.iter s pos ∧ pos ≤ s.size ∧ Hid (bH (s.data.toList.drop pos) = bH s.data.toList)) (fun wr => s.size - wr.iterPos w.heap.size)
   case atStart => exact ⟨0, rfl, Nat.zero_le _, rfl⟩
   case round =>
    obtain ⟨pos, rfl, hple, HR⟩ := hrel
    by_cases hp : pos < s.size
    ·have HD := Lib.hid (qE s pos hp)
     by_cases ha : (s[pos]'hp).toNat < 128
     ·have hnx : ∀ ty, (Instr.next (.pointer (some ⟨w.heap.size, 0, none⟩)) true ty).run Tryz.prog (w.iter s pos) = _ := fun ty => run_next_ascii w s pos ty hp ha
      by_cases hl : dS (s[pos]'hp).toNat = true
      ·have HL := Lib.hid hl
       clear hl
       go_wp2_with (go_at_call 60; refine (gG _ true HL.out _).mono ?_; rintro e w' ⟨rfl, rfl⟩)
       go_roundw
       case rel => exact ⟨pos + 1, rfl, by omega, by rw [← HR.out, HD.out, tT _ _ (by unfold wdB; rw [HL.out]; rfl)]; rfl⟩
       case measure => simp; omega
      ·have HL := Lib.hid (Bool.eq_false_iff.2 hl)
       clear hl
       by_cases hd : x2 (s[pos]'hp).toNat = true
       ·have HG := Lib.hid hd
        clear hd
        go_wp2_with (first | (go_at_call 60; refine (gG _ false HL.out _).mono ?_; rintro e w' ⟨rfl, rfl⟩) | (go_at_call 61; refine (kF _ true HG.out _).mono ?_; rintro e w' ⟨rfl, rfl⟩))
        go_roundw
        case rel => exact ⟨pos + 1, rfl, by omega, by rw [← HR.out, HD.out, tT _ _ (by unfold wdB; rw [HL.out, HG.out]; rfl)]; rfl⟩
        case measure => simp; omega
       ·have HG := Lib.hid (Bool.eq_false_iff.2 hd)
        clear hd
        by_cases h3 : ((s[pos]'hp).toNat : Int) = 95
        ·have H3 := Lib.hid h3
         have h3b : (((s[pos]'hp).toNat : Int) != 95) = false := by simp [h3]
         clear h3
         go_wp2_with (first | (go_at_call 60; refine (gG _ false HL.out _).mono ?_; rintro e w' ⟨rfl, rfl⟩) | (go_at_call 61; refine (kF _ false HG.out _).mono ?_; rintro e w' ⟨rfl, rfl⟩))
         go_roundw
         case rel => exact ⟨pos + 1, rfl, by omega, by rw [← HR.out, HD.out, tT _ _ (by unfold wdB; rw [HL.out, HG.out, H3.out]; rfl)]; rfl⟩
         case measure => simp; omega
        ·have h3b : (((s[pos]'hp).toNat : Int) != 95) = true := by simpa using h3
         go_wp2_with (first | (go_at_call 60; refine (gG _ false HL.out _).mono ?_; rintro e w' ⟨rfl, rfl⟩) | (go_at_call 61; refine (kF _ false HG.out _).mono ?_; rintro e w' ⟨rfl, rfl⟩))
         go_ret
         exact ⟨zO (by unfold wordB; rw [← HR.out, HD.out, wordGo_bad _ _ (by unfold wdB; rw [HL.out, HG.out]; simpa using h3)]; simp), yE _ _ _⟩
     ·have hnx : ∀ ty, (Instr.next (.pointer (some ⟨w.heap.size, 0, none⟩)) true ty).run Tryz.prog (w.iter s pos) = _ := fun ty => run_next_any w s pos ty hp
      have hhi := (decode_high s pos hp Om).1
      have HL := Lib.hid (letB_hi _ hhi)
      have HG := Lib.hid (digB_hi _ hhi)
      have h3b : (((Utf8.decode s pos).1 : Int) != 95) = true := by simp; omega
      go_wp2_with (first | (go_at_call 60; refine (gG _ false HL.out _).mono ?_; rintro e w' ⟨rfl, rfl⟩) | (go_at_call 61; refine (kF _ false HG.out _).mono ?_; rintro e w' ⟨rfl, rfl⟩))
      go_ret
      exact ⟨zO (by unfold wordB; rw [← HR.out, HD.out, wordGo_bad _ _ (by unfold wdB; rw [letB_hi8 _ Om, tO _ Om]; simp; omega)]; simp), yE _ _ _⟩
    ·have hnx : ∀ ty, (Instr.next (.pointer (some ⟨w.heap.size, 0, none⟩)) true ty).run Tryz.prog (w.iter s pos) = _ := fun ty => run_next_end w s pos ty hp
     have HD := Lib.hid (bB s pos hp)
     go_wp2
     go_ret
     exact ⟨zO (by unfold wordB; rw [← HR.out, HD.out, bH]; simp; omega), yE _ _ _⟩
  ·go_enter Tryz.func68, Tryz.ntmps68
   go_wp2
   go_ret
   exact ⟨zO (by unfold wordB; simp [h12]), Below.refl _ _⟩
end
section
end
section
end
section
set_option linter.unnecessarySimpa false
end
section
set_option linter.unnecessarySimpa false
theorem rise_iff : ∀ {l : List (List UInt8)}, kZ l = true ↔ ∀ i (h : i + 1 < l.length), Op.bytesLess (l[i]'Om) l[i + 1] = true
 | [] => ⟨fun _ i h => by simp at h, fun _ => rfl⟩
 | [a] => ⟨fun _ i h => by simp at h, fun _ => rfl⟩
 | a :: b :: r => by
  rw [kZ, Bool.and_eq_true, rise_iff (l := b :: r)]
  constructor
  ·rintro ⟨h1, h2⟩ i h
   cases i with
   | zero => exact h1
   | succ i => exact h2 i (by simpa using h)
  ·intro h
   exact ⟨h 0 (by simp), fun i hi => h (i + 1) (by simpa using hi)⟩
theorem gL {α : Type} {p : α → Prop} {l : List α} {i : Nat} (hi : i < l.length) (h : ∀ x ∈ l.take i, p x) (hp : p l[i]) : ∀ y ∈ l.take (i + 1), p y := fun y hy => by
 rw [List.take_succ_eq_append_getElem hi] at hy
 rcases List.mem_append.1 hy with hy | hy
 ·exact h y hy
 ·rw [List.mem_singleton.1 hy]; exact hp
theorem jK {α : Type} {p : α → Prop} {l : List α} {i : Nat} (hi : l.length ≤ i) (h : ∀ x ∈ l.take i, p x) : ∀ y ∈ l, p y := by rwa [List.take_of_length_le hi] at h
theorem items_not {l : List Ft} {of : List (List UInt8)} (h : ¬ of.length ≤ 6 ∨ kZ of = false ∨ ∃ s ∈ of, bM l s = false) : qU l of = false := by
 unfold qU
 rcases h with h | h | ⟨s, hs, h⟩
 ·rw [decide_eq_false h]; rfl
 ·rw [h]; simp
 ·rw [show of.all (bM l) = false from by rw [List.all_eq_false]; exact ⟨s, hs, by rw [h]; simp⟩]; simp
theorem items_yes {l : List Ft} {of : List (List UInt8)} (h : of.length ≤ 6) (h2 : kZ of = true) (h3 : ∀ s ∈ of, bM l s = true) : qU l of = true := by
 unfold qU
 rw [decide_eq_true h, h2, List.all_eq_true.2 h3]; rfl
theorem may11_not {l : List Ft} (h : ¬ l.length ≤ 8 ∨ (∃ f ∈ l, wdL f.name = false) ∨ kZ (l.map Ft.name) = false ∨ ∃ f ∈ l, qU l f.of = false) : fT l = false := by
 unfold fT
 rcases h with h | ⟨f, hf, h⟩ | h | ⟨f, hf, h⟩
 ·rw [decide_eq_false h]; rfl
 ·rw [show l.all (fun f => wdL f.name) = false from by rw [List.all_eq_false]; exact ⟨f, hf, by rw [h]; simp⟩]; simp
 ·rw [h]; simp
 ·rw [show l.all (fun f => qU l f.of) = false from by rw [List.all_eq_false]; exact ⟨f, hf, by rw [h]; simp⟩]; simp
theorem may_yes {l : List Ft} (h : l.length ≤ 8) (h2 : ∀ f ∈ l, wdL f.name = true) (h3 : kZ (l.map Ft.name) = true) (h4 : ∀ f ∈ l, qU l f.of = true) : fT l = true := by
 unfold fT
 rw [decide_eq_true h, List.all_eq_true.2 h2, h3, List.all_eq_true.2 h4]; rfl
theorem ft_mem {xs : List Fv} {x : Fv} (h : x ∈ xs) : x.ft ∈ kA xs := List.mem_map.2 ⟨x, h, rfl⟩
theorem ft_rise {xs : List Fv} : kZ ((kA xs).map Ft.name) = true ↔ ∀ i (h : i + 1 < xs.length), Op.bytesLess (xs[i]'Om).name xs[i + 1].name = true := by
 rw [rise_iff]
 constructor
 ·intro h i hi
  have := h i (by rw [List.length_map, nG]; exact hi)
  simpa [kA, Fv.ft] using this
 ·intro h i hi
  rw [List.length_map, nG] at hi
  simpa [kA, Fv.ft] using h i hi
end
section
set_option linter.unnecessarySimpa false
structure UpTo (xs : List Fv) (i : Nat) : Prop where
 le : i ≤ xs.length
 wd : ∀ x ∈ xs.take i, wdL x.name = true
 up : ∀ z (hz : z + 1 < xs.length), z + 1 < i → Op.bytesLess (xs[z]'Om).name xs[z + 1].name = true
 it : ∀ x ∈ xs.take i, qU (kA xs) x.of = true
theorem UpTo.zero (xs : List Fv) : UpTo xs 0 := ⟨Nat.zero_le _, fun x hx => by simp at hx, fun z hz h => by omega, fun x hx => by simp at hx⟩
theorem UpTo.next {xs : List Fv} {i : Nat} (h : UpTo xs i) (hi : i < xs.length) (h1 : wdL xs[i].name = true) (h2 : ∀ h0 : 0 < i, Op.bytesLess (xs[i - 1]'Om).name xs[i].name = true) (h3 : qU (kA xs) xs[i].of = true) : UpTo xs (i + 1) := by
 refine ⟨hi, gL hi h.wd h1, fun z hz hzi => ?_, gL hi h.it h3⟩
 rcases Nat.lt_succ_iff_lt_or_eq.1 hzi with q | q
 ·exact h.up z hz q
 ·subst q; exact h2 Om
theorem UpTo.may {xs : List Fv} {i : Nat} (h : UpTo xs i) (hi : xs.length ≤ i) (h8 : xs.length ≤ 8) : fT (kA xs) = true := by
 refine may_yes (by rw [nG]; exact h8) (fun f hf => ?_) (ft_rise.2 fun z hz => h.up z hz (by omega)) fun f hf => ?_
 ·obtain ⟨x, hx, rfl⟩ := List.mem_map.1 hf; exact jK hi h.wd x hx
 ·obtain ⟨x, hx, rfl⟩ := List.mem_map.1 hf; exact jK hi h.it x hx
theorem may_no1 {xs : List Fv} {x : Fv} (hx : x ∈ xs) (h : wdL x.name = false) : fT (kA xs) = false := may11_not (.inr (.inl ⟨x.ft, ft_mem hx, h⟩))
theorem may_no2 {xs : List Fv} {z : Nat} (hz : z + 1 < xs.length) (h : Op.bytesLess (xs[z]'Om).name xs[z + 1].name = false) : fT (kA xs) = false := may11_not (.inr (.inr (.inl (by
 cases hq : kZ ((kA xs).map Ft.name) with
 | false => rfl
 | true => have q := ft_rise.1 hq z hz; rw [h] at q; cases q))))
theorem may_no3 {xs : List Fv} {x : Fv} (hx : x ∈ xs) (h : qU (kA xs) x.of = false) : fT (kA xs) = false := may11_not (.inr (.inr (.inr ⟨x.ft, ft_mem hx, h⟩)))
end
section
set_option linter.unnecessarySimpa false
theorem put_new {l : List (List UInt8)} {s : List UInt8} {k : Nat} (hk : k ≤ l.length) (h : ∀ x ∈ l.take k, Op.bytesLess x s = true) (h2 : ∀ hk : k < l.length, Op.bytesLess l[k] s = false ∧ ¬ l[k] = s) : yT l s = l.take k ++ [s] ++ l.drop k := by
 rw [put_at k h, List.append_assoc]
 congr 1
 by_cases hl : k < l.length
 ·rw [List.drop_eq_getElem_cons hl, yT, if_neg (by rw [(h2 hl).1]; simp), if_neg (h2 hl).2]; rfl
 ·rw [List.drop_of_length_le Om]; rfl
theorem put_old {l : List (List UInt8)} {s : List UInt8} {k : Nat} (hk : k < l.length) (h : ∀ x ∈ l.take k, Op.bytesLess x s = true) (h2 : Op.bytesLess l[k] s = false) (h3 : l[k] = s) : yT l s = l := by
 rw [put_at k h, List.drop_eq_getElem_cons hk, yT, if_neg (by rw [h2]; simp), if_pos h3, ← List.drop_eq_getElem_cons hk, List.take_append_drop]
structure RdP (w : World) (v : Value) (l : List (List UInt8)) : Prop where
 ex : ∃ A cap, v = .slice A l.length cap ∧ Reads y9 w w.heap.size A l ∧ l.length ≤ cap ∧ (l = [] → A = none ∧ cap = 0)
end
section
section
variable {M : List Nat} {P : Program} {n : Nat} {ops : Array Oper} {W : World} {L0 : List Blk} {Q : Exit → Act → World → Prop} {fuel : Nat} {listed : Array Bool} {f : Nat → Value}
theorem hl_appendR {α : Type} {g : α → List Value} {i0 : Nat} {E ob R : List Blk} (oi : Oper) {t T : TypeId} {s x : Operand} {i : TypeInfo} {z : Value} {sz : Nat} (hg : ∀ y, (g y).length = sz) (hi0 : ops[i0]? = some oi) (hw : zT ops n f oi = true) (ho : oi.op = .call { callee := .builtin .append, args := #[s, x], argTypes := #[t, t] })
  (ht : P.underlying t = some (.slice T)) (hi : P.info? T = some i) (hz : i.zero = some z) (hsz : i.size = sz) (hzs : z.cells.size = sz)
  {v : Value} {m0 : Nat} {xs : List Value} (hs : ev n f s = v) (hv : Sl T sz v m0 xs ob) {A : Option Addr} {c : Nat} {l : List α} (hx : ev n f x = .slice A l.length c)
  (hR : ∀ w, Own M W w (E ++ ob ++ R) → Reads g w w.heap.size A l) (h1 : ∀ y, ∀ u ∈ g y, u.oneCell' = true)
  (h63 : m0 + l.length ≤ maxLen) (hbytes : (m0 + l.length) * i.bytes ≤ 140737488355328) (hsub : ∀ ob' w, Own M W w (E ++ ob' ++ R) → Own M W w L0)
  (h : ∀ v' ob', Sl T sz v' (m0 + l.length) (xs ++ l.flatMap g) ob' → vQ M P n ops W L0 Q fuel (listed.setIfInBounds i0 true) (E ++ ob' ++ R) (upd f oi.dst v')) : bD M P n ops W L0 Q fuel listed i0 (E ++ ob ++ R) f :=
 mI hi0 hw fun w hO => by
  have hone : ∀ u ∈ l.flatMap g, u.oneCell' = true := fun u hu => by
   obtain ⟨y, _, hy⟩ := List.mem_flatMap.1 hu
   exact h1 y u hy
  cases A with
  | none =>
   have h0 : l = [] := by
    cases l with
    | nil => rfl
    | cons y l => obtain ⟨b, off, e, _⟩ := hR w hO (by simp); cases e
   subst h0
   have hv' : Sl T sz v (m0 + ([] : List α).length) (xs ++ ([] : List α).flatMap g) ob := by simpa using hv
   refine gO v (w' := w) ?_ ⟨hsub ob w hO, (h v ob hv').go w hO⟩
   have hx' : ev n f x = .slice none 0 c := hx
   unfold execOp
   simp only [ho, resolve, invoke, builtin, Sem.run_bind, Sem.run_pure, Result.andThen_ok, List.map_toArray, List.map_cons, List.map_nil, hs, hx', pK ht hi hv c]
  | some a =>
   have hnews : ∀ j u, (l.flatMap g)[j]? = some u → w.cell? (a.add j) = some u := fun j u hj => by
    have h0 : 0 < l.length := by
     cases l with
     | nil => simp at hj
     | cons y l => simp
    obtain ⟨b, off, e, _, hc⟩ := hR w hO h0
    obtain rfl := Option.some.inj e
    rw [x3]
    exact hc j u hj
   obtain ⟨v', w', ob', hr, h2, h3⟩ := nZ (P := P) (ty := oi.type) (c := c) ht hi hz hsz hzs hv hO (j7 hg l) hnews hone h63 hbytes
   refine gO v' (w' := w') ?_ ⟨hsub ob' w' h3, (h v' ob' h2).go w' h3⟩
   unfold execOp
   simp only [ho, resolve, invoke, builtin, Sem.run_bind, Sem.run_pure, Result.andThen_ok, List.map_toArray, List.map_cons, List.map_nil, hs, hx, hr]
end
section
variable {M : List Nat} {P : Program} {n : Nat} {W : World} {Q : Exit → Act → World → Prop} {c : Xc}
theorem jA {α : Type} {g : α → List Value} {T : TypeId} {sz k cp : Nat} {v : Value} {xs : List Value} {A : Option Addr} (l : List α) (E ob R : List Blk) (L1 L0 : List Blk) (hs : ∀ w, Own M W w L1 → Own M W w (E ++ ob ++ R)) (hsub : ∀ ob' w, Own M W w (E ++ ob' ++ R) → Own M W w L0)
  (hgl : ∀ y, (g y).length = sz) (h1 : ∀ y, ∀ u ∈ g y, u.oneCell' = true) (hR : ∀ w, Own M W w (E ++ ob ++ R) → Reads g w w.heap.size A l) (hv : Sl T sz v k xs ob) (hN : k + l.length ≤ 1000000)
  (hg : ∀ v' ob', Sl T sz v' (k + l.length) (xs ++ l.flatMap g) ob' → zI M P n W Q (aNext c (E ++ ob' ++ R) v'))
  (hkt : (c.L, hL c, c.top, (xA c)[hI c]?, zT (xA c) n c.f (xO c), (xO c).op, ev n c.f (aX (xO c) 0), ev n c.f (aX (xO c) 1), P.underlying (aT (xO c)), aInfo P T)
   = (L1, L0, .hst (xA c) (hS c) (hU c) (hL c) (hI c), some (xO c), true, aOp (xO c), v, .slice A l.length cp, some (.slice T), some (true, sz, some sz)) := by kernel_rfl) : zI M P n W Q c := by
 simp only [Prod.mk.injEq] at hkt
 obtain ⟨f1, f2, e1, e2, e3, e4, e5, e6, e8, e9⟩ := hkt
 rw [← f1] at hs
 rw [← f2] at hsub
 have : c = ⟨.hst (xA c) (hS c) (hU c) (hL c) (hI c), c.k, c.L, c.f⟩ := by rw [← e1]
 rw [this]
 obtain ⟨i, z, hi, hz, hsz, hzs, hby⟩ := aInfo_is e9
 refine ⟨fun hq hs0 => hs_take' hs (hl_appendR (E := E) (ob := ob) (R := R) (xO c) hgl e2 e3 e4 e8 hi hz hsz hzs e5 hv e6 hR h1 ?_ ?_ hsub fun v' ob' h => (hg v' ob' h).go hq (hsub ob'))⟩
 ·unfold maxLen; omega
 ·have := Nat.mul_le_mul hN hby; omega
theorem sl_block {T : TypeId} {b N sz : Nat} {cs : Array Value} (h : cs.size = N * sz) (hN : N ≤ maxLen) : Sl T sz (.slice (some ⟨b, 0, none⟩) N N) N cs.toList [⟨b, cs, T⟩] :=
 ⟨by rw [Array.length_toList]; exact h, .inr ⟨b, N, cs, rfl, rfl, Nat.le_refl _, hN, h, by rw [List.take_of_length_le (by rw [Array.length_toList, h]; exact Nat.le_refl _)]⟩⟩
end
end
section
def xIns (ρ : Operand → Value) (o : Oper) : Option (Sem Value) := match o.op with
 | .makeMap t none => some (Instr.makeMap t none)
 | .lookup t m x c => some (Instr.lookup t (ρ m) (ρ x) c)
 | .range t x => some (Instr.range t (ρ x))
 | .next it s => some (Instr.next (ρ it) s o.type)
 | .entry it => some (Instr.entry (ρ it))
 | _ => none
def xUpd (ρ : Operand → Value) (o : Oper) : Option (Sem Unit) := match o.op with
 | .mapUpdate t m k x => some (Instr.mapUpdate t (ρ m) (ρ k) (ρ x))
 | _ => none
section
variable {M : List Nat} {P : Program} {n : Nat} {W : World} {Q : Exit → Act → World → Prop} {c : Xc}
theorem x_drawF (fu : Fuel1) (m : Nat) (h : List Nat) (hg : zI M P n W Q ⟨.hps ((xDr (xH P n nS fu h c)).toList.take m).toArray (Array.replicate m false) m (xH P n nS fu h c).L, .tl (xDr (xH P n nS fu h c)) ((xDr (xH P n nS fu h c)).toList.drop m) :: (xH P n nS fu h c).k, (xH P n nS fu h c).L, (xH P n nS fu h c).f⟩)
  (hkt : (xl P n nS fu h c, (xH P n nS fu h c).top, P.follows .mixedOrders, preB .any (xDr (xH P n nS fu h c)).toList m) = (xr P n nS (fuel12 fu) h c, .code (.region (xId (xH P n nS fu h c)) (xDr (xH P n nS fu h c)) true), true, true) := by kernel_rfl) : zI M P n W Q c := by
 simp only [Prod.mk.injEq] at hkt
 obtain ⟨hk, e1, e2, e3⟩ := hkt
 refine xrun_ok fu h c hk ?_
 generalize xH P n nS fu h c = d at hg e1 e3 ⊢
 generalize xDr d = a at hg e1 e3
 obtain ⟨l, rfl⟩ : ∃ l : List Oper, a = l.toArray := ⟨a.toList, by simp⟩
 have : d = ⟨.code (.region (xId d) l.toArray true), d.k, d.L, d.f⟩ := by rw [← e1]
 rw [this]
 have hg' : zI M P n W Q ⟨.hps (l.take m).toArray (Array.replicate m false) m d.L, .tl l.toArray (l.drop m) :: d.k, d.L, d.f⟩ := by simpa using hg
 exact ⟨fun hq => ok_drawh m d.L e2 (by simpa using e3) (hg'.go hq fun _ h => h)⟩
end
end
section
section
variable {M : List Nat} {P : Program} {n : Nat} {W : World} {Q : Exit → Act → World → Prop} {c : Xc}
theorem x_callO {k : FuncId} {args : Array Value} {Rr : Value → List Blk → Prop} (h : List Nat) (L1 : List Blk) (hc : ∀ w, Own M W w L1 → Calls P k args w fun e w' => ∃ v L', e = .returned v ∧ Rr v L' ∧ Own M W w' L')
  (hg : ∀ v L', Rr v L' → zI M P n W Q ⟨.ops (xA (xgo P n nS h c)) (xT (xgo P n nS h c)), (xgo P n nS h c).k, L', upd (xgo P n nS h c).f (xO (xgo P n nS h c)).dst v⟩)
  (hkt : (xgl P n nS h c, (xgo P n nS h c).L, (xgo P n nS h c).top, zT (xA (xgo P n nS h c)) n (xgo P n nS h c).f (xO (xgo P n nS h c)), xEnt P n (xgo P n nS h c)) = (xgr P n nS h c, L1, .ops (xA (xgo P n nS h c)) (xO (xgo P n nS h c) :: xT (xgo P n nS h c)), true, fun w => .ok (.enter k args) w) := by kernel_rfl) : zI M P n W Q c := by
 simp only [Prod.mk.injEq] at hkt
 obtain ⟨hk, f1, e1, e3, e4⟩ := hkt
 refine zP h c hk ?_
 generalize xgo P n nS h c = d at *
 have e5 : ∀ w, (execOp (ev n d.f) (xO d)).run P w = .ok (.enter k args) w := fun w => by
  have h1 := congrFun e4 w
  unfold xEnt at h1
  rw [e1] at h1
  dsimp only at h1
  rw [e3] at h1
  exact h1
 have : d = ⟨.ops (xA d) (xO d :: xT d), d.k, d.L, d.f⟩ := by rw [← e1]
 rw [this]
 rw [← f1] at hc
 exact ⟨fun hq => s_callo Rr e3 e5 hc fun v L' k2 => (hg v L' k2).go hq⟩
theorem xN {k : FuncId} {args : Array Value} {Rr : Value → List Blk → Prop} (h : List Nat) (L1 R ob : List Blk) (hs : ∀ w, Own M W w L1 → Own M W w (R ++ ob)) (hc : ∀ w, Own M W w (R ++ ob) → Calls P k args w fun e w' => ∃ v ob', e = .returned v ∧ Rr v ob' ∧ Own (ob.map Blk.b) w w' ob')
  (hg : ∀ v ob', Rr v ob' → zI M P n W Q ⟨.ops (xA (xgo P n nS h c)) (xT (xgo P n nS h c)), (xgo P n nS h c).k, R ++ ob', upd (xgo P n nS h c).f (xO (xgo P n nS h c)).dst v⟩)
  (hkt : (xgl P n nS h c, (xgo P n nS h c).L, (xgo P n nS h c).top, zT (xA (xgo P n nS h c)) n (xgo P n nS h c).f (xO (xgo P n nS h c)), xEnt P n (xgo P n nS h c)) = (xgr P n nS h c, L1, .ops (xA (xgo P n nS h c)) (xO (xgo P n nS h c) :: xT (xgo P n nS h c)), true, fun w => .ok (.enter k args) w) := by kernel_rfl) : zI M P n W Q c := by
 simp only [Prod.mk.injEq] at hkt
 obtain ⟨hk, f1, e1, e3, e4⟩ := hkt
 refine zP h c hk ?_
 generalize xgo P n nS h c = d at *
 have e5 : ∀ w, (execOp (ev n d.f) (xO d)).run P w = .ok (.enter k args) w := fun w => by
  have h1 := congrFun e4 w
  unfold xEnt at h1
  rw [e1] at h1
  dsimp only at h1
  rw [e3] at h1
  exact h1
 have : d = ⟨.ops (xA d) (xO d :: xT d), d.k, d.L, d.f⟩ := by rw [← e1]
 rw [this]
 rw [← f1] at hs
 refine ⟨fun hq => dR hs (s_callo (fun v L' => ∃ ob', Rr v ob' ∧ L' = R ++ ob') e3 e5 (fun w hO => (hc w hO).mono fun e w' ⟨v, ob', k1, k2, k3⟩ => ⟨v, _, k1, ⟨ob', k2, rfl⟩, (Own.back (hO.perm List.perm_append_comm) k3).perm List.perm_append_comm⟩) fun v L' ⟨ob', k2, k3⟩ => ?_)⟩
 subst k3
 exact (hg v ob' k2).go hq
theorem xh_callL {k : FuncId} {args : Array Value} {Rr : Value → List Blk → Prop} (L1 R ob L0 : List Blk) (hs : ∀ w, Own M W w L1 → Own M W w (R ++ ob)) (hsub : ∀ ob' w, Own M W w (R ++ ob') → Own M W w L0) (hc : ∀ w, Own M W w (R ++ ob) → Calls P k args w fun e w' => ∃ v ob', e = .returned v ∧ Rr v ob' ∧ Own (ob.map Blk.b) w w' ob')
  (hg : ∀ v ob', Rr v ob' → zI M P n W Q (aNext c (R ++ ob') v))
  (hkt : (c.L, hL c, c.top, (xA c)[hI c]?, zT (xA c) n c.f (xO c), fun w => (execOp (ev n c.f) (xO c)).run P w) = (L1, L0, .hst (xA c) (hS c) (hU c) (hL c) (hI c), some (xO c), true, fun w => .ok (.enter k args) w) := by kernel_rfl) : zI M P n W Q c := by
 simp only [Prod.mk.injEq] at hkt
 obtain ⟨f1, f2, e1, e2, e3, e4⟩ := hkt
 rw [← f1] at hs
 rw [← f2] at hsub
 have : c = ⟨.hst (xA c) (hS c) (hU c) (hL c) (hI c), c.k, c.L, c.f⟩ := by rw [← e1]
 rw [this]
 refine ⟨fun hq hs0 => hs_take' hs (tK (xO c) (fun v L' => ∃ ob', Rr v ob' ∧ L' = R ++ ob') e2 e3 (fun w => congrFun e4 w) (fun w hO => (hc w hO).mono fun e w' ⟨v, ob', k1, k2, k3⟩ => ⟨v, _, k1, ⟨ob', k2, rfl⟩, (Own.back (hO.perm List.perm_append_comm) k3).perm List.perm_append_comm⟩) (fun v L' ⟨ob', _, k3⟩ w hO => hsub ob' w (k3 ▸ hO)) fun v L' ⟨ob', k2, k3⟩ => ?_)⟩
 subst k3
 exact (hg v ob' k2).go hq (hsub ob')
theorem x_drawLF (fu : Fuel1) (m : Nat) (h : List Nat) (L0 : List Blk) (hs : ∀ w, Own M W w (xH P n nS fu h c).L → Own M W w L0) (hg : zI M P n W Q ⟨.hps ((xDr (xH P n nS fu h c)).toList.take m).toArray (Array.replicate m false) m L0, .tl (xDr (xH P n nS fu h c)) ((xDr (xH P n nS fu h c)).toList.drop m) :: (xH P n nS fu h c).k, (xH P n nS fu h c).L, (xH P n nS fu h c).f⟩)
  (hkt : (xl P n nS fu h c, (xH P n nS fu h c).top, P.follows .mixedOrders, preB .any (xDr (xH P n nS fu h c)).toList m) = (xr P n nS (fuel12 fu) h c, .code (.region (xId (xH P n nS fu h c)) (xDr (xH P n nS fu h c)) true), true, true) := by kernel_rfl) : zI M P n W Q c := by
 simp only [Prod.mk.injEq] at hkt
 obtain ⟨hk, e1, e2, e3⟩ := hkt
 refine xrun_ok fu h c hk ?_
 generalize xH P n nS fu h c = d at hg hs e1 e3 ⊢
 generalize xDr d = a at hg e1 e3
 obtain ⟨l, rfl⟩ : ∃ l : List Oper, a = l.toArray := ⟨a.toList, by simp⟩
 have : d = ⟨.code (.region (xId d) l.toArray true), d.k, d.L, d.f⟩ := by rw [← e1]
 rw [this]
 have hg' : zI M P n W Q ⟨.hps (l.take m).toArray (Array.replicate m false) m L0, .tl l.toArray (l.drop m) :: d.k, d.L, d.f⟩ := by simpa using hg
 exact ⟨fun hq => ok_drawh m L0 e2 (by simpa using e3) (hg'.go hq hs)⟩
theorem x_appR {α : Type} {g : α → List Value} {T : TypeId} {sz k cp : Nat} {v : Value} {xs : List Value} {A : Option Addr} (h : List Nat) (l : List α) (E ob R : List Blk) (L1 : List Blk) (hs : ∀ w, Own M W w L1 → Own M W w (E ++ ob ++ R))
  (hgl : ∀ y, (g y).length = sz) (h1 : ∀ y, ∀ u ∈ g y, u.oneCell' = true) (hR : ∀ w, Own M W w (E ++ ob ++ R) → Reads g w w.heap.size A l) (hv : Sl T sz v k xs ob) (hN : k + l.length ≤ 1000000)
  (hg : ∀ v' ob', Sl T sz v' (k + l.length) (xs ++ l.flatMap g) ob' → zI M P n W Q ⟨.ops (xA (xgo P n nS h c)) (xT (xgo P n nS h c)), (xgo P n nS h c).k, E ++ ob' ++ R, upd (xgo P n nS h c).f (xO (xgo P n nS h c)).dst v'⟩)
  (hkt : (xgl P n nS h c, (xgo P n nS h c).L, (xgo P n nS h c).top, zT (xA (xgo P n nS h c)) n (xgo P n nS h c).f (xO (xgo P n nS h c)), (xO (xgo P n nS h c)).op, ev n (xgo P n nS h c).f (aX (xO (xgo P n nS h c)) 0), ev n (xgo P n nS h c).f (aX (xO (xgo P n nS h c)) 1), P.underlying (aT (xO (xgo P n nS h c))), aInfo P T)
   = (xgr P n nS h c, L1, .ops (xA (xgo P n nS h c)) (xO (xgo P n nS h c) :: xT (xgo P n nS h c)), true, aOp (xO (xgo P n nS h c)), v, .slice A l.length cp, some (.slice T), some (true, sz, some sz)) := by kernel_rfl) : zI M P n W Q c := by
 simp only [Prod.mk.injEq] at hkt
 obtain ⟨hk, f1, e1, e3, e4, e5, e6, e8, e9⟩ := hkt
 refine zP h c hk ?_
 generalize xgo P n nS h c = d at *
 rw [← f1] at hs
 have : d = ⟨.ops (xA d) (xO d :: xT d), d.k, d.L, d.f⟩ := by rw [← e1]
 rw [this]
 obtain ⟨i, z, hi, hz, hsz, hzs, hby⟩ := aInfo_is e9
 have h63 : k + l.length ≤ maxLen := by unfold maxLen; omega
 have hbytes : (k + l.length) * i.bytes ≤ 140737488355328 := by have := Nat.mul_le_mul hN hby; omega
 have hone : ∀ u ∈ l.flatMap g, u.oneCell' = true := fun u hu => by
  obtain ⟨y, _, hy⟩ := List.mem_flatMap.1 hu
  exact h1 y u hy
 refine ⟨fun hq => dR hs (vI e3 fun w hO => ?_)⟩
 cases A with
 | none =>
  have h0 : l = [] := by
   cases l with
   | nil => rfl
   | cons y l => obtain ⟨b, off, e, _⟩ := hR w hO (by simp); cases e
  subst h0
  have hv' : Sl T sz v (k + ([] : List α).length) (xs ++ ([] : List α).flatMap g) ob := by simpa using hv
  refine gO v (w' := w) ?_ (((hg v ob hv').go hq).go w hO)
  have hx' : ev n d.f (aX (xO d) 1) = .slice none 0 cp := e6
  unfold execOp
  rw [e4]
  simp only [aOp, resolve, invoke, builtin, Sem.run_bind, Sem.run_pure, Result.andThen_ok, List.map_toArray, List.map_cons, List.map_nil, e5, hx', pK e8 hi hv cp]
 | some a =>
  have hnews : ∀ j u, (l.flatMap g)[j]? = some u → w.cell? (a.add j) = some u := fun j u hj => by
   have h0 : 0 < l.length := by
    cases l with
    | nil => simp at hj
    | cons y l => simp
   obtain ⟨b, off, e, _, hc⟩ := hR w hO h0
   obtain rfl := Option.some.inj e
   rw [x3]
   exact hc j u hj
  obtain ⟨v', w', ob', hr, h2, h3⟩ := nZ (P := P) (ty := (xO d).type) (c := cp) e8 hi hz hsz hzs hv hO (j7 hgl l) hnews hone h63 hbytes
  refine gO v' (w' := w') ?_ (((hg v' ob' h2).go hq).go w' h3)
  unfold execOp
  rw [e4]
  simp only [aOp, resolve, invoke, builtin, Sem.run_bind, Sem.run_pure, Result.andThen_ok, List.map_toArray, List.map_cons, List.map_nil, e5, e6, hr]
end
end
end Go.Proofs.YtjimgokkpcfgpaaGreatDoor
