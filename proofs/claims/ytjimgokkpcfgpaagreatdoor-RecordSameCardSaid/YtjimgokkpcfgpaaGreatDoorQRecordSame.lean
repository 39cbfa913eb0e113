/-
 RecordSame: for every input the call returns true, and each argument reads afterwards as it read before. Conditions: none but the row's own, that the listed package-level variables read as the program's text lays them.
-/
import Derived.Test.YtjimgokkpcfgpaaGreatDoorCards
import Derived.Test.YtjimgokkpcfgpaaGreatDoorTie
import Derived.Test.YtjimgokkpcfgpaaGreatDoorRS6

section
/-
 Chapter 12: short (are a record's lists and texts?), and any two records: are they the same? Conditions: what the package leans on lies as the text lays it.
-/
namespace Go.Proofs.YtjimgokkpcfgpaaGreatDoor
open Go.RowKit
set_option maxRecDepth 100000
set_option linter.unusedVariables false
set_option linter.unusedSimpArgs false
set_option linter.unnecessarySimpa false
set_option maxHeartbeats 4000000

def ShT (l : List (List UInt8)) : Prop := l.length ≤ 12 ∧ ∀ s ∈ l, s.length ≤ 100
def ShW (u : Wv) : Prop := u.name.length ≤ 100 ∧ u.rng.length ≤ 200 ∧ ShT u.fs
def ShN (n : Nv) : Prop := (n.any.length ≤ 6 ∧ ¬ IntKind.i64.wrap ((n.wh.length : Int) + (n.opt.length : Int)) > 300) ∧ ∀ u ∈ n.any, ShW u
def ShB (b : Bv) : Prop := b.name.length ≤ 100 ∧ b.rng.length ≤ 200 ∧ b.wh.length ≤ 200
def ShF (y : Fv) : Prop := y.name.length ≤ 100 ∧ ShT y.of
/-- What short says of a record. -/
structure ShR (x : Rv) : Prop where
 nn : x.needs.length ≤ 12
 nb : x.bars.length ≤ 12
 nf : x.fts.length ≤ 12
 sum : ¬ IntKind.i64.wrap (IntKind.i64.wrap ((x.name.length : Int) + (x.pre.length : Int)) + (x.bld.length : Int)) > 200
 needs : ∀ n ∈ x.needs, ShN n
 bars : ∀ b ∈ x.bars, ShB b
 fts : ∀ y ∈ x.fts, ShF y
theorem ShR.sm {w : World} {B : Nat} {x : Rv} (h : ShR x) (hr : RcRd w B x) : RcSm w B x :=
 ⟨hr.needs, hr.any, hr.wfs, hr.bars, ⟨hr.ftop, hr.feach, by have := h.nf; omega, fun y hy => by have := (h.fts y hy).2.1; omega, fun y hy => by have := (h.fts y hy).1; omega, fun y hy s hs => by have := (h.fts y hy).2.2 s hs; omega⟩,
  by have := h.nn; omega, fun n hn => by have := (h.needs n hn).1.1; omega, fun n hn u hu => by have := ((h.needs n hn).2 u hu).2.2.1; omega, by have := h.nb; omega⟩
/-- A yes that says something. -/
def YesB (p : Prop) (v : Value) : Prop := ∃ b, v = .bool b ∧ (b = true → p)
theorem qY {p : Prop} : YesB p (.bool false) := ⟨false, rfl, fun h => by cases h⟩
theorem texts12_any (A : Option Addr) (cap : Nat) (l : List (List UInt8)) (W : World) (hv : Reads yE W W.heap.size A l) : YC 28 #[.slice A l.length cap] W fun e w' => ∃ v, e = .returned v ∧ YesB (ShT l) v ∧ Below W.heap.size W w' := by
 refine zL Tryz.func28 (yY (α := Nat) (fun i => [(0, .slice A l.length cap), (3, YI (i : Int))]) (fun _ => []) (fun i m => (i ≤ l.length ∧ i ≤ 12 ∧ ∀ s ∈ l.take i, s.length ≤ 100) ∧ m = l.length - i) 0 l.length [] ⟨⟨Nat.zero_le _, Nat.zero_le _, fun s h => by simp at h⟩, rfl⟩ ?_)
 rintro i mm g kk ⟨⟨hi, hi12, hno⟩, hmm⟩ nx hkk
 subst hkk
 refine y9 7 [] ((i : Int) < (l.length : Int)) (fun h7 => ?_) (fun h7 => ?_)
 rotate_left
 ·exact zB [] Z4 fun w hO => ⟨_, rfl, ⟨true, rfl, fun _ => ⟨by omega, kO (p := fun s : List UInt8 => s.length ≤ 100) (show l.length ≤ i by omega) hno⟩⟩, hO.below⟩
 refine y9 11 [] ((i : Int) > 11) (fun h11 => ?_) (fun h11 => ?_)
 ·exact zB [] Z5 fun w hO => ⟨_, rfl, qY, hO.below⟩
 have hj : i < l.length := by omega
 obtain ⟨eb, eo, hA, hel⟩ := hv.elem yH i hj
 have hgo := x6 (p := fun s : List UInt8 => s.length ≤ 100) hj hno
 have h1 : ∀ w, Below W.heap.size W w → (loadVar 9 ⟨eb, eo + i * 1 + 0, none⟩).run Tryz.prog w = .ok (.string (mkS l[i])) w := fun w hw => hel w hw _ 0 _ Kr
 generalize l[i] = u at hgo h1
 refine y7 15 [] hA l.length cap i 1 hj (zX 16 [] 9 eb (eo + i * 1 + 0) (.string (mkS u)) (fun w hO => h1 w hO.below) (y9 18 [] ((u.length : Int) > 100) (fun h18 => ?_) (fun h18 => ?_)))
 ·exact zB [] Z5 fun w hO => ⟨_, rfl, qY, hO.below⟩
 ·exact x_i 9 [] ((i + 1 : Nat) : Int) (nx (i + 1) (l.length - (i + 1)) [] Om ⟨⟨hj, by omega, hgo Om⟩, rfl⟩ Kr Kr)
theorem short12_any (x : Rv) (W : World) (hx : RcRd W W.heap.size x) : YC 12 #[rvV x] W fun e w' => ∃ v, e = .returned v ∧ YesB (ShR x) v ∧ Below W.heap.size W w' := by
 refine zL Tryz.func12 (xN [] fun b1 => y9 25 [0, 0, 0, 0] ((x.needs.length : Int) > 12) (fun h25 => ?_) (fun h25 => y9 30 [0] ((x.bars.length : Int) > 12) (fun h30 => ?_) (fun h30 => y9 36 [0] ((x.fts.length : Int) > 12) (fun h36 => ?_) (fun h36 => y9 40 [] (IntKind.i64.wrap (IntKind.i64.wrap ((x.name.length : Int) + (x.pre.length : Int)) + (x.bld.length : Int)) > 200) (fun h40 => ?_) (fun h40 => ?_)))))
 ·exact zB [] Z5 fun w hO => ⟨_, rfl, qY, hO.below⟩
 ·exact zB [] Z5 fun w hO => ⟨_, rfl, qY, hO.below⟩
 ·exact zB [] Z5 fun w hO => ⟨_, rfl, qY, hO.below⟩
 ·exact zB [] Z5 fun w hO => ⟨_, rfl, qY, hO.below⟩
 refine yY (α := Nat) (fun i => [(1, Zp b1 0), (4, YI (i : Int))]) (fun _ => [⟨b1, (rvC x).toArray, 28⟩]) (fun i m => (i ≤ x.needs.length ∧ ∀ n ∈ x.needs.take i, ShN n) ∧ m = x.needs.length - i) 0 x.needs.length [] ⟨⟨Nat.zero_le _, fun n h => by simp at h⟩, rfl⟩ ?_
 rintro i mm g kk ⟨⟨hi, hno⟩, hmm⟩ nx hkk
 subst hkk
 refine y9 46 [0] ((i : Int) < (x.needs.length : Int)) (fun h46 => ?_) (fun h46 => ?_)
 ·have hj : i < x.needs.length := by omega
  obtain ⟨eb, eo, hA, hel⟩ := hx.needs.elem qU i hj
  have hgo := x6 (p := ShN) hj hno
  have hsm : x.needs[i] ∈ x.needs := List.getElem_mem hj
  have ha := hx.any _ hsm; have hw := hx.wfs _ hsm
  have q0 : ∀ w, Below W.heap.size W w → (loadVar 55 ⟨eb, eo + i * 3 + 0, none⟩).run Tryz.prog w = .ok (.slice x.needs[i].A x.needs[i].any.length x.needs[i].cap) w := fun w hw => hel w hw _ 0 _ Kr
  have q1 : ∀ w, Below W.heap.size W w → (loadVar 9 ⟨eb, eo + i * 3 + 1, none⟩).run Tryz.prog w = .ok (.string (mkS x.needs[i].wh)) w := fun w hw => hel w hw _ 1 _ Kr
  have q2 : ∀ w, Below W.heap.size W w → (loadVar 9 ⟨eb, eo + i * 3 + 2, none⟩).run Tryz.prog w = .ok (.string (mkS x.needs[i].opt)) w := fun w hw => hel w hw _ 2 _ Kr
  generalize x.needs[i] = n at hgo ha hw q0 q1 q2
  refine y7 52 [0] hA x.needs.length x.nc i 3 hj (zX 54 [] 55 eb (eo + i * 3 + 0) (.slice n.A n.any.length n.cap) (fun w hO => q0 w hO.below) (y9 56 [] ((n.any.length : Int) > 6) (fun h56 => ?_) (fun h56 => ?_)))
  ·exact zB [] Z5 fun w hO => ⟨_, rfl, qY, hO.below⟩
  refine y7 61 [0] hA x.needs.length x.nc i 3 hj (zX 63 [] 9 eb (eo + i * 3 + 1) (.string (mkS n.wh)) (fun w hO => q1 w hO.below) (y7 68 [0] hA x.needs.length x.nc i 3 hj (zX 70 [] 9 eb (eo + i * 3 + 2) (.string (mkS n.opt)) (fun w hO => q2 w hO.below) (y9 73 [] (IntKind.i64.wrap ((n.wh.length : Int) + (n.opt.length : Int)) > 300) (fun h73 => ?_) (fun h73 => ?_)))))
  ·exact zB [] Z5 fun w hO => ⟨_, rfl, qY, hO.below⟩
  refine yY (α := Nat) (fun k => [(1, Zp b1 0), (4, YI (i : Int)), (5, YI (k : Int))]) (fun _ => [⟨b1, (rvC x).toArray, 28⟩]) (fun k m => (k ≤ n.any.length ∧ ∀ u ∈ n.any.take k, ShW u) ∧ m = n.any.length - k) 0 n.any.length [] ⟨⟨Nat.zero_le _, fun n h => by simp at h⟩, rfl⟩ ?_
  rintro k mm2 g2 kk2 ⟨⟨hk, hno2⟩, hmm2⟩ nx2 hkk2
  subst hkk2
  refine y7 79 [0] hA x.needs.length x.nc i 3 hj (zX 81 [] 55 eb (eo + i * 3 + 0) (.slice n.A n.any.length n.cap) (fun w hO => q0 w hO.below) (y9 83 [] ((k : Int) < (n.any.length : Int)) (fun h83 => ?_) (fun h83 => ?_)))
  rotate_left
  ·exact x_i 48 [] ((i + 1 : Nat) : Int) (nx (i + 1) (x.needs.length - (i + 1)) [] Om ⟨⟨hj, hgo ⟨⟨by omega, h73⟩, kO (p := ShW) (show n.any.length ≤ k by omega) hno2⟩⟩, rfl⟩ Kr Kr)
  have hj2 : k < n.any.length := by omega
  obtain ⟨fb, fo, hA2, hel2⟩ := ha.elem dC k hj2
  have hgo2 := x6 (p := ShW) hj2 hno2
  have hr := hw _ (List.getElem_mem hj2)
  have q3 : ∀ w, Below W.heap.size W w → (loadVar 60 ⟨fb, fo + k * 4 + 0, none⟩).run Tryz.prog w = .ok (wvV n.any[k]) w := fun w hw => hel2 w hw _ 0 _ Kr
  generalize n.any[k] = u at hgo2 hr q3
  have hc : ∀ w, Below W.heap.size W w → YC 28 #[.slice u.A u.fs.length u.cap] w fun e w' => ∃ v, e = .returned v ∧ YesB (ShT u.fs) v ∧ Below w.heap.size w w' := fun w hb => texts12_any u.A u.cap u.fs w (hr.on hb hb.size)
  refine y7 89 [0] hA x.needs.length x.nc i 3 hj (zX 91 [] 55 eb (eo + i * 3 + 0) (.slice n.A n.any.length n.cap) (fun w hO => q0 w hO.below) (y7 93 [] hA2 n.any.length n.cap k 4 hj2 (zX 94 [] 60 fb (fo + k * 4 + 0) (wvV u) (fun w hO => q3 w hO.below) (zY [] fun b6 => y9 98 [0, 0] ((u.name.length : Int) > 100) (fun h98 => ?_) (fun h98 => y9 103 [0] ((u.rng.length : Int) > 200) (fun h103 => ?_) (fun h103 => ?_))))))
  ·exact zB [] Z5 fun w hO => ⟨_, rfl, qY, hO.below⟩
  ·exact zB [] Z5 fun w hO => ⟨_, rfl, qY, hO.below⟩
  refine m7 (R := YesB (ShT u.fs)) [0] (fun w hO => hc w hO.below) ?_
  rintro v ⟨bt, rfl, hbt⟩
  refine yT 108 bt (fun e1 => ?_) (fun e1 => ?_)
  ·exact x_i 85 [] ((k + 1 : Nat) : Int) (kP [] [⟨b1, (rvC x).toArray, 28⟩] (fun w hO => hO.past 1 _) (nx2 (k + 1) (n.any.length - (k + 1)) [] Om ⟨⟨hj2, hgo2 ⟨by omega, by omega, hbt e1⟩⟩, rfl⟩ Kr Kr))
  ·exact zB [] Z5 fun w hO => ⟨_, rfl, qY, hO.below⟩
 have hN := kO (p := ShN) (show x.needs.length ≤ i by omega) hno
 clear nx
 refine yY (α := Nat) (fun i => [(1, Zp b1 0), (7, YI (i : Int))]) (fun _ => [⟨b1, (rvC x).toArray, 28⟩]) (fun i m => (i ≤ x.bars.length ∧ ∀ n ∈ x.bars.take i, ShB n) ∧ m = x.bars.length - i) 0 x.bars.length [] ⟨⟨Nat.zero_le _, fun n h => by simp at h⟩, rfl⟩ ?_
 rintro i2 mm2 g2 kk2 ⟨⟨hi2, hno2⟩, hmm2⟩ nx hkk
 subst hkk
 refine y9 115 [0] ((i2 : Int) < (x.bars.length : Int)) (fun h115 => ?_) (fun h115 => ?_)
 ·have hj : i2 < x.bars.length := by omega
  obtain ⟨eb, eo, hA, hel⟩ := hx.bars.elem bJ i2 hj
  have hgo := x6 (p := ShB) hj hno2
  have q0 : ∀ w, Below W.heap.size W w → (loadVar 9 ⟨eb, eo + i2 * 3 + 0, none⟩).run Tryz.prog w = .ok (.string (mkS x.bars[i2].name)) w := fun w hw => hel w hw _ 0 _ Kr
  have q1 : ∀ w, Below W.heap.size W w → (loadVar 9 ⟨eb, eo + i2 * 3 + 1, none⟩).run Tryz.prog w = .ok (.string (mkS x.bars[i2].rng)) w := fun w hw => hel w hw _ 1 _ Kr
  have q2 : ∀ w, Below W.heap.size W w → (loadVar 9 ⟨eb, eo + i2 * 3 + 2, none⟩).run Tryz.prog w = .ok (.string (mkS x.bars[i2].wh)) w := fun w hw => hel w hw _ 2 _ Kr
  generalize x.bars[i2] = n at hgo q0 q1 q2
  refine y7 121 [0] hA x.bars.length x.bc i2 3 hj (zX 123 [] 9 eb (eo + i2 * 3 + 0) (.string (mkS n.name)) (fun w hO => q0 w hO.below) (y9 125 [] ((n.name.length : Int) > 100) (fun h1 => ?_) (fun h1 => ?_)))
  ·exact zB [] Z5 fun w hO => ⟨_, rfl, qY, hO.below⟩
  refine y7 130 [0] hA x.bars.length x.bc i2 3 hj (zX 132 [] 9 eb (eo + i2 * 3 + 1) (.string (mkS n.rng)) (fun w hO => q1 w hO.below) (y9 134 [] ((n.rng.length : Int) > 200) (fun h2 => ?_) (fun h2 => ?_)))
  ·exact zB [] Z5 fun w hO => ⟨_, rfl, qY, hO.below⟩
  refine y7 140 [0] hA x.bars.length x.bc i2 3 hj (zX 142 [] 9 eb (eo + i2 * 3 + 2) (.string (mkS n.wh)) (fun w hO => q2 w hO.below) (y9 144 [] ((n.wh.length : Int) > 200) (fun h3 => ?_) (fun h3 => ?_)))
  ·exact zB [] Z5 fun w hO => ⟨_, rfl, qY, hO.below⟩
  ·exact x_i 117 [] ((i2 + 1 : Nat) : Int) (nx (i2 + 1) (x.bars.length - (i2 + 1)) [] Om ⟨⟨hj, hgo ⟨by omega, by omega, by omega⟩⟩, rfl⟩ Kr Kr)
 have hB := kO (p := ShB) (show x.bars.length ≤ i2 by omega) hno2
 clear nx
 refine yY (α := Nat) (fun i => [(1, Zp b1 0), (8, YI (i : Int))]) (fun _ => [⟨b1, (rvC x).toArray, 28⟩]) (fun i m => (i ≤ x.fts.length ∧ ∀ n ∈ x.fts.take i, ShF n) ∧ m = x.fts.length - i) 0 x.fts.length [] ⟨⟨Nat.zero_le _, fun n h => by simp at h⟩, rfl⟩ ?_
 rintro i3 mm3 g3 kk3 ⟨⟨hi3, hno3⟩, hmm3⟩ nx hkk
 subst hkk
 refine y9 150 [0] ((i3 : Int) < (x.fts.length : Int)) (fun h150 => ?_) (fun h150 => ?_)
 rotate_left
 ·exact zB [] Z4 fun w hO => ⟨_, rfl, ⟨true, rfl, fun _ => ⟨by omega, by omega, by omega, h40, hN, hB, kO (p := ShF) (show x.fts.length ≤ i3 by omega) hno3⟩⟩, hO.below⟩
 have hj : i3 < x.fts.length := by omega
 obtain ⟨eb, eo, hA, hel⟩ := hx.ftop.elem wA i3 hj
 have hgo := x6 (p := ShF) hj hno3
 have hr := hx.feach _ (List.getElem_mem hj)
 have q0 : ∀ w, Below W.heap.size W w → (loadVar 9 ⟨eb, eo + i3 * 2 + 0, none⟩).run Tryz.prog w = .ok (.string (mkS x.fts[i3].name)) w := fun w hw => hel w hw _ 0 _ Kr
 have q1 : ∀ w, Below W.heap.size W w → (loadVar 58 ⟨eb, eo + i3 * 2 + 1, none⟩).run Tryz.prog w = .ok (.slice x.fts[i3].A x.fts[i3].of.length x.fts[i3].cap) w := fun w hw => hel w hw _ 1 _ Kr
 generalize x.fts[i3] = n at hgo hr q0 q1
 have hc : ∀ w, Below W.heap.size W w → YC 28 #[.slice n.A n.of.length n.cap] w fun e w' => ∃ v, e = .returned v ∧ YesB (ShT n.of) v ∧ Below w.heap.size w w' := fun w hb => texts12_any n.A n.cap n.of w (hr.on hb hb.size)
 refine y7 156 [0] hA x.fts.length x.fc i3 2 hj (zX 158 [] 9 eb (eo + i3 * 2 + 0) (.string (mkS n.name)) (fun w hO => q0 w hO.below) (y9 160 [] ((n.name.length : Int) > 100) (fun h1 => ?_) (fun h1 => ?_)))
 ·exact zB [] Z5 fun w hO => ⟨_, rfl, qY, hO.below⟩
 refine y7 165 [0] hA x.fts.length x.fc i3 2 hj (zX 167 [] 58 eb (eo + i3 * 2 + 1) (.slice n.A n.of.length n.cap) (fun w hO => q1 w hO.below) (m7 (R := YesB (ShT n.of)) [] (fun w hO => hc w hO.below) ?_))
 rintro v ⟨bt, rfl, hbt⟩
 refine yT 168 bt (fun e1 => ?_) (fun e1 => ?_)
 ·exact x_i 152 [] ((i3 + 1 : Nat) : Int) (nx (i3 + 1) (x.fts.length - (i3 + 1)) [] Om ⟨⟨hj, hgo ⟨by omega, hbt e1⟩⟩, rfl⟩ Kr Kr)
 ·exact zB [] Z5 fun w hO => ⟨_, rfl, qY, hO.below⟩
theorem recordSame.law (x y : Rv) (W : World) (hx : RcRd W W.heap.size x) (hy : RcRd W W.heap.size y) (hK : RecLib W) (hL : LyAt W) : YC 7 #[rvV x, rvV y] W (YR (.bool true) W) := by
 have haw := fun w (hb : Below W.heap.size W w) => awake12_any w (hK.on hb) (hL.on hb)
 have hsx : ∀ w, Below W.heap.size W w → YC 12 #[rvV x] w fun e w' => ∃ v, e = .returned v ∧ YesB (ShR x) v ∧ Below w.heap.size w w' := fun w hb => short12_any x w (hx.on hb hb.size)
 have hsy : ∀ w, Below W.heap.size W w → YC 12 #[rvV y] w fun e w' => ∃ v, e = .returned v ∧ YesB (ShR y) v ∧ Below w.heap.size w w' := fun w hb => short12_any y w (hy.on hb hb.size)
 refine zL Tryz.func7 (xN [] fun b2 => xN [] fun b3 => m7 (R := YesB (ShR x)) [1] (fun w hO => hsx w hO.below) ?_)
 rintro v ⟨ba, rfl, hba⟩
 refine yT 6 ba (fun e1 => ?_) (fun e1 => ?_)
 rotate_left
 ·exact zE (v := .bool true) [] (fun w hO => haw w hO.below) (zB [] Z4 fun w hO => ⟨rfl, hO.below⟩)
 refine m7 (R := YesB (ShR y)) [0] (fun w hO => hsy w hO.below) ?_
 rintro v ⟨bb, rfl, hbb⟩
 refine yT 10 bb (fun e2 => ?_) (fun e2 => ?_)
 rotate_left
 ·exact zE (v := .bool true) [] (fun w hO => haw w hO.below) (zB [] Z4 fun w hO => ⟨rfl, hO.below⟩)
 have hX := (hba e1).sm hx
 have hY := (hbb e2).sm hy
 obtain ⟨s, hs⟩ : ∃ s, decide (x.rt = y.rt) = s := ⟨_, rfl⟩
 have hs' : decide (y.rt = x.rt) = s := by rw [← hs]; exact decide_eq_decide.2 eq_comm
 have c1 : ∀ w, Below W.heap.size W w → YC 26 #[rvV x, rvV y] w (YR (.bool s) w) := fun w hb => hs ▸ qSame_any x y w (hX.on hb hb.size) (hY.on hb hb.size)
 have c2 : ∀ w, Below W.heap.size W w → YC 22 #[rvV x, rvV y] w (YR (.bool s) w) := fun w hb => hs ▸ r12Same_any x y w (hX.on hb hb.size) (hY.on hb hb.size)
 have c3 : ∀ w, Below W.heap.size W w → YC 26 #[rvV x, rvV x] w (YR (.bool true) w) := fun w hb => (decide_eq_true (rfl : x.rt = x.rt)) ▸ qSame_any x x w (hX.on hb hb.size) (hX.on hb hb.size)
 have c4 : ∀ w, Below W.heap.size W w → YC 26 #[rvV y, rvV x] w (YR (.bool s) w) := fun w hb => hs' ▸ qSame_any y x w (hY.on hb hb.size) (hX.on hb hb.size)
 clear hs hs' hsx hsy hba hbb hX hY hx hy
 refine zE (v := .bool true) [] (fun w hO => haw w hO.below) (zE (v := .bool s) [1, 0] (fun w hO => c1 w hO.below) (zE (v := .bool s) [1, 0] (fun w hO => c2 w hO.below) (tQ 22 [] (s == s) (fun _ => ?_) (fun h => absurd h (by simp)))))
 refine zE (v := .bool true) [1, 1] (fun w hO => c3 w hO.below) (zE (v := .bool s) [0, 1] (fun w hO => c4 w hO.below) (zE (v := .bool s) [1, 0] (fun w hO => c1 w hO.below) (tQ 36 [] (s == s) (fun _ => ?_) (fun h => absurd h (by simp)))))
 exact zB [] Z4 fun w hO => ⟨rfl, hO.below⟩
end Go.Proofs.YtjimgokkpcfgpaaGreatDoor
end

section
/-
 RecordSame: for every input the call returns true, and each argument reads afterwards as it read before. Conditions: none but the row's own, that the listed package-level variables read as the program's text lays them.
-/
namespace Go.Proofs.YtjimgokkpcfgpaaGreatDoor.recordSame
open Go.ChangeShapes Go.WideShapes Go.ChangeAt Go.RowKit
open Go.ChangeMaps (open_string shut_string)
set_option linter.unusedVariables false

set_option maxRecDepth 100000 in
theorem contract (H : Type) (enc : TypeId × Value → H) (W : World) (base : Nat) (args : Array Value) (ds gs : List (DataW H)) (before : List MemPlace)
  (hval : ∀ (j : Nat) t v, Tryz.f7.params[j]? = some t → args[j]? = some v → Value.okWide Tryz.prog W .any base t v)
  (hW : DataW.Whole enc Tryz.prog Tryz.f7.params.toList Rows.recordSameSpec.vars false W args.toList ds gs before) (hL : laidMetH Tryz.prog Rows.recordSameRow.laid W) (hS : W.ShapedOpen Tryz.prog) :
  YC 7 args W fun e W' => ∃ v, e = .returned v ∧ Rows.recordSameSpec.post enc Tryz.prog Tryz.f7 false true false false W args v W' := by
 have ht : HasLib W := hasLib_of (hasTab_of hL (by rfl)) hS
 have hW' := hW
 obtain ⟨p, q, hA0, hV, rfl, hfz, hnd⟩ := hW
 have hA : DataW.TrodAll enc Tryz.prog W 0 (fun _ => true) true Tryz.f7.params.toList args.toList ds p := hA0
 rw [Tryz.params7] at hA hval
 obtain ⟨v0, vs0, d0, ds0, p0, q0, hargs, rfl, rfl, h0, r0⟩ := trodAll_cons hA
 obtain ⟨v1, vs1, d1, ds1, p1, q1, rfl, rfl, rfl, h1, r1⟩ := trodAll_cons r0
 obtain ⟨rfl, rfl, rfl⟩ := trodAll_nil r1
 obtain rfl : args = #[v0, v1] := by cases args; simp_all
 obtain ⟨rfl, rfl⟩ := trodVars_none hV
 clear hA0
 obtain ⟨a, rfl, a_r⟩ := open_rec (hval 0 28 v0 rfl rfl) h0
 obtain ⟨b, rfl, b_r⟩ := open_rec (hval 1 28 v1 rfl rfl) h1
 refine (recordSame.law a b W a_r b_r ⟨ht, mkLib_of hL (by rfl)⟩ (lyAt_of hL (by rfl))).mono fun e W' ⟨he, hb⟩ => ?_
 subst he
 exact ⟨_, rfl, law_end laidOut (fun t ht => by rw [Tryz.params7] at ht; simp at ht; subst ht; exact ⟨by kernel_rfl, of_decide_eq_true Kr⟩) rfl rfl Tryz.underlying4 hW' (by rfl) hb⟩

noncomputable def laidWorld (os : Os) : World :=
 { World.holding Tryz.prog os ⟨#[], #[], []⟩ with heap := layAt (layAt (layAt (layAt (layAt (layAt (layAt ((World.holding Tryz.prog os ⟨#[], #[], []⟩).heap) 6 Rows.laid_math_bits_deBruijn32tab) 7 Rows.laid_math_bits_deBruijn64tab) 3 Rows.laid_internal_strconv_uint64pow10) 5 Rows.laid_unicode_utf8_acceptRanges) 2 Rows.laid_linchpin_mark_keys) 0 Rows.laid_linchpin_record_layouts) 4 Rows.laid_unicode_utf8_first }
theorem laid_met (os : Os) : laidMet Tryz.prog Rows.recordSameRow.laid ((laidWorld os).forCall (fun _ _ => 0) ⟨#[], #[.agg ZE, .agg ZE], []⟩).memory :=
 laidMet_of_run' 8 Kr Kr
theorem reads (os : Os) {H : Type} (enc : TypeId × Value → H) : ∃ places, DataW.whole enc Tryz.prog ((laidWorld os).forCall (fun _ _ => 0) ⟨#[], #[.agg ZE, .agg ZE], []⟩).memory Tryz.f7.params.toList Rows.recordSameSpec.vars false (#[.agg ZE, .agg ZE] : Array Value).toList 8 = some ([.agg [.lit (.string []), .agg [.lit (.int .i64 0), .lit (.int .i64 0), .lit (.int .i64 0), .lit (.string []), .lit (.string [])], .nil, .nil, .nil], .agg [.lit (.string []), .agg [.lit (.int .i64 0), .lit (.int .i64 0), .lit (.int .i64 0), .lit (.string []), .lit (.string [])], .nil, .nil, .nil]], [], places) :=
 ⟨[], by kernel_rfl⟩

set_option maxRecDepth 100000 in
theorem lifted (os : Os) (started : os.Started) (H : Type) (enc : TypeId × Value → H) (F : Stop.Interp) :
  ReturnsInHanded {} Tryz.checked os 7 .any ((OpenSpec.ofChange Rows.recordSameSpec).preRow enc Tryz.prog Tryz.f7 Rows.recordSameRow.domain false Rows.recordSameRow.laid) (((OpenSpec.ofChange Rows.recordSameSpec).at F).post enc Tryz.prog Tryz.f7 false true false false) := by
 obtain ⟨places, hx⟩ := reads os enc
 refine returnsInHanded_of_row (C := Tryz.checked) (s := OpenSpec.ofChange Rows.recordSameSpec) own started Kr Tryz.func7
  (witness_row_at (enc := enc) (C := Tryz.checked) false (laidWorld os) #[.agg ZE, .agg ZE] rfl Kr Kr Kr
   (OpenSpec.preRow_of_cond 8 hx Kr (fun k hk => by cases hk) Kr (laid_met os))) ?_
 intro W base args ds gs before hval hW _ _ _ hL hS _
 exact contract H enc W base args ds gs before hval hW hL hS

theorem j1 : (Rows.recordSameRow.inPlace == Tryz.pinned.checked.prog.inPlace 7) = true := by kernel_rfl
theorem j2 : (Rows.recordSameRow.unfollowed == Tryz.pinned.checked.prog.unfollowed 7) = true := by kernel_rfl
theorem j3 : (Rows.recordSameRow.recurses == Tryz.pinned.checked.prog.recurses 7) = true := by kernel_rfl
theorem j4 : (Rows.recordSameRow.named == Tryz.pinned.checked.prog.varsNamed 7) = true := by kernel_rfl
theorem j5 : (Rows.recordSameRow.lifted == Tryz.pinned.checked.prog.liftsFinal) = true := by kernel_rfl
theorem closed : joinedFacts Tryz.pinned.checked.prog 7 Tryz.f7 (OpenSpec.ofChange Rows.recordSameSpec).bare Rows.recordSameRow = true := by
 unfold joinedFacts
 rw [jfLaid, jfMaps, j1, j2, j3, j4, jfHeard, jfEnter, j5]
 kernel_rfl

theorem said : Rows.RecordSameSaid :=
 OpenClaim.holds_of_cond 7 Tryz.f7 rfl rfl rfl rfl rfl rfl rfl ⟨rfl, rfl, rfl, rfl, rfl⟩ rfl rfl rfl rfl rfl Kr Tryz.func7 closed
  (of_decide_eq_true Kr) (by unfold Func.isWrapper; first | (rw [if_pos (by decide +kernel)]; kernel_rfl) | (rw [if_neg (by decide +kernel)]; exact ⟨rfl, rfl⟩))
  (fun os started H enc _ F => by rw [OpenClaim.pre_eq_preRow]; exact lifted os started H enc F)

theorem plain (f : FuncId) (fn : Func) (hf : Tryz.pinned.checked.prog.funcNamed "linchpin/linchpinlaw12.RecordSame" = some f) (hfn : Tryz.pinned.checked.prog.funcs[f]? = some fn) :
  false = Tryz.pinned.checked.prog.looks [] ∧ ∀ (j : Nat) t, fn.params[j]? = some t → Tryz.pinned.checked.prog.wantsStandIn t = false := by
 obtain rfl : f = 7 := Option.some.inj ((show Tryz.prog.funcNamed "linchpin/linchpinlaw12.RecordSame" = some 7 by kernel_rfl).symm.trans hf) |>.symm
 obtain rfl : fn = Tryz.f7 := (Option.some.inj (Tryz.func7.symm.trans hfn)).symm
 refine ⟨by kernel_rfl, fun j t ht => ?_⟩
 rw [Tryz.params7] at ht
 have hm := Array.mem_of_getElem? ht
 simp at hm
 subst hm
 exact (show Tryz.prog.wantsStandIn 28 = false by kernel_rfl)

theorem card : Rows.RecordSameCardSaid :=
 Claim7.holds_tied_plain_at .later [] _ _ _ _ said (fun _ h => by cases h) Kr (fun _ h => by cases h) recordSame_row_tie rfl ⟨rfl, rfl⟩ Kr rfl plain Kr

#print axioms card
end Go.Proofs.YtjimgokkpcfgpaaGreatDoor.recordSame
end
