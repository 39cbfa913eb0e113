/-
 What the statement's proof leans on: the ways of walking, plain mathematics, and what the program's functions return; each theorem says on what conditions.
-/
import Derived.Lib.Strings
import Derived.Lib.Slices
import Derived.Lib.Walk
import Derived.Lib.Builder
import Derived.Lib.AppendStr
import Derived.Lib.UnsafeStr
import Derived.WalkKit
import Derived.Laws.Externs
import Derived.Shelf.RegionOpenPlain
import Derived.Lib.AppendIntMem
import Derived.Lib.ItoaLen
import Derived.Lib.SliceRun
import Derived.Outline
import Derived.Lib.Small
import Derived.Deep.RegionHeld3
import Derived.IntWalk
import Derived.StillTailTactics
import Derived.Laws.StructEq
import Derived.WalkLawsBesides
import Derived.Lib.SplitLaws
import Derived.Lib.TrimByte
import Derived.Lib.Join
import Derived.Shelf.Strings.SplitCore
import Derived.LoopN
import Derived.Test.YtjimgokkpcfgpaaGreatDoorRS1
set_option maxRecDepth 1000000
set_option maxHeartbeats 8000000
set_option linter.unusedVariables false
set_option linter.unusedSimpArgs false
set_option linter.unnecessarySimpa false
namespace Go.Proofs.YtjimgokkpcfgpaaGreatDoor
open Go.RowKit

section
theorem freeze_draws (w : World) (a : Addr) (m : Nat) : (w.freeze a m).drawn = w.drawn := by unfold World.freeze; split <;> rfl
theorem wp_append_text {P : Program} {w : World} {ops : Array Oper} {rest : List Oper} {o : Oper} {a : Act} {Q : Exit → Act → World → Prop} (hgd : o.guard = none) (sl x : Operand) (t u : TypeId)
  (ho : o.op = .call { callee := .builtin .append, args := #[sl, x], argTypes := #[t, u] })
  (B : Nat) (e : TypeId) (i : TypeInfo) (ht : P.underlying t = some (.slice e)) (hu : P.underlying u = some .string) (hi : P.info? e = some i) (hz : i.zero = some (.int .u8 0)) (h1 : i.size = 1) (h2 : i.bytes = 1)
  (v : Value) (n : Nat) (xs : List Value) (hs : a.eval sl = v) (hown : w.ownsRow B e 1 v n xs) (s : ByteArray) (hx : a.eval x = .string s) (h63 : n + s.size ≤ maxLen) (hb : n + s.size ≤ 140737488355328) (hB : B ≤ w.heap.size)
  (h : ∀ v' w', w'.ownsRow B e 1 v' (n + s.size) (xs ++ Lib.strCells s) → GrownD w w' v.ownBlock → wpList P ops Q rest (a.put o.dst v') w') : wpList P ops Q (o :: rest) a w :=
 wpList_plain hgd fun K hK => by
  obtain ⟨v', w', hr, k2, k3, _⟩ := Lib.run_append_own_string (P := P) (w := w) B t u o.type e i ht hu hi hz h1 h2 v n xs hown s h63 hb hB
  unfold Oper.wp execOp
  simp only [ho, resolve, invoke, builtin, Sem.run_bind, Sem.run_pure, Result.andThen_ok, List.map_toArray, List.map_cons, List.map_nil, hs, hx, hr]
  exact hK _ _ (h v' w' k2 ⟨k3, run_drawn P _ _ hr⟩)
theorem sizeBuilder : (Tryz.prog.info? 107).map (·.size) = some 2 := by kernel_rfl
theorem liesBuilder : liesAt Tryz.prog Tryz.prog.depth 107 (2 / Tryz.prog.cellsOf 107) 0 107 1 = true := by kernel_rfl
theorem infoByte : (Tryz.prog.info? 5).map (fun i => (i.zero, i.size, i.bytes)) = some (some (.int .u8 0), 1, 1) := by kernel_rfl
theorem nZ (b : Nat) (w : World) (h0 : w.cell? ⟨b, 0, none⟩ = some (.pointer (some ⟨b, 0, none⟩))) :
  YC 161 #[.pointer (some ⟨b, 0, none⟩)] w fun e w' => e = .returned (.tuple #[]) ∧ w' = w := by
 obtain ⟨j, hj, _⟩ := Option.map_eq_some_iff.1 sizeBuilder
 go_enter Tryz.func161, Tryz.ntmps161
 go_wp2
 rw [Lib.run_neq_ptr_same w _ Tryz.underlying105 hj]
 go_wp2
 go_end0
 exact ⟨rfl, rfl⟩
theorem n5 (b : Nat) (w : World) (h0 : w.cell? ⟨b, 0, none⟩ = some (.pointer none)) (hsh : w.shape? b = some (107, 2)) (hfz : w.frozen? ⟨b, 0, none⟩ = false) :
  YC 161 #[.pointer (some ⟨b, 0, none⟩)] w fun e w' => e = .returned (.tuple #[]) ∧ w' = w.setCell ⟨b, 0, none⟩ (.pointer (some ⟨b, 0, none⟩)) := by
 obtain ⟨j, hj, hjs⟩ := Option.map_eq_some_iff.1 sizeBuilder
 go_enter Tryz.func161, Tryz.ntmps161
 go_wp2
 rw [Lib.run_to_unsafe w ⟨b, 0, none⟩ Tryz.underlying105 Tryz.underlying225 hj (by rw [hjs]; decide) hsh (Nat.zero_lt_succ 1)]
 simp only [Result.andThen]
 rw [Oper.upon_value]
 go_wp2
 rw [run_callFunc_extern Tryz.func194 Kr Kr Kr (e := Extern.AbiNoEscape.same) Kr]
 rw [Lib.run_noEscape]
 simp only [Result.andThen]
 rw [Oper.upon_value]
 go_wp2
 rw [Lib.run_from_unsafe w ⟨b, 0, none⟩ Tryz.underlying225 Tryz.underlying105 hj hsh liesBuilder]
 simp only [Result.andThen]
 rw [Oper.upon_value]
 go_wp2
 go_end0
 exact ⟨rfl, rfl⟩
theorem t6 (B b : Nat) (bs : List Value) (w : World) (h : Lib.IsBuilder 107 5 B b bs w) :
  YC 161 #[.pointer (some ⟨b, 0, none⟩)] w fun e w' => e = .returned (.tuple #[]) ∧ (Lib.BuilderAt 107 5 B b (.pointer (some ⟨b, 0, none⟩)) bs w' ∧ Below B w w') := by
 rcases h with h | h
 ·refine (n5 b w h.cell0 h.shape h.frozen0).mono ?_
  rintro e w' ⟨rfl, rfl⟩
  exact ⟨rfl, h.used _, (Below.refl B w).setCell (p := ⟨b, 0, none⟩) h.1 _⟩
 ·refine (nZ b w h.cell0).mono ?_
  rintro e w' ⟨rfl, rfl⟩
  exact ⟨rfl, h, Below.refl B _⟩
theorem writeByte_any (B b : Nat) (bs : List Value) (c : Int) (w : World) (h : Lib.IsBuilder 107 5 B b bs w) (hlen : bs.length + 1 ≤ 140737488355328) (hBw : B ≤ w.heap.size) :
  YC 124 #[.pointer (some ⟨b, 0, none⟩), .int .u8 c] w fun e w' => e = .returned .nilIface ∧ (Lib.BuilderAt 107 5 B b (.pointer (some ⟨b, 0, none⟩)) (bs ++ [.int .u8 c]) w' ∧ Below B w w') := by
 obtain ⟨i0, hi, hz0, hz1, hz2⟩ := info_parts infoByte
 go_enter Tryz.func124, Tryz.ntmps124
 go_wp2_with (go_at_call 161; refine (t6 B b bs _ h).mono ?_)
 rintro e w1 ⟨rfl, h1, hb1⟩
 obtain ⟨hB, v, hbk, hown, hne⟩ := h1
 have c0 : w1.cell? ⟨b, 0, none⟩ = some (.pointer (some ⟨b, 0, none⟩)) := by rw [Lib.cell_of_heap hbk]; rfl
 have c1 : w1.cell? ⟨b, 1, none⟩ = some v := by rw [Lib.cell_of_heap hbk]; rfl
 go_wp2_with (at_builtin; refine gX _ rfl _ _ 52 rfl B 5 i0 (.int .u8 0) 1 1 Tryz.underlying52 hi hz0 hz1 hz2 rfl (by decide) _ _ _ rfl (hown.alloc _) ⟨w1.heap.size, 0, none⟩ 1 1 [.int .u8 c] rfl rfl ?c1 ?c2 ?c3 ?c4 ?c5 ?_)
 case c1 =>
  intro j u hj
  match j, hj with
  | 0, hj => simp at hj; subst hj; simp [Addr.add]
 case c2 => intro u hu; simp at hu; subst hu; rfl
 case c3 => unfold maxLen; omega
 case c4 => omega
 case c5 => have := hb1.size; simp; omega
 intro v' w2 hown' hgrow _
 have hlt : b < w1.heap.size := by
  rcases Nat.lt_or_ge b w1.heap.size with h' | h'
  ·exact h'
  ·simp [Array.getElem?_eq_none h'] at hbk
 have hb2 : w2.heap[b]? = some (.cells #[.pointer (some ⟨b, 0, none⟩), v] 107 (0, 0)) := by
  rw [hgrow.old.block b (by simp; omega) (fun e => hne e.symm), Lib.alloc_old w1 _ b hlt]
  exact hbk
 have d0 : w2.cell? ⟨b, 0, none⟩ = some (.pointer (some ⟨b, 0, none⟩)) := by rw [Lib.cell_of_heap hb2]; rfl
 have d1 : w2.cell? ⟨b, 1, none⟩ = some v := by rw [Lib.cell_of_heap hb2]; rfl
 have f1 : w2.frozen? ⟨b, 1, none⟩ = false := Lib.frozen_of_heap hb2 1
 obtain ⟨g, cap, rfl⟩ : ∃ g cap, v' = .slice (some ⟨g, 0, none⟩) (bs.length + 1) cap := by
  rcases hown'.2 with ⟨_, h0⟩ | ⟨g, cap, cur, hv, _⟩
  ·omega
  ·exact ⟨g, cap, hv⟩
 go_wp2
 go_ret
 refine ⟨rfl, ?_, ?_⟩
 ·exact Lib.BuilderAt.put (T := 107) (e := 5) hB hb2 (bs' := bs ++ [.int .u8 c]) (by simpa using hown') (by decide)
 ·exact ((hb1.alloc (by have := hb1.size; omega) _).grown hgrow (by have := hb1.size; simp; omega) (fun k hk => (hown.lt k hk).1)).setCell (p := ⟨b, 1, none⟩) hB _
theorem gJ (B b : Nat) (bs : List Value) (s : ByteArray) (w : World) (h : Lib.IsBuilder 107 5 B b bs w) (hlen : bs.length + s.size ≤ 140737488355328) (hBw : B ≤ w.heap.size) :
  YC 122 #[.pointer (some ⟨b, 0, none⟩), .string s] w fun e w' => e = .returned (.tuple #[YI s.size, .nilIface]) ∧ (Lib.BuilderAt 107 5 B b (.pointer (some ⟨b, 0, none⟩)) (bs ++ Lib.strCells s) w' ∧ Below B w w') := by
 obtain ⟨i0, hi, hz0, hz1, hz2⟩ := info_parts infoByte
 go_enter Tryz.func122, Tryz.ntmps122
 go_wp2_with (go_at_call 161; refine (t6 B b bs _ h).mono ?_)
 rintro e w1 ⟨rfl, h1, hb1⟩
 obtain ⟨hB, v, hbk, hown, hne⟩ := h1
 have c0 : w1.cell? ⟨b, 0, none⟩ = some (.pointer (some ⟨b, 0, none⟩)) := by rw [Lib.cell_of_heap hbk]; rfl
 have c1 : w1.cell? ⟨b, 1, none⟩ = some v := by rw [Lib.cell_of_heap hbk]; rfl
 go_wp2_with (at_builtin; refine wp_append_text rfl _ _ 52 9 rfl B 5 i0 Tryz.underlying52 Tryz.underlying9 hi hz0 hz1 hz2 _ _ _ rfl hown s rfl ?c3 ?c4 ?c5 ?_)
 case c3 => unfold maxLen; omega
 case c4 => omega
 case c5 => have := hb1.size; omega
 intro v' w2 hown' hgrow
 have hlt : b < w1.heap.size := by
  rcases Nat.lt_or_ge b w1.heap.size with h' | h'
  ·exact h'
  ·simp [Array.getElem?_eq_none h'] at hbk
 have hb2 : w2.heap[b]? = some (.cells #[.pointer (some ⟨b, 0, none⟩), v] 107 (0, 0)) := by
  rw [hgrow.old.block b hlt (fun e => hne e.symm)]
  exact hbk
 have d0 : w2.cell? ⟨b, 0, none⟩ = some (.pointer (some ⟨b, 0, none⟩)) := by rw [Lib.cell_of_heap hb2]; rfl
 have d1 : w2.cell? ⟨b, 1, none⟩ = some v := by rw [Lib.cell_of_heap hb2]; rfl
 have f1 : w2.frozen? ⟨b, 1, none⟩ = false := Lib.frozen_of_heap hb2 1
 obtain ⟨ao, n', cap, rfl⟩ : ∃ ao n' cap, v' = .slice ao n' cap := by
  rcases hown'.2 with ⟨hv, _⟩ | ⟨g, cap, cur, hv, _⟩
  ·exact ⟨_, _, _, hv⟩
  ·exact ⟨_, _, _, hv⟩
 go_wp2
 go_ret2
 refine ⟨rfl, ?_, ?_⟩
 ·exact Lib.BuilderAt.put (T := 107) (e := 5) hB hb2 (bs' := bs ++ Lib.strCells s) (by simpa [Lib.strCells_length] using hown') (by decide)
 ·exact (hb1.grown hgrow (by have := hb1.size; omega) (fun k hk => (hown.lt k hk).1)).setCell (p := ⟨b, 1, none⟩) hB _
theorem byteCells_ne {l : List UInt8} (h : l ≠ []) : (Lib.byteCells l).length ≠ 0 := by
 rw [Lib.byteCells_length]; exact fun e => h (List.eq_nil_of_length_eq_zero e)
theorem string_any (B b : Nat) (l : List UInt8) (w : World) (h : Lib.IsBuilder 107 5 B b (Lib.byteCells l) w) (h0 : l ≠ []) :
  YC 78 #[.pointer (some ⟨b, 0, none⟩)] w fun e w' => e = .returned (.string ⟨l.toArray⟩) ∧ Below B w w' := by
 obtain ⟨p, hB, v, hbk, hown, hne⟩ : ∃ p, Lib.BuilderAt 107 5 B b p (Lib.byteCells l) w := h.elim (fun q => ⟨_, q⟩) (fun q => ⟨_, q⟩)
 rcases hown.2 with ⟨_, hz⟩ | ⟨g, cap, cur, rfl, hbg, hg, hnc, hcm, hcs, htake⟩
 ·exact absurd hz (byteCells_ne h0)
 rw [Lib.byteCells_length] at hown hnc hbk htake
 have hl0 : l.length ≠ 0 := fun e => h0 (List.eq_nil_of_length_eq_zero e)
 have hg' : w.drew.heap[g]? = some (.cells cur 5 (0, 0)) := hg
 have c1 : w.drew.cell? ⟨b, 1, none⟩ = some (.slice (some ⟨g, 0, none⟩) l.length cap) := by
  rw [Lib.cell_of_heap (show w.drew.heap[b]? = _ from hbk)]; rfl
 have hSD := Lib.run_unsafeSliceData_row (P := Tryz.prog) w.drew #[52] 166 ⟨g, 0, none⟩ l.length cap Om
 have hUS := Lib.run_unsafeString_row (P := Tryz.prog) w.drew 166 3 9 5 Tryz.underlying166 Kr g cur.size (by unfold World.shape?; rw [hg']) l h0 Om (by unfold maxLen at hcm; omega)
  (fun j x hx => hown.cells (g := g) rfl j (.int .u8 x.toNat) (by simp [Lib.byteCells, hx]))
 go_enter Tryz.func78, Tryz.ntmps78
 go_wp2
 have mixed : Tryz.prog.follows .mixedOrders = true := by kernel_rfl
 go_region_o
 all_goals
  go_wp2
  go_ret
  have hf := Lib.below_freeze (Go.RowKit.Below.drew (Go.RowKit.Below.refl B w)) (p := ⟨g, 0, none⟩) hbg l.length
  exact ⟨rfl, hf.os, hf.tape, hf.output, hf.size, by rw [freeze_draws]; exact Nat.le_succ _, hf.block⟩
end
section
def HasTab (w : World) : Prop := Lib.TabBelow Tryz.prog w.heap.size w "internal/strconv.uint64pow10" .u64 Lib.pow10Tab
theorem HasTab.on {w w' : World} (h : HasTab w) (hb : Below w.heap.size w w') : HasTab w' := fun w2 hb2 => h w2 (hb.old.trans (hb2.mono hb.size))
theorem below_growD (w : World) (k : Nat) (os : Array Obj) : Below w.heap.size w (Go.Sort.grow (w.drewN k) os) :=
 have h := Lib.below_grow w.heap.size w (Nat.le_refl _) k os
 ⟨h.os, h.tape, h.output, h.size, (below_drewN (Below.refl w.heap.size w) k).drawn, h.block⟩
def digS (n : Int) : ByteArray := ⟨(Lib.itoa n).toArray⟩
theorem digits_any (n : Int) (h0 : -9223372036854775808 ≤ n) (h1 : n ≤ 9223372036854775807) (w : World) (ht : HasTab w) :
  YC 125 #[YI n] w (YR (.string (digS n)) w) := by
 have H := Lib.hid ht
 clear ht
 go_enter Tryz.func125, Tryz.ntmps125
 go_wp2_with (go_at_call 162; refine (Tryz.strconv_Itoa n h0 h1 _ H.out.here).mono ?_; rintro e w' ⟨rfl, k, os, rfl⟩)
 go_ret
 exact ⟨rfl, below_growD _ _ _⟩
theorem tY {a b : ByteArray} (h : a = b) : Ending.returned (.string a) = .returned (.string b) := by rw [h]
def one (x : Int) : ByteArray := ⟨#[UInt8.ofNat x.toNat]⟩
def decS (n : Nat) : ByteArray := ⟨(Lib.decDigits n).toArray⟩
end
section
theorem joinL_snoc (b : UInt8) (P : List (List UInt8)) (x : List UInt8) : zG b (P ++ [x]) = if P = [] then x else zG b P ++ b :: x := by
 induction P with
 | nil => rfl
 | cons y r ih =>
  rw [if_neg (by simp)]
  cases r with
  | nil => rfl
  | cons z r2 =>
   rw [List.cons_append, List.cons_append, zG, ← List.cons_append, ih, if_neg (by simp), zG, List.append_assoc]; rfl
theorem joinL_take_le (b : UInt8) (l : List (List UInt8)) : ∀ k, (zG b (l.take k)).length ≤ (zG b l).length := by
 intro k
 induction l generalizing k with
 | nil => simp
 | cons y r ih =>
  cases k with
  | zero => simp [zG]
  | succ k =>
   cases r with
   | nil => simp
   | cons z r2 =>
    cases k with
    | zero => simp [zG]
    | succ k =>
     have := ih (k + 1)
     rw [List.take_succ_cons] at this ⊢
     rw [List.take_succ_cons, zG, zG]
     simp only [List.length_append, List.length_cons]
     omega
def ReadsT (w : World) (B : Nat) (v : Value) (l : List (List UInt8)) : Prop :=
 ∃ A cap, v = .slice A l.length cap ∧ (0 < l.length → ∃ ad : Addr, A = some ad ∧ ad.block < B ∧ ∀ j (h : j < l.length), w.cell? (ad.add j) = some (.string (mkS l[j])))
theorem addr_block (a : Addr) (n : Nat) : (a.add n).block = a.block := by unfold Addr.add; split <;> rfl
theorem ReadsT.of_own {w : World} {base : Nat} {e : TypeId} {v : Value} {l : List (List UInt8)} (h : w.ownsRow base e 1 v l.length (qP l)) : ReadsT w w.heap.size v l := by
 rcases h.2 with ⟨rfl, h0⟩ | ⟨g, cap, cur, rfl, hg, hh, hn, _⟩
 ·exact ⟨none, 0, by rw [h0], fun hpos => by omega⟩
 ·refine ⟨some ⟨g, 0, none⟩, cap, rfl, fun hpos => ⟨⟨g, 0, none⟩, rfl, (Array.getElem?_eq_some_iff.1 hh).1, fun j hj => ?_⟩⟩
  exact h.cells (g := g) rfl j _ (by unfold qP; rw [List.getElem?_map, List.getElem?_eq_getElem hj]; rfl)
theorem take_snocL (l : List (List UInt8)) (k : Nat) (h : k < l.length) : l.take (k + 1) = l.take k ++ [l[k]] := by
 rw [List.take_succ_eq_append_getElem h]
theorem tV (l : List (List UInt8)) (k : Nat) (h : k < l.length) (h0 : 0 < k) : l.take k ≠ [] := by
 intro e; have := congrArg List.length e; rw [List.length_take, List.length_nil] at this; omega
theorem byteCells_one (c : UInt8) : Lib.byteCells [c] = [.int .u8 (c.toNat : Int)] := rfl
theorem wC (l : List UInt8) : Lib.strCells (mkS l) = Lib.byteCells l := rfl
theorem bc_join (x y : List UInt8) (b : UInt8) : Lib.byteCells (x ++ b :: y) = Lib.byteCells x ++ [.int .u8 (b.toNat : Int)] ++ Lib.strCells (mkS y) := by
 rw [wC, ← byteCells_one, ← Lib.byteCells_append, ← Lib.byteCells_append, List.append_assoc]; rfl
theorem jD (v : Value) (l : List (List UInt8)) (b : UInt8) (w : World) (hv : ReadsT w w.heap.size v l) (hl : (zG b l).length ≤ 1000000000) (hn : l.length ≤ 1000000000) (hne : zG b l ≠ []) :
  YC 123 #[v, .int .u8 b.toNat] w (YR (.string (mkS (zG b l))) w) := by
 obtain ⟨A, cap, rfl, hcell⟩ := hv
 go_enter Tryz.func123, Tryz.ntmps123
 go_wp2
 go_loopw [10] (fun iv wr => ∃ (k : Nat), iv = YI k ∧ k ≤ l.length ∧ Lib.IsBuilder 107 5 w.heap.size w.heap.size (Lib.byteCells (zG b (l.take k))) wr ∧ Below w.heap.size w wr) (fun iv _ => l.length - (intOf iv).toNat)
 case atStart => exact ⟨0, rfl, Nat.zero_le _, Lib.fresh_isBuilder 107 5 w, (Below.refl _ _).alloc (Nat.le_refl _) _⟩
 case round =>
  obtain ⟨k, rfl, hk, hI, hb⟩ := hrel
  have hsz := hb.size
  by_cases hp : k < l.length
  ·obtain ⟨ad, rfl, hlt, hc⟩ := hcell Om
   have hck : wr.cell? (ad.add k) = some (.string (mkS l[k])) := (hb.cell (by rw [addr_block]; exact hlt)).trans (hc k hp)
   have hln : (zG b (l.take (k + 1))).length ≤ 1000000000 := Nat.le_trans (joinL_take_le b l (k + 1)) hl
   have HJ := Lib.hid (joinL_snoc b (l.take k) l[k])
   rw [← take_snocL l k hp] at HJ
   clear hc hcell
   by_cases h0 : k = 0
   ·subst h0
    have hx2 : (mkS l[0]).size ≤ 1000000000 := by
     rw [mkS_size]; rw [HJ.out, if_pos List.take_zero] at hln; exact hln
    have hck0 : wr.cell? ad = some (.string (mkS l[0])) := hck
    clear hck
    go_wp2_with (go_at_call 122; refine (gJ w.heap.size w.heap.size _ (mkS l[0]) _ hI ?_ hsz).mono ?_)
    ·rw [Lib.byteCells_length]; simp [zG]; omega
    rintro e w1 ⟨rfl, h1, hb1⟩
    go_wp2
    go_roundw
    case rel => exact ⟨0 + 1, by go_num, by omega, by rw [HJ.out, if_pos List.take_zero]; exact Or.inr h1, hb.trans hb1⟩
    case measure => simp [intOf]; omega
   ·have h0p : 0 < k := by omega
    have hlen : (zG b (l.take k)).length + (l[k].length + 1) ≤ 1000000000 := by
     rw [HJ.out, if_neg (tV l k hp h0p), List.length_append, List.length_cons] at hln; exact hln
    go_wp2_with (go_at_call 124; refine (writeByte_any w.heap.size w.heap.size _ _ _ hI ?_ hsz).mono ?_)
    ·rw [Lib.byteCells_length]; omega
    rintro e w1 ⟨rfl, h1, hb1⟩
    have hsz1 := (hb.trans hb1).size
    go_wp2_with (go_at_call 122; refine (gJ w.heap.size w.heap.size _ (mkS l[k]) _ (Or.inr h1) ?_ hsz1).mono ?_)
    ·rw [List.length_append, Lib.byteCells_length, mkS_size]; simp; omega
    rintro e w2 ⟨rfl, h2, hb2⟩
    go_wp2
    go_roundw
    case rel => exact ⟨k + 1, by go_num, by omega, by rw [HJ.out, if_neg (tV l k hp h0p), bc_join]; exact Or.inr h2, (hb.trans hb1).trans hb2⟩
    case measure => simp [intOf]; omega
  ·obtain rfl : k = l.length := by omega
   go_wp2_with (go_at_call 78; refine (string_any w.heap.size w.heap.size _ _ hI (by rw [List.take_length]; exact hne)).mono ?_)
   rintro e w1 ⟨rfl, hb1⟩
   go_wp2
   go_ret
   exact ⟨tY rfl, hb.trans hb1⟩
theorem SlT.readsT {v : Value} {l : List (List UInt8)} {ob L : List Blk} {M : List Nat} {W w : World} (h : SlT v l ob) (hO : Own M W w L) (hs : ∀ x ∈ ob, x ∈ L) : ReadsT w w.heap.size v l := by
 obtain ⟨A, cap, rfl⟩ := h.form
 refine ⟨A, cap, rfl, fun h0 => ?_⟩
 obtain ⟨b, off, e, hlt, hc⟩ := SlT.reads h rfl hO hs h0
 refine ⟨⟨b, off, none⟩, e, hlt, fun j hj => ?_⟩
 rw [yX]
 refine hc j _ ?_
 rw [← kI]
 unfold qP
 rw [List.getElem?_map, List.getElem?_eq_getElem hj]; rfl
end
section
theorem infoByte9 : (Tryz.prog.info? 5).map (fun i => (i.zero.map (·.cells.size), i.size, i.bytes)) = some (some 1, 1, 1) := by kernel_rfl
theorem byte_info : ∃ i z, Tryz.prog.info? 5 = some i ∧ i.zero = some z ∧ i.size = 1 ∧ z.cells.size = 1 ∧ i.bytes = 1 := by
 have h := infoByte9
 cases hi : Tryz.prog.info? 5 with
 | none => rw [hi] at h; cases h
 | some i =>
  rw [hi] at h
  simp only [Option.map_some, Option.some.injEq, Prod.mk.injEq] at h
  cases hz : i.zero with
  | none => rw [hz] at h; simp at h
  | some z => rw [hz] at h; simp at h; exact ⟨i, z, rfl, hz, h.2.1, h.1, h.2.2⟩
theorem empty_of {s : ByteArray} (h : (s.size : Int) = 0) : s = ⟨#[]⟩ := by
 have h2 : s.data.size = 0 := Int.ofNat.inj h
 exact ByteArray.ext (Array.eq_empty_of_size_eq_zero h2)
theorem sclone_any (s : ByteArray) (w : World) (hs : s.size ≤ 281474976710656) :
  YC 94 #[.string s] w (YR (.string s) w) := by
 refine Z2 (n := 18) Tryz.func94 rfl (ZO (Zv (.string ⟨#[]⟩) (ZN (zH (ZO (Zv (.string s) (Zv (YI ((s).size)) ?_)))))))
 by_cases h1 : ((s).size : Int) = 0
 ·refine Zg h1 (ZY (ZO (Zv (.string ⟨#[]⟩) (ZN (zN (z7 (ZF (.string ⟨#[]⟩) Tryz.results94 ?_)))))))
  exact fun w hO => ⟨by rw [empty_of (s := s) (by assumption)], hO.below⟩
 refine Zh h1 (ZX (ZB (ZO (Zv (.string s) (Zv (YI ((s).size)) ?_)))))
 obtain ⟨i, z, e1, e2, e3, e4, e5⟩ := byte_info
 refine s_make (kl := .i64) (kc := .i64) (l := (s.size : Int)) (c := (s.size : Int)) Kr rfl Kr Kr Tryz.underlying52 e1 e2 Om Om (by rw [e5]; omega) Om (fun b => ?_)
 rw [show ((s.size : Nat) : Int).toNat = s.size from rfl]
 obtain ⟨cs, hcs⟩ : ∃ cs, cs = madeCells z.cells (s.size * i.size) := ⟨_, rfl⟩
 have hcz : cs.size = s.size := by rw [hcs, size_madeCells, e3]; simp
 rw [← hcs]
 refine Zv (.slice (some ⟨b, 0, none⟩) s.size s.size) (ZR (Zv (.slice (some ⟨b, 0, none⟩) s.size s.size) (Zv (.string s) (s_copyS (b := b) (cap := s.size) (s := s) (cs := cs) Kr rfl Kr Kr Tryz.underlying52 Kr hcz (ZN (zH (zF ?_)))))))
 exact Zv (.slice (some ⟨b, 0, none⟩) s.size s.size) (yO (Zp b 0) Kr (ZV (b := b) (off := 0) (n := s.size) (c := s.size) (k := .i64) (j := 0) (e := 5) (sz := 1)) (Zv (.slice (some ⟨b, 0, none⟩) s.size s.size) (Zv (YI (s.size : Int)) (s_ustr (s := s) Kr rfl Kr Kr Tryz.underlying166 (by unfold Program.cellsOf; simp [e1, e3]) Om Om (Zv (.string s) (ZN (zN (ZF (.string s) Tryz.results94 (fun w hO => ⟨rfl, hO.below⟩)))))))))
theorem m4 (s : ByteArray) (w : World) (hs : s.size ≤ 281474976710656) :
  YC 42 #[.string s] w (YR (.string s) w) := by
 refine Z2 (n := 5) Tryz.func42 rfl (ZO (Zv (.string ⟨#[]⟩) (ZR (Zv (.string s) (Zc (k := 94) (args := #[.string s]) (.string s) (fun w _ => sclone_any s w hs) (Zv (.string s) (y8 ?_)))))))
 exact zJ (zN (ZF (.string s) Tryz.results42 (fun w hO => ⟨rfl, hO.below⟩)))
end
section
def nX (a b c : Int) : List (List UInt8) := [Lib.itoa a, Lib.itoa b, Lib.itoa c]
theorem digs_snoc (a b c : Int) (k : Nat) (hk : k < 3) : (nX a b c).take (k + 1) = (nX a b c).take k ++ [Lib.itoa (qV a b c k)] := by
 match k, hk with
 | 0, _ => rfl
 | 1, _ => rfl
 | 2, _ => rfl
theorem fS (a b c : Int) : zG 46 (nX a b c) = Lib.itoa a ++ 46 :: (Lib.itoa b ++ 46 :: Lib.itoa c) := rfl
theorem digits_mk (n : Int) (h0 : -9223372036854775808 ≤ n) (h1 : n ≤ 9223372036854775807) (w : World) (ht : HasTab w) :
  YC 125 #[YI n] w (YR (.string (mkS (Lib.itoa n))) w) := digits_any n h0 h1 w ht
theorem dec_len (n : Nat) (h : n ≤ 9999) : (Lib.decDigits n).length ≤ 4 := by
 rw [Lib.decDigits_length]
 unfold Lib.nDigits
 split
 ·omega
 ·unfold Lib.nDigits
  split
  ·omega
  ·unfold Lib.nDigits
   split
   ·omega
   ·rw [Lib.nDigits_small Om]; omega
theorem itoa_len {n : Int} (h : zW n = true) : (Lib.itoa n).length ≤ 4 := by
 rw [nT h]
 apply dec_len
 unfold zW at h; simp at h; omega
theorem nums_len {a b c : Int} (h1 : zW a = true) (h2 : zW b = true) (h3 : zW c = true) : (zG 46 (nX a b c)).length ≤ 14 := by
 rw [fS]
 have := itoa_len h1; have := itoa_len h2; have := itoa_len h3
 simp; omega
theorem print_good (v : Ver) (w : World) (hp : v.pre.length ≤ 1000000) (hq : v.build.length ≤ 1000000) (hm : v.may = true) (ht : HasTab w) :
  YC 75 #[kV v] w (YR (.string (mkS v.text)) w) := by
 obtain ⟨i0, hi, hz0, hz1, hz2⟩ := info_parts infoStr
 have cM := fun w' => may_any v w' Om Om
 have cN := fun w' => numbers_any v w'
 obtain ⟨n1, n2, n3⟩ := gL hm
 have hT : v.text = zG 46 (nX v.maj v.min v.pat) ++ kE 45 v.pre ++ kE 43 v.build := rfl
 obtain ⟨a, b, c, p, q⟩ := v
 rw [hm] at cM
 unfold kV at cN cM ⊢
 dsimp only at cN cM hp hq n1 n2 n3 hT ⊢
 have hjl := nums_len n1 n2 n3
 have HT := Lib.hid hT
 have H1 := Lib.hid n1
 have H2 := Lib.hid n2
 have H3 := Lib.hid n3
 clear hT hm n1 n2 n3
 go_enter Tryz.func75, Tryz.ntmps75
 go_wp2_with (first
  | (go_at_call 30; refine (cM _).mono ?_; rintro e w1 ⟨rfl, hb1⟩; have hg1 := Lib.hid ((hb1.block w.heap.size (by simp)).trans (fT w _)))
  | (refine wpList_load_row rfl 23 _ rfl w.heap.size rfl _ _ _ _ hg1.out Tryz.underlying23 rfl Kr ?_)
  | (go_at_call 62; refine (cN _).mono ?_; rintro e w2 ⟨rfl, hb2⟩))
 have hbw1 : Below w.heap.size w w1 := ((Below.refl _ _).alloc (Nat.le_refl _) _).trans (hb1.mono (by simp))
 have hsw : w.heap.size < w1.heap.size := by have := hb1.size; rw [wG] at this; omega
 have hsw2 : w.heap.size < w2.heap.size := Nat.lt_of_lt_of_le hsw hb2.size
 have hg2 := Lib.hid ((hb2.block w.heap.size hsw).trans hg1.out)
 have ht2 : HasTab w2 := (ht.on hbw1).on hb2
 go_loopw [3, 12] (fun v x wr => ∃ k : Nat, k ≤ 3 ∧ x = YI k ∧ wr.ownsRow w2.heap.size 9 1 v k (qP ((nX a b c).take k)) ∧ Below w2.heap.size w2 wr) (fun _ x _ => 3 - (intOf x).toNat)
 case atStart => exact ⟨0, by omega, rfl, ⟨rfl, Or.inl ⟨rfl, rfl⟩⟩, Below.refl _ _⟩
 case round =>
  obtain ⟨k, hk, rfl, hown, hbel⟩ := hrel
  have hsz := hbel.size
  by_cases hk3 : k < 3
  ·have hki : (k : Int) < 3 := by omega
   have hix : ∀ w, (Instr.index 93 (.agg #[YI a, YI b, YI c]) (YI k)).run Tryz.prog w = .ok (YI (qV a b c k)) w := ix_num a b c k hk3
   have hnb : 0 ≤ qV a b c k ∧ qV a b c k ≤ 9999 := by
    have h1 := H1.out; have h2 := H2.out; have h3 := H3.out
    unfold zW at h1 h2 h3; simp at h1 h2 h3
    unfold qV; split
    ·exact h1
    ·split
     ·exact h2
     ·exact h3
   obtain ⟨hn0, hn9⟩ := hnb
   go_wp2_with (first
    | (go_at_call 125; refine (digits_mk _ Om Om _ (ht2.on hbel)).mono ?_; rintro e w3 ⟨rfl, hb3⟩; have hown3 := dW hown hb3; have hsz3 := hb3.size)
    | (at_builtin; refine gX _ rfl _ _ 58 rfl w2.heap.size 9 i0 (.string ByteArray.empty) 1 16 Tryz.underlying58 hi hz0 hz1 hz2 rfl (by decide) _ _ _ rfl (hown3.alloc _) ⟨w3.heap.size, 0, none⟩ 1 1 [.string (mkS (Lib.itoa (qV a b c k)))] rfl rfl ?c1 ?c2 ?c3 ?c4 ?c5 ?_))
   case c1 =>
    intro j u hj
    match j, hj with
    | 0, hj => simp at hj; subst hj; simp [Addr.add]
   case c2 => intro u hu; simp at hu; subst hu; rfl
   case c3 => unfold maxLen; omega
   case c4 => omega
   case c5 => simp; omega
   intro v' w5 hown' hgrow _
   go_wp2
   go_roundw
   case rel =>
    refine ⟨k + 1, by omega, by go_num, ?_, ((hbel.trans (hb3.mono hsz)).alloc Om _).grown hgrow (by simp; omega) (fun k hk => (hown3.lt k hk).1)⟩
    rw [digs_snoc a b c k hk3, strV_snoc]; exact hown'
   case measure => simp [intOf]; omega
  ·obtain rfl : k = 3 := by omega
   have hki : ¬ (((3 : Nat) : Int) < 3) := by omega
   have hrd := ReadsT.of_own (l := nX a b c) hown
   have hg3 := Lib.hid ((hbel.block w.heap.size hsw2).trans hg2.out)
   have hbww : Below w.heap.size w w2 := hbw1.trans (hb2.mono Om)
   have hj0 : (mkS (zG 46 (nX a b c))).size ≤ 14 := by rw [yC]; exact hjl
   have hp0 : (mkS p).size ≤ 1000000 := by rw [yC]; exact hp
   have hq0 : (mkS q).size ≤ 1000000 := by rw [yC]; exact hq
   have hp1 : ((⟨#[45]⟩ : ByteArray) ++ mkS p).size ≤ 1000001 := by rw [ByteArray.size_append]; show 1 + _ ≤ _; omega
   have hq1 : ((⟨#[43]⟩ : ByteArray) ++ mkS q).size ≤ 1000001 := by rw [ByteArray.size_append]; show 1 + _ ≤ _; omega
   have hjp : (mkS (zG 46 (nX a b c)) ++ ((⟨#[45]⟩ : ByteArray) ++ mkS p)).size ≤ 1000015 := by rw [ByteArray.size_append]; omega
   by_cases hpe : p = []
   ·have hpb : (mkS p).toList.isEmpty = true := by rw [Lib.toList_data, mk_data, hpe]; rfl
    have HPT := Lib.hid (show kE 45 p = [] by rw [hpe]; rfl)
    clear hpe
    by_cases hqe : q = []
    ·have hqb : (mkS q).toList.isEmpty = true := by rw [Lib.toList_data, mk_data, hqe]; rfl
     have HQT := Lib.hid (show kE 43 q = [] by rw [hqe]; rfl)
     clear hqe
     go_wp2_with (go_at_call 123; refine (jD _ (nX a b c) 46 _ hrd Om (by simp [nX]) (by rw [fS]; simp)).mono ?_; rintro e w4 ⟨rfl, hb4⟩; obtain ⟨c3, f3⟩ := gO (j := 3) ((hb4.block w.heap.size Om).trans hg3.out) (by simp); obtain ⟨c4, f4⟩ := gO (j := 4) ((hb4.block w.heap.size Om).trans hg3.out) (by simp); simp only [List.getElem_toArray, List.getElem_cons_succ, List.getElem_cons_zero] at c3 c4)
     go_ret
     exact ⟨tY (by rw [HT.out, HPT.out, HQT.out]; simp), (hbww.trans (hbel.mono Om)).trans (hb4.mono Om)⟩
    ·have hqb : (mkS q).toList.isEmpty = false := by rw [Lib.toList_data, mk_data]; exact List.isEmpty_eq_false_iff.2 hqe
     have HQT := Lib.hid (show kE 43 q = 43 :: q by unfold kE; rw [if_neg (by simpa using hqe)])
     clear hqe
     go_wp2_with (go_at_call 123; refine (jD _ (nX a b c) 46 _ hrd Om (by simp [nX]) (by rw [fS]; simp)).mono ?_; rintro e w4 ⟨rfl, hb4⟩; obtain ⟨c3, f3⟩ := gO (j := 3) ((hb4.block w.heap.size Om).trans hg3.out) (by simp); obtain ⟨c4, f4⟩ := gO (j := 4) ((hb4.block w.heap.size Om).trans hg3.out) (by simp); simp only [List.getElem_toArray, List.getElem_cons_succ, List.getElem_cons_zero] at c3 c4)
     go_ret
     exact ⟨tY (by rw [HT.out, HPT.out, HQT.out, show (⟨#[43]⟩ : ByteArray) = mkS [43] from rfl, gH, gH]; simp), (hbww.trans (hbel.mono Om)).trans (hb4.mono Om)⟩
   ·have hpb : (mkS p).toList.isEmpty = false := by rw [Lib.toList_data, mk_data]; exact List.isEmpty_eq_false_iff.2 hpe
    have HPT := Lib.hid (show kE 45 p = 45 :: p by unfold kE; rw [if_neg (by simpa using hpe)])
    clear hpe
    by_cases hqe : q = []
    ·have hqb : (mkS q).toList.isEmpty = true := by rw [Lib.toList_data, mk_data, hqe]; rfl
     have HQT := Lib.hid (show kE 43 q = [] by rw [hqe]; rfl)
     clear hqe
     go_wp2_with (go_at_call 123; refine (jD _ (nX a b c) 46 _ hrd Om (by simp [nX]) (by rw [fS]; simp)).mono ?_; rintro e w4 ⟨rfl, hb4⟩; obtain ⟨c3, f3⟩ := gO (j := 3) ((hb4.block w.heap.size Om).trans hg3.out) (by simp); obtain ⟨c4, f4⟩ := gO (j := 4) ((hb4.block w.heap.size Om).trans hg3.out) (by simp); simp only [List.getElem_toArray, List.getElem_cons_succ, List.getElem_cons_zero] at c3 c4)
     go_ret
     exact ⟨tY (by rw [HT.out, HPT.out, HQT.out, show (⟨#[45]⟩ : ByteArray) = mkS [45] from rfl, gH, gH]; simp), (hbww.trans (hbel.mono Om)).trans (hb4.mono Om)⟩
    ·have hqb : (mkS q).toList.isEmpty = false := by rw [Lib.toList_data, mk_data]; exact List.isEmpty_eq_false_iff.2 hqe
     have HQT := Lib.hid (show kE 43 q = 43 :: q by unfold kE; rw [if_neg (by simpa using hqe)])
     clear hqe
     go_wp2_with (go_at_call 123; refine (jD _ (nX a b c) 46 _ hrd Om (by simp [nX]) (by rw [fS]; simp)).mono ?_; rintro e w4 ⟨rfl, hb4⟩; obtain ⟨c3, f3⟩ := gO (j := 3) ((hb4.block w.heap.size Om).trans hg3.out) (by simp); obtain ⟨c4, f4⟩ := gO (j := 4) ((hb4.block w.heap.size Om).trans hg3.out) (by simp); simp only [List.getElem_toArray, List.getElem_cons_succ, List.getElem_cons_zero] at c3 c4)
     go_ret
     exact ⟨tY (by rw [HT.out, HPT.out, HQT.out, show (⟨#[45]⟩ : ByteArray) = mkS [45] from rfl, show (⟨#[43]⟩ : ByteArray) = mkS [43] from rfl, gH, gH, gH, gH]; simp), (hbww.trans (hbel.mono Om)).trans (hb4.mono Om)⟩
theorem print_none (v : Ver) (w : World) (hp : v.pre.length ≤ 1000000) (hq : v.build.length ≤ 1000000) (hm : v.may = false) :
  YC 75 #[kV v] w (YR (.string (mkS [])) w) := by
 have cM := fun w' => may_any v w' Om Om
 rw [hm] at cM
 obtain ⟨a, b, c, p, q⟩ := v
 unfold kV at cM ⊢
 dsimp only at cM ⊢
 clear hm
 go_enter Tryz.func75, Tryz.ntmps75
 go_wp2_with (go_at_call 30; refine (cM _).mono ?_; rintro e w1 ⟨rfl, hb1⟩)
 go_ret
 exact ⟨rfl, ((Below.refl _ _).alloc (Nat.le_refl _) _).trans (hb1.mono (by simp))⟩
theorem vprint_any (v : Ver) (w : World) (hp : v.pre.length ≤ 1000000) (hq : v.build.length ≤ 1000000) (ht : HasTab w) :
  YC 75 #[kV v] w (YR (.string (mkS v.print)) w) := by
 cases hm : v.may with
 | true => rw [print_eq hm]; exact print_good v w hp hq hm ht
 | false => rw [print_bad hm]; exact print_none v w hp hq hm
end
section
def wM (s : List UInt8) : Ver := (mJ s).getD Ver.zero
def parE (s : List UInt8) : Int := if (mJ s).isSome then 0 else 5
theorem mkS_ne {a b : List UInt8} (h : a ≠ b) : ((mkS a).toList == (mkS b).toList) = false := by
 rw [Lib.toList_data, Lib.toList_data, mk_data, mk_data]; simpa using h
theorem mkS_eq {a b : List UInt8} (h : a = b) : ((mkS a).toList == (mkS b).toList) = true := by
 subst h; simp
theorem par_hit {s : List UInt8} (h : (fV s).print = s) : wM s = fV s ∧ parE s = 0 := by
 have := parse_eq s
 unfold parseI at this
 rw [if_pos h] at this
 unfold wM parE
 rw [← this]; exact ⟨rfl, rfl⟩
theorem par_miss {s : List UInt8} (h : ¬ (fV s).print = s) : wM s = Ver.zero ∧ parE s = 5 := by
 have := parse_eq s
 unfold parseI at this
 rw [if_neg h] at this
 unfold wM parE
 rw [← this]; exact ⟨rfl, rfl⟩
def PEnd (s : List UInt8) (w : World) (e : Ending) (w' : World) : Prop := e = .returned (.tuple #[kV (wM s), YI (parE s)]) ∧ Below w.heap.size w w'
theorem ver_one (a b c : Int) (p q : ByteArray) : (#[YI a, YI b, YI c, .string p, .string q] : Array Value).all (·.oneCell') = true := by simp [Value.oneCell']
theorem parse_done {s : List UInt8} {w wr : World} {v : Ver} {n : Int} {tmps : Array Value} {old : Array Value} (h2 : tmps.getD 2 undef = .pointer (some ⟨w.heap.size, 0, none⟩)) (h3 : tmps.getD 3 undef = YI n)
  (hg : wr.heap[w.heap.size]? = some (.cells old 23)) (hbel : Below w.heap.size w wr) (hv : wM s = v) (hn : parE s = n) :
  bodyPost Tryz.prog Tryz.f143 (PEnd s w) .ret ⟨tmps, []⟩ (wr.setRow w.heap.size (ZP v)) := by
 have hrow := setRow_heap wr w.heap.size _ (ZP v) _ _ hg
 have hr := run_loadVar_row (P := Tryz.prog) _ w.heap.size 23 23 _ _ _ hrow Tryz.underlying23 rfl Kr
 have h2' : tmps[2]?.getD undef = .pointer (some ⟨w.heap.size, 0, none⟩) := by simpa using h2
 have h3' : tmps[3]?.getD undef = YI n := by simpa using h3
 refine bodyPost_ret (v := .tuple #[kV v, YI n]) (by simp [results, Tryz.results143, asAddr, h2', h3', hr, kV]) rfl ⟨by rw [hv, hn], mT hbel (Nat.le_refl _) _⟩
theorem parse_any0 (s : List UInt8) (w : World) (hs : s.length ≤ 1000000) (ht : HasTab w) :
  YC 143 #[.string (mkS s)] w (PEnd s w) := by
 obtain ⟨s1, bl, f1, h1⟩ : ∃ a b c, z8 43 s = (a, b, c) := ⟨_, _, _, rfl⟩
 obtain ⟨s2, pr, f2, h2⟩ : ∃ a b c, z8 45 s1 = (a, b, c) := ⟨_, _, _, rfl⟩
 obtain ⟨ma, s3, f3, h3⟩ : ∃ a b c, z8 46 s2 = (a, b, c) := ⟨_, _, _, rfl⟩
 obtain ⟨mi, pa, f4, h4⟩ : ∃ a b c, z8 46 s3 = (a, b, c) := ⟨_, _, _, rfl⟩
 have l1 := wU 43 s
 have l2 := wU 45 s1
 have l3 := wU 46 s2
 have l4 := wU 46 s3
 rw [h1] at l1
 rw [h2] at l2
 rw [h3] at l3
 rw [h4] at l4
 dsimp only at l1 l2 l3 l4
 have hG : fV s = ⟨zK ma, zK mi, zK pa, pr, bl⟩ := by
  unfold fV; simp only [h1, h2, h3, h4]
 have c1 := fun w' => wT s 43 w' Om
 have c2 := fun w' => wT s1 45 w' Om
 have c3 := fun w' => wT s2 46 w' Om
 have c4 := fun w' => wT s3 46 w' Om
 rw [h1] at c1
 rw [h2] at c2
 rw [h3] at c3
 rw [h4] at c4
 dsimp only at c1 c2 c3 c4
 have cP := fun w' (h : HasTab w') => vprint_any (fV s) w' (by rw [hG]; show pr.length ≤ _; omega) (by rw [hG]; show bl.length ≤ _; omega) h
 obtain ⟨P, hP⟩ : ∃ P, (fV s).print = P := ⟨_, rfl⟩
 rw [hP, hG] at cP
 unfold kV at cP
 dsimp only at cP
 have HG := Lib.hid hG
 have HP := Lib.hid hP
 clear hG hP h1 h2 h3 h4
 have la : ma.length ≤ maxLen := by unfold maxLen; omega
 have lb : mi.length ≤ maxLen := by unfold maxLen; omega
 have lc : pa.length ≤ maxLen := by unfold maxLen; omega
 obtain ⟨na, hna⟩ : ∃ n, zK ma = n := ⟨_, rfl⟩
 obtain ⟨nb, hnb⟩ : ∃ n, zK mi = n := ⟨_, rfl⟩
 obtain ⟨nc, hnc⟩ : ∃ n, zK pa = n := ⟨_, rfl⟩
 have n1 := fun w' => nE ma w' la
 have n2 := fun w' => nE mi w' lb
 have n3 := fun w' => nE pa w' lc
 rw [hna] at n1
 rw [hnb] at n2
 rw [hnc] at n3
 rw [hna, hnb, hnc] at cP HG
 clear hna hnb hnc
 have cR := fun w' => release_any na nb nc w'
 unfold kV Ver.rel at cR
 dsimp only at cR
 go_enter Tryz.func143, Tryz.ntmps143
 go_wp2_with fail
 refine (c1 _).mono ?_
 rintro e w1 ⟨rfl, hb1⟩
 go_wp2_with fail
 refine (c2 _).mono ?_
 rintro e w2 ⟨rfl, hb2⟩
 go_wp2_with fail
 refine (c3 _).mono ?_
 rintro e w3 ⟨rfl, hb3⟩
 go_wp2_with fail
 refine (c4 _).mono ?_
 rintro e w4 ⟨rfl, hb4⟩
 go_wp2_with fail
 refine (n1 _).mono ?_
 rintro e w5 ⟨rfl, hb5⟩
 go_wp2_with fail
 refine (n2 _).mono ?_
 rintro e w6 ⟨rfl, hb6⟩
 go_wp2_with fail
 refine (n3 _).mono ?_
 rintro e w7 ⟨rfl, hb7⟩
 go_wp2_with fail
 refine (cR _).mono ?_
 rintro e w8 ⟨rfl, hb8⟩
 have hz1 := hb1.size
 have hz2 := hb2.size
 have hz3 := hb3.size
 have hz4 := hb4.size
 have hz5 := hb5.size
 have hz6 := hb6.size
 have hz7 := hb7.size
 have hz8 := hb8.size
 rw [wG] at hz1
 have hbv : Below (w.heap.size + 1) (w.alloc (.cells #[YI 0, YI 0, YI 0, .string ⟨#[]⟩, .string ⟨#[]⟩] 23)) w8 :=
  (((((((hb1.mono (by rw [wG]; omega)).trans (hb2.mono Om)).trans (hb3.mono Om)).trans (hb4.mono Om)).trans (hb5.mono Om)).trans (hb6.mono Om)).trans (hb7.mono Om)).trans (hb8.mono Om)
 have hbw : Below w.heap.size w w8 := ((Below.refl _ _).alloc (Nat.le_refl _) _).trans (hbv.mono Om)
 have hg8 := Lib.hid ((hbv.block w.heap.size Om).trans (fT w _))
 have hsw : w.heap.size < w8.heap.size := by omega
 clear hz1 hz2 hz3 hz4 hz5 hz6 hz7 hz8 hbv
 go_wp2_with fail
 refine (cP _ (ht.on (hbw.alloc Om _))).mono ?_
 rintro e w9 ⟨rfl, hb9⟩
 have hz9 := hb9.size
 rw [wG] at hz9
 have hg9 := Lib.hid (((hb9.block w.heap.size (by rw [wG]; omega)).trans (heap_old w8 _ hsw)).trans hg8.out)
 have hgv := Lib.hid ((hb9.block w8.heap.size (by rw [wG]; omega)).trans (fT w8 _))
 have hbw9 : Below w.heap.size w w9 := (hbw.alloc Om _).trans (hb9.mono (by rw [wG]; omega))
 by_cases hPs : P = s
 ·have hne := mkS_eq hPs
  have hne2 : ((mkS P).toList != (mkS s).toList) = false := by rw [bne, hne]; rfl
  have HPS := Lib.hid hPs
  clear hPs
  go_wp2_with fail
  refine (m4 (mkS pr) _ (by rw [yC]; omega)).mono ?_
  rintro e w10 ⟨rfl, hb10⟩
  go_wp2_with fail
  refine (m4 (mkS bl) _ (by rw [yC]; omega)).mono ?_
  rintro e w11 ⟨rfl, hb11⟩
  have hz10 := hb10.size
  have hz11 := hb11.size
  have hg11 := Lib.hid ((hb11.block w.heap.size Om).trans ((hb10.block w.heap.size Om).trans hg9.out))
  have hgv11 := Lib.hid ((hb11.block w8.heap.size Om).trans ((hb10.block w8.heap.size Om).trans hgv.out))
  have hbw11 : Below w.heap.size w w11 := (hbw9.trans (hb10.mono Om)).trans (hb11.mono Om)
  obtain ⟨c3, f3⟩ := gO (j := 3) hgv11.out (by simp)
  obtain ⟨c4, f4⟩ := gO (j := 4) hgv11.out (by simp)
  have e3 := setCell_eq_setRow w11 w8.heap.size 3 _ _ _ (.string (mkS pr)) hgv11.out
  have hq3 := setRow_heap w11 w8.heap.size _ #[YI na, YI nb, YI nc, .string (mkS pr), .string (mkS bl)] _ _ hgv11.out
  have e4 := setCell_eq_setRow _ w8.heap.size 4 _ _ _ (.string (mkS bl)) hq3
  have hwv : (w11.setCell ⟨w8.heap.size, 3, none⟩ (.string (mkS pr))).setCell ⟨w8.heap.size, 4, none⟩ (.string (mkS bl)) = (w11.setRow w8.heap.size #[YI na, YI nb, YI nc, .string (mkS pr), .string (mkS bl)]).setRow w8.heap.size #[YI na, YI nb, YI nc, .string (mkS pr), .string (mkS bl)] := by rw [e3]; exact e4
  have hL : ((w11.setCell ⟨w8.heap.size, 3, none⟩ (.string (mkS pr))).setCell ⟨w8.heap.size, 4, none⟩ (.string (mkS bl))).heap[w8.heap.size]? = some (.cells #[YI na, YI nb, YI nc, .string (mkS pr), .string (mkS bl)] 23) := by
   rw [hwv]; exact setRow_heap _ _ _ _ _ _ hq3
  have hL0 : ((w11.setCell ⟨w8.heap.size, 3, none⟩ (.string (mkS pr))).setCell ⟨w8.heap.size, 4, none⟩ (.string (mkS bl))).heap[w.heap.size]? = some (.cells #[YI 0, YI 0, YI 0, .string ⟨#[]⟩, .string ⟨#[]⟩] 23) := by
   rw [hwv, mC _ _ _ _ Om, mC _ _ _ _ Om]; exact hg11.out
  have hbL : Below w.heap.size w ((w11.setCell ⟨w8.heap.size, 3, none⟩ (.string (mkS pr))).setCell ⟨w8.heap.size, 4, none⟩ (.string (mkS bl))) := (hbw11.setCell (by simp; omega) _).setCell (by simp; omega) _
  have HL := Lib.hid hL
  have HL0 := Lib.hid hL0
  clear e3 hq3 e4 hwv hL hL0
  go_wp2_with (first
   | (refine wpList_load_row rfl 23 _ rfl w8.heap.size rfl _ _ _ _ HL.out Tryz.underlying23 rfl Kr ?_)
   | (refine wpList_store_row rfl 23 _ _ rfl w.heap.size #[.int .i64 na, .int .i64 nb, .int .i64 nc, .string (mkS pr), .string (mkS bl)] rfl rfl _ _ HL0.out Kr rfl (ver_one _ _ _ _ _) ?_))
  have hit := par_hit (HP.out.trans HPS.out)
  exact parse_done (v := ⟨na, nb, nc, pr, bl⟩) rfl rfl HL0.out hbL (hit.1.trans HG.out) hit.2
 ·have hne := mkS_ne hPs
  have hne2 : ((mkS P).toList != (mkS s).toList) = true := by rw [bne, hne]; rfl
  go_wp2_with (refine wpList_store_row rfl 23 _ _ rfl w.heap.size #[YI 0, YI 0, YI 0, .string ⟨#[]⟩, .string ⟨#[]⟩] rfl rfl _ _ hg9.out Kr rfl (ver_one _ _ _ _ _) ?_)
  exact parse_done (v := Ver.zero) rfl rfl hg9.out hbw9 (par_miss (fun e => hPs (HP.out.symm.trans e))).1 (par_miss (fun e => hPs (HP.out.symm.trans e))).2
theorem parse_any (s : List UInt8) (w : World) (hs : s.length ≤ 1000000) (ht : HasTab w) :
  YC 143 #[.string (mkS s)] w (YR (.tuple #[kV (wM s), YI (parE s)]) w) := parse_any0 s w hs ht
end
section
def bumpN (v : Ver) (k : Nat) : Ver := if k = 0 then Ver.rel (v.maj + 1) 0 0 else if k = 1 then Ver.rel v.maj (v.min + 1) 0 else Ver.rel v.maj v.min (v.pat + 1)
def d6 (v : Ver) (part : Int) : Bool := v.may && decide (0 ≤ part ∧ part < 3) && !(qV v.maj v.min v.pat part.toNat == 9999)
def bumpV (v : Ver) (part : Int) : Ver := if d6 v part then bumpN v part.toNat else Ver.zero
def BEnd (v : Ver) (part : Int) (w : World) (e : Ending) (w' : World) : Prop := e = .returned (.tuple #[kV (bumpV v part), .bool (d6 v part)]) ∧ Below w.heap.size w w'
def nextOk (v : Ver) : Bool := v.may && (!v.pre.isEmpty || d6 v 2 || d6 v 1 || d6 v 0)
def nextV (v : Ver) : Ver :=
 if v.may then (if v.pre.isEmpty then (if d6 v 2 then bumpV v 2 else if d6 v 1 then bumpV v 1 else if d6 v 0 then bumpV v 0 else Ver.zero) else Ver.rel v.maj v.min v.pat) else Ver.zero
def NEnd (v : Ver) (w : World) (e : Ending) (w' : World) : Prop := e = .returned (.tuple #[kV (nextV v), .bool (nextOk v)]) ∧ Below w.heap.size w w'
def findB (v : Ver) : Nat → Ver × Bool
 | 0 => (Ver.zero, false)
 | k + 1 => if d6 v k then (bumpV v k, true) else findB v k
end
section
def x9 : List Nat → List Nat → Int
 | [], [] => 0
 | [], _ :: _ => -1
 | _ :: _, [] => 1
 | a :: l, b :: m => if a < b then -1 else if b < a then 1 else x9 l m
theorem cmpL_cons (a b : Nat) (l m : List Nat) : x9 (a :: l) (b :: m) = if a < b then -1 else if b < a then 1 else x9 l m := rfl
theorem cmpL_self (a : List Nat) : x9 a a = 0 := by
 induction a with
 | nil => rfl
 | cons x l ih => rw [x9, if_neg Om, if_neg Om]; exact ih
theorem cmpL_anti (a : List Nat) : ∀ b, x9 b a = - x9 a b := by
 induction a with
 | nil => intro b; cases b <;> rfl
 | cons x l ih =>
  intro b
  cases b with
  | nil => rfl
  | cons y m =>
   rw [x9, x9]
   by_cases h1 : x < y
   ·rw [if_neg Om, if_pos h1, if_pos h1]; rfl
   ·by_cases h2 : y < x
    ·rw [if_pos h2, if_neg h1, if_pos h2]
    ·rw [if_neg h2, if_neg h1, if_neg h1, if_neg h2]; exact ih m
theorem cmpL_range (a : List Nat) : ∀ b, x9 a b = -1 ∨ x9 a b = 0 ∨ x9 a b = 1 := by
 induction a with
 | nil => intro b; cases b <;> simp [x9]
 | cons x l ih =>
  intro b
  cases b with
  | nil => simp [x9]
  | cons y m =>
   rw [x9]
   split
   ·simp
   ·split
    ·simp
    ·exact ih m
theorem cmpL_zero (a : List Nat) : ∀ b, x9 a b = 0 → a = b := by
 induction a with
 | nil => intro b; cases b <;> simp [x9]
 | cons x l ih =>
  intro b
  cases b with
  | nil => simp [x9]
  | cons y m =>
   rw [x9]
   split
   ·intro h; omega
   ·split
    ·intro h; omega
    ·intro h; rw [ih m h, show x = y from by omega]
theorem cmpL_trans (a : List Nat) : ∀ b c, x9 a b ≤ 0 → x9 b c ≤ 0 → x9 a c ≤ 0 ∧ (x9 a c = 0 → x9 a b = 0 ∧ x9 b c = 0) := by
 induction a with
 | nil =>
  intro b c h1 h2
  cases b with
  | nil => cases c <;> simp [x9]
  | cons y m =>
   cases c with
   | nil => simp [x9] at h2
   | cons z n => simp [x9]
 | cons x l ih =>
  intro b c h1 h2
  cases b with
  | nil => simp [x9] at h1
  | cons y m =>
   cases c with
   | nil => simp [x9] at h2
   | cons z n =>
    simp only [cmpL_cons] at h1 h2 ⊢
    by_cases a1 : x < y
    ·simp only [if_pos a1] at h1 ⊢
     by_cases a2 : y < z
     ·have : x < z := by omega
      simp only [if_pos this]; omega
     ·by_cases a3 : z < y
      ·simp only [if_neg a2, if_pos a3] at h2; omega
      ·have : x < z := by omega
       simp only [if_pos this]; omega
    ·by_cases a1' : y < x
     ·simp only [if_neg a1, if_pos a1'] at h1; omega
     ·simp only [if_neg a1, if_neg a1'] at h1 ⊢
      obtain rfl : x = y := by omega
      by_cases a2 : x < z
      ·simp only [if_pos a2]; omega
      ·by_cases a3 : z < x
       ·simp only [if_neg a2, if_pos a3] at h2; omega
       ·simp only [if_neg a2, if_neg a3] at h2 ⊢
        exact ih m n h1 h2
def oneR (a b : List UInt8) : Int :=
 if wO a && wO b then Lib.compareInt (zK a) (zK b) else if wO a then -1 else if wO b then 1 else Lib.compareBytes a b
def presL : List (List UInt8) → List (List UInt8) → Int
 | [], [] => 0
 | [], _ :: _ => -1
 | _ :: _, [] => 1
 | a :: l, b :: m => if oneR a b ≠ 0 then oneR a b else presL l m
def presR (a b : List UInt8) : Int := if a = b then 0 else if a = [] then 1 else if b = [] then -1 else presL (pcs a) (pcs b)
def t8 (t : List UInt8) : List Nat := if wO t then [1, (zK t).toNat] else 2 :: (t.map (fun c => c.toNat + 1) ++ [0])
def dF (l : List (List UInt8)) : List Nat := l.flatMap t8 ++ [0]
def preKey (p : List UInt8) : List Nat := if p = [] then [3] else dF (pcs p)
def Ver.key (v : Ver) : List Nat := v.maj.toNat :: v.min.toNat :: v.pat.toNat :: preKey v.pre
theorem numD_nat (t : List UInt8) : 0 ≤ zK t := by unfold zK; omega
theorem cmpL_bytes (a : List UInt8) : ∀ (b : List UInt8) (x y : List Nat), x9 (a.map (fun c => c.toNat + 1) ++ 0 :: x) (b.map (fun c => c.toNat + 1) ++ 0 :: y) = if Lib.compareBytes a b ≠ 0 then Lib.compareBytes a b else x9 x y := by
 induction a with
 | nil =>
  intro b x y
  cases b with
  | nil => simp [x9, Lib.compareBytes]
  | cons c r => simp [x9, Lib.compareBytes]
 | cons c r ih =>
  intro b x y
  cases b with
  | nil => simp [x9, Lib.compareBytes]
  | cons d q =>
   simp only [List.map_cons, List.cons_append, cmpL_cons]
   by_cases h1 : c < d
   ·have h1' : c.toNat < d.toNat := UInt8.lt_iff_toNat_lt.1 h1
    have e : Lib.compareBytes (c :: r) (d :: q) = -1 := by rw [Lib.compareBytes, if_pos h1]
    rw [e, if_pos Om]; rfl
   ·by_cases h2 : d < c
    ·have h2' : d.toNat < c.toNat := UInt8.lt_iff_toNat_lt.1 h2
     have e : Lib.compareBytes (c :: r) (d :: q) = 1 := by rw [Lib.compareBytes, if_neg h1, if_pos h2]
     rw [e, if_neg Om, if_pos Om]; rfl
    ·have a1 : ¬ c.toNat < d.toNat := fun h => h1 (UInt8.lt_iff_toNat_lt.2 h)
     have a2 : ¬ d.toNat < c.toNat := fun h => h2 (UInt8.lt_iff_toNat_lt.2 h)
     have e : Lib.compareBytes (c :: r) (d :: q) = Lib.compareBytes r q := by rw [Lib.compareBytes, if_neg h1, if_neg h2]
     rw [e, if_neg Om, if_neg Om]
     exact ih q x y
theorem cmpL_tag (a b : List UInt8) (x y : List Nat) : x9 (t8 a ++ x) (t8 b ++ y) = if oneR a b ≠ 0 then oneR a b else x9 x y := by
 unfold t8 oneR
 cases ha : wO a <;> cases hb : wO b
 ·have := cmpL_bytes a b x y
  simpa [x9] using this
 ·simp [x9]
 ·simp [x9]
 ·have h1 := numD_nat a
  have h2 := numD_nat b
  simp only [Bool.and_true, if_true, List.cons_append, List.nil_append, x9, Lib.compareInt]
  by_cases h : zK a < zK b
  ·rw [if_pos h, if_pos (by omega : (zK a).toNat < (zK b).toNat)]; rfl
  ·by_cases h' : zK b < zK a
   ·rw [if_neg h, if_pos h', if_neg (by omega : ¬ (zK a).toNat < (zK b).toNat), if_pos (by omega : (zK b).toNat < (zK a).toNat)]; rfl
   ·rw [if_neg h, if_neg h', if_neg (by omega : ¬ (zK a).toNat < (zK b).toNat), if_neg (by omega : ¬ (zK b).toNat < (zK a).toNat)]; rfl
theorem tag_cons (a : List UInt8) : ∃ k r, t8 a = k :: r ∧ 0 < k ∧ k < 3 := by
 unfold t8; split
 ·exact ⟨_, _, rfl, by omega, by omega⟩
 ·exact ⟨_, _, rfl, by omega, by omega⟩
theorem cmpL_tail (l : List (List UInt8)) : ∀ m, x9 (dF l) (dF m) = presL l m := by
 induction l with
 | nil =>
  intro m
  cases m with
  | nil => rfl
  | cons b m =>
   obtain ⟨k, r, e, h, _⟩ := tag_cons b
   unfold dF
   rw [List.flatMap_cons, e]
   simp [x9, presL, h]
 | cons a l ih =>
  intro m
  cases m with
  | nil =>
   obtain ⟨k, r, e, h, _⟩ := tag_cons a
   unfold dF
   rw [List.flatMap_cons, e]
   simp [x9, presL, h]
  | cons b m =>
   have := ih m
   unfold dF at this ⊢
   rw [List.flatMap_cons, List.flatMap_cons, List.append_assoc, List.append_assoc, cmpL_tag, this, presL]
theorem tail_small (l : List (List UInt8)) : ∃ k r, dF l = k :: r ∧ k < 3 := by
 unfold dF
 cases l with
 | nil => exact ⟨0, [], rfl, by omega⟩
 | cons a l =>
  obtain ⟨k, r, e, _, h⟩ := tag_cons a
  exact ⟨k, r ++ (l.flatMap t8 ++ [0]), by rw [List.flatMap_cons, e]; simp, h⟩
theorem presR_key (a b : List UInt8) : presR a b = x9 (preKey a) (preKey b) := by
 unfold presR
 by_cases h : a = b
 ·rw [if_pos h, h, cmpL_self]
 ·rw [if_neg h]
  unfold preKey
  by_cases ha : a = []
  ·have hb : b ≠ [] := fun e => h (ha.trans e.symm)
   rw [if_pos ha, if_pos ha, if_neg hb]
   obtain ⟨k, r, e, hk⟩ := tail_small (pcs b)
   rw [e, x9, if_neg Om, if_pos hk]
  ·rw [if_neg ha, if_neg ha]
   by_cases hb : b = []
   ·rw [if_pos hb, if_pos hb]
    obtain ⟨k, r, e, hk⟩ := tail_small (pcs a)
    rw [e, x9, if_pos hk]
   ·rw [if_neg hb, if_neg hb]; exact (cmpL_tail _ _).symm
def cmpN (v w : Ver) : Int :=
 if Lib.compareInt v.maj w.maj ≠ 0 then Lib.compareInt v.maj w.maj
 else if Lib.compareInt v.min w.min ≠ 0 then Lib.compareInt v.min w.min
 else Lib.compareInt v.pat w.pat
def dB (v w : Ver) : Int := if v.may && w.may then (if cmpN v w ≠ 0 then cmpN v w else presR v.pre w.pre) else 0
theorem may_nat {v : Ver} (h : v.may = true) : (0 ≤ v.maj ∧ v.maj ≤ 9999) ∧ (0 ≤ v.min ∧ v.min ≤ 9999) ∧ (0 ≤ v.pat ∧ v.pat ≤ 9999) := by
 obtain ⟨h1, h2, h3⟩ := gL h
 unfold zW at h1 h2 h3; simp at h1 h2 h3
 exact ⟨h1, h2, h3⟩
theorem cmpL_num {a b : Int} (ha : 0 ≤ a) (hb : 0 ≤ b) (x y : List Nat) : x9 (a.toNat :: x) (b.toNat :: y) = if Lib.compareInt a b ≠ 0 then Lib.compareInt a b else x9 x y := by
 rw [x9]
 unfold Lib.compareInt
 by_cases h : a < b
 ·rw [if_pos h, if_pos Om]; rfl
 ·by_cases h' : b < a
  ·rw [if_neg h, if_pos h', if_neg Om, if_pos Om]; rfl
  ·rw [if_neg h, if_neg h', if_neg Om, if_neg Om]; rfl
theorem hZ {v w : Ver} (hv : v.may = true) (hw : w.may = true) : dB v w = x9 v.key w.key := by
 obtain ⟨v1, v2, v3⟩ := may_nat hv
 obtain ⟨w1, w2, w3⟩ := may_nat hw
 unfold dB
 rw [hv, hw, presR_key]
 unfold Ver.key
 rw [cmpL_num v1.1 w1.1, cmpL_num v2.1 w2.1, cmpL_num v3.1 w3.1]
 unfold cmpN
 simp only [Bool.and_true, if_true]
 by_cases h1 : Lib.compareInt v.maj w.maj = 0
 ·by_cases h2 : Lib.compareInt v.min w.min = 0
  ·simp [h1, h2]
  ·simp [h1, h2]
 ·simp [h1]
def oneP (a b : List UInt8) : Int :=
 if vP a && vP b then Lib.compareInt (zK a) (zK b) else if vP a && !b.isEmpty then -1 else if vP b && !a.isEmpty then 1 else Lib.compareBytes a b
def seqP : Nat → List (List UInt8) → List (List UInt8) → Int
 | 0, _, _ => 0
 | n + 1, l, m => if oneP (tg l 0) (tg m 0) ≠ 0 then oneP (tg l 0) (tg m 0) else seqP n l.tail m.tail
def fine (t : List UInt8) : Bool := gZ t && preT t
def cpre (a b : List UInt8) : Int := if a = [] then 1 else if b = [] then -1 else seqP 4 (lst a).1 (lst b).1
theorem cmpR_bad {v w : Ver} (h : v.may = false ∨ w.may = false) : dB v w = 0 := by
 unfold dB
 rw [if_neg]
 rcases h with h | h <;> simp [h]
def vH (v : Ver) : Ver := { v with build := [] }
theorem n6 (x : Int) : Lib.compareInt x x = 0 := by unfold Lib.compareInt; simp
theorem cmpR_core {v w : Ver} (h : vH v = vH w) : dB v w = 0 := by
 unfold vH at h
 simp only [Ver.mk.injEq, and_true] at h
 obtain ⟨h1, h2, h3, h4⟩ := h
 unfold dB cmpN presR
 rw [h1, h2, h3, h4]
 simp [n6]
end
section
theorem may_pre {v : Ver} (h : v.may = true) : tZ v.pre = true := by
 unfold Ver.may at h; simp only [Bool.and_eq_true] at h; exact h.1.2
theorem core_may {v : Ver} (h : v.may = true) : (vH v).may = true := by
 have e : jC [] = true := by decide
 unfold Ver.may at h ⊢; simp only [Bool.and_eq_true] at h ⊢
 exact ⟨⟨h.1.1, h.1.2⟩, e⟩
theorem order_self {a : Ver} : dB a a = 0 := cmpR_core rfl
theorem order_core {a b : Ver} (ha : a.may = true) (hb : b.may = true) : dB (vH a) b = dB a b := by
 rw [hZ (core_may ha) hb, hZ ha hb]; rfl
def Ver.code (v : Ver) : Int := (v.maj * 10000 + v.min) * 10000 + v.pat
end
section
end
section
structure Co where
 op : Int
 parts : Int
 v : Ver
deriving DecidableEq
def zR (op : Int) : List UInt8 := if op = 1 then [61] else if op = 2 then [33, 61] else if op = 3 then [60] else if op = 4 then [60, 61] else if op = 5 then [62] else if op = 6 then [62, 61] else if op = 7 then [94] else if op = 8 then [126] else []
def Co.may (c : Co) : Bool := decide (1 ≤ c.op ∧ c.op ≤ 9) && c.v.may && decide (c.v.build = []) && (if c.op = 9 then decide (0 ≤ c.parts ∧ c.parts ≤ 2) else decide (1 ≤ c.parts ∧ c.parts ≤ 3)) && decide (3 ≤ c.parts ∨ c.v.pre = []) && decide (0 < c.parts ∨ c.v.maj = 0) && decide (1 < c.parts ∨ c.v.min = 0) && decide (2 < c.parts ∨ c.v.pat = 0)
theorem Co.facts {c : Co} (h : c.may = true) : (1 ≤ c.op ∧ c.op ≤ 9) ∧ c.v.may = true ∧ c.v.build = [] ∧ (c.op = 9 → 0 ≤ c.parts ∧ c.parts ≤ 2) ∧ (¬ c.op = 9 → 1 ≤ c.parts ∧ c.parts ≤ 3) ∧ (3 ≤ c.parts ∨ c.v.pre = []) ∧ (0 < c.parts ∨ c.v.maj = 0) ∧ (1 < c.parts ∨ c.v.min = 0) ∧ (2 < c.parts ∨ c.v.pat = 0) := by
 unfold Co.may at h
 simp only [Bool.and_eq_true, decide_eq_true_eq] at h
 obtain ⟨⟨⟨⟨⟨⟨⟨h1, h2⟩, h3⟩, h4⟩, h5⟩, h6⟩, h7⟩, h8⟩ := h
 refine ⟨h1, h2, h3, fun e => ?_, fun e => ?_, h5, h6, h7, h8⟩
 ·rw [if_pos e] at h4; exact of_decide_eq_true h4
 ·rw [if_neg e] at h4; exact of_decide_eq_true h4
theorem Co.may_iff {c : Co} : c.may = true ↔ (1 ≤ c.op ∧ c.op ≤ 9) ∧ c.v.may = true ∧ c.v.build = [] ∧ (c.op = 9 → 0 ≤ c.parts ∧ c.parts ≤ 2) ∧ (¬ c.op = 9 → 1 ≤ c.parts ∧ c.parts ≤ 3) ∧ (3 ≤ c.parts ∨ c.v.pre = []) ∧ (0 < c.parts ∨ c.v.maj = 0) ∧ (1 < c.parts ∨ c.v.min = 0) ∧ (2 < c.parts ∨ c.v.pat = 0) := by
 refine ⟨Co.facts, fun ⟨h1, h2, h3, k9, kn, h5, h6, h7, h8⟩ => ?_⟩
 unfold Co.may
 rw [decide_eq_true h1, h2, decide_eq_true h3, decide_eq_true h5, decide_eq_true h6, decide_eq_true h7, decide_eq_true h8]
 by_cases e : c.op = 9
 ·rw [if_pos e, decide_eq_true (k9 e)]; rfl
 ·rw [if_neg e, decide_eq_true (kn e)]; rfl
def zT (v : Ver) (n : Nat) : List (List UInt8) := [Lib.itoa v.maj, Lib.itoa v.min, Lib.itoa v.pat].take n
def Co.rest (c : Co) : List UInt8 := if c.op = 9 then zG 46 (zT c.v c.parts.toNat ++ [[42]]) else zG 46 (zT c.v c.parts.toNat) ++ kE 45 c.v.pre
def Co.text (c : Co) : List UInt8 := zR c.op ++ c.rest
def Co.print (c : Co) : List UInt8 := if c.may then c.text else []
def yK (s t : List UInt8) : Bool := decide (s.take t.length = t)
def nI (s : List UInt8) : Int × List UInt8 :=
 if yK s [33, 61] then (2, s.drop 2) else if yK s [60, 61] then (4, s.drop 2) else if yK s [62, 61] then (6, s.drop 2) else if yK s [61] then (1, s.drop 1)
 else if yK s [60] then (3, s.drop 1) else if yK s [62] then (5, s.drop 1) else if yK s [94] then (7, s.drop 1) else if yK s [126] then (8, s.drop 1)
 else if s.getLast? = some 42 then (9, s) else (7, s)
def nV (op : Int) (rest : List UInt8) : List (List UInt8) := if op = 9 then (pcs (z8 45 rest).1).dropLast else pcs (z8 45 rest).1
def guessC (op : Int) (rest : List UInt8) : Option Co :=
 if (nV op rest).length ≤ 3 ∧ (nV op rest).all vP = true then
  some ⟨op, (nV op rest).length, ⟨zK (tg (nV op rest) 0), zK (tg (nV op rest) 1), zK (tg (nV op rest) 2), (z8 45 rest).2.1, []⟩⟩
 else none
def fits (s : List UInt8) (c : Co) : Bool := !decide (c.print = []) && (decide (c.print = s) || decide (c.print = 94 :: s))
def g8 (s : List UInt8) : Option Co := (guessC (nI s).1 (nI s).2).filter (fits s)
theorem print_may {c : Co} (h : ¬ c.print = []) : c.may = true := by
 cases hm : c.may with
 | true => rfl
 | false => exact absurd (show c.print = [] by unfold Co.print; rw [hm]; rfl) h
theorem vI {c : Co} (h : c.may = true) : c.print = c.text := by unfold Co.print; rw [h]; rfl
theorem parseC_back {s : List UInt8} {c : Co} (h : g8 s = some c) : c.may = true ∧ (c.text = s ∨ c.text = 94 :: s) := by
 unfold g8 at h
 obtain ⟨_, h⟩ := Option.filter_eq_some_iff.1 h
 unfold fits at h
 simp only [Bool.and_eq_true, Bool.not_eq_true', decide_eq_false_iff_not, Bool.or_eq_true, decide_eq_true_eq] at h
 have hm := print_may h.1
 rw [vI hm] at h
 exact ⟨hm, h.2⟩
theorem pcs_cons {x y : List UInt8} (h : (46 : UInt8) ∉ x) : pcs (x ++ 46 :: y) = x :: pcs y := by
 unfold pcs
 rw [yU, jW 46 _ _ h]
 simp
theorem pcs_one {x : List UInt8} (h : (46 : UInt8) ∉ x) : pcs x = [x] := by
 unfold pcs
 rw [yU, vS 46 _ h]
 simp
theorem pcs_join : ∀ (l : List (List UInt8)), l ≠ [] → (∀ x ∈ l, (46 : UInt8) ∉ x) → pcs (zG 46 l) = l
 | [], h, _ => absurd rfl h
 | [x], _, h => pcs_one (h x (List.mem_singleton.2 rfl))
 | x :: y :: r, _, h => by
  rw [zG, pcs_cons (h x (List.mem_cons_self ..)), pcs_join (y :: r) (by simp) fun z hz => h z (List.mem_cons_of_mem _ hz)]
theorem nums_mem {v : Ver} (hv : v.may = true) {n : Nat} {x : List UInt8} (h : x ∈ zT v n) : ∃ k : Int, zW k = true ∧ x = Lib.itoa k := by
 obtain ⟨h1, h2, h3⟩ := gL hv
 unfold zT at h
 have h := List.mem_of_mem_take h
 simp only [List.mem_cons, List.not_mem_nil, or_false] at h
 rcases h with rfl | rfl | rfl
 ·exact ⟨_, h1, rfl⟩
 ·exact ⟨_, h2, rfl⟩
 ·exact ⟨_, h3, rfl⟩
theorem vV {v : Ver} (hv : v.may = true) {n : Nat} (b : UInt8) (hb : xM b.toNat = false) : ∀ x ∈ zT v n, b ∉ x := fun x hx => by
 obtain ⟨k, hk, rfl⟩ := nums_mem hv hx
 exact jE hk b hb
theorem bO (b : UInt8) (hb : b ≠ 46) : ∀ (l : List (List UInt8)), (∀ x ∈ l, b ∉ x) → b ∉ zG 46 l
 | [], _ => by simp [zG]
 | [x], h => h x (List.mem_singleton.2 rfl)
 | x :: y :: r, h => by
  rw [zG]
  simp only [List.mem_append, List.mem_cons, not_or]
  exact ⟨h x (List.mem_cons_self ..), hb, bO b hb (y :: r) fun z hz => h z (List.mem_cons_of_mem _ hz)⟩
theorem jP (v : Ver) {n : Nat} (h : n ≤ 3) : (zT v n).length = n := by
 unfold zT
 rw [List.length_take]
 simp; omega
theorem nums_num {v : Ver} (hv : v.may = true) (n : Nat) : (zT v n).all vP = true := List.all_eq_true.2 fun x hx => by
 obtain ⟨k, hk, rfl⟩ := nums_mem hv hx
 exact pF hk
theorem nums_back {v : Ver} (hv : v.may = true) {n : Nat} (h : n ≤ 3) (h0 : 0 < n ∨ v.maj = 0) (h1 : 1 < n ∨ v.min = 0) (h2 : 2 < n ∨ v.pat = 0) : zK (tg (zT v n) 0) = v.maj ∧ zK (tg (zT v n) 1) = v.min ∧ zK (tg (zT v n) 2) = v.pat := by
 obtain ⟨m1, m2, m3⟩ := gL hv
 have e1 := gA m1
 have e2 := gA m2
 have e3 := gA m3
 match n, h with
 | 0, _ => exact ⟨(h0.resolve_left (by decide)).symm, (h1.resolve_left (by decide)).symm, (h2.resolve_left (by decide)).symm⟩
 | 1, _ => exact ⟨e1, (h1.resolve_left (by decide)).symm, (h2.resolve_left (by decide)).symm⟩
 | 2, _ => exact ⟨e1, e2, (h2.resolve_left (by decide)).symm⟩
 | 3, _ => exact ⟨e1, e2, e3⟩
theorem guess_rest {c : Co} (h : c.may = true) : guessC c.op c.rest = some c := by
 obtain ⟨_, hv, hb, h9, hn, hp, k0, k1, k2⟩ := Co.facts h
 obtain ⟨op, parts, v⟩ := c
 simp only at hv hb h9 hn hp k0 k1 k2 ⊢
 have hparts : (parts.toNat : Int) = parts ∧ parts.toNat ≤ 3 := by
  by_cases e : op = 9
  ·have := h9 e; omega
  ·have := hn e; omega
 have key : nV op (Co.rest ⟨op, parts, v⟩) = zT v parts.toNat ∧ (z8 45 (Co.rest ⟨op, parts, v⟩)).2.1 = v.pre := by
  unfold nV Co.rest
  by_cases e : op = 9
  ·rw [if_pos e]
   dsimp only
   rw [if_pos e]
   have f : ∀ b : UInt8, xM b.toNat = false → b ≠ 42 → ∀ x ∈ zT v parts.toNat ++ [[42]], b ∉ x := fun b hb hb2 x hx => by
    rcases List.mem_append.1 hx with hx | hx
    ·exact vV hv b hb x hx
    ·rw [List.mem_singleton.1 hx]
     intro hm
     exact hb2 (List.mem_singleton.1 hm)
   rw [vS 45 _ (bO 45 (by decide) _ (f 45 (by decide) (by decide)))]
   have hpre : v.pre = [] := hp.resolve_left (by have := h9 e; omega)
   exact ⟨by
    show (pcs (zG 46 (zT v parts.toNat ++ [[42]]))).dropLast = _
    rw [pcs_join _ (by simp) (f 46 (by decide) (by decide)), List.dropLast_concat], hpre.symm⟩
  ·rw [if_neg e]
   dsimp only
   rw [if_neg e]
   have hne : zT v parts.toNat ≠ [] := fun h0 => by
    have := jP v hparts.2
    rw [h0] at this
    have := hn e
    simp at *; omega
   rw [cut_tail 45 _ _ (bO 45 (by decide) _ (vV hv 45 (by decide)))]
   exact ⟨pcs_join _ hne (vV hv 46 (by decide)), rfl⟩
 unfold guessC
 rw [key.1, key.2, if_pos ⟨by rw [jP v hparts.2]; exact hparts.2, nums_num hv _⟩]
 obtain ⟨e1, e2, e3⟩ := nums_back hv hparts.2 Om Om Om
 rw [e1, e2, e3, jP v hparts.2, hparts.1]
 obtain ⟨a, b, p, q, r⟩ := v
 simp only at hb
 rw [hb]
theorem itoa_head {k : Int} (h : zW k = true) : ∃ d r, Lib.itoa k = d :: r ∧ xM d.toNat = true := by
 have hm := num_itoa h
 cases e : Lib.itoa k with
 | nil => rw [e] at hm; cases hm
 | cons d r => exact ⟨d, r, rfl, by
   have := dig_mem k.toNat d (by rw [← nT h, e]; exact List.mem_cons_self)
   exact this⟩
theorem join_head {x : List UInt8} {l : List (List UInt8)} {d : UInt8} {r : List UInt8} (h : x = d :: r) : ∃ r', zG 46 (x :: l) = d :: r' := by
 subst h
 cases l with
 | nil => exact ⟨r, rfl⟩
 | cons y t => exact ⟨_, rfl⟩
theorem fJ {c : Co} (h : c.may = true) (hn : ¬ c.op = 9) : ∃ d r, c.rest = d :: r ∧ xM d.toNat = true := by
 obtain ⟨_, hv, _, _, h9, _⟩ := Co.facts h
 obtain ⟨d, r, e, hd⟩ := itoa_head (gL hv).1
 obtain ⟨n, en⟩ : ∃ n, c.parts.toNat = n + 1 := ⟨c.parts.toNat - 1, by have := h9 hn; omega⟩
 obtain ⟨r', e'⟩ := join_head (l := [Lib.itoa c.v.min, Lib.itoa c.v.pat].take n) e
 refine ⟨d, r' ++ kE 45 c.v.pre, ?_, hd⟩
 unfold Co.rest zT
 rw [if_neg hn, en, List.take_succ_cons, e']; rfl
theorem p9 {c : Co} (h : c.may = true) (hn : c.op = 9) : ∃ d r, c.rest = d :: r ∧ (xM d.toNat = true ∨ d = 42) := by
 obtain ⟨_, hv, _, h9, _⟩ := Co.facts h
 obtain ⟨d, r, e, hd⟩ := itoa_head (gL hv).1
 unfold Co.rest zT
 rw [if_pos hn]
 cases hp : c.parts.toNat with
 | zero => exact ⟨42, [], rfl, .inr rfl⟩
 | succ n =>
  obtain ⟨r', e'⟩ := join_head (l := [Lib.itoa c.v.min, Lib.itoa c.v.pat].take n ++ [[42]]) e
  exact ⟨d, r', by rw [List.take_succ_cons, List.cons_append, e'], .inl hd⟩
theorem gG {d : UInt8} {r : List UInt8} {a : UInt8} {t : List UInt8} (h : d ≠ a) : yK (d :: r) (a :: t) = false := decide_eq_false fun e => by
 rw [List.length_cons, List.take_succ_cons] at e
 injection e with e1 _
 exact h e1
theorem split_plain {d : UInt8} {r : List UInt8} (h : xM d.toNat = true ∨ d = 42) : nI (d :: r) = if (d :: r).getLast? = some 42 then (9, d :: r) else (7, d :: r) := by
 have hd : ∀ a : UInt8, xM a.toNat = false → a ≠ 42 → d ≠ a := fun a ha h42 e => by
  subst e
  rcases h with h | h
  ·rw [ha] at h; cases h
  ·exact h42 h
 unfold nI
 rw [gG (hd 33 (by decide) (by decide)), gG (hd 60 (by decide) (by decide)), gG (hd 62 (by decide) (by decide)), gG (hd 61 (by decide) (by decide)), gG (hd 60 (by decide) (by decide)), gG (hd 62 (by decide) (by decide)), gG (hd 94 (by decide) (by decide)), gG (hd 126 (by decide) (by decide))]
 rfl
theorem split_sign {op : Int} (h1 : 1 ≤ op) (h8 : op ≤ 8) {d : UInt8} {r : List UInt8} (hd : xM d.toNat = true) : nI (zR op ++ d :: r) = (op, d :: r) := by
 have h61 : d ≠ 61 := fun e => by subst e; revert hd; decide
 have hop : op = 1 ∨ op = 2 ∨ op = 3 ∨ op = 4 ∨ op = 5 ∨ op = 6 ∨ op = 7 ∨ op = 8 := by omega
 rcases hop with rfl | rfl | rfl | rfl | rfl | rfl | rfl | rfl <;> simp [zR, nI, yK, h61]
theorem last_join (x : List UInt8) : ∀ (l : List (List UInt8)), (zG 46 (l ++ [x ++ [42]])).getLast? = some 42
 | [] => by simp [zG]
 | [y] => by
  show (y ++ 46 :: (x ++ [42])).getLast? = some 42
  rw [show y ++ 46 :: (x ++ [42]) = (y ++ 46 :: x) ++ [42] from by simp, List.getLast?_concat]
 | y :: z :: r => by
  have := last_join x (z :: r)
  show (y ++ 46 :: zG 46 (z :: r ++ [x ++ [42]])).getLast? = some 42
  rw [List.getLast?_append]
  cases hj : zG 46 (z :: r ++ [x ++ [42]]) with
  | nil => rw [hj] at this; cases this
  | cons a b => rw [hj] at this; rw [List.getLast?_cons_cons, this]; rfl
theorem star_free (s : List UInt8) (h : jC s = true) : (42 : UInt8) ∉ s := by
 intro hm
 unfold jC at h
 rcases splitL_mem 46 s [] 42 hm with e | ⟨x, hx, hc⟩
 ·revert e; decide
 ·have hne : s.isEmpty = false := by cases s with
   | nil => cases hm
   | cons _ _ => rfl
  rw [hne, Bool.false_or, Bool.and_eq_true] at h
  have := List.all_eq_true.1 h.2 x hx
  unfold gZ at this
  rw [Bool.and_eq_true] at this
  have := List.all_eq_true.1 this.2 _ hc
  revert this; decide
theorem rest_star {c : Co} (h : c.may = true) (hn : ¬ c.op = 9) : (42 : UInt8) ∉ c.rest := by
 obtain ⟨_, hv, _⟩ := Co.facts h
 have hl : jC c.v.pre = true := by
  have := may_pre hv
  unfold tZ at this
  exact (Bool.and_eq_true_iff.1 this).1
 unfold Co.rest
 rw [if_neg hn]
 intro hm
 rcases List.mem_append.1 hm with hm | hm
 ·exact bO 42 (by decide) _ (vV hv 42 (by decide)) hm
 ·unfold kE at hm
  split at hm
  ·cases hm
  ·rcases List.mem_cons.1 hm with e | hm
   ·revert e; decide
   ·exact star_free _ hl hm
theorem split_text {c : Co} (h : c.may = true) : nI c.text = (c.op, c.rest) := by
 obtain ⟨ho, _⟩ := Co.facts h
 unfold Co.text
 by_cases hn : c.op = 9
 ·obtain ⟨d, r, e, hd⟩ := p9 h hn
  have hl : c.rest.getLast? = some 42 := by unfold Co.rest; rw [if_pos hn]; exact last_join [] _
  rw [hn, show zR 9 = [] from rfl, List.nil_append]
  rw [e] at hl ⊢
  rw [split_plain hd, if_pos hl]
 ·obtain ⟨d, r, e, hd⟩ := fJ h hn
  rw [e]
  exact split_sign ho.1 Om hd
theorem parseC_text {c : Co} (h : c.may = true) : g8 c.text = some c := by
 unfold g8
 rw [split_text h, guess_rest h]
 refine Option.filter_eq_some_iff.2 ⟨rfl, ?_⟩
 have hne : ¬ c.text = [] := fun e => by
  unfold Co.text at e
  have e2 := (List.append_eq_nil_iff.1 e).2
  by_cases hn : c.op = 9
  ·obtain ⟨d, r, e3, _⟩ := p9 h hn; rw [e3] at e2; cases e2
  ·obtain ⟨d, r, e3, _⟩ := fJ h hn; rw [e3] at e2; cases e2
 unfold fits
 rw [vI h, decide_eq_false hne, decide_eq_true rfl]; rfl
theorem parseC_caret {c : Co} {s : List UInt8} (h : c.may = true) (hs : c.text = 94 :: s) : g8 s = some c := by
 obtain ⟨ho, _⟩ := Co.facts h
 have hop : c.op = 7 ∧ c.rest = s := by
  unfold Co.text at hs
  by_cases hn : c.op = 9
  ·obtain ⟨d, r, e, hd⟩ := p9 h hn
   rw [hn, show zR 9 = [] from rfl, List.nil_append, e] at hs
   injection hs with e1 _
   rw [e1] at hd
   exact absurd hd (by decide)
  ·have hop : c.op = 1 ∨ c.op = 2 ∨ c.op = 3 ∨ c.op = 4 ∨ c.op = 5 ∨ c.op = 6 ∨ c.op = 7 ∨ c.op = 8 := by omega
   rcases hop with e | e | e | e | e | e | e | e <;> rw [e] at hs <;> simp [zR] at hs
   exact ⟨e, hs⟩
 obtain ⟨d, r, e, hd⟩ := fJ h Om
 have h42 : ¬ s.getLast? = some 42 := fun hl => by
  have := List.mem_of_getLast? hl
  rw [← hop.2] at this
  exact rest_star h Om this
 unfold g8
 have hsp : nI s = (7, s) := by
  rw [← hop.2, e, split_plain (.inl hd), if_neg (by rw [← e, hop.2]; exact h42)]
 rw [hsp]
 have hg := guess_rest h
 rw [hop.1, hop.2] at hg
 rw [hg]
 refine Option.filter_eq_some_iff.2 ⟨rfl, ?_⟩
 unfold fits
 rw [vI h, hs, decide_eq_false (by simp), decide_eq_true rfl, Bool.or_true]; rfl
theorem mK (s : List UInt8) (c : Co) : g8 s = some c ↔ c.may = true ∧ (c.text = s ∨ c.text = 94 :: s) :=
 ⟨parseC_back, fun ⟨hm, h⟩ => h.elim (fun e => e ▸ parseC_text hm) (fun e => parseC_caret hm e)⟩
end
section
def jJ (sep : List UInt8) : List (List UInt8) → List UInt8
 | [] => []
 | [x] => x
 | x :: y :: l => x ++ sep ++ jJ sep (y :: l)
theorem pJ (sep x y : List UInt8) (l : List (List UInt8)) : jJ sep (x :: y :: l) = x ++ sep ++ jJ sep (y :: l) := rfl
theorem joinB_snoc (sep x : List UInt8) : ∀ (l : List (List UInt8)), jJ sep (l ++ [x]) = if l = [] then x else jJ sep l ++ sep ++ x
 | [] => rfl
 | [y] => rfl
 | y :: z :: l => by
  rw [if_neg (by simp)]
  show y ++ sep ++ jJ sep ((z :: l) ++ [x]) = y ++ sep ++ jJ sep (z :: l) ++ sep ++ x
  rw [joinB_snoc sep x (z :: l), if_neg (by simp)]
  simp only [List.append_assoc]
def sumN : List Nat → Nat
 | [] => 0
 | n :: l => n + sumN l
theorem joinB_len (sep : List UInt8) : ∀ (l : List (List UInt8)), (jJ sep l).length = sumN (l.map (·.length)) + (l.length - 1) * sep.length
 | [] => by simp [jJ, sumN]
 | [x] => by simp [jJ, sumN]
 | x :: y :: l => by
  rw [pJ, List.length_append, List.length_append, joinB_len sep (y :: l)]
  show x.length + sep.length + (sumN ((y :: l).map (·.length)) + ((y :: l).length - 1) * sep.length) = x.length + sumN ((y :: l).map (·.length)) + ((y :: l).length + 1 - 1) * sep.length
  have e : ((y :: l).length + 1 - 1) * sep.length = ((y :: l).length - 1) * sep.length + sep.length := by
   rw [show (y :: l).length + 1 - 1 = ((y :: l).length - 1) + 1 from by simp, Nat.add_mul, Nat.one_mul]
  omega
def xB (a : List Co) : List UInt8 := jJ [44, 32] (a.map Co.print)
def v7 (r : List (List Co)) : List UInt8 := jJ [32, 124, 124, 32] (r.map xB)
def fewA (a : List Co) : Bool := decide (1 ≤ a.length ∧ a.length ≤ 6) && a.all Co.may
def fewR (r : List (List Co)) : Bool := decide (1 ≤ r.length ∧ r.length ≤ 6) && r.all fewA
def rgMay (r : List (List Co)) : Bool := fewR r && decide ((v7 r).length ≤ 96)
def mH (r : List (List Co)) : List UInt8 := if rgMay r then v7 r else []
theorem fewA.facts {a : List Co} (h : fewA a = true) : (1 ≤ a.length ∧ a.length ≤ 6) ∧ ∀ c ∈ a, c.may = true := by
 unfold fewA at h
 rw [Bool.and_eq_true, decide_eq_true_eq] at h
 exact ⟨h.1, List.all_eq_true.1 h.2⟩
theorem fewR.facts {r : List (List Co)} (h : fewR r = true) : (1 ≤ r.length ∧ r.length ≤ 6) ∧ ∀ a ∈ r, fewA a = true := by
 unfold fewR at h
 rw [Bool.and_eq_true, decide_eq_true_eq] at h
 exact ⟨h.1, List.all_eq_true.1 h.2⟩
theorem rgMay.facts {r : List (List Co)} (h : rgMay r = true) : fewR r = true ∧ (v7 r).length ≤ 96 := by
 unfold rgMay at h
 rw [Bool.and_eq_true, decide_eq_true_eq] at h
 exact h
def x7 : List UInt8 → List UInt8
 | [] => []
 | c :: l => if c = 32 then x7 l else c :: l
def yV (s : List UInt8) : List UInt8 := (x7 (x7 s).reverse).reverse
def kH : List UInt8 → List UInt8 → List (List UInt8)
 | acc, [] => [acc]
 | acc, [c] => [acc ++ [c]]
 | acc, c :: d :: r => if c = 124 ∧ d = 124 then acc :: kH [] r else kH (acc ++ [c]) (d :: r)
def bL {α β : Type} (f : α → Option β) : List α → Option (List β)
 | [] => some []
 | x :: l => match f x, bL f l with
  | some y, some m => some (y :: m)
  | _, _ => none
theorem allO_cons {α β : Type} {f : α → Option β} {x : α} {l : List α} {y : β} {m : List β} (h1 : f x = some y) (h2 : bL f l = some m) : bL f (x :: l) = some (y :: m) := by
 show (match f x, bL f l with | some y, some m => some (y :: m) | _, _ => none) = _
 rw [h1, h2]
theorem allO_inv {α β : Type} {f : α → Option β} {x : α} {l : List α} {m : List β} (h : bL f (x :: l) = some m) : ∃ y m', m = y :: m' ∧ f x = some y ∧ bL f l = some m' := by
 have h : (match f x, bL f l with | some y, some m => some (y :: m) | _, _ => none) = some m := h
 cases h1 : f x with
 | none => rw [h1] at h; cases h
 | some y =>
  cases h2 : bL f l with
  | none => rw [h1, h2] at h; cases h
  | some m' => rw [h1, h2] at h; injection h with h; exact ⟨y, m', h.symm, rfl, rfl⟩
theorem allO_none {α β : Type} {f : α → Option β} : ∀ {l : List α} {x : α}, x ∈ l → f x = none → bL f l = none
 | y :: l, x, hx, h => by
  show (match f y, bL f l with | some y, some m => some (y :: m) | _, _ => none) = _
  rcases List.mem_cons.1 hx with rfl | hx
  ·rw [h]
  ·rw [allO_none hx h]; cases f y <;> rfl
theorem m5 {α β : Type} {f : α → Option β} : ∀ {l : List α} {m : List β}, bL f l = some m → m.length = l.length
 | [], m, h => by injection h with h; subst h; rfl
 | x :: l, m, h => by
  obtain ⟨y, m', rfl, _, h2⟩ := allO_inv h
  rw [List.length_cons, List.length_cons, m5 h2]
theorem allO_app {α β : Type} {f : α → Option β} {b : List α} {n : List β} (hb : bL f b = some n) : ∀ {a : List α} {m : List β}, bL f a = some m → bL f (a ++ b) = some (m ++ n)
 | [], m, h => by injection h with h; subst h; exact hb
 | x :: a, m, h => by
  obtain ⟨y, m', rfl, h1, h2⟩ := allO_inv h
  exact allO_cons h1 (allO_app hb h2)
theorem allO_snoc {α β : Type} {f : α → Option β} {a : List α} {m : List β} {x : α} {y : β} (h : bL f a = some m) (h1 : f x = some y) : bL f (a ++ [x]) = some (m ++ [y]) := allO_app (allO_cons h1 rfl) h
theorem allO_back {α β : Type} {f : α → Option β} : ∀ {l : List α} {m : List β}, bL f l = some m → ∀ y ∈ m, ∃ x ∈ l, f x = some y
 | [], m, h, y, hy => by injection h with h; subst h; cases hy
 | z :: l, m, h, y, hy => by
  obtain ⟨w, m', rfl, h1, h2⟩ := allO_inv h
  rcases List.mem_cons.1 hy with rfl | hy
  ·exact ⟨z, List.mem_cons_self .., h1⟩
  ·obtain ⟨x, hx, e⟩ := allO_back h2 y hy
   exact ⟨x, List.mem_cons_of_mem _ hx, e⟩
def parseP (s : List UInt8) : Option Co := g8 (yV s)
def parseA (s : List UInt8) : Option (List Co) := bL parseP (zD 44 [] s)
def gK (s : List UInt8) : Option (List (List Co)) := bL parseA (kH [] s)
def g7 (s : List UInt8) : Option (List (List Co)) := if 96 < s.length then none else (gK s).filter rgMay
def dA (s : List UInt8) : Int := if 96 < s.length then 3 else match gK s with
 | none => 6
 | some r => if fewR r then (if (v7 r).length ≤ 96 then 0 else 3) else 6
def blanks (n : Nat) : List UInt8 := List.replicate n 32
theorem altsL_ne : ∀ (s acc : List UInt8), kH acc s ≠ []
 | [], acc => by simp [kH]
 | [c], acc => by simp [kH]
 | c :: d :: r, acc => by
  rw [kH]
  split
  ·simp
  ·exact altsL_ne (d :: r) _
theorem altsL_le : ∀ (s acc : List UInt8), ∀ x ∈ kH acc s, x.length ≤ acc.length + s.length
 | [], acc, x, hx => by
  have : x = acc := by simpa [kH] using hx
  subst this; simp
 | [c], acc, x, hx => by
  have : x = acc ++ [c] := by simpa [kH] using hx
  subst this; simp
 | c :: d :: r, acc, x, hx => by
  rw [kH] at hx
  split at hx
  ·rcases List.mem_cons.1 hx with rfl | hx
   ·simp only [List.length_cons]; omega
   ·have := altsL_le r [] x hx
    simp only [List.length_cons, List.length_nil] at this ⊢; omega
  ·have := altsL_le (d :: r) (acc ++ [c]) x hx
   simp only [List.length_append, List.length_cons, List.length_nil] at this ⊢; omega
theorem tL : ∀ (s acc : List UInt8), (kH acc s).length ≤ s.length + 1
 | [], acc => by simp [kH]
 | [c], acc => by simp [kH]
 | c :: d :: r, acc => by
  rw [kH]
  split
  ·have := tL r []; simp only [List.length_cons]; omega
  ·have := tL (d :: r) (acc ++ [c]); simp only [List.length_cons] at this ⊢; omega
inductive Two {α β : Type} (R : α → β → Prop) : List α → List β → Prop
 | nil : Two R [] []
 | cons {x : α} {y : β} {l : List α} {m : List β} (h : R x y) (t : Two R l m) : Two R (x :: l) (y :: m)
def SpellC (s : List UInt8) (c : Co) : Prop := ∃ n m, s = blanks n ++ c.text ++ blanks m
def SpellA (s : List UInt8) (a : List Co) : Prop := ∃ ps, s = zG 44 ps ∧ Two SpellC ps a ∧ ps ≠ []
def SpellR (s : List UInt8) (r : List (List Co)) : Prop := ∃ l, s = jJ [124, 124] l ∧ Two SpellA l r ∧ l ≠ []
theorem text_ne {c : Co} (h : c.may = true) : c.text ≠ [] := by
 intro e
 have := (mK c.text c).2 ⟨h, .inl rfl⟩
 rw [e] at this
 revert this
 have : g8 [] = none := by decide
 rw [this]; simp
theorem err_some {s : List UInt8} {r : List (List Co)} (h : g7 s = some r) : dA s = 0 ∧ rgMay r = true ∧ gK s = some r ∧ s.length ≤ 96 := by
 unfold g7 at h
 split at h
 ·cases h
 ·rename_i hl
  cases hp : gK s with
  | none => rw [hp] at h; cases h
  | some q =>
   rw [hp] at h
   unfold Option.filter at h
   simp only at h
   split at h
   ·rename_i hm
    injection h with h
    subst h
    obtain ⟨k1, k2⟩ := rgMay.facts hm
    refine ⟨?_, hm, rfl, by omega⟩
    unfold dA
    rw [if_neg hl, hp]
    simp only
    rw [if_pos k1, if_pos k2]
   ·cases h
theorem err_none {s : List UInt8} (h : g7 s = none) : dA s = 3 ∨ dA s = 6 := by
 unfold g7 at h
 unfold dA
 split at h
 ·rename_i hl; rw [if_pos hl]; exact .inl rfl
 ·rename_i hl
  rw [if_neg hl]
  cases hp : gK s with
  | none => exact .inr rfl
  | some q =>
   rw [hp] at h
   simp only
   cases h1 : fewR q with
   | false => exact .inr rfl
   | true =>
    rw [if_pos rfl]
    by_cases h2 : (v7 q).length ≤ 96
    ·exfalso
     have : rgMay q = true := by unfold rgMay; rw [h1, decide_eq_true h2]; rfl
     simp [Option.filter, this] at h
    ·rw [if_neg h2]; exact .inl rfl
end
section
def gD (n : Nd) : Bool := decide (n.op = 1) && decide (0 ≤ n.key) && decide (n.key < 3) && wdL n.text && decide (n.a = 0) && decide (n.b = 0)
def p5 (n : Nd) : Bool := decide (n.key = 0) && decide (n.text = [])
def wQ (st : List (Nat × Tr)) (n : Nd) : Bool := match st with
 | p :: _ => decide (n.op = 2) && p5 n && decide (n.a = (p.1 : Int)) && decide (n.b = 0)
 | [] => false
def isBin (st : List (Nat × Tr)) (n : Nd) : Bool := match st with
 | p :: q :: _ => (decide (n.op = 3) || decide (n.op = 4)) && p5 n && decide (n.a = (q.1 : Int)) && decide (n.b = (p.1 : Int))
 | _ => false
def stp (i : Nat) (st : List (Nat × Tr)) (n : Nd) : Option (List (Nat × Tr)) :=
 if gD n then some ((i, .is n.key.toNat n.text) :: st)
 else if wQ st n then (match st with | p :: r => some ((i, .no p.2) :: r) | [] => none)
 else if isBin st n then (match st with | p :: q :: r => some ((i, if n.op = 3 then .both q.2 p.2 else .one q.2 p.2) :: r) | _ => none)
 else none
def qE : Nat → List (Nat × Tr) → List Nd → Option (List (Nat × Tr))
 | _, st, [] => some st
 | i, st, n :: r => match stp i st n with | some s => qE (i + 1) s r | none => none
def qH (l : List Nd) : Option Tr := match qE 0 [] l with
 | some [p] => some p.2
 | _ => none
theorem fI : ∀ (a b : List Nd) (i : Nat) (st s : List (Nat × Tr)), qE i st a = some s → qE i st (a ++ b) = qE (i + a.length) s b
 | [], b, i, st, s, h => by rw [qE] at h; obtain rfl := Option.some.inj h; rfl
 | n :: a, b, i, st, s, h => by
  rw [qE] at h
  rw [List.cons_append, qE]
  cases hs : stp i st n with
  | none => rw [hs] at h; cases h
  | some s' =>
   rw [hs] at h
   have := fI a b (i + 1) s' s h
   show qE (i + 1) s' (a ++ b) = _
   rw [this, List.length_cons, show i + 1 + a.length = i + (a.length + 1) by omega]
theorem tX {o i j : Nat} {st : List (Nat × Tr)} {n : Nd} (h : n.op ≠ 1) : gD n = false := by
 unfold gD; rw [decide_eq_false h]; rfl
theorem pB : ∀ (t : Tr) (o : Nat) (st : List (Nat × Tr)), t.ok = true → qE o st (t.enc o) = some ((o + t.sz - 1, t) :: st)
 | .is k v, o, st, h => by
  unfold Tr.ok at h
  simp only [Bool.and_eq_true, decide_eq_true_eq] at h
  have hl : gD ⟨1, 0, 0, (k : Int), v⟩ = true := by unfold gD; simp [h.2]; omega
  show qE o st [⟨1, 0, 0, (k : Int), v⟩] = _
  have hs : stp o st ⟨1, 0, 0, (k : Int), v⟩ = some ((o, .is k v) :: st) := by unfold stp; rw [if_pos hl]; simp
  rw [qE, hs]
  simp [qE, Tr.sz]
 | .no x, o, st, h => by
  have hx : x.ok = true := h
  have ih := pB x o st hx
  have hz := x.sz_pos
  rw [Tr.enc, fI _ _ _ _ _ ih, Tr.enc_len, qE, stp, if_neg (by rw [tX (o := 0) (i := 0) (j := 0) (st := [])] <;> simp)]
  have hn : wQ ((o + x.sz - 1, x) :: st) ⟨2, ((o + x.sz - 1 : Nat) : Int), 0, 0, []⟩ = true := by unfold wQ p5; simp
  rw [if_pos hn]
  show qE _ _ [] = _
  rw [qE, show o + x.sz = o + (Tr.no x).sz - 1 from by show _ = o + (x.sz + 1) - 1; omega]
 | .both x y, o, st, h => by
  unfold Tr.ok at h
  rw [Bool.and_eq_true] at h
  have hx := pB x o st h.1
  have hy := pB y (o + x.sz) ((o + x.sz - 1, x) :: st) h.2
  have hz := x.sz_pos
  have hz2 := y.sz_pos
  rw [Tr.enc, List.append_assoc, fI _ _ _ _ _ hx, Tr.enc_len, fI _ _ _ _ _ hy, Tr.enc_len, qE, stp, if_neg (by rw [tX (o := 0) (i := 0) (j := 0) (st := [])] <;> simp)]
  have hn : wQ ((o + x.sz + y.sz - 1, y) :: (o + x.sz - 1, x) :: st) ⟨3, ((o + x.sz - 1 : Nat) : Int), ((o + x.sz + y.sz - 1 : Nat) : Int), 0, []⟩ = false := by unfold wQ; simp
  have hb : isBin ((o + x.sz + y.sz - 1, y) :: (o + x.sz - 1, x) :: st) ⟨3, ((o + x.sz - 1 : Nat) : Int), ((o + x.sz + y.sz - 1 : Nat) : Int), 0, []⟩ = true := by unfold isBin p5; simp
  rw [if_neg (by rw [hn]; simp), if_pos hb]
  show qE _ _ [] = _
  rw [qE, show o + x.sz + y.sz = o + (Tr.both x y).sz - 1 from by show _ = o + (x.sz + y.sz + 1) - 1; omega]; rfl
 | .one x y, o, st, h => by
  unfold Tr.ok at h
  rw [Bool.and_eq_true] at h
  have hx := pB x o st h.1
  have hy := pB y (o + x.sz) ((o + x.sz - 1, x) :: st) h.2
  have hz := x.sz_pos
  have hz2 := y.sz_pos
  rw [Tr.enc, List.append_assoc, fI _ _ _ _ _ hx, Tr.enc_len, fI _ _ _ _ _ hy, Tr.enc_len, qE, stp, if_neg (by rw [tX (o := 0) (i := 0) (j := 0) (st := [])] <;> simp)]
  have hn : wQ ((o + x.sz + y.sz - 1, y) :: (o + x.sz - 1, x) :: st) ⟨4, ((o + x.sz - 1 : Nat) : Int), ((o + x.sz + y.sz - 1 : Nat) : Int), 0, []⟩ = false := by unfold wQ; simp
  have hb : isBin ((o + x.sz + y.sz - 1, y) :: (o + x.sz - 1, x) :: st) ⟨4, ((o + x.sz - 1 : Nat) : Int), ((o + x.sz + y.sz - 1 : Nat) : Int), 0, []⟩ = true := by unfold isBin p5; simp
  rw [if_neg (by rw [hn]; simp), if_pos hb]
  show qE _ _ [] = _
  rw [qE, show o + x.sz + y.sz = o + (Tr.one x y).sz - 1 from by show _ = o + (x.sz + y.sz + 1) - 1; omega]; rfl
def Lies : List (Nat × Tr) → List Nd → Prop
 | [], l => l = []
 | p :: r, l => ∃ l0, Lies r l0 ∧ p.2.ok = true ∧ p.1 = l0.length + p.2.sz - 1 ∧ l = l0 ++ p.2.enc l0.length
theorem stp_lies {st s : List (Nat × Tr)} {l : List Nd} {n : Nd} (h : Lies st l) (hs : stp l.length st n = some s) : Lies s (l ++ [n]) := by
 unfold stp at hs
 split at hs
 ·rename_i hl
  obtain rfl := Option.some.inj hs
  unfold gD at hl
  simp only [Bool.and_eq_true, decide_eq_true_eq] at hl
  obtain ⟨⟨⟨⟨⟨h1, h2⟩, h3⟩, h4⟩, h5⟩, h6⟩ := hl
  refine ⟨l, h, ?_, ?_, ?_⟩
  ·show Tr.ok (.is n.key.toNat n.text) = true
   unfold Tr.ok; simp [h4]; omega
  ·show l.length = l.length + 1 - 1; omega
  ·show l ++ [n] = l ++ [⟨1, 0, 0, ((n.key.toNat : Nat) : Int), n.text⟩]
   obtain ⟨op, a, b, key, text⟩ := n
   simp only at h1 h2 h3 h4 h5 h6
   subst h1; subst h5; subst h6
   rw [Int.toNat_of_nonneg h2]
 ·split at hs
  ·rename_i hl
   match st, hs, hl, h with
   | p :: r, hs, hl, h =>
    simp only [Option.some.injEq] at hs
    subst hs
    unfold wQ p5 at hl
    simp only [Bool.and_eq_true, decide_eq_true_eq] at hl
    obtain ⟨⟨⟨h1, h2, h3⟩, h4⟩, h5⟩ := hl
    obtain ⟨l0, hr, hok, hp, rfl⟩ := h
    refine ⟨l0, hr, hok, ?_, ?_⟩
    ·show (l0 ++ p.2.enc l0.length).length = l0.length + (p.2.sz + 1) - 1
     rw [List.length_append, Tr.enc_len]; omega
    ·show l0 ++ p.2.enc l0.length ++ [n] = l0 ++ (p.2.enc l0.length ++ [⟨2, ((l0.length + p.2.sz - 1 : Nat) : Int), 0, 0, []⟩])
     obtain ⟨op, a, b, key, text⟩ := n
     simp only at h1 h2 h3 h4 h5
     subst h1; subst h2; subst h3; subst h4; subst h5
     rw [List.append_assoc, hp]
  ·split at hs
   ·rename_i hl
    match st, hs, hl, h with
    | p :: q :: r, hs, hl, h =>
     simp only [Option.some.injEq] at hs
     subst hs
     unfold isBin p5 at hl
     simp only [Bool.and_eq_true, Bool.or_eq_true, decide_eq_true_eq] at hl
     obtain ⟨⟨⟨h1, h2, h3⟩, h4⟩, h5⟩ := hl
     obtain ⟨l1, ⟨l0, hr, hok, hq, rfl⟩, hok2, hp, rfl⟩ := h
     have hz := q.2.sz_pos
     have hl1 : (l0 ++ q.2.enc l0.length).length = l0.length + q.2.sz := by rw [List.length_append, Tr.enc_len]
     rw [hl1] at hp ⊢
     obtain ⟨op, a, b, key, text⟩ := n
     simp only at h1 h2 h3 h4 h5
     subst h2; subst h3; subst h4; subst h5
     rcases h1 with h1 | h1
     ·subst h1
      refine ⟨l0, hr, ?_, ?_, ?_⟩
      ·show (Tr.both q.2 p.2).ok = true
       unfold Tr.ok; rw [hok, hok2]; rfl
      ·show (l0 ++ q.2.enc l0.length ++ p.2.enc (l0.length + q.2.sz)).length = l0.length + (q.2.sz + p.2.sz + 1) - 1
       rw [List.length_append, List.length_append, Tr.enc_len, Tr.enc_len]; omega
      ·show l0 ++ q.2.enc l0.length ++ p.2.enc (l0.length + q.2.sz) ++ [_] = l0 ++ (q.2.enc l0.length ++ p.2.enc (l0.length + q.2.sz) ++ [_])
       rw [hq, hp]; simp
     ·subst h1
      refine ⟨l0, hr, ?_, ?_, ?_⟩
      ·show (Tr.one q.2 p.2).ok = true
       unfold Tr.ok; rw [hok, hok2]; rfl
      ·show (l0 ++ q.2.enc l0.length ++ p.2.enc (l0.length + q.2.sz)).length = l0.length + (q.2.sz + p.2.sz + 1) - 1
       rw [List.length_append, List.length_append, Tr.enc_len, Tr.enc_len]; omega
      ·show l0 ++ q.2.enc l0.length ++ p.2.enc (l0.length + q.2.sz) ++ [_] = l0 ++ (q.2.enc l0.length ++ p.2.enc (l0.length + q.2.sz) ++ [_])
       rw [hq, hp]; simp
   ·cases hs
theorem run_lies : ∀ (r l : List Nd) (st s : List (Nat × Tr)), Lies st l → qE l.length st r = some s → Lies s (l ++ r)
 | [], l, st, s, h, hs => by rw [qE] at hs; obtain rfl := Option.some.inj hs; rw [List.append_nil]; exact h
 | n :: r, l, st, s, h, hs => by
  rw [qE] at hs
  cases hq : stp l.length st n with
  | none => rw [hq] at hs; cases hs
  | some s1 =>
   rw [hq] at hs
   have h1 := stp_lies h hq
   have := run_lies r (l ++ [n]) s1 s h1 (by rw [List.length_append]; exact hs)
   rw [List.append_assoc] at this
   exact this
theorem treeOf_iff {l : List Nd} {t : Tr} : qH l = some t ↔ t.ok = true ∧ l = t.enc 0 := by
 constructor
 ·intro h
  unfold qH at h
  cases hr : qE 0 [] l with
  | none => rw [hr] at h; cases h
  | some s =>
   rw [hr] at h
   match s, h with
   | [p], h =>
    obtain rfl := Option.some.inj h
    obtain ⟨l0, hl0, hok, _, e⟩ := run_lies l [] [] [p] rfl hr
    have : l0 = [] := hl0
    subst this
    exact ⟨hok, e⟩
 ·rintro ⟨h, rfl⟩
  unfold qH
  rw [pB t 0 [] h]
theorem mA {t : Tr} (h : t.ok = true) : qH (t.enc 0) = some t := treeOf_iff.2 ⟨h, rfl⟩
def nQ (l : List Nd) : Bool := match qH l with
 | some t => decide (t.sz ≤ 15) && decide (t.text.length ≤ 96)
 | none => decide (l = [])
theorem tG {l : List Nd} (h : nQ l = true) : l = [] ∨ ∃ t : Tr, t.ok = true ∧ l = t.enc 0 ∧ t.sz ≤ 15 ∧ t.text.length ≤ 96 := by
 unfold nQ at h
 cases ht : qH l with
 | none => rw [ht] at h; exact .inl (of_decide_eq_true h)
 | some t =>
  rw [ht] at h
  simp only [Bool.and_eq_true, decide_eq_true_eq] at h
  have := treeOf_iff.1 ht
  exact .inr ⟨t, this.1, this.2, h.1, h.2⟩
theorem mayM_enc {t : Tr} (h : t.ok = true) : nQ (t.enc 0) = (decide (t.sz ≤ 15) && decide (t.text.length ≤ 96)) := by unfold nQ; rw [mA h]
abbrev Pf := Nat → List UInt8
def evT (e : Pf) : Tr → Int
 | .is k t => if e k = [] then 1 else if e k = t then 2 else 0
 | .no x => 2 - evT e x
 | .both x y => min (evT e x) (evT e y)
 | .one x y => max (evT e x) (evT e y)
def vlT (e : Pf) : Tr → List Int
 | .is k t => [evT e (.is k t)]
 | .no x => vlT e x ++ [evT e (.no x)]
 | .both x y => vlT e x ++ vlT e y ++ [evT e (.both x y)]
 | .one x y => vlT e x ++ vlT e y ++ [evT e (.one x y)]
def Ext (e g : Pf) : Prop := ∀ k, e k ≠ [] → g k = e k
def t1 (e : Pf) : Tr → Tr
 | .is k t => .is k t
 | .no x => .no (t1 e x)
 | .both x y => if evT e y ≠ 1 then t1 e x else if evT e x ≠ 1 then t1 e y else .both (t1 e x) (t1 e y)
 | .one x y => if evT e y ≠ 1 then t1 e x else if evT e x ≠ 1 then t1 e y else .one (t1 e x) (t1 e y)
def Asks (p : Nat → Prop) : Tr → Prop
 | .is k _ => p k
 | .no x => Asks p x
 | .both x y => Asks p x ∧ Asks p y
 | .one x y => Asks p x ∧ Asks p y
def truthT (e : Pf) : Tr → Bool
 | .is k t => decide (e k = t)
 | .no x => !truthT e x
 | .both x y => truthT e x && truthT e y
 | .one x y => truthT e x || truthT e y
end
section
def tl : List Tok → Nat
 | [] => 0
 | x :: r => x.length + 1 + tl r
theorem tl_app : ∀ a b : List Tok, tl (a ++ b) = tl a + tl b
 | [], b => by simp [tl]
 | x :: a, b => by rw [List.cons_append, tl, tl, tl_app a b]; omega
theorem tl_join : ∀ l : List Tok, l ≠ [] → (zG 32 l).length + 1 = tl l
 | [], h => absurd rfl h
 | [x], _ => by simp [zG, tl]
 | x :: y :: r, _ => by
  have := tl_join (y :: r) (by simp)
  rw [zG, tl, ← this]; simp; omega
theorem tU (c : Bool) (l : List Tok) : tl (vZ c l) = tl l + if c then 4 else 0 := by
 unfold vZ
 cases c with
 | false => simp
 | true => simp [tl, tl_app, yQ, x4]; omega
def Tr.w (t : Tr) : Nat := tl t.tok
def Tr.w1 (t : Tr) : Nat := t.w + if t.isOne then 4 else 0
def Tr.w2 (t : Tr) : Nat := t.w + if t.isBin then 4 else 0
theorem Tr.text_w (t : Tr) : t.text.length + 1 = t.w := tl_join _ t.tok_ne
theorem Tr.w_le (t : Tr) : t.w ≤ t.w1 ∧ t.w1 ≤ t.w2 ∧ t.w2 ≤ t.w + 4 := by
 unfold Tr.w1 Tr.w2
 cases t <;> simp [Tr.isOne, Tr.isBin]
theorem w_both (x y : Tr) : (Tr.both x y).w = x.w1 + 4 + y.w2 := by
 unfold Tr.w Tr.w1 Tr.w2 Tr.w
 rw [Tr.tok, tl_app, tU, tl, tU]; simp [jM]; omega
theorem w_one (x y : Tr) : (Tr.one x y).w = x.w + 3 + y.w1 := by
 unfold Tr.w Tr.w1 Tr.w
 rw [Tr.tok, tl_app, tl, tU]; simp [tOr]; omega
theorem w_is (k : Nat) (t : Tok) : (Tr.is k t).w = (g0 k).length + t.length + 4 := by
 unfold Tr.w
 rw [Tr.tok]; simp [tl, tEq]; omega
theorem w_no (x : Tr) : (Tr.no x).w ≤ x.w2 + 4 ∧ x.w + 1 ≤ (Tr.no x).w := by
 cases x with
 | is k t =>
  have := w_is k t
  unfold Tr.w2
  have e : (Tr.no (.is k t)).w = (g0 k).length + t.length + 5 := by unfold Tr.w; rw [Tr.tok]; simp [tl, tNe]; omega
  simp [Tr.isBin]; omega
 | no y => unfold Tr.w2 Tr.w; rw [show (Tr.no (.no y)).tok = xK :: (Tr.no y).tok from rfl, tl]; simp [Tr.isBin, xK]; omega
 | both y z => unfold Tr.w2 Tr.w; rw [show (Tr.no (.both y z)).tok = xK :: vZ true (Tr.both y z).tok from rfl, tl, tU]; simp [Tr.isBin, xK]; omega
 | one y z => unfold Tr.w2 Tr.w; rw [show (Tr.no (.one y z)).tok = xK :: vZ true (Tr.one y z).tok from rfl, tl, tU]; simp [Tr.isBin, xK]; omega
def gU (l : List Nd) : List UInt8 := if nQ l then (match qH l with | some t => t.text | none => []) else []
def kA (s : List UInt8) : List Tok := zD 32 [] s
def Tr.fit (t : Tr) : Bool := decide (t.sz ≤ 15) && decide (t.text.length ≤ 96)
def wJ (s : List UInt8) : Option Tr := match pOr (kA s).length (kA s) with
 | some (t, []) => if t.fit then some t else none
 | _ => none
def errM (s : List UInt8) : Int := if 96 < s.length then 3 else if s = [] then 0 else match wJ s with | some _ => 0 | none => 7
def bG (s : List UInt8) : List Nd := if 96 < s.length then [] else if s = [] then [] else match wJ s with | some t => t.enc 0 | none => []
def pfOk (e : Pf) : Bool := (decide (e 0 = []) || wdL (e 0)) && (decide (e 1 = []) || wdL (e 1)) && (decide (e 2 = []) || wdL (e 2))
def evalM (l : List Nd) (e : Pf) : Int := if nQ l && pfOk e then (match qH l with | some t => evT e t | none => 2) else 0
def underM (l : List Nd) (e : Pf) : List Nd := if evalM l e = 1 then (match qH l with | some t => (t1 e t).enc 0 | none => []) else []
theorem fit_may {t : Tr} (h : t.ok = true) : nQ (t.enc 0) = t.fit := by rw [mayM_enc h]; rfl
theorem printM_enc {t : Tr} (h : t.ok = true) (hf : t.fit = true) : gU (t.enc 0) = t.text := by
 unfold gU
 rw [fit_may h, hf, mA h]; rfl
theorem wordGo_no {b : UInt8} (hb : wdB b.toNat = false) : ∀ (l : List UInt8), jL l = true → b ∉ l
 | [], _ => by simp
 | c :: r, h => by
  have hc : wdB c.toNat = true := by
   unfold jL at h
   unfold wdB
   rw [Bool.and_eq_true] at h; exact h.1
  rw [p6 c r hc] at h
  intro hm
  rcases List.mem_cons.1 hm with e | hm
  ·subst e; rw [hb] at hc; cases hc
  ·exact wordGo_no hb r h hm
theorem wdL_no {s : List UInt8} {b : UInt8} (hb : wdB b.toNat = false) (h : wdL s = true) : b ∉ s := by
 unfold wdL at h
 rw [Bool.and_eq_true] at h; exact wordGo_no hb s h.2
theorem text10_ne (t : Tr) : t.text ≠ [] := by
 intro e
 have h := t.text_w
 rw [e] at h
 have : ∀ t : Tr, 5 ≤ t.w := fun t => by
  induction t with
  | is k v => rw [w_is]; unfold g0; split <;> (try split) <;> simp <;> omega
  | no x ih => have := (w_no x).2; omega
  | both x y ihx ihy => rw [w_both]; have := y.w_le; omega
  | one x y ihx ihy => rw [w_one]; omega
 have := this t
 simp at h; omega
def Oks (part : List Tok → Option (Tr × List Tok)) : Prop := ∀ ts t r, part ts = some (t, r) → t.ok = true
theorem pLoop_ok {part : List Tok → Option (Tr × List Tok)} (hp : Oks part) (w : Tok) {mk : Tr → Tr → Tr} (hmk : ∀ a b, a.ok = true → b.ok = true → (mk a b).ok = true) : ∀ (k : Nat) (a : Tr) (ts : List Tok) (t : Tr) (r : List Tok), a.ok = true → vD part w mk k a ts = some (t, r) → t.ok = true
 | 0, a, ts, t, r, ha, h => by simp only [vD, Option.some.injEq, Prod.mk.injEq] at h; rw [← h.1]; exact ha
 | k + 1, a, [], t, r, ha, h => by simp only [vD, Option.some.injEq, Prod.mk.injEq] at h; rw [← h.1]; exact ha
 | k + 1, a, c :: q, t, r, ha, h => by
  rw [vD] at h
  split at h
  ·cases hq : part q with
   | none => rw [hq] at h; cases h
   | some x =>
    obtain ⟨b, r'⟩ := x
    rw [hq] at h
    exact pLoop_ok hp w hmk k (mk a b) r' t r (hmk a b ha (hp _ _ _ hq)) h
  ·simp only [Option.some.injEq, Prod.mk.injEq] at h; rw [← h.1]; exact ha
theorem pE {part : List Tok → Option (Tr × List Tok)} (hp : Oks part) (w : Tok) {mk : Tr → Tr → Tr} (hmk : ∀ a b, a.ok = true → b.ok = true → (mk a b).ok = true) : Oks (gF part w mk) := fun ts t r h => by
 unfold gF at h
 cases hq : part ts with
 | none => rw [hq] at h; cases h
 | some x =>
  obtain ⟨a, r'⟩ := x
  rw [hq] at h
  exact pLoop_ok hp w hmk _ _ _ _ _ (hp _ _ _ hq) h
theorem both_ok {a b : Tr} (ha : a.ok = true) (hb : b.ok = true) : (Tr.both a b).ok = true := by unfold Tr.ok; rw [ha, hb]; rfl
theorem one_ok {a b : Tr} (ha : a.ok = true) (hb : b.ok = true) : (Tr.one a b).ok = true := by unfold Tr.ok; rw [ha, hb]; rfl
theorem keyN_lt {c : Tok} {n : Nat} (h : keyN c = some n) : n < 3 ∧ g0 n = c := by
 unfold keyN at h
 split at h
 ·rename_i e; obtain rfl := Option.some.inj h; exact ⟨by decide, e.symm⟩
 ·split at h
  ·rename_i e; obtain rfl := Option.some.inj h; exact ⟨by decide, e.symm⟩
  ·split at h
   ·rename_i e; obtain rfl := Option.some.inj h; exact ⟨by decide, e.symm⟩
   ·cases h
theorem atom_ok {k s v : Tok} {t : Tr} (h : dS k s v = some t) : t.ok = true := by
 unfold dS at h
 cases hk : keyN k with
 | none => rw [hk] at h; cases h
 | some n =>
  rw [hk] at h
  have hn := (keyN_lt hk).1
  simp only at h
  split at h
  ·rename_i hv
   have ho : (Tr.is n v).ok = true := by unfold Tr.ok; rw [decide_eq_true hn, hv]; rfl
   split at h
   ·obtain rfl := Option.some.inj h; exact ho
   ·split at h
    ·obtain rfl := Option.some.inj h; exact ho
    ·cases h
  ·cases h
theorem pFac_ok : ∀ n, Oks (qS n)
 | 0 => fun ts t r h => by cases h
 | n + 1 => fun ts t r h => by
  have ih := pFac_ok n
  cases ts with
  | nil => cases h
  | cons c q =>
   rw [qS] at h
   split at h
   ·cases hq : qS n q with
    | none => rw [hq] at h; cases h
    | some x =>
     obtain ⟨a, r'⟩ := x
     rw [hq] at h
     simp only [pNo, Option.some.injEq, Prod.mk.injEq] at h
     have ha : a.ok = true := ih _ _ _ hq
     rw [← h.1]; exact ha
   ·split at h
    ·cases hq : gF (gF (qS n) jM .both) tOr .one q with
     | none => rw [hq] at h; cases h
     | some x =>
      obtain ⟨a, r'⟩ := x
      rw [hq] at h
      have h1 := pE (pE ih jM (fun a b => both_ok)) tOr (fun a b => one_ok) _ _ _ hq
      cases r' with
      | nil => cases h
      | cons d r2 =>
       rw [tE] at h
       split at h
       ·simp only [Option.some.injEq, Prod.mk.injEq] at h; rw [← h.1]; exact h1
       ·cases h
    ·match q, h with
     | s :: v :: q, h =>
      rw [bB] at h
      cases ha : dS c s v with
      | none => rw [ha] at h; cases h
      | some x => rw [ha] at h; simp only [Option.some.injEq, Prod.mk.injEq] at h; rw [← h.1]; exact atom_ok ha
     | [], h => cases h
     | [s], h => cases h
theorem pOr_ok (n : Nat) : Oks (pOr n) := pE (pE (pFac_ok n) jM (fun a b => both_ok)) tOr (fun a b => one_ok)
theorem readM_ok {s : List UInt8} {t : Tr} (h : wJ s = some t) : t.ok = true ∧ t.fit = true := by
 unfold wJ at h
 split at h
 ·rename_i t' hq
  split at h
  ·rename_i hf; obtain rfl := Option.some.inj h; exact ⟨pOr_ok _ _ _ _ hq, hf⟩
  ·cases h
 ·cases h
end
section
def v8 (s : List UInt8) : Bool := decide (dA s = 0) && decide (mH ((g7 s).getD []) = s)
def kK (s : List UInt8) : Bool := decide (errM s = 0) && decide (gU (bG s) = s)
def wfsOk (l : List (List UInt8)) (alone : Bool) : Bool := l.all wdL && decide (l.length ≤ 6) && j8 l && (alone || decide (l = []))
def vT (own : List UInt8) (x : Wt) (alone : Bool) : Int :=
 if nmL x.name = false then 4 else if x.name = own then 8 else if v8 x.rng = false then 6 else if wfsOk x.fs alone = false then 11 else 0
def x1 {α : Type} (f : α → Int) : List α → Int
 | [] => 0
 | a :: r => if f a = 0 then x1 f r else f a
theorem nW {α : Type} {f : α → Int} : ∀ {l : List α}, (∀ x ∈ l, f x = 0) → x1 f l = 0
 | [], _ => rfl
 | a :: r, h => by rw [x1, if_pos (h a (List.mem_cons_self ..)), nW fun x hx => h x (List.mem_cons_of_mem _ hx)]
theorem firstE_at {α : Type} {f : α → Int} : ∀ {l : List α} {i : Nat} (hi : i < l.length), (∀ x ∈ l.take i, f x = 0) → f l[i] ≠ 0 → x1 f l = f l[i]
 | a :: r, 0, _, _, h => by
  have h' : f a ≠ 0 := h
  rw [x1, if_neg h']; rfl
 | a :: r, i + 1, hi, h0, h => by
  rw [x1, if_pos (h0 a (by simp))]
  exact firstE_at (l := r) (i := i) (by simpa using hi) (fun x hx => h0 x (by rw [List.take_succ_cons]; exact List.mem_cons_of_mem _ hx)) h
theorem firstE_map {α β : Type} (f : β → Int) (g : α → β) : ∀ l : List α, x1 f (l.map g) = x1 (fun x => f (g x)) l
 | [] => rfl
 | a :: r => by rw [List.map_cons, x1, x1, firstE_map f g r]
def k8 {α : Type} (f : α → Int) : Nat → List α → Int × Int
 | _, [] => (0, 0)
 | k, a :: r => if f a = 0 then k8 f (k + 1) r else (f a, (k : Int))
theorem dQ {α : Type} {f : α → Int} : ∀ {l : List α} {k : Nat}, (∀ x ∈ l, f x = 0) → k8 f k l = (0, 0)
 | [], _, _ => rfl
 | a :: r, k, h => by rw [k8, if_pos (h a (List.mem_cons_self ..)), dQ fun x hx => h x (List.mem_cons_of_mem _ hx)]
theorem pN {α : Type} {f : α → Int} : ∀ {l : List α} {i : Nat} (k : Nat) (hi : i < l.length), (∀ x ∈ l.take i, f x = 0) → f l[i] ≠ 0 → k8 f k l = (f l[i], ((k + i : Nat) : Int))
 | a :: r, 0, k, _, _, h => by
  have h' : f a ≠ 0 := h
  rw [k8, if_neg h']; rfl
 | a :: r, i + 1, k, hi, h0, h => by
  rw [k8, if_pos (h0 a (by simp)), pN (l := r) (i := i) (k + 1) (by simpa using hi) (fun x hx => h0 x (by rw [List.take_succ_cons]; exact List.mem_cons_of_mem _ hx)) h, show k + 1 + i = k + (i + 1) by omega]; rfl
theorem mR {α β : Type} (f : β → Int) (g : α → β) : ∀ (l : List α) (k : Nat), k8 f k (l.map g) = k8 (fun x => f (g x)) k l
 | [], _ => rfl
 | a :: r, k => by rw [List.map_cons, k8, k8, mR f g r]
def vE (own : List UInt8) (n : Nt) : Int :=
 if n.any = [] then 9 else if 3 < n.any.length then 3 else if x1 (fun x => vT own x (decide (n.any.length = 1))) n.any ≠ 0 then x1 (fun x => vT own x (decide (n.any.length = 1))) n.any
 else if kK n.wh = false then 7 else if n.opt ≠ [] ∧ wdL n.opt = false then 14 else 0
def fC (own : List UInt8) (b : Bt) : Int :=
 if nmL b.name = false then 4 else if b.name = own then 8 else if v8 b.rng = false then 6 else if kK b.wh = false then 7 else 0
def optR (l : List Nt) (s : List UInt8) : Bool := l.any fun n => decide (n.opt = s)
def pulN (s : List UInt8) (n : Nt) : Bool := match n.any with
 | [x] => decide (x.name = s)
 | _ => false
def pulR (l : List Nt) (s : List UInt8) : Bool := l.any (pulN s)
def gM (l : List Nt) (s : List UInt8) : Int :=
 if (yD s).1 = 2 ∧ optR l (wordOf s) = false then 14 else if (yD s).1 = 3 ∧ pulR l (wordOf s) = false then 16 else 0
def jO (r : Rt) : Int × Int :=
 if (k8 (vE r.name) 0 r.needs).1 ≠ 0 then k8 (vE r.name) 0 r.needs
 else if (k8 (fC r.name) 0 r.bars).1 ≠ 0 then k8 (fC r.name) 0 r.bars
 else if n9 r.fts = false then (11, 0)
 else k8 (fun f : Ft => x1 (gM r.needs) f.of) 0 r.fts
def kR (r : Rt) : Int × Int :=
 if nmL r.name = false then (4, 0) else if r.ver.may = false then (5, 0) else if 8 < r.needs.length ∨ 8 < r.bars.length then (3, 0)
 else if (jO r).1 ≠ 0 then jO r else if 4096 < (vN r).length then (3, 0) else (0, 0)
end
section
theorem firstE_zero {α : Type} {f : α → Int} : ∀ {l : List α}, x1 f l = 0 → ∀ x ∈ l, f x = 0
 | [], _, x, h => by cases h
 | a :: r, h, x, hx => by
  by_cases h0 : f a = 0
  ·rw [x1, if_pos h0] at h
   rcases List.mem_cons.1 hx with rfl | hx
   ·exact h0
   ·exact firstE_zero h x hx
  ·rw [x1, if_neg h0] at h; exact absurd h h0
theorem dP {α : Type} {f : α → Int} : ∀ {l : List α} {k : Nat}, (k8 f k l).1 = 0 → ∀ x ∈ l, f x = 0
 | [], _, _, x, h => by cases h
 | a :: r, k, h, x, hx => by
  by_cases h0 : f a = 0
  ·rw [k8, if_pos h0] at h
   rcases List.mem_cons.1 hx with rfl | hx
   ·exact h0
   ·exact dP h x hx
  ·rw [k8, if_neg h0] at h; exact absurd h h0
theorem fm_most {α : Type} (f : α → List UInt8) (k : Nat) : ∀ {l : List α}, (∀ x ∈ l, (f x).length ≤ k) → (l.flatMap f).length ≤ l.length * k
 | [], _ => by simp
 | a :: r, h => by
  have h1 := h a (List.mem_cons_self ..)
  have h2 := fm_most f k (l := r) fun x hx => h x (List.mem_cons_of_mem _ hx)
  rw [List.flatMap_cons, List.length_append, List.length_cons, Nat.add_mul]; omega
theorem jn_most (b : UInt8) (k : Nat) : ∀ {l : List (List UInt8)}, (∀ x ∈ l, x.length ≤ k) → (zG b l).length ≤ l.length * (k + 1)
 | [], _ => by simp [zG]
 | [a], h => by
  have h1 := h a (List.mem_cons_self ..)
  rw [zG]; simp only [List.length_cons, List.length_nil]; omega
 | a :: c :: r, h => by
  have h1 := h a (List.mem_cons_self ..)
  have h2 := jn_most b k (l := c :: r) fun x hx => h x (List.mem_cons_of_mem _ hx)
  rw [zG, List.length_append, List.length_cons, List.length_cons, Nat.add_mul]; omega
theorem nm_short {s : List UInt8} (h : nmL s = true) : s.length ≤ 16 := by
 unfold nmL nameB at h
 simp only [Bool.and_eq_true, decide_eq_true_eq] at h
 have := h.1
 rwa [mkS_size] at this
theorem wd_short {s : List UInt8} (h : wdL s = true) : s.length ≤ 12 := by unfold wdL at h; simp only [Bool.and_eq_true, decide_eq_true_eq] at h; omega
theorem pg_short {s : List UInt8} (h : v8 s = true) : s.length ≤ 96 := by
 unfold v8 dA at h
 simp only [Bool.and_eq_true, decide_eq_true_eq] at h
 have h1 := h.1
 split at h1
 ·exact absurd h1 (by decide)
 ·omega
theorem pm_short {s : List UInt8} (h : kK s = true) : s.length ≤ 96 := by
 unfold kK errM at h
 simp only [Bool.and_eq_true, decide_eq_true_eq] at h
 have h1 := h.1
 split at h1
 ·exact absurd h1 (by decide)
 ·omega
theorem whenT_short {s : List UInt8} (h : kK s = true) : (tS s).length ≤ 102 := by
 have := pm_short h
 unfold tS
 split
 ·simp
 ·simp only [List.length_append, txWhen, List.length_cons, List.length_nil]; omega
theorem wish_fine {own : List UInt8} {x : Wt} {al : Bool} (h : vT own x al = 0) : nmL x.name = true ∧ v8 x.rng = true ∧ wfsOk x.fs al = true := by
 unfold vT at h
 cases h1 : nmL x.name
 ·rw [if_pos h1] at h; simp at h
 ·rw [if_neg (by simp [h1])] at h
  split at h
  ·simp at h
  ·cases h2 : v8 x.rng
   ·rw [if_pos h2] at h; simp at h
   ·rw [if_neg (by simp [h2])] at h
    cases h3 : wfsOk x.fs al
    ·rw [if_pos h3] at h; simp at h
    ·exact ⟨rfl, rfl, rfl⟩
theorem wishT_short {own : List UInt8} {x : Wt} {al : Bool} (h : vT own x al = 0) : (jF x).length ≤ 250 := by
 obtain ⟨h1, h2, h3⟩ := wish_fine h
 have k1 := nm_short h1
 have k2 := pg_short h2
 have k3 : (m8 x.fs).length ≤ 79 := by
  unfold wfsOk at h3
  simp only [Bool.and_eq_true, decide_eq_true_eq, List.all_eq_true] at h3
  unfold m8
  split
  ·simp
  ·have := jn_most 44 12 (l := x.fs) fun s hs => wd_short (h3.1.1.1 s hs)
   have := h3.1.1.2; omega
 have k4 : (n4 x.bare).length = 4 := by unfold n4; cases x.bare <;> rfl
 unfold jF
 simp only [List.length_append, txAny, List.length_cons, List.length_nil]; omega
theorem need_fine {own : List UInt8} {n : Nt} (h : vE own n = 0) : n.any ≠ [] ∧ n.any.length ≤ 3 ∧ (∀ x ∈ n.any, vT own x (decide (n.any.length = 1)) = 0) ∧ kK n.wh = true ∧ (n.opt = [] ∨ wdL n.opt = true) := by
 unfold vE at h
 by_cases h1 : n.any = []
 ·rw [if_pos h1] at h; simp at h
 ·rw [if_neg h1] at h
  by_cases h2 : 3 < n.any.length
  ·rw [if_pos h2] at h; simp at h
  ·rw [if_neg h2] at h
   by_cases h3 : x1 (fun x => vT own x (decide (n.any.length = 1))) n.any = 0
   ·rw [if_neg (by simp [h3])] at h
    cases h4 : kK n.wh
    ·rw [if_pos h4] at h; simp at h
    ·rw [if_neg (by simp [h4])] at h
     refine ⟨h1, by omega, firstE_zero h3, rfl, ?_⟩
     by_cases h5 : n.opt = []
     ·exact .inl h5
     ·cases h6 : wdL n.opt
      ·rw [if_pos ⟨h5, h6⟩] at h; simp at h
      ·exact .inr rfl
   ·rw [if_pos h3] at h; exact absurd h h3
theorem needT_short {own : List UInt8} {n : Nt} (h : vE own n = 0) : (qC n).length ≤ 900 := by
 obtain ⟨_, h2, h3, h4, h5⟩ := need_fine h
 have k1 := fm_most jF 250 (l := n.any) fun x hx => wishT_short (h3 x hx)
 have k2 := whenT_short h4
 have k3 : (optnT n.opt).length ≤ 20 := by
  unfold optnT
  split
  ·simp
  ·rcases h5 with e | e
   ·contradiction
   ·have := wd_short e
    simp only [List.length_append, txOpt, List.length_cons, List.length_nil]; omega
 unfold qC
 simp only [List.length_append, txNeed, List.length_cons, List.length_nil]; omega
theorem bar_fine {own : List UInt8} {b : Bt} (h : fC own b = 0) : nmL b.name = true ∧ v8 b.rng = true ∧ kK b.wh = true := by
 unfold fC at h
 cases h1 : nmL b.name
 ·rw [if_pos h1] at h; simp at h
 ·rw [if_neg (by simp [h1])] at h
  split at h
  ·simp at h
  ·cases h2 : v8 b.rng
   ·rw [if_pos h2] at h; simp at h
   ·rw [if_neg (by simp [h2])] at h
    cases h3 : kK b.wh
    ·rw [if_pos h3] at h; simp at h
    ·exact ⟨rfl, rfl, rfl⟩
theorem barT_short {own : List UInt8} {b : Bt} (h : fC own b = 0) : (fB b).length ≤ 300 := by
 obtain ⟨h1, h2, h3⟩ := bar_fine h
 have k1 := nm_short h1
 have k2 := pg_short h2
 have k3 := whenT_short h3
 unfold fB
 simp only [List.length_append, txBar, List.length_cons, List.length_nil]; omega
theorem parts_fine {r : Rt} (h : (jO r).1 = 0) : (∀ n ∈ r.needs, vE r.name n = 0) ∧ (∀ b ∈ r.bars, fC r.name b = 0) ∧ n9 r.fts = true ∧ ∀ f ∈ r.fts, x1 (gM r.needs) f.of = 0 := by
 unfold jO at h
 by_cases h1 : (k8 (vE r.name) 0 r.needs).1 = 0
 ·rw [if_neg (by simp [h1])] at h
  by_cases h2 : (k8 (fC r.name) 0 r.bars).1 = 0
  ·rw [if_neg (by simp [h2])] at h
   cases h3 : n9 r.fts
   ·rw [if_pos h3] at h; simp at h
   ·rw [if_neg (by simp [h3])] at h
    exact ⟨dP h1, dP h2, rfl, dP h⟩
  ·rw [if_pos h2] at h; exact absurd h h2
 ·rw [if_pos h1] at h; exact absurd h h1
theorem rec_small {r : Rt} (hn : r.name.length ≤ 1000000) (hv : r.ver.print.length ≤ 3000000) (h8 : r.needs.length ≤ 8) (hb8 : r.bars.length ≤ 8) (hp : (jO r).1 = 0) (hf : ∀ f ∈ r.fts, ∀ s ∈ f.of, s.length ≤ 1000000) : (vN r).length ≤ 100000000 := by
 obtain ⟨h1, h2, h3, _⟩ := parts_fine hp
 unfold n9 at h3
 simp only [Bool.and_eq_true, decide_eq_true_eq, List.all_eq_true] at h3
 have k1 := fm_most qC 900 (l := r.needs) fun n hx => needT_short (h1 n hx)
 have k2 := fm_most fB 300 (l := r.bars) fun n hx => barT_short (h2 n hx)
 have k3 := fm_most wR 9000000 (l := r.fts) fun f hx => by
  have e1 := h3.2 f hx
  unfold qK at e1
  simp only [Bool.and_eq_true, decide_eq_true_eq] at e1
  have e2 := jn_most 32 1000000 (l := kW :: f.name :: f.of) fun s hs => by
   rcases List.mem_cons.1 hs with rfl | hs
   ·decide
   ·rcases List.mem_cons.1 hs with rfl | hs
    ·have := wd_short (h3.1.1.2 f hx); omega
    ·exact hf f hx s hs
  unfold wR
  simp only [List.length_append, List.length_cons, List.length_nil] at e2 ⊢
  have := e1.1.1; omega
 have k4 := h3.1.1.1
 unfold vN fU
 simp only [List.length_append, txPack, List.length_cons, List.length_nil]; omega
theorem check_zero {r : Rt} (h : (kR r).1 = 0) : nmL r.name = true ∧ r.ver.may = true ∧ r.needs.length ≤ 8 ∧ r.bars.length ≤ 8 ∧ (jO r).1 = 0 ∧ (vN r).length ≤ 4096 := by
 unfold kR at h
 cases h1 : nmL r.name
 ·rw [if_pos h1] at h; simp at h
 ·rw [if_neg (by simp [h1])] at h
  cases h2 : r.ver.may
  ·rw [if_pos h2] at h; simp at h
  ·rw [if_neg (by simp [h2])] at h
   by_cases h3 : 8 < r.needs.length ∨ 8 < r.bars.length
   ·rw [if_pos h3] at h; simp at h
   ·rw [if_neg h3] at h
    by_cases h4 : (jO r).1 = 0
    ·rw [if_neg (by simp [h4])] at h
     by_cases h5 : 4096 < (vN r).length
     ·rw [if_pos h5] at h; simp at h
     ·exact ⟨rfl, rfl, by omega, by omega, h4, by omega⟩
    ·rw [if_pos h4] at h; exact absurd h h4
def printR (r : Rt) : List UInt8 := if (kR r).1 = 0 then vN r else []
end
section
structure Rs where
 rc : Rt
 st : Int
def wW : Rt := ⟨[], Ver.zero, [], [], []⟩
def j0 : List UInt8 := [112, 97, 99, 107, 97, 103, 101]
def jG : List UInt8 := [110, 101, 101, 100]
def fG : List UInt8 := [97, 110, 121]
def gY : List UInt8 := [119, 104, 101, 110]
def tT : List UInt8 := [111, 112, 116, 105, 111, 110]
def dV : List UInt8 := [98, 97, 114]
def noE (l : List (List UInt8)) : Bool := l.all fun s => decide (s ≠ [])
def jH (s : List UInt8) (k : Nat) : Option (List (List UInt8) × List UInt8) :=
 if (zD 32 [] s).length ≤ k then none else if noE ((zD 32 [] s).take k) = false then none else if zG 32 ((zD 32 [] s).drop k) = [] then none else some ((zD 32 [] s).take k, zG 32 ((zD 32 [] s).drop k))
def yP {α : Type} (f : α → α) : List α → List α
 | [] => []
 | [a] => [f a]
 | a :: b :: r => a :: yP f (b :: r)
theorem mD {α : Type} (f : α → α) : ∀ (l : List α) (a : α), yP f (l ++ [a]) = l ++ [f a]
 | [], a => rfl
 | [b], a => rfl
 | b :: c :: r, a => by
  rw [List.cons_append, List.cons_append, yP, ← List.cons_append, mD f (c :: r) a]; rfl
def headS (l : List (List UInt8)) : Option Rs :=
 if l.length = 3 ∧ l.getD 0 [] = j0 ∧ l.getD 1 [] ≠ [] ∧ parE (l.getD 2 []) = 0 then some ⟨⟨l.getD 1 [], wM (l.getD 2 []), [], [], []⟩, 1⟩ else none
def anyW (w : List (List UInt8)) (t : List UInt8) : Wt := ⟨w.getD 1 [], t, if w.getD 2 [] = [45] then [] else zD 44 [] (w.getD 2 []), decide (w.getD 3 [] = qZ)⟩
def anyS (x : Rs) (s : List UInt8) : Option Rs := match jH s 4 with
 | none => none
 | some (w, t) => if x.st = 2 ∧ (w.getD 3 [] = qZ ∨ w.getD 3 [] = m9) then some ⟨{ x.rc with needs := yP (fun n => { n with any := n.any ++ [anyW w t] }) x.rc.needs }, 2⟩ else none
def whenS (x : Rs) (s : List UInt8) : Option Rs := match jH s 1 with
 | none => none
 | some (_, t) => if x.st = 2 then some ⟨{ x.rc with needs := yP (fun n => { n with wh := t }) x.rc.needs }, 3⟩ else if x.st = 5 then some ⟨{ x.rc with bars := yP (fun b => { b with wh := t }) x.rc.bars }, 6⟩ else none
def optS (x : Rs) (l : List (List UInt8)) : Option Rs :=
 if l.length = 2 ∧ noE l = true ∧ (x.st = 2 ∨ x.st = 3) then some ⟨{ x.rc with needs := yP (fun n => { n with opt := l.getD 1 [] }) x.rc.needs }, 4⟩ else none
def barS (x : Rs) (s : List UInt8) : Option Rs := match jH s 2 with
 | none => none
 | some (w, t) => if x.st ≤ 6 then some ⟨{ x.rc with bars := x.rc.bars ++ [⟨w.getD 1 [], t, []⟩] }, 5⟩ else none
def featS (x : Rs) (l : List (List UInt8)) : Option Rs :=
 if 2 ≤ l.length ∧ noE l = true then some ⟨{ x.rc with fts := x.rc.fts ++ [⟨l.getD 1 [], l.drop 2⟩] }, 7⟩ else none
def needS (x : Rs) (l : List (List UInt8)) : Option Rs := if l.length = 1 ∧ x.st < 5 then some ⟨{ x.rc with needs := x.rc.needs ++ [⟨[], [], []⟩] }, 2⟩ else none
def nR (x : Rs) (s : List UInt8) : Option Rs :=
 if x.st = 0 then headS (zD 32 [] s)
 else if (zD 32 [] s).getD 0 [] = jG then needS x (zD 32 [] s)
 else if (zD 32 [] s).getD 0 [] = fG then anyS x s
 else if (zD 32 [] s).getD 0 [] = gY then whenS x s
 else if (zD 32 [] s).getD 0 [] = tT then optS x (zD 32 [] s)
 else if (zD 32 [] s).getD 0 [] = dV then barS x s
 else if (zD 32 [] s).getD 0 [] = kW then featS x (zD 32 [] s)
 else none
def runS : Rs → List (List UInt8) → Option Rs
 | x, [] => some x
 | x, s :: r => match nR x s with
  | some y => runS y r
  | none => none
def badS : Rs → Nat → List (List UInt8) → Int
 | _, _, [] => 0
 | x, k, s :: r => match nR x s with
  | some y => badS y (k + 1) r
  | none => ((k + 1 : Nat) : Int)
def linesOf (s : List UInt8) : List (List UInt8) × Bool := if (zD 10 [] s).getLast? = some [] then ((zD 10 [] s).dropLast, true) else (zD 10 [] s, false)
def doneS (x : Rs) : Rt × Int × Int := if x.st = 0 then (wW, 2, 1) else if (kR x.rc).1 ≠ 0 then (wW, (kR x.rc).1, 0) else (x.rc, 0, 0)
def jI (s : List UInt8) : Rt × Int × Int :=
 if 4096 < s.length then (wW, 3, 0)
 else match runS ⟨wW, 0⟩ (zD 10 [] s).dropLast with
  | none => (wW, 2, badS ⟨wW, 0⟩ 0 (zD 10 [] s).dropLast)
  | some x => if (zD 10 [] s).getLast? = some [] then doneS x else (wW, 2, ((zD 10 [] s).length : Int))
def headL (r : Rt) : List UInt8 := zG 32 [j0, r.name, r.ver.print]
def wishL (x : Wt) : List UInt8 := zG 32 [fG, x.name, m8 x.fs, n4 x.bare, x.rng]
def whenL (s : List UInt8) : List (List UInt8) := if s = [] then [] else [zG 32 [gY, s]]
def optnL (s : List UInt8) : List (List UInt8) := if s = [] then [] else [zG 32 [tT, s]]
def needLs (n : Nt) : List (List UInt8) := jG :: (n.any.map wishL ++ whenL n.wh ++ optnL n.opt)
def barLs (b : Bt) : List (List UInt8) := zG 32 [dV, b.name, b.rng] :: whenL b.wh
def featL (f : Ft) : List UInt8 := zG 32 (kW :: f.name :: f.of)
def recLs (r : Rt) : List (List UInt8) := headL r :: (r.needs.flatMap needLs ++ r.bars.flatMap barLs ++ r.fts.map featL)
def unL (l : List (List UInt8)) : List UInt8 := l.flatMap fun s => s ++ [10]
theorem wishL_text (x : Wt) : wishL x ++ [10] = jF x := by
 unfold wishL jF
 simp only [zG, fG, txAny, List.append_assoc, List.cons_append, List.nil_append]
end
section
end
section
end
section
def plc (v n : Int) : Int := if v.tmod n < 0 then v.tmod n + n else v.tmod n
end
section
def ReadsI (w : World) (B : Nat) (v : Value) (l : List Int) : Prop :=
 ∃ A cap, v = .slice A l.length cap ∧ (0 < l.length → ∃ ad : Addr, A = some ad ∧ ad.block < B ∧ ∀ j (h : j < l.length), w.cell? (ad.add j) = some (YI l[j]))
theorem add_block (a : Addr) (n : Nat) : (a.add n).block = a.block := by unfold Addr.add; split <;> rfl
def atL (l : List Int) (i : Nat) : Int := (l[i]?).getD 0
def i64in (n : Int) : Prop := -9223372036854775808 ≤ n ∧ n ≤ 9223372036854775807
end
section
def numT (k : Nat) : Int := (([0, 1, 2, 3, 0, 1, 10, 9999] : List Int)[k]?).getD 0
def preT14 (k : Nat) : List UInt8 := (([[], [], [], [], [48], [49], [50], [49, 49], [97], [97, 46, 49], [97, 46, 98], [98], [48, 46, 48], [114, 99, 46, 49]] : List (List UInt8))[k]?).getD []
def bldT (k : Nat) : List UInt8 := (([[], [], [], [], [48, 48, 55], [120, 46, 49]] : List (List UInt8))[k]?).getD []
def genV (l : List Int) (i : Nat) : Ver := ⟨numT (plc (atL l i) 8).toNat, numT (plc (atL l (i + 1)) 8).toNat, numT (plc (atL l (i + 2)) 8).toNat, preT14 (plc (atL l (i + 3)) 14).toNat, bldT (plc (atL l (i + 4)) 6).toNat⟩
def GEnd (u : Ver) (w : World) (e : Ending) (w' : World) : Prop := e = .returned (kV u) ∧ Below w.heap.size w w'
end
section
end
section
structure Cu where
 e : Int
 v : Ver
 aft : Bool
deriving DecidableEq
def Cu.may (c : Cu) : Bool := if c.e = 0 then c.v.may && c.v.build.isEmpty else decide (c.e = -1 ∨ c.e = 1) && decide (c.v = Ver.zero) && !c.aft
def b01 (b : Bool) : Int := if b then 1 else 0
def lex (x y : Int) : Int := if x = 0 then y else x
def qF (a b : Cu) : Int := if a.may && b.may then lex (Lib.compareInt a.e b.e) (lex (dB a.v b.v) (Lib.compareInt (b01 a.aft) (b01 b.aft))) else 0
theorem zero_may : Ver.zero.may = true := by decide
theorem may_v {c : Cu} (h : c.may = true) : c.v.may = true := by
 unfold Cu.may at h
 split at h
 ·rw [Bool.and_eq_true] at h; exact h.1
 ·simp only [Bool.and_eq_true, decide_eq_true_eq] at h; rw [h.1.2]; exact zero_may
theorem may_e {c : Cu} (h : c.may = true) : (c.e = 0 ∧ c.v.build = []) ∨ ((c.e = -1 ∨ c.e = 1) ∧ c.v = Ver.zero ∧ c.aft = false) := by
 unfold Cu.may at h
 split at h
 ·rename_i h0; rw [Bool.and_eq_true] at h; exact .inl ⟨h0, List.isEmpty_iff.1 h.2⟩
 ·simp only [Bool.and_eq_true, decide_eq_true_eq, Bool.not_eq_true'] at h; exact .inr ⟨h.1.1, h.1.2, h.2⟩
theorem tJ {v w : Ver} : dB v w = -1 ∨ dB v w = 0 ∨ dB v w = 1 := by
 by_cases hv : v.may = true
 ·by_cases hw : w.may = true
  ·rw [hZ hv hw]; exact cmpL_range _ _
  ·exact .inr (.inl (cmpR_bad (.inr (by simpa using hw))))
 ·exact .inr (.inl (cmpR_bad (.inl (by simpa using hv))))
theorem ci_range (x y : Int) : Lib.compareInt x y = -1 ∨ Lib.compareInt x y = 0 ∨ Lib.compareInt x y = 1 := by
 unfold Lib.compareInt
 by_cases h : x < y
 ·rw [if_pos h]; simp
 ·rw [if_neg h]
  by_cases h2 : y < x
  ·rw [if_pos h2]; simp
  ·rw [if_neg h2]; simp
theorem cmpC_good {a b : Cu} (ha : a.may = true) (hb : b.may = true) : qF a b = lex (Lib.compareInt a.e b.e) (lex (dB a.v b.v) (Lib.compareInt (b01 a.aft) (b01 b.aft))) := by
 unfold qF; rw [ha, hb]; rfl
theorem cmpC_range (a b : Cu) : qF a b = -1 ∨ qF a b = 0 ∨ qF a b = 1 := by
 unfold qF lex
 have h1 := ci_range a.e b.e
 have h2 := tJ (v := a.v) (w := b.v)
 have h3 := ci_range (b01 a.aft) (b01 b.aft)
 split
 ·split
  ·split
   ·exact h3
   ·exact h2
  ·exact h1
 ·simp
structure Ord3 {α : Type} (c : α → α → Int) : Prop where
 anti : ∀ x y, c y x = - c x y
 on : ∀ x y z, c x y ≤ 0 → c y z ≤ 0 → c x z ≤ 0 ∧ (c x z = 0 → c x y = 0 ∧ c y z = 0)
 same : ∀ x y z, c x y = 0 → c y z = 0 → c x z = 0
theorem lex_ord {α : Type} {c d : α → α → Int} (hc : Ord3 c) (hd : Ord3 d) : Ord3 (fun x y => lex (c x y) (d x y)) := by
 refine ⟨fun x y => ?_, fun x y z h1 h2 => ?_, fun x y z h1 h2 => ?_⟩
 ·have a := hc.anti x y; have b := hd.anti x y
  show lex (c y x) (d y x) = - lex (c x y) (d x y)
  unfold lex
  by_cases h : c x y = 0
  ·rw [if_pos h, if_pos Om]; exact b
  ·rw [if_neg h, if_neg Om]; exact a
 ·have a := hc.on x y z; have b := hd.on x y z; have s := hc.same x y z
  show lex _ _ ≤ 0 ∧ (lex _ _ = 0 → lex _ _ = 0 ∧ lex _ _ = 0)
  replace h1 : lex (c x y) (d x y) ≤ 0 := h1
  replace h2 : lex (c y z) (d y z) ≤ 0 := h2
  unfold lex at h1 h2 ⊢
  by_cases p : c x y = 0
  ·by_cases q : c y z = 0
   ·rw [if_pos p] at h1 ⊢; rw [if_pos q] at h2 ⊢; rw [if_pos (s p q)]; exact b h1 h2
   ·rw [if_pos p] at h1 ⊢; rw [if_neg q] at h2 ⊢
    obtain ⟨a1, a2⟩ := a Om h2
    have : c x z ≠ 0 := fun e => q (a2 e).2
    rw [if_neg this]; exact ⟨a1, fun e => absurd e this⟩
  ·rw [if_neg p] at h1 ⊢
   have h2' : c y z ≤ 0 := by
    by_cases q : c y z = 0
    ·omega
    ·rw [if_neg q] at h2; exact h2
   obtain ⟨a1, a2⟩ := a h1 h2'
   have : c x z ≠ 0 := fun e => p (a2 e).1
   rw [if_neg this]; exact ⟨a1, fun e => absurd e this⟩
 ·have s := hc.same x y z; have t := hd.same x y z
  show lex _ _ = 0
  replace h1 : lex (c x y) (d x y) = 0 := h1
  replace h2 : lex (c y z) (d y z) = 0 := h2
  unfold lex at h1 h2 ⊢
  by_cases p : c x y = 0
  ·by_cases q : c y z = 0
   ·rw [if_pos p] at h1; rw [if_pos q] at h2; rw [if_pos (s p q)]; exact t h1 h2
   ·rw [if_neg q] at h2; exact absurd h2 q
  ·rw [if_neg p] at h1; exact absurd h1 p
theorem ci_ord {α : Type} (f : α → Int) : Ord3 (fun x y => Lib.compareInt (f x) (f y)) := by
 refine ⟨fun x y => ?_, fun x y z => ?_, fun x y z => ?_⟩ <;> unfold Lib.compareInt <;> (repeat' split) <;> omega
theorem cmpL_ord {α : Type} (f : α → List Nat) : Ord3 (fun x y => x9 (f x) (f y)) := by
 refine ⟨fun x y => cmpL_anti _ _, fun x y z => cmpL_trans _ _ _, fun x y z h1 h2 => ?_⟩
 show x9 (f x) (f z) = 0
 rw [cmpL_zero _ _ h1, cmpL_zero _ _ h2]; exact cmpL_self _
def cmpK (a b : Cu) : Int := lex (Lib.compareInt a.e b.e) (lex (x9 a.v.key b.v.key) (Lib.compareInt (b01 a.aft) (b01 b.aft)))
theorem cmpK_ord : Ord3 cmpK := lex_ord (ci_ord (fun c : Cu => c.e)) (lex_ord (cmpL_ord (fun c : Cu => c.v.key)) (ci_ord (fun c : Cu => b01 c.aft)))
theorem cmpC_K {a b : Cu} (ha : a.may = true) (hb : b.may = true) : qF a b = cmpK a b := by
 rw [cmpC_good ha hb, hZ (may_v ha) (may_v hb)]; rfl
theorem cmpC_bad {a b : Cu} (h : a.may = false ∨ b.may = false) : qF a b = 0 := by
 unfold qF
 rcases h with h | h <;> rw [h] <;> simp
theorem cut_anti {a b : Cu} : qF b a = - qF a b := by
 cases ha : a.may with
 | true =>
  cases hb : b.may with
  | true => rw [cmpC_K ha hb, cmpC_K hb ha]; exact cmpK_ord.anti _ _
  | false => rw [cmpC_bad (.inl hb), cmpC_bad (.inr hb)]; rfl
 | false => rw [cmpC_bad (a := a) (.inl ha), cmpC_bad (b := a) (.inr ha)]; rfl
theorem cut_on {a b c : Cu} (ha : a.may = true) (hb : b.may = true) (hc : c.may = true) (h1 : qF a b ≤ 0) (h2 : qF b c ≤ 0) : qF a c ≤ 0 ∧ (qF a c = 0 → qF a b = 0 ∧ qF b c = 0) := by
 rw [cmpC_K ha hb] at h1 ⊢; rw [cmpC_K hb hc] at h2 ⊢; rw [cmpC_K ha hc]; exact cmpK_ord.on _ _ _ h1 h2
def jU (e : Int) : Cu := ⟨e, Ver.zero, false⟩
def posC (v : Ver) : Cu := ⟨0, vH v, false⟩
theorem posC_may {v : Ver} (h : v.may = true) : (posC v).may = true := by
 unfold posC Cu.may
 rw [if_pos rfl, core_may h]; rfl
def mU (c : Cu) (v : Ver) : Bool := c.may && v.may && (if c.e = 0 then decide (dB c.v v < 0 ∨ (dB c.v v = 0 ∧ c.aft = false)) else decide (c.e < 0))
theorem cmpR_coreR {a v : Ver} (ha : a.may = true) (hv : v.may = true) : dB a (vH v) = dB a v := by
 rw [hZ ha (core_may hv), hZ ha hv]; rfl
theorem ahead_pos {c : Cu} {v : Ver} (hc : c.may = true) (hv : v.may = true) : mU c v = decide (qF c (posC v) ≤ 0) := by
 rw [cmpC_good hc (posC_may hv)]
 unfold mU
 rw [hc, hv]
 show (true && true && _) = decide (lex (Lib.compareInt c.e 0) (lex (dB c.v (vH v)) (Lib.compareInt (b01 c.aft) (b01 false))) ≤ 0)
 rw [cmpR_coreR (may_v hc) hv]
 rcases may_e hc with ⟨h, _⟩ | ⟨h, h2, h3⟩
 ·rw [if_pos h, h, n6]
  unfold lex
  rw [if_pos rfl]
  rcases tJ (v := c.v) (w := v) with e | e | e <;> rw [e] <;> cases c.aft <;> decide
 ·rw [if_neg Om]
  rcases h with h | h <;> rw [h]
  ·rw [show Lib.compareInt (-1) 0 = -1 from by decide]; unfold lex; simp
  ·rw [show Lib.compareInt 1 0 = 1 from by decide]; unfold lex; simp
theorem ahead_on {a b : Cu} {v : Ver} (ha : a.may = true) (hb : b.may = true) (hv : v.may = true) (h : qF a b ≤ 0) (h2 : mU b v = true) : mU a v = true := by
 rw [ahead_pos hb hv, decide_eq_true_eq] at h2
 rw [ahead_pos ha hv, decide_eq_true_eq]
 exact (cut_on ha hb (posC_may hv) h h2).1
def lessC (a b : Cu) : Bool := if a.e = b.e then (if dB a.v b.v = -1 then true else if dB a.v b.v = 1 then false else !a.aft && b.aft) else decide (a.e < b.e)
structure Sp where
 lo : Cu
 hi : Cu
def Sp.may (s : Sp) : Bool := decide (qF s.lo s.hi = -1)
def holdsC (s : Sp) (v : Ver) : Bool := s.may && mU s.lo v && !mU s.hi v
theorem beside {v w : Ver} (hv : v.may = true) (hw : w.may = true) : (Sp.mk ⟨0, vH v, false⟩ ⟨0, vH v, true⟩).may = true ∧ holdsC ⟨⟨0, vH v, false⟩, ⟨0, vH v, true⟩⟩ w = decide (dB v w = 0) := by
 have m1 : (Cu.mk 0 (vH v) false).may = true := posC_may hv
 have m2 : (Cu.mk 0 (vH v) true).may = true := by unfold Cu.may; rw [if_pos rfl, core_may hv]; rfl
 have hs : (Sp.mk ⟨0, vH v, false⟩ ⟨0, vH v, true⟩).may = true := by
  unfold Sp.may
  rw [cmpC_good m1 m2]
  dsimp only
  rw [order_self]; rfl
 refine ⟨hs, ?_⟩
 unfold holdsC mU
 rw [hs, m1, m2, hw]
 dsimp only
 rw [if_pos rfl, if_pos rfl, order_core hv hw]
 rcases tJ (v := v) (w := w) with e | e | e <;> rw [e] <;> rfl
theorem between {a b : Cu} {v : Ver} (ha : a.may = true) (hb : b.may = true) (hv : v.may = true) (h1 : mU a v = true) (h2 : mU b v = false) : qF a b = -1 := by
 have h3 : ¬ qF b a ≤ 0 := fun h => by rw [ahead_on hb ha hv h h1] at h2; cases h2
 have := cut_anti (a := a) (b := b)
 rcases cmpC_range a b with e | e | e <;> omega
def genC (l : List Int) (i : Nat) : Cu :=
 if plc (atL l (i + 5)) 9 < 2 then jU (2 * plc (atL l (i + 5)) 9 - 1) else ⟨0, vH (genV l i), decide (plc (atL l (i + 5)) 2 = 1)⟩
end
section
theorem ver_dec (u v : Ver) : decide (u = v) = (decide (u.maj = v.maj) && (decide (u.min = v.min) && (decide (u.pat = v.pat) && (decide (u.pre = v.pre) && decide (u.build = v.build))))) := by
 obtain ⟨a, b, c, d, e⟩ := u
 obtain ⟨a', b', c', d', e'⟩ := v
 simp only [Ver.mk.injEq, Bool.decide_and]
theorem eq_ver (u v : Ver) (d : Nat) (w : World) : (Op.equalIn (d + 1 + 1) 23 (kV u) (kV v)).run Tryz.prog w = .ok (decide (u = v)) w := by
  have h := eq_agg (P := Tryz.prog) (d := d + 1) (t := 23) (xs := (kV u).cells) (ys := (kV v).cells) (bs := [u.maj == v.maj, u.min == v.min, u.pat == v.pat, (mkS u.pre).toList == (mkS v.pre).toList, (mkS u.build).toList == (mkS v.build).toList]) Tryz.underlying23 Kr
    ⟨by decide, ⟨YI u.maj, YI v.maj, fun w => ⟨by kernel_rfl, by kernel_rfl, run_equalIn_int w d _ _ _ _ _ Tryz.underlying3⟩⟩,
     by decide, ⟨YI u.min, YI v.min, fun w => ⟨by kernel_rfl, by kernel_rfl, run_equalIn_int w d _ _ _ _ _ Tryz.underlying3⟩⟩,
     by decide, ⟨YI u.pat, YI v.pat, fun w => ⟨by kernel_rfl, by kernel_rfl, run_equalIn_int w d _ _ _ _ _ Tryz.underlying3⟩⟩,
     by decide, ⟨.string (mkS u.pre), .string (mkS v.pre), fun w => ⟨by kernel_rfl, by kernel_rfl, run_equalIn_string w d _ _ _ Tryz.underlying9⟩⟩,
     by decide, ⟨.string (mkS u.build), .string (mkS v.build), fun w => ⟨by kernel_rfl, by kernel_rfl, run_equalIn_string w d _ _ _ Tryz.underlying9⟩⟩, trivial⟩ w
  rw [all5, bE, bE, mO, mO, mO, ← ver_dec] at h
  exact h
abbrev ZJ2 (x y : Cu) : Array Value := #[YI x.e, YI x.v.maj, YI x.v.min, YI x.v.pat, .string (mkS x.v.pre), .string (mkS x.v.build), .bool x.aft, YI y.e, YI y.v.maj, YI y.v.min, YI y.v.pat, .string (mkS y.v.pre), .string (mkS y.v.build), .bool y.aft]
abbrev ZJ (x : Cu) : Array Value := #[YI x.e, YI x.v.maj, YI x.v.min, YI x.v.pat, .string (mkS x.v.pre), .string (mkS x.v.build), .bool x.aft]
def cutV (c : Cu) : Value := .agg #[YI c.e, YI c.v.maj, YI c.v.min, YI c.v.pat, .string (mkS c.v.pre), .string (mkS c.v.build), .bool c.aft]
def spanV (s : Sp) : Value := .agg (ZJ2 s.lo s.hi)
theorem guard_ver : Tryz.prog.eqGuardType Tryz.prog.depth 23 = false := by kernel_rfl
end
section
def or3 (x y z : Int) : Int := if x ≠ 0 then x else if y ≠ 0 then y else z
def nthI (x y z : Int) (k : Nat) : Int := if k = 0 then x else if k = 1 then y else z
end
section
end
section
def tagsB (s : List UInt8) (b : Bool) : Bool := s.isEmpty || (decide ((pcs s).length ≤ 4) && (pcs s).all fun t => gZ t && !(b && wO t && !vP t))
def tagF (b : Bool) (t : List UInt8) : Bool := gZ t && !(b && wO t && !vP t)
end
section
end
section
def Cu.short (c : Cu) : Prop := c.v.pre.length ≤ 1000000 ∧ c.v.build.length ≤ 1000000
def Ver.short (v : Ver) : Prop := v.pre.length ≤ 1000000 ∧ v.build.length ≤ 1000000
def Sp.short (s : Sp) : Prop := s.lo.short ∧ s.hi.short
end
section
def nL : List Sp → Bool
 | [] => true
 | [s] => s.may
 | s :: t :: r => s.may && decide (qF s.hi t.lo < 0) && nL (t :: r)
def inSp (s : Sp) (c : Cu) : Bool := decide (qF s.lo c ≤ 0) && decide (qF c s.hi < 0)
def den (l : List Sp) (c : Cu) : Bool := l.any (inSp · c)
def rowHas (l : List Sp) (v : Ver) : Bool := nL l && l.any (holdsC · v)
def growL (l : List Sp) (c d : Cu) : List Sp :=
 match l.getLast? with
 | some s => if qF s.hi c = 0 then l.dropLast ++ [⟨s.lo, d⟩] else l ++ [⟨c, d⟩]
 | none => [⟨c, d⟩]
def buildL (p : Cu → Cu → Bool) : List Sp → List Cu → List Sp
 | out, c :: d :: r => buildL p (if p c d then growL out c d else out) (d :: r)
 | out, _ => out
def pick (p : Cu → Cu → Bool) (x : Cu) : List Cu → Bool
 | c :: d :: r => (p c d && inSp ⟨c, d⟩ x) || pick p x (d :: r)
 | _ => false
def Rise : List Cu → Prop
 | c :: d :: r => c.may = true ∧ qF c d < 0 ∧ Rise (d :: r)
 | [c] => c.may = true
 | [] => True
def putL (c : Cu) : List Cu → List Cu
 | [] => [c]
 | d :: r => if qF d c < 0 then d :: putL c r else if qF d c = 0 then d :: r else c :: d :: r
def cutsL (l : List Sp) : List Cu := l.foldl (fun out s => putL s.hi (putL s.lo out)) [jU (-1), jU 1]
def AllMay (l : List Cu) : Prop := ∀ x ∈ l, x.may = true
structure Ends (l : List Cu) : Prop where
 rise : Rise l
 head : l.head? = some (jU (-1))
 last : l.getLast? = some (jU 1)
def inL (l : List Sp) (c d : Cu) : Bool := l.any fun s => decide (qF s.lo c ≤ 0) && decide (qF d s.hi ≤ 0)
def makeL (l : List Sp) : List Sp := buildL (inL l) [] (cutsL l)
def orL (a b : List Sp) : List Sp := makeL (a ++ b)
def andL (a b : List Sp) : List Sp := buildL (fun c d => inL a c d && inL b c d) [] (cutsL (a ++ b))
def notL (a : List Sp) : List Sp := buildL (fun c d => !inL a c d) [] (cutsL a)
end
section
def spanC (s : Sp) : List Value := (spanV s).cells.toList
def ShortL (l : List Sp) : Prop := ∀ s ∈ l, s.short
end
section
deriving instance DecidableEq for Sp
end
section
end
section
end
section
def cutC (s : Cu) : List Value := (cutV s).cells.toList
def ShortC (l : List Cu) : Prop := ∀ s ∈ l, s.short
end
section
end
section
section
variable {M : List Nat} {P : Program} {n : Nat} {ops : Array Oper} {W : World} {Q : Exit → Act → World → Prop} {L0 L : List Blk} {f : Nat → Value} {fuel : Nat} {listed : Array Bool} {rest : List Oper} {o : Oper}
end
end
section
def allMay (l : List Sp) : Bool := l.all (·.may)
end
section
end
section
end
section
def minC (a b : Cu) : Cu := if 0 < qF a b then b else a
def maxC (a b : Cu) : Cu := if 0 < qF a b then a else b
def addL (l : List Sp) (c d : Cu) : List Sp := if (Sp.mk c d).may then l ++ [⟨c, d⟩] else l
def nstep (p : List Sp × Cu) (s : Sp) : List Sp × Cu := (addL p.1 p.2 s.lo, s.hi)
def notG (l : List Sp) : List Sp := addL (l.foldl nstep ([], jU (-1))).1 (l.foldl nstep ([], jU (-1))).2 (jU 1)
def andG : Nat → List Sp → List Sp → List Sp → List Sp
 | n + 1, out, s :: a, u :: b => if s.hi = minC s.hi u.hi then andG n (addL out (maxC s.lo u.lo) (minC s.hi u.hi)) a (u :: b) else andG n (addL out (maxC s.lo u.lo) (minC s.hi u.hi)) (s :: a) b
 | _, out, _, _ => out
def mstep (out : List Sp) (s : Sp) : List Sp :=
 match out.getLast? with
 | none => [s]
 | some t => if qF t.hi s.lo < 0 then out ++ [s] else out.dropLast ++ [⟨t.lo, maxC t.hi s.hi⟩]
def SortedC : List Sp → Prop
 | [] => True
 | s :: r => (∀ t ∈ r, qF s.lo t.lo ≤ 0) ∧ SortedC r
end
section
theorem jV (c : UInt8) : ∀ s : List UInt8, s.length = (z8 c s).1.length + (if (z8 c s).2.2 then 1 + (z8 c s).2.1.length else 0)
 | [] => rfl
 | b :: r => by
  unfold z8
  have ih := jV c r
  by_cases h : b = c
  ·first | (simp [h]; done) | (subst h; simp; omega) | (simp [h]; omega)
  ·first | (simp [h] at ih ⊢; omega) | (simp [h, Ne.symm h] at ih ⊢; omega)
theorem cutGo_short : ∀ (n : Nat) (s : List UInt8), (kM n s).2 = true → s.length ≤ 9 * n
 | 0, s, h => by simp [kM] at h
 | n + 1, s, h => by
  have hl := jV 46 s
  cases ht : gZ (z8 46 s).1 with
  | false => rw [cutGo_bad n s ht] at h; cases h
  | true =>
   have h8 : (z8 46 s).1.length ≤ 8 := Nat.le_of_not_lt fun h2 => by rw [tagOk_long h2] at ht; cases ht
   cases hm : (z8 46 s).2.2 with
   | false => rw [hm] at hl; simp at hl; omega
   | true =>
    rw [cutGo_on n s ht hm] at h
    have ih := cutGo_short n _ h
    rw [hm] at hl; simp at hl; omega
theorem preOk_short {s : List UInt8} (h : tZ s = true) : s.length ≤ 36 := by
 rw [preOk_lst, Bool.and_eq_true] at h
 have h1 := h.1
 unfold lst at h1
 split at h1
 ·rename_i h0
  have : s = [] := by simpa using h0
  subst this; exact Nat.zero_le _
 ·have := cutGo_short _ _ h1; omega
theorem may_short {v : Ver} (h : v.may = true) (hb : v.build = []) : v.short := ⟨by have := preOk_short (may_pre h); omega, by rw [hb]; exact Nat.zero_le _⟩
structure RF (l : List Sp) (n : Nat) : Prop where
 may : nL l = true
 len : l.length ≤ n
section
variable {a b c : List Sp} (ha : nL a = true) (hb : nL b = true) (hc : nL c = true)
include ha in
end
end
section
def jA (b : UInt8) : Nat → List UInt8 → List (List UInt8)
 | 0, s => [s]
 | k + 1, s => if (z8 b s).2.2 then (z8 b s).1 :: jA b k (z8 b s).2.1 else [s]
theorem split_one (b : UInt8) {s : List UInt8} (h : (z8 b s).2.2 = false) : zD b [] s = [s] := by
 have hb := d5 b s
 rw [h, if_neg Bool.false_ne_true] at hb
 rw [yU, h, if_neg Bool.false_ne_true, List.nil_append]
 simpa using hb.symm
theorem pcsB_is (b : UInt8) : ∀ (k : Nat) (s : List UInt8), jA b k s = if (zD b [] s).length ≤ k then zD b [] s else (zD b [] s).take k ++ [zG b ((zD b [] s).drop k)]
 | 0, s => by
  have h1 : ¬ (zD b [] s).length ≤ 0 := fun h => qQ b s [] (List.eq_nil_of_length_eq_zero (Nat.le_zero.1 h))
  rw [if_neg h1, List.drop_zero, join_split b s [], List.nil_append]; rfl
 | k + 1, s => by
  unfold jA
  cases hq : (z8 b s).2.2 with
  | false =>
   rw [if_neg Bool.false_ne_true, split_one b hq, if_pos (by simp)]
  | true =>
   have hsp : zD b [] s = (z8 b s).1 :: zD b [] (z8 b s).2.1 := by rw [yU, hq, if_pos rfl, List.nil_append]
   rw [if_pos rfl, pcsB_is b k (z8 b s).2.1, hsp, List.length_cons, List.take_succ_cons, List.drop_succ_cons]
   by_cases h : (zD b [] (z8 b s).2.1).length ≤ k
   ·rw [if_pos h, if_pos Om]
   ·rw [if_neg h, if_neg Om]; rfl
structure La where
 kind : Nat
 word : List UInt8
 lo : Nat
 hi : Nat
 parts : Nat
 opn : Bool
 more : Bool
deriving DecidableEq
def lays : List La := [⟨1, j0, 0, 0, 3, false, false⟩, ⟨2, jG, 1, 5, 1, false, false⟩, ⟨3, fG, 2, 3, 5, true, false⟩, ⟨4, gY, 2, 3, 2, true, false⟩, ⟨5, tT, 2, 4, 2, false, false⟩, ⟨6, dV, 1, 7, 3, true, false⟩, ⟨7, gY, 6, 6, 2, true, false⟩, ⟨8, kW, 1, 8, 2, false, true⟩]
def yW (l : La) (s : List UInt8) : List (List UInt8) := if l.opn then jA 32 (l.parts - 1) s else zD 32 [] s
def wP (l : La) (s : List UInt8) : Bool := (decide ((yW l s).length = l.parts) || (l.more && decide (l.parts < (yW l s).length))) && decide ((yW l s).getD 0 [] = l.word) && noE (yW l s)
def d7 (x : Rt) (kind : Nat) (p : List (List UInt8)) : Rt × Bool :=
 match kind with
 | 1 => ({ x with name := p.getD 1 [], ver := wM (p.getD 2 []) }, decide (parE (p.getD 2 []) = 0))
 | 2 => ({ x with needs := x.needs ++ [⟨[], [], []⟩] }, true)
 | 3 => ({ x with needs := yP (fun n => { n with any := n.any ++ [anyW p (p.getD 4 [])] }) x.needs }, decide (p.getD 3 [] = qZ) || decide (p.getD 3 [] = m9))
 | 4 => ({ x with needs := yP (fun n => { n with wh := p.getD 1 [] }) x.needs }, true)
 | 5 => ({ x with needs := yP (fun n => { n with opt := p.getD 1 [] }) x.needs }, true)
 | 6 => ({ x with bars := x.bars ++ [⟨p.getD 1 [], p.getD 2 [], []⟩] }, true)
 | 7 => ({ x with bars := yP (fun b => { b with wh := p.getD 1 [] }) x.bars }, true)
 | 8 => ({ x with fts := x.fts ++ [⟨p.getD 1 [], p.drop 2⟩] }, true)
 | _ => (x, true)
def x3 (x : Rt) (last : Nat) (s : List UInt8) : List La → Option (Rt × Nat)
 | [] => none
 | l :: r => if l.lo ≤ last ∧ last ≤ l.hi ∧ wP l s = true then (if (d7 x l.kind (yW l s)).2 then some ((d7 x l.kind (yW l s)).1, l.kind) else none) else x3 x last s r
def stg : Nat → Int
 | 0 => 0 | 1 => 1 | 2 => 2 | 3 => 2 | 4 => 3 | 5 => 4 | 6 => 5 | 7 => 6 | _ => 7
structure InvA (x : Rt) (k : Nat) : Prop where
 le : k ≤ 8
 z : k = 0 → x = wW
 n : 2 ≤ k → k ≤ 5 → x.needs ≠ []
 b : 6 ≤ k → k ≤ 7 → x.bars ≠ []
theorem open_ok {l : La} {s : List UInt8} (ho : l.opn = true) (hm : l.more = false) {k : Nat} (hk : l.parts = k + 1) : wP l s = true ↔ ∃ w t, jH s k = some (w, t) ∧ yW l s = w ++ [t] ∧ (w ++ [t]).getD 0 [] = l.word := by
 have hP : yW l s = if (zD 32 [] s).length ≤ k then zD 32 [] s else (zD 32 [] s).take k ++ [zG 32 ((zD 32 [] s).drop k)] := by
  unfold yW; rw [if_pos ho, hk]; exact pcsB_is 32 k s
 unfold wP jH
 rw [hm, hk]
 simp only [Bool.false_and, Bool.or_false, Bool.and_eq_true, decide_eq_true_eq]
 by_cases hl : (zD 32 [] s).length ≤ k
 ·rw [if_pos hl] at hP ⊢
  rw [hP]
  constructor
  ·rintro ⟨⟨h1, _⟩, _⟩; omega
  ·rintro ⟨w, t, h, _⟩; cases h
 ·rw [if_neg hl] at hP ⊢
  rw [hP]
  have hlen : ((zD 32 [] s).take k ++ [zG 32 ((zD 32 [] s).drop k)]).length = k + 1 := by simp; omega
  have hno : noE ((zD 32 [] s).take k ++ [zG 32 ((zD 32 [] s).drop k)]) = (noE ((zD 32 [] s).take k) && decide (zG 32 ((zD 32 [] s).drop k) ≠ [])) := by unfold noE; simp [List.all_append]
  rw [hno, hlen]
  cases h2 : noE ((zD 32 [] s).take k) with
  | false => simp
  | true =>
   by_cases h3 : zG 32 ((zD 32 [] s).drop k) = []
   ·simp [h3]
   ·simp only [h3, true_and, decide_true, ne_eq, not_false_eq_true, Bool.and_self, and_true, if_false, Bool.true_eq_false, Option.some.injEq, Prod.mk.injEq]
    constructor
    ·intro h; exact ⟨_, _, ⟨rfl, rfl⟩, rfl, h⟩
    ·rintro ⟨w, t, ⟨rfl, rfl⟩, _, h⟩; exact h
theorem fK {s : List UInt8} {k : Nat} {w : List (List UInt8)} {t : List UInt8} (h : jH s (k + 1) = some (w, t)) : (w ++ [t]).getD 0 [] = (zD 32 [] s).getD 0 [] ∧ w.length = k + 1 := by
 unfold jH at h
 split at h
 ·cases h
 ·split at h
  ·cases h
  ·split at h
   ·cases h
   ·rename_i h1 h2 h3
    simp only [Option.some.injEq, Prod.mk.injEq] at h
    obtain ⟨rfl, rfl⟩ := h
    cases hs : zD 32 [] s with
    | nil => exact absurd hs (qQ 32 _ _)
    | cons a r => rw [hs] at h1; simp only [List.length_cons] at h1; simp; omega
theorem dG {l : La} {s : List UInt8} (ho : l.opn = false) : yW l s = zD 32 [] s := by unfold yW; rw [if_neg (by rw [ho]; simp)]
theorem la_word {l : La} {s : List UInt8} (hp : l.opn = true → 2 ≤ l.parts) (h : wP l s = true) : (zD 32 [] s).getD 0 [] = l.word := by
 have hw : (yW l s).getD 0 [] = l.word := by
  unfold wP at h; simp only [Bool.and_eq_true, decide_eq_true_eq] at h; exact h.1.2
 rw [← hw]
 unfold yW
 split
 ·rename_i ho
  have h2 := hp ho
  obtain ⟨k, hk⟩ : ∃ k, l.parts - 1 = k + 1 := ⟨l.parts - 2, by omega⟩
  rw [hk, pcsB_is]
  split
  ·rfl
  ·cases hs : zD 32 [] s with
   | nil => exact absurd hs (qQ 32 _ _)
   | cons a r => simp
 ·rfl
theorem lays_open : ∀ l ∈ lays, l.opn = true → 2 ≤ l.parts := by decide
abbrev mQ (l : La) (last : Nat) (s : List UInt8) : Prop := l.lo ≤ last ∧ last ≤ l.hi ∧ wP l s = true
def outA (x : Rt) (s : List UInt8) (l : La) : Option (Rt × Nat) := if (d7 x l.kind (yW l s)).2 then some ((d7 x l.kind (yW l s)).1, l.kind) else none
theorem kX {x : Rt} {last : Nat} {s : List UInt8} : ∀ {L : List La}, (∀ l ∈ L, ¬ mQ l last s) → x3 x last s L = none
 | [], _ => rfl
 | l :: r, h => by rw [x3, if_neg (h l (List.mem_cons_self ..)), kX fun y hy => h y (List.mem_cons_of_mem _ hy)]
theorem qO {x : Rt} {last : Nat} {s : List UInt8} {l : La} (hf : mQ l last s) : ∀ {L : List La}, (∀ y ∈ L, mQ y last s → y = l) → l ∈ L → x3 x last s L = outA x s l
 | y :: r, h, hl => by
  by_cases hy : mQ y last s
  ·obtain rfl := h y (List.mem_cons_self ..) hy
   rw [x3, if_pos hy]; rfl
  ·rw [x3, if_neg hy]
   rcases List.mem_cons.1 hl with rfl | hl
   ·exact absurd hf hy
   ·exact qO hf (fun z hz => h z (List.mem_cons_of_mem _ hz)) hl
theorem mM {last : Nat} {s : List UInt8} {l : La} (hw : (zD 32 [] s).getD 0 [] = l.word) (h : ∀ y ∈ lays, y.word = l.word → y.lo ≤ last → last ≤ y.hi → y = l) : ∀ y ∈ lays, mQ y last s → y = l := fun y hy hf => h y hy ((la_word (lays_open y hy) hf.2.2).symm.trans hw) hf.1 hf.2.1
def SameA (a : Option (Rt × Nat)) (b : Option Rs) : Prop := match a, b with
 | none, none => True
 | some (x, k), some y => y = ⟨x, stg k⟩ ∧ InvA x k
 | _, _ => False
theorem mF {α : Type} {f : α → α} {l : List α} (h : l ≠ []) : yP f l ≠ [] := by
 match l, h with
 | [a], _ => simp [yP]
 | a :: b :: r, _ => simp [yP]
theorem noE_three {l : List (List UInt8)} (h : l.length = 3) : noE l = true ↔ l.getD 0 [] ≠ [] ∧ l.getD 1 [] ≠ [] ∧ l.getD 2 [] ≠ [] := by
 match l, h with
 | [a, b, c], _ => simp [noE]
theorem stg_pos {k : Nat} (h : 1 ≤ k) : stg k ≠ 0 := by
 match k, h with
 | 1, _ => decide
 | 2, _ => decide
 | 3, _ => decide
 | 4, _ => decide
 | 5, _ => decide
 | 6, _ => decide
 | 7, _ => decide
 | k + 8, _ => exact (by show (7 : Int) ≠ 0; decide)
theorem stg_two {k : Nat} (h : k ≤ 8) : (stg k = 2 ↔ 2 ≤ k ∧ k ≤ 3) ∧ (stg k = 5 ↔ k = 6) ∧ (stg k < 5 ↔ k ≤ 5) ∧ (stg k ≤ 6 ↔ k ≤ 7) ∧ (stg k = 3 ↔ k = 4) := by
 have : ∀ j, j ≤ 8 → (stg j = 2 ↔ 2 ≤ j ∧ j ≤ 3) ∧ (stg j = 5 ↔ j = 6) ∧ (stg j < 5 ↔ j ≤ 5) ∧ (stg j ≤ 6 ↔ j ≤ 7) ∧ (stg j = 3 ↔ j = 4) := by decide
 exact this k h
theorem parE_nil : parE [] ≠ 0 := by decide +kernel
theorem pI {l : La} {s : List UInt8} {k : Nat} {w : List (List UInt8)} {t : List UInt8} (ho : l.opn = true) (hk : l.parts = k + 1) (h : jH s k = some (w, t)) : yW l s = w ++ [t] := by
 unfold yW
 rw [if_pos ho, hk]
 show jA 32 k s = _
 rw [pcsB_is]
 unfold jH at h
 split at h
 ·cases h
 ·split at h
  ·cases h
  ·split at h
   ·cases h
   ·simp only [Option.some.injEq, Prod.mk.injEq] at h
    obtain ⟨rfl, rfl⟩ := h
    rw [if_neg (by assumption)]
theorem anyS_of {x : Rs} {s : List UInt8} {w : List (List UInt8)} {t : List UInt8} (h : jH s 4 = some (w, t)) : anyS x s = if x.st = 2 ∧ (w.getD 3 [] = qZ ∨ w.getD 3 [] = m9) then some ⟨{ x.rc with needs := yP (fun n => { n with any := n.any ++ [anyW w t] }) x.rc.needs }, 2⟩ else none := by unfold anyS; rw [h]
theorem whenS_of {x : Rs} {s : List UInt8} {w : List (List UInt8)} {t : List UInt8} (h : jH s 1 = some (w, t)) : whenS x s = if x.st = 2 then some ⟨{ x.rc with needs := yP (fun n => { n with wh := t }) x.rc.needs }, 3⟩ else if x.st = 5 then some ⟨{ x.rc with bars := yP (fun b => { b with wh := t }) x.rc.bars }, 6⟩ else none := by unfold whenS; rw [h]
theorem barS_of {x : Rs} {s : List UInt8} {w : List (List UInt8)} {t : List UInt8} (h : jH s 2 = some (w, t)) : barS x s = if x.st ≤ 6 then some ⟨{ x.rc with bars := x.rc.bars ++ [⟨w.getD 1 [], t, []⟩] }, 5⟩ else none := by unfold barS; rw [h]
theorem S_none {x : Rs} {s : List UInt8} : (jH s 4 = none → anyS x s = none) ∧ (jH s 1 = none → whenS x s = none) ∧ (jH s 2 = none → barS x s = none) :=
 ⟨fun h => by unfold anyS; rw [h], fun h => by unfold whenS; rw [h], fun h => by unfold barS; rw [h]⟩
theorem take_line {x : Rt} {k : Nat} (hI : InvA x k) (s : List UInt8) : SameA (x3 x k s lays) (nR ⟨x, stg k⟩ s) := by
 obtain ⟨P, hP⟩ : ∃ P, zD 32 [] s = P := ⟨_, rfl⟩
 have h8 := hI.le
 have hs := stg_two h8
 by_cases h0 : k = 0
 ·subst h0
  obtain rfl := hI.z rfl
  have hone : ∀ y ∈ lays, mQ y 0 s → y = ⟨1, j0, 0, 0, 3, false, false⟩ := fun y hy hf => by
   simp only [lays, List.mem_cons, List.not_mem_nil, or_false] at hy
   rcases hy with rfl | rfl | rfl | rfl | rfl | rfl | rfl | rfl
   ·rfl
   all_goals exact absurd hf.1 (by decide)
  have hl : nR ⟨wW, stg 0⟩ s = headS P := by unfold nR; rw [if_pos (show Rs.st ⟨wW, stg 0⟩ = 0 from rfl), hP]
  rw [hl]
  by_cases hf : mQ ⟨1, j0, 0, 0, 3, false, false⟩ 0 s
  ·rw [qO hf hone (by decide)]
   have hk := hf.2.2
   unfold wP at hk
   rw [dG rfl, hP] at hk
   simp only [Bool.false_and, Bool.or_false, Bool.and_eq_true, decide_eq_true_eq] at hk
   obtain ⟨⟨h1, h2⟩, h3⟩ := hk
   have h4 := (noE_three h1).1 h3
   unfold outA headS
   rw [dG rfl, hP]
   by_cases h5 : parE (P.getD 2 []) = 0
   ·rw [if_pos (by simpa [d7] using h5), if_pos ⟨h1, h2, h4.2.1, h5⟩]
    exact ⟨rfl, ⟨by decide, fun h => absurd h (by decide), fun h => absurd h (by decide), fun h => absurd h (by decide)⟩⟩
   ·rw [if_neg (by simpa [d7] using h5), if_neg (fun q => h5 q.2.2.2)]; trivial
  ·rw [kX fun y hy hq => hf (hone y hy hq ▸ hq)]
   unfold headS
   rw [if_neg]; · trivial
   rintro ⟨h1, h2, h3, h4⟩
   refine hf ⟨Nat.le_refl _, Nat.le_refl _, ?_⟩
   unfold wP
   rw [dG rfl, hP, (noE_three h1).2 ⟨by rw [h2]; decide, h3, fun e => parE_nil (by rw [← e]; exact h4)⟩]
   simp only [h1, h2, decide_true, Bool.true_or, Bool.and_self]
 have h1 : 1 ≤ k := by omega
 have hne := stg_pos h1
 have hL : nR ⟨x, stg k⟩ s = if P.getD 0 [] = jG then needS ⟨x, stg k⟩ P else if P.getD 0 [] = fG then anyS ⟨x, stg k⟩ s else if P.getD 0 [] = gY then whenS ⟨x, stg k⟩ s else if P.getD 0 [] = tT then optS ⟨x, stg k⟩ P else if P.getD 0 [] = dV then barS ⟨x, stg k⟩ s else if P.getD 0 [] = kW then featS ⟨x, stg k⟩ P else none := by
  unfold nR; rw [if_neg hne, hP]
 rw [hL]
 clear hL
 have lays_cases : ∀ {Q : La → Prop}, Q ⟨1, j0, 0, 0, 3, false, false⟩ → Q ⟨2, jG, 1, 5, 1, false, false⟩ → Q ⟨3, fG, 2, 3, 5, true, false⟩ → Q ⟨4, gY, 2, 3, 2, true, false⟩ → Q ⟨5, tT, 2, 4, 2, false, false⟩ → Q ⟨6, dV, 1, 7, 3, true, false⟩ → Q ⟨7, gY, 6, 6, 2, true, false⟩ → Q ⟨8, kW, 1, 8, 2, false, true⟩ → ∀ y ∈ lays, Q y := fun {Q} q1 q2 q3 q4 q5 q6 q7 q8 y hy => by
  simp only [lays, List.mem_cons, List.not_mem_nil, or_false] at hy
  rcases hy with rfl | rfl | rfl | rfl | rfl | rfl | rfl | rfl <;> assumption
 by_cases w2 : P.getD 0 [] = jG
 ·rw [if_pos w2]
  have hone : ∀ y ∈ lays, mQ y k s → y = ⟨2, jG, 1, 5, 1, false, false⟩ := mM (by rw [hP]; exact w2) (lays_cases (fun h => absurd h (by decide)) (fun _ _ _ => rfl) (fun h => absurd h (by decide)) (fun h => absurd h (by decide)) (fun h => absurd h (by decide)) (fun h => absurd h (by decide)) (fun h => absurd h (by decide)) (fun h => absurd h (by decide)))
  have hk : wP ⟨2, jG, 1, 5, 1, false, false⟩ s = true ↔ P.length = 1 := by
   unfold wP
   rw [dG rfl, hP]
   simp only [Bool.false_and, Bool.or_false, Bool.and_eq_true, decide_eq_true_eq]
   refine ⟨fun h => h.1.1, fun h => ⟨⟨h, w2⟩, ?_⟩⟩
   match P, h, w2 with
   | [a], _, w2 =>
    have : a = jG := w2
    subst this; decide
  unfold needS
  by_cases hf : mQ ⟨2, jG, 1, 5, 1, false, false⟩ k s
  ·rw [qO hf hone (by decide), if_pos ⟨hk.1 hf.2.2, hs.2.2.1.2 hf.2.1⟩]
   exact ⟨rfl, ⟨by decide, fun h => absurd h (by decide), fun _ _ => by simp [d7], fun h => absurd h (by decide)⟩⟩
  ·rw [kX fun y hy hq => hf (hone y hy hq ▸ hq), if_neg fun q => hf ⟨h1, hs.2.2.1.1 q.2, hk.2 q.1⟩]; trivial
 rw [if_neg w2]
 by_cases w3 : P.getD 0 [] = fG
 ·rw [if_pos w3]
  have hone : ∀ y ∈ lays, mQ y k s → y = ⟨3, fG, 2, 3, 5, true, false⟩ := mM (by rw [hP]; exact w3) (lays_cases (fun h => absurd h (by decide)) (fun h => absurd h (by decide)) (fun _ _ _ => rfl) (fun h => absurd h (by decide)) (fun h => absurd h (by decide)) (fun h => absurd h (by decide)) (fun h => absurd h (by decide)) (fun h => absurd h (by decide)))
  have hk := open_ok (l := ⟨3, fG, 2, 3, 5, true, false⟩) (s := s) rfl rfl (k := 4) rfl
  by_cases hf : mQ ⟨3, fG, 2, 3, 5, true, false⟩ k s
  ·rw [qO hf hone (by decide)]
   obtain ⟨w, t, e1, e2, e3⟩ := hk.1 hf.2.2
   have hw := (fK e1).2
   rw [anyS_of e1]
   unfold outA
   rw [e2]
   match w, hw with
   | [a, b, c, d], _ =>
    by_cases h5 : d = qZ ∨ d = m9
    ·rw [if_pos (by simpa [d7] using h5), if_pos ⟨hs.1.2 ⟨hf.1, hf.2.1⟩, h5⟩]
     exact ⟨rfl, ⟨by decide, fun h => absurd h (by decide), fun _ _ => mF (hI.n hf.1 (by have := hf.2.1; simp only at this; omega)), fun h => absurd h (by decide)⟩⟩
    ·rw [if_neg (by simpa [d7] using h5), if_neg fun q => h5 q.2]; trivial
  ·rw [kX fun y hy hq => hf (hone y hy hq ▸ hq)]
   cases e1 : jH s 4 with
   | none => rw [S_none.1 e1]; trivial
   | some p =>
    obtain ⟨w, t⟩ := p
    rw [anyS_of e1, if_neg]; · trivial
    intro q
    have h23 := hs.1.1 q.1
    exact hf ⟨h23.1, h23.2, hk.2 ⟨w, t, e1, pI rfl rfl e1, by rw [(fK e1).1, hP]; exact w3⟩⟩
 rw [if_neg w3]
 by_cases w4 : P.getD 0 [] = gY
 ·rw [if_pos w4]
  have hk4 := open_ok (l := ⟨4, gY, 2, 3, 2, true, false⟩) (s := s) rfl rfl (k := 1) rfl
  have hk7 := open_ok (l := ⟨7, gY, 6, 6, 2, true, false⟩) (s := s) rfl rfl (k := 1) rfl
  have hone4 : k ≤ 5 → ∀ y ∈ lays, mQ y k s → y = ⟨4, gY, 2, 3, 2, true, false⟩ := fun h5 => mM (by rw [hP]; exact w4) (lays_cases (fun h => absurd h (by decide)) (fun h => absurd h (by decide)) (fun h => absurd h (by decide)) (fun _ _ _ => rfl) (fun h => absurd h (by decide)) (fun h => absurd h (by decide)) (fun _ h _ => absurd (show 6 ≤ k from h) Om) (fun h => absurd h (by decide)))
  have hone7 : 4 ≤ k → ∀ y ∈ lays, mQ y k s → y = ⟨7, gY, 6, 6, 2, true, false⟩ := fun h5 => mM (by rw [hP]; exact w4) (lays_cases (fun h => absurd h (by decide)) (fun h => absurd h (by decide)) (fun h => absurd h (by decide)) (fun _ _ h => absurd (show k ≤ 3 from h) Om) (fun h => absurd h (by decide)) (fun h => absurd h (by decide)) (fun _ _ _ => rfl) (fun h => absurd h (by decide)))
  cases e1 : jH s 1 with
  | none =>
   rw [S_none.2.1 e1, kX]; · trivial
   intro y hy hf
   by_cases h5 : k ≤ 5
   ·obtain rfl := hone4 h5 y hy hf
    obtain ⟨w, t, e, _⟩ := hk4.1 hf.2.2
    rw [e1] at e; cases e
   ·obtain rfl := hone7 Om y hy hf
    obtain ⟨w, t, e, _⟩ := hk7.1 hf.2.2
    rw [e1] at e; cases e
  | some p =>
   obtain ⟨w, t⟩ := p
   have hw := (fK e1).2
   have hw0 : (w ++ [t]).getD 0 [] = gY := by rw [(fK e1).1, hP]; exact w4
   rw [whenS_of e1]
   match w, hw with
   | [a], _ =>
    by_cases h2 : stg k = 2
    ·have h23 := hs.1.1 h2
     rw [if_pos h2, qO (l := ⟨4, gY, 2, 3, 2, true, false⟩) ⟨h23.1, h23.2, hk4.2 ⟨_, t, e1, pI rfl rfl e1, hw0⟩⟩ (hone4 Om) (by decide)]
     unfold outA
     rw [pI (l := ⟨4, gY, 2, 3, 2, true, false⟩) rfl rfl e1]
     exact ⟨rfl, ⟨by decide, fun h => absurd h (by decide), fun _ _ => mF (hI.n h23.1 Om), fun h => absurd h (by decide)⟩⟩
    ·rw [if_neg h2]
     by_cases h5 : stg k = 5
     ·have h6 := hs.2.1.1 h5
      subst h6
      rw [if_pos h5, qO (l := ⟨7, gY, 6, 6, 2, true, false⟩) ⟨Nat.le_refl _, Nat.le_refl _, hk7.2 ⟨_, t, e1, pI rfl rfl e1, hw0⟩⟩ (hone7 Om) (by decide)]
      unfold outA
      rw [pI (l := ⟨7, gY, 6, 6, 2, true, false⟩) rfl rfl e1]
      exact ⟨rfl, ⟨by decide, fun h => absurd h (by decide), fun _ h => absurd h (by decide), fun _ _ => mF (hI.b Om Om)⟩⟩
     ·rw [if_neg h5, kX]; · trivial
      intro y hy hf
      by_cases h9 : k ≤ 5
      ·obtain rfl := hone4 h9 y hy hf
       exact h2 (hs.1.2 ⟨hf.1, hf.2.1⟩)
      ·obtain rfl := hone7 Om y hy hf
       have q1 : 6 ≤ k := hf.1
       have q2 : k ≤ 6 := hf.2.1
       exact h5 (hs.2.1.2 Om)
 rw [if_neg w4]
 by_cases w5 : P.getD 0 [] = tT
 ·rw [if_pos w5]
  have hone : ∀ y ∈ lays, mQ y k s → y = ⟨5, tT, 2, 4, 2, false, false⟩ := mM (by rw [hP]; exact w5) (lays_cases (fun h => absurd h (by decide)) (fun h => absurd h (by decide)) (fun h => absurd h (by decide)) (fun h => absurd h (by decide)) (fun _ _ _ => rfl) (fun h => absurd h (by decide)) (fun h => absurd h (by decide)) (fun h => absurd h (by decide)))
  have hk : wP ⟨5, tT, 2, 4, 2, false, false⟩ s = true ↔ P.length = 2 ∧ noE P = true := by
   unfold wP
   rw [dG rfl, hP]
   simp only [Bool.false_and, Bool.or_false, Bool.and_eq_true, decide_eq_true_eq]
   exact ⟨fun h => ⟨h.1.1, h.2⟩, fun h => ⟨⟨h.1, w5⟩, h.2⟩⟩
  have h24 : (stg k = 2 ∨ stg k = 3) ↔ 2 ≤ k ∧ k ≤ 4 := by rw [hs.1, hs.2.2.2.2]; omega
  unfold optS
  by_cases hf : mQ ⟨5, tT, 2, 4, 2, false, false⟩ k s
  ·obtain ⟨h2, h3⟩ := hk.1 hf.2.2
   rw [qO hf hone (by decide), if_pos ⟨h2, h3, h24.2 ⟨hf.1, hf.2.1⟩⟩]
   unfold outA
   rw [dG rfl, hP]
   exact ⟨rfl, ⟨by decide, fun h => absurd h (by decide), fun _ _ => mF (hI.n hf.1 (by have := hf.2.1; simp only at this; omega)), fun h => absurd h (by decide)⟩⟩
  ·rw [kX fun y hy hq => hf (hone y hy hq ▸ hq), if_neg fun q => hf ⟨(h24.1 q.2.2).1, (h24.1 q.2.2).2, hk.2 ⟨q.1, q.2.1⟩⟩]; trivial
 rw [if_neg w5]
 by_cases w6 : P.getD 0 [] = dV
 ·rw [if_pos w6]
  have hone : ∀ y ∈ lays, mQ y k s → y = ⟨6, dV, 1, 7, 3, true, false⟩ := mM (by rw [hP]; exact w6) (lays_cases (fun h => absurd h (by decide)) (fun h => absurd h (by decide)) (fun h => absurd h (by decide)) (fun h => absurd h (by decide)) (fun h => absurd h (by decide)) (fun _ _ _ => rfl) (fun h => absurd h (by decide)) (fun h => absurd h (by decide)))
  have hk := open_ok (l := ⟨6, dV, 1, 7, 3, true, false⟩) (s := s) rfl rfl (k := 2) rfl
  by_cases hf : mQ ⟨6, dV, 1, 7, 3, true, false⟩ k s
  ·rw [qO hf hone (by decide)]
   obtain ⟨w, t, e1, e2, e3⟩ := hk.1 hf.2.2
   have hw := (fK e1).2
   rw [barS_of e1, if_pos (hs.2.2.2.1.2 hf.2.1)]
   unfold outA
   rw [e2]
   match w, hw with
   | [a, b], _ => exact ⟨rfl, ⟨by decide, fun h => absurd h (by decide), fun _ h => absurd h (by decide), fun _ _ => by simp [d7]⟩⟩
  ·rw [kX fun y hy hq => hf (hone y hy hq ▸ hq)]
   cases e1 : jH s 2 with
   | none => rw [S_none.2.2 e1]; trivial
   | some p =>
    obtain ⟨w, t⟩ := p
    rw [barS_of e1, if_neg]; · trivial
    intro q
    exact hf ⟨h1, hs.2.2.2.1.1 q, hk.2 ⟨w, t, e1, pI rfl rfl e1, by rw [(fK e1).1, hP]; exact w6⟩⟩
 rw [if_neg w6]
 by_cases w8 : P.getD 0 [] = kW
 ·rw [if_pos w8]
  have hone : ∀ y ∈ lays, mQ y k s → y = ⟨8, kW, 1, 8, 2, false, true⟩ := mM (by rw [hP]; exact w8) (lays_cases (fun h => absurd h (by decide)) (fun h => absurd h (by decide)) (fun h => absurd h (by decide)) (fun h => absurd h (by decide)) (fun h => absurd h (by decide)) (fun h => absurd h (by decide)) (fun h => absurd h (by decide)) (fun _ _ _ => rfl))
  have hk : wP ⟨8, kW, 1, 8, 2, false, true⟩ s = true ↔ 2 ≤ P.length ∧ noE P = true := by
   unfold wP
   rw [dG rfl, hP]
   simp only [Bool.true_and, Bool.and_eq_true, Bool.or_eq_true, decide_eq_true_eq]
   exact ⟨fun h => ⟨by omega, h.2⟩, fun h => ⟨⟨by omega, w8⟩, h.2⟩⟩
  unfold featS
  by_cases hf : mQ ⟨8, kW, 1, 8, 2, false, true⟩ k s
  ·rw [qO hf hone (by decide), if_pos (hk.1 hf.2.2)]
   unfold outA
   rw [dG rfl, hP]
   exact ⟨rfl, ⟨by decide, fun h => absurd h (by decide), fun _ h => absurd h (by decide), fun _ h => absurd h (by decide)⟩⟩
  ·rw [kX fun y hy hq => hf (hone y hy hq ▸ hq), if_neg fun q => hf ⟨h1, h8, hk.2 q⟩]; trivial
 rw [if_neg w8, kX]; · trivial
 intro y hy hf
 have hw := la_word (lays_open y hy) hf.2.2
 rw [hP] at hw
 have : y.word = j0 ∨ y.word = jG ∨ y.word = fG ∨ y.word = gY ∨ y.word = tT ∨ y.word = dV ∨ y.word = kW := lays_cases (Q := fun y => y.word = j0 ∨ y.word = jG ∨ y.word = fG ∨ y.word = gY ∨ y.word = tT ∨ y.word = dV ∨ y.word = kW) (by simp) (by simp) (by simp) (by simp) (by simp) (by simp) (by simp) (by simp) y hy
 rcases this with e | e | e | e | e | e | e
 ·have hy1 : y = ⟨1, j0, 0, 0, 3, false, false⟩ := by
   revert e
   exact lays_cases (Q := fun y => y.word = j0 → y = ⟨1, j0, 0, 0, 3, false, false⟩) (fun _ => rfl) (fun h => absurd h (by decide)) (fun h => absurd h (by decide)) (fun h => absurd h (by decide)) (fun h => absurd h (by decide)) (fun h => absurd h (by decide)) (fun h => absurd h (by decide)) (fun h => absurd h (by decide)) y hy
  subst hy1
  exact h0 (Nat.le_zero.1 hf.2.1)
 ·exact w2 (hw.trans e)
 ·exact w3 (hw.trans e)
 ·exact w4 (hw.trans e)
 ·exact w5 (hw.trans e)
 ·exact w6 (hw.trans e)
 ·exact w8 (hw.trans e)
end
section
def idxP (v : Ver) : List Sp → Int → Int
 | [], _ => -1
 | s :: r, k => if holdsC s v then k else idxP v r (k + 1)
end
section
end
section
end
section
def leastV (v : Ver) : Bool := decide (v.maj = 0) && decide (v.min = 0) && decide (v.pat = 0)
def rightC (c : Cu) : Bool := decide (¬ c.e = 0) || (!c.aft && decide (c.v.pre = []) && !leastV c.v)
def AllRight (l : List Sp) : Prop := ∀ s ∈ l, rightC s.lo = true ∧ rightC s.hi = true
def valC (c : Cu) : Int := if c.e = -1 then 0 else if c.e = 1 then 1000000000000 else c.v.code
def muI (v : Ver) : Int := if v.pre = [] then v.code else v.code - 1
def mu (x : Cu) : Int := if x.e = 0 then (if muI x.v < 0 then 0 else muI x.v) else 0
def denN (l : List Sp) (n : Int) : Bool := l.any fun s => decide (valC s.lo ≤ n) && decide (n < valC s.hi)
end
section
def relV (v : Ver) : Ver := Ver.rel v.maj v.min v.pat
def relA (v : Ver) : Cu := if leastV v then jU (-1) else ⟨0, relV v, false⟩
def relB (v : Ver) : Cu := if nextOk (relV v) then ⟨0, nextV (relV v), false⟩ else jU 1
def turnC (c : Cu) : Cu := if ¬ c.e = 0 then c else if c.aft = true ∧ c.v.pre = [] then relB c.v else relA c.v
def turnS (s : Sp) : Sp := ⟨turnC s.lo, turnC s.hi⟩
def makeRel (l : List Sp) : List Sp := makeL ((l.map turnS).filter (·.may))
def oneRel (v : Ver) : List Sp := [⟨relA v, relB v⟩]
def onePre (v : Ver) : List Sp := [⟨⟨0, vH v, false⟩, ⟨0, vH v, true⟩⟩]
end
section
structure St where
 rel : List Sp
 pre : List Sp
def St.may (s : St) : Bool := nL s.rel && nL s.pre && s.rel.all fun x => rightC x.lo && rightC x.hi
structure SF (s : St) (n : Nat) : Prop where
 rel : RF s.rel n
 pre : RF s.pre n
 right : AllRight s.rel
def setHas (s : St) (v : Ver) : Bool := s.may && v.may && (if v.pre = [] then rowHas s.rel v else rowHas s.pre v)
def noneT : St := ⟨[], []⟩
def wholeL : List Sp := [⟨jU (-1), jU 1⟩]
def allT : St := ⟨wholeL, wholeL⟩
def orT (a b : St) : St := ⟨orL a.rel b.rel, orL a.pre b.pre⟩
def andT (a b : St) : St := ⟨andL a.rel b.rel, andL a.pre b.pre⟩
def notT (a : St) : St := ⟨notL a.rel, notL a.pre⟩
def minusT (a b : St) : St := andT a (notT b)
def exactT (v : Ver) : St := if v.may then (if v.pre = [] then ⟨oneRel v, []⟩ else ⟨[], onePre v⟩) else noneT
section
variable {a b : St} {n m : Nat} {v : Ver} (ha : SF a n) (hb : SF b m) (hv : v.may = true)
include ha hb hv
end
def edgeN (l : List Sp) : List Int := l.flatMap fun s => [s.lo, s.hi].filterMap fun c => if c.e = 0 then some c.v.code else none
end
section
end
section
def highC (v : Ver) : Nat → Cu
 | 0 => if d6 v 0 then ⟨0, bumpV v 0, false⟩ else jU 1
 | k + 1 => if d6 v ((k + 1 : Nat) : Int) then ⟨0, bumpV v ((k + 1 : Nat) : Int), false⟩ else highC v k
def turnsK (c : Co) : Nat := if 0 < c.v.maj ∨ c.parts = 1 then 0 else if 0 < c.v.min ∨ c.parts = 2 then 1 else 2
def Co.low (c : Co) : Cu := ⟨0, vH c.v, false⟩
def Co.aft (c : Co) : Cu := if c.parts < 3 ∧ 0 < c.parts then highC c.v (c.parts - 1).toNat else ⟨0, vH c.v, true⟩
def Co.span (c : Co) : Cu × Cu :=
 if c.op = 1 ∨ c.op = 2 then (c.low, c.aft) else if c.op = 3 then (jU (-1), c.low) else if c.op = 4 then (jU (-1), c.aft) else if c.op = 5 then (c.aft, jU 1) else if c.op = 6 then (c.low, jU 1)
 else if c.op = 7 then (c.low, highC c.v (turnsK c)) else if c.op = 8 then (c.low, highC c.v (min (c.parts - 1) 1).toNat) else if c.parts = 0 then (jU (-1), jU 1) else (c.low, highC c.v (c.parts - 1).toNat)
def oneRow (lo hi : Cu) : List Sp := addL [] lo hi
def Co.region (c : Co) : List Sp := if c.may then (if c.op = 2 then notL (oneRow c.span.1 c.span.2) else oneRow c.span.1 c.span.2) else []
def Co.zone (c : Co) : List Sp := if c.may && !decide (c.v.pre = []) then [⟨⟨0, { c.v with pre := [48], build := [] }, false⟩, ⟨0, { c.v with pre := [], build := [] }, false⟩⟩] else []
def upN (v : Ver) (k : Nat) : Int := if k = 0 then (v.maj + 1) * 100000000 else if k = 1 then v.maj * 100000000 + (v.min + 1) * 10000 else v.code + 1
def ordB (op n : Int) : Bool := if op = 1 then decide (n = 0) else if op = 2 then decide (¬ n = 0) else if op = 3 then decide (n < 0) else if op = 4 then decide (n ≤ 0) else if op = 5 then decide (0 < n) else decide (0 ≤ n)
end
section
def bK (c : Co) (v : Ver) (p : Int) : Bool := (decide (p < 1) || decide (v.maj = c.v.maj)) && (decide (p < 2) || decide (v.min = c.v.min)) && (decide (p < 3) || decide (v.pat = c.v.pat))
def overB (c : Co) (v : Ver) : Bool := if ¬ v.maj = c.v.maj ∨ c.parts = 1 then decide (c.v.maj < v.maj) else if ¬ v.min = c.v.min ∨ c.parts = 2 then decide (c.v.min < v.min) else decide (c.v.pat < v.pat)
def saysN (c : Co) : Int := if 0 < c.v.maj ∨ c.parts = 1 then 1 else if 0 < c.v.min ∨ c.parts = 2 then 2 else 3
def saysB (c : Co) (v : Ver) : Bool :=
 if c.op = 1 ∨ c.op = 9 then bK c v c.parts else if c.op = 2 then !bK c v c.parts else if c.op = 3 then !bK c v c.parts && !overB c v else if c.op = 4 then bK c v c.parts || !overB c v
 else if c.op = 5 then overB c v else if c.op = 6 then bK c v c.parts || overB c v else if c.op = 8 then bK c v (min c.parts 2) && (bK c v c.parts || overB c v)
 else bK c v (saysN c) && (bK c v c.parts || overB c v)
def truncN (v : Ver) (q : Nat) : Int := if q = 1 then v.maj * 100000000 else if q = 2 then v.maj * 100000000 + v.min * 10000 else v.code
end
section
def leastP (v : Ver) : Ver := { v with pre := [48], build := [] }
def bareV (v : Ver) : Ver := { v with pre := [], build := [] }
def withO (c : Co) (o : Int) : Co := { c with op := o }
end
section
def flatC : List Sp → List Cu
 | [] => []
 | s :: l => s.lo :: s.hi :: flatC l
def altRel (a : List Co) : List Sp := a.foldl (fun l c => andL l c.region) wholeL
def altZone (a : List Co) : List Sp := a.foldl (fun l c => orL l c.zone) []
def altSet (a : List Co) : St := ⟨makeRel (altRel a), andL (altRel a) (altZone a)⟩
def orAll (r : List (List Co)) : St := r.foldl (fun s a => orT s (altSet a)) noneT
def rgSet (r : List (List Co)) : St := if rgMay r then orAll r else noneT
end
section
theorem altsL_index : ∀ (s acc : List UInt8), kH acc s = if Lib.index s [124, 124] = -1 then [acc ++ s] else (acc ++ s.take (Lib.index s [124, 124]).toNat) :: kH [] (s.drop ((Lib.index s [124, 124]).toNat + 2))
 | [], acc => by simp [kH, Lib.index]
 | [c], acc => by simp [kH, Lib.index, List.isPrefixOf]
 | c :: d :: r, acc => by
  by_cases h : c = 124 ∧ d = 124
  ·obtain ⟨rfl, rfl⟩ := h
   have e : Lib.index (124 :: 124 :: r) [124, 124] = 0 := by simp [Lib.index, List.isPrefixOf]
   rw [e, kH, if_pos ⟨rfl, rfl⟩, if_neg (by decide)]; simp
  ·have hp : List.isPrefixOf ([124, 124] : List UInt8) (c :: d :: r) = false := by
    rw [List.isPrefixOf, List.isPrefixOf, List.isPrefixOf]
    by_cases hc : c = 124
    ·have hd : ¬ d = 124 := fun q => h ⟨hc, q⟩
     have : ((124 : UInt8) == d) = false := beq_eq_false_iff_ne.2 (Ne.symm hd)
     simp [this]
    ·have : ((124 : UInt8) == c) = false := beq_eq_false_iff_ne.2 (Ne.symm hc)
     simp [this]
   have ge := Lib.index_ge (d :: r) [124, 124]
   rw [kH, if_neg h, altsL_index (d :: r) (acc ++ [c])]
   have e : Lib.index (c :: d :: r) [124, 124] = if Lib.index (d :: r) [124, 124] = -1 then -1 else Lib.index (d :: r) [124, 124] + 1 := by
    conv => lhs; rw [Lib.index]
    rw [hp, if_neg (by decide)]
    simp
   rw [e]
   generalize Lib.index (d :: r) [124, 124] = n at ge
   by_cases hn : n = -1
   ·subst hn; simp
   ·rw [if_neg hn, if_neg hn, if_neg Om]
    have e2 : (n + 1).toNat = n.toNat + 1 := by omega
    rw [e2, List.take_succ_cons, show n.toNat + 1 + 2 = (n.toNat + 2) + 1 from by omega, List.drop_succ_cons]
    simp
theorem splitK_from (sep : List UInt8) : ∀ (f : Nat) (s : List UInt8), s.length < f → Lib.splitK sep 0 (Lib.countFrom sep f s) s = if Lib.index s sep = -1 then [s] else s.take (Lib.index s sep).toNat :: Lib.splitK sep 0 (Lib.countFrom sep (f - 1) (s.drop ((Lib.index s sep).toNat + sep.length))) (s.drop ((Lib.index s sep).toNat + sep.length))
 | f + 1, s, h => by
  rw [Lib.countFrom]
  by_cases q : Lib.index s sep = -1
  ·rw [if_pos (by simp [q]), if_pos q, Lib.splitK]
  ·rw [if_neg (by simp [q]), if_neg q, Nat.add_comm 1, Lib.splitK, if_neg (by simp [q]), Nat.add_zero]; rfl
theorem alts_from : ∀ (f : Nat) (s : List UInt8), s.length < f → Lib.splitK [124, 124] 0 (Lib.countFrom [124, 124] f s) s = kH [] s
 | f + 1, s, h => by
  rw [splitK_from _ _ _ h, altsL_index s []]
  by_cases q : Lib.index s [124, 124] = -1
  ·rw [if_pos q, if_pos q]; rfl
  ·have hr := Lib.index_room s [124, 124] (by have := Lib.index_ge s [124, 124]; omega)
   rw [if_neg q, if_neg q]
   show _ :: Lib.splitK [124, 124] 0 (Lib.countFrom [124, 124] f _) _ = _
   rw [alts_from f _ (by rw [List.length_drop]; simp only [List.length_cons, List.length_nil]; simp only [List.length_cons, List.length_nil] at hr; have := Lib.index_ge s [124, 124]; omega)]
   rfl
theorem split_alts (s : List UInt8) : Lib.splitK [124, 124] 0 (Lib.count s [124, 124]) s = kH [] s := alts_from _ s (Nat.lt_succ_self _)
theorem cut_index (b : UInt8) (s : List UInt8) : zD b [] s = if Lib.index s [b] = -1 then [s] else s.take (Lib.index s [b]).toNat :: zD b [] (s.drop ((Lib.index s [b]).toNat + 1)) := by
 have hc := pQ b s
 have hge := Lib.index_ge s [b]
 rw [yU, ← hc]
 unfold Lib.cut
 by_cases h : Lib.index s [b] = -1
 ·have h2 : ¬ 0 ≤ Lib.index s [b] := by omega
  simp [h]
 ·have h2 : 0 ≤ Lib.index s [b] := by omega
  simp [h, h2]
theorem cuts_from (b : UInt8) : ∀ (f : Nat) (s : List UInt8), s.length < f → Lib.splitK [b] 0 (Lib.countFrom [b] f s) s = zD b [] s
 | f + 1, s, h => by
  rw [splitK_from _ _ _ h, cut_index b s]
  by_cases q : Lib.index s [b] = -1
  ·rw [if_pos q, if_pos q]
  ·have hr := Lib.index_room s [b] (by have := Lib.index_ge s [b]; omega)
   rw [if_neg q, if_neg q]
   show _ :: Lib.splitK [b] 0 (Lib.countFrom [b] f _) _ = _
   rw [cuts_from b f _ (by rw [List.length_drop]; simp only [List.length_cons, List.length_nil]; simp only [List.length_cons, List.length_nil] at hr; have := Lib.index_ge s [b]; omega)]
   rfl
theorem mB (b : UInt8) (s : List UInt8) : Lib.splitK [b] 0 (Lib.count s [b]) s = zD b [] s := cuts_from b _ s (Nat.lt_succ_self _)
theorem nJ (sep : List UInt8) (k : Nat) (s : List UInt8) : Lib.splitB (mkS sep) 0 k (mkS s) = (Lib.splitK sep 0 k s).map mkS := by
 have h := Lib.splitB_data (mkS sep) 0 k (mkS s)
 rw [mk_data, mk_data] at h
 rw [← h, List.map_map]
 refine ((List.map_congr_left fun x _ => ?_).trans (List.map_id _)).symm
 exact Lib.mk_data x
theorem splitB_alts (s : List UInt8) : Lib.splitB (mkS [124, 124]) 0 (Lib.countB (mkS s) (mkS [124, 124])) (mkS s) = (kH [] s).map mkS := by
 rw [nJ, show Lib.countB (mkS s) (mkS [124, 124]) = Lib.count s [124, 124] from by unfold Lib.countB; rw [mk_data, mk_data], split_alts]
theorem splitB_cuts (b : UInt8) (s : List UInt8) : Lib.splitB (mkS [b]) 0 (Lib.countB (mkS s) (mkS [b])) (mkS s) = (zD b [] s).map mkS := by
 rw [nJ, show Lib.countB (mkS s) (mkS [b]) = Lib.count s [b] from by unfold Lib.countB; rw [mk_data, mk_data], mB]
theorem tK : ∀ (s : List UInt8), Lib.trimLeftB s 32 = x7 s
 | [] => rfl
 | c :: l => by
  unfold Lib.trimLeftB
  rw [x7, List.dropWhile_cons]
  by_cases h : c = 32
  ·subst h
   rw [if_pos (by decide), if_pos rfl]; exact tK l
  ·rw [if_neg (by simp [h]), if_neg h]
def bareR (s : List UInt8) : List UInt8 := (x7 s.reverse).reverse
theorem bareF_snoc {c : UInt8} (h : c ≠ 32) : ∀ (x : List UInt8), x7 (x ++ [c]) = x7 x ++ [c]
 | [] => by
  show x7 [c] = [c]
  rw [x7]; exact if_neg h
 | d :: x => by
  rw [List.cons_append, x7, x7]
  by_cases q : d = 32
  ·rw [if_pos q, if_pos q, bareF_snoc h x]
  ·rw [if_neg q, if_neg q]; rfl
theorem bareF_snoc32 : ∀ (x : List UInt8), x7 (x ++ [32]) = if x7 x = [] then [] else x7 x ++ [32]
 | [] => by simp [x7]
 | d :: x => by
  rw [List.cons_append, x7, x7]
  by_cases q : d = 32
  ·rw [if_pos q, if_pos q, bareF_snoc32 x]
  ·rw [if_neg q, if_neg q, if_neg (by simp)]; rfl
theorem bare_swap : ∀ (s : List UInt8), x7 (bareR s) = bareR (x7 s)
 | [] => rfl
 | c :: l => by
  have ih := bare_swap l
  by_cases h : c = 32
  ·subst h
   rw [show x7 (32 :: l) = x7 l from by rw [x7, if_pos rfl], ← ih]
   unfold bareR
   rw [List.reverse_cons, bareF_snoc32]
   by_cases q : x7 l.reverse = []
   ·rw [if_pos q, q]
   ·rw [if_neg q, List.reverse_append]
    show x7 (32 :: (x7 l.reverse).reverse) = _
    rw [x7, if_pos rfl]
  ·rw [show x7 (c :: l) = c :: l from by rw [x7, if_neg h]]
   unfold bareR
   rw [List.reverse_cons, bareF_snoc h, List.reverse_append]
   show x7 (c :: (x7 l.reverse).reverse) = c :: (x7 l.reverse).reverse
   rw [x7, if_neg h]
theorem trim_bare (s : List UInt8) : Lib.trimB s 32 = yV s := by
 unfold Lib.trimB Lib.trimRightB
 have e : ∀ l : List UInt8, l.dropWhile (· == 32) = x7 l := tK
 rw [e, tK]
 exact bare_swap s
def dE (r : List (List Co)) : List UInt8 := if fewR r then v7 r else []
theorem altText_ne {a : List Co} (h : fewA a = true) : xB a ≠ [] := by
 obtain ⟨h1, h2⟩ := fewA.facts h
 cases a with
 | nil => exact absurd h1.1 (by decide)
 | cons c l =>
  have hc : c.print ≠ [] := by
   rw [vI (h2 c (List.mem_cons_self ..))]
   exact text_ne (h2 c (List.mem_cons_self ..))
  unfold xB
  cases l with
  | nil => exact hc
  | cons d l => 
   rw [List.map_cons, List.map_cons, pJ]
   intro e
   exact hc (List.append_eq_nil_iff.1 (List.append_eq_nil_iff.1 e).1).1
theorem rgText_ne {r : List (List Co)} (h : fewR r = true) : v7 r ≠ [] := by
 obtain ⟨h1, h2⟩ := fewR.facts h
 cases r with
 | nil => exact absurd h1.1 (by decide)
 | cons a l =>
  have hc := altText_ne (h2 a (List.mem_cons_self ..))
  unfold v7
  cases l with
  | nil => exact hc
  | cons d l =>
   rw [List.map_cons, List.map_cons, pJ]
   intro e
   exact hc (List.append_eq_nil_iff.1 (List.append_eq_nil_iff.1 e).1).1
theorem textR_nil {r : List (List Co)} : dE r = [] ↔ fewR r = false := by
 unfold dE
 cases h : fewR r with
 | false => simp
 | true => simp [rgText_ne h]
theorem print_text (r : List (List Co)) : mH r = if 96 < (dE r).length then [] else dE r := by
 unfold mH rgMay dE
 cases fewR r with
 | false => simp
 | true =>
  by_cases h : (v7 r).length ≤ 96
  ·simp [h, Nat.not_lt.2 h]
  ·simp [h, Nat.lt_of_not_le h]
end
section
def wK : Nat → List UInt8 → List (List UInt8)
 | 0, s => [s]
 | k + 1, s => if (z8 46 s).2.2 then (z8 46 s).1 :: wK k (z8 46 s).2.1 else [s]
theorem pcsK_len : ∀ (k : Nat) (s : List UInt8), 1 ≤ (wK k s).length ∧ (wK k s).length ≤ k + 1
 | 0, s => ⟨Nat.le_refl _, Nat.le_refl _⟩
 | k + 1, s => by
  have h := pcsK_len k (z8 46 s).2.1
  unfold wK
  split
  ·simp only [List.length_cons]; omega
  ·simp only [List.length_cons, List.length_nil]; omega
theorem pcsK_mem : ∀ (k : Nat) (s : List UInt8), ∀ x ∈ wK k s, x.length ≤ s.length
 | 0, s, x, hx => by rw [List.mem_singleton.1 hx]; exact Nat.le_refl _
 | k + 1, s, x, hx => by
  unfold wK at hx
  have hl := wU 46 s
  split at hx
  ·rcases List.mem_cons.1 hx with e | hx
   ·rw [e]; omega
   ·have := pcsK_mem k (z8 46 s).2.1 x hx; omega
  ·rw [List.mem_singleton.1 hx]; exact Nat.le_refl _
theorem pcsK_join : ∀ (k : Nat) (l : List (List UInt8)), l ≠ [] → l.length ≤ k + 1 → (∀ x ∈ l, (46 : UInt8) ∉ x) → wK k (zG 46 l) = l
 | _, [], h, _, _ => absurd rfl h
 | 0, [x], _, _, _ => rfl
 | k + 1, [x], _, _, h => by
  unfold wK
  show (if (z8 46 x).2.2 = true then _ else _) = _
  rw [vS 46 x (h x (List.mem_singleton.2 rfl))]
  exact if_neg Bool.false_ne_true
 | 0, x :: y :: r, _, hl, _ => by simp at hl
 | k + 1, x :: y :: r, _, hl, h => by
  have ih := pcsK_join k (y :: r) (by simp) (by simpa using hl) fun z hz => h z (List.mem_cons_of_mem _ hz)
  unfold wK
  rw [zG, jW 46 _ _ (h x (List.mem_cons_self ..)), if_pos rfl]
  dsimp only
  rw [ih]
def sgo (s : List UInt8) : Nat → Int × List UInt8
 | 0 => (7, s)
 | k + 1 => if yK s (zR ((k + 1 : Nat) : Int)) = true ∧ (s.drop (zR ((k + 1 : Nat) : Int)).length).length < (sgo s k).2.length then (((k + 1 : Nat) : Int), s.drop (zR ((k + 1 : Nat) : Int)).length) else sgo s k
theorem sgo_le (s : List UInt8) : ∀ k, (sgo s k).2.length ≤ s.length
 | 0 => Nat.le_refl _
 | k + 1 => by
  unfold sgo
  split
  ·show (s.drop _).length ≤ _; rw [List.length_drop]; omega
  ·exact sgo_le s k
def jY (s : List UInt8) : List (List UInt8) := wK 2 (z8 45 (sgo s 8).2).1
def starP (s : List UInt8) : Bool := decide ((jY s).getLast? = some [42])
def vA (s : List UInt8) : Co := ⟨if starP s then 9 else (sgo s 8).1, if starP s then ((jY s).length : Int) - 1 else ((jY s).length : Int), ⟨zK (tg (jY s) 0), zK (tg (jY s) 1), zK (tg (jY s) 2), (z8 45 (sgo s 8).2).2.1, []⟩⟩
theorem nob {d a : UInt8} {r t : List UInt8} (h : d ≠ a) : ¬ (yK (d :: r) (a :: t) = true) := by rw [gG h]; decide
theorem sgo_plain {d : UInt8} {r : List UInt8} (h : xM d.toNat = true ∨ d = 42) : sgo (d :: r) 8 = (7, d :: r) := by
 have hd : ∀ a : UInt8, xM a.toNat = false → a ≠ 42 → d ≠ a := fun a ha h42 e => by
  subst e
  rcases h with h | h
  ·rw [ha] at h; cases h
  ·exact h42 h
 have hb : ∀ k : Nat, 1 ≤ k → k ≤ 8 → ¬ (yK (d :: r) (zR (k : Int)) = true) := fun k h1 h8 => by
  have hk : k = 1 ∨ k = 2 ∨ k = 3 ∨ k = 4 ∨ k = 5 ∨ k = 6 ∨ k = 7 ∨ k = 8 := by omega
  rcases hk with rfl | rfl | rfl | rfl | rfl | rfl | rfl | rfl
  ·exact nob (hd 61 (by decide) (by decide))
  ·exact nob (hd 33 (by decide) (by decide))
  ·exact nob (hd 60 (by decide) (by decide))
  ·exact nob (hd 60 (by decide) (by decide))
  ·exact nob (hd 62 (by decide) (by decide))
  ·exact nob (hd 62 (by decide) (by decide))
  ·exact nob (hd 94 (by decide) (by decide))
  ·exact nob (hd 126 (by decide) (by decide))
 have : ∀ k : Nat, k ≤ 8 → sgo (d :: r) k = (7, d :: r) := fun k => by
  induction k with
  | zero => intro _; rfl
  | succ k ih =>
   intro h8
   unfold sgo
   rw [if_neg (fun q => hb (k + 1) Om h8 q.1)]
   exact ih Om
 exact this 8 (by decide)
theorem sgo_sign {op : Int} (h1 : 1 ≤ op) (h8 : op ≤ 8) {d : UInt8} {r : List UInt8} (hd : xM d.toNat = true) : sgo (zR op ++ d :: r) 8 = (op, d :: r) := by
 have h61 : d ≠ 61 := fun e => by subst e; revert hd; decide
 have hop : op = 1 ∨ op = 2 ∨ op = 3 ∨ op = 4 ∨ op = 5 ∨ op = 6 ∨ op = 7 ∨ op = 8 := by omega
 rcases hop with rfl | rfl | rfl | rfl | rfl | rfl | rfl | rfl <;> simp [zR, sgo, yK, h61]
theorem numD_star : zK [42] = 0 := by decide
theorem tg_star {v : Ver} (hv : v.may = true) {n : Nat} (h : n ≤ 2) (h0 : 0 < n ∨ v.maj = 0) (h1 : 1 < n ∨ v.min = 0) (h2 : 2 < n ∨ v.pat = 0) : zK (tg (zT v n ++ [[42]]) 0) = v.maj ∧ zK (tg (zT v n ++ [[42]]) 1) = v.min ∧ zK (tg (zT v n ++ [[42]]) 2) = v.pat := by
 obtain ⟨m1, m2, m3⟩ := gL hv
 have e1 := gA m1
 have e2 := gA m2
 match n, h with
 | 0, _ => exact ⟨numD_star.trans (h0.resolve_left (by decide)).symm, (h1.resolve_left (by decide)).symm, (h2.resolve_left (by decide)).symm⟩
 | 1, _ => exact ⟨e1, numD_star.trans (h1.resolve_left (by decide)).symm, (h2.resolve_left (by decide)).symm⟩
 | 2, _ => exact ⟨e1, e2, numD_star.trans (h2.resolve_left (by decide)).symm⟩
theorem rest_pieces {c : Co} (h : c.may = true) : wK 2 (z8 45 c.rest).1 = (if c.op = 9 then zT c.v c.parts.toNat ++ [[42]] else zT c.v c.parts.toNat) ∧ (z8 45 c.rest).2.1 = c.v.pre := by
 obtain ⟨_, hv, hb, h9, hn, hp, k0, k1, k2⟩ := Co.facts h
 unfold Co.rest
 by_cases e : c.op = 9
 ·rw [if_pos e, if_pos e]
  have f : ∀ b : UInt8, xM b.toNat = false → b ≠ 42 → ∀ x ∈ zT c.v c.parts.toNat ++ [[42]], b ∉ x := fun b hb hb2 x hx => by
   rcases List.mem_append.1 hx with hx | hx
   ·exact vV hv b hb x hx
   ·rw [List.mem_singleton.1 hx]
    intro hm
    exact hb2 (List.mem_singleton.1 hm)
  rw [vS 45 _ (bO 45 (by decide) _ (f 45 (by decide) (by decide)))]
  have hq := h9 e
  have hpre : c.v.pre = [] := hp.resolve_left Om
  refine ⟨?_, hpre.symm⟩
  refine pcsK_join 2 _ (by simp) ?_ (f 46 (by decide) (by decide))
  rw [List.length_append, jP c.v Om]
  simp only [List.length_cons, List.length_nil]; omega
 ·rw [if_neg e, if_neg e]
  have hq := hn e
  have hlen := jP c.v (n := c.parts.toNat) Om
  have hne : zT c.v c.parts.toNat ≠ [] := fun h0 => by
   rw [h0] at hlen
   simp at hlen; omega
  rw [cut_tail 45 _ _ (bO 45 (by decide) _ (vV hv 45 (by decide)))]
  exact ⟨pcsK_join 2 _ hne Om (vV hv 46 (by decide)), rfl⟩
theorem nums_last {c : Co} (h : c.may = true) (hn : ¬ c.op = 9) : ¬ (zT c.v c.parts.toNat).getLast? = some [42] := fun hl => by
 have hv := (Co.facts h).2.1
 have := vV hv 42 (by decide) _ (List.mem_of_getLast? hl)
 exact this (List.mem_singleton.2 rfl)
theorem guess_of {c : Co} {s : List UInt8} (h : c.may = true) (hs : (sgo s 8).2 = c.rest) (ho : c.op = 9 ∨ (sgo s 8).1 = c.op) : vA s = c := by
 obtain ⟨_, hv, hb, h9, hn, hp, k0, k1, k2⟩ := Co.facts h
 obtain ⟨p1, p2⟩ := rest_pieces h
 have hpc : jY s = if c.op = 9 then zT c.v c.parts.toNat ++ [[42]] else zT c.v c.parts.toNat := by unfold jY; rw [hs]; exact p1
 unfold vA
 rw [hs, p2]
 by_cases e : c.op = 9
 ·have hq := h9 e
  rw [if_pos e] at hpc
  have hst : starP s = true := by unfold starP; rw [hpc, List.getLast?_concat]; exact decide_eq_true rfl
  obtain ⟨e1, e2, e3⟩ := tg_star hv (n := c.parts.toNat) Om Om Om Om
  rw [hst, hpc, if_pos rfl, if_pos rfl, e1, e2, e3, List.length_append, jP c.v Om, List.length_singleton]
  obtain ⟨op, parts, a, b, d, q, r⟩ := c
  simp only at hb e hq ⊢
  rw [hb, e]
  congr 1
  omega
 ·have hq := hn e
  rw [if_neg e] at hpc
  have hst : starP s = false := by unfold starP; rw [hpc]; exact decide_eq_false (nums_last h e)
  obtain ⟨e1, e2, e3⟩ := nums_back hv (n := c.parts.toNat) Om Om Om Om
  rw [hst, hpc, if_neg (by decide), if_neg (by decide), e1, e2, e3, jP c.v Om, ho.resolve_left e]
  obtain ⟨op, parts, a, b, d, q, r⟩ := c
  simp only at hb hq ⊢
  rw [hb]
  congr 1
  omega
theorem guess_co {c : Co} {s : List UInt8} (h : c.may = true) (hs : c.text = s ∨ c.text = 94 :: s) : vA s = c := by
 obtain ⟨ho, _⟩ := Co.facts h
 by_cases hn : c.op = 9
 ·obtain ⟨d, r, e, hd⟩ := p9 h hn
  have ht : c.text = d :: r := by unfold Co.text; rw [hn, show zR 9 = [] from rfl, List.nil_append, e]
  rcases hs with hs | hs
  ·rw [ht] at hs
   rw [← hs]
   exact guess_of h (by rw [sgo_plain hd, e]) (.inl hn)
  ·rw [ht] at hs
   injection hs with e1 _
   rw [e1] at hd
   exact absurd hd (by decide)
 ·obtain ⟨d, r, e, hd⟩ := fJ h hn
  have ht : c.text = zR c.op ++ d :: r := by unfold Co.text; rw [e]
  have hs8 := sgo_sign ho.1 Om (r := r) hd
  rcases hs with hs | hs
  ·rw [ht] at hs
   rw [← hs]
   exact guess_of h (by rw [hs8, e]) (.inr (by rw [hs8]))
  ·rw [ht] at hs
   have hop : c.op = 1 ∨ c.op = 2 ∨ c.op = 3 ∨ c.op = 4 ∨ c.op = 5 ∨ c.op = 6 ∨ c.op = 7 ∨ c.op = 8 := by omega
   have h7 : c.op = 7 := by rcases hop with e2 | e2 | e2 | e2 | e2 | e2 | e2 | e2 <;> rw [e2] at hs <;> first | exact e2 | simp [zR] at hs
   rw [h7] at hs
   have hs2 : d :: r = s := by injection hs
   rw [← hs2]
   exact guess_of h (by rw [sgo_plain (.inl hd), e]) (.inr (by rw [sgo_plain (.inl hd), h7]))
theorem guess_nil : vA [] = ⟨7, 1, ⟨0, 0, 0, [], []⟩⟩ := by decide
theorem fits_may {s : List UInt8} (h : (vA s).print = s ∨ (vA s).print = 94 :: s) : (vA s).may = true := by
 refine print_may fun e => ?_
 rw [e] at h
 rcases h with h | h
 ·subst h
  revert e
  rw [guess_nil]
  decide +kernel
 ·cases h
theorem prog_some {s : List UInt8} (h : (vA s).print = s ∨ (vA s).print = 94 :: s) : g8 s = some (vA s) := by
 have hm := fits_may h
 rw [vI hm] at h
 exact (mK s _).2 ⟨hm, h⟩
theorem prog_none {s : List UInt8} (h : ¬ ((vA s).print = s ∨ (vA s).print = 94 :: s)) : g8 s = none := by
 cases hp : g8 s with
 | none => rfl
 | some c =>
  obtain ⟨hm, ht⟩ := (mK s c).1 hp
  have hg := guess_co hm ht
  rw [hg, vI hm] at h
  exact absurd ht h
def behC (c : Co) : Cu := if c.parts = 3 then ⟨0, c.v, true⟩ else if c.parts = 0 then jU 1 else highC c.v (c.parts - 1).toNat
def leadK (c : Co) : Int := if ¬ c.v.maj = 0 then 0 else if ¬ c.v.min = 0 then 1 else if ¬ c.v.pat = 0 then 2 else c.parts - 1
def boundC (c : Co) : Cu × Cu :=
 if c.op = 3 then (jU (-1), ⟨0, c.v, false⟩) else if c.op = 4 then (jU (-1), behC c) else if c.op = 5 then (behC c, jU 1) else if c.op = 6 then (⟨0, c.v, false⟩, jU 1)
 else if c.op = 7 then (⟨0, c.v, false⟩, highC c.v (leadK c).toNat) else if c.op = 8 then (⟨0, c.v, false⟩, highC c.v (min (c.parts - 1) 1).toNat) else if c.parts = 0 then (jU (-1), jU 1) else (⟨0, c.v, false⟩, behC c)
end
section
end
section
section
variable {M : List Nat} {P : Program} {n : Nat} {ops : Array Oper} {W : World} {L0 : List Blk} {Q : Exit → Act → World → Prop} {fuel : Nat} {listed : Array Bool} {L : List Blk} {f : Nat → Value}
end
theorem own_nil {M : List Nat} {W w : World} {L : List Blk} (h : Own M W w L) : Own M W w [] := h.sublist (List.nil_sublist _)
end
section
end
section
def cpL (s t : List UInt8) : List UInt8 := if yK s t = true then s.drop t.length else s
theorem pX : ∀ (t s : List UInt8), t.isPrefixOf s = yK s t
 | [], s => by simp [yK]
 | a :: t, [] => by simp [yK, List.isPrefixOf]
 | a :: t, b :: s => by
  have ih := pX t s
  unfold yK at ih ⊢
  rw [List.isPrefixOf, ih, List.length_cons, List.take_succ_cons]
  by_cases h : a = b
  ·subst h; simp
  ·simp [h, Ne.symm h]
theorem cutpre_any (s t : List UInt8) (w : World) : YC 120 #[.string (mkS s), .string (mkS t)] w (YR (.tuple #[.string (mkS (cpL s t)), .bool (yK s t)]) w) :=
 (Tryz.strings_CutPrefix (mkS s) (mkS t) w).mono fun e w' ⟨he, hw⟩ => by
  subst hw
  refine ⟨?_, Below.refl _ _⟩
  rw [he, mk_data, mk_data]
  unfold Lib.trimPrefix Lib.hasPrefix cpL
  rw [pX]; rfl
theorem splitK_pcs : ∀ (k : Nat) (s : List UInt8), Lib.splitK [46] 0 k s = wK k s
 | 0, s => rfl
 | k + 1, s => by
  have hc := pQ 46 s
  have hge := Lib.index_ge s [46]
  unfold Lib.splitK wK
  rw [← hc]
  unfold Lib.cut
  by_cases h : Lib.index s [46] = -1
  ·have h2 : ¬ 0 ≤ Lib.index s [46] := by omega
   simp [h]
  ·have h2 : 0 ≤ Lib.index s [46] := by omega
   simp [h, h2, splitK_pcs k]
theorem pD : ∀ (k : Nat) (s : List UInt8), s.length ≤ k → wK k s = wK (k + 1) s
 | 0, s, h => by
  obtain rfl := List.eq_nil_of_length_eq_zero (Nat.le_zero.1 h)
  rfl
 | k + 1, s, h => by
  have hl := jV 46 s
  rw [wK]
  conv => rhs; rw [wK]
  cases hq : (z8 46 s).2.2 with
  | false => rw [if_neg Bool.false_ne_true, if_neg Bool.false_ne_true]
  | true =>
   rw [hq, if_pos rfl] at hl
   rw [if_pos rfl, if_pos rfl, pD k _ Om]
theorem pcsK_min (s : List UInt8) : wK (min 3 (s.length + 1) - 1) s = wK 2 s := by
 by_cases h0 : s.length = 0
 ·rw [h0, show min 3 (0 + 1) - 1 = 0 from rfl, pD 0 s Om, pD 1 s Om]
 ·by_cases h1 : s.length = 1
  ·rw [h1, show min 3 (1 + 1) - 1 = 1 from rfl, pD 1 s Om]
  ·rw [show min 3 (s.length + 1) - 1 = 2 by omega]
theorem splitB_pcs (k : Nat) (s : List UInt8) : Lib.splitB ⟨#[46]⟩ 0 k (mkS s) = (wK k s).map mkS := by
 have h := Lib.splitB_data ⟨#[46]⟩ 0 k (mkS s)
 rw [mk_data, show (⟨#[46]⟩ : ByteArray).data.toList = [46] from rfl, splitK_pcs] at h
 rw [← h, List.map_map]
 refine ((List.map_congr_left fun x _ => ?_).trans (List.map_id _)).symm
 exact Lib.mk_data x
theorem split3_any (s : List UInt8) (W : World) (hs : s.length ≤ 1000000) :
  YC 173 #[.string (mkS s), .string ⟨#[46]⟩, YI 0, YI 3] W fun e w' => ∃ v' ob', e = .returned v' ∧ SlT v' (wK 2 s) ob' ∧ Own [] W w' ob' := by
 have hsz := yC s
 have hI : ∀ (x : ByteArray) (c : Array Value), x.size ≤ (mkS s).size → YC 210 #[.string x, .string ⟨#[46]⟩] (W.alloc (.cells c 9)) fun e w' => e = .returned (YI (Lib.indexB x ⟨#[46]⟩)) ∧ w' = W.alloc (.cells c 9) :=
  fun x c _ => (Tryz.strings_Index_one x 46 _).mono fun e w' ⟨he, hw⟩ => ⟨by rw [he, jZ]; try rfl, hw⟩
 have hC : YC 209 #[.string (mkS s), .string ⟨#[46]⟩] W fun e w' => e = .returned (YI (Lib.countB (mkS s) ⟨#[46]⟩)) ∧ w' = W :=
  (Tryz.strings_Count_one (mkS s) 46 W).mono fun e w' ⟨he, hw⟩ => ⟨by rw [he]; show _ = Ending.returned (Value.int .i64 ((Lib.count (mkS s).data.toList [46] : Nat) : Int)); rw [Lib.count_one]; rfl, hw⟩
 have c := Any.strings_genSplit_core Tryz.lays221 Kr (mkS s) ⟨#[46]⟩ 0 3 (min 3 ((mkS s).size + 1)) W Om (by decide) (Nat.zero_le _) hI hC (by decide) (by decide) (by rw [if_neg (by decide)]; omega)
 rw [hsz, splitB_pcs, pcsK_min] at c
 obtain ⟨hl1, hl3⟩ := pcsK_len 2 s
 have hle : (wK 2 s).length ≤ min 3 (s.length + 1) := by
  have h := Lib.splitB_length_le ⟨#[46]⟩ 0 (min 3 (s.length + 1) - 1) (mkS s)
  rw [splitB_pcs, pcsK_min, List.length_map] at h
  omega
 rw [List.length_map] at c
 refine Calls.mono c fun e w' ⟨he, hw⟩ => ?_
 subst hw
 refine ⟨_, _, he, ⟨by rw [wB]; omega, .inr ⟨W.heap.size, min 3 (s.length + 1), _, rfl, rfl, hle, by unfold maxLen; omega, by rw [Lib.cellsOf_size (by rw [List.length_map]; exact hle), Nat.mul_one], ?_⟩⟩, (Own.start [] W).alloc _ _⟩
 unfold Lib.cellsOf
 rw [List.map_map, List.take_append_of_le_length (by rw [List.length_map]; omega), List.take_of_length_le (by rw [List.length_map]; omega)]
 rfl
end
section
section
variable {M : List Nat} {P : Program} {n : Nat} {W : World} {L : List Blk} {f : Nat → Value}
theorem fin_ret3 {fn : Func} {R : Ending → World → Prop} {t u s : Tmp} (v v' v2 : Value) (hres : fn.results = #[.tmp t, .tmp u, .tmp s]) (hv : ev n f (.tmp t) = v) (hv' : ev n f (.tmp u) = v') (hv2 : ev n f (.tmp s) = v2) (hR : ∀ w, Own M W w L → R (.returned (.tuple #[v, v', v2])) w) : Fin M n W (bodyPost P fn R) .ret L f := ⟨fun w hO => by
 have e1 : (Fr n f).tmps.getD t undef = v := (xR n f t).trans hv
 have e2 : (Fr n f).tmps.getD u undef = v' := (xR n f u).trans hv'
 have e3 : (Fr n f).tmps.getD s undef = v2 := (xR n f s).trans hv2
 have hr : ∀ tm : Array Value, (results fn tm).run P w = .ok (.tuple #[tm.getD t undef, tm.getD u undef, tm.getD s undef]) w := fun tm => by simp [results, hres]
 refine bodyPost_ret (v := .tuple #[v, v', v2]) ?_ rfl (hR w hO)
 rw [hr, e1, e2, e3]⟩
end
end
section
section
variable {M : List Nat} {P : Program} {n : Nat} {ops : Array Oper} {W : World} {Q : Exit → Act → World → Prop} {L : List Blk} {f : Nat → Value} {rest : List Oper} {o : Oper}
def RoundW (n : Nat) (Inv : World → (Nat → Value) → Nat → Prop) (m : Nat) (Q : Exit → Act → World → Prop) : Exit → Act → World → Prop :=
 Exit.then (fun a w => ∃ f m', m' < m ∧ Inv w f m' ∧ a = Fr n f) Q
theorem fin_roundW {Inv : World → (Nat → Value) → Nat → Prop} {m m' : Nat} (hlt : m' < m) (hI : ∀ w, Own M W w L → Inv w f m') : Fin M n W (RoundW n Inv m Q) .normal L f := ⟨fun w hO => ⟨f, m', hlt, hI w hO, rfl⟩⟩
end
structure RdT (w : World) (v : Value) (l : List (List UInt8)) : Prop where
 ex : ∃ A cap, v = .slice A l.length cap ∧ Reads yE w w.heap.size A l ∧ (A = none → cap = 0)
end
section
section
variable {P : Program} {md : Region.Mode} {l : List Oper} {m : Nat}
theorem upon_then {o : Oper} {a : Act} {K K' : Act → World → Prop} {Q : Exit → Act → World → Prop} {r : Result Next} : o.upon P a K (Exit.then K' Q) r = o.upon P a K Q r := by
 cases r with
 | ok x w => cases x <;> rfl
 | halt x w => cases x <;> rfl
theorem wpOp_take (hp : PreOk md l m) {Q : Exit → Act → World → Prop} {K' : Act → World → Prop} {i : Nat} (hi : i < m) {K : Act → World → Prop} {a : Act} {w : World} (h : wpOp P (l.take m).toArray (Exit.then K' Q) i K a w) : wpOp P l.toArray Q i K a w := by
 unfold wpOp at h ⊢
 rw [take_at hi] at h
 cases ho : l.toArray[i]? with
 | none => rw [ho] at h; exact h
 | some o =>
  rw [ho] at h
  have ho' : l[i]? = some o := by simpa using ho
  dsimp only at h ⊢
  rw [want_take hp hi ho'] at h
  split
  ·rename_i hw
   rw [if_pos hw] at h
   unfold Oper.wp at h ⊢
   rw [upon_then] at h
   exact h
  ·rename_i hw
   rw [if_neg hw] at h
   exact h
theorem any_comp (hp : PreOk md l m) {Q : Exit → Act → World → Prop} {K' : Act → World → Prop} {g : Nat} (H : ∀ (fuel : Nat) (listed : Array Bool) (a : Act) (w : World), g ≤ fuel → Upto l.length m listed → K' a w → wpAny P md l.toArray Q fuel listed a w) :
  ∀ (fuel : Nat) (listed' listed : Array Bool) (a : Act) (w : World), Part l.length m listed' listed → wpAny P md (l.take m).toArray (Exit.then K' Q) fuel listed' a w → wpAny P md l.toArray Q (fuel + g) listed a w := by
 have full : ∀ (listed' listed : Array Bool), Part l.length m listed' listed → (¬ ∃ i, i < m ∧ listed'.getD i true = false) → Upto l.length m listed := by
  intro listed' listed h hno
  refine ⟨h.size, fun i hi => ?_⟩
  by_cases him : i < m
  ·rw [h.same i him, decide_eq_true him]
   obtain ⟨b, e⟩ := h.get him
   rw [e]
   cases b with
   | true => rfl
   | false => exact absurd ⟨i, him, by rw [Array.getD_eq_getD_getElem?, e]; rfl⟩ hno
  ·rw [decide_eq_false him]; exact h.rest i Om hi
 have some_ready : ∀ (listed' listed : Array Bool), Part l.length m listed' listed → (∃ i, i < m ∧ listed'.getD i true = false) → ∃ k, k < m ∧ k ∈ Region.ready md l.toArray listed := by
  intro listed' listed h hun
  obtain ⟨k, hk, hf, hall⟩ := least_false (fun i => listed'.getD i true) m hun
  refine ⟨k, hk, (tD hp h hk).2 (mem_ready.2 ⟨hf, l[k]'(by have := hp.le; omega), ?_, fun e he hb => ?_⟩)⟩
  ·rw [take_at hk]; simp
  ·have := hp.back k _ (List.getElem?_eq_getElem (by have := hp.le; omega)) e he hb
   have h2 := hall e.on this
   obtain ⟨b, e2⟩ := h.get (i := e.on) Om
   rw [Array.getD_eq_getD_getElem?, e2] at h2 ⊢
   simpa using h2
 intro fuel
 induction fuel with
 | zero =>
  intro listed' listed a w h hq
  have hno : ¬ ∃ i, i < m ∧ listed'.getD i true = false := fun hun => by
   obtain ⟨k, hk, hr⟩ := some_ready _ _ h hun
   have := (tD hp h hk).1 hr
   rw [hq.1] at this; cases this
  exact H _ listed a w Om (full _ _ h hno) hq.2
 | succ f ih =>
  intro listed' listed a w h hq
  by_cases hun : ∃ i, i < m ∧ listed'.getD i true = false
  ·rw [show f + 1 + g = (f + g) + 1 from by omega]
   refine ⟨fun hr => ?_, fun i hi => ?_⟩
   ·obtain ⟨k, hk, hr2⟩ := some_ready _ _ h hun
    rw [hr] at hr2; cases hr2
   ·have him := part_in hp h hun i hi
    have h1 := hq.2 i ((tD hp h him).1 hi)
    exact wpOp_mono (fun a' w' hk => ih _ _ a' w' (h.set him) hk) (wpOp_take hp him h1)
  ·have hr : Region.ready md (l.take m).toArray listed' = [] := by
    apply List.eq_nil_iff_forall_not_mem.2
    intro i hi
    have h1 := (mem_ready.1 hi).1
    obtain ⟨_, o, ho, _⟩ := mem_ready.1 hi
    have : i < m := by
     have := (Array.getElem?_eq_some_iff.1 ho).1
     simp at this; omega
    exact hun ⟨i, this, h1⟩
   exact H _ listed a w Om (full _ _ h hun) (hq.1 hr)
end
section
variable {M : List Nat} {P : Program} {n : Nat} {W : World} {Q : Exit → Act → World → Prop} {L : List Blk} {f : Nat → Value}
theorem ok_drawh {id : Nat} {l : List Oper} (m : Nat) (L0 : List Blk) (hm : P.follows .mixedOrders = true) (hP : preB .any l m = true) (h : qX M P n (l.take m).toArray W L0 (Exit.then (wpList P l.toArray Q (l.drop m)) Q) m (Array.replicate m false) L f) : Ok M P n W Q (.region id l.toArray true) L f := ⟨fun w hO => by
 have hp := preB_ok hP
 have hle : (l.take m).length = m := by rw [List.length_take]; have := hp.le; omega
 refine wp_region_any hm ?_
 have hq := wpAny_of_held _ _ _ _ (h.go _ hO.drew)
 have hres := any_comp (P := P) (md := .any) hp (Q := Q) (g := l.length - m) (K' := wpList P l.toArray Q (l.drop m)) (fun fuel listed a w hf hu hk => any_tail hp (l.length - m) m fuel listed _ w rfl (Nat.le_refl _) hp.le hf hu hk) m (Array.replicate m false) (Array.replicate l.toArray.size false) (Fr n f) { w with drawn := w.drawn + 1 }
  ⟨by simp, by simp, fun i hi => by
   have := hp.le
   rw [Array.getElem?_replicate, Array.getElem?_replicate, if_pos (by simp; omega), if_pos hi], fun t _ ht => by rw [Array.getElem?_replicate, if_pos (by simpa using ht)]⟩ hq
 rw [show m + (l.length - m) = l.toArray.size from by have := hp.le; simp; omega] at hres
 exact hres⟩
end
end
section
inductive XTop where
 | ops (a : Array Oper) (r : List Oper)
 | qps (a : Array Oper) (r : List Oper)
 | hps (a : Array Oper) (s : Array Bool) (u : Nat) (L0 : List Blk)
 | hst (a : Array Oper) (s : Array Bool) (u : Nat) (L0 : List Blk) (i : Nat)
 | code (c : Code)
 | fin (e : Exit)
inductive XIt where
 | code (c : Code)
 | blk (id : Nat)
 | lp (I : List Blk → (Nat → Value) → Nat → Prop) (m : Nat)
 | tl (a : Array Oper) (r : List Oper)
 | rd (c : Code) (m : Nat)
structure Xc where
 top : XTop
 k : List XIt
 L : List Blk
 f : Nat → Value
def KQ (M : List Nat) (P : Program) (n : Nat) (W : World) (Q : Exit → Act → World → Prop) : List XIt → Exit → Act → World → Prop
 | [] => Q
 | .code c :: k => Exit.then (Code.wp P c (KQ M P n W Q k)) (KQ M P n W Q k)
 | .blk id :: k => Exit.inBlock id (KQ M P n W Q k)
 | .lp I m :: k => Round M n W I m (KQ M P n W Q k)
 | .tl a r :: k => Exit.then (wpList P a (KQ M P n W Q k) r) (KQ M P n W Q k)
 | .rd c m :: k => Exit.then (Code.rounds P c (KQ M P n W Q k) m) (KQ M P n W Q k)
theorem pY {M : List Nat} {P : Program} {n : Nat} {W : World} {Q : Exit → Act → World → Prop} (h : PQ Q) : ∀ k : List XIt, PQ (KQ M P n W Q k)
 | [] => h
 | .code _ :: k => xE (pY h k)
 | .blk _ :: k => nN (pY h k)
 | .lp _ _ :: k => pq_round (pY h k)
 | .tl _ _ :: k => xE (pY h k)
 | .rd _ _ :: k => xE (pY h k)
structure zI (M : List Nat) (P : Program) (n : Nat) (W : World) (Q : Exit → Act → World → Prop) (c : Xc) : Prop where
 go : PQ Q → match c.top with
  | .ops a r => Seg M P n a W (KQ M P n W Q c.k) r c.L c.f
  | .qps a r => qW M P n a W (Fin M n W (KQ M P n W Q c.k) .normal) r c.L c.f
  | .hps a s u L0 => (∀ w, Own M W w c.L → Own M W w L0) → qX M P n a W L0 (KQ M P n W Q c.k) u s c.L c.f
  | .hst a s u L0 i => (∀ w, Own M W w c.L → Own M W w L0) → bD M P n a W L0 (KQ M P n W Q c.k) u s i c.L c.f
  | .code x => Ok M P n W (KQ M P n W Q c.k) x c.L c.f
  | .fin e => Fin M n W (KQ M P n W Q c.k) e c.L c.f
def xPure : Op → Bool
 | .move _ | .assign _ | .pick _ _ _ | .build _ _ | .binOp _ _ _ _ _ | .unOp _ _ _ | .convert _ _ _ | .fieldAddr _ _ _ | .field _ _ _ | .indexAddr _ _ _ | .index _ _ _ | .extract _ _ | .slice _ _ _ _ _ | .nilCheck _ => true
 | .call c => match c.callee with
  | .builtin .len | .builtin .cap | .builtin .max | .builtin .min => true
  | _ => false
 | _ => false
def xQuiet (o : Oper) : Bool :=
 match o.op with
 | .load _ _ => true
 | .call c => match c.callee with
  | .builtin .append => false
  | _ => true
 | op => xPure op
abbrev XR : Type := World → Result Next
inductive XK where
 | no
 | r (g : XR)
 | ld (p : Value) (x : Option Blk) (v : Option Value)
 | st (p : Value) (x : Option Blk) (a : Option Bool) (b : Bool)
 | h (a b : Bool) (k : XK)
def xVal (P : Program) (n : Nat) (f : Nat → Value) (o : Oper) : Value :=
 match (execOp (ev n f) o).run P default with
 | .ok (.value v) _ => v
 | _ => undef
def xOff : Value → Nat
 | .pointer (some a) => a.off
 | _ => 0
def vL (L : List Blk) (i : Nat) : Blk := L.getD i ⟨0, #[], 0⟩
structure XS where
 go : Bool
 c : Xc
 h : List Nat
 l : XK
 r : XK
def xhd (h : List Nat) : Nat := h.headD 0
def xop (P : Program) (n : Nat) (q : Bool) (a : Array Oper) (o : Oper) (r : List Oper) (c : Xc) (h : List Nat) : XS :=
 let nx (L : List Blk) (f : Nat → Value) : Xc := ⟨bif q then .qps a r else .ops a r, c.k, L, f⟩
 match zP a n c.f o with
 | false => ⟨true, nx c.L (upd c.f o.dst undef), h, .no, .no⟩
 | true =>
  match o.op with
  | .load ty p =>
   let x := vL c.L (xhd h)
   let v := yN P ty x.cs (xOff (ev n c.f p))
   ⟨true, nx c.L (upd c.f o.dst (v.getD undef)), h.tail, .ld (ev n c.f p) (c.L[xhd h]?) v, .ld (.pointer (some ⟨x.b, xOff (ev n c.f p), none⟩)) (some x) (some (v.getD undef))⟩
  | .store T p y =>
   match q, o.dst with
   | false, none =>
    let x := vL c.L (xhd h)
    let v := ev n c.f y
    ⟨true, nx (c.L.set (xhd h) ⟨x.b, zS x.cs (xOff (ev n c.f p)) v.cells, x.ty⟩) c.f, h.tail, .st (ev n c.f p) (c.L[xhd h]?) ((P.info? T).map fun t => Nat.beq v.cells.size t.size && Nat.ble (xOff (ev n c.f p) + t.size) x.cs.size) (v.cells.toList.all fun u => u.oneCell'),
     .st (.pointer (some ⟨x.b, xOff (ev n c.f p), none⟩)) (some x) (some true) true⟩
   | _, _ => ⟨false, c, h, .no, .no⟩
  | op =>
   match xPure op with
   | true => ⟨true, nx c.L (upd c.f o.dst (xVal P n c.f o)), h, .r (fun w => (execOp (ev n c.f) o).run P w), .r (fun w => .ok (.value (xVal P n c.f o)) w)⟩
   | false => ⟨false, c, h, .no, .no⟩
def xTak (n : Nat) (a : Array Oper) (f : Nat → Value) (i : Nat) : Bool :=
 match a[i]? with
 | none => false
 | some o =>
  match zP a n f o with
  | false => true
  | true =>
   match o.op with
   | .load _ _ => true
   | op => xPure op
def xhp (P : Program) (n : Nat) (a : Array Oper) (s : Array Bool) (u : Nat) (L0 : List Blk) (i : Nat) (o : Oper) (c : Xc) (h : List Nat) : XS :=
 let nx (f : Nat → Value) : Xc := ⟨.hps a (s.setIfInBounds i true) u L0, c.k, c.L, f⟩
 let fr : Bool := Region.noSelect a && Region.free .any a s i && (Region.ready .any a s).contains i
 match zP a n c.f o with
 | false => ⟨true, nx (upd c.f o.dst undef), h, .h fr true .no, .h true true .no⟩
 | true =>
  match o.op with
  | .load ty p =>
   let x := vL L0 (xhd h)
   let v := yN P ty x.cs (xOff (ev n c.f p))
   ⟨true, nx (upd c.f o.dst (v.getD undef)), h.tail, .h fr true (.ld (ev n c.f p) (L0[xhd h]?) v), .h true true (.ld (.pointer (some ⟨x.b, xOff (ev n c.f p), none⟩)) (some x) (some (v.getD undef)))⟩
  | op => ⟨true, nx (upd c.f o.dst (xVal P n c.f o)), h, .h fr true (.r (fun w => (execOp (ev n c.f) o).run P w)), .h true true (.r (fun w => .ok (.value (xVal P n c.f o)) w))⟩
def xhs (P : Program) (n : Nat) (a : Array Oper) (s : Array Bool) (u : Nat) (L0 : List Blk) (c : Xc) (h : List Nat) : XS :=
 match Region.ready .any a s with
 | [] => ⟨true, { c with top := .fin .normal }, h, .no, .no⟩
 | _ =>
  match u, (Region.ready .any a s).find? (xTak n a c.f) with
  | u' + 1, some i =>
   match a[i]? with
   | some o => xhp P n a s u' L0 i o c h
   | none => ⟨false, c, h, .no, .no⟩
  | _, _ => ⟨false, c, h, .no, .no⟩
def xcode (P : Program) (n : Nat) (x : Code) (c : Xc) : Bool × Xc :=
 match x with
 | .skip => (true, { c with top := .fin .normal })
 | .region _ a false => (true, { c with top := .ops a a.toList })
 | .region _ a true => bif P.follows .mixedOrders && Region.lexB .any a && a.toList.all xQuiet then (true, { c with top := .qps a a.toList }) else (false, c)
 | .seq a b => (true, { c with top := .code a, k := .code b :: c.k })
 | .block id b => (true, { c with top := .code b, k := .blk id :: c.k })
 | .exit id => (true, { c with top := .fin (.exit id) })
 | .ret => (true, { c with top := .fin .ret })
 | .cond o a b =>
  match ev n c.f o with
  | .bool true => (true, { c with top := .code a })
  | .bool false => (true, { c with top := .code b })
  | _ => (false, c)
 | _ => (false, c)
def xfin (e : Exit) (c : Xc) : Bool × Xc :=
 match c.k, e with
 | .code b :: k, .normal => (true, { c with top := .code b, k := k })
 | .code _ :: k, .exit id => (true, { c with top := .fin (.exit id), k := k })
 | .code _ :: k, .ret => (true, { c with top := .fin .ret, k := k })
 | .blk _ :: k, .normal => (true, { c with top := .fin .normal, k := k })
 | .blk id :: k, .exit id' => (true, { c with top := .fin (bif Nat.beq id' id then .normal else .exit id'), k := k })
 | .blk _ :: k, .ret => (true, { c with top := .fin .ret, k := k })
 | .lp _ _ :: k, .exit id => (true, { c with top := .fin (.exit id), k := k })
 | .lp _ _ :: k, .ret => (true, { c with top := .fin .ret, k := k })
 | .tl a r :: k, .normal => (true, { c with top := .ops a r, k := k })
 | .rd b (m + 1) :: k, .normal => (true, { c with top := .code b, k := .rd b m :: k })
 | .rd _ _ :: k, .exit id => (true, { c with top := .fin (.exit id), k := k })
 | .rd _ _ :: k, .ret => (true, { c with top := .fin .ret, k := k })
 | _, _ => (false, c)
def wZ (P : Program) (n : Nat) (c : Xc) (h : List Nat) : XS :=
 match c.top with
 | .ops _ [] => ⟨true, { c with top := .fin .normal }, h, .no, .no⟩
 | .ops a (o :: r) => xop P n false a o r c h
 | .qps _ [] => ⟨true, { c with top := .fin .normal }, h, .no, .no⟩
 | .qps a (o :: r) => xop P n true a o r c h
 | .hps a s u L0 => xhs P n a s u L0 c h
 | .hst _ _ _ _ _ => ⟨false, c, h, .no, .no⟩
 | .code x => ⟨(xcode P n x c).1, (xcode P n x c).2, h, .no, .no⟩
 | .fin e => ⟨(xfin e c).1, (xfin e c).2, h, .no, .no⟩
def xdst (n : Nat) (c : Xc) : Option Tmp :=
 match c.top with
 | .ops _ (o :: _) => o.dst
 | .qps _ (o :: _) => o.dst
 | .hps a s _ _ =>
  match (Region.ready .any a s).find? (xTak n a c.f) with
  | some i => (a.getD i default).dst
  | none => none
 | _ => none
def xisd (d : Option Tmp) (t : Nat) : Bool := match d with
 | some d => Nat.beq d t
 | none => false
def xhit (n t : Nat) (c : Xc) : Bool := xisd (xdst n c) t
def xlen : List XIt → Nat
 | [] => 0
 | _ :: k => xlen k + 1
def xAt (m : Nat) : Nat := Nat.add m 90000
def xCt (d : Nat) : Nat := Nat.add d 70000
def xend (t : Nat) (c : Xc) : Bool :=
 match c.top with
 | .fin .normal => Nat.beq (xAt (xlen c.k)) t
 | _ => false
def xcnd (t : Nat) (c : Xc) : Bool :=
 match c.top with
 | .code (.cond (.tmp d) _ _) => Nat.beq d t
 | _ => false
noncomputable def xpre (n t : Nat) (c : Xc) : Bool := @Bool.rec (fun _ => Bool) false (@Bool.rec (fun _ => Bool) (@Bool.rec (fun _ => Bool) (xisd (xdst n c) (t - 50000)) (xcnd (t - 70000) c) (Nat.ble 70000 t)) (xend t c) (Nat.ble 90000 t)) (Nat.ble 50000 t)
inductive Fuel1 where
 | z
 | s (m : Fuel1)
def fuel5 (m : Fuel1) : Fuel1 := .s (.s (.s (.s (.s m))))
def fuel25 (m : Fuel1) : Fuel1 := fuel5 (fuel5 (fuel5 (fuel5 (fuel5 m))))
def fuel125 (m : Fuel1) : Fuel1 := fuel25 (fuel25 (fuel25 (fuel25 (fuel25 m))))
def fuelA : Fuel1 := fuel125 (fuel125 (fuel125 .z))
inductive Fuel2 where
 | z
 | s (m : Fuel2)
def tI : Fuel1 → Fuel2
 | .z => .z
 | .s m => .s (tI m)
def fuelB : Fuel2 := tI fuelA
noncomputable def x2 (P : Program) (n t : Nat) : Fuel1 → List Nat → Xc → Xc
 | .z, _, c => c
 | .s m, h, c => @Bool.rec (fun _ => Xc) (@Bool.rec (fun _ => Xc) (wZ P n c h).c (x2 P n t m (wZ P n c h).h (wZ P n c h).c) ((wZ P n c h).go && !xhit n t c)) c (xpre n t c)
noncomputable def xl (P : Program) (n t : Nat) : Fuel1 → List Nat → Xc → List XK
 | .z, _, _ => []
 | .s m, h, c => @Bool.rec (fun _ => List XK) ((wZ P n c h).l :: @Bool.rec (fun _ => List XK) [] (xl P n t m (wZ P n c h).h (wZ P n c h).c) ((wZ P n c h).go && !xhit n t c)) [] (xpre n t c)
noncomputable def xr (P : Program) (n t : Nat) : Fuel2 → List Nat → Xc → List XK
 | .z, _, _ => []
 | .s m, h, c => @Bool.rec (fun _ => List XK) ((wZ P n c h).r :: @Bool.rec (fun _ => List XK) [] (xr P n t m (wZ P n c h).h (wZ P n c h).c) ((wZ P n c h).go && !xhit n t c)) [] (xpre n t c)
section
variable {M : List Nat} {P : Program} {n : Nat} {W : World} {Q : Exit → Act → World → Prop}
theorem xop_ok {a : Array Oper} {o : Oper} {r : List Oper} {k : List XIt} {L : List Blk} {f : Nat → Value} {h : List Nat} (hk : (xop P n false a o r ⟨.ops a (o :: r), k, L, f⟩ h).l = (xop P n false a o r ⟨.ops a (o :: r), k, L, f⟩ h).r)
  (hg : zI M P n W Q (xop P n false a o r ⟨.ops a (o :: r), k, L, f⟩ h).c) : zI M P n W Q ⟨.ops a (o :: r), k, L, f⟩ := by
 unfold xop at hk hg
 cases hw : zP a n f o with
 | false => rw [hw] at hk hg; exact ⟨fun hq => s_skip hw (hg.go hq)⟩
 | true =>
  rw [hw] at hk hg
  cases ho : o.op with
  | load ty p =>
   rw [ho] at hk hg
   simp only [XK.ld.injEq] at hk
   exact ⟨fun hq => mG (xhd h) _ _ hw ho hk.2.1 hk.1 hk.2.2 (hg.go hq)⟩
  | store T p y =>
   rw [ho] at hk hg
   cases hd : o.dst with
   | some d => rw [hd] at hg; exact hg
   | none =>
    rw [hd] at hk hg
    simp only [XK.st.injEq] at hk
    exact ⟨fun hq => tB (xhd h) _ (ev n f y) hw ho hd hk.2.1 hk.1 rfl hk.2.2.1 hk.2.2.2 (hg.go hq)⟩
  | _ =>
   rw [ho] at hk hg
   dsimp only at hk hg
   split at hk
   ·rename_i hp
    rw [hp] at hg
    exact ⟨fun hq => yO _ hw (fun w => congrFun (XK.r.inj hk) w) (hg.go hq)⟩
   ·rename_i hp
    rw [hp] at hg
    exact hg
theorem xqp_ok {a : Array Oper} {o : Oper} {r : List Oper} {k : List XIt} {L : List Blk} {f : Nat → Value} {h : List Nat} (hk : (xop P n true a o r ⟨.qps a (o :: r), k, L, f⟩ h).l = (xop P n true a o r ⟨.qps a (o :: r), k, L, f⟩ h).r)
  (hg : zI M P n W Q (xop P n true a o r ⟨.qps a (o :: r), k, L, f⟩ h).c) : zI M P n W Q ⟨.qps a (o :: r), k, L, f⟩ := by
 unfold xop at hk hg
 cases hw : zP a n f o with
 | false => rw [hw] at hk hg; exact ⟨fun hq => q_skip hw (hg.go hq)⟩
 | true =>
  rw [hw] at hk hg
  cases ho : o.op with
  | load ty p =>
   rw [ho] at hk hg
   simp only [XK.ld.injEq] at hk
   exact ⟨fun hq => q_load (xhd h) _ _ hw ho hk.2.1 hk.1 hk.2.2 (hg.go hq)⟩
  | store T p y => rw [ho] at hk hg; exact hg
  | _ =>
   rw [ho] at hk hg
   dsimp only at hk hg
   split at hk
   ·rename_i hp
    rw [hp] at hg
    exact ⟨fun hq => vU _ hw (fun w => congrFun (XK.r.inj hk) w) (hg.go hq)⟩
   ·rename_i hp
    rw [hp] at hg
    exact hg
theorem ok_drawA {id : Nat} {a : Array Oper} {L : List Blk} {f : Nat → Value} {Q : Exit → Act → World → Prop} (hm : P.follows .mixedOrders = true) (hB : Region.lexB .any a = true) (h : qW M P n a W (Fin M n W Q .normal) a.toList L f) : Ok M P n W Q (.region id a true) L f := by
 obtain ⟨l, rfl⟩ : ∃ l : List Oper, a = l.toArray := ⟨a.toList, by simp⟩
 exact ok_draw hm hB (by simpa using h)
theorem ok_regA {id : Nat} {a : Array Oper} {L : List Blk} {f : Nat → Value} {Q : Exit → Act → World → Prop} (h : Seg M P n a W Q a.toList L f) : Ok M P n W Q (.region id a false) L f := by
 obtain ⟨l, rfl⟩ : ∃ l : List Oper, a = l.toArray := ⟨a.toList, by simp⟩
 exact zF (by simpa using h)
theorem xcode_ok {x : Code} {k : List XIt} {L : List Blk} {f : Nat → Value} (hg : zI M P n W Q (xcode P n x ⟨.code x, k, L, f⟩).2) : zI M P n W Q ⟨.code x, k, L, f⟩ := by
 cases x with
 | skip => exact ⟨fun hq => dL (hg.go hq)⟩
 | region id a d =>
  cases d with
  | false => exact ⟨fun hq => ok_regA (hg.go hq)⟩
  | true =>
   unfold xcode at hg
   dsimp only at hg
   revert hg
   cases hb : (P.follows .mixedOrders && Region.lexB .any a && a.toList.all xQuiet) with
   | false => exact fun hg => hg
   | true =>
    intro hg
    rw [Bool.and_eq_true, Bool.and_eq_true] at hb
    exact ⟨fun hq => ok_drawA hb.1.1 hb.1.2 (hg.go hq)⟩
 | seq a b => exact ⟨fun hq => zH (hg.go hq)⟩
 | cond o a b =>
  unfold xcode at hg
  dsimp only at hg
  split at hg
  ·rename_i e; exact ⟨fun hq => ok_true e (hg.go hq)⟩
  ·rename_i e; exact ⟨fun hq => ok_false e (hg.go hq)⟩
  ·exact hg
 | block id b => exact ⟨fun hq => yG (hg.go hq)⟩
 | exit id => exact ⟨fun hq => vK (hg.go hq)⟩
 | ret => exact ⟨fun hq => zN (hg.go hq)⟩
 | _ => exact hg
theorem xfin_ok {e : Exit} {k : List XIt} {L : List Blk} {f : Nat → Value} (hg : zI M P n W Q (xfin e ⟨.fin e, k, L, f⟩).2) : zI M P n W Q ⟨.fin e, k, L, f⟩ := by
 cases k with
 | nil => exact hg
 | cons i k =>
  cases i with
  | code b => cases e with
   | normal => exact ⟨fun hq => zJ (hg.go hq)⟩
   | exit id => exact ⟨fun hq => yM (hg.go hq)⟩
   | ret => exact ⟨fun hq => z7 (hg.go hq)⟩
   | _ => exact hg
  | blk id => cases e with
   | normal => exact ⟨fun hq => zV (hg.go hq)⟩
   | exit id' =>
    cases hb : Nat.beq id' id with
    | true =>
     obtain rfl := Nat.eq_of_beq_eq_true hb
     have hg' := hg.go
     simp only [xfin, hb, cond_true] at hg'
     exact ⟨fun hq => yJ (hg' hq)⟩
    | false =>
     have hne : id' ≠ id := fun e => by rw [e, Nat.beq_refl] at hb; cases hb
     have hg' := hg.go
     simp only [xfin, hb, cond_false] at hg'
     exact ⟨fun hq => fin_block_other hne (hg' hq)⟩
   | ret => exact ⟨fun hq => zA (hg.go hq)⟩
   | _ => exact hg
  | lp I m => cases e with
   | exit id => exact ⟨fun hq => yI (hg.go hq)⟩
   | ret => exact ⟨fun hq => zM (hg.go hq)⟩
   | _ => exact hg
  | tl a r => cases e with
   | normal => exact ⟨fun hq => ⟨(hg.go hq).go⟩⟩
   | _ => exact hg
  | rd b m => cases m with
   | zero => cases e with
    | exit id => exact ⟨fun hq => yM (hg.go hq)⟩
    | ret => exact ⟨fun hq => z7 (hg.go hq)⟩
    | _ => exact hg
   | succ m => cases e with
    | normal => exact ⟨fun hq => ⟨(hg.go hq).go⟩⟩
    | exit id => exact ⟨fun hq => yM (hg.go hq)⟩
    | ret => exact ⟨fun hq => z7 (hg.go hq)⟩
    | _ => exact hg
theorem xhs_ok {a : Array Oper} {s : Array Bool} {u : Nat} {L0 : List Blk} {k : List XIt} {L : List Blk} {f : Nat → Value} {h : List Nat} (hk : (xhs P n a s u L0 ⟨.hps a s u L0, k, L, f⟩ h).l = (xhs P n a s u L0 ⟨.hps a s u L0, k, L, f⟩ h).r)
  (hg : zI M P n W Q (xhs P n a s u L0 ⟨.hps a s u L0, k, L, f⟩ h).c) : zI M P n W Q ⟨.hps a s u L0, k, L, f⟩ := by
 unfold xhs at hk hg
 split at hk
 ·rename_i hr
  rw [hr] at hg
  exact ⟨fun hq hs => h_done hr (hg.go hq)⟩
 ·rename_i hr
  split at hg
  ·rename_i e; exact absurd e hr
  split at hk
  ·rename_i u' i hf
   rw [hf] at hg
   dsimp only at hg
   have ht := List.find?_some hf
   unfold xTak at ht
   cases ho : a[i]? with
   | none => rw [ho] at hg; exact hg
   | some o =>
    rw [ho] at hk hg ht
    dsimp only at hk hg ht
    unfold xhp at hk hg
    have fin3 : ∀ {b1 b2 b3 : Bool}, (b1 && b2 && b3) = true → b1 = true ∧ b2 = true ∧ b3 = true := fun {b1 b2 b3} h => by cases b1 <;> cases b2 <;> cases b3 <;> simp_all
    cases hw : zP a n f o with
    | false =>
     rw [hw] at hk hg
     simp only [XK.h.injEq] at hk
     obtain ⟨e1, e2, e3⟩ := fin3 hk.1
     exact ⟨fun hq hs => hl_skip i o ho e1 e2 e3 (pY hq k) hs hw (hg.go hq hs)⟩
    | true =>
     rw [hw] at hk hg ht
     dsimp only at ht
     cases hop : o.op with
     | load ty p =>
      rw [hop] at hk hg
      simp only [XK.h.injEq, XK.ld.injEq] at hk
      obtain ⟨e1, e2, e3⟩ := fin3 hk.1
      exact ⟨fun hq hs => hl_load i o (xhd h) _ _ ho e1 e2 e3 (pY hq k) hs hw hop hk.2.2.2.1 hk.2.2.1 hk.2.2.2.2 (hg.go hq hs)⟩
     | _ =>
      rw [hop] at hk hg
      dsimp only at hk hg
      have e0 := XK.h.inj hk
      obtain ⟨e1, e2, e3⟩ := fin3 e0.1
      exact ⟨fun hq hs => hl_take i o _ ho e1 e2 e3 (pY hq k) hs hw (fun w _ => congrFun (XK.r.inj e0.2.2) w) (hg.go hq hs)⟩
  ·rename_i hno
   split at hg
   ·rename_i u' i hf; exact absurd hf (hno u' i rfl)
   ·exact hg
theorem xstep_ok {c : Xc} {h : List Nat} (hk : (wZ P n c h).l = (wZ P n c h).r) (hg : zI M P n W Q (wZ P n c h).c) : zI M P n W Q c := by
 obtain ⟨top, k, L, f⟩ := c
 cases top with
 | ops a r => cases r with
  | nil => exact ⟨fun hq => y8 (hg.go hq)⟩
  | cons o r => exact xop_ok hk hg
 | qps a r => cases r with
  | nil => exact ⟨fun hq => mX (hg.go hq)⟩
  | cons o r => exact xqp_ok hk hg
 | hps a s u L0 =>
  change (xhs P n a s u L0 ⟨.hps a s u L0, k, L, f⟩ h).l = (xhs P n a s u L0 ⟨.hps a s u L0, k, L, f⟩ h).r at hk
  change zI M P n W Q (xhs P n a s u L0 ⟨.hps a s u L0, k, L, f⟩ h).c at hg
  exact xhs_ok hk hg
 | hst a s u L0 i => exact hg
 | code x => exact xcode_ok hg
 | fin e => exact xfin_ok hg
theorem tO {t : Nat} : ∀ (m : Fuel1) (h : List Nat) (c : Xc), xl P n t m h c = xr P n t (tI m) h c → zI M P n W Q (x2 P n t m h c) → zI M P n W Q c
 | .z, _, _, _, hg => hg
 | .s m, h, c, hk, hg => by
  unfold xl tI xr at hk
  unfold x2 at hg
  cases hp : xpre n t c with
  | true => simp only [hp] at hg; exact hg
  | false =>
   simp only [hp] at hk hg
   cases hb : (wZ P n c h).go && !xhit n t c with
   | true =>
    simp only [hb] at hk hg
    have h2 := List.cons.inj hk
    exact xstep_ok h2.1 (tO m _ _ h2.2 hg)
   | false =>
    simp only [hb] at hk hg
    exact xstep_ok (List.cons.inj hk).1 hg
end
end
end Go.Proofs.YtjimgokkpcfgpaaGreatDoor
