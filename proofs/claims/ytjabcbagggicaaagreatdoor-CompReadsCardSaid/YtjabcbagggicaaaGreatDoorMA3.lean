/-
  What the statements' proofs lean on, part 3: each part begins with a remark that says what it proves and on what conditions.
-/
import Derived.Deep.RegionHeld3
import Derived.Outline
import Derived.Test.YtjabcbagggicaaaGreatDoorMA2

section
/-
  Slices of strings in the way of Rx: what linchpinref1's Split returns as an own block; literals; reading. No condition of its own.
-/
namespace Go.Proofs.YtjabcbagggicaaaGreatDoor
open Go.RowKit
set_option linter.unusedVariables false
set_option linter.unusedSimpArgs false

/-- The value v is a slice of the strings l that lies in ob. -/
def SlT (v : Value) (l : List (List UInt8)) (ob : List Blk) : Prop := Sl 9 1 v l.length (strV l) ob
theorem SlT.form {v : Value} {l : List (List UInt8)} {ob : List Blk} (h : SlT v l ob) : ∃ A cap, v = .slice A l.length cap := by
  rcases h.2 with ⟨h1, h2, _⟩ | ⟨g, cap, cur, h1, _⟩
  · exact ⟨none, 0, by rw [h1, h2]⟩
  · exact ⟨_, _, h1⟩
theorem Own.row {w w' : World} {T sz n : Nat} {v : Value} {xs : List Value} (h : w'.ownsRow w.heap.size T sz v n xs) (hb : Below w.heap.size w w') : ∃ ob, Sl T sz v n xs ob ∧ Own [] w w' ob := by
  rcases h.2 with ⟨h1, h2⟩ | ⟨g, cap, cur, h1, h2, h3, h4, h5, h6, h7⟩
  · exact ⟨[], ⟨h.1, .inl ⟨h1, h2, rfl⟩⟩, ⟨hb.os, hb.tape, hb.output, hb.size, hb.drawn, fun k hk _ => hb.block k hk, by simp, by simp, by simp⟩⟩
  · refine ⟨[⟨g, cur, T⟩], ⟨h.1, .inr ⟨g, cap, cur, h1, rfl, h4, h5, h6, h7⟩⟩, ⟨hb.os, hb.tape, hb.output, hb.size, hb.drawn, fun k hk _ => hb.block k hk, ?_, ?_, by simp⟩⟩
    · intro x hx
      rw [List.mem_singleton.1 hx]; exact h3
    · intro x hx
      rw [List.mem_singleton.1 hx]; exact .inl h2
theorem rsplit_own (s : List UInt8) (W : World) (hs : s.length ≤ 1000000) :
    Calls Tryz.prog 41 #[.string (mkS s), .int .u8 46] W fun e w' => ∃ v' ob', e = .returned v' ∧ SlT v' (pcs s) ob' ∧ Own [] W w' ob' :=
  (rsplit_mk s W hs).mono fun e w' ⟨v, h1, h2, h3⟩ => by
    obtain ⟨ob, k1, k2⟩ := Own.row h2 h3
    exact ⟨v, ob, h1, k1, k2⟩
def strC (x : List UInt8) : List Value := [.string (mkS x)]
theorem strC_len (x : List UInt8) : (strC x).length = 1 := rfl
theorem strV_flat : ∀ (l : List (List UInt8)), strV l = l.flatMap strC
  | [] => rfl
  | x :: l => by
    show Value.string (mkS x) :: strV l = [Value.string (mkS x)] ++ l.flatMap strC
    rw [strV_flat l]; rfl
theorem SlT.reads {A : Option Addr} {n cap : Nat} {l : List (List UInt8)} {ob L : List Blk} {M : List Nat} {W w : World} (h : SlT (.slice A n cap) l ob) (hn : l.length = n) (hO : Own M W w L) (hs : ∀ x ∈ ob, x ∈ L) : Reads strC w w.heap.size A l := by
  subst hn
  unfold SlT at h
  rw [strV_flat] at h
  exact Sl.reads h rfl hO hs
/-- Read as strings in the elder way. -/
theorem SlT.readsT {v : Value} {l : List (List UInt8)} {ob L : List Blk} {M : List Nat} {W w : World} (h : SlT v l ob) (hO : Own M W w L) (hs : ∀ x ∈ ob, x ∈ L) : ReadsT w w.heap.size v l := by
  obtain ⟨A, cap, rfl⟩ := h.form
  refine ⟨A, cap, rfl, fun h0 => ?_⟩
  obtain ⟨b, off, e, hlt, hc⟩ := SlT.reads h rfl hO hs h0
  refine ⟨⟨b, off, none⟩, e, hlt, fun j hj => ?_⟩
  rw [add_off]
  refine hc j _ ?_
  rw [← strV_flat]
  unfold strV
  rw [List.getElem?_map, List.getElem?_eq_getElem hj]; rfl
theorem str_cells (l : List (List UInt8)) : ∀ u ∈ strV l, u.oneCell' = true := fun u hu => by
  unfold strV at hu
  obtain ⟨x, _, rfl⟩ := List.mem_map.1 hu; rfl
end Go.Proofs.YtjabcbagggicaaaGreatDoor
end

section
/-
  s[:j], s[i:], s[i] of a string; s[:j], s[:j:m] of a slice that was made. No condition of their own.
-/
namespace Go.Proofs.YtjabcbagggicaaaGreatDoor
open Go.RowKit
set_option maxRecDepth 100000
set_option linter.unusedVariables false
set_option linter.unusedSimpArgs false
theorem mk_take (s : List UInt8) (j : Nat) : (mkS s).extract 0 j = mkS (s.take j) := by rw [extract_mk, mk_data]; simp
theorem mk_drop (s : List UInt8) (j : Nat) : (mkS s).extract j (mkS s).size = mkS (s.drop j) := by
  rw [extract_mk, mk_data, mkS_sz]
  congr 1
  exact List.take_of_length_le (by rw [List.length_drop]; omega)
theorem run_strhi {P : Program} {ρ : Operand → Value} {o : Oper} {t : TypeId} {x z : Operand} {s : List UInt8} {k : IntKind} {j : Int} (ho : o.op = .slice t x none (some z) none) (hx : ρ x = .string (mkS s)) (hz : ρ z = .int k j)
    (hu : P.underlying t = some .string) (h0 : 0 ≤ j) (h1 : j ≤ s.length) (w : World) : (execOp ρ o).run P w = .ok (.value (.string (mkS (s.take j.toNat)))) w := by
  unfold execOp
  have h2 : j ≤ ((mkS s).size : Int) := by rw [mkS_sz]; exact h1
  simp [ho, hx, hz, Instr.sliceAt, Instr.slice, Instr.sliceBounds, Instr.sliceBound, Sem.run_bind, asIntOf, run_underlying hu, h0, h2, mk_take]
theorem run_strlo {P : Program} {ρ : Operand → Value} {o : Oper} {t : TypeId} {x y : Operand} {s : List UInt8} {k : IntKind} {j : Int} (ho : o.op = .slice t x (some y) none none) (hx : ρ x = .string (mkS s)) (hy : ρ y = .int k j)
    (hu : P.underlying t = some .string) (h0 : 0 ≤ j) (h1 : j ≤ s.length) (w : World) : (execOp ρ o).run P w = .ok (.value (.string (mkS (s.drop j.toNat)))) w := by
  unfold execOp
  have h2 : j ≤ ((mkS s).size : Int) := by rw [mkS_sz]; exact h1
  simp [ho, hx, hy, Instr.sliceAt, Instr.slice, Instr.sliceBounds, Instr.sliceBound, Sem.run_bind, asIntOf, run_underlying hu, h0, h2, mk_drop]
theorem mk_get (s : List UInt8) (k : Nat) (h : k < s.length) : (mkS s)[k]? = some s[k] := by
  have h2 : k < (mkS s).size := by rw [mkS_sz]; exact h
  rw [getElem?_pos (mkS s) k h2]
  congr 1
theorem run_stridx {P : Program} {ρ : Operand → Value} {o : Oper} {t : TypeId} {x y : Operand} {s : List UInt8} {k : IntKind} {j : Int} (ho : o.op = .index t x y) (hx : ρ x = .string (mkS s)) (hy : ρ y = .int k j)
    (hu : P.underlying t = some .string) (h0 : 0 ≤ j) (h1 : j.toNat < s.length) (w : World) : (execOp ρ o).run P w = .ok (.value (.int .u8 (s[j.toNat].toNat : Int))) w := by
  unfold execOp
  have e := mk_get s j.toNat h1
  simp [ho, hx, hy, Instr.index, Sem.run_bind, asIntOf, run_underlying hu, h0, e]
theorem run_slhm {P : Program} {ρ : Operand → Value} {o : Oper} {t e : TypeId} {x z y : Operand} {b n c sz : Nat} {k q : IntKind} {j m : Int} (ho : o.op = .slice t x none (some z) (some y)) (hx : ρ x = .slice (some ⟨b, 0, none⟩) n c) (hz : ρ z = .int k j) (hy : ρ y = .int q m)
    (hu : P.underlying t = some (.slice e)) (hs : (P.info? e).map (·.size) = some sz) (h0 : 0 ≤ j) (h1 : j ≤ m) (h2 : m ≤ c) (w : World) : (execOp ρ o).run P w = .ok (.value (.slice (some ⟨b, 0, none⟩) j.toNat m.toNat)) w := by
  cases he : P.info? e with
  | none => rw [he] at hs; cases hs
  | some i =>
    rw [he] at hs
    obtain rfl := Option.some.inj hs
    have h3 : 0 ≤ m := Int.le_trans h0 h1
    unfold execOp
    simp [ho, hx, hz, hy, Instr.sliceAt, Instr.slice, Instr.sliceBounds, Instr.sliceBound, Sem.run_bind, asIntOf, run_underlying hu, h0, h1, h2, h3, sizeOf, typeInfo, he, add_off]
    try (first | omega | (rw [if_pos (by omega)]; simp [add_off]))
theorem run_stradd {P : Program} {ρ : Operand → Value} {o : Oper} {t t' : TypeId} {x y : Operand} {a b : List UInt8} (ho : o.op = .binOp .add t x y t') (hx : ρ x = .string (mkS a)) (hy : ρ y = .string (mkS b)) (hb : a.length + b.length ≤ 4000000000) (w : World) : (execOp ρ o).run P w = .ok (.value (.string (mkS (a ++ b)))) w := by
  unfold execOp
  have h1 : ¬ (9223372036854775807 : Int) < ((mkS a).size : Int) + ((mkS b).size : Int) := by rw [mkS_sz, mkS_sz]; omega
  simp [ho, hx, hy, Sem.run_bind, eqGuard, binOp, Op.stringOp, mkS_append, h1]
theorem run_min2 {P : Program} {ρ : Operand → Value} {o : Oper} {t t' : TypeId} {x y : Operand} {k q : IntKind} {i j : Int} (ho : o.op = .call { callee := .builtin .min, args := #[x, y], argTypes := #[t, t'] }) (hx : ρ x = .int k i) (hy : ρ y = .int q j) (w : World) : (execOp ρ o).run P w = .ok (.value (.int k (min i j))) w := by
  unfold execOp
  have e : min i j = if j < i then j else i := by split <;> omega
  simp [ho, resolve, invoke, builtin, Builtin.min_, Builtin.min2, hx, hy, e]
section
variable {M : List Nat} {P : Program} {n0 : Nat} {ops : Array Oper} {W : World} {Q : Exit → Act → World → Prop} {rest : List Oper} {o : Oper} {L : List Blk} {f : Nat → Value}
/-- append to a slice that has no room: a new block. -/
theorem s_appendF {t T : TypeId} {s x : Operand} {i : TypeInfo} {z : Value} {sz : Nat} (hw : want ops n0 f o = true) (ho : o.op = .call { callee := .builtin .append, args := #[s, x], argTypes := #[t, t] })
    (ht : P.underlying t = some (.slice T)) (hi : P.info? T = some i) (hz : i.zero = some z) (hsz : i.size = sz) (hzs : z.cells.size = sz)
    {b : Addr} {n cap : Nat} {xs : List Value} (hs : ev n0 f s = .slice (some b) n cap) (hxl : xs.length = n * sz) (hxs : ∀ w, Own M W w L → ∀ j u, xs[j]? = some u → w.cell? (b.add j) = some u)
    {a : Addr} {m c : Nat} {news : List Value} (hx : ev n0 f x = .slice (some a) m c) (hl : news.length = m * sz) (hnews : ∀ w, Own M W w L → ∀ j u, news[j]? = some u → w.cell? (a.add j) = some u)
    (hroom : cap < n + m) (h63 : n + m ≤ maxLen) (hbytes : (n + m) * i.bytes ≤ 140737488355328)
    (h : ∀ v' ob', Sl T sz v' (n + m) (xs ++ news) ob' → Seg M P n0 ops W Q rest (ob' ++ L) (upd f o.dst v')) : Seg M P n0 ops W Q (o :: rest) L f :=
  s_step hw fun w hO => by
    subst hsz
    have hsmall : n + m ≤ 9223372036854775807 := by simp only [maxLen] at h63; omega
    have hlen : (xs ++ news).length = (n + m) * i.size := by rw [List.length_append, hxl, hl, Nat.add_mul]
    have hr := run_append_grow (P := P) w t o.type T i z ht hi hz b n cap xs hxl (hxs w hO) a m c news hl (hnews w hO) (by omega) (by omega) (growslice_fits (by omega) hbytes)
    have hge := grownCap_ge w (n + m) cap T
    have hcm := grownCap_le_maxLen w (n + m) cap T h63
    refine wp_val _ (w' := _) ?_ ((h _ [⟨w.heap.size, xs.toArray ++ news.toArray ++ Builtin.zeroCells z.cells (grownCap w (n + m) cap T - (n + m)), T⟩] ⟨hlen, .inr ⟨w.heap.size, grownCap w (n + m) cap T, _, rfl, rfl, hge, hcm, ?_, ?_⟩⟩).go _ ((drew_own hO).alloc (xs.toArray ++ news.toArray ++ Builtin.zeroCells z.cells (grownCap w (n + m) cap T - (n + m))) T))
    · unfold execOp
      simp only [ho, resolve, invoke, builtin, Sem.run_bind, Sem.run_pure, Result.andThen_ok, List.map_toArray, List.map_cons, List.map_nil, hs, hx, hr]
    · simp only [Array.size_append, List.size_toArray, size_zeroCells, hzs, hxl, hl, ← Nat.add_mul]
      congr 1
      omega
    · simp only [Array.toList_append, List.append_assoc]
      rw [← List.append_assoc, ← hlen]
      exact List.take_left
end
section
variable {M : List Nat} {P : Program} {n : Nat} {ops : Array Oper} {W : World} {L0 : List Blk} {Q : Exit → Act → World → Prop} {fuel : Nat} {listed : Array Bool} {f : Nat → Value}
end
end Go.Proofs.YtjabcbagggicaaaGreatDoor
end

section
/-
  linchpinref6: May, sign, begins, high, turns, span, Zone, Region: what they return for comparators whose strings have at most a million bytes; nothing that was there is changed.
-/
namespace Go.Proofs.YtjabcbagggicaaaGreatDoor
open Go.RowKit
set_option maxRecDepth 100000
set_option linter.unusedVariables false
set_option linter.unusedSimpArgs false
set_option maxHeartbeats 2000000

theorem bump_short (v : Ver) (k : Int) : (bumpV v k).short := by
  by_cases h : bumpOk v k = true
  · obtain ⟨a, b, c, e⟩ := bump_rel h
    rw [e]; exact ⟨Nat.zero_le _, Nat.zero_le _⟩
  · unfold bumpV
    rw [if_neg h]; exact ⟨Nat.zero_le _, Nat.zero_le _⟩
/-- What is left of high's search at z. -/
def highZ (v : Ver) (z : Int) : Cu := if z < 0 then endC 1 else highC v z.toNat
theorem highZ_hit {v : Ver} {z : Int} (h0 : 0 ≤ z) (h : bumpOk v z = true) : highZ v z = ⟨0, bumpV v z, false⟩ := by
  unfold highZ
  rw [if_neg (by omega)]
  obtain ⟨k, rfl⟩ : ∃ k : Nat, z = k := ⟨z.toNat, by omega⟩
  rw [Int.toNat_natCast]
  cases k with
  | zero => unfold highC; exact if_pos h
  | succ k => unfold highC; rw [if_pos h]
theorem highZ_next {v : Ver} {z : Int} (h0 : 0 ≤ z) (h : bumpOk v z = false) : highZ v z = highZ v (z - 1) := by
  unfold highZ
  rw [if_neg (by omega)]
  obtain ⟨k, rfl⟩ : ∃ k : Nat, z = k := ⟨z.toNat, by omega⟩
  rw [Int.toNat_natCast]
  cases k with
  | zero => unfold highC; rw [if_neg (by rw [show ((0 : Nat) : Int) = 0 from rfl] at h; rw [h]; decide), if_pos (by decide)]
  | succ k =>
    unfold highC
    rw [if_neg (by rw [h]; decide), if_neg (by omega)]
    rw [show (((k + 1 : Nat) : Int) - 1).toNat = k from by omega]
    cases k <;> rfl
theorem rcMay_any (c : Co) (W : World) (hc : c.short) : Calls Tryz.prog 16 #[coV c] W fun e w' => e = .returned (.bool c.may) ∧ Below W.heap.size W w' := by
  refine calls_ok (n := 80) Tryz.func16 rfl (by kernel_rfl) (by kernel_rfl) ?_
  refine ok_seq ?_
  refine ok_region ?_
  refine s_box (coV c) (by kernel_rfl) rfl (by kernel_rfl) (fun b1 => ?_)
  refine s_val (.bool false) (by kernel_rfl) (fun _ => by kernel_rfl) ?_
  refine s_nil ?_
  refine fin_seq ?_
  refine ok_seq ?_
  refine ok_seq ?_
  refine ok_region ?_
  refine s_val (.pointer (some ⟨b1, 0, none⟩)) (by kernel_rfl) (fun _ => by kernel_rfl) ?_
  refine s_load 0 ⟨b1, (coV c).cells, 26⟩ (off := 0) (.int .i64 c.op) (by kernel_rfl) rfl (by kernel_rfl) (by kernel_rfl) (by kernel_rfl) ?_
  by_cases h1 : (c.op : Int) < 1
  · skip
    refine s_dec (p := (c.op : Int) < 1) true (by kernel_rfl) (fun _ => by kernel_rfl) (decide_eq_true (h1)) ?_
    refine s_val (.bool true) (by kernel_rfl) (fun _ => by kernel_rfl) ?_
    refine s_skip (by kernel_rfl) ?_
    refine s_skip (by kernel_rfl) ?_
    refine s_skip (by kernel_rfl) ?_
    refine s_val (.bool true) (by kernel_rfl) (fun _ => by kernel_rfl) ?_
    refine s_val (.bool true) (by kernel_rfl) (fun _ => by kernel_rfl) ?_
    refine s_skip (by kernel_rfl) ?_
    refine s_skip (by kernel_rfl) ?_
    refine s_skip (by kernel_rfl) ?_
    refine s_skip (by kernel_rfl) ?_
    refine s_val (.bool true) (by kernel_rfl) (fun _ => by kernel_rfl) ?_
    refine s_val (.bool true) (by kernel_rfl) (fun _ => by kernel_rfl) ?_
    refine s_skip (by kernel_rfl) ?_
    refine s_skip (by kernel_rfl) ?_
    refine s_skip (by kernel_rfl) ?_
    refine s_skip (by kernel_rfl) ?_
    refine s_val (.bool true) (by kernel_rfl) (fun _ => by kernel_rfl) ?_
    refine s_nil ?_
    refine fin_seq ?_
    refine ok_true (by kernel_rfl) ?_
    refine ok_seq ?_
    refine ok_region ?_
    refine s_val (.bool false) (by kernel_rfl) (fun _ => by kernel_rfl) ?_
    refine s_nil ?_
    refine fin_seq ?_
    refine ok_ret ?_
    refine fin_seq_ret ?_
    refine fin_ret (.bool false) Tryz.results16 (by kernel_rfl) ?_
    exact fun w hO => ⟨by rw [show c.may = false from Bool.eq_false_iff.2 fun q0 => by have q1 := Co.may_iff.1 q0; grind], hO.below⟩
  · skip
    refine s_dec (p := (c.op : Int) < 1) false (by kernel_rfl) (fun _ => by kernel_rfl) (decide_eq_false (h1)) ?_
    refine s_val (.bool false) (by kernel_rfl) (fun _ => by kernel_rfl) ?_
    refine s_val (.pointer (some ⟨b1, 0, none⟩)) (by kernel_rfl) (fun _ => by kernel_rfl) ?_
    refine s_load 0 ⟨b1, (coV c).cells, 26⟩ (off := 0) (.int .i64 c.op) (by kernel_rfl) rfl (by kernel_rfl) (by kernel_rfl) (by kernel_rfl) ?_
    by_cases h2 : (9 : Int) < c.op
    · skip
      refine s_dec (p := (9 : Int) < c.op) true (by kernel_rfl) (fun _ => by kernel_rfl) (decide_eq_true (h2)) ?_
      refine s_val (.bool true) (by kernel_rfl) (fun _ => by kernel_rfl) ?_
      refine s_val (.bool true) (by kernel_rfl) (fun _ => by kernel_rfl) ?_
      refine s_skip (by kernel_rfl) ?_
      refine s_skip (by kernel_rfl) ?_
      refine s_skip (by kernel_rfl) ?_
      refine s_skip (by kernel_rfl) ?_
      refine s_val (.bool true) (by kernel_rfl) (fun _ => by kernel_rfl) ?_
      refine s_val (.bool true) (by kernel_rfl) (fun _ => by kernel_rfl) ?_
      refine s_skip (by kernel_rfl) ?_
      refine s_skip (by kernel_rfl) ?_
      refine s_skip (by kernel_rfl) ?_
      refine s_skip (by kernel_rfl) ?_
      refine s_val (.bool true) (by kernel_rfl) (fun _ => by kernel_rfl) ?_
      refine s_nil ?_
      refine fin_seq ?_
      refine ok_true (by kernel_rfl) ?_
      refine ok_seq ?_
      refine ok_region ?_
      refine s_val (.bool false) (by kernel_rfl) (fun _ => by kernel_rfl) ?_
      refine s_nil ?_
      refine fin_seq ?_
      refine ok_ret ?_
      refine fin_seq_ret ?_
      refine fin_ret (.bool false) Tryz.results16 (by kernel_rfl) ?_
      exact fun w hO => ⟨by rw [show c.may = false from Bool.eq_false_iff.2 fun q0 => by have q1 := Co.may_iff.1 q0; grind], hO.below⟩
    · skip
      refine s_dec (p := (9 : Int) < c.op) false (by kernel_rfl) (fun _ => by kernel_rfl) (decide_eq_false (h2)) ?_
      refine s_val (.bool false) (by kernel_rfl) (fun _ => by kernel_rfl) ?_
      refine s_val (.bool false) (by kernel_rfl) (fun _ => by kernel_rfl) ?_
      refine s_val (.pointer (some ⟨b1, 2, none⟩)) (by kernel_rfl) (fun _ => by kernel_rfl) ?_
      refine s_load 0 ⟨b1, (coV c).cells, 26⟩ (off := 2) (.agg #[.int .i64 c.v.maj, .int .i64 c.v.min, .int .i64 c.v.pat, .string (mkS c.v.pre), .string (mkS c.v.build)]) (by kernel_rfl) rfl (by kernel_rfl) (by kernel_rfl) (by kernel_rfl) ?_
      refine s_call (k := 48) (args := #[.agg #[.int .i64 c.v.maj, .int .i64 c.v.min, .int .i64 c.v.pat, .string (mkS c.v.pre), .string (mkS c.v.build)]]) (.bool c.v.may) (by kernel_rfl) (fun _ => by kernel_rfl) (fun w _ => rmay_any c.v w hc.1 hc.2) ?_
      cases h3 : c.v.may with
      | true =>
        refine s_val (.bool false) (by kernel_rfl) (fun _ => by kernel_rfl) ?_
        refine s_val (.bool false) (by kernel_rfl) (fun _ => by kernel_rfl) ?_
        refine s_val (.bool false) (by kernel_rfl) (fun _ => by kernel_rfl) ?_
        refine s_val (.pointer (some ⟨b1, 2, none⟩)) (by kernel_rfl) (fun _ => by kernel_rfl) ?_
        refine s_val (.pointer (some ⟨b1, 6, none⟩)) (by kernel_rfl) (fun _ => by kernel_rfl) ?_
        refine s_load 0 ⟨b1, (coV c).cells, 26⟩ (off := 6) (.string (mkS c.v.build)) (by kernel_rfl) rfl (by kernel_rfl) (by kernel_rfl) (by kernel_rfl) ?_
        by_cases h4 : (c.v.build : List UInt8) = []
        · skip
          refine s_val (.bool false) (by kernel_rfl) (run_strneq (a := c.v.build) (b := ([])) rfl (by kernel_rfl) (by kernel_rfl) (decide_eq_true (h4))) ?_
          refine s_val (.bool false) (by kernel_rfl) (fun _ => by kernel_rfl) ?_
          refine s_nil ?_
          refine fin_seq ?_
          refine ok_false (by kernel_rfl) ?_
          refine ok_skip ?_
          refine fin_seq ?_
          refine ok_seq ?_
          refine ok_region ?_
          refine s_val (.int .i64 1) (by kernel_rfl) (fun _ => by kernel_rfl) ?_
          refine s_val (.int .i64 3) (by kernel_rfl) (fun _ => by kernel_rfl) ?_
          refine s_nil ?_
          refine fin_seq ?_
          refine ok_seq ?_
          refine ok_seq ?_
          refine ok_region ?_
          refine s_val (.pointer (some ⟨b1, 0, none⟩)) (by kernel_rfl) (fun _ => by kernel_rfl) ?_
          refine s_load 0 ⟨b1, (coV c).cells, 26⟩ (off := 0) (.int .i64 c.op) (by kernel_rfl) rfl (by kernel_rfl) (by kernel_rfl) (by kernel_rfl) ?_
          by_cases h5 : (c.op : Int) = 9
          · skip
            refine s_dec (p := (c.op : Int) = 9) true (by kernel_rfl) (fun _ => by kernel_rfl) (decide_eq_true (h5)) ?_
            refine s_nil ?_
            refine fin_seq ?_
            refine ok_join (fun L f => ∃ (lo : Int) (hi : Int) (j : Nat → Value), ((c.op = 9 → lo = 0 ∧ hi = 2) ∧ (¬ c.op = 9 → lo = 1 ∧ hi = 3)) ∧ L = [⟨b1, (coV c).cells, 26⟩] ∧ f = upds j [(1, .pointer (some ⟨b1, 0, none⟩)), (3, .int .i64 lo), (4, .int .i64 hi)]) ?_ ?_
            · skip
              refine ok_true (by kernel_rfl) ?_
              refine ok_region ?_
              refine s_val (.int .i64 0) (by kernel_rfl) (fun _ => by kernel_rfl) ?_
              refine s_val (.int .i64 2) (by kernel_rfl) (fun _ => by kernel_rfl) ?_
              refine s_nil ?_
              exact fin_join ⟨0, 2, _, ⟨by omega, by omega⟩, rfl, upds_self _ ⟨by kernel_rfl, by kernel_rfl, by kernel_rfl, trivial⟩⟩
            · rintro L f ⟨lo, hi, j, hj3, rfl, rfl⟩
              refine fin_seq ?_
              refine ok_seq ?_
              refine ok_seq ?_
              refine ok_join (fun L f => ∃ (bad : Bool) (j : Nat → Value), ((bad = true → ¬ (lo ≤ c.parts ∧ c.parts ≤ hi ∧ (3 ≤ c.parts ∨ c.v.pre = []))) ∧ (bad = false → lo ≤ c.parts ∧ c.parts ≤ hi ∧ (3 ≤ c.parts ∨ c.v.pre = []))) ∧ L = [⟨b1, (coV c).cells, 26⟩] ∧ f = upds j [(1, .pointer (some ⟨b1, 0, none⟩)), (48, .bool bad)]) ?_ ?_
              · skip
                refine ok_region ?_
                refine s_val (.pointer (some ⟨b1, 1, none⟩)) (by kernel_rfl) (fun _ => by kernel_rfl) ?_
                refine s_load 0 ⟨b1, (coV c).cells, 26⟩ (off := 1) (.int .i64 c.parts) (by kernel_rfl) rfl (by kernel_rfl) (by kernel_rfl) (by kernel_rfl) ?_
                refine s_val (.int .i64 lo) (by kernel_rfl) (fun _ => by kernel_rfl) ?_
                by_cases h6 : (c.parts : Int) < lo
                · skip
                  refine s_dec (p := (c.parts : Int) < lo) true (by kernel_rfl) (fun _ => by kernel_rfl) (decide_eq_true (h6)) ?_
                  refine s_val (.bool true) (by kernel_rfl) (fun _ => by kernel_rfl) ?_
                  refine s_skip (by kernel_rfl) ?_
                  refine s_skip (by kernel_rfl) ?_
                  refine s_skip (by kernel_rfl) ?_
                  refine s_skip (by kernel_rfl) ?_
                  refine s_val (.bool true) (by kernel_rfl) (fun _ => by kernel_rfl) ?_
                  refine s_val (.bool true) (by kernel_rfl) (fun _ => by kernel_rfl) ?_
                  refine s_skip (by kernel_rfl) ?_
                  refine s_skip (by kernel_rfl) ?_
                  refine s_skip (by kernel_rfl) ?_
                  refine s_skip (by kernel_rfl) ?_
                  refine s_skip (by kernel_rfl) ?_
                  refine s_skip (by kernel_rfl) ?_
                  refine s_skip (by kernel_rfl) ?_
                  refine s_skip (by kernel_rfl) ?_
                  refine s_skip (by kernel_rfl) ?_
                  refine s_val (.bool true) (by kernel_rfl) (fun _ => by kernel_rfl) ?_
                  refine s_nil ?_
                  exact fin_join ⟨true, _, ⟨fun q0 => by grind, fun q0 => absurd q0 (by decide)⟩, rfl, upds_self _ ⟨by kernel_rfl, by kernel_rfl, trivial⟩⟩
                · skip
                  refine s_dec (p := (c.parts : Int) < lo) false (by kernel_rfl) (fun _ => by kernel_rfl) (decide_eq_false (h6)) ?_
                  refine s_val (.bool false) (by kernel_rfl) (fun _ => by kernel_rfl) ?_
                  refine s_val (.pointer (some ⟨b1, 1, none⟩)) (by kernel_rfl) (fun _ => by kernel_rfl) ?_
                  refine s_load 0 ⟨b1, (coV c).cells, 26⟩ (off := 1) (.int .i64 c.parts) (by kernel_rfl) rfl (by kernel_rfl) (by kernel_rfl) (by kernel_rfl) ?_
                  refine s_val (.int .i64 hi) (by kernel_rfl) (fun _ => by kernel_rfl) ?_
                  by_cases h7 : (hi : Int) < c.parts
                  · skip
                    refine s_dec (p := (hi : Int) < c.parts) true (by kernel_rfl) (fun _ => by kernel_rfl) (decide_eq_true (h7)) ?_
                    refine s_val (.bool true) (by kernel_rfl) (fun _ => by kernel_rfl) ?_
                    refine s_val (.bool true) (by kernel_rfl) (fun _ => by kernel_rfl) ?_
                    refine s_skip (by kernel_rfl) ?_
                    refine s_skip (by kernel_rfl) ?_
                    refine s_skip (by kernel_rfl) ?_
                    refine s_skip (by kernel_rfl) ?_
                    refine s_skip (by kernel_rfl) ?_
                    refine s_skip (by kernel_rfl) ?_
                    refine s_skip (by kernel_rfl) ?_
                    refine s_skip (by kernel_rfl) ?_
                    refine s_skip (by kernel_rfl) ?_
                    refine s_val (.bool true) (by kernel_rfl) (fun _ => by kernel_rfl) ?_
                    refine s_nil ?_
                    exact fin_join ⟨true, _, ⟨fun q0 => by grind, fun q0 => absurd q0 (by decide)⟩, rfl, upds_self _ ⟨by kernel_rfl, by kernel_rfl, trivial⟩⟩
                  · skip
                    refine s_dec (p := (hi : Int) < c.parts) false (by kernel_rfl) (fun _ => by kernel_rfl) (decide_eq_false (h7)) ?_
                    refine s_val (.bool false) (by kernel_rfl) (fun _ => by kernel_rfl) ?_
                    refine s_val (.bool false) (by kernel_rfl) (fun _ => by kernel_rfl) ?_
                    refine s_val (.pointer (some ⟨b1, 1, none⟩)) (by kernel_rfl) (fun _ => by kernel_rfl) ?_
                    refine s_load 0 ⟨b1, (coV c).cells, 26⟩ (off := 1) (.int .i64 c.parts) (by kernel_rfl) rfl (by kernel_rfl) (by kernel_rfl) (by kernel_rfl) ?_
                    by_cases h8 : (c.parts : Int) < 3
                    · skip
                      refine s_dec (p := (c.parts : Int) < 3) true (by kernel_rfl) (fun _ => by kernel_rfl) (decide_eq_true (h8)) ?_
                      refine s_val (.bool true) (by kernel_rfl) (fun _ => by kernel_rfl) ?_
                      refine s_val (.pointer (some ⟨b1, 2, none⟩)) (by kernel_rfl) (fun _ => by kernel_rfl) ?_
                      refine s_val (.pointer (some ⟨b1, 5, none⟩)) (by kernel_rfl) (fun _ => by kernel_rfl) ?_
                      refine s_load 0 ⟨b1, (coV c).cells, 26⟩ (off := 5) (.string (mkS c.v.pre)) (by kernel_rfl) rfl (by kernel_rfl) (by kernel_rfl) (by kernel_rfl) ?_
                      by_cases h9 : (c.v.pre : List UInt8) = []
                      · skip
                        refine s_val (.bool false) (by kernel_rfl) (run_strneq (a := c.v.pre) (b := ([])) rfl (by kernel_rfl) (by kernel_rfl) (decide_eq_true (h9))) ?_
                        refine s_val (.bool false) (by kernel_rfl) (fun _ => by kernel_rfl) ?_
                        refine s_val (.bool false) (by kernel_rfl) (fun _ => by kernel_rfl) ?_
                        refine s_nil ?_
                        exact fin_join ⟨false, _, ⟨fun q0 => absurd q0 (by decide), fun q0 => ⟨by omega, by omega, by first | exact .inr (by assumption) | exact .inl (by omega)⟩⟩, rfl, upds_self _ ⟨by kernel_rfl, by kernel_rfl, trivial⟩⟩
                      · skip
                        refine s_val (.bool true) (by kernel_rfl) (run_strneq (a := c.v.pre) (b := ([])) rfl (by kernel_rfl) (by kernel_rfl) (decide_eq_false (h9))) ?_
                        refine s_val (.bool true) (by kernel_rfl) (fun _ => by kernel_rfl) ?_
                        refine s_val (.bool true) (by kernel_rfl) (fun _ => by kernel_rfl) ?_
                        refine s_nil ?_
                        exact fin_join ⟨true, _, ⟨fun q0 => by grind, fun q0 => absurd q0 (by decide)⟩, rfl, upds_self _ ⟨by kernel_rfl, by kernel_rfl, trivial⟩⟩
                    · skip
                      refine s_dec (p := (c.parts : Int) < 3) false (by kernel_rfl) (fun _ => by kernel_rfl) (decide_eq_false (h8)) ?_
                      refine s_val (.bool false) (by kernel_rfl) (fun _ => by kernel_rfl) ?_
                      refine s_skip (by kernel_rfl) ?_
                      refine s_skip (by kernel_rfl) ?_
                      refine s_skip (by kernel_rfl) ?_
                      refine s_skip (by kernel_rfl) ?_
                      refine s_val (.bool false) (by kernel_rfl) (fun _ => by kernel_rfl) ?_
                      refine s_val (.bool false) (by kernel_rfl) (fun _ => by kernel_rfl) ?_
                      refine s_nil ?_
                      exact fin_join ⟨false, _, ⟨fun q0 => absurd q0 (by decide), fun q0 => ⟨by omega, by omega, by first | exact .inr (by assumption) | exact .inl (by omega)⟩⟩, rfl, upds_self _ ⟨by kernel_rfl, by kernel_rfl, trivial⟩⟩
              · rintro L f ⟨bad, j, hj2, rfl, rfl⟩
                refine fin_seq ?_
                cases h10 : bad with
                | true =>
                  refine ok_true (by kernel_rfl) ?_
                  refine ok_seq ?_
                  refine ok_region ?_
                  refine s_val (.bool false) (by kernel_rfl) (fun _ => by kernel_rfl) ?_
                  refine s_nil ?_
                  refine fin_seq ?_
                  refine ok_ret ?_
                  refine fin_seq_ret ?_
                  refine fin_ret (.bool false) Tryz.results16 (by kernel_rfl) ?_
                  exact fun w hO => ⟨by rw [show c.may = false from Bool.eq_false_iff.2 fun q0 => by have q1 := Co.may_iff.1 q0; grind], hO.below⟩
                | false =>
                  refine ok_false (by kernel_rfl) ?_
                  refine ok_skip ?_
                  refine fin_seq ?_
                  refine ok_seq ?_
                  refine ok_region ?_
                  refine s_val (.pointer (some ⟨b1, 1, none⟩)) (by kernel_rfl) (fun _ => by kernel_rfl) ?_
                  refine s_load 0 ⟨b1, (coV c).cells, 26⟩ (off := 1) (.int .i64 c.parts) (by kernel_rfl) rfl (by kernel_rfl) (by kernel_rfl) (by kernel_rfl) ?_
                  by_cases h11 : (0 : Int) < c.parts
                  · skip
                    refine s_dec (p := (0 : Int) < c.parts) true (by kernel_rfl) (fun _ => by kernel_rfl) (decide_eq_true (h11)) ?_
                    refine s_val (.bool true) (by kernel_rfl) (fun _ => by kernel_rfl) ?_
                    refine s_skip (by kernel_rfl) ?_
                    refine s_skip (by kernel_rfl) ?_
                    refine s_skip (by kernel_rfl) ?_
                    refine s_skip (by kernel_rfl) ?_
                    refine s_val (.bool true) (by kernel_rfl) (fun _ => by kernel_rfl) ?_
                    refine s_val (.bool true) (by kernel_rfl) (fun _ => by kernel_rfl) ?_
                    refine s_val (.pointer (some ⟨b1, 1, none⟩)) (by kernel_rfl) (fun _ => by kernel_rfl) ?_
                    refine s_load 0 ⟨b1, (coV c).cells, 26⟩ (off := 1) (.int .i64 c.parts) (by kernel_rfl) rfl (by kernel_rfl) (by kernel_rfl) (by kernel_rfl) ?_
                    by_cases h12 : (1 : Int) < c.parts
                    · skip
                      refine s_dec (p := (1 : Int) < c.parts) true (by kernel_rfl) (fun _ => by kernel_rfl) (decide_eq_true (h12)) ?_
                      refine s_val (.bool true) (by kernel_rfl) (fun _ => by kernel_rfl) ?_
                      refine s_skip (by kernel_rfl) ?_
                      refine s_skip (by kernel_rfl) ?_
                      refine s_skip (by kernel_rfl) ?_
                      refine s_skip (by kernel_rfl) ?_
                      refine s_val (.bool true) (by kernel_rfl) (fun _ => by kernel_rfl) ?_
                      refine s_val (.bool true) (by kernel_rfl) (fun _ => by kernel_rfl) ?_
                      refine s_val (.bool true) (by kernel_rfl) (fun _ => by kernel_rfl) ?_
                      refine s_val (.pointer (some ⟨b1, 1, none⟩)) (by kernel_rfl) (fun _ => by kernel_rfl) ?_
                      refine s_load 0 ⟨b1, (coV c).cells, 26⟩ (off := 1) (.int .i64 c.parts) (by kernel_rfl) rfl (by kernel_rfl) (by kernel_rfl) (by kernel_rfl) ?_
                      by_cases h13 : (2 : Int) < c.parts
                      · skip
                        refine s_dec (p := (2 : Int) < c.parts) true (by kernel_rfl) (fun _ => by kernel_rfl) (decide_eq_true (h13)) ?_
                        refine s_val (.bool true) (by kernel_rfl) (fun _ => by kernel_rfl) ?_
                        refine s_skip (by kernel_rfl) ?_
                        refine s_skip (by kernel_rfl) ?_
                        refine s_skip (by kernel_rfl) ?_
                        refine s_skip (by kernel_rfl) ?_
                        refine s_val (.bool true) (by kernel_rfl) (fun _ => by kernel_rfl) ?_
                        refine s_val (.bool true) (by kernel_rfl) (fun _ => by kernel_rfl) ?_
                        refine s_val (.bool true) (by kernel_rfl) (fun _ => by kernel_rfl) ?_
                        refine s_nil ?_
                        refine fin_seq ?_
                        refine ok_ret ?_
                        refine fin_ret (.bool true) Tryz.results16 (by kernel_rfl) ?_
                        exact fun w hO => ⟨by rw [Co.may_iff.2 ⟨by omega, by assumption, by assumption, by grind, by grind, by grind, by omega, by omega, by omega⟩], hO.below⟩
                      · skip
                        refine s_dec (p := (2 : Int) < c.parts) false (by kernel_rfl) (fun _ => by kernel_rfl) (decide_eq_false (h13)) ?_
                        refine s_val (.bool false) (by kernel_rfl) (fun _ => by kernel_rfl) ?_
                        refine s_val (.pointer (some ⟨b1, 2, none⟩)) (by kernel_rfl) (fun _ => by kernel_rfl) ?_
                        refine s_val (.pointer (some ⟨b1, 4, none⟩)) (by kernel_rfl) (fun _ => by kernel_rfl) ?_
                        refine s_load 0 ⟨b1, (coV c).cells, 26⟩ (off := 4) (.int .i64 c.v.pat) (by kernel_rfl) rfl (by kernel_rfl) (by kernel_rfl) (by kernel_rfl) ?_
                        by_cases h14 : (c.v.pat : Int) = 0
                        · skip
                          refine s_dec (p := (c.v.pat : Int) = 0) true (by kernel_rfl) (fun _ => by kernel_rfl) (decide_eq_true (h14)) ?_
                          refine s_val (.bool true) (by kernel_rfl) (fun _ => by kernel_rfl) ?_
                          refine s_val (.bool true) (by kernel_rfl) (fun _ => by kernel_rfl) ?_
                          refine s_val (.bool true) (by kernel_rfl) (fun _ => by kernel_rfl) ?_
                          refine s_nil ?_
                          refine fin_seq ?_
                          refine ok_ret ?_
                          refine fin_ret (.bool true) Tryz.results16 (by kernel_rfl) ?_
                          exact fun w hO => ⟨by rw [Co.may_iff.2 ⟨by omega, by assumption, by assumption, by grind, by grind, by grind, by omega, by omega, by omega⟩], hO.below⟩
                        · skip
                          refine s_dec (p := (c.v.pat : Int) = 0) false (by kernel_rfl) (fun _ => by kernel_rfl) (decide_eq_false (h14)) ?_
                          refine s_val (.bool false) (by kernel_rfl) (fun _ => by kernel_rfl) ?_
                          refine s_val (.bool false) (by kernel_rfl) (fun _ => by kernel_rfl) ?_
                          refine s_val (.bool false) (by kernel_rfl) (fun _ => by kernel_rfl) ?_
                          refine s_nil ?_
                          refine fin_seq ?_
                          refine ok_ret ?_
                          refine fin_ret (.bool false) Tryz.results16 (by kernel_rfl) ?_
                          exact fun w hO => ⟨by rw [show c.may = false from Bool.eq_false_iff.2 fun q0 => by have q1 := Co.may_iff.1 q0; grind], hO.below⟩
                    · skip
                      refine s_dec (p := (1 : Int) < c.parts) false (by kernel_rfl) (fun _ => by kernel_rfl) (decide_eq_false (h12)) ?_
                      refine s_val (.bool false) (by kernel_rfl) (fun _ => by kernel_rfl) ?_
                      refine s_val (.pointer (some ⟨b1, 2, none⟩)) (by kernel_rfl) (fun _ => by kernel_rfl) ?_
                      refine s_val (.pointer (some ⟨b1, 3, none⟩)) (by kernel_rfl) (fun _ => by kernel_rfl) ?_
                      refine s_load 0 ⟨b1, (coV c).cells, 26⟩ (off := 3) (.int .i64 c.v.min) (by kernel_rfl) rfl (by kernel_rfl) (by kernel_rfl) (by kernel_rfl) ?_
                      by_cases h15 : (c.v.min : Int) = 0
                      · skip
                        refine s_dec (p := (c.v.min : Int) = 0) true (by kernel_rfl) (fun _ => by kernel_rfl) (decide_eq_true (h15)) ?_
                        refine s_val (.bool true) (by kernel_rfl) (fun _ => by kernel_rfl) ?_
                        refine s_val (.bool true) (by kernel_rfl) (fun _ => by kernel_rfl) ?_
                        refine s_val (.bool true) (by kernel_rfl) (fun _ => by kernel_rfl) ?_
                        refine s_val (.pointer (some ⟨b1, 1, none⟩)) (by kernel_rfl) (fun _ => by kernel_rfl) ?_
                        refine s_load 0 ⟨b1, (coV c).cells, 26⟩ (off := 1) (.int .i64 c.parts) (by kernel_rfl) rfl (by kernel_rfl) (by kernel_rfl) (by kernel_rfl) ?_
                        by_cases h16 : (2 : Int) < c.parts
                        · skip
                          refine s_dec (p := (2 : Int) < c.parts) true (by kernel_rfl) (fun _ => by kernel_rfl) (decide_eq_true (h16)) ?_
                          refine s_val (.bool true) (by kernel_rfl) (fun _ => by kernel_rfl) ?_
                          refine s_skip (by kernel_rfl) ?_
                          refine s_skip (by kernel_rfl) ?_
                          refine s_skip (by kernel_rfl) ?_
                          refine s_skip (by kernel_rfl) ?_
                          refine s_val (.bool true) (by kernel_rfl) (fun _ => by kernel_rfl) ?_
                          refine s_val (.bool true) (by kernel_rfl) (fun _ => by kernel_rfl) ?_
                          refine s_val (.bool true) (by kernel_rfl) (fun _ => by kernel_rfl) ?_
                          refine s_nil ?_
                          refine fin_seq ?_
                          refine ok_ret ?_
                          refine fin_ret (.bool true) Tryz.results16 (by kernel_rfl) ?_
                          exact fun w hO => ⟨by rw [Co.may_iff.2 ⟨by omega, by assumption, by assumption, by grind, by grind, by grind, by omega, by omega, by omega⟩], hO.below⟩
                        · skip
                          refine s_dec (p := (2 : Int) < c.parts) false (by kernel_rfl) (fun _ => by kernel_rfl) (decide_eq_false (h16)) ?_
                          refine s_val (.bool false) (by kernel_rfl) (fun _ => by kernel_rfl) ?_
                          refine s_val (.pointer (some ⟨b1, 2, none⟩)) (by kernel_rfl) (fun _ => by kernel_rfl) ?_
                          refine s_val (.pointer (some ⟨b1, 4, none⟩)) (by kernel_rfl) (fun _ => by kernel_rfl) ?_
                          refine s_load 0 ⟨b1, (coV c).cells, 26⟩ (off := 4) (.int .i64 c.v.pat) (by kernel_rfl) rfl (by kernel_rfl) (by kernel_rfl) (by kernel_rfl) ?_
                          by_cases h17 : (c.v.pat : Int) = 0
                          · skip
                            refine s_dec (p := (c.v.pat : Int) = 0) true (by kernel_rfl) (fun _ => by kernel_rfl) (decide_eq_true (h17)) ?_
                            refine s_val (.bool true) (by kernel_rfl) (fun _ => by kernel_rfl) ?_
                            refine s_val (.bool true) (by kernel_rfl) (fun _ => by kernel_rfl) ?_
                            refine s_val (.bool true) (by kernel_rfl) (fun _ => by kernel_rfl) ?_
                            refine s_nil ?_
                            refine fin_seq ?_
                            refine ok_ret ?_
                            refine fin_ret (.bool true) Tryz.results16 (by kernel_rfl) ?_
                            exact fun w hO => ⟨by rw [Co.may_iff.2 ⟨by omega, by assumption, by assumption, by grind, by grind, by grind, by omega, by omega, by omega⟩], hO.below⟩
                          · skip
                            refine s_dec (p := (c.v.pat : Int) = 0) false (by kernel_rfl) (fun _ => by kernel_rfl) (decide_eq_false (h17)) ?_
                            refine s_val (.bool false) (by kernel_rfl) (fun _ => by kernel_rfl) ?_
                            refine s_val (.bool false) (by kernel_rfl) (fun _ => by kernel_rfl) ?_
                            refine s_val (.bool false) (by kernel_rfl) (fun _ => by kernel_rfl) ?_
                            refine s_nil ?_
                            refine fin_seq ?_
                            refine ok_ret ?_
                            refine fin_ret (.bool false) Tryz.results16 (by kernel_rfl) ?_
                            exact fun w hO => ⟨by rw [show c.may = false from Bool.eq_false_iff.2 fun q0 => by have q1 := Co.may_iff.1 q0; grind], hO.below⟩
                      · skip
                        refine s_dec (p := (c.v.min : Int) = 0) false (by kernel_rfl) (fun _ => by kernel_rfl) (decide_eq_false (h15)) ?_
                        refine s_val (.bool false) (by kernel_rfl) (fun _ => by kernel_rfl) ?_
                        refine s_val (.bool false) (by kernel_rfl) (fun _ => by kernel_rfl) ?_
                        refine s_val (.bool false) (by kernel_rfl) (fun _ => by kernel_rfl) ?_
                        refine s_skip (by kernel_rfl) ?_
                        refine s_skip (by kernel_rfl) ?_
                        refine s_skip (by kernel_rfl) ?_
                        refine s_skip (by kernel_rfl) ?_
                        refine s_skip (by kernel_rfl) ?_
                        refine s_skip (by kernel_rfl) ?_
                        refine s_skip (by kernel_rfl) ?_
                        refine s_skip (by kernel_rfl) ?_
                        refine s_skip (by kernel_rfl) ?_
                        refine s_val (.bool false) (by kernel_rfl) (fun _ => by kernel_rfl) ?_
                        refine s_val (.bool false) (by kernel_rfl) (fun _ => by kernel_rfl) ?_
                        refine s_nil ?_
                        refine fin_seq ?_
                        refine ok_ret ?_
                        refine fin_ret (.bool false) Tryz.results16 (by kernel_rfl) ?_
                        exact fun w hO => ⟨by rw [show c.may = false from Bool.eq_false_iff.2 fun q0 => by have q1 := Co.may_iff.1 q0; grind], hO.below⟩
                  · skip
                    refine s_dec (p := (0 : Int) < c.parts) false (by kernel_rfl) (fun _ => by kernel_rfl) (decide_eq_false (h11)) ?_
                    refine s_val (.bool false) (by kernel_rfl) (fun _ => by kernel_rfl) ?_
                    refine s_val (.pointer (some ⟨b1, 2, none⟩)) (by kernel_rfl) (fun _ => by kernel_rfl) ?_
                    refine s_val (.pointer (some ⟨b1, 2, none⟩)) (by kernel_rfl) (fun _ => by kernel_rfl) ?_
                    refine s_load 0 ⟨b1, (coV c).cells, 26⟩ (off := 2) (.int .i64 c.v.maj) (by kernel_rfl) rfl (by kernel_rfl) (by kernel_rfl) (by kernel_rfl) ?_
                    by_cases h18 : (c.v.maj : Int) = 0
                    · skip
                      refine s_dec (p := (c.v.maj : Int) = 0) true (by kernel_rfl) (fun _ => by kernel_rfl) (decide_eq_true (h18)) ?_
                      refine s_val (.bool true) (by kernel_rfl) (fun _ => by kernel_rfl) ?_
                      refine s_val (.bool true) (by kernel_rfl) (fun _ => by kernel_rfl) ?_
                      refine s_val (.pointer (some ⟨b1, 1, none⟩)) (by kernel_rfl) (fun _ => by kernel_rfl) ?_
                      refine s_load 0 ⟨b1, (coV c).cells, 26⟩ (off := 1) (.int .i64 c.parts) (by kernel_rfl) rfl (by kernel_rfl) (by kernel_rfl) (by kernel_rfl) ?_
                      by_cases h19 : (1 : Int) < c.parts
                      · skip
                        refine s_dec (p := (1 : Int) < c.parts) true (by kernel_rfl) (fun _ => by kernel_rfl) (decide_eq_true (h19)) ?_
                        refine s_val (.bool true) (by kernel_rfl) (fun _ => by kernel_rfl) ?_
                        refine s_skip (by kernel_rfl) ?_
                        refine s_skip (by kernel_rfl) ?_
                        refine s_skip (by kernel_rfl) ?_
                        refine s_skip (by kernel_rfl) ?_
                        refine s_val (.bool true) (by kernel_rfl) (fun _ => by kernel_rfl) ?_
                        refine s_val (.bool true) (by kernel_rfl) (fun _ => by kernel_rfl) ?_
                        refine s_val (.bool true) (by kernel_rfl) (fun _ => by kernel_rfl) ?_
                        refine s_val (.pointer (some ⟨b1, 1, none⟩)) (by kernel_rfl) (fun _ => by kernel_rfl) ?_
                        refine s_load 0 ⟨b1, (coV c).cells, 26⟩ (off := 1) (.int .i64 c.parts) (by kernel_rfl) rfl (by kernel_rfl) (by kernel_rfl) (by kernel_rfl) ?_
                        by_cases h20 : (2 : Int) < c.parts
                        · skip
                          refine s_dec (p := (2 : Int) < c.parts) true (by kernel_rfl) (fun _ => by kernel_rfl) (decide_eq_true (h20)) ?_
                          refine s_val (.bool true) (by kernel_rfl) (fun _ => by kernel_rfl) ?_
                          refine s_skip (by kernel_rfl) ?_
                          refine s_skip (by kernel_rfl) ?_
                          refine s_skip (by kernel_rfl) ?_
                          refine s_skip (by kernel_rfl) ?_
                          refine s_val (.bool true) (by kernel_rfl) (fun _ => by kernel_rfl) ?_
                          refine s_val (.bool true) (by kernel_rfl) (fun _ => by kernel_rfl) ?_
                          refine s_val (.bool true) (by kernel_rfl) (fun _ => by kernel_rfl) ?_
                          refine s_nil ?_
                          refine fin_seq ?_
                          refine ok_ret ?_
                          refine fin_ret (.bool true) Tryz.results16 (by kernel_rfl) ?_
                          exact fun w hO => ⟨by rw [Co.may_iff.2 ⟨by omega, by assumption, by assumption, by grind, by grind, by grind, by omega, by omega, by omega⟩], hO.below⟩
                        · skip
                          refine s_dec (p := (2 : Int) < c.parts) false (by kernel_rfl) (fun _ => by kernel_rfl) (decide_eq_false (h20)) ?_
                          refine s_val (.bool false) (by kernel_rfl) (fun _ => by kernel_rfl) ?_
                          refine s_val (.pointer (some ⟨b1, 2, none⟩)) (by kernel_rfl) (fun _ => by kernel_rfl) ?_
                          refine s_val (.pointer (some ⟨b1, 4, none⟩)) (by kernel_rfl) (fun _ => by kernel_rfl) ?_
                          refine s_load 0 ⟨b1, (coV c).cells, 26⟩ (off := 4) (.int .i64 c.v.pat) (by kernel_rfl) rfl (by kernel_rfl) (by kernel_rfl) (by kernel_rfl) ?_
                          by_cases h21 : (c.v.pat : Int) = 0
                          · skip
                            refine s_dec (p := (c.v.pat : Int) = 0) true (by kernel_rfl) (fun _ => by kernel_rfl) (decide_eq_true (h21)) ?_
                            refine s_val (.bool true) (by kernel_rfl) (fun _ => by kernel_rfl) ?_
                            refine s_val (.bool true) (by kernel_rfl) (fun _ => by kernel_rfl) ?_
                            refine s_val (.bool true) (by kernel_rfl) (fun _ => by kernel_rfl) ?_
                            refine s_nil ?_
                            refine fin_seq ?_
                            refine ok_ret ?_
                            refine fin_ret (.bool true) Tryz.results16 (by kernel_rfl) ?_
                            exact fun w hO => ⟨by rw [Co.may_iff.2 ⟨by omega, by assumption, by assumption, by grind, by grind, by grind, by omega, by omega, by omega⟩], hO.below⟩
                          · skip
                            refine s_dec (p := (c.v.pat : Int) = 0) false (by kernel_rfl) (fun _ => by kernel_rfl) (decide_eq_false (h21)) ?_
                            refine s_val (.bool false) (by kernel_rfl) (fun _ => by kernel_rfl) ?_
                            refine s_val (.bool false) (by kernel_rfl) (fun _ => by kernel_rfl) ?_
                            refine s_val (.bool false) (by kernel_rfl) (fun _ => by kernel_rfl) ?_
                            refine s_nil ?_
                            refine fin_seq ?_
                            refine ok_ret ?_
                            refine fin_ret (.bool false) Tryz.results16 (by kernel_rfl) ?_
                            exact fun w hO => ⟨by rw [show c.may = false from Bool.eq_false_iff.2 fun q0 => by have q1 := Co.may_iff.1 q0; grind], hO.below⟩
                      · skip
                        refine s_dec (p := (1 : Int) < c.parts) false (by kernel_rfl) (fun _ => by kernel_rfl) (decide_eq_false (h19)) ?_
                        refine s_val (.bool false) (by kernel_rfl) (fun _ => by kernel_rfl) ?_
                        refine s_val (.pointer (some ⟨b1, 2, none⟩)) (by kernel_rfl) (fun _ => by kernel_rfl) ?_
                        refine s_val (.pointer (some ⟨b1, 3, none⟩)) (by kernel_rfl) (fun _ => by kernel_rfl) ?_
                        refine s_load 0 ⟨b1, (coV c).cells, 26⟩ (off := 3) (.int .i64 c.v.min) (by kernel_rfl) rfl (by kernel_rfl) (by kernel_rfl) (by kernel_rfl) ?_
                        by_cases h22 : (c.v.min : Int) = 0
                        · skip
                          refine s_dec (p := (c.v.min : Int) = 0) true (by kernel_rfl) (fun _ => by kernel_rfl) (decide_eq_true (h22)) ?_
                          refine s_val (.bool true) (by kernel_rfl) (fun _ => by kernel_rfl) ?_
                          refine s_val (.bool true) (by kernel_rfl) (fun _ => by kernel_rfl) ?_
                          refine s_val (.bool true) (by kernel_rfl) (fun _ => by kernel_rfl) ?_
                          refine s_val (.pointer (some ⟨b1, 1, none⟩)) (by kernel_rfl) (fun _ => by kernel_rfl) ?_
                          refine s_load 0 ⟨b1, (coV c).cells, 26⟩ (off := 1) (.int .i64 c.parts) (by kernel_rfl) rfl (by kernel_rfl) (by kernel_rfl) (by kernel_rfl) ?_
                          by_cases h23 : (2 : Int) < c.parts
                          · skip
                            refine s_dec (p := (2 : Int) < c.parts) true (by kernel_rfl) (fun _ => by kernel_rfl) (decide_eq_true (h23)) ?_
                            refine s_val (.bool true) (by kernel_rfl) (fun _ => by kernel_rfl) ?_
                            refine s_skip (by kernel_rfl) ?_
                            refine s_skip (by kernel_rfl) ?_
                            refine s_skip (by kernel_rfl) ?_
                            refine s_skip (by kernel_rfl) ?_
                            refine s_val (.bool true) (by kernel_rfl) (fun _ => by kernel_rfl) ?_
                            refine s_val (.bool true) (by kernel_rfl) (fun _ => by kernel_rfl) ?_
                            refine s_val (.bool true) (by kernel_rfl) (fun _ => by kernel_rfl) ?_
                            refine s_nil ?_
                            refine fin_seq ?_
                            refine ok_ret ?_
                            refine fin_ret (.bool true) Tryz.results16 (by kernel_rfl) ?_
                            exact fun w hO => ⟨by rw [Co.may_iff.2 ⟨by omega, by assumption, by assumption, by grind, by grind, by grind, by omega, by omega, by omega⟩], hO.below⟩
                          · skip
                            refine s_dec (p := (2 : Int) < c.parts) false (by kernel_rfl) (fun _ => by kernel_rfl) (decide_eq_false (h23)) ?_
                            refine s_val (.bool false) (by kernel_rfl) (fun _ => by kernel_rfl) ?_
                            refine s_val (.pointer (some ⟨b1, 2, none⟩)) (by kernel_rfl) (fun _ => by kernel_rfl) ?_
                            refine s_val (.pointer (some ⟨b1, 4, none⟩)) (by kernel_rfl) (fun _ => by kernel_rfl) ?_
                            refine s_load 0 ⟨b1, (coV c).cells, 26⟩ (off := 4) (.int .i64 c.v.pat) (by kernel_rfl) rfl (by kernel_rfl) (by kernel_rfl) (by kernel_rfl) ?_
                            by_cases h24 : (c.v.pat : Int) = 0
                            · skip
                              refine s_dec (p := (c.v.pat : Int) = 0) true (by kernel_rfl) (fun _ => by kernel_rfl) (decide_eq_true (h24)) ?_
                              refine s_val (.bool true) (by kernel_rfl) (fun _ => by kernel_rfl) ?_
                              refine s_val (.bool true) (by kernel_rfl) (fun _ => by kernel_rfl) ?_
                              refine s_val (.bool true) (by kernel_rfl) (fun _ => by kernel_rfl) ?_
                              refine s_nil ?_
                              refine fin_seq ?_
                              refine ok_ret ?_
                              refine fin_ret (.bool true) Tryz.results16 (by kernel_rfl) ?_
                              exact fun w hO => ⟨by rw [Co.may_iff.2 ⟨by omega, by assumption, by assumption, by grind, by grind, by grind, by omega, by omega, by omega⟩], hO.below⟩
                            · skip
                              refine s_dec (p := (c.v.pat : Int) = 0) false (by kernel_rfl) (fun _ => by kernel_rfl) (decide_eq_false (h24)) ?_
                              refine s_val (.bool false) (by kernel_rfl) (fun _ => by kernel_rfl) ?_
                              refine s_val (.bool false) (by kernel_rfl) (fun _ => by kernel_rfl) ?_
                              refine s_val (.bool false) (by kernel_rfl) (fun _ => by kernel_rfl) ?_
                              refine s_nil ?_
                              refine fin_seq ?_
                              refine ok_ret ?_
                              refine fin_ret (.bool false) Tryz.results16 (by kernel_rfl) ?_
                              exact fun w hO => ⟨by rw [show c.may = false from Bool.eq_false_iff.2 fun q0 => by have q1 := Co.may_iff.1 q0; grind], hO.below⟩
                        · skip
                          refine s_dec (p := (c.v.min : Int) = 0) false (by kernel_rfl) (fun _ => by kernel_rfl) (decide_eq_false (h22)) ?_
                          refine s_val (.bool false) (by kernel_rfl) (fun _ => by kernel_rfl) ?_
                          refine s_val (.bool false) (by kernel_rfl) (fun _ => by kernel_rfl) ?_
                          refine s_val (.bool false) (by kernel_rfl) (fun _ => by kernel_rfl) ?_
                          refine s_skip (by kernel_rfl) ?_
                          refine s_skip (by kernel_rfl) ?_
                          refine s_skip (by kernel_rfl) ?_
                          refine s_skip (by kernel_rfl) ?_
                          refine s_skip (by kernel_rfl) ?_
                          refine s_skip (by kernel_rfl) ?_
                          refine s_skip (by kernel_rfl) ?_
                          refine s_skip (by kernel_rfl) ?_
                          refine s_skip (by kernel_rfl) ?_
                          refine s_val (.bool false) (by kernel_rfl) (fun _ => by kernel_rfl) ?_
                          refine s_val (.bool false) (by kernel_rfl) (fun _ => by kernel_rfl) ?_
                          refine s_nil ?_
                          refine fin_seq ?_
                          refine ok_ret ?_
                          refine fin_ret (.bool false) Tryz.results16 (by kernel_rfl) ?_
                          exact fun w hO => ⟨by rw [show c.may = false from Bool.eq_false_iff.2 fun q0 => by have q1 := Co.may_iff.1 q0; grind], hO.below⟩
                    · skip
                      refine s_dec (p := (c.v.maj : Int) = 0) false (by kernel_rfl) (fun _ => by kernel_rfl) (decide_eq_false (h18)) ?_
                      refine s_val (.bool false) (by kernel_rfl) (fun _ => by kernel_rfl) ?_
                      refine s_val (.bool false) (by kernel_rfl) (fun _ => by kernel_rfl) ?_
                      refine s_skip (by kernel_rfl) ?_
                      refine s_skip (by kernel_rfl) ?_
                      refine s_skip (by kernel_rfl) ?_
                      refine s_skip (by kernel_rfl) ?_
                      refine s_skip (by kernel_rfl) ?_
                      refine s_skip (by kernel_rfl) ?_
                      refine s_skip (by kernel_rfl) ?_
                      refine s_skip (by kernel_rfl) ?_
                      refine s_skip (by kernel_rfl) ?_
                      refine s_val (.bool false) (by kernel_rfl) (fun _ => by kernel_rfl) ?_
                      refine s_val (.bool false) (by kernel_rfl) (fun _ => by kernel_rfl) ?_
                      refine s_skip (by kernel_rfl) ?_
                      refine s_skip (by kernel_rfl) ?_
                      refine s_skip (by kernel_rfl) ?_
                      refine s_skip (by kernel_rfl) ?_
                      refine s_skip (by kernel_rfl) ?_
                      refine s_skip (by kernel_rfl) ?_
                      refine s_skip (by kernel_rfl) ?_
                      refine s_skip (by kernel_rfl) ?_
                      refine s_skip (by kernel_rfl) ?_
                      refine s_val (.bool false) (by kernel_rfl) (fun _ => by kernel_rfl) ?_
                      refine s_val (.bool false) (by kernel_rfl) (fun _ => by kernel_rfl) ?_
                      refine s_nil ?_
                      refine fin_seq ?_
                      refine ok_ret ?_
                      refine fin_ret (.bool false) Tryz.results16 (by kernel_rfl) ?_
                      exact fun w hO => ⟨by rw [show c.may = false from Bool.eq_false_iff.2 fun q0 => by have q1 := Co.may_iff.1 q0; grind], hO.below⟩
          · skip
            refine s_dec (p := (c.op : Int) = 9) false (by kernel_rfl) (fun _ => by kernel_rfl) (decide_eq_false (h5)) ?_
            refine s_nil ?_
            refine fin_seq ?_
            refine ok_join (fun L f => ∃ (lo : Int) (hi : Int) (j : Nat → Value), ((c.op = 9 → lo = 0 ∧ hi = 2) ∧ (¬ c.op = 9 → lo = 1 ∧ hi = 3)) ∧ L = [⟨b1, (coV c).cells, 26⟩] ∧ f = upds j [(1, .pointer (some ⟨b1, 0, none⟩)), (3, .int .i64 lo), (4, .int .i64 hi)]) ?_ ?_
            · skip
              refine ok_false (by kernel_rfl) ?_
              refine ok_skip ?_
              exact fin_join ⟨1, 3, _, ⟨by omega, by omega⟩, rfl, upds_self _ ⟨by kernel_rfl, by kernel_rfl, by kernel_rfl, trivial⟩⟩
            · rintro L f ⟨lo, hi, j, hj3, rfl, rfl⟩
              refine fin_seq ?_
              refine ok_seq ?_
              refine ok_seq ?_
              refine ok_join (fun L f => ∃ (bad : Bool) (j : Nat → Value), ((bad = true → ¬ (lo ≤ c.parts ∧ c.parts ≤ hi ∧ (3 ≤ c.parts ∨ c.v.pre = []))) ∧ (bad = false → lo ≤ c.parts ∧ c.parts ≤ hi ∧ (3 ≤ c.parts ∨ c.v.pre = []))) ∧ L = [⟨b1, (coV c).cells, 26⟩] ∧ f = upds j [(1, .pointer (some ⟨b1, 0, none⟩)), (48, .bool bad)]) ?_ ?_
              · skip
                refine ok_region ?_
                refine s_val (.pointer (some ⟨b1, 1, none⟩)) (by kernel_rfl) (fun _ => by kernel_rfl) ?_
                refine s_load 0 ⟨b1, (coV c).cells, 26⟩ (off := 1) (.int .i64 c.parts) (by kernel_rfl) rfl (by kernel_rfl) (by kernel_rfl) (by kernel_rfl) ?_
                refine s_val (.int .i64 lo) (by kernel_rfl) (fun _ => by kernel_rfl) ?_
                by_cases h25 : (c.parts : Int) < lo
                · skip
                  refine s_dec (p := (c.parts : Int) < lo) true (by kernel_rfl) (fun _ => by kernel_rfl) (decide_eq_true (h25)) ?_
                  refine s_val (.bool true) (by kernel_rfl) (fun _ => by kernel_rfl) ?_
                  refine s_skip (by kernel_rfl) ?_
                  refine s_skip (by kernel_rfl) ?_
                  refine s_skip (by kernel_rfl) ?_
                  refine s_skip (by kernel_rfl) ?_
                  refine s_val (.bool true) (by kernel_rfl) (fun _ => by kernel_rfl) ?_
                  refine s_val (.bool true) (by kernel_rfl) (fun _ => by kernel_rfl) ?_
                  refine s_skip (by kernel_rfl) ?_
                  refine s_skip (by kernel_rfl) ?_
                  refine s_skip (by kernel_rfl) ?_
                  refine s_skip (by kernel_rfl) ?_
                  refine s_skip (by kernel_rfl) ?_
                  refine s_skip (by kernel_rfl) ?_
                  refine s_skip (by kernel_rfl) ?_
                  refine s_skip (by kernel_rfl) ?_
                  refine s_skip (by kernel_rfl) ?_
                  refine s_val (.bool true) (by kernel_rfl) (fun _ => by kernel_rfl) ?_
                  refine s_nil ?_
                  exact fin_join ⟨true, _, ⟨fun q0 => by grind, fun q0 => absurd q0 (by decide)⟩, rfl, upds_self _ ⟨by kernel_rfl, by kernel_rfl, trivial⟩⟩
                · skip
                  refine s_dec (p := (c.parts : Int) < lo) false (by kernel_rfl) (fun _ => by kernel_rfl) (decide_eq_false (h25)) ?_
                  refine s_val (.bool false) (by kernel_rfl) (fun _ => by kernel_rfl) ?_
                  refine s_val (.pointer (some ⟨b1, 1, none⟩)) (by kernel_rfl) (fun _ => by kernel_rfl) ?_
                  refine s_load 0 ⟨b1, (coV c).cells, 26⟩ (off := 1) (.int .i64 c.parts) (by kernel_rfl) rfl (by kernel_rfl) (by kernel_rfl) (by kernel_rfl) ?_
                  refine s_val (.int .i64 hi) (by kernel_rfl) (fun _ => by kernel_rfl) ?_
                  by_cases h26 : (hi : Int) < c.parts
                  · skip
                    refine s_dec (p := (hi : Int) < c.parts) true (by kernel_rfl) (fun _ => by kernel_rfl) (decide_eq_true (h26)) ?_
                    refine s_val (.bool true) (by kernel_rfl) (fun _ => by kernel_rfl) ?_
                    refine s_val (.bool true) (by kernel_rfl) (fun _ => by kernel_rfl) ?_
                    refine s_skip (by kernel_rfl) ?_
                    refine s_skip (by kernel_rfl) ?_
                    refine s_skip (by kernel_rfl) ?_
                    refine s_skip (by kernel_rfl) ?_
                    refine s_skip (by kernel_rfl) ?_
                    refine s_skip (by kernel_rfl) ?_
                    refine s_skip (by kernel_rfl) ?_
                    refine s_skip (by kernel_rfl) ?_
                    refine s_skip (by kernel_rfl) ?_
                    refine s_val (.bool true) (by kernel_rfl) (fun _ => by kernel_rfl) ?_
                    refine s_nil ?_
                    exact fin_join ⟨true, _, ⟨fun q0 => by grind, fun q0 => absurd q0 (by decide)⟩, rfl, upds_self _ ⟨by kernel_rfl, by kernel_rfl, trivial⟩⟩
                  · skip
                    refine s_dec (p := (hi : Int) < c.parts) false (by kernel_rfl) (fun _ => by kernel_rfl) (decide_eq_false (h26)) ?_
                    refine s_val (.bool false) (by kernel_rfl) (fun _ => by kernel_rfl) ?_
                    refine s_val (.bool false) (by kernel_rfl) (fun _ => by kernel_rfl) ?_
                    refine s_val (.pointer (some ⟨b1, 1, none⟩)) (by kernel_rfl) (fun _ => by kernel_rfl) ?_
                    refine s_load 0 ⟨b1, (coV c).cells, 26⟩ (off := 1) (.int .i64 c.parts) (by kernel_rfl) rfl (by kernel_rfl) (by kernel_rfl) (by kernel_rfl) ?_
                    by_cases h27 : (c.parts : Int) < 3
                    · skip
                      refine s_dec (p := (c.parts : Int) < 3) true (by kernel_rfl) (fun _ => by kernel_rfl) (decide_eq_true (h27)) ?_
                      refine s_val (.bool true) (by kernel_rfl) (fun _ => by kernel_rfl) ?_
                      refine s_val (.pointer (some ⟨b1, 2, none⟩)) (by kernel_rfl) (fun _ => by kernel_rfl) ?_
                      refine s_val (.pointer (some ⟨b1, 5, none⟩)) (by kernel_rfl) (fun _ => by kernel_rfl) ?_
                      refine s_load 0 ⟨b1, (coV c).cells, 26⟩ (off := 5) (.string (mkS c.v.pre)) (by kernel_rfl) rfl (by kernel_rfl) (by kernel_rfl) (by kernel_rfl) ?_
                      by_cases h28 : (c.v.pre : List UInt8) = []
                      · skip
                        refine s_val (.bool false) (by kernel_rfl) (run_strneq (a := c.v.pre) (b := ([])) rfl (by kernel_rfl) (by kernel_rfl) (decide_eq_true (h28))) ?_
                        refine s_val (.bool false) (by kernel_rfl) (fun _ => by kernel_rfl) ?_
                        refine s_val (.bool false) (by kernel_rfl) (fun _ => by kernel_rfl) ?_
                        refine s_nil ?_
                        exact fin_join ⟨false, _, ⟨fun q0 => absurd q0 (by decide), fun q0 => ⟨by omega, by omega, by first | exact .inr (by assumption) | exact .inl (by omega)⟩⟩, rfl, upds_self _ ⟨by kernel_rfl, by kernel_rfl, trivial⟩⟩
                      · skip
                        refine s_val (.bool true) (by kernel_rfl) (run_strneq (a := c.v.pre) (b := ([])) rfl (by kernel_rfl) (by kernel_rfl) (decide_eq_false (h28))) ?_
                        refine s_val (.bool true) (by kernel_rfl) (fun _ => by kernel_rfl) ?_
                        refine s_val (.bool true) (by kernel_rfl) (fun _ => by kernel_rfl) ?_
                        refine s_nil ?_
                        exact fin_join ⟨true, _, ⟨fun q0 => by grind, fun q0 => absurd q0 (by decide)⟩, rfl, upds_self _ ⟨by kernel_rfl, by kernel_rfl, trivial⟩⟩
                    · skip
                      refine s_dec (p := (c.parts : Int) < 3) false (by kernel_rfl) (fun _ => by kernel_rfl) (decide_eq_false (h27)) ?_
                      refine s_val (.bool false) (by kernel_rfl) (fun _ => by kernel_rfl) ?_
                      refine s_skip (by kernel_rfl) ?_
                      refine s_skip (by kernel_rfl) ?_
                      refine s_skip (by kernel_rfl) ?_
                      refine s_skip (by kernel_rfl) ?_
                      refine s_val (.bool false) (by kernel_rfl) (fun _ => by kernel_rfl) ?_
                      refine s_val (.bool false) (by kernel_rfl) (fun _ => by kernel_rfl) ?_
                      refine s_nil ?_
                      exact fin_join ⟨false, _, ⟨fun q0 => absurd q0 (by decide), fun q0 => ⟨by omega, by omega, by first | exact .inr (by assumption) | exact .inl (by omega)⟩⟩, rfl, upds_self _ ⟨by kernel_rfl, by kernel_rfl, trivial⟩⟩
              · rintro L f ⟨bad, j, hj2, rfl, rfl⟩
                refine fin_seq ?_
                cases h29 : bad with
                | true =>
                  refine ok_true (by kernel_rfl) ?_
                  refine ok_seq ?_
                  refine ok_region ?_
                  refine s_val (.bool false) (by kernel_rfl) (fun _ => by kernel_rfl) ?_
                  refine s_nil ?_
                  refine fin_seq ?_
                  refine ok_ret ?_
                  refine fin_seq_ret ?_
                  refine fin_ret (.bool false) Tryz.results16 (by kernel_rfl) ?_
                  exact fun w hO => ⟨by rw [show c.may = false from Bool.eq_false_iff.2 fun q0 => by have q1 := Co.may_iff.1 q0; grind], hO.below⟩
                | false =>
                  refine ok_false (by kernel_rfl) ?_
                  refine ok_skip ?_
                  refine fin_seq ?_
                  refine ok_seq ?_
                  refine ok_region ?_
                  refine s_val (.pointer (some ⟨b1, 1, none⟩)) (by kernel_rfl) (fun _ => by kernel_rfl) ?_
                  refine s_load 0 ⟨b1, (coV c).cells, 26⟩ (off := 1) (.int .i64 c.parts) (by kernel_rfl) rfl (by kernel_rfl) (by kernel_rfl) (by kernel_rfl) ?_
                  by_cases h30 : (0 : Int) < c.parts
                  · skip
                    refine s_dec (p := (0 : Int) < c.parts) true (by kernel_rfl) (fun _ => by kernel_rfl) (decide_eq_true (h30)) ?_
                    refine s_val (.bool true) (by kernel_rfl) (fun _ => by kernel_rfl) ?_
                    refine s_skip (by kernel_rfl) ?_
                    refine s_skip (by kernel_rfl) ?_
                    refine s_skip (by kernel_rfl) ?_
                    refine s_skip (by kernel_rfl) ?_
                    refine s_val (.bool true) (by kernel_rfl) (fun _ => by kernel_rfl) ?_
                    refine s_val (.bool true) (by kernel_rfl) (fun _ => by kernel_rfl) ?_
                    refine s_val (.pointer (some ⟨b1, 1, none⟩)) (by kernel_rfl) (fun _ => by kernel_rfl) ?_
                    refine s_load 0 ⟨b1, (coV c).cells, 26⟩ (off := 1) (.int .i64 c.parts) (by kernel_rfl) rfl (by kernel_rfl) (by kernel_rfl) (by kernel_rfl) ?_
                    by_cases h31 : (1 : Int) < c.parts
                    · skip
                      refine s_dec (p := (1 : Int) < c.parts) true (by kernel_rfl) (fun _ => by kernel_rfl) (decide_eq_true (h31)) ?_
                      refine s_val (.bool true) (by kernel_rfl) (fun _ => by kernel_rfl) ?_
                      refine s_skip (by kernel_rfl) ?_
                      refine s_skip (by kernel_rfl) ?_
                      refine s_skip (by kernel_rfl) ?_
                      refine s_skip (by kernel_rfl) ?_
                      refine s_val (.bool true) (by kernel_rfl) (fun _ => by kernel_rfl) ?_
                      refine s_val (.bool true) (by kernel_rfl) (fun _ => by kernel_rfl) ?_
                      refine s_val (.bool true) (by kernel_rfl) (fun _ => by kernel_rfl) ?_
                      refine s_val (.pointer (some ⟨b1, 1, none⟩)) (by kernel_rfl) (fun _ => by kernel_rfl) ?_
                      refine s_load 0 ⟨b1, (coV c).cells, 26⟩ (off := 1) (.int .i64 c.parts) (by kernel_rfl) rfl (by kernel_rfl) (by kernel_rfl) (by kernel_rfl) ?_
                      by_cases h32 : (2 : Int) < c.parts
                      · skip
                        refine s_dec (p := (2 : Int) < c.parts) true (by kernel_rfl) (fun _ => by kernel_rfl) (decide_eq_true (h32)) ?_
                        refine s_val (.bool true) (by kernel_rfl) (fun _ => by kernel_rfl) ?_
                        refine s_skip (by kernel_rfl) ?_
                        refine s_skip (by kernel_rfl) ?_
                        refine s_skip (by kernel_rfl) ?_
                        refine s_skip (by kernel_rfl) ?_
                        refine s_val (.bool true) (by kernel_rfl) (fun _ => by kernel_rfl) ?_
                        refine s_val (.bool true) (by kernel_rfl) (fun _ => by kernel_rfl) ?_
                        refine s_val (.bool true) (by kernel_rfl) (fun _ => by kernel_rfl) ?_
                        refine s_nil ?_
                        refine fin_seq ?_
                        refine ok_ret ?_
                        refine fin_ret (.bool true) Tryz.results16 (by kernel_rfl) ?_
                        exact fun w hO => ⟨by rw [Co.may_iff.2 ⟨by omega, by assumption, by assumption, by grind, by grind, by grind, by omega, by omega, by omega⟩], hO.below⟩
                      · skip
                        refine s_dec (p := (2 : Int) < c.parts) false (by kernel_rfl) (fun _ => by kernel_rfl) (decide_eq_false (h32)) ?_
                        refine s_val (.bool false) (by kernel_rfl) (fun _ => by kernel_rfl) ?_
                        refine s_val (.pointer (some ⟨b1, 2, none⟩)) (by kernel_rfl) (fun _ => by kernel_rfl) ?_
                        refine s_val (.pointer (some ⟨b1, 4, none⟩)) (by kernel_rfl) (fun _ => by kernel_rfl) ?_
                        refine s_load 0 ⟨b1, (coV c).cells, 26⟩ (off := 4) (.int .i64 c.v.pat) (by kernel_rfl) rfl (by kernel_rfl) (by kernel_rfl) (by kernel_rfl) ?_
                        by_cases h33 : (c.v.pat : Int) = 0
                        · skip
                          refine s_dec (p := (c.v.pat : Int) = 0) true (by kernel_rfl) (fun _ => by kernel_rfl) (decide_eq_true (h33)) ?_
                          refine s_val (.bool true) (by kernel_rfl) (fun _ => by kernel_rfl) ?_
                          refine s_val (.bool true) (by kernel_rfl) (fun _ => by kernel_rfl) ?_
                          refine s_val (.bool true) (by kernel_rfl) (fun _ => by kernel_rfl) ?_
                          refine s_nil ?_
                          refine fin_seq ?_
                          refine ok_ret ?_
                          refine fin_ret (.bool true) Tryz.results16 (by kernel_rfl) ?_
                          exact fun w hO => ⟨by rw [Co.may_iff.2 ⟨by omega, by assumption, by assumption, by grind, by grind, by grind, by omega, by omega, by omega⟩], hO.below⟩
                        · skip
                          refine s_dec (p := (c.v.pat : Int) = 0) false (by kernel_rfl) (fun _ => by kernel_rfl) (decide_eq_false (h33)) ?_
                          refine s_val (.bool false) (by kernel_rfl) (fun _ => by kernel_rfl) ?_
                          refine s_val (.bool false) (by kernel_rfl) (fun _ => by kernel_rfl) ?_
                          refine s_val (.bool false) (by kernel_rfl) (fun _ => by kernel_rfl) ?_
                          refine s_nil ?_
                          refine fin_seq ?_
                          refine ok_ret ?_
                          refine fin_ret (.bool false) Tryz.results16 (by kernel_rfl) ?_
                          exact fun w hO => ⟨by rw [show c.may = false from Bool.eq_false_iff.2 fun q0 => by have q1 := Co.may_iff.1 q0; grind], hO.below⟩
                    · skip
                      refine s_dec (p := (1 : Int) < c.parts) false (by kernel_rfl) (fun _ => by kernel_rfl) (decide_eq_false (h31)) ?_
                      refine s_val (.bool false) (by kernel_rfl) (fun _ => by kernel_rfl) ?_
                      refine s_val (.pointer (some ⟨b1, 2, none⟩)) (by kernel_rfl) (fun _ => by kernel_rfl) ?_
                      refine s_val (.pointer (some ⟨b1, 3, none⟩)) (by kernel_rfl) (fun _ => by kernel_rfl) ?_
                      refine s_load 0 ⟨b1, (coV c).cells, 26⟩ (off := 3) (.int .i64 c.v.min) (by kernel_rfl) rfl (by kernel_rfl) (by kernel_rfl) (by kernel_rfl) ?_
                      by_cases h34 : (c.v.min : Int) = 0
                      · skip
                        refine s_dec (p := (c.v.min : Int) = 0) true (by kernel_rfl) (fun _ => by kernel_rfl) (decide_eq_true (h34)) ?_
                        refine s_val (.bool true) (by kernel_rfl) (fun _ => by kernel_rfl) ?_
                        refine s_val (.bool true) (by kernel_rfl) (fun _ => by kernel_rfl) ?_
                        refine s_val (.bool true) (by kernel_rfl) (fun _ => by kernel_rfl) ?_
                        refine s_val (.pointer (some ⟨b1, 1, none⟩)) (by kernel_rfl) (fun _ => by kernel_rfl) ?_
                        refine s_load 0 ⟨b1, (coV c).cells, 26⟩ (off := 1) (.int .i64 c.parts) (by kernel_rfl) rfl (by kernel_rfl) (by kernel_rfl) (by kernel_rfl) ?_
                        by_cases h35 : (2 : Int) < c.parts
                        · skip
                          refine s_dec (p := (2 : Int) < c.parts) true (by kernel_rfl) (fun _ => by kernel_rfl) (decide_eq_true (h35)) ?_
                          refine s_val (.bool true) (by kernel_rfl) (fun _ => by kernel_rfl) ?_
                          refine s_skip (by kernel_rfl) ?_
                          refine s_skip (by kernel_rfl) ?_
                          refine s_skip (by kernel_rfl) ?_
                          refine s_skip (by kernel_rfl) ?_
                          refine s_val (.bool true) (by kernel_rfl) (fun _ => by kernel_rfl) ?_
                          refine s_val (.bool true) (by kernel_rfl) (fun _ => by kernel_rfl) ?_
                          refine s_val (.bool true) (by kernel_rfl) (fun _ => by kernel_rfl) ?_
                          refine s_nil ?_
                          refine fin_seq ?_
                          refine ok_ret ?_
                          refine fin_ret (.bool true) Tryz.results16 (by kernel_rfl) ?_
                          exact fun w hO => ⟨by rw [Co.may_iff.2 ⟨by omega, by assumption, by assumption, by grind, by grind, by grind, by omega, by omega, by omega⟩], hO.below⟩
                        · skip
                          refine s_dec (p := (2 : Int) < c.parts) false (by kernel_rfl) (fun _ => by kernel_rfl) (decide_eq_false (h35)) ?_
                          refine s_val (.bool false) (by kernel_rfl) (fun _ => by kernel_rfl) ?_
                          refine s_val (.pointer (some ⟨b1, 2, none⟩)) (by kernel_rfl) (fun _ => by kernel_rfl) ?_
                          refine s_val (.pointer (some ⟨b1, 4, none⟩)) (by kernel_rfl) (fun _ => by kernel_rfl) ?_
                          refine s_load 0 ⟨b1, (coV c).cells, 26⟩ (off := 4) (.int .i64 c.v.pat) (by kernel_rfl) rfl (by kernel_rfl) (by kernel_rfl) (by kernel_rfl) ?_
                          by_cases h36 : (c.v.pat : Int) = 0
                          · skip
                            refine s_dec (p := (c.v.pat : Int) = 0) true (by kernel_rfl) (fun _ => by kernel_rfl) (decide_eq_true (h36)) ?_
                            refine s_val (.bool true) (by kernel_rfl) (fun _ => by kernel_rfl) ?_
                            refine s_val (.bool true) (by kernel_rfl) (fun _ => by kernel_rfl) ?_
                            refine s_val (.bool true) (by kernel_rfl) (fun _ => by kernel_rfl) ?_
                            refine s_nil ?_
                            refine fin_seq ?_
                            refine ok_ret ?_
                            refine fin_ret (.bool true) Tryz.results16 (by kernel_rfl) ?_
                            exact fun w hO => ⟨by rw [Co.may_iff.2 ⟨by omega, by assumption, by assumption, by grind, by grind, by grind, by omega, by omega, by omega⟩], hO.below⟩
                          · skip
                            refine s_dec (p := (c.v.pat : Int) = 0) false (by kernel_rfl) (fun _ => by kernel_rfl) (decide_eq_false (h36)) ?_
                            refine s_val (.bool false) (by kernel_rfl) (fun _ => by kernel_rfl) ?_
                            refine s_val (.bool false) (by kernel_rfl) (fun _ => by kernel_rfl) ?_
                            refine s_val (.bool false) (by kernel_rfl) (fun _ => by kernel_rfl) ?_
                            refine s_nil ?_
                            refine fin_seq ?_
                            refine ok_ret ?_
                            refine fin_ret (.bool false) Tryz.results16 (by kernel_rfl) ?_
                            exact fun w hO => ⟨by rw [show c.may = false from Bool.eq_false_iff.2 fun q0 => by have q1 := Co.may_iff.1 q0; grind], hO.below⟩
                      · skip
                        refine s_dec (p := (c.v.min : Int) = 0) false (by kernel_rfl) (fun _ => by kernel_rfl) (decide_eq_false (h34)) ?_
                        refine s_val (.bool false) (by kernel_rfl) (fun _ => by kernel_rfl) ?_
                        refine s_val (.bool false) (by kernel_rfl) (fun _ => by kernel_rfl) ?_
                        refine s_val (.bool false) (by kernel_rfl) (fun _ => by kernel_rfl) ?_
                        refine s_skip (by kernel_rfl) ?_
                        refine s_skip (by kernel_rfl) ?_
                        refine s_skip (by kernel_rfl) ?_
                        refine s_skip (by kernel_rfl) ?_
                        refine s_skip (by kernel_rfl) ?_
                        refine s_skip (by kernel_rfl) ?_
                        refine s_skip (by kernel_rfl) ?_
                        refine s_skip (by kernel_rfl) ?_
                        refine s_skip (by kernel_rfl) ?_
                        refine s_val (.bool false) (by kernel_rfl) (fun _ => by kernel_rfl) ?_
                        refine s_val (.bool false) (by kernel_rfl) (fun _ => by kernel_rfl) ?_
                        refine s_nil ?_
                        refine fin_seq ?_
                        refine ok_ret ?_
                        refine fin_ret (.bool false) Tryz.results16 (by kernel_rfl) ?_
                        exact fun w hO => ⟨by rw [show c.may = false from Bool.eq_false_iff.2 fun q0 => by have q1 := Co.may_iff.1 q0; grind], hO.below⟩
                  · skip
                    refine s_dec (p := (0 : Int) < c.parts) false (by kernel_rfl) (fun _ => by kernel_rfl) (decide_eq_false (h30)) ?_
                    refine s_val (.bool false) (by kernel_rfl) (fun _ => by kernel_rfl) ?_
                    refine s_val (.pointer (some ⟨b1, 2, none⟩)) (by kernel_rfl) (fun _ => by kernel_rfl) ?_
                    refine s_val (.pointer (some ⟨b1, 2, none⟩)) (by kernel_rfl) (fun _ => by kernel_rfl) ?_
                    refine s_load 0 ⟨b1, (coV c).cells, 26⟩ (off := 2) (.int .i64 c.v.maj) (by kernel_rfl) rfl (by kernel_rfl) (by kernel_rfl) (by kernel_rfl) ?_
                    by_cases h37 : (c.v.maj : Int) = 0
                    · skip
                      refine s_dec (p := (c.v.maj : Int) = 0) true (by kernel_rfl) (fun _ => by kernel_rfl) (decide_eq_true (h37)) ?_
                      refine s_val (.bool true) (by kernel_rfl) (fun _ => by kernel_rfl) ?_
                      refine s_val (.bool true) (by kernel_rfl) (fun _ => by kernel_rfl) ?_
                      refine s_val (.pointer (some ⟨b1, 1, none⟩)) (by kernel_rfl) (fun _ => by kernel_rfl) ?_
                      refine s_load 0 ⟨b1, (coV c).cells, 26⟩ (off := 1) (.int .i64 c.parts) (by kernel_rfl) rfl (by kernel_rfl) (by kernel_rfl) (by kernel_rfl) ?_
                      by_cases h38 : (1 : Int) < c.parts
                      · skip
                        refine s_dec (p := (1 : Int) < c.parts) true (by kernel_rfl) (fun _ => by kernel_rfl) (decide_eq_true (h38)) ?_
                        refine s_val (.bool true) (by kernel_rfl) (fun _ => by kernel_rfl) ?_
                        refine s_skip (by kernel_rfl) ?_
                        refine s_skip (by kernel_rfl) ?_
                        refine s_skip (by kernel_rfl) ?_
                        refine s_skip (by kernel_rfl) ?_
                        refine s_val (.bool true) (by kernel_rfl) (fun _ => by kernel_rfl) ?_
                        refine s_val (.bool true) (by kernel_rfl) (fun _ => by kernel_rfl) ?_
                        refine s_val (.bool true) (by kernel_rfl) (fun _ => by kernel_rfl) ?_
                        refine s_val (.pointer (some ⟨b1, 1, none⟩)) (by kernel_rfl) (fun _ => by kernel_rfl) ?_
                        refine s_load 0 ⟨b1, (coV c).cells, 26⟩ (off := 1) (.int .i64 c.parts) (by kernel_rfl) rfl (by kernel_rfl) (by kernel_rfl) (by kernel_rfl) ?_
                        by_cases h39 : (2 : Int) < c.parts
                        · skip
                          refine s_dec (p := (2 : Int) < c.parts) true (by kernel_rfl) (fun _ => by kernel_rfl) (decide_eq_true (h39)) ?_
                          refine s_val (.bool true) (by kernel_rfl) (fun _ => by kernel_rfl) ?_
                          refine s_skip (by kernel_rfl) ?_
                          refine s_skip (by kernel_rfl) ?_
                          refine s_skip (by kernel_rfl) ?_
                          refine s_skip (by kernel_rfl) ?_
                          refine s_val (.bool true) (by kernel_rfl) (fun _ => by kernel_rfl) ?_
                          refine s_val (.bool true) (by kernel_rfl) (fun _ => by kernel_rfl) ?_
                          refine s_val (.bool true) (by kernel_rfl) (fun _ => by kernel_rfl) ?_
                          refine s_nil ?_
                          refine fin_seq ?_
                          refine ok_ret ?_
                          refine fin_ret (.bool true) Tryz.results16 (by kernel_rfl) ?_
                          exact fun w hO => ⟨by rw [Co.may_iff.2 ⟨by omega, by assumption, by assumption, by grind, by grind, by grind, by omega, by omega, by omega⟩], hO.below⟩
                        · skip
                          refine s_dec (p := (2 : Int) < c.parts) false (by kernel_rfl) (fun _ => by kernel_rfl) (decide_eq_false (h39)) ?_
                          refine s_val (.bool false) (by kernel_rfl) (fun _ => by kernel_rfl) ?_
                          refine s_val (.pointer (some ⟨b1, 2, none⟩)) (by kernel_rfl) (fun _ => by kernel_rfl) ?_
                          refine s_val (.pointer (some ⟨b1, 4, none⟩)) (by kernel_rfl) (fun _ => by kernel_rfl) ?_
                          refine s_load 0 ⟨b1, (coV c).cells, 26⟩ (off := 4) (.int .i64 c.v.pat) (by kernel_rfl) rfl (by kernel_rfl) (by kernel_rfl) (by kernel_rfl) ?_
                          by_cases h40 : (c.v.pat : Int) = 0
                          · skip
                            refine s_dec (p := (c.v.pat : Int) = 0) true (by kernel_rfl) (fun _ => by kernel_rfl) (decide_eq_true (h40)) ?_
                            refine s_val (.bool true) (by kernel_rfl) (fun _ => by kernel_rfl) ?_
                            refine s_val (.bool true) (by kernel_rfl) (fun _ => by kernel_rfl) ?_
                            refine s_val (.bool true) (by kernel_rfl) (fun _ => by kernel_rfl) ?_
                            refine s_nil ?_
                            refine fin_seq ?_
                            refine ok_ret ?_
                            refine fin_ret (.bool true) Tryz.results16 (by kernel_rfl) ?_
                            exact fun w hO => ⟨by rw [Co.may_iff.2 ⟨by omega, by assumption, by assumption, by grind, by grind, by grind, by omega, by omega, by omega⟩], hO.below⟩
                          · skip
                            refine s_dec (p := (c.v.pat : Int) = 0) false (by kernel_rfl) (fun _ => by kernel_rfl) (decide_eq_false (h40)) ?_
                            refine s_val (.bool false) (by kernel_rfl) (fun _ => by kernel_rfl) ?_
                            refine s_val (.bool false) (by kernel_rfl) (fun _ => by kernel_rfl) ?_
                            refine s_val (.bool false) (by kernel_rfl) (fun _ => by kernel_rfl) ?_
                            refine s_nil ?_
                            refine fin_seq ?_
                            refine ok_ret ?_
                            refine fin_ret (.bool false) Tryz.results16 (by kernel_rfl) ?_
                            exact fun w hO => ⟨by rw [show c.may = false from Bool.eq_false_iff.2 fun q0 => by have q1 := Co.may_iff.1 q0; grind], hO.below⟩
                      · skip
                        refine s_dec (p := (1 : Int) < c.parts) false (by kernel_rfl) (fun _ => by kernel_rfl) (decide_eq_false (h38)) ?_
                        refine s_val (.bool false) (by kernel_rfl) (fun _ => by kernel_rfl) ?_
                        refine s_val (.pointer (some ⟨b1, 2, none⟩)) (by kernel_rfl) (fun _ => by kernel_rfl) ?_
                        refine s_val (.pointer (some ⟨b1, 3, none⟩)) (by kernel_rfl) (fun _ => by kernel_rfl) ?_
                        refine s_load 0 ⟨b1, (coV c).cells, 26⟩ (off := 3) (.int .i64 c.v.min) (by kernel_rfl) rfl (by kernel_rfl) (by kernel_rfl) (by kernel_rfl) ?_
                        by_cases h41 : (c.v.min : Int) = 0
                        · skip
                          refine s_dec (p := (c.v.min : Int) = 0) true (by kernel_rfl) (fun _ => by kernel_rfl) (decide_eq_true (h41)) ?_
                          refine s_val (.bool true) (by kernel_rfl) (fun _ => by kernel_rfl) ?_
                          refine s_val (.bool true) (by kernel_rfl) (fun _ => by kernel_rfl) ?_
                          refine s_val (.bool true) (by kernel_rfl) (fun _ => by kernel_rfl) ?_
                          refine s_val (.pointer (some ⟨b1, 1, none⟩)) (by kernel_rfl) (fun _ => by kernel_rfl) ?_
                          refine s_load 0 ⟨b1, (coV c).cells, 26⟩ (off := 1) (.int .i64 c.parts) (by kernel_rfl) rfl (by kernel_rfl) (by kernel_rfl) (by kernel_rfl) ?_
                          by_cases h42 : (2 : Int) < c.parts
                          · skip
                            refine s_dec (p := (2 : Int) < c.parts) true (by kernel_rfl) (fun _ => by kernel_rfl) (decide_eq_true (h42)) ?_
                            refine s_val (.bool true) (by kernel_rfl) (fun _ => by kernel_rfl) ?_
                            refine s_skip (by kernel_rfl) ?_
                            refine s_skip (by kernel_rfl) ?_
                            refine s_skip (by kernel_rfl) ?_
                            refine s_skip (by kernel_rfl) ?_
                            refine s_val (.bool true) (by kernel_rfl) (fun _ => by kernel_rfl) ?_
                            refine s_val (.bool true) (by kernel_rfl) (fun _ => by kernel_rfl) ?_
                            refine s_val (.bool true) (by kernel_rfl) (fun _ => by kernel_rfl) ?_
                            refine s_nil ?_
                            refine fin_seq ?_
                            refine ok_ret ?_
                            refine fin_ret (.bool true) Tryz.results16 (by kernel_rfl) ?_
                            exact fun w hO => ⟨by rw [Co.may_iff.2 ⟨by omega, by assumption, by assumption, by grind, by grind, by grind, by omega, by omega, by omega⟩], hO.below⟩
                          · skip
                            refine s_dec (p := (2 : Int) < c.parts) false (by kernel_rfl) (fun _ => by kernel_rfl) (decide_eq_false (h42)) ?_
                            refine s_val (.bool false) (by kernel_rfl) (fun _ => by kernel_rfl) ?_
                            refine s_val (.pointer (some ⟨b1, 2, none⟩)) (by kernel_rfl) (fun _ => by kernel_rfl) ?_
                            refine s_val (.pointer (some ⟨b1, 4, none⟩)) (by kernel_rfl) (fun _ => by kernel_rfl) ?_
                            refine s_load 0 ⟨b1, (coV c).cells, 26⟩ (off := 4) (.int .i64 c.v.pat) (by kernel_rfl) rfl (by kernel_rfl) (by kernel_rfl) (by kernel_rfl) ?_
                            by_cases h43 : (c.v.pat : Int) = 0
                            · skip
                              refine s_dec (p := (c.v.pat : Int) = 0) true (by kernel_rfl) (fun _ => by kernel_rfl) (decide_eq_true (h43)) ?_
                              refine s_val (.bool true) (by kernel_rfl) (fun _ => by kernel_rfl) ?_
                              refine s_val (.bool true) (by kernel_rfl) (fun _ => by kernel_rfl) ?_
                              refine s_val (.bool true) (by kernel_rfl) (fun _ => by kernel_rfl) ?_
                              refine s_nil ?_
                              refine fin_seq ?_
                              refine ok_ret ?_
                              refine fin_ret (.bool true) Tryz.results16 (by kernel_rfl) ?_
                              exact fun w hO => ⟨by rw [Co.may_iff.2 ⟨by omega, by assumption, by assumption, by grind, by grind, by grind, by omega, by omega, by omega⟩], hO.below⟩
                            · skip
                              refine s_dec (p := (c.v.pat : Int) = 0) false (by kernel_rfl) (fun _ => by kernel_rfl) (decide_eq_false (h43)) ?_
                              refine s_val (.bool false) (by kernel_rfl) (fun _ => by kernel_rfl) ?_
                              refine s_val (.bool false) (by kernel_rfl) (fun _ => by kernel_rfl) ?_
                              refine s_val (.bool false) (by kernel_rfl) (fun _ => by kernel_rfl) ?_
                              refine s_nil ?_
                              refine fin_seq ?_
                              refine ok_ret ?_
                              refine fin_ret (.bool false) Tryz.results16 (by kernel_rfl) ?_
                              exact fun w hO => ⟨by rw [show c.may = false from Bool.eq_false_iff.2 fun q0 => by have q1 := Co.may_iff.1 q0; grind], hO.below⟩
                        · skip
                          refine s_dec (p := (c.v.min : Int) = 0) false (by kernel_rfl) (fun _ => by kernel_rfl) (decide_eq_false (h41)) ?_
                          refine s_val (.bool false) (by kernel_rfl) (fun _ => by kernel_rfl) ?_
                          refine s_val (.bool false) (by kernel_rfl) (fun _ => by kernel_rfl) ?_
                          refine s_val (.bool false) (by kernel_rfl) (fun _ => by kernel_rfl) ?_
                          refine s_skip (by kernel_rfl) ?_
                          refine s_skip (by kernel_rfl) ?_
                          refine s_skip (by kernel_rfl) ?_
                          refine s_skip (by kernel_rfl) ?_
                          refine s_skip (by kernel_rfl) ?_
                          refine s_skip (by kernel_rfl) ?_
                          refine s_skip (by kernel_rfl) ?_
                          refine s_skip (by kernel_rfl) ?_
                          refine s_skip (by kernel_rfl) ?_
                          refine s_val (.bool false) (by kernel_rfl) (fun _ => by kernel_rfl) ?_
                          refine s_val (.bool false) (by kernel_rfl) (fun _ => by kernel_rfl) ?_
                          refine s_nil ?_
                          refine fin_seq ?_
                          refine ok_ret ?_
                          refine fin_ret (.bool false) Tryz.results16 (by kernel_rfl) ?_
                          exact fun w hO => ⟨by rw [show c.may = false from Bool.eq_false_iff.2 fun q0 => by have q1 := Co.may_iff.1 q0; grind], hO.below⟩
                    · skip
                      refine s_dec (p := (c.v.maj : Int) = 0) false (by kernel_rfl) (fun _ => by kernel_rfl) (decide_eq_false (h37)) ?_
                      refine s_val (.bool false) (by kernel_rfl) (fun _ => by kernel_rfl) ?_
                      refine s_val (.bool false) (by kernel_rfl) (fun _ => by kernel_rfl) ?_
                      refine s_skip (by kernel_rfl) ?_
                      refine s_skip (by kernel_rfl) ?_
                      refine s_skip (by kernel_rfl) ?_
                      refine s_skip (by kernel_rfl) ?_
                      refine s_skip (by kernel_rfl) ?_
                      refine s_skip (by kernel_rfl) ?_
                      refine s_skip (by kernel_rfl) ?_
                      refine s_skip (by kernel_rfl) ?_
                      refine s_skip (by kernel_rfl) ?_
                      refine s_val (.bool false) (by kernel_rfl) (fun _ => by kernel_rfl) ?_
                      refine s_val (.bool false) (by kernel_rfl) (fun _ => by kernel_rfl) ?_
                      refine s_skip (by kernel_rfl) ?_
                      refine s_skip (by kernel_rfl) ?_
                      refine s_skip (by kernel_rfl) ?_
                      refine s_skip (by kernel_rfl) ?_
                      refine s_skip (by kernel_rfl) ?_
                      refine s_skip (by kernel_rfl) ?_
                      refine s_skip (by kernel_rfl) ?_
                      refine s_skip (by kernel_rfl) ?_
                      refine s_skip (by kernel_rfl) ?_
                      refine s_val (.bool false) (by kernel_rfl) (fun _ => by kernel_rfl) ?_
                      refine s_val (.bool false) (by kernel_rfl) (fun _ => by kernel_rfl) ?_
                      refine s_nil ?_
                      refine fin_seq ?_
                      refine ok_ret ?_
                      refine fin_ret (.bool false) Tryz.results16 (by kernel_rfl) ?_
                      exact fun w hO => ⟨by rw [show c.may = false from Bool.eq_false_iff.2 fun q0 => by have q1 := Co.may_iff.1 q0; grind], hO.below⟩
        · skip
          refine s_val (.bool true) (by kernel_rfl) (run_strneq (a := c.v.build) (b := ([])) rfl (by kernel_rfl) (by kernel_rfl) (decide_eq_false (h4))) ?_
          refine s_val (.bool true) (by kernel_rfl) (fun _ => by kernel_rfl) ?_
          refine s_nil ?_
          refine fin_seq ?_
          refine ok_true (by kernel_rfl) ?_
          refine ok_seq ?_
          refine ok_region ?_
          refine s_val (.bool false) (by kernel_rfl) (fun _ => by kernel_rfl) ?_
          refine s_nil ?_
          refine fin_seq ?_
          refine ok_ret ?_
          refine fin_seq_ret ?_
          refine fin_ret (.bool false) Tryz.results16 (by kernel_rfl) ?_
          exact fun w hO => ⟨by rw [show c.may = false from Bool.eq_false_iff.2 fun q0 => by have q1 := Co.may_iff.1 q0; grind], hO.below⟩
      | false =>
        refine s_val (.bool true) (by kernel_rfl) (fun _ => by kernel_rfl) ?_
        refine s_val (.bool true) (by kernel_rfl) (fun _ => by kernel_rfl) ?_
        refine s_val (.bool true) (by kernel_rfl) (fun _ => by kernel_rfl) ?_
        refine s_skip (by kernel_rfl) ?_
        refine s_skip (by kernel_rfl) ?_
        refine s_skip (by kernel_rfl) ?_
        refine s_skip (by kernel_rfl) ?_
        refine s_val (.bool true) (by kernel_rfl) (fun _ => by kernel_rfl) ?_
        refine s_nil ?_
        refine fin_seq ?_
        refine ok_true (by kernel_rfl) ?_
        refine ok_seq ?_
        refine ok_region ?_
        refine s_val (.bool false) (by kernel_rfl) (fun _ => by kernel_rfl) ?_
        refine s_nil ?_
        refine fin_seq ?_
        refine ok_ret ?_
        refine fin_seq_ret ?_
        refine fin_ret (.bool false) Tryz.results16 (by kernel_rfl) ?_
        exact fun w hO => ⟨by rw [show c.may = false from Bool.eq_false_iff.2 fun q0 => by have q1 := Co.may_iff.1 q0; grind], hO.below⟩
theorem rcsign_any (op : Int) (W : World) : Calls Tryz.prog 51 #[.int .i64 op] W fun e w' => e = .returned (.string (mkS (signL op))) ∧ Below W.heap.size W w' := by
  refine calls_ok (n := 20) Tryz.func51 rfl (by kernel_rfl) (by kernel_rfl) ?_
  refine ok_seq ?_
  refine ok_region ?_
  refine s_val (.string ⟨#[]⟩) (by kernel_rfl) (fun _ => by kernel_rfl) ?_
  refine s_nil ?_
  refine fin_seq ?_
  refine ok_seq ?_
  refine ok_seq ?_
  refine ok_region ?_
  refine s_val (.int .i64 op) (by kernel_rfl) (fun _ => by kernel_rfl) ?_
  refine s_nil ?_
  refine fin_seq ?_
  refine ok_block ?_
  refine ok_seq ?_
  refine ok_region ?_
  by_cases h1 : (op : Int) = 1
  · skip
    refine s_dec (p := (op : Int) = 1) true (by kernel_rfl) (fun _ => by kernel_rfl) (decide_eq_true (h1)) ?_
    refine s_val (.bool true) (by kernel_rfl) (fun _ => by kernel_rfl) ?_
    refine s_nil ?_
    refine fin_seq ?_
    refine ok_true (by kernel_rfl) ?_
    refine ok_seq ?_
    refine ok_region ?_
    refine s_val (.string ⟨#[61]⟩) (by kernel_rfl) (fun _ => by kernel_rfl) ?_
    refine s_nil ?_
    refine fin_seq ?_
    refine ok_ret ?_
    refine fin_block_ret ?_
    refine fin_seq_ret ?_
    refine fin_ret (.string ⟨#[61]⟩) Tryz.results51 (by kernel_rfl) ?_
    exact fun w hO => ⟨by unfold signL; simp [h1]; rfl, hO.below⟩
  · skip
    refine s_dec (p := (op : Int) = 1) false (by kernel_rfl) (fun _ => by kernel_rfl) (decide_eq_false (h1)) ?_
    refine s_val (.bool false) (by kernel_rfl) (fun _ => by kernel_rfl) ?_
    refine s_nil ?_
    refine fin_seq ?_
    refine ok_false (by kernel_rfl) ?_
    refine ok_seq ?_
    refine ok_region ?_
    by_cases h2 : (op : Int) = 2
    · skip
      refine s_dec (p := (op : Int) = 2) true (by kernel_rfl) (fun _ => by kernel_rfl) (decide_eq_true (h2)) ?_
      refine s_val (.bool true) (by kernel_rfl) (fun _ => by kernel_rfl) ?_
      refine s_nil ?_
      refine fin_seq ?_
      refine ok_true (by kernel_rfl) ?_
      refine ok_seq ?_
      refine ok_region ?_
      refine s_val (.string ⟨#[33, 61]⟩) (by kernel_rfl) (fun _ => by kernel_rfl) ?_
      refine s_nil ?_
      refine fin_seq ?_
      refine ok_ret ?_
      refine fin_block_ret ?_
      refine fin_seq_ret ?_
      refine fin_ret (.string ⟨#[33, 61]⟩) Tryz.results51 (by kernel_rfl) ?_
      exact fun w hO => ⟨by unfold signL; simp [h1, h2]; rfl, hO.below⟩
    · skip
      refine s_dec (p := (op : Int) = 2) false (by kernel_rfl) (fun _ => by kernel_rfl) (decide_eq_false (h2)) ?_
      refine s_val (.bool false) (by kernel_rfl) (fun _ => by kernel_rfl) ?_
      refine s_nil ?_
      refine fin_seq ?_
      refine ok_false (by kernel_rfl) ?_
      refine ok_seq ?_
      refine ok_region ?_
      by_cases h3 : (op : Int) = 3
      · skip
        refine s_dec (p := (op : Int) = 3) true (by kernel_rfl) (fun _ => by kernel_rfl) (decide_eq_true (h3)) ?_
        refine s_val (.bool true) (by kernel_rfl) (fun _ => by kernel_rfl) ?_
        refine s_nil ?_
        refine fin_seq ?_
        refine ok_true (by kernel_rfl) ?_
        refine ok_seq ?_
        refine ok_region ?_
        refine s_val (.string ⟨#[60]⟩) (by kernel_rfl) (fun _ => by kernel_rfl) ?_
        refine s_nil ?_
        refine fin_seq ?_
        refine ok_ret ?_
        refine fin_block_ret ?_
        refine fin_seq_ret ?_
        refine fin_ret (.string ⟨#[60]⟩) Tryz.results51 (by kernel_rfl) ?_
        exact fun w hO => ⟨by unfold signL; simp [h1, h2, h3]; rfl, hO.below⟩
      · skip
        refine s_dec (p := (op : Int) = 3) false (by kernel_rfl) (fun _ => by kernel_rfl) (decide_eq_false (h3)) ?_
        refine s_val (.bool false) (by kernel_rfl) (fun _ => by kernel_rfl) ?_
        refine s_nil ?_
        refine fin_seq ?_
        refine ok_false (by kernel_rfl) ?_
        refine ok_seq ?_
        refine ok_region ?_
        by_cases h4 : (op : Int) = 4
        · skip
          refine s_dec (p := (op : Int) = 4) true (by kernel_rfl) (fun _ => by kernel_rfl) (decide_eq_true (h4)) ?_
          refine s_val (.bool true) (by kernel_rfl) (fun _ => by kernel_rfl) ?_
          refine s_nil ?_
          refine fin_seq ?_
          refine ok_true (by kernel_rfl) ?_
          refine ok_seq ?_
          refine ok_region ?_
          refine s_val (.string ⟨#[60, 61]⟩) (by kernel_rfl) (fun _ => by kernel_rfl) ?_
          refine s_nil ?_
          refine fin_seq ?_
          refine ok_ret ?_
          refine fin_block_ret ?_
          refine fin_seq_ret ?_
          refine fin_ret (.string ⟨#[60, 61]⟩) Tryz.results51 (by kernel_rfl) ?_
          exact fun w hO => ⟨by unfold signL; simp [h1, h2, h3, h4]; rfl, hO.below⟩
        · skip
          refine s_dec (p := (op : Int) = 4) false (by kernel_rfl) (fun _ => by kernel_rfl) (decide_eq_false (h4)) ?_
          refine s_val (.bool false) (by kernel_rfl) (fun _ => by kernel_rfl) ?_
          refine s_nil ?_
          refine fin_seq ?_
          refine ok_false (by kernel_rfl) ?_
          refine ok_seq ?_
          refine ok_region ?_
          by_cases h5 : (op : Int) = 5
          · skip
            refine s_dec (p := (op : Int) = 5) true (by kernel_rfl) (fun _ => by kernel_rfl) (decide_eq_true (h5)) ?_
            refine s_val (.bool true) (by kernel_rfl) (fun _ => by kernel_rfl) ?_
            refine s_nil ?_
            refine fin_seq ?_
            refine ok_true (by kernel_rfl) ?_
            refine ok_seq ?_
            refine ok_region ?_
            refine s_val (.string ⟨#[62]⟩) (by kernel_rfl) (fun _ => by kernel_rfl) ?_
            refine s_nil ?_
            refine fin_seq ?_
            refine ok_ret ?_
            refine fin_block_ret ?_
            refine fin_seq_ret ?_
            refine fin_ret (.string ⟨#[62]⟩) Tryz.results51 (by kernel_rfl) ?_
            exact fun w hO => ⟨by unfold signL; simp [h1, h2, h3, h4, h5]; rfl, hO.below⟩
          · skip
            refine s_dec (p := (op : Int) = 5) false (by kernel_rfl) (fun _ => by kernel_rfl) (decide_eq_false (h5)) ?_
            refine s_val (.bool false) (by kernel_rfl) (fun _ => by kernel_rfl) ?_
            refine s_nil ?_
            refine fin_seq ?_
            refine ok_false (by kernel_rfl) ?_
            refine ok_seq ?_
            refine ok_region ?_
            by_cases h6 : (op : Int) = 6
            · skip
              refine s_dec (p := (op : Int) = 6) true (by kernel_rfl) (fun _ => by kernel_rfl) (decide_eq_true (h6)) ?_
              refine s_val (.bool true) (by kernel_rfl) (fun _ => by kernel_rfl) ?_
              refine s_nil ?_
              refine fin_seq ?_
              refine ok_true (by kernel_rfl) ?_
              refine ok_seq ?_
              refine ok_region ?_
              refine s_val (.string ⟨#[62, 61]⟩) (by kernel_rfl) (fun _ => by kernel_rfl) ?_
              refine s_nil ?_
              refine fin_seq ?_
              refine ok_ret ?_
              refine fin_block_ret ?_
              refine fin_seq_ret ?_
              refine fin_ret (.string ⟨#[62, 61]⟩) Tryz.results51 (by kernel_rfl) ?_
              exact fun w hO => ⟨by unfold signL; simp [h1, h2, h3, h4, h5, h6]; rfl, hO.below⟩
            · skip
              refine s_dec (p := (op : Int) = 6) false (by kernel_rfl) (fun _ => by kernel_rfl) (decide_eq_false (h6)) ?_
              refine s_val (.bool false) (by kernel_rfl) (fun _ => by kernel_rfl) ?_
              refine s_nil ?_
              refine fin_seq ?_
              refine ok_false (by kernel_rfl) ?_
              refine ok_seq ?_
              refine ok_region ?_
              by_cases h7 : (op : Int) = 7
              · skip
                refine s_dec (p := (op : Int) = 7) true (by kernel_rfl) (fun _ => by kernel_rfl) (decide_eq_true (h7)) ?_
                refine s_val (.bool true) (by kernel_rfl) (fun _ => by kernel_rfl) ?_
                refine s_nil ?_
                refine fin_seq ?_
                refine ok_true (by kernel_rfl) ?_
                refine ok_seq ?_
                refine ok_region ?_
                refine s_val (.string ⟨#[94]⟩) (by kernel_rfl) (fun _ => by kernel_rfl) ?_
                refine s_nil ?_
                refine fin_seq ?_
                refine ok_ret ?_
                refine fin_block_ret ?_
                refine fin_seq_ret ?_
                refine fin_ret (.string ⟨#[94]⟩) Tryz.results51 (by kernel_rfl) ?_
                exact fun w hO => ⟨by unfold signL; simp [h1, h2, h3, h4, h5, h6, h7]; rfl, hO.below⟩
              · skip
                refine s_dec (p := (op : Int) = 7) false (by kernel_rfl) (fun _ => by kernel_rfl) (decide_eq_false (h7)) ?_
                refine s_val (.bool false) (by kernel_rfl) (fun _ => by kernel_rfl) ?_
                refine s_nil ?_
                refine fin_seq ?_
                refine ok_false (by kernel_rfl) ?_
                refine ok_seq ?_
                refine ok_region ?_
                by_cases h8 : (op : Int) = 8
                · skip
                  refine s_dec (p := (op : Int) = 8) true (by kernel_rfl) (fun _ => by kernel_rfl) (decide_eq_true (h8)) ?_
                  refine s_val (.bool true) (by kernel_rfl) (fun _ => by kernel_rfl) ?_
                  refine s_nil ?_
                  refine fin_seq ?_
                  refine ok_true (by kernel_rfl) ?_
                  refine ok_seq ?_
                  refine ok_region ?_
                  refine s_val (.string ⟨#[126]⟩) (by kernel_rfl) (fun _ => by kernel_rfl) ?_
                  refine s_nil ?_
                  refine fin_seq ?_
                  refine ok_ret ?_
                  refine fin_block_ret ?_
                  refine fin_seq_ret ?_
                  refine fin_ret (.string ⟨#[126]⟩) Tryz.results51 (by kernel_rfl) ?_
                  exact fun w hO => ⟨by unfold signL; simp [h1, h2, h3, h4, h5, h6, h7, h8]; rfl, hO.below⟩
                · skip
                  refine s_dec (p := (op : Int) = 8) false (by kernel_rfl) (fun _ => by kernel_rfl) (decide_eq_false (h8)) ?_
                  refine s_val (.bool false) (by kernel_rfl) (fun _ => by kernel_rfl) ?_
                  refine s_nil ?_
                  refine fin_seq ?_
                  refine ok_false (by kernel_rfl) ?_
                  refine ok_skip ?_
                  refine fin_block ?_
                  refine fin_seq ?_
                  refine ok_seq ?_
                  refine ok_region ?_
                  refine s_val (.string ⟨#[]⟩) (by kernel_rfl) (fun _ => by kernel_rfl) ?_
                  refine s_nil ?_
                  refine fin_seq ?_
                  refine ok_ret ?_
                  refine fin_ret (.string ⟨#[]⟩) Tryz.results51 (by kernel_rfl) ?_
                  exact fun w hO => ⟨by unfold signL; simp [h1, h2, h3, h4, h5, h6, h7, h8]; rfl, hO.below⟩
theorem rcbegins_any (s t : List UInt8) (W : World) : Calls Tryz.prog 74 #[.string (mkS s), .string (mkS t)] W fun e w' => e = .returned (.bool (beginsL s t)) ∧ Below W.heap.size W w' := by
  have hs := mkS_sz s
  have ht := mkS_sz t
  refine calls_ok (n := 18) Tryz.func74 rfl (by kernel_rfl) (by kernel_rfl) ?_
  refine ok_seq ?_
  refine ok_region ?_
  refine s_val (.bool false) (by kernel_rfl) (fun _ => by kernel_rfl) ?_
  refine s_nil ?_
  refine fin_seq ?_
  refine ok_seq ?_
  refine ok_region ?_
  refine s_val (.string (mkS s)) (by kernel_rfl) (fun _ => by kernel_rfl) ?_
  refine s_val (.int .i64 ((mkS s).size)) (by kernel_rfl) (fun _ => by kernel_rfl) ?_
  refine s_val (.string (mkS t)) (by kernel_rfl) (fun _ => by kernel_rfl) ?_
  refine s_val (.int .i64 ((mkS t).size)) (by kernel_rfl) (fun _ => by kernel_rfl) ?_
  by_cases h1 : ((mkS t).size : Int) ≤ (mkS s).size
  · skip
    refine s_dec (p := ((mkS t).size : Int) ≤ (mkS s).size) true (by kernel_rfl) (fun _ => by kernel_rfl) (decide_eq_true (h1)) ?_
    refine s_val (.bool true) (by kernel_rfl) (fun _ => by kernel_rfl) ?_
    refine s_val (.string (mkS s)) (by kernel_rfl) (fun _ => by kernel_rfl) ?_
    refine s_val (.string (mkS t)) (by kernel_rfl) (fun _ => by kernel_rfl) ?_
    refine s_val (.int .i64 ((mkS t).size)) (by kernel_rfl) (fun _ => by kernel_rfl) ?_
    refine s_val (.string (mkS (s.take (mkS t).size))) (by kernel_rfl) (run_strhi (s := s) (k := .i64) (j := ((mkS t).size : Int)) rfl (by kernel_rfl) (by kernel_rfl) Tryz.underlying9 (by omega) (by omega)) ?_
    refine s_val (.string (mkS t)) (by kernel_rfl) (fun _ => by kernel_rfl) ?_
    by_cases h2 : ((s.take (mkS t).size) : List UInt8) = t
    · skip
      refine s_val (.bool true) (by kernel_rfl) (run_streql (a := (s.take (mkS t).size)) (b := t) rfl (by kernel_rfl) (by kernel_rfl) (decide_eq_true (h2))) ?_
      refine s_val (.bool true) (by kernel_rfl) (fun _ => by kernel_rfl) ?_
      refine s_val (.bool true) (by kernel_rfl) (fun _ => by kernel_rfl) ?_
      refine s_nil ?_
      refine fin_seq ?_
      refine ok_ret ?_
      refine fin_ret (.bool true) Tryz.results74 (by kernel_rfl) ?_
      exact fun w hO => ⟨by rw [show beginsL s t = true from decide_eq_true (by rw [← ht]; assumption)], hO.below⟩
    · skip
      refine s_val (.bool false) (by kernel_rfl) (run_streql (a := (s.take (mkS t).size)) (b := t) rfl (by kernel_rfl) (by kernel_rfl) (decide_eq_false (h2))) ?_
      refine s_val (.bool false) (by kernel_rfl) (fun _ => by kernel_rfl) ?_
      refine s_val (.bool false) (by kernel_rfl) (fun _ => by kernel_rfl) ?_
      refine s_nil ?_
      refine fin_seq ?_
      refine ok_ret ?_
      refine fin_ret (.bool false) Tryz.results74 (by kernel_rfl) ?_
      exact fun w hO => ⟨by rw [show beginsL s t = false from decide_eq_false (by rw [← ht]; assumption)], hO.below⟩
  · skip
    refine s_dec (p := ((mkS t).size : Int) ≤ (mkS s).size) false (by kernel_rfl) (fun _ => by kernel_rfl) (decide_eq_false (h1)) ?_
    refine s_val (.bool false) (by kernel_rfl) (fun _ => by kernel_rfl) ?_
    refine s_skip (by kernel_rfl) ?_
    refine s_skip (by kernel_rfl) ?_
    refine s_skip (by kernel_rfl) ?_
    refine s_skip (by kernel_rfl) ?_
    refine s_skip (by kernel_rfl) ?_
    refine s_skip (by kernel_rfl) ?_
    refine s_val (.bool false) (by kernel_rfl) (fun _ => by kernel_rfl) ?_
    refine s_val (.bool false) (by kernel_rfl) (fun _ => by kernel_rfl) ?_
    refine s_nil ?_
    refine fin_seq ?_
    refine ok_ret ?_
    refine fin_ret (.bool false) Tryz.results74 (by kernel_rfl) ?_
    exact fun w hO => ⟨by rw [show beginsL s t = false from decide_eq_false fun q0 => by have q1 := congrArg List.length q0; rw [List.length_take] at q1; omega], hO.below⟩
end Go.Proofs.YtjabcbagggicaaaGreatDoor
end

section
/-
  linchpinref6: Zone, Region: what they return for comparators whose strings have at most a million bytes; nothing that was there is changed.
-/
namespace Go.Proofs.YtjabcbagggicaaaGreatDoor
open Go.RowKit
set_option maxRecDepth 100000
set_option linter.unusedVariables false
set_option linter.unusedSimpArgs false
set_option maxHeartbeats 2000000

theorem slit6 (s : Sp) (b : Nat) (cur : Array Value) (h : cur.toList = spanC s) : SlS (.slice (some ⟨b, 0, none⟩) 1 1) [s] [⟨b, cur, 50⟩] := by
  have e : ([s] : List Sp).flatMap spanC = spanC s := List.append_nil _
  have hc : cur.toList.length = 14 := by rw [h]; rfl
  refine ⟨by rw [e]; rfl, .inr ⟨b, 1, cur, rfl, rfl, Nat.le_refl _, by decide, by rw [← Array.length_toList, hc], ?_⟩⟩
  rw [e, h]
  exact List.take_of_length_le (Nat.le_refl 14)
theorem high_short (v : Ver) (k : Nat) : (highC v k).short := by
  induction k with
  | zero =>
    unfold highC
    split
    · exact bump_short v 0
    · exact ⟨Nat.zero_le _, Nat.zero_le _⟩
  | succ k ih =>
    unfold highC
    split
    · exact bump_short v _
    · exact ih
theorem span_short {c : Co} (h : c.short) : c.span.1.short ∧ c.span.2.short := by
  have hl : c.low.short := core_short h
  have he : ∀ e : Int, (endC e).short := fun e => ⟨Nat.zero_le _, Nat.zero_le _⟩
  have ha : c.aft.short := by
    unfold Co.aft
    split
    · exact high_short _ _
    · exact core_short h
  have hh := fun k => high_short c.v k
  unfold Co.span
  repeat' split
  all_goals exact ⟨by first | exact hl | exact ha | exact he _ | exact hh _, by first | exact hl | exact ha | exact he _ | exact hh _⟩
theorem oneRow_cases (lo hi : Cu) : oneRow lo hi = if cmpC lo hi < 0 then [⟨lo, hi⟩] else [] := by
  unfold oneRow addL
  by_cases h : cmpC lo hi < 0
  · rw [if_pos (sp_may_of h), if_pos h]; rfl
  · rw [if_neg (fun q => h (sp_lt q)), if_neg h]
end Go.Proofs.YtjabcbagggicaaaGreatDoor
end

section
/-
  The document's own answer for chapter 2 (linchpinref2): place, three, Numbers and Print. Conditions: strings of at most a million bytes.
-/
namespace Go.Proofs.YtjabcbagggicaaaGreatDoor
open Go.RowKit

def triV (l : List (List UInt8)) : Ver := if l.length = 3 then ⟨numD (tg l 0), numD (tg l 1), numD (tg l 2), [], []⟩ else Ver.zero
def triB (l : List (List UInt8)) : Bool := decide (l.length = 3) && (numI (tg l 0) && numI (tg l 1) && numI (tg l 2))
theorem rdigits_mk (n : Int) (h : numOkI n = true) (w : World) :
    Calls Tryz.prog 85 #[.int .i64 n] w fun e w' => e = .returned (.string (mkS (Lib.itoa n))) ∧ Below w.heap.size w w' := by
  unfold numOkI at h; simp at h
  exact rdigits_any n (by omega) (by omega) w
end Go.Proofs.YtjabcbagggicaaaGreatDoor
end

section
/-
  linchpinref6: told, Print, split, numbers, pre, Parse: what they return for strings of at most a million bytes; nothing that was there is changed.
-/
namespace Go.Proofs.YtjabcbagggicaaaGreatDoor
open Go.RowKit
set_option maxRecDepth 100000
set_option linter.unusedVariables false
set_option linter.unusedSimpArgs false
set_option maxHeartbeats 2000000

theorem signL_len (op : Int) : (signL op).length ≤ 2 := by
  unfold signL
  repeat' split
  all_goals decide
theorem join_len (b : UInt8) (m : Nat) : ∀ (l : List (List UInt8)), (∀ x ∈ l, x.length ≤ m) → (joinL b l).length ≤ l.length * (m + 1)
  | [], _ => by simp [joinL]
  | [x], h => by
    have := h x (List.mem_singleton.2 rfl)
    simp [joinL]; omega
  | x :: y :: r, h => by
    have h1 := h x (List.mem_cons_self ..)
    have h2 := join_len b m (y :: r) fun z hz => h z (List.mem_cons_of_mem _ hz)
    rw [joinL, List.length_append, List.length_cons]
    simp only [List.length_cons, Nat.add_mul] at h2 ⊢
    omega
theorem nums_len9 {v : Ver} (hv : v.may = true) {n : Nat} : ∀ x ∈ numsN v n, x.length ≤ 21 := fun x hx => by
  obtain ⟨k, hk, rfl⟩ := nums_mem hv hx
  have := itoa_len hk
  omega
theorem numsN_le (v : Ver) (n : Nat) : (numsN v n).length ≤ 3 := by unfold numsN; rw [List.length_take]; simp; omega
theorem njoin_len {v : Ver} (hv : v.may = true) (n : Nat) : (joinL 46 (numsN v n)).length ≤ 100 := by
  have h := join_len 46 21 (numsN v n) (nums_len9 hv)
  have := numsN_le v n
  omega
theorem sjoin_len {v : Ver} (hv : v.may = true) (n : Nat) : (joinL 46 (numsN v n ++ [[42]])).length ≤ 200 := by
  have h := join_len 46 21 (numsN v n ++ [[42]]) (fun x hx => by
    rcases List.mem_append.1 hx with hx | hx
    · exact nums_len9 hv x hx
    · rw [List.mem_singleton.1 hx]; decide)
  have := numsN_le v n
  rw [List.length_append] at h
  simp at h; omega
def toldC (v : Ver) : Array Value := #[.string (mkS (Lib.itoa v.maj)), .string (mkS (Lib.itoa v.min)), .string (mkS (Lib.itoa v.pat))]
theorem told_take (v : Ver) {n : Nat} (h : n ≤ 3) : (toldC v).toList.take (n * 1) = strV (numsN v n) := by
  rw [Nat.mul_one]
  unfold strV numsN
  rw [List.map_take]; rfl
theorem told_slt (v : Ver) {n : Nat} (h : n ≤ 3) (g : Nat) : SlT (.slice (some ⟨g, 0, none⟩) n 3) (numsN v n) [⟨g, toldC v, 9⟩] := by
  have e := numsN_len v h
  refine ⟨by rw [strV_length, e]; omega, .inr ⟨g, 3, toldC v, by rw [e], rfl, by rw [e]; exact h, by decide, rfl, ?_⟩⟩
  rw [e]; exact told_take v h
theorem strInfo : (Tryz.prog.info? 9).map (fun i => (i.zero.map (·.cells.size), i.size, i.bytes)) = some (some 1, 1, 16) := by kernel_rfl
theorem str_info : ∃ i z, Tryz.prog.info? 9 = some i ∧ i.zero = some z ∧ i.size = 1 ∧ z.cells.size = 1 ∧ i.bytes = 16 := by
  have h := strInfo
  cases hi : Tryz.prog.info? 9 with
  | none => rw [hi] at h; cases h
  | some i =>
    rw [hi] at h
    simp only [Option.map_some, Option.some.injEq, Prod.mk.injEq] at h
    cases hz : i.zero with
    | none => rw [hz] at h; simp at h
    | some z => rw [hz] at h; simp at h; exact ⟨i, z, rfl, hz, h.2.1, h.1, h.2.2⟩
theorem parts_nat {c : Co} (h : c.may = true) : ((c.parts.toNat : Nat) : Int) = c.parts ∧ c.parts.toNat ≤ 3 := by
  obtain ⟨_, _, _, h9, hn, _⟩ := Co.facts h
  by_cases e : c.op = 9
  · have := h9 e; omega
  · have := hn e; omega
theorem star_text {c : Co} (h9 : c.op = 9) : joinL 46 (numsN c.v c.parts.toNat ++ [[42]]) = c.text := by
  unfold Co.text Co.rest
  rw [h9, if_pos rfl]; rfl
theorem text_pre {c : Co} (h9 : ¬ c.op = 9) (hp : ¬ c.v.pre = []) : signL c.op ++ joinL 46 (numsN c.v c.parts.toNat) ++ [45] ++ c.v.pre = c.text := by
  unfold Co.text Co.rest tailS
  rw [if_neg h9]
  cases hq : c.v.pre with
  | nil => exact absurd hq hp
  | cons a r => simp
theorem text_bare {c : Co} (h9 : ¬ c.op = 9) (hp : c.v.pre = []) : signL c.op ++ joinL 46 (numsN c.v c.parts.toNat) = c.text := by
  unfold Co.text Co.rest tailS
  rw [if_neg h9, hp]; simp
theorem rctold_any (c : Co) (W : World) (hc : c.short) (hm : c.may = true) : Calls Tryz.prog 49 #[coV c] W fun e w' => ∃ v' ob', e = .returned v' ∧ (∃ g, v' = .slice (some ⟨g, 0, none⟩) c.parts.toNat 3 ∧ ob' = [⟨g, toldC c.v, 9⟩]) ∧ Own [] W w' ob' := by
  obtain ⟨m1, m2, m3⟩ := may_nums (Co.facts hm).2.1
  have hpn := parts_nat hm
  refine calls_ok (n := 21) Tryz.func49 rfl (by kernel_rfl) (by kernel_rfl) ?_
  refine ok_seq ?_
  refine ok_region ?_
  refine s_box (coV c) (by kernel_rfl) rfl (by kernel_rfl) (fun b1 => ?_)
  refine s_val (.slice none 0 0) (by kernel_rfl) (fun _ => by kernel_rfl) ?_
  refine s_nil ?_
  refine fin_seq ?_
  refine ok_seq ?_
  refine ok_anyh (by kernel_rfl) ?_
  refine h_take 0 [] _ (.pointer (some ⟨b1, 2, none⟩)) rfl (by kernel_rfl) (by kernel_rfl) (by kernel_rfl) (pq_seq pq_body) (by kernel_rfl) (fun _ _ => by kernel_rfl) ?_
  refine h_take 1 [] _ (.pointer (some ⟨b1, 2, none⟩)) rfl (by kernel_rfl) (by kernel_rfl) (by kernel_rfl) (pq_seq pq_body) (by kernel_rfl) (fun _ _ => by kernel_rfl) ?_
  refine h_load 2 [] _ 0 ⟨b1, (coV c).cells, 26⟩ (off := 2) (.int .i64 c.v.maj) rfl (by kernel_rfl) (by kernel_rfl) (by kernel_rfl) (pq_seq pq_body) (by kernel_rfl) rfl (by kernel_rfl) (by kernel_rfl) (by kernel_rfl) ?_
  refine h_take 4 [] _ (.pointer (some ⟨b1, 2, none⟩)) rfl (by kernel_rfl) (by kernel_rfl) (by kernel_rfl) (pq_seq pq_body) (by kernel_rfl) (fun _ _ => by kernel_rfl) ?_
  refine h_take 5 [] _ (.pointer (some ⟨b1, 3, none⟩)) rfl (by kernel_rfl) (by kernel_rfl) (by kernel_rfl) (pq_seq pq_body) (by kernel_rfl) (fun _ _ => by kernel_rfl) ?_
  refine h_load 6 [] _ 0 ⟨b1, (coV c).cells, 26⟩ (off := 3) (.int .i64 c.v.min) rfl (by kernel_rfl) (by kernel_rfl) (by kernel_rfl) (pq_seq pq_body) (by kernel_rfl) rfl (by kernel_rfl) (by kernel_rfl) (by kernel_rfl) ?_
  refine h_take 8 [] _ (.pointer (some ⟨b1, 2, none⟩)) rfl (by kernel_rfl) (by kernel_rfl) (by kernel_rfl) (pq_seq pq_body) (by kernel_rfl) (fun _ _ => by kernel_rfl) ?_
  refine h_take 9 [] _ (.pointer (some ⟨b1, 4, none⟩)) rfl (by kernel_rfl) (by kernel_rfl) (by kernel_rfl) (pq_seq pq_body) (by kernel_rfl) (fun _ _ => by kernel_rfl) ?_
  refine h_load 10 [] _ 0 ⟨b1, (coV c).cells, 26⟩ (off := 4) (.int .i64 c.v.pat) rfl (by kernel_rfl) (by kernel_rfl) (by kernel_rfl) (pq_seq pq_body) (by kernel_rfl) rfl (by kernel_rfl) (by kernel_rfl) (by kernel_rfl) ?_
  refine h_one 3 (by kernel_rfl) ?_
  refine hs_call [] _ (k := 85) (args := #[.int .i64 c.v.maj]) (.string (mkS (Lib.itoa c.v.maj))) rfl (by kernel_rfl) (fun _ => by kernel_rfl) (fun w _ => rdigits_mk c.v.maj m1 w) ?_
  refine h_one 7 (by kernel_rfl) ?_
  refine hs_call [] _ (k := 85) (args := #[.int .i64 c.v.min]) (.string (mkS (Lib.itoa c.v.min))) rfl (by kernel_rfl) (fun _ => by kernel_rfl) (fun w _ => rdigits_mk c.v.min m2 w) ?_
  refine h_one 11 (by kernel_rfl) ?_
  refine hs_call [] _ (k := 85) (args := #[.int .i64 c.v.pat]) (.string (mkS (Lib.itoa c.v.pat))) rfl (by kernel_rfl) (fun _ => by kernel_rfl) (fun w _ => rdigits_mk c.v.pat m3 w) ?_
  refine h_one 12 (by kernel_rfl) ?_
  refine hl_lit _ 9 #[.string (mkS (Lib.itoa c.v.maj)), .string (mkS (Lib.itoa c.v.min)), .string (mkS (Lib.itoa c.v.pat))] rfl (by kernel_rfl) rfl (fun w hO => Own.sub [] hO) (fun _ => by kernel_rfl) (fun b2 => ?_)
  refine h_take 13 [⟨b2, #[.string (mkS (Lib.itoa c.v.maj)), .string (mkS (Lib.itoa c.v.min)), .string (mkS (Lib.itoa c.v.pat))], 9⟩] _ (.slice (some ⟨b2, 0, none⟩) 3 3) rfl (by kernel_rfl) (by kernel_rfl) (by kernel_rfl) (pq_seq pq_body) (by kernel_rfl) (fun _ _ => by kernel_rfl) ?_
  refine h_done (by kernel_rfl) ?_
  refine fin_seq ?_
  refine ok_seq ?_
  refine ok_region ?_
  refine s_val (.slice (some ⟨b2, 0, none⟩) 3 3) (by kernel_rfl) (fun _ => by kernel_rfl) ?_
  refine s_val (.pointer (some ⟨b1, 1, none⟩)) (by kernel_rfl) (fun _ => by kernel_rfl) ?_
  refine s_load 1 ⟨b1, (coV c).cells, 26⟩ (off := 1) (.int .i64 c.parts) (by kernel_rfl) rfl (by kernel_rfl) (by kernel_rfl) (by kernel_rfl) ?_
  refine s_val (.slice (some ⟨b2, 0, none⟩) c.parts.toNat 3) (by kernel_rfl) (run_slhi (b := b2) (off := 0) (n := 3) (c := 3) (k := .i64) (j := c.parts) (e := 9) (sz := 1) rfl (by kernel_rfl) (by kernel_rfl) (by kernel_rfl) (by kernel_rfl) (by omega) (by omega)) ?_
  refine s_val (.slice (some ⟨b2, 0, none⟩) c.parts.toNat 3) (by kernel_rfl) (fun _ => by kernel_rfl) ?_
  refine s_nil ?_
  refine fin_seq ?_
  refine ok_ret ?_
  refine fin_ret (.slice (some ⟨b2, 0, none⟩) c.parts.toNat 3) Tryz.results49 (by kernel_rfl) ?_
  exact fun w hO => ⟨_, _, rfl, ⟨_, rfl, rfl⟩, hO.sublist (List.cons_sublist_cons.2 (List.nil_sublist _))⟩
theorem rcPrint_any (c : Co) (W : World) (hc : c.short) : Calls Tryz.prog 17 #[coV c] W fun e w' => e = .returned (.string (mkS c.print)) ∧ Below W.heap.size W w' := by
  refine calls_ok (n := 39) Tryz.func17 rfl (by kernel_rfl) (by kernel_rfl) ?_
  refine ok_seq ?_
  refine ok_region ?_
  refine s_box (coV c) (by kernel_rfl) rfl (by kernel_rfl) (fun b1 => ?_)
  refine s_val (.string ⟨#[]⟩) (by kernel_rfl) (fun _ => by kernel_rfl) ?_
  refine s_nil ?_
  refine fin_seq ?_
  refine ok_seq ?_
  refine ok_seq ?_
  refine ok_region ?_
  refine s_load 0 ⟨b1, (coV c).cells, 26⟩ (off := 0) (coV c) (by kernel_rfl) rfl (by kernel_rfl) (by kernel_rfl) (by kernel_rfl) ?_
  refine s_call (k := 16) (args := #[coV c]) (.bool c.may) (by kernel_rfl) (fun _ => by kernel_rfl) (fun w _ => rcMay_any c w hc) ?_
  cases h1 : c.may with
  | true =>
    refine s_val (.bool false) (by kernel_rfl) (fun _ => by kernel_rfl) ?_
    refine s_nil ?_
    refine fin_seq ?_
    refine ok_false (by kernel_rfl) ?_
    refine ok_skip ?_
    refine fin_seq ?_
    refine ok_seq ?_
    refine ok_region ?_
    refine s_load 0 ⟨b1, (coV c).cells, 26⟩ (off := 0) (coV c) (by kernel_rfl) rfl (by kernel_rfl) (by kernel_rfl) (by kernel_rfl) ?_
    have hcm := h1
    have hcv := (Co.facts hcm).2.1
    have hpn := parts_nat hcm
    refine s_callo (k := 49) (args := #[coV c]) (fun v' L' => ∃ g, v' = .slice (some ⟨g, 0, none⟩) c.parts.toNat 3 ∧ L' = ⟨g, toldC c.v, 9⟩ :: [⟨b1, (coV c).cells, 26⟩]) (by kernel_rfl) (fun _ => by kernel_rfl) (fun w hO => (rctold_any c w hc hcm).mono fun e w' ⟨v', ob', k1, ⟨g, k2, k4⟩, k3⟩ => ⟨v', _, k1, ⟨g, k2, rfl⟩, by subst k4; exact Own.joinN hO k3⟩) (fun v1 L1 hv1 => ?_)
    obtain ⟨g1, rfl, rfl⟩ := hv1
    refine s_val (.slice (some ⟨g1, 0, none⟩) c.parts.toNat 3) (by kernel_rfl) (fun _ => by kernel_rfl) ?_
    refine s_nil ?_
    refine fin_seq ?_
    refine ok_seq ?_
    refine ok_seq ?_
    refine ok_region ?_
    refine s_val (.pointer (some ⟨b1, 0, none⟩)) (by kernel_rfl) (fun _ => by kernel_rfl) ?_
    refine s_load 1 ⟨b1, (coV c).cells, 26⟩ (off := 0) (.int .i64 c.op) (by kernel_rfl) rfl (by kernel_rfl) (by kernel_rfl) (by kernel_rfl) ?_
    by_cases h2 : (c.op : Int) = 9
    · skip
      refine s_dec (p := (c.op : Int) = 9) true (by kernel_rfl) (fun _ => by kernel_rfl) (decide_eq_true (h2)) ?_
      refine s_nil ?_
      refine fin_seq ?_
      refine ok_true (by kernel_rfl) ?_
      refine ok_seq ?_
      refine ok_region ?_
      refine s_val (.slice (some ⟨g1, 0, none⟩) c.parts.toNat 3) (by kernel_rfl) (fun _ => by kernel_rfl) ?_
      refine s_val (.pointer (some ⟨b1, 1, none⟩)) (by kernel_rfl) (fun _ => by kernel_rfl) ?_
      refine s_load 1 ⟨b1, (coV c).cells, 26⟩ (off := 1) (.int .i64 c.parts) (by kernel_rfl) rfl (by kernel_rfl) (by kernel_rfl) (by kernel_rfl) ?_
      refine s_val (.pointer (some ⟨b1, 1, none⟩)) (by kernel_rfl) (fun _ => by kernel_rfl) ?_
      refine s_load 1 ⟨b1, (coV c).cells, 26⟩ (off := 1) (.int .i64 c.parts) (by kernel_rfl) rfl (by kernel_rfl) (by kernel_rfl) (by kernel_rfl) ?_
      refine s_val (.slice (some ⟨g1, 0, none⟩) c.parts.toNat c.parts.toNat) (by kernel_rfl) (run_slhm (b := g1) (n := c.parts.toNat) (c := 3) (k := .i64) (q := .i64) (j := c.parts) (m := c.parts) (e := 9) (sz := 1) rfl (by kernel_rfl) (by kernel_rfl) (by kernel_rfl) (by kernel_rfl) (by kernel_rfl) (by omega) (by omega) (by omega)) ?_
      refine s_lit 9 #[.string ⟨#[42]⟩] (by kernel_rfl) rfl (fun _ => by kernel_rfl) (fun b2 => ?_)
      obtain ⟨i0, z0, e1, e2, e3, e4, e5⟩ := str_info
      refine s_appendF (sz := 1) (by kernel_rfl) rfl Tryz.underlying56 e1 e2 e3 e4 (b := ⟨g1, 0, none⟩) (n := c.parts.toNat) (cap := c.parts.toNat) (xs := strV (numsN c.v c.parts.toNat)) (by kernel_rfl) (by rw [strV_length, numsN_len c.v hpn.2, Nat.mul_one]) (fun w hO j u hj => ?_) (a := ⟨b2, 0, none⟩) (m := 1) (c := 1) (news := strV [[42]]) (by kernel_rfl) (by kernel_rfl) (fun w hO j u hj => ?_) (by omega) (by unfold maxLen; omega) (by rw [e5]; omega) (fun va oa hva0 => ?_)
      · rw [← told_take c.v hpn.2, Nat.mul_one, List.getElem?_take] at hj
        split at hj
        · rw [add_off, cell_of_row w g1 (0 + j) (toldC c.v) 9 _ (hO.held ⟨g1, toldC c.v, 9⟩ (by simp))]; simpa using hj
        · cases hj
      · rw [add_off, cell_of_row w b2 (0 + j) (strV [[42]]).toArray 9 _ (hO.held ⟨b2, (strV [[42]]).toArray, 9⟩ List.mem_cons_self)]; simpa using hj
      have hva : SlT va (numsN c.v c.parts.toNat ++ [[42]]) oa := hva0.to (by rw [List.length_append, numsN_len c.v hpn.2]; rfl) (by unfold strV; rw [List.map_append])
      refine s_call (k := 50) (args := #[va, .int .u8 46]) (.string (mkS (joinL 46 (numsN c.v c.parts.toNat ++ [[42]])))) (by kernel_rfl) (fun _ => by kernel_rfl) (fun w hO => rjoin_any va _ 46 w (SlT.readsT hva hO (fun x hx => by simp [hx])) (Nat.le_trans (sjoin_len hcv _) (by decide)) (by rw [List.length_append]; have := numsN_le c.v c.parts.toNat; simp; omega)) ?_
      refine s_val (.string (mkS (joinL 46 (numsN c.v c.parts.toNat ++ [[42]])))) (by kernel_rfl) (fun _ => by kernel_rfl) ?_
      refine s_nil ?_
      refine fin_seq ?_
      refine ok_ret ?_
      refine fin_seq_ret ?_
      refine fin_ret (.string (mkS (joinL 46 (numsN c.v c.parts.toNat ++ [[42]])))) Tryz.results17 (by kernel_rfl) ?_
      exact fun w hO => ⟨by rw [co_print hcm, ← star_text h2], hO.below⟩
    · skip
      refine s_dec (p := (c.op : Int) = 9) false (by kernel_rfl) (fun _ => by kernel_rfl) (decide_eq_false (h2)) ?_
      refine s_nil ?_
      refine fin_seq ?_
      refine ok_false (by kernel_rfl) ?_
      refine ok_skip ?_
      refine fin_seq ?_
      refine ok_seq ?_
      refine ok_region ?_
      refine s_val (.pointer (some ⟨b1, 0, none⟩)) (by kernel_rfl) (fun _ => by kernel_rfl) ?_
      refine s_load 1 ⟨b1, (coV c).cells, 26⟩ (off := 0) (.int .i64 c.op) (by kernel_rfl) rfl (by kernel_rfl) (by kernel_rfl) (by kernel_rfl) ?_
      refine s_call (k := 51) (args := #[.int .i64 c.op]) (.string (mkS (signL c.op))) (by kernel_rfl) (fun _ => by kernel_rfl) (fun w _ => rcsign_any c.op w) ?_
      refine s_val (.slice (some ⟨g1, 0, none⟩) c.parts.toNat 3) (by kernel_rfl) (fun _ => by kernel_rfl) ?_
      refine s_call (k := 50) (args := #[.slice (some ⟨g1, 0, none⟩) c.parts.toNat 3, .int .u8 46]) (.string (mkS (joinL 46 (numsN c.v c.parts.toNat)))) (by kernel_rfl) (fun _ => by kernel_rfl) (fun w hO => rjoin_any _ _ 46 w (SlT.readsT (told_slt c.v hpn.2 g1) hO (fun x hx => by rw [List.mem_singleton.1 hx]; exact List.mem_cons_self)) (Nat.le_trans (njoin_len hcv _) (by decide)) (Nat.le_trans (numsN_le _ _) (by decide))) ?_
      refine s_val (.string (mkS ((signL c.op) ++ (joinL 46 (numsN c.v c.parts.toNat))))) (by kernel_rfl) (run_stradd (a := (signL c.op)) (b := (joinL 46 (numsN c.v c.parts.toNat))) rfl (by kernel_rfl) (by kernel_rfl) (by have q1 := signL_len c.op; have q2 := njoin_len hcv c.parts.toNat; have q3 := hc.1; first | omega | (simp only [List.length_append, List.length_cons, List.length_nil]; omega))) ?_
      refine s_val (.string (mkS ((signL c.op) ++ (joinL 46 (numsN c.v c.parts.toNat))))) (by kernel_rfl) (fun _ => by kernel_rfl) ?_
      refine s_nil ?_
      refine fin_seq ?_
      refine ok_seq ?_
      refine ok_seq ?_
      refine ok_region ?_
      refine s_val (.pointer (some ⟨b1, 2, none⟩)) (by kernel_rfl) (fun _ => by kernel_rfl) ?_
      refine s_val (.pointer (some ⟨b1, 5, none⟩)) (by kernel_rfl) (fun _ => by kernel_rfl) ?_
      refine s_load 1 ⟨b1, (coV c).cells, 26⟩ (off := 5) (.string (mkS c.v.pre)) (by kernel_rfl) rfl (by kernel_rfl) (by kernel_rfl) (by kernel_rfl) ?_
      by_cases h3 : (c.v.pre : List UInt8) = []
      · skip
        refine s_val (.bool false) (by kernel_rfl) (run_strneq (a := c.v.pre) (b := ([])) rfl (by kernel_rfl) (by kernel_rfl) (decide_eq_true (h3))) ?_
        refine s_nil ?_
        refine fin_seq ?_
        refine ok_false (by kernel_rfl) ?_
        refine ok_skip ?_
        refine fin_seq ?_
        refine ok_seq ?_
        refine ok_region ?_
        refine s_val (.string (mkS ((signL c.op) ++ (joinL 46 (numsN c.v c.parts.toNat))))) (by kernel_rfl) (fun _ => by kernel_rfl) ?_
        refine s_val (.string (mkS ((signL c.op) ++ (joinL 46 (numsN c.v c.parts.toNat))))) (by kernel_rfl) (fun _ => by kernel_rfl) ?_
        refine s_nil ?_
        refine fin_seq ?_
        refine ok_ret ?_
        refine fin_ret (.string (mkS ((signL c.op) ++ (joinL 46 (numsN c.v c.parts.toNat))))) Tryz.results17 (by kernel_rfl) ?_
        exact fun w hO => ⟨by rw [co_print hcm, ← text_bare h2 h3], hO.below⟩
      · skip
        refine s_val (.bool true) (by kernel_rfl) (run_strneq (a := c.v.pre) (b := ([])) rfl (by kernel_rfl) (by kernel_rfl) (decide_eq_false (h3))) ?_
        refine s_nil ?_
        refine fin_seq ?_
        refine ok_true (by kernel_rfl) ?_
        refine ok_region ?_
        refine s_val (.string (mkS ((signL c.op) ++ (joinL 46 (numsN c.v c.parts.toNat))))) (by kernel_rfl) (fun _ => by kernel_rfl) ?_
        refine s_val (.string (mkS (((signL c.op) ++ (joinL 46 (numsN c.v c.parts.toNat))) ++ [45]))) (by kernel_rfl) (run_stradd (a := ((signL c.op) ++ (joinL 46 (numsN c.v c.parts.toNat)))) (b := [45]) rfl (by kernel_rfl) (by kernel_rfl) (by have q1 := signL_len c.op; have q2 := njoin_len hcv c.parts.toNat; have q3 := hc.1; first | omega | (simp only [List.length_append, List.length_cons, List.length_nil]; omega))) ?_
        refine s_val (.pointer (some ⟨b1, 2, none⟩)) (by kernel_rfl) (fun _ => by kernel_rfl) ?_
        refine s_val (.pointer (some ⟨b1, 5, none⟩)) (by kernel_rfl) (fun _ => by kernel_rfl) ?_
        refine s_load 1 ⟨b1, (coV c).cells, 26⟩ (off := 5) (.string (mkS c.v.pre)) (by kernel_rfl) rfl (by kernel_rfl) (by kernel_rfl) (by kernel_rfl) ?_
        refine s_val (.string (mkS ((((signL c.op) ++ (joinL 46 (numsN c.v c.parts.toNat))) ++ [45]) ++ c.v.pre))) (by kernel_rfl) (run_stradd (a := (((signL c.op) ++ (joinL 46 (numsN c.v c.parts.toNat))) ++ [45])) (b := c.v.pre) rfl (by kernel_rfl) (by kernel_rfl) (by have q1 := signL_len c.op; have q2 := njoin_len hcv c.parts.toNat; have q3 := hc.1; first | omega | (simp only [List.length_append, List.length_cons, List.length_nil]; omega))) ?_
        refine s_val (.string (mkS ((((signL c.op) ++ (joinL 46 (numsN c.v c.parts.toNat))) ++ [45]) ++ c.v.pre))) (by kernel_rfl) (fun _ => by kernel_rfl) ?_
        refine s_nil ?_
        refine fin_seq ?_
        refine ok_seq ?_
        refine ok_region ?_
        refine s_val (.string (mkS ((((signL c.op) ++ (joinL 46 (numsN c.v c.parts.toNat))) ++ [45]) ++ c.v.pre))) (by kernel_rfl) (fun _ => by kernel_rfl) ?_
        refine s_val (.string (mkS ((((signL c.op) ++ (joinL 46 (numsN c.v c.parts.toNat))) ++ [45]) ++ c.v.pre))) (by kernel_rfl) (fun _ => by kernel_rfl) ?_
        refine s_nil ?_
        refine fin_seq ?_
        refine ok_ret ?_
        refine fin_ret (.string (mkS ((((signL c.op) ++ (joinL 46 (numsN c.v c.parts.toNat))) ++ [45]) ++ c.v.pre))) Tryz.results17 (by kernel_rfl) ?_
        exact fun w hO => ⟨by rw [co_print hcm, ← text_pre h2 h3], hO.below⟩
  | false =>
    refine s_val (.bool true) (by kernel_rfl) (fun _ => by kernel_rfl) ?_
    refine s_nil ?_
    refine fin_seq ?_
    refine ok_true (by kernel_rfl) ?_
    refine ok_seq ?_
    refine ok_region ?_
    refine s_val (.string ⟨#[]⟩) (by kernel_rfl) (fun _ => by kernel_rfl) ?_
    refine s_nil ?_
    refine fin_seq ?_
    refine ok_ret ?_
    refine fin_seq_ret ?_
    refine fin_ret (.string ⟨#[]⟩) Tryz.results17 (by kernel_rfl) ?_
    exact fun w hO => ⟨by unfold Co.print; simp [h1]; rfl, hO.below⟩
end Go.Proofs.YtjabcbagggicaaaGreatDoor
end

section
/-
  linchpinref6: split, pre, numbers: what they return for strings of at most a million bytes; nothing that was there is changed.
-/
namespace Go.Proofs.YtjabcbagggicaaaGreatDoor
open Go.RowKit
set_option maxRecDepth 100000
set_option linter.unusedVariables false
set_option linter.unusedSimpArgs false
set_option maxHeartbeats 2000000

theorem splitC_eq (s : List UInt8) : splitC s = if beginsL s (signL 2) then (2, s.drop (signL 2).length) else if beginsL s (signL 4) then (4, s.drop (signL 4).length) else if beginsL s (signL 6) then (6, s.drop (signL 6).length) else if beginsL s (signL 1) then (1, s.drop (signL 1).length) else if beginsL s (signL 3) then (3, s.drop (signL 3).length) else if beginsL s (signL 5) then (5, s.drop (signL 5).length) else if beginsL s (signL 7) then (7, s.drop (signL 7).length) else if beginsL s (signL 8) then (8, s.drop (signL 8).length) else (if s.getLast? = some 42 then (9, s) else (7, s)) := rfl
theorem begins_le {s t : List UInt8} (h : beginsL s t = true) : t.length ≤ s.length := by
  have q := congrArg List.length (of_decide_eq_true h)
  rw [List.length_take] at q; omega
theorem pre_hit {s : List UInt8} {k : Nat} (hk : k < s.length) (h : s[k] = 45) (hf : (45 : UInt8) ∉ s.take k) : cutAt 45 s = (s.take k, s.drop (k + 1), true) := by
  have e : s = s.take k ++ 45 :: s.drop (k + 1) := by
    have := (List.take_append_drop k s).symm
    rw [List.drop_eq_getElem_cons hk, h] at this; exact this
  conv => lhs; rw [e]
  exact cutAt_hit 45 _ _ hf
theorem pre_on {s : List UInt8} {k : Nat} (hk : k < s.length) (h : ¬ s[k] = 45) (hf : (45 : UInt8) ∉ s.take k) : (45 : UInt8) ∉ s.take (k + 1) := by
  rw [List.take_succ_eq_append_getElem hk]
  intro hm
  rcases List.mem_append.1 hm with hm | hm
  · exact hf hm
  · exact h (List.mem_singleton.1 hm).symm
theorem byte_is {c : UInt8} {n : Nat} (hn : n < 256) : (c.toNat : Int) = (n : Int) ↔ c = UInt8.ofNat n := by
  constructor
  · intro h
    apply UInt8.toNat_inj.1
    rw [UInt8.toNat_ofNat']
    omega
  · intro h
    rw [h, UInt8.toNat_ofNat']; omega
theorem last_is {s : List UInt8} (h : 0 < s.length) {c : UInt8} (hc : s[s.length - 1]'(by omega) = c) : s.getLast? = some c := by
  rw [List.getLast?_eq_getElem?, List.getElem?_eq_getElem (by omega), hc]
def numsOk (l : List (List UInt8)) : Bool := decide (l.length ≤ 3) && l.all numI
def numsVal (l : List (List UInt8)) : Ver := if numsOk l then ⟨numD (tg l 0), numD (tg l 1), numD (tg l 2), [], []⟩ else Ver.zero
theorem tgi_get {l : List (List UInt8)} {i : Nat} (h : i < l.length) : l[i] = tg l i := by
  unfold tg
  rw [List.getElem?_eq_getElem h]; rfl
theorem nums_bad {l : List (List UInt8)} {i : Nat} (h : i < l.length) (hb : numI (tg l i) = false) : numsOk l = false := by
  unfold numsOk
  cases hq : l.all numI with
  | false => simp
  | true => rw [← tgi_get h, List.all_eq_true.1 hq _ (List.getElem_mem h)] at hb; cases hb
theorem nums_big {l : List (List UInt8)} (h : 3 < l.length) : numsOk l = false := by unfold numsOk; rw [decide_eq_false (by omega)]; rfl
theorem nums_all {l : List (List UInt8)} (h3 : l.length ≤ 3) (h : ∀ i, i < l.length → numI (tg l i) = true) : numsOk l = true := by
  unfold numsOk
  rw [decide_eq_true h3, List.all_eq_true.2]; · rfl
  intro x hx
  obtain ⟨i, hi, rfl⟩ := List.mem_iff_getElem.1 hx
  rw [tgi_get hi]; exact h i hi
theorem tgi_out {l : List (List UInt8)} {i : Nat} (h : l.length ≤ i) : numD (tg l i) = 0 := by
  unfold tg
  rw [List.getElem?_eq_none h]; rfl
theorem rcpre_any (s : List UInt8) (W : World) (hs : s.length ≤ 1000000) : Calls Tryz.prog 40 #[.string (mkS s)] W fun e w' => e = .returned (.tuple #[.string (mkS (cutAt 45 s).1), .string (mkS (cutAt 45 s).2.1)]) ∧ Below W.heap.size W w' := by
  have hsz := mkS_sz s
  refine calls_ok (n := 23) Tryz.func40 rfl (by kernel_rfl) (by kernel_rfl) ?_
  refine ok_seq ?_
  refine ok_region ?_
  refine s_val (.string ⟨#[]⟩) (by kernel_rfl) (fun _ => by kernel_rfl) ?_
  refine s_val (.string ⟨#[]⟩) (by kernel_rfl) (fun _ => by kernel_rfl) ?_
  refine s_nil ?_
  refine fin_seq ?_
  refine ok_seq ?_
  refine ok_seq ?_
  refine ok_region ?_
  refine s_val (.int .i64 0) (by kernel_rfl) (fun _ => by kernel_rfl) ?_
  refine s_nil ?_
  refine fin_seq ?_
  refine ok_block ?_
  refine ok_loop (fun L f m => ∃ (k : Nat) (j : Nat → Value), (k ≤ s.length ∧ (45 : UInt8) ∉ s.take k) ∧ L = [] ∧ f = upds j [(0, .string (mkS s)), (4, .int .i64 (k : Int))] ∧ m = s.length - k) (s.length - 0) ⟨0, _, ⟨Nat.zero_le _, by simp⟩, rfl, upds_self _ ⟨by kernel_rfl, by kernel_rfl, trivial⟩, rfl⟩ ?_
  rintro L f m ⟨k, j, hrel, rfl, rfl, rfl⟩
  have hkl := hrel.1
  refine ok_seq ?_
  refine ok_seq ?_
  refine ok_region ?_
  refine s_val (.int .i64 (k : Int)) (by kernel_rfl) (fun _ => by kernel_rfl) ?_
  refine s_val (.string (mkS s)) (by kernel_rfl) (fun _ => by kernel_rfl) ?_
  refine s_val (.int .i64 ((mkS s).size)) (by kernel_rfl) (fun _ => by kernel_rfl) ?_
  by_cases h1 : (k : Int) < (mkS s).size
  · skip
    have hk : k < s.length := by omega
    obtain ⟨ch, hch⟩ : ∃ x, s[k] = x := ⟨_, rfl⟩
    refine s_dec (p := (k : Int) < (mkS s).size) true (by kernel_rfl) (fun _ => by kernel_rfl) (decide_eq_true (h1)) ?_
    refine s_nil ?_
    refine fin_seq ?_
    refine ok_true (by kernel_rfl) ?_
    refine ok_skip ?_
    refine fin_seq ?_
    refine ok_seq ?_
    refine ok_block ?_
    refine ok_seq ?_
    refine ok_region ?_
    refine s_val (.string (mkS s)) (by kernel_rfl) (fun _ => by kernel_rfl) ?_
    refine s_val (.int .i64 (k : Int)) (by kernel_rfl) (fun _ => by kernel_rfl) ?_
    refine s_val (.int .u8 (ch.toNat : Int)) (by kernel_rfl) (fun w => by rw [← hch]; exact run_stridx (s := s) (k := .i64) (j := (k : Int)) rfl (by kernel_rfl) (by kernel_rfl) Tryz.underlying9 (by omega) (by omega) w) ?_
    by_cases h2 : (ch.toNat : Int) = 45
    · skip
      refine s_dec (p := (ch.toNat : Int) = 45) true (by kernel_rfl) (fun _ => by kernel_rfl) (decide_eq_true (h2)) ?_
      refine s_nil ?_
      refine fin_seq ?_
      refine ok_true (by kernel_rfl) ?_
      refine ok_seq ?_
      refine ok_draw (by kernel_rfl) (by kernel_rfl) ?_
      refine q_val (.string (mkS s)) (by kernel_rfl) (fun _ => by kernel_rfl) ?_
      refine q_val (.int .i64 (k : Int)) (by kernel_rfl) (fun _ => by kernel_rfl) ?_
      refine q_val (.string (mkS (s.take k))) (by kernel_rfl) (run_strhi (s := s) (k := .i64) (j := (k : Int)) rfl (by kernel_rfl) (by kernel_rfl) Tryz.underlying9 (by omega) (by omega)) ?_
      refine q_val (.string (mkS s)) (by kernel_rfl) (fun _ => by kernel_rfl) ?_
      refine q_val (.int .i64 (k : Int)) (by kernel_rfl) (fun _ => by kernel_rfl) ?_
      refine q_sum (k := .i64) (((k + 1 : Nat) : Int)) (by kernel_rfl) (fun _ => by kernel_rfl) (IntWalk.i64_in _ (by omega)) ?_
      refine q_val (.string (mkS (s.drop (k + 1)))) (by kernel_rfl) (run_strlo (s := s) (k := .i64) (j := ((k + 1 : Nat) : Int)) rfl (by kernel_rfl) (by kernel_rfl) Tryz.underlying9 (by omega) (by omega)) ?_
      refine q_val (.string (mkS (s.take k))) (by kernel_rfl) (fun _ => by kernel_rfl) ?_
      refine q_val (.string (mkS (s.drop (k + 1)))) (by kernel_rfl) (fun _ => by kernel_rfl) ?_
      refine q_nil ?_
      refine fin_seq ?_
      refine ok_ret ?_
      refine fin_block_ret ?_
      refine fin_seq_ret ?_
      refine fin_round_ret ?_
      refine fin_block_ret ?_
      refine fin_seq_ret ?_
      refine fin_ret2 (.string (mkS (s.take k))) (.string (mkS (s.drop (k + 1)))) Tryz.results40 (by kernel_rfl) (by kernel_rfl) ?_
      exact fun w hO => ⟨by rw [pre_hit hk (by rw [hch]; exact (byte_is (n := 45) (by decide)).1 h2) hrel.2], hO.below⟩
    · skip
      refine s_dec (p := (ch.toNat : Int) = 45) false (by kernel_rfl) (fun _ => by kernel_rfl) (decide_eq_false (h2)) ?_
      refine s_nil ?_
      refine fin_seq ?_
      refine ok_false (by kernel_rfl) ?_
      refine ok_skip ?_
      refine fin_block ?_
      refine fin_seq ?_
      refine ok_region ?_
      refine s_val (.int .i64 (k : Int)) (by kernel_rfl) (fun _ => by kernel_rfl) ?_
      refine s_sum (k := .i64) (((k + 1 : Nat) : Int)) (by kernel_rfl) (fun _ => by kernel_rfl) (IntWalk.i64_in _ (by omega)) ?_
      refine s_val (.int .i64 ((k + 1 : Nat) : Int)) (by kernel_rfl) (fun _ => by kernel_rfl) ?_
      refine s_nil ?_
      exact fin_round (m' := s.length - (k + 1)) (by omega) ⟨k + 1, _, ⟨by omega, pre_on hk (fun q0 => h2 (by rw [hch] at q0; exact (byte_is (n := 45) (by decide)).2 q0)) hrel.2⟩, rfl, upds_self _ ⟨by kernel_rfl, by kernel_rfl, trivial⟩, rfl⟩
  · skip
    refine s_dec (p := (k : Int) < (mkS s).size) false (by kernel_rfl) (fun _ => by kernel_rfl) (decide_eq_false (h1)) ?_
    refine s_nil ?_
    refine fin_seq ?_
    refine ok_false (by kernel_rfl) ?_
    refine ok_exit ?_
    refine fin_seq_exit ?_
    refine fin_round_exit ?_
    refine fin_block_exit ?_
    refine fin_seq ?_
    refine ok_seq ?_
    refine ok_region ?_
    refine s_val (.string (mkS s)) (by kernel_rfl) (fun _ => by kernel_rfl) ?_
    refine s_val (.string (mkS s)) (by kernel_rfl) (fun _ => by kernel_rfl) ?_
    refine s_val (.string ⟨#[]⟩) (by kernel_rfl) (fun _ => by kernel_rfl) ?_
    refine s_nil ?_
    refine fin_seq ?_
    refine ok_ret ?_
    refine fin_ret2 (.string (mkS s)) (.string ⟨#[]⟩) Tryz.results40 (by kernel_rfl) (by kernel_rfl) ?_
    exact fun w hO => ⟨by rw [cutAt_miss 45 s (by have q0 := hrel.2; rwa [List.take_of_length_le (by omega)] at q0)]; rfl, hO.below⟩
set_option maxHeartbeats 4000000 in
theorem rcsplit_any (s : List UInt8) (W : World) (hs : s.length ≤ 1000000) : Calls Tryz.prog 39 #[.string (mkS s)] W fun e w' => e = .returned (.tuple #[.int .i64 (splitC s).1, .string (mkS (splitC s).2)]) ∧ Below W.heap.size W w' := by
  have hsz := mkS_sz s
  refine calls_ok (n := 43) Tryz.func39 rfl (by kernel_rfl) (by kernel_rfl) ?_
  refine ok_seq ?_
  refine ok_region ?_
  refine s_val (.int .i64 0) (by kernel_rfl) (fun _ => by kernel_rfl) ?_
  refine s_val (.string ⟨#[]⟩) (by kernel_rfl) (fun _ => by kernel_rfl) ?_
  refine s_nil ?_
  refine fin_seq ?_
  refine ok_seq ?_
  refine ok_region ?_
  refine s_lit 3 #[.int .i64 2, .int .i64 4, .int .i64 6, .int .i64 1, .int .i64 3, .int .i64 5, .int .i64 7, .int .i64 8] (by kernel_rfl) rfl (fun _ => by kernel_rfl) (fun b1 => ?_)
  refine s_val (.slice (some ⟨b1, 0, none⟩) 8 8) (by kernel_rfl) (fun _ => by kernel_rfl) ?_
  refine s_nil ?_
  refine fin_seq ?_
  refine ok_seq ?_
  refine ok_seq ?_
  refine ok_region ?_
  refine s_val (.int .i64 0) (by kernel_rfl) (fun _ => by kernel_rfl) ?_
  refine s_nil ?_
  refine fin_seq ?_
  refine ok_block ?_
  refine ok_loop (fun L f m => (∃  (j : Nat → Value), (True) ∧ L = [⟨b1, #[.int .i64 2, .int .i64 4, .int .i64 6, .int .i64 1, .int .i64 3, .int .i64 5, .int .i64 7, .int .i64 8], 3⟩] ∧ f = upds j [(0, .string (mkS s)), (4, .slice (some ⟨b1, 0, none⟩) 8 8), (5, .int .i64 0)] ∧ m = 9) ∨ (∃  (j : Nat → Value), (True ∧ beginsL s (signL 2) = false) ∧ L = [⟨b1, #[.int .i64 2, .int .i64 4, .int .i64 6, .int .i64 1, .int .i64 3, .int .i64 5, .int .i64 7, .int .i64 8], 3⟩] ∧ f = upds j [(0, .string (mkS s)), (4, .slice (some ⟨b1, 0, none⟩) 8 8), (5, .int .i64 1)] ∧ m = 8) ∨ (∃  (j : Nat → Value), (True ∧ beginsL s (signL 2) = false ∧ beginsL s (signL 4) = false) ∧ L = [⟨b1, #[.int .i64 2, .int .i64 4, .int .i64 6, .int .i64 1, .int .i64 3, .int .i64 5, .int .i64 7, .int .i64 8], 3⟩] ∧ f = upds j [(0, .string (mkS s)), (4, .slice (some ⟨b1, 0, none⟩) 8 8), (5, .int .i64 2)] ∧ m = 7) ∨ (∃  (j : Nat → Value), (True ∧ beginsL s (signL 2) = false ∧ beginsL s (signL 4) = false ∧ beginsL s (signL 6) = false) ∧ L = [⟨b1, #[.int .i64 2, .int .i64 4, .int .i64 6, .int .i64 1, .int .i64 3, .int .i64 5, .int .i64 7, .int .i64 8], 3⟩] ∧ f = upds j [(0, .string (mkS s)), (4, .slice (some ⟨b1, 0, none⟩) 8 8), (5, .int .i64 3)] ∧ m = 6) ∨ (∃  (j : Nat → Value), (True ∧ beginsL s (signL 2) = false ∧ beginsL s (signL 4) = false ∧ beginsL s (signL 6) = false ∧ beginsL s (signL 1) = false) ∧ L = [⟨b1, #[.int .i64 2, .int .i64 4, .int .i64 6, .int .i64 1, .int .i64 3, .int .i64 5, .int .i64 7, .int .i64 8], 3⟩] ∧ f = upds j [(0, .string (mkS s)), (4, .slice (some ⟨b1, 0, none⟩) 8 8), (5, .int .i64 4)] ∧ m = 5) ∨ (∃  (j : Nat → Value), (True ∧ beginsL s (signL 2) = false ∧ beginsL s (signL 4) = false ∧ beginsL s (signL 6) = false ∧ beginsL s (signL 1) = false ∧ beginsL s (signL 3) = false) ∧ L = [⟨b1, #[.int .i64 2, .int .i64 4, .int .i64 6, .int .i64 1, .int .i64 3, .int .i64 5, .int .i64 7, .int .i64 8], 3⟩] ∧ f = upds j [(0, .string (mkS s)), (4, .slice (some ⟨b1, 0, none⟩) 8 8), (5, .int .i64 5)] ∧ m = 4) ∨ (∃  (j : Nat → Value), (True ∧ beginsL s (signL 2) = false ∧ beginsL s (signL 4) = false ∧ beginsL s (signL 6) = false ∧ beginsL s (signL 1) = false ∧ beginsL s (signL 3) = false ∧ beginsL s (signL 5) = false) ∧ L = [⟨b1, #[.int .i64 2, .int .i64 4, .int .i64 6, .int .i64 1, .int .i64 3, .int .i64 5, .int .i64 7, .int .i64 8], 3⟩] ∧ f = upds j [(0, .string (mkS s)), (4, .slice (some ⟨b1, 0, none⟩) 8 8), (5, .int .i64 6)] ∧ m = 3) ∨ (∃  (j : Nat → Value), (True ∧ beginsL s (signL 2) = false ∧ beginsL s (signL 4) = false ∧ beginsL s (signL 6) = false ∧ beginsL s (signL 1) = false ∧ beginsL s (signL 3) = false ∧ beginsL s (signL 5) = false ∧ beginsL s (signL 7) = false) ∧ L = [⟨b1, #[.int .i64 2, .int .i64 4, .int .i64 6, .int .i64 1, .int .i64 3, .int .i64 5, .int .i64 7, .int .i64 8], 3⟩] ∧ f = upds j [(0, .string (mkS s)), (4, .slice (some ⟨b1, 0, none⟩) 8 8), (5, .int .i64 7)] ∧ m = 2) ∨ (∃  (j : Nat → Value), (True ∧ beginsL s (signL 2) = false ∧ beginsL s (signL 4) = false ∧ beginsL s (signL 6) = false ∧ beginsL s (signL 1) = false ∧ beginsL s (signL 3) = false ∧ beginsL s (signL 5) = false ∧ beginsL s (signL 7) = false ∧ beginsL s (signL 8) = false) ∧ L = [⟨b1, #[.int .i64 2, .int .i64 4, .int .i64 6, .int .i64 1, .int .i64 3, .int .i64 5, .int .i64 7, .int .i64 8], 3⟩] ∧ f = upds j [(0, .string (mkS s)), (4, .slice (some ⟨b1, 0, none⟩) 8 8), (5, .int .i64 8)] ∧ m = 1)) 9 (.inl ⟨_, trivial, rfl, upds_self _ ⟨by kernel_rfl, by kernel_rfl, by kernel_rfl, trivial⟩, rfl⟩) ?_
  rintro L f m (⟨j, hrel, rfl, rfl, rfl⟩ | ⟨j, hrel, rfl, rfl, rfl⟩ | ⟨j, hrel, rfl, rfl, rfl⟩ | ⟨j, hrel, rfl, rfl, rfl⟩ | ⟨j, hrel, rfl, rfl, rfl⟩ | ⟨j, hrel, rfl, rfl, rfl⟩ | ⟨j, hrel, rfl, rfl, rfl⟩ | ⟨j, hrel, rfl, rfl, rfl⟩ | ⟨j, hrel, rfl, rfl, rfl⟩)
  · skip
    refine ok_seq ?_
    refine ok_seq ?_
    refine ok_region ?_
    refine s_val (.int .i64 0) (by kernel_rfl) (fun _ => by kernel_rfl) ?_
    refine s_val (.slice (some ⟨b1, 0, none⟩) 8 8) (by kernel_rfl) (fun _ => by kernel_rfl) ?_
    refine s_val (.int .i64 (8 : Int)) (by kernel_rfl) (fun _ => by kernel_rfl) ?_
    refine s_val (.bool true) (by kernel_rfl) (fun _ => by kernel_rfl) ?_
    refine s_nil ?_
    refine fin_seq ?_
    refine ok_true (by kernel_rfl) ?_
    refine ok_skip ?_
    refine fin_seq ?_
    refine ok_seq ?_
    refine ok_block ?_
    refine ok_seq ?_
    refine ok_region ?_
    refine s_val (.slice (some ⟨b1, 0, none⟩) 8 8) (by kernel_rfl) (fun _ => by kernel_rfl) ?_
    refine s_val (.int .i64 0) (by kernel_rfl) (fun _ => by kernel_rfl) ?_
    refine s_val (.pointer (some ⟨b1, 0, none⟩)) (by kernel_rfl) (run_ixsl (b := b1) (off := 0) (n := 8) (c := 8) (k := .i64) (j := 0) (e := 3) (sz := 1) rfl (by kernel_rfl) (by kernel_rfl) (by kernel_rfl) (by kernel_rfl) (by omega) (by omega) (by rfl)) ?_
    refine s_load 0 ⟨b1, #[.int .i64 2, .int .i64 4, .int .i64 6, .int .i64 1, .int .i64 3, .int .i64 5, .int .i64 7, .int .i64 8], 3⟩ (off := 0) (.int .i64 2) (by kernel_rfl) rfl (by kernel_rfl) (by kernel_rfl) (by kernel_rfl) ?_
    refine s_call (k := 51) (args := #[.int .i64 2]) (.string (mkS (signL 2))) (by kernel_rfl) (fun _ => by kernel_rfl) (fun w _ => rcsign_any 2 w) ?_
    refine s_val (.string (mkS (signL 2))) (by kernel_rfl) (fun _ => by kernel_rfl) ?_
    refine s_nil ?_
    refine fin_seq ?_
    refine ok_seq ?_
    refine ok_region ?_
    refine s_val (.string (mkS s)) (by kernel_rfl) (fun _ => by kernel_rfl) ?_
    refine s_val (.string (mkS (signL 2))) (by kernel_rfl) (fun _ => by kernel_rfl) ?_
    refine s_call (k := 74) (args := #[.string (mkS s), .string (mkS (signL 2))]) (.bool (beginsL s (signL 2))) (by kernel_rfl) (fun _ => by kernel_rfl) (fun w _ => rcbegins_any s (signL 2) w) ?_
    refine s_nil ?_
    refine fin_seq ?_
    cases h1 : beginsL s (signL 2) with
    | true =>
      have hble := begins_le h1
      refine ok_true (by kernel_rfl) ?_
      refine ok_seq ?_
      refine ok_draw (by kernel_rfl) (by kernel_rfl) ?_
      refine q_val (.slice (some ⟨b1, 0, none⟩) 8 8) (by kernel_rfl) (fun _ => by kernel_rfl) ?_
      refine q_val (.int .i64 0) (by kernel_rfl) (fun _ => by kernel_rfl) ?_
      refine q_val (.pointer (some ⟨b1, 0, none⟩)) (by kernel_rfl) (run_ixsl (b := b1) (off := 0) (n := 8) (c := 8) (k := .i64) (j := 0) (e := 3) (sz := 1) rfl (by kernel_rfl) (by kernel_rfl) (by kernel_rfl) (by kernel_rfl) (by omega) (by omega) (by rfl)) ?_
      refine q_load 0 ⟨b1, #[.int .i64 2, .int .i64 4, .int .i64 6, .int .i64 1, .int .i64 3, .int .i64 5, .int .i64 7, .int .i64 8], 3⟩ (off := 0) (.int .i64 2) (by kernel_rfl) rfl (by kernel_rfl) (by kernel_rfl) (by kernel_rfl) ?_
      refine q_val (.string (mkS s)) (by kernel_rfl) (fun _ => by kernel_rfl) ?_
      refine q_val (.string (mkS (signL 2))) (by kernel_rfl) (fun _ => by kernel_rfl) ?_
      refine q_val (.int .i64 ((mkS (signL 2)).size)) (by kernel_rfl) (fun _ => by kernel_rfl) ?_
      refine q_val (.string (mkS (s.drop (signL 2).length))) (by kernel_rfl) (run_strlo (s := s) (k := .i64) (j := (((signL 2).length : Nat) : Int)) rfl (by kernel_rfl) (by kernel_rfl) Tryz.underlying9 (by omega) (by omega)) ?_
      refine q_val (.int .i64 2) (by kernel_rfl) (fun _ => by kernel_rfl) ?_
      refine q_val (.string (mkS (s.drop (signL 2).length))) (by kernel_rfl) (fun _ => by kernel_rfl) ?_
      refine q_nil ?_
      refine fin_seq ?_
      refine ok_ret ?_
      refine fin_block_ret ?_
      refine fin_seq_ret ?_
      refine fin_round_ret ?_
      refine fin_block_ret ?_
      refine fin_seq_ret ?_
      refine fin_ret2 (.int .i64 2) (.string (mkS (s.drop (signL 2).length))) Tryz.results39 (by kernel_rfl) (by kernel_rfl) ?_
      exact fun w hO => ⟨by rw [splitC_eq]; simp only [h1, if_true, if_false, Bool.false_eq_true], hO.below⟩
    | false =>
      refine ok_false (by kernel_rfl) ?_
      refine ok_skip ?_
      refine fin_block ?_
      refine fin_seq ?_
      refine ok_region ?_
      refine s_val (.int .i64 0) (by kernel_rfl) (fun _ => by kernel_rfl) ?_
      refine s_val (.int .i64 1) (by kernel_rfl) (fun _ => by kernel_rfl) ?_
      refine s_val (.int .i64 1) (by kernel_rfl) (fun _ => by kernel_rfl) ?_
      refine s_nil ?_
      exact fin_round (m' := 8) (by decide) (.inr (.inl ⟨_, ⟨trivial, (by first | assumption | rfl)⟩, rfl, upds_self _ ⟨by kernel_rfl, by kernel_rfl, by kernel_rfl, trivial⟩, rfl⟩))
  · skip
    obtain ⟨_, q0⟩ := hrel
    refine ok_seq ?_
    refine ok_seq ?_
    refine ok_region ?_
    refine s_val (.int .i64 1) (by kernel_rfl) (fun _ => by kernel_rfl) ?_
    refine s_val (.slice (some ⟨b1, 0, none⟩) 8 8) (by kernel_rfl) (fun _ => by kernel_rfl) ?_
    refine s_val (.int .i64 (8 : Int)) (by kernel_rfl) (fun _ => by kernel_rfl) ?_
    refine s_val (.bool true) (by kernel_rfl) (fun _ => by kernel_rfl) ?_
    refine s_nil ?_
    refine fin_seq ?_
    refine ok_true (by kernel_rfl) ?_
    refine ok_skip ?_
    refine fin_seq ?_
    refine ok_seq ?_
    refine ok_block ?_
    refine ok_seq ?_
    refine ok_region ?_
    refine s_val (.slice (some ⟨b1, 0, none⟩) 8 8) (by kernel_rfl) (fun _ => by kernel_rfl) ?_
    refine s_val (.int .i64 1) (by kernel_rfl) (fun _ => by kernel_rfl) ?_
    refine s_val (.pointer (some ⟨b1, 1, none⟩)) (by kernel_rfl) (run_ixsl (b := b1) (off := 0) (n := 8) (c := 8) (k := .i64) (j := 1) (e := 3) (sz := 1) rfl (by kernel_rfl) (by kernel_rfl) (by kernel_rfl) (by kernel_rfl) (by omega) (by omega) (by rfl)) ?_
    refine s_load 0 ⟨b1, #[.int .i64 2, .int .i64 4, .int .i64 6, .int .i64 1, .int .i64 3, .int .i64 5, .int .i64 7, .int .i64 8], 3⟩ (off := 1) (.int .i64 4) (by kernel_rfl) rfl (by kernel_rfl) (by kernel_rfl) (by kernel_rfl) ?_
    refine s_call (k := 51) (args := #[.int .i64 4]) (.string (mkS (signL 4))) (by kernel_rfl) (fun _ => by kernel_rfl) (fun w _ => rcsign_any 4 w) ?_
    refine s_val (.string (mkS (signL 4))) (by kernel_rfl) (fun _ => by kernel_rfl) ?_
    refine s_nil ?_
    refine fin_seq ?_
    refine ok_seq ?_
    refine ok_region ?_
    refine s_val (.string (mkS s)) (by kernel_rfl) (fun _ => by kernel_rfl) ?_
    refine s_val (.string (mkS (signL 4))) (by kernel_rfl) (fun _ => by kernel_rfl) ?_
    refine s_call (k := 74) (args := #[.string (mkS s), .string (mkS (signL 4))]) (.bool (beginsL s (signL 4))) (by kernel_rfl) (fun _ => by kernel_rfl) (fun w _ => rcbegins_any s (signL 4) w) ?_
    refine s_nil ?_
    refine fin_seq ?_
    cases h2 : beginsL s (signL 4) with
    | true =>
      have hble := begins_le h2
      refine ok_true (by kernel_rfl) ?_
      refine ok_seq ?_
      refine ok_draw (by kernel_rfl) (by kernel_rfl) ?_
      refine q_val (.slice (some ⟨b1, 0, none⟩) 8 8) (by kernel_rfl) (fun _ => by kernel_rfl) ?_
      refine q_val (.int .i64 1) (by kernel_rfl) (fun _ => by kernel_rfl) ?_
      refine q_val (.pointer (some ⟨b1, 1, none⟩)) (by kernel_rfl) (run_ixsl (b := b1) (off := 0) (n := 8) (c := 8) (k := .i64) (j := 1) (e := 3) (sz := 1) rfl (by kernel_rfl) (by kernel_rfl) (by kernel_rfl) (by kernel_rfl) (by omega) (by omega) (by rfl)) ?_
      refine q_load 0 ⟨b1, #[.int .i64 2, .int .i64 4, .int .i64 6, .int .i64 1, .int .i64 3, .int .i64 5, .int .i64 7, .int .i64 8], 3⟩ (off := 1) (.int .i64 4) (by kernel_rfl) rfl (by kernel_rfl) (by kernel_rfl) (by kernel_rfl) ?_
      refine q_val (.string (mkS s)) (by kernel_rfl) (fun _ => by kernel_rfl) ?_
      refine q_val (.string (mkS (signL 4))) (by kernel_rfl) (fun _ => by kernel_rfl) ?_
      refine q_val (.int .i64 ((mkS (signL 4)).size)) (by kernel_rfl) (fun _ => by kernel_rfl) ?_
      refine q_val (.string (mkS (s.drop (signL 4).length))) (by kernel_rfl) (run_strlo (s := s) (k := .i64) (j := (((signL 4).length : Nat) : Int)) rfl (by kernel_rfl) (by kernel_rfl) Tryz.underlying9 (by omega) (by omega)) ?_
      refine q_val (.int .i64 4) (by kernel_rfl) (fun _ => by kernel_rfl) ?_
      refine q_val (.string (mkS (s.drop (signL 4).length))) (by kernel_rfl) (fun _ => by kernel_rfl) ?_
      refine q_nil ?_
      refine fin_seq ?_
      refine ok_ret ?_
      refine fin_block_ret ?_
      refine fin_seq_ret ?_
      refine fin_round_ret ?_
      refine fin_block_ret ?_
      refine fin_seq_ret ?_
      refine fin_ret2 (.int .i64 4) (.string (mkS (s.drop (signL 4).length))) Tryz.results39 (by kernel_rfl) (by kernel_rfl) ?_
      exact fun w hO => ⟨by rw [splitC_eq]; simp only [q0, h2, if_true, if_false, Bool.false_eq_true], hO.below⟩
    | false =>
      refine ok_false (by kernel_rfl) ?_
      refine ok_skip ?_
      refine fin_block ?_
      refine fin_seq ?_
      refine ok_region ?_
      refine s_val (.int .i64 1) (by kernel_rfl) (fun _ => by kernel_rfl) ?_
      refine s_val (.int .i64 2) (by kernel_rfl) (fun _ => by kernel_rfl) ?_
      refine s_val (.int .i64 2) (by kernel_rfl) (fun _ => by kernel_rfl) ?_
      refine s_nil ?_
      exact fin_round (m' := 7) (by decide) (.inr (.inr (.inl ⟨_, ⟨trivial, q0, (by first | assumption | rfl)⟩, rfl, upds_self _ ⟨by kernel_rfl, by kernel_rfl, by kernel_rfl, trivial⟩, rfl⟩)))
  · skip
    obtain ⟨_, q0, q1⟩ := hrel
    refine ok_seq ?_
    refine ok_seq ?_
    refine ok_region ?_
    refine s_val (.int .i64 2) (by kernel_rfl) (fun _ => by kernel_rfl) ?_
    refine s_val (.slice (some ⟨b1, 0, none⟩) 8 8) (by kernel_rfl) (fun _ => by kernel_rfl) ?_
    refine s_val (.int .i64 (8 : Int)) (by kernel_rfl) (fun _ => by kernel_rfl) ?_
    refine s_val (.bool true) (by kernel_rfl) (fun _ => by kernel_rfl) ?_
    refine s_nil ?_
    refine fin_seq ?_
    refine ok_true (by kernel_rfl) ?_
    refine ok_skip ?_
    refine fin_seq ?_
    refine ok_seq ?_
    refine ok_block ?_
    refine ok_seq ?_
    refine ok_region ?_
    refine s_val (.slice (some ⟨b1, 0, none⟩) 8 8) (by kernel_rfl) (fun _ => by kernel_rfl) ?_
    refine s_val (.int .i64 2) (by kernel_rfl) (fun _ => by kernel_rfl) ?_
    refine s_val (.pointer (some ⟨b1, 2, none⟩)) (by kernel_rfl) (run_ixsl (b := b1) (off := 0) (n := 8) (c := 8) (k := .i64) (j := 2) (e := 3) (sz := 1) rfl (by kernel_rfl) (by kernel_rfl) (by kernel_rfl) (by kernel_rfl) (by omega) (by omega) (by rfl)) ?_
    refine s_load 0 ⟨b1, #[.int .i64 2, .int .i64 4, .int .i64 6, .int .i64 1, .int .i64 3, .int .i64 5, .int .i64 7, .int .i64 8], 3⟩ (off := 2) (.int .i64 6) (by kernel_rfl) rfl (by kernel_rfl) (by kernel_rfl) (by kernel_rfl) ?_
    refine s_call (k := 51) (args := #[.int .i64 6]) (.string (mkS (signL 6))) (by kernel_rfl) (fun _ => by kernel_rfl) (fun w _ => rcsign_any 6 w) ?_
    refine s_val (.string (mkS (signL 6))) (by kernel_rfl) (fun _ => by kernel_rfl) ?_
    refine s_nil ?_
    refine fin_seq ?_
    refine ok_seq ?_
    refine ok_region ?_
    refine s_val (.string (mkS s)) (by kernel_rfl) (fun _ => by kernel_rfl) ?_
    refine s_val (.string (mkS (signL 6))) (by kernel_rfl) (fun _ => by kernel_rfl) ?_
    refine s_call (k := 74) (args := #[.string (mkS s), .string (mkS (signL 6))]) (.bool (beginsL s (signL 6))) (by kernel_rfl) (fun _ => by kernel_rfl) (fun w _ => rcbegins_any s (signL 6) w) ?_
    refine s_nil ?_
    refine fin_seq ?_
    cases h3 : beginsL s (signL 6) with
    | true =>
      have hble := begins_le h3
      refine ok_true (by kernel_rfl) ?_
      refine ok_seq ?_
      refine ok_draw (by kernel_rfl) (by kernel_rfl) ?_
      refine q_val (.slice (some ⟨b1, 0, none⟩) 8 8) (by kernel_rfl) (fun _ => by kernel_rfl) ?_
      refine q_val (.int .i64 2) (by kernel_rfl) (fun _ => by kernel_rfl) ?_
      refine q_val (.pointer (some ⟨b1, 2, none⟩)) (by kernel_rfl) (run_ixsl (b := b1) (off := 0) (n := 8) (c := 8) (k := .i64) (j := 2) (e := 3) (sz := 1) rfl (by kernel_rfl) (by kernel_rfl) (by kernel_rfl) (by kernel_rfl) (by omega) (by omega) (by rfl)) ?_
      refine q_load 0 ⟨b1, #[.int .i64 2, .int .i64 4, .int .i64 6, .int .i64 1, .int .i64 3, .int .i64 5, .int .i64 7, .int .i64 8], 3⟩ (off := 2) (.int .i64 6) (by kernel_rfl) rfl (by kernel_rfl) (by kernel_rfl) (by kernel_rfl) ?_
      refine q_val (.string (mkS s)) (by kernel_rfl) (fun _ => by kernel_rfl) ?_
      refine q_val (.string (mkS (signL 6))) (by kernel_rfl) (fun _ => by kernel_rfl) ?_
      refine q_val (.int .i64 ((mkS (signL 6)).size)) (by kernel_rfl) (fun _ => by kernel_rfl) ?_
      refine q_val (.string (mkS (s.drop (signL 6).length))) (by kernel_rfl) (run_strlo (s := s) (k := .i64) (j := (((signL 6).length : Nat) : Int)) rfl (by kernel_rfl) (by kernel_rfl) Tryz.underlying9 (by omega) (by omega)) ?_
      refine q_val (.int .i64 6) (by kernel_rfl) (fun _ => by kernel_rfl) ?_
      refine q_val (.string (mkS (s.drop (signL 6).length))) (by kernel_rfl) (fun _ => by kernel_rfl) ?_
      refine q_nil ?_
      refine fin_seq ?_
      refine ok_ret ?_
      refine fin_block_ret ?_
      refine fin_seq_ret ?_
      refine fin_round_ret ?_
      refine fin_block_ret ?_
      refine fin_seq_ret ?_
      refine fin_ret2 (.int .i64 6) (.string (mkS (s.drop (signL 6).length))) Tryz.results39 (by kernel_rfl) (by kernel_rfl) ?_
      exact fun w hO => ⟨by rw [splitC_eq]; simp only [q0, q1, h3, if_true, if_false, Bool.false_eq_true], hO.below⟩
    | false =>
      refine ok_false (by kernel_rfl) ?_
      refine ok_skip ?_
      refine fin_block ?_
      refine fin_seq ?_
      refine ok_region ?_
      refine s_val (.int .i64 2) (by kernel_rfl) (fun _ => by kernel_rfl) ?_
      refine s_val (.int .i64 3) (by kernel_rfl) (fun _ => by kernel_rfl) ?_
      refine s_val (.int .i64 3) (by kernel_rfl) (fun _ => by kernel_rfl) ?_
      refine s_nil ?_
      exact fin_round (m' := 6) (by decide) (.inr (.inr (.inr (.inl ⟨_, ⟨trivial, q0, q1, (by first | assumption | rfl)⟩, rfl, upds_self _ ⟨by kernel_rfl, by kernel_rfl, by kernel_rfl, trivial⟩, rfl⟩))))
  · skip
    obtain ⟨_, q0, q1, q2⟩ := hrel
    refine ok_seq ?_
    refine ok_seq ?_
    refine ok_region ?_
    refine s_val (.int .i64 3) (by kernel_rfl) (fun _ => by kernel_rfl) ?_
    refine s_val (.slice (some ⟨b1, 0, none⟩) 8 8) (by kernel_rfl) (fun _ => by kernel_rfl) ?_
    refine s_val (.int .i64 (8 : Int)) (by kernel_rfl) (fun _ => by kernel_rfl) ?_
    refine s_val (.bool true) (by kernel_rfl) (fun _ => by kernel_rfl) ?_
    refine s_nil ?_
    refine fin_seq ?_
    refine ok_true (by kernel_rfl) ?_
    refine ok_skip ?_
    refine fin_seq ?_
    refine ok_seq ?_
    refine ok_block ?_
    refine ok_seq ?_
    refine ok_region ?_
    refine s_val (.slice (some ⟨b1, 0, none⟩) 8 8) (by kernel_rfl) (fun _ => by kernel_rfl) ?_
    refine s_val (.int .i64 3) (by kernel_rfl) (fun _ => by kernel_rfl) ?_
    refine s_val (.pointer (some ⟨b1, 3, none⟩)) (by kernel_rfl) (run_ixsl (b := b1) (off := 0) (n := 8) (c := 8) (k := .i64) (j := 3) (e := 3) (sz := 1) rfl (by kernel_rfl) (by kernel_rfl) (by kernel_rfl) (by kernel_rfl) (by omega) (by omega) (by rfl)) ?_
    refine s_load 0 ⟨b1, #[.int .i64 2, .int .i64 4, .int .i64 6, .int .i64 1, .int .i64 3, .int .i64 5, .int .i64 7, .int .i64 8], 3⟩ (off := 3) (.int .i64 1) (by kernel_rfl) rfl (by kernel_rfl) (by kernel_rfl) (by kernel_rfl) ?_
    refine s_call (k := 51) (args := #[.int .i64 1]) (.string (mkS (signL 1))) (by kernel_rfl) (fun _ => by kernel_rfl) (fun w _ => rcsign_any 1 w) ?_
    refine s_val (.string (mkS (signL 1))) (by kernel_rfl) (fun _ => by kernel_rfl) ?_
    refine s_nil ?_
    refine fin_seq ?_
    refine ok_seq ?_
    refine ok_region ?_
    refine s_val (.string (mkS s)) (by kernel_rfl) (fun _ => by kernel_rfl) ?_
    refine s_val (.string (mkS (signL 1))) (by kernel_rfl) (fun _ => by kernel_rfl) ?_
    refine s_call (k := 74) (args := #[.string (mkS s), .string (mkS (signL 1))]) (.bool (beginsL s (signL 1))) (by kernel_rfl) (fun _ => by kernel_rfl) (fun w _ => rcbegins_any s (signL 1) w) ?_
    refine s_nil ?_
    refine fin_seq ?_
    cases h4 : beginsL s (signL 1) with
    | true =>
      have hble := begins_le h4
      refine ok_true (by kernel_rfl) ?_
      refine ok_seq ?_
      refine ok_draw (by kernel_rfl) (by kernel_rfl) ?_
      refine q_val (.slice (some ⟨b1, 0, none⟩) 8 8) (by kernel_rfl) (fun _ => by kernel_rfl) ?_
      refine q_val (.int .i64 3) (by kernel_rfl) (fun _ => by kernel_rfl) ?_
      refine q_val (.pointer (some ⟨b1, 3, none⟩)) (by kernel_rfl) (run_ixsl (b := b1) (off := 0) (n := 8) (c := 8) (k := .i64) (j := 3) (e := 3) (sz := 1) rfl (by kernel_rfl) (by kernel_rfl) (by kernel_rfl) (by kernel_rfl) (by omega) (by omega) (by rfl)) ?_
      refine q_load 0 ⟨b1, #[.int .i64 2, .int .i64 4, .int .i64 6, .int .i64 1, .int .i64 3, .int .i64 5, .int .i64 7, .int .i64 8], 3⟩ (off := 3) (.int .i64 1) (by kernel_rfl) rfl (by kernel_rfl) (by kernel_rfl) (by kernel_rfl) ?_
      refine q_val (.string (mkS s)) (by kernel_rfl) (fun _ => by kernel_rfl) ?_
      refine q_val (.string (mkS (signL 1))) (by kernel_rfl) (fun _ => by kernel_rfl) ?_
      refine q_val (.int .i64 ((mkS (signL 1)).size)) (by kernel_rfl) (fun _ => by kernel_rfl) ?_
      refine q_val (.string (mkS (s.drop (signL 1).length))) (by kernel_rfl) (run_strlo (s := s) (k := .i64) (j := (((signL 1).length : Nat) : Int)) rfl (by kernel_rfl) (by kernel_rfl) Tryz.underlying9 (by omega) (by omega)) ?_
      refine q_val (.int .i64 1) (by kernel_rfl) (fun _ => by kernel_rfl) ?_
      refine q_val (.string (mkS (s.drop (signL 1).length))) (by kernel_rfl) (fun _ => by kernel_rfl) ?_
      refine q_nil ?_
      refine fin_seq ?_
      refine ok_ret ?_
      refine fin_block_ret ?_
      refine fin_seq_ret ?_
      refine fin_round_ret ?_
      refine fin_block_ret ?_
      refine fin_seq_ret ?_
      refine fin_ret2 (.int .i64 1) (.string (mkS (s.drop (signL 1).length))) Tryz.results39 (by kernel_rfl) (by kernel_rfl) ?_
      exact fun w hO => ⟨by rw [splitC_eq]; simp only [q0, q1, q2, h4, if_true, if_false, Bool.false_eq_true], hO.below⟩
    | false =>
      refine ok_false (by kernel_rfl) ?_
      refine ok_skip ?_
      refine fin_block ?_
      refine fin_seq ?_
      refine ok_region ?_
      refine s_val (.int .i64 3) (by kernel_rfl) (fun _ => by kernel_rfl) ?_
      refine s_val (.int .i64 4) (by kernel_rfl) (fun _ => by kernel_rfl) ?_
      refine s_val (.int .i64 4) (by kernel_rfl) (fun _ => by kernel_rfl) ?_
      refine s_nil ?_
      exact fin_round (m' := 5) (by decide) (.inr (.inr (.inr (.inr (.inl ⟨_, ⟨trivial, q0, q1, q2, (by first | assumption | rfl)⟩, rfl, upds_self _ ⟨by kernel_rfl, by kernel_rfl, by kernel_rfl, trivial⟩, rfl⟩)))))
  · skip
    obtain ⟨_, q0, q1, q2, q3⟩ := hrel
    refine ok_seq ?_
    refine ok_seq ?_
    refine ok_region ?_
    refine s_val (.int .i64 4) (by kernel_rfl) (fun _ => by kernel_rfl) ?_
    refine s_val (.slice (some ⟨b1, 0, none⟩) 8 8) (by kernel_rfl) (fun _ => by kernel_rfl) ?_
    refine s_val (.int .i64 (8 : Int)) (by kernel_rfl) (fun _ => by kernel_rfl) ?_
    refine s_val (.bool true) (by kernel_rfl) (fun _ => by kernel_rfl) ?_
    refine s_nil ?_
    refine fin_seq ?_
    refine ok_true (by kernel_rfl) ?_
    refine ok_skip ?_
    refine fin_seq ?_
    refine ok_seq ?_
    refine ok_block ?_
    refine ok_seq ?_
    refine ok_region ?_
    refine s_val (.slice (some ⟨b1, 0, none⟩) 8 8) (by kernel_rfl) (fun _ => by kernel_rfl) ?_
    refine s_val (.int .i64 4) (by kernel_rfl) (fun _ => by kernel_rfl) ?_
    refine s_val (.pointer (some ⟨b1, 4, none⟩)) (by kernel_rfl) (run_ixsl (b := b1) (off := 0) (n := 8) (c := 8) (k := .i64) (j := 4) (e := 3) (sz := 1) rfl (by kernel_rfl) (by kernel_rfl) (by kernel_rfl) (by kernel_rfl) (by omega) (by omega) (by rfl)) ?_
    refine s_load 0 ⟨b1, #[.int .i64 2, .int .i64 4, .int .i64 6, .int .i64 1, .int .i64 3, .int .i64 5, .int .i64 7, .int .i64 8], 3⟩ (off := 4) (.int .i64 3) (by kernel_rfl) rfl (by kernel_rfl) (by kernel_rfl) (by kernel_rfl) ?_
    refine s_call (k := 51) (args := #[.int .i64 3]) (.string (mkS (signL 3))) (by kernel_rfl) (fun _ => by kernel_rfl) (fun w _ => rcsign_any 3 w) ?_
    refine s_val (.string (mkS (signL 3))) (by kernel_rfl) (fun _ => by kernel_rfl) ?_
    refine s_nil ?_
    refine fin_seq ?_
    refine ok_seq ?_
    refine ok_region ?_
    refine s_val (.string (mkS s)) (by kernel_rfl) (fun _ => by kernel_rfl) ?_
    refine s_val (.string (mkS (signL 3))) (by kernel_rfl) (fun _ => by kernel_rfl) ?_
    refine s_call (k := 74) (args := #[.string (mkS s), .string (mkS (signL 3))]) (.bool (beginsL s (signL 3))) (by kernel_rfl) (fun _ => by kernel_rfl) (fun w _ => rcbegins_any s (signL 3) w) ?_
    refine s_nil ?_
    refine fin_seq ?_
    cases h5 : beginsL s (signL 3) with
    | true =>
      have hble := begins_le h5
      refine ok_true (by kernel_rfl) ?_
      refine ok_seq ?_
      refine ok_draw (by kernel_rfl) (by kernel_rfl) ?_
      refine q_val (.slice (some ⟨b1, 0, none⟩) 8 8) (by kernel_rfl) (fun _ => by kernel_rfl) ?_
      refine q_val (.int .i64 4) (by kernel_rfl) (fun _ => by kernel_rfl) ?_
      refine q_val (.pointer (some ⟨b1, 4, none⟩)) (by kernel_rfl) (run_ixsl (b := b1) (off := 0) (n := 8) (c := 8) (k := .i64) (j := 4) (e := 3) (sz := 1) rfl (by kernel_rfl) (by kernel_rfl) (by kernel_rfl) (by kernel_rfl) (by omega) (by omega) (by rfl)) ?_
      refine q_load 0 ⟨b1, #[.int .i64 2, .int .i64 4, .int .i64 6, .int .i64 1, .int .i64 3, .int .i64 5, .int .i64 7, .int .i64 8], 3⟩ (off := 4) (.int .i64 3) (by kernel_rfl) rfl (by kernel_rfl) (by kernel_rfl) (by kernel_rfl) ?_
      refine q_val (.string (mkS s)) (by kernel_rfl) (fun _ => by kernel_rfl) ?_
      refine q_val (.string (mkS (signL 3))) (by kernel_rfl) (fun _ => by kernel_rfl) ?_
      refine q_val (.int .i64 ((mkS (signL 3)).size)) (by kernel_rfl) (fun _ => by kernel_rfl) ?_
      refine q_val (.string (mkS (s.drop (signL 3).length))) (by kernel_rfl) (run_strlo (s := s) (k := .i64) (j := (((signL 3).length : Nat) : Int)) rfl (by kernel_rfl) (by kernel_rfl) Tryz.underlying9 (by omega) (by omega)) ?_
      refine q_val (.int .i64 3) (by kernel_rfl) (fun _ => by kernel_rfl) ?_
      refine q_val (.string (mkS (s.drop (signL 3).length))) (by kernel_rfl) (fun _ => by kernel_rfl) ?_
      refine q_nil ?_
      refine fin_seq ?_
      refine ok_ret ?_
      refine fin_block_ret ?_
      refine fin_seq_ret ?_
      refine fin_round_ret ?_
      refine fin_block_ret ?_
      refine fin_seq_ret ?_
      refine fin_ret2 (.int .i64 3) (.string (mkS (s.drop (signL 3).length))) Tryz.results39 (by kernel_rfl) (by kernel_rfl) ?_
      exact fun w hO => ⟨by rw [splitC_eq]; simp only [q0, q1, q2, q3, h5, if_true, if_false, Bool.false_eq_true], hO.below⟩
    | false =>
      refine ok_false (by kernel_rfl) ?_
      refine ok_skip ?_
      refine fin_block ?_
      refine fin_seq ?_
      refine ok_region ?_
      refine s_val (.int .i64 4) (by kernel_rfl) (fun _ => by kernel_rfl) ?_
      refine s_val (.int .i64 5) (by kernel_rfl) (fun _ => by kernel_rfl) ?_
      refine s_val (.int .i64 5) (by kernel_rfl) (fun _ => by kernel_rfl) ?_
      refine s_nil ?_
      exact fin_round (m' := 4) (by decide) (.inr (.inr (.inr (.inr (.inr (.inl ⟨_, ⟨trivial, q0, q1, q2, q3, (by first | assumption | rfl)⟩, rfl, upds_self _ ⟨by kernel_rfl, by kernel_rfl, by kernel_rfl, trivial⟩, rfl⟩))))))
  · skip
    obtain ⟨_, q0, q1, q2, q3, q4⟩ := hrel
    refine ok_seq ?_
    refine ok_seq ?_
    refine ok_region ?_
    refine s_val (.int .i64 5) (by kernel_rfl) (fun _ => by kernel_rfl) ?_
    refine s_val (.slice (some ⟨b1, 0, none⟩) 8 8) (by kernel_rfl) (fun _ => by kernel_rfl) ?_
    refine s_val (.int .i64 (8 : Int)) (by kernel_rfl) (fun _ => by kernel_rfl) ?_
    refine s_val (.bool true) (by kernel_rfl) (fun _ => by kernel_rfl) ?_
    refine s_nil ?_
    refine fin_seq ?_
    refine ok_true (by kernel_rfl) ?_
    refine ok_skip ?_
    refine fin_seq ?_
    refine ok_seq ?_
    refine ok_block ?_
    refine ok_seq ?_
    refine ok_region ?_
    refine s_val (.slice (some ⟨b1, 0, none⟩) 8 8) (by kernel_rfl) (fun _ => by kernel_rfl) ?_
    refine s_val (.int .i64 5) (by kernel_rfl) (fun _ => by kernel_rfl) ?_
    refine s_val (.pointer (some ⟨b1, 5, none⟩)) (by kernel_rfl) (run_ixsl (b := b1) (off := 0) (n := 8) (c := 8) (k := .i64) (j := 5) (e := 3) (sz := 1) rfl (by kernel_rfl) (by kernel_rfl) (by kernel_rfl) (by kernel_rfl) (by omega) (by omega) (by rfl)) ?_
    refine s_load 0 ⟨b1, #[.int .i64 2, .int .i64 4, .int .i64 6, .int .i64 1, .int .i64 3, .int .i64 5, .int .i64 7, .int .i64 8], 3⟩ (off := 5) (.int .i64 5) (by kernel_rfl) rfl (by kernel_rfl) (by kernel_rfl) (by kernel_rfl) ?_
    refine s_call (k := 51) (args := #[.int .i64 5]) (.string (mkS (signL 5))) (by kernel_rfl) (fun _ => by kernel_rfl) (fun w _ => rcsign_any 5 w) ?_
    refine s_val (.string (mkS (signL 5))) (by kernel_rfl) (fun _ => by kernel_rfl) ?_
    refine s_nil ?_
    refine fin_seq ?_
    refine ok_seq ?_
    refine ok_region ?_
    refine s_val (.string (mkS s)) (by kernel_rfl) (fun _ => by kernel_rfl) ?_
    refine s_val (.string (mkS (signL 5))) (by kernel_rfl) (fun _ => by kernel_rfl) ?_
    refine s_call (k := 74) (args := #[.string (mkS s), .string (mkS (signL 5))]) (.bool (beginsL s (signL 5))) (by kernel_rfl) (fun _ => by kernel_rfl) (fun w _ => rcbegins_any s (signL 5) w) ?_
    refine s_nil ?_
    refine fin_seq ?_
    cases h6 : beginsL s (signL 5) with
    | true =>
      have hble := begins_le h6
      refine ok_true (by kernel_rfl) ?_
      refine ok_seq ?_
      refine ok_draw (by kernel_rfl) (by kernel_rfl) ?_
      refine q_val (.slice (some ⟨b1, 0, none⟩) 8 8) (by kernel_rfl) (fun _ => by kernel_rfl) ?_
      refine q_val (.int .i64 5) (by kernel_rfl) (fun _ => by kernel_rfl) ?_
      refine q_val (.pointer (some ⟨b1, 5, none⟩)) (by kernel_rfl) (run_ixsl (b := b1) (off := 0) (n := 8) (c := 8) (k := .i64) (j := 5) (e := 3) (sz := 1) rfl (by kernel_rfl) (by kernel_rfl) (by kernel_rfl) (by kernel_rfl) (by omega) (by omega) (by rfl)) ?_
      refine q_load 0 ⟨b1, #[.int .i64 2, .int .i64 4, .int .i64 6, .int .i64 1, .int .i64 3, .int .i64 5, .int .i64 7, .int .i64 8], 3⟩ (off := 5) (.int .i64 5) (by kernel_rfl) rfl (by kernel_rfl) (by kernel_rfl) (by kernel_rfl) ?_
      refine q_val (.string (mkS s)) (by kernel_rfl) (fun _ => by kernel_rfl) ?_
      refine q_val (.string (mkS (signL 5))) (by kernel_rfl) (fun _ => by kernel_rfl) ?_
      refine q_val (.int .i64 ((mkS (signL 5)).size)) (by kernel_rfl) (fun _ => by kernel_rfl) ?_
      refine q_val (.string (mkS (s.drop (signL 5).length))) (by kernel_rfl) (run_strlo (s := s) (k := .i64) (j := (((signL 5).length : Nat) : Int)) rfl (by kernel_rfl) (by kernel_rfl) Tryz.underlying9 (by omega) (by omega)) ?_
      refine q_val (.int .i64 5) (by kernel_rfl) (fun _ => by kernel_rfl) ?_
      refine q_val (.string (mkS (s.drop (signL 5).length))) (by kernel_rfl) (fun _ => by kernel_rfl) ?_
      refine q_nil ?_
      refine fin_seq ?_
      refine ok_ret ?_
      refine fin_block_ret ?_
      refine fin_seq_ret ?_
      refine fin_round_ret ?_
      refine fin_block_ret ?_
      refine fin_seq_ret ?_
      refine fin_ret2 (.int .i64 5) (.string (mkS (s.drop (signL 5).length))) Tryz.results39 (by kernel_rfl) (by kernel_rfl) ?_
      exact fun w hO => ⟨by rw [splitC_eq]; simp only [q0, q1, q2, q3, q4, h6, if_true, if_false, Bool.false_eq_true], hO.below⟩
    | false =>
      refine ok_false (by kernel_rfl) ?_
      refine ok_skip ?_
      refine fin_block ?_
      refine fin_seq ?_
      refine ok_region ?_
      refine s_val (.int .i64 5) (by kernel_rfl) (fun _ => by kernel_rfl) ?_
      refine s_val (.int .i64 6) (by kernel_rfl) (fun _ => by kernel_rfl) ?_
      refine s_val (.int .i64 6) (by kernel_rfl) (fun _ => by kernel_rfl) ?_
      refine s_nil ?_
      exact fin_round (m' := 3) (by decide) (.inr (.inr (.inr (.inr (.inr (.inr (.inl ⟨_, ⟨trivial, q0, q1, q2, q3, q4, (by first | assumption | rfl)⟩, rfl, upds_self _ ⟨by kernel_rfl, by kernel_rfl, by kernel_rfl, trivial⟩, rfl⟩)))))))
  · skip
    obtain ⟨_, q0, q1, q2, q3, q4, q5⟩ := hrel
    refine ok_seq ?_
    refine ok_seq ?_
    refine ok_region ?_
    refine s_val (.int .i64 6) (by kernel_rfl) (fun _ => by kernel_rfl) ?_
    refine s_val (.slice (some ⟨b1, 0, none⟩) 8 8) (by kernel_rfl) (fun _ => by kernel_rfl) ?_
    refine s_val (.int .i64 (8 : Int)) (by kernel_rfl) (fun _ => by kernel_rfl) ?_
    refine s_val (.bool true) (by kernel_rfl) (fun _ => by kernel_rfl) ?_
    refine s_nil ?_
    refine fin_seq ?_
    refine ok_true (by kernel_rfl) ?_
    refine ok_skip ?_
    refine fin_seq ?_
    refine ok_seq ?_
    refine ok_block ?_
    refine ok_seq ?_
    refine ok_region ?_
    refine s_val (.slice (some ⟨b1, 0, none⟩) 8 8) (by kernel_rfl) (fun _ => by kernel_rfl) ?_
    refine s_val (.int .i64 6) (by kernel_rfl) (fun _ => by kernel_rfl) ?_
    refine s_val (.pointer (some ⟨b1, 6, none⟩)) (by kernel_rfl) (run_ixsl (b := b1) (off := 0) (n := 8) (c := 8) (k := .i64) (j := 6) (e := 3) (sz := 1) rfl (by kernel_rfl) (by kernel_rfl) (by kernel_rfl) (by kernel_rfl) (by omega) (by omega) (by rfl)) ?_
    refine s_load 0 ⟨b1, #[.int .i64 2, .int .i64 4, .int .i64 6, .int .i64 1, .int .i64 3, .int .i64 5, .int .i64 7, .int .i64 8], 3⟩ (off := 6) (.int .i64 7) (by kernel_rfl) rfl (by kernel_rfl) (by kernel_rfl) (by kernel_rfl) ?_
    refine s_call (k := 51) (args := #[.int .i64 7]) (.string (mkS (signL 7))) (by kernel_rfl) (fun _ => by kernel_rfl) (fun w _ => rcsign_any 7 w) ?_
    refine s_val (.string (mkS (signL 7))) (by kernel_rfl) (fun _ => by kernel_rfl) ?_
    refine s_nil ?_
    refine fin_seq ?_
    refine ok_seq ?_
    refine ok_region ?_
    refine s_val (.string (mkS s)) (by kernel_rfl) (fun _ => by kernel_rfl) ?_
    refine s_val (.string (mkS (signL 7))) (by kernel_rfl) (fun _ => by kernel_rfl) ?_
    refine s_call (k := 74) (args := #[.string (mkS s), .string (mkS (signL 7))]) (.bool (beginsL s (signL 7))) (by kernel_rfl) (fun _ => by kernel_rfl) (fun w _ => rcbegins_any s (signL 7) w) ?_
    refine s_nil ?_
    refine fin_seq ?_
    cases h7 : beginsL s (signL 7) with
    | true =>
      have hble := begins_le h7
      refine ok_true (by kernel_rfl) ?_
      refine ok_seq ?_
      refine ok_draw (by kernel_rfl) (by kernel_rfl) ?_
      refine q_val (.slice (some ⟨b1, 0, none⟩) 8 8) (by kernel_rfl) (fun _ => by kernel_rfl) ?_
      refine q_val (.int .i64 6) (by kernel_rfl) (fun _ => by kernel_rfl) ?_
      refine q_val (.pointer (some ⟨b1, 6, none⟩)) (by kernel_rfl) (run_ixsl (b := b1) (off := 0) (n := 8) (c := 8) (k := .i64) (j := 6) (e := 3) (sz := 1) rfl (by kernel_rfl) (by kernel_rfl) (by kernel_rfl) (by kernel_rfl) (by omega) (by omega) (by rfl)) ?_
      refine q_load 0 ⟨b1, #[.int .i64 2, .int .i64 4, .int .i64 6, .int .i64 1, .int .i64 3, .int .i64 5, .int .i64 7, .int .i64 8], 3⟩ (off := 6) (.int .i64 7) (by kernel_rfl) rfl (by kernel_rfl) (by kernel_rfl) (by kernel_rfl) ?_
      refine q_val (.string (mkS s)) (by kernel_rfl) (fun _ => by kernel_rfl) ?_
      refine q_val (.string (mkS (signL 7))) (by kernel_rfl) (fun _ => by kernel_rfl) ?_
      refine q_val (.int .i64 ((mkS (signL 7)).size)) (by kernel_rfl) (fun _ => by kernel_rfl) ?_
      refine q_val (.string (mkS (s.drop (signL 7).length))) (by kernel_rfl) (run_strlo (s := s) (k := .i64) (j := (((signL 7).length : Nat) : Int)) rfl (by kernel_rfl) (by kernel_rfl) Tryz.underlying9 (by omega) (by omega)) ?_
      refine q_val (.int .i64 7) (by kernel_rfl) (fun _ => by kernel_rfl) ?_
      refine q_val (.string (mkS (s.drop (signL 7).length))) (by kernel_rfl) (fun _ => by kernel_rfl) ?_
      refine q_nil ?_
      refine fin_seq ?_
      refine ok_ret ?_
      refine fin_block_ret ?_
      refine fin_seq_ret ?_
      refine fin_round_ret ?_
      refine fin_block_ret ?_
      refine fin_seq_ret ?_
      refine fin_ret2 (.int .i64 7) (.string (mkS (s.drop (signL 7).length))) Tryz.results39 (by kernel_rfl) (by kernel_rfl) ?_
      exact fun w hO => ⟨by rw [splitC_eq]; simp only [q0, q1, q2, q3, q4, q5, h7, if_true, if_false, Bool.false_eq_true], hO.below⟩
    | false =>
      refine ok_false (by kernel_rfl) ?_
      refine ok_skip ?_
      refine fin_block ?_
      refine fin_seq ?_
      refine ok_region ?_
      refine s_val (.int .i64 6) (by kernel_rfl) (fun _ => by kernel_rfl) ?_
      refine s_val (.int .i64 7) (by kernel_rfl) (fun _ => by kernel_rfl) ?_
      refine s_val (.int .i64 7) (by kernel_rfl) (fun _ => by kernel_rfl) ?_
      refine s_nil ?_
      exact fin_round (m' := 2) (by decide) (.inr (.inr (.inr (.inr (.inr (.inr (.inr (.inl ⟨_, ⟨trivial, q0, q1, q2, q3, q4, q5, (by first | assumption | rfl)⟩, rfl, upds_self _ ⟨by kernel_rfl, by kernel_rfl, by kernel_rfl, trivial⟩, rfl⟩))))))))
  · skip
    obtain ⟨_, q0, q1, q2, q3, q4, q5, q6⟩ := hrel
    refine ok_seq ?_
    refine ok_seq ?_
    refine ok_region ?_
    refine s_val (.int .i64 7) (by kernel_rfl) (fun _ => by kernel_rfl) ?_
    refine s_val (.slice (some ⟨b1, 0, none⟩) 8 8) (by kernel_rfl) (fun _ => by kernel_rfl) ?_
    refine s_val (.int .i64 (8 : Int)) (by kernel_rfl) (fun _ => by kernel_rfl) ?_
    refine s_val (.bool true) (by kernel_rfl) (fun _ => by kernel_rfl) ?_
    refine s_nil ?_
    refine fin_seq ?_
    refine ok_true (by kernel_rfl) ?_
    refine ok_skip ?_
    refine fin_seq ?_
    refine ok_seq ?_
    refine ok_block ?_
    refine ok_seq ?_
    refine ok_region ?_
    refine s_val (.slice (some ⟨b1, 0, none⟩) 8 8) (by kernel_rfl) (fun _ => by kernel_rfl) ?_
    refine s_val (.int .i64 7) (by kernel_rfl) (fun _ => by kernel_rfl) ?_
    refine s_val (.pointer (some ⟨b1, 7, none⟩)) (by kernel_rfl) (run_ixsl (b := b1) (off := 0) (n := 8) (c := 8) (k := .i64) (j := 7) (e := 3) (sz := 1) rfl (by kernel_rfl) (by kernel_rfl) (by kernel_rfl) (by kernel_rfl) (by omega) (by omega) (by rfl)) ?_
    refine s_load 0 ⟨b1, #[.int .i64 2, .int .i64 4, .int .i64 6, .int .i64 1, .int .i64 3, .int .i64 5, .int .i64 7, .int .i64 8], 3⟩ (off := 7) (.int .i64 8) (by kernel_rfl) rfl (by kernel_rfl) (by kernel_rfl) (by kernel_rfl) ?_
    refine s_call (k := 51) (args := #[.int .i64 8]) (.string (mkS (signL 8))) (by kernel_rfl) (fun _ => by kernel_rfl) (fun w _ => rcsign_any 8 w) ?_
    refine s_val (.string (mkS (signL 8))) (by kernel_rfl) (fun _ => by kernel_rfl) ?_
    refine s_nil ?_
    refine fin_seq ?_
    refine ok_seq ?_
    refine ok_region ?_
    refine s_val (.string (mkS s)) (by kernel_rfl) (fun _ => by kernel_rfl) ?_
    refine s_val (.string (mkS (signL 8))) (by kernel_rfl) (fun _ => by kernel_rfl) ?_
    refine s_call (k := 74) (args := #[.string (mkS s), .string (mkS (signL 8))]) (.bool (beginsL s (signL 8))) (by kernel_rfl) (fun _ => by kernel_rfl) (fun w _ => rcbegins_any s (signL 8) w) ?_
    refine s_nil ?_
    refine fin_seq ?_
    cases h8 : beginsL s (signL 8) with
    | true =>
      have hble := begins_le h8
      refine ok_true (by kernel_rfl) ?_
      refine ok_seq ?_
      refine ok_draw (by kernel_rfl) (by kernel_rfl) ?_
      refine q_val (.slice (some ⟨b1, 0, none⟩) 8 8) (by kernel_rfl) (fun _ => by kernel_rfl) ?_
      refine q_val (.int .i64 7) (by kernel_rfl) (fun _ => by kernel_rfl) ?_
      refine q_val (.pointer (some ⟨b1, 7, none⟩)) (by kernel_rfl) (run_ixsl (b := b1) (off := 0) (n := 8) (c := 8) (k := .i64) (j := 7) (e := 3) (sz := 1) rfl (by kernel_rfl) (by kernel_rfl) (by kernel_rfl) (by kernel_rfl) (by omega) (by omega) (by rfl)) ?_
      refine q_load 0 ⟨b1, #[.int .i64 2, .int .i64 4, .int .i64 6, .int .i64 1, .int .i64 3, .int .i64 5, .int .i64 7, .int .i64 8], 3⟩ (off := 7) (.int .i64 8) (by kernel_rfl) rfl (by kernel_rfl) (by kernel_rfl) (by kernel_rfl) ?_
      refine q_val (.string (mkS s)) (by kernel_rfl) (fun _ => by kernel_rfl) ?_
      refine q_val (.string (mkS (signL 8))) (by kernel_rfl) (fun _ => by kernel_rfl) ?_
      refine q_val (.int .i64 ((mkS (signL 8)).size)) (by kernel_rfl) (fun _ => by kernel_rfl) ?_
      refine q_val (.string (mkS (s.drop (signL 8).length))) (by kernel_rfl) (run_strlo (s := s) (k := .i64) (j := (((signL 8).length : Nat) : Int)) rfl (by kernel_rfl) (by kernel_rfl) Tryz.underlying9 (by omega) (by omega)) ?_
      refine q_val (.int .i64 8) (by kernel_rfl) (fun _ => by kernel_rfl) ?_
      refine q_val (.string (mkS (s.drop (signL 8).length))) (by kernel_rfl) (fun _ => by kernel_rfl) ?_
      refine q_nil ?_
      refine fin_seq ?_
      refine ok_ret ?_
      refine fin_block_ret ?_
      refine fin_seq_ret ?_
      refine fin_round_ret ?_
      refine fin_block_ret ?_
      refine fin_seq_ret ?_
      refine fin_ret2 (.int .i64 8) (.string (mkS (s.drop (signL 8).length))) Tryz.results39 (by kernel_rfl) (by kernel_rfl) ?_
      exact fun w hO => ⟨by rw [splitC_eq]; simp only [q0, q1, q2, q3, q4, q5, q6, h8, if_true, if_false, Bool.false_eq_true], hO.below⟩
    | false =>
      refine ok_false (by kernel_rfl) ?_
      refine ok_skip ?_
      refine fin_block ?_
      refine fin_seq ?_
      refine ok_region ?_
      refine s_val (.int .i64 7) (by kernel_rfl) (fun _ => by kernel_rfl) ?_
      refine s_val (.int .i64 8) (by kernel_rfl) (fun _ => by kernel_rfl) ?_
      refine s_val (.int .i64 8) (by kernel_rfl) (fun _ => by kernel_rfl) ?_
      refine s_nil ?_
      exact fin_round (m' := 1) (by decide) (.inr (.inr (.inr (.inr (.inr (.inr (.inr (.inr (⟨_, ⟨trivial, q0, q1, q2, q3, q4, q5, q6, (by first | assumption | rfl)⟩, rfl, upds_self _ ⟨by kernel_rfl, by kernel_rfl, by kernel_rfl, trivial⟩, rfl⟩)))))))))
  · skip
    obtain ⟨_, q0, q1, q2, q3, q4, q5, q6, q7⟩ := hrel
    refine ok_seq ?_
    refine ok_seq ?_
    refine ok_region ?_
    refine s_val (.int .i64 8) (by kernel_rfl) (fun _ => by kernel_rfl) ?_
    refine s_val (.slice (some ⟨b1, 0, none⟩) 8 8) (by kernel_rfl) (fun _ => by kernel_rfl) ?_
    refine s_val (.int .i64 (8 : Int)) (by kernel_rfl) (fun _ => by kernel_rfl) ?_
    refine s_val (.bool false) (by kernel_rfl) (fun _ => by kernel_rfl) ?_
    refine s_nil ?_
    refine fin_seq ?_
    refine ok_false (by kernel_rfl) ?_
    refine ok_exit ?_
    refine fin_seq_exit ?_
    refine fin_round_exit ?_
    refine fin_block_exit ?_
    refine fin_seq ?_
    refine ok_seq ?_
    refine ok_seq ?_
    refine ok_region ?_
    refine s_val (.string (mkS s)) (by kernel_rfl) (fun _ => by kernel_rfl) ?_
    refine s_val (.int .i64 ((mkS s).size)) (by kernel_rfl) (fun _ => by kernel_rfl) ?_
    by_cases h9 : (0 : Int) < (mkS s).size
    · skip
      have hk : 0 < s.length := by omega
      obtain ⟨ch, hch⟩ : ∃ x, s[s.length - 1]'(by omega) = x := ⟨_, rfl⟩
      refine s_dec (p := (0 : Int) < (mkS s).size) true (by kernel_rfl) (fun _ => by kernel_rfl) (decide_eq_true (h9)) ?_
      refine s_val (.bool true) (by kernel_rfl) (fun _ => by kernel_rfl) ?_
      refine s_val (.string (mkS s)) (by kernel_rfl) (fun _ => by kernel_rfl) ?_
      refine s_val (.string (mkS s)) (by kernel_rfl) (fun _ => by kernel_rfl) ?_
      refine s_val (.int .i64 ((mkS s).size)) (by kernel_rfl) (fun _ => by kernel_rfl) ?_
      refine s_sum (k := .i64) ((((mkS s).size) : Int) - 1) (by kernel_rfl) (fun _ => by kernel_rfl) (IntWalk.i64_in _ (by omega)) ?_
      refine s_val (.int .u8 (ch.toNat : Int)) (by kernel_rfl) (fun w => by rw [← hch]; exact run_stridx (s := s) (k := .i64) (j := ((s.length - 1 : Nat) : Int)) rfl (by kernel_rfl) (by rw [show ((s.length - 1 : Nat) : Int) = (mkS s).size - 1 by omega]; kernel_rfl) Tryz.underlying9 (by omega) (by omega) w) ?_
      by_cases h10 : (ch.toNat : Int) = 42
      · skip
        refine s_dec (p := (ch.toNat : Int) = 42) true (by kernel_rfl) (fun _ => by kernel_rfl) (decide_eq_true (h10)) ?_
        refine s_val (.bool true) (by kernel_rfl) (fun _ => by kernel_rfl) ?_
        refine s_nil ?_
        refine fin_seq ?_
        refine ok_true (by kernel_rfl) ?_
        refine ok_seq ?_
        refine ok_region ?_
        refine s_val (.string (mkS s)) (by kernel_rfl) (fun _ => by kernel_rfl) ?_
        refine s_val (.int .i64 9) (by kernel_rfl) (fun _ => by kernel_rfl) ?_
        refine s_val (.string (mkS s)) (by kernel_rfl) (fun _ => by kernel_rfl) ?_
        refine s_nil ?_
        refine fin_seq ?_
        refine ok_ret ?_
        refine fin_seq_ret ?_
        refine fin_ret2 (.int .i64 9) (.string (mkS s)) Tryz.results39 (by kernel_rfl) (by kernel_rfl) ?_
        exact fun w hO => ⟨by rw [splitC_eq]; simp only [q0, q1, q2, q3, q4, q5, q6, q7, if_false, Bool.false_eq_true]; rw [if_pos (by rw [last_is hk hch, (byte_is (n := 42) (by decide)).1 h10]; rfl)], hO.below⟩
      · skip
        refine s_dec (p := (ch.toNat : Int) = 42) false (by kernel_rfl) (fun _ => by kernel_rfl) (decide_eq_false (h10)) ?_
        refine s_val (.bool false) (by kernel_rfl) (fun _ => by kernel_rfl) ?_
        refine s_nil ?_
        refine fin_seq ?_
        refine ok_false (by kernel_rfl) ?_
        refine ok_skip ?_
        refine fin_seq ?_
        refine ok_seq ?_
        refine ok_region ?_
        refine s_val (.string (mkS s)) (by kernel_rfl) (fun _ => by kernel_rfl) ?_
        refine s_val (.int .i64 7) (by kernel_rfl) (fun _ => by kernel_rfl) ?_
        refine s_val (.string (mkS s)) (by kernel_rfl) (fun _ => by kernel_rfl) ?_
        refine s_nil ?_
        refine fin_seq ?_
        refine ok_ret ?_
        refine fin_ret2 (.int .i64 7) (.string (mkS s)) Tryz.results39 (by kernel_rfl) (by kernel_rfl) ?_
        exact fun w hO => ⟨by rw [splitC_eq]; simp only [q0, q1, q2, q3, q4, q5, q6, q7, if_false, Bool.false_eq_true]; rw [if_neg (by rw [last_is hk hch]; intro q9; exact h10 ((byte_is (n := 42) (by decide)).2 (Option.some.inj q9)))], hO.below⟩
    · skip
      refine s_dec (p := (0 : Int) < (mkS s).size) false (by kernel_rfl) (fun _ => by kernel_rfl) (decide_eq_false (h9)) ?_
      refine s_val (.bool false) (by kernel_rfl) (fun _ => by kernel_rfl) ?_
      refine s_skip (by kernel_rfl) ?_
      refine s_skip (by kernel_rfl) ?_
      refine s_skip (by kernel_rfl) ?_
      refine s_skip (by kernel_rfl) ?_
      refine s_skip (by kernel_rfl) ?_
      refine s_skip (by kernel_rfl) ?_
      refine s_val (.bool false) (by kernel_rfl) (fun _ => by kernel_rfl) ?_
      refine s_nil ?_
      refine fin_seq ?_
      refine ok_false (by kernel_rfl) ?_
      refine ok_skip ?_
      refine fin_seq ?_
      refine ok_seq ?_
      refine ok_region ?_
      refine s_val (.string (mkS s)) (by kernel_rfl) (fun _ => by kernel_rfl) ?_
      refine s_val (.int .i64 7) (by kernel_rfl) (fun _ => by kernel_rfl) ?_
      refine s_val (.string (mkS s)) (by kernel_rfl) (fun _ => by kernel_rfl) ?_
      refine s_nil ?_
      refine fin_seq ?_
      refine ok_ret ?_
      refine fin_ret2 (.int .i64 7) (.string (mkS s)) Tryz.results39 (by kernel_rfl) (by kernel_rfl) ?_
      exact fun w hO => ⟨by rw [splitC_eq]; simp only [q0, q1, q2, q3, q4, q5, q6, q7, if_false, Bool.false_eq_true]; rw [if_neg (by rw [List.eq_nil_of_length_eq_zero (show s.length = 0 by omega)]; decide)], hO.below⟩
end Go.Proofs.YtjabcbagggicaaaGreatDoor
end

section
/-
  linchpinref6: numbers: what it returns for strings of at most a million bytes; nothing that was there is changed.
-/
namespace Go.Proofs.YtjabcbagggicaaaGreatDoor
open Go.RowKit
set_option maxRecDepth 100000
set_option linter.unusedVariables false
set_option linter.unusedSimpArgs false
set_option maxHeartbeats 2000000

set_option maxHeartbeats 4000000 in
theorem rcnumbers_any (A : Option Addr) (n cap : Nat) (l : List (List UInt8)) (W : World) (hv : Reads strC W W.heap.size A l) (hn : n = l.length) (htl : ∀ i, (tg l i).length ≤ 1000000) (hmx : l.length ≤ 4000000) : Calls Tryz.prog 42 #[.slice A n cap] W fun e w' => e = .returned (.tuple #[verV (numsVal l), .bool (numsOk l)]) ∧ Below W.heap.size W w' := by
  refine calls_ok (n := 39) Tryz.func42 rfl (by kernel_rfl) (by kernel_rfl) ?_
  refine ok_seq ?_
  refine ok_region ?_
  refine s_alloc_at (.agg #[.int .i64 0, .int .i64 0, .int .i64 0, .string ⟨#[]⟩, .string ⟨#[]⟩]) (by kernel_rfl) rfl (by kernel_rfl) (fun b1 => ?_)
  refine s_val (.bool false) (by kernel_rfl) (fun _ => by kernel_rfl) ?_
  refine s_nil ?_
  refine fin_seq ?_
  refine ok_seq ?_
  refine ok_region ?_
  refine s_alloc_at (.agg #[.int .i64 0, .int .i64 0, .int .i64 0]) (by kernel_rfl) rfl (by kernel_rfl) (fun b2 => ?_)
  refine s_nil ?_
  refine fin_seq ?_
  refine ok_seq ?_
  refine ok_seq ?_
  refine ok_region ?_
  refine s_val (.slice A n cap) (by kernel_rfl) (fun _ => by kernel_rfl) ?_
  refine s_val (.int .i64 (n : Int)) (by kernel_rfl) (fun _ => by kernel_rfl) ?_
  by_cases h1 : (3 : Int) < (n : Int)
  · skip
    have hk : 3 < l.length := by omega
    obtain ⟨b, off, hA, hlt, hcell⟩ := hv (by omega)
    refine s_dec (p := (3 : Int) < (n : Int)) true (by kernel_rfl) (fun _ => by kernel_rfl) (decide_eq_true (h1)) ?_
    refine s_nil ?_
    refine fin_seq ?_
    refine ok_true (by kernel_rfl) ?_
    refine ok_seq ?_
    refine ok_region ?_
    refine s_val (.agg #[.int .i64 0, .int .i64 0, .int .i64 0, .string ⟨#[]⟩, .string ⟨#[]⟩]) (by kernel_rfl) (fun _ => by kernel_rfl) ?_
    refine s_store_at 1 ⟨b1, #[.int .i64 0, .int .i64 0, .int .i64 0, .string ⟨#[]⟩, .string ⟨#[]⟩], 24⟩ (off := 0) (.agg #[.int .i64 0, .int .i64 0, .int .i64 0, .string ⟨#[]⟩, .string ⟨#[]⟩]) (by kernel_rfl) rfl rfl (by kernel_rfl) (by kernel_rfl) (by kernel_rfl) (by kernel_rfl) (by kernel_rfl) ?_
    refine s_val (.bool false) (by kernel_rfl) (fun _ => by kernel_rfl) ?_
    refine s_nil ?_
    refine fin_seq ?_
    refine ok_ret ?_
    refine fin_seq_ret ?_
    refine fin_cell2 1 ⟨b1, #[.int .i64 0, .int .i64 0, .int .i64 0, .string ⟨#[]⟩, .string ⟨#[]⟩], 24⟩ (off := 0) (.agg #[.int .i64 0, .int .i64 0, .int .i64 0, .string ⟨#[]⟩, .string ⟨#[]⟩]) (.bool false) Tryz.results42 (by kernel_rfl) (by kernel_rfl) (by kernel_rfl) (by kernel_rfl) ?_
    exact fun w hO => ⟨by have hno : numsOk l = false := nums_big (by omega); rw [show numsVal l = Ver.zero from if_neg (by rw [hno]; decide), hno]; rfl, hO.below⟩
  · skip
    refine s_dec (p := (3 : Int) < (n : Int)) false (by kernel_rfl) (fun _ => by kernel_rfl) (decide_eq_false (h1)) ?_
    refine s_nil ?_
    refine fin_seq ?_
    refine ok_false (by kernel_rfl) ?_
    refine ok_skip ?_
    refine fin_seq ?_
    refine ok_seq ?_
    refine ok_seq ?_
    refine ok_region ?_
    refine s_val (.int .i64 0) (by kernel_rfl) (fun _ => by kernel_rfl) ?_
    refine s_nil ?_
    refine fin_seq ?_
    refine ok_block ?_
    refine ok_loop (fun L f m => (∃  (j : Nat → Value), (0 ≤ l.length) ∧ L = [⟨b2, #[.int .i64 0, .int .i64 0, .int .i64 0], 55⟩, ⟨b1, #[.int .i64 0, .int .i64 0, .int .i64 0, .string ⟨#[]⟩, .string ⟨#[]⟩], 24⟩] ∧ f = upds j [(0, .slice A n cap), (2, .pointer (some ⟨b1, 0, none⟩)), (4, .pointer (some ⟨b2, 0, none⟩)), (5, .int .i64 0)] ∧ m = 4) ∨ (∃  (j : Nat → Value), (1 ≤ l.length ∧ numI (tg l 0) = true) ∧ L = [⟨b2, #[.int .i64 (numD (tg l 0)), .int .i64 0, .int .i64 0], 55⟩, ⟨b1, #[.int .i64 0, .int .i64 0, .int .i64 0, .string ⟨#[]⟩, .string ⟨#[]⟩], 24⟩] ∧ f = upds j [(0, .slice A n cap), (2, .pointer (some ⟨b1, 0, none⟩)), (4, .pointer (some ⟨b2, 0, none⟩)), (5, .int .i64 1)] ∧ m = 3) ∨ (∃  (j : Nat → Value), (2 ≤ l.length ∧ numI (tg l 0) = true ∧ numI (tg l 1) = true) ∧ L = [⟨b2, #[.int .i64 (numD (tg l 0)), .int .i64 (numD (tg l 1)), .int .i64 0], 55⟩, ⟨b1, #[.int .i64 0, .int .i64 0, .int .i64 0, .string ⟨#[]⟩, .string ⟨#[]⟩], 24⟩] ∧ f = upds j [(0, .slice A n cap), (2, .pointer (some ⟨b1, 0, none⟩)), (4, .pointer (some ⟨b2, 0, none⟩)), (5, .int .i64 2)] ∧ m = 2) ∨ (∃  (j : Nat → Value), (3 ≤ l.length ∧ numI (tg l 0) = true ∧ numI (tg l 1) = true ∧ numI (tg l 2) = true) ∧ L = [⟨b2, #[.int .i64 (numD (tg l 0)), .int .i64 (numD (tg l 1)), .int .i64 (numD (tg l 2))], 55⟩, ⟨b1, #[.int .i64 0, .int .i64 0, .int .i64 0, .string ⟨#[]⟩, .string ⟨#[]⟩], 24⟩] ∧ f = upds j [(0, .slice A n cap), (2, .pointer (some ⟨b1, 0, none⟩)), (4, .pointer (some ⟨b2, 0, none⟩)), (5, .int .i64 3)] ∧ m = 1)) 4 (.inl ⟨_, Nat.zero_le _, rfl, upds_self _ ⟨by kernel_rfl, by kernel_rfl, by kernel_rfl, by kernel_rfl, trivial⟩, rfl⟩) ?_
    rintro L f m (⟨j, hrel, rfl, rfl, rfl⟩ | ⟨j, hrel, rfl, rfl, rfl⟩ | ⟨j, hrel, rfl, rfl, rfl⟩ | ⟨j, hrel, rfl, rfl, rfl⟩)
    · skip
      have qn := hrel
      refine ok_seq ?_
      refine ok_seq ?_
      refine ok_region ?_
      refine s_val (.int .i64 0) (by kernel_rfl) (fun _ => by kernel_rfl) ?_
      refine s_val (.slice A n cap) (by kernel_rfl) (fun _ => by kernel_rfl) ?_
      refine s_val (.int .i64 (n : Int)) (by kernel_rfl) (fun _ => by kernel_rfl) ?_
      by_cases h2 : (0 : Int) < (n : Int)
      · skip
        have hk : 0 < l.length := by omega
        obtain ⟨b, off, hA, hlt, hcell⟩ := hv (by omega)
        refine s_dec (p := (0 : Int) < (n : Int)) true (by kernel_rfl) (fun _ => by kernel_rfl) (decide_eq_true (h2)) ?_
        refine s_nil ?_
        refine fin_seq ?_
        refine ok_true (by kernel_rfl) ?_
        refine ok_skip ?_
        refine fin_seq ?_
        refine ok_seq ?_
        refine ok_block ?_
        refine ok_seq ?_
        refine ok_region ?_
        refine s_val (.slice A n cap) (by kernel_rfl) (fun _ => by kernel_rfl) ?_
        refine s_val (.int .i64 0) (by kernel_rfl) (fun _ => by kernel_rfl) ?_
        refine s_val (.pointer (some ⟨b, off + 0 * 1, none⟩)) (by kernel_rfl) (run_ixA (b := b) (off := off) (c := cap) (n := n) (k := .i64) (j := 0) (e := 9) (sz := 1) rfl (by kernel_rfl) hA (by kernel_rfl) (by kernel_rfl) (by kernel_rfl) (by omega) (by omega) (by rfl)) ?_
        refine s_old (.string (mkS (tg l 0))) (a := ⟨b, off + 0 * 1, none⟩) (by kernel_rfl) rfl (by kernel_rfl) (fun w hO => elem_load strC_len (fun j u h => (hO.below.cell (p := ⟨b, off + j, none⟩) hlt).trans (hcell j u h)) 0 0 hk (by omega) _ (by rw [tgi_get hk]; kernel_rfl)) ?_
        refine s_call (k := 75) (args := #[.string (mkS (tg l 0))]) (.tuple #[.int .i64 (numD (tg l 0)), .bool (numI (tg l 0))]) (by kernel_rfl) (fun _ => by kernel_rfl) (fun w _ => (rnumber_mk (tg l 0) w (Nat.le_trans (htl 0) (by decide))).mono fun e w' ⟨q1, q2⟩ => ⟨q1, q2 ▸ Below.refl _ _⟩) ?_
        refine s_val (.tuple #[.int .i64 (numD (tg l 0)), .bool (numI (tg l 0))]) (by kernel_rfl) (fun _ => by kernel_rfl) ?_
        refine s_val (.int .i64 (numD (tg l 0))) (by kernel_rfl) (fun _ => by kernel_rfl) ?_
        refine s_val (.bool (numI (tg l 0))) (by kernel_rfl) (fun _ => by kernel_rfl) ?_
        refine s_val (.int .i64 (numD (tg l 0))) (by kernel_rfl) (fun _ => by kernel_rfl) ?_
        refine s_val (.bool (numI (tg l 0))) (by kernel_rfl) (fun _ => by kernel_rfl) ?_
        refine s_nil ?_
        refine fin_seq ?_
        refine ok_seq ?_
        refine ok_seq ?_
        refine ok_region ?_
        refine s_val (.bool (numI (tg l 0))) (by kernel_rfl) (fun _ => by kernel_rfl) ?_
        cases h3 : numI (tg l 0) with
        | true =>
          refine s_val (.bool false) (by kernel_rfl) (fun _ => by kernel_rfl) ?_
          refine s_nil ?_
          refine fin_seq ?_
          refine ok_false (by kernel_rfl) ?_
          refine ok_skip ?_
          refine fin_seq ?_
          refine ok_region ?_
          refine s_val (.int .i64 0) (by kernel_rfl) (fun _ => by kernel_rfl) ?_
          refine s_val (.int .i64 (numD (tg l 0))) (by kernel_rfl) (fun _ => by kernel_rfl) ?_
          refine s_val (.pointer (some ⟨b2, 0, none⟩)) (by kernel_rfl) (fun _ => by kernel_rfl) ?_
          refine s_store_at 0 ⟨b2, #[.int .i64 0, .int .i64 0, .int .i64 0], 55⟩ (off := 0) (.int .i64 (numD (tg l 0))) (by kernel_rfl) rfl rfl (by kernel_rfl) (by kernel_rfl) (by kernel_rfl) (by kernel_rfl) (by kernel_rfl) ?_
          refine s_nil ?_
          refine fin_block ?_
          refine fin_seq ?_
          refine ok_region ?_
          refine s_val (.int .i64 0) (by kernel_rfl) (fun _ => by kernel_rfl) ?_
          refine s_val (.int .i64 1) (by kernel_rfl) (fun _ => by kernel_rfl) ?_
          refine s_val (.int .i64 1) (by kernel_rfl) (fun _ => by kernel_rfl) ?_
          refine s_nil ?_
          exact fin_round (m' := 3) (by decide) (.inr (.inl ⟨_, ⟨by omega, (by first | assumption | rfl)⟩, rfl, upds_self _ ⟨by kernel_rfl, by kernel_rfl, by kernel_rfl, by kernel_rfl, trivial⟩, rfl⟩))
        | false =>
          refine s_val (.bool true) (by kernel_rfl) (fun _ => by kernel_rfl) ?_
          refine s_nil ?_
          refine fin_seq ?_
          refine ok_true (by kernel_rfl) ?_
          refine ok_seq ?_
          refine ok_region ?_
          refine s_val (.agg #[.int .i64 0, .int .i64 0, .int .i64 0, .string ⟨#[]⟩, .string ⟨#[]⟩]) (by kernel_rfl) (fun _ => by kernel_rfl) ?_
          refine s_store_at 1 ⟨b1, #[.int .i64 0, .int .i64 0, .int .i64 0, .string ⟨#[]⟩, .string ⟨#[]⟩], 24⟩ (off := 0) (.agg #[.int .i64 0, .int .i64 0, .int .i64 0, .string ⟨#[]⟩, .string ⟨#[]⟩]) (by kernel_rfl) rfl rfl (by kernel_rfl) (by kernel_rfl) (by kernel_rfl) (by kernel_rfl) (by kernel_rfl) ?_
          refine s_val (.bool false) (by kernel_rfl) (fun _ => by kernel_rfl) ?_
          refine s_nil ?_
          refine fin_seq ?_
          refine ok_ret ?_
          refine fin_seq_ret ?_
          refine fin_block_ret ?_
          refine fin_seq_ret ?_
          refine fin_round_ret ?_
          refine fin_block_ret ?_
          refine fin_seq_ret ?_
          refine fin_cell2 1 ⟨b1, #[.int .i64 0, .int .i64 0, .int .i64 0, .string ⟨#[]⟩, .string ⟨#[]⟩], 24⟩ (off := 0) (.agg #[.int .i64 0, .int .i64 0, .int .i64 0, .string ⟨#[]⟩, .string ⟨#[]⟩]) (.bool false) Tryz.results42 (by kernel_rfl) (by kernel_rfl) (by kernel_rfl) (by kernel_rfl) ?_
          exact fun w hO => ⟨by have hno : numsOk l = false := nums_bad hk (by assumption); rw [show numsVal l = Ver.zero from if_neg (by rw [hno]; decide), hno]; rfl, hO.below⟩
      · skip
        refine s_dec (p := (0 : Int) < (n : Int)) false (by kernel_rfl) (fun _ => by kernel_rfl) (decide_eq_false (h2)) ?_
        refine s_nil ?_
        refine fin_seq ?_
        refine ok_false (by kernel_rfl) ?_
        refine ok_exit ?_
        refine fin_seq_exit ?_
        refine fin_round_exit ?_
        refine fin_block_exit ?_
        refine fin_seq ?_
        refine ok_seq ?_
        refine ok_region ?_
        refine s_val (.pointer (some ⟨b2, 0, none⟩)) (by kernel_rfl) (fun _ => by kernel_rfl) ?_
        refine s_load 0 ⟨b2, #[.int .i64 0, .int .i64 0, .int .i64 0], 55⟩ (off := 0) (.int .i64 0) (by kernel_rfl) rfl (by kernel_rfl) (by kernel_rfl) (by kernel_rfl) ?_
        refine s_val (.pointer (some ⟨b2, 1, none⟩)) (by kernel_rfl) (fun _ => by kernel_rfl) ?_
        refine s_load 0 ⟨b2, #[.int .i64 0, .int .i64 0, .int .i64 0], 55⟩ (off := 1) (.int .i64 0) (by kernel_rfl) rfl (by kernel_rfl) (by kernel_rfl) (by kernel_rfl) ?_
        refine s_val (.pointer (some ⟨b2, 2, none⟩)) (by kernel_rfl) (fun _ => by kernel_rfl) ?_
        refine s_load 0 ⟨b2, #[.int .i64 0, .int .i64 0, .int .i64 0], 55⟩ (off := 2) (.int .i64 0) (by kernel_rfl) rfl (by kernel_rfl) (by kernel_rfl) (by kernel_rfl) ?_
        refine s_val (.agg #[.int .i64 0, .int .i64 0, .int .i64 0, .string ⟨#[]⟩, .string ⟨#[]⟩]) (by kernel_rfl) (fun _ => by kernel_rfl) ?_
        refine s_store_at 1 ⟨b1, #[.int .i64 0, .int .i64 0, .int .i64 0, .string ⟨#[]⟩, .string ⟨#[]⟩], 24⟩ (off := 0) (.agg #[.int .i64 0, .int .i64 0, .int .i64 0, .string ⟨#[]⟩, .string ⟨#[]⟩]) (by kernel_rfl) rfl rfl (by kernel_rfl) (by kernel_rfl) (by kernel_rfl) (by kernel_rfl) (by kernel_rfl) ?_
        refine s_val (.bool true) (by kernel_rfl) (fun _ => by kernel_rfl) ?_
        refine s_nil ?_
        refine fin_seq ?_
        refine ok_ret ?_
        refine fin_cell2 1 ⟨b1, #[.int .i64 0, .int .i64 0, .int .i64 0, .string ⟨#[]⟩, .string ⟨#[]⟩], 24⟩ (off := 0) (.agg #[.int .i64 0, .int .i64 0, .int .i64 0, .string ⟨#[]⟩, .string ⟨#[]⟩]) (.bool true) Tryz.results42 (by kernel_rfl) (by kernel_rfl) (by kernel_rfl) (by kernel_rfl) ?_
        exact fun w hO => ⟨by have hok : numsOk l = true := nums_all (by omega) (fun i hi => by omega); rw [show numsVal l = ⟨numD (tg l 0), numD (tg l 1), numD (tg l 2), [], []⟩ from if_pos hok, hok, tgi_out (i := 0) (by omega), tgi_out (i := 1) (by omega), tgi_out (i := 2) (by omega)]; rfl, hO.below⟩
    · skip
      obtain ⟨qn, q0⟩ := hrel
      refine ok_seq ?_
      refine ok_seq ?_
      refine ok_region ?_
      refine s_val (.int .i64 1) (by kernel_rfl) (fun _ => by kernel_rfl) ?_
      refine s_val (.slice A n cap) (by kernel_rfl) (fun _ => by kernel_rfl) ?_
      refine s_val (.int .i64 (n : Int)) (by kernel_rfl) (fun _ => by kernel_rfl) ?_
      by_cases h4 : (1 : Int) < (n : Int)
      · skip
        have hk : 1 < l.length := by omega
        obtain ⟨b, off, hA, hlt, hcell⟩ := hv (by omega)
        refine s_dec (p := (1 : Int) < (n : Int)) true (by kernel_rfl) (fun _ => by kernel_rfl) (decide_eq_true (h4)) ?_
        refine s_nil ?_
        refine fin_seq ?_
        refine ok_true (by kernel_rfl) ?_
        refine ok_skip ?_
        refine fin_seq ?_
        refine ok_seq ?_
        refine ok_block ?_
        refine ok_seq ?_
        refine ok_region ?_
        refine s_val (.slice A n cap) (by kernel_rfl) (fun _ => by kernel_rfl) ?_
        refine s_val (.int .i64 1) (by kernel_rfl) (fun _ => by kernel_rfl) ?_
        refine s_val (.pointer (some ⟨b, off + 1 * 1, none⟩)) (by kernel_rfl) (run_ixA (b := b) (off := off) (c := cap) (n := n) (k := .i64) (j := 1) (e := 9) (sz := 1) rfl (by kernel_rfl) hA (by kernel_rfl) (by kernel_rfl) (by kernel_rfl) (by omega) (by omega) (by rfl)) ?_
        refine s_old (.string (mkS (tg l 1))) (a := ⟨b, off + 1 * 1, none⟩) (by kernel_rfl) rfl (by kernel_rfl) (fun w hO => elem_load strC_len (fun j u h => (hO.below.cell (p := ⟨b, off + j, none⟩) hlt).trans (hcell j u h)) 1 0 hk (by omega) _ (by rw [tgi_get hk]; kernel_rfl)) ?_
        refine s_call (k := 75) (args := #[.string (mkS (tg l 1))]) (.tuple #[.int .i64 (numD (tg l 1)), .bool (numI (tg l 1))]) (by kernel_rfl) (fun _ => by kernel_rfl) (fun w _ => (rnumber_mk (tg l 1) w (Nat.le_trans (htl 1) (by decide))).mono fun e w' ⟨q1, q2⟩ => ⟨q1, q2 ▸ Below.refl _ _⟩) ?_
        refine s_val (.tuple #[.int .i64 (numD (tg l 1)), .bool (numI (tg l 1))]) (by kernel_rfl) (fun _ => by kernel_rfl) ?_
        refine s_val (.int .i64 (numD (tg l 1))) (by kernel_rfl) (fun _ => by kernel_rfl) ?_
        refine s_val (.bool (numI (tg l 1))) (by kernel_rfl) (fun _ => by kernel_rfl) ?_
        refine s_val (.int .i64 (numD (tg l 1))) (by kernel_rfl) (fun _ => by kernel_rfl) ?_
        refine s_val (.bool (numI (tg l 1))) (by kernel_rfl) (fun _ => by kernel_rfl) ?_
        refine s_nil ?_
        refine fin_seq ?_
        refine ok_seq ?_
        refine ok_seq ?_
        refine ok_region ?_
        refine s_val (.bool (numI (tg l 1))) (by kernel_rfl) (fun _ => by kernel_rfl) ?_
        cases h5 : numI (tg l 1) with
        | true =>
          refine s_val (.bool false) (by kernel_rfl) (fun _ => by kernel_rfl) ?_
          refine s_nil ?_
          refine fin_seq ?_
          refine ok_false (by kernel_rfl) ?_
          refine ok_skip ?_
          refine fin_seq ?_
          refine ok_region ?_
          refine s_val (.int .i64 1) (by kernel_rfl) (fun _ => by kernel_rfl) ?_
          refine s_val (.int .i64 (numD (tg l 1))) (by kernel_rfl) (fun _ => by kernel_rfl) ?_
          refine s_val (.pointer (some ⟨b2, 1, none⟩)) (by kernel_rfl) (fun _ => by kernel_rfl) ?_
          refine s_store_at 0 ⟨b2, #[.int .i64 (numD (tg l 0)), .int .i64 0, .int .i64 0], 55⟩ (off := 1) (.int .i64 (numD (tg l 1))) (by kernel_rfl) rfl rfl (by kernel_rfl) (by kernel_rfl) (by kernel_rfl) (by kernel_rfl) (by kernel_rfl) ?_
          refine s_nil ?_
          refine fin_block ?_
          refine fin_seq ?_
          refine ok_region ?_
          refine s_val (.int .i64 1) (by kernel_rfl) (fun _ => by kernel_rfl) ?_
          refine s_val (.int .i64 2) (by kernel_rfl) (fun _ => by kernel_rfl) ?_
          refine s_val (.int .i64 2) (by kernel_rfl) (fun _ => by kernel_rfl) ?_
          refine s_nil ?_
          exact fin_round (m' := 2) (by decide) (.inr (.inr (.inl ⟨_, ⟨by omega, q0, (by first | assumption | rfl)⟩, rfl, upds_self _ ⟨by kernel_rfl, by kernel_rfl, by kernel_rfl, by kernel_rfl, trivial⟩, rfl⟩)))
        | false =>
          refine s_val (.bool true) (by kernel_rfl) (fun _ => by kernel_rfl) ?_
          refine s_nil ?_
          refine fin_seq ?_
          refine ok_true (by kernel_rfl) ?_
          refine ok_seq ?_
          refine ok_region ?_
          refine s_val (.agg #[.int .i64 0, .int .i64 0, .int .i64 0, .string ⟨#[]⟩, .string ⟨#[]⟩]) (by kernel_rfl) (fun _ => by kernel_rfl) ?_
          refine s_store_at 1 ⟨b1, #[.int .i64 0, .int .i64 0, .int .i64 0, .string ⟨#[]⟩, .string ⟨#[]⟩], 24⟩ (off := 0) (.agg #[.int .i64 0, .int .i64 0, .int .i64 0, .string ⟨#[]⟩, .string ⟨#[]⟩]) (by kernel_rfl) rfl rfl (by kernel_rfl) (by kernel_rfl) (by kernel_rfl) (by kernel_rfl) (by kernel_rfl) ?_
          refine s_val (.bool false) (by kernel_rfl) (fun _ => by kernel_rfl) ?_
          refine s_nil ?_
          refine fin_seq ?_
          refine ok_ret ?_
          refine fin_seq_ret ?_
          refine fin_block_ret ?_
          refine fin_seq_ret ?_
          refine fin_round_ret ?_
          refine fin_block_ret ?_
          refine fin_seq_ret ?_
          refine fin_cell2 1 ⟨b1, #[.int .i64 0, .int .i64 0, .int .i64 0, .string ⟨#[]⟩, .string ⟨#[]⟩], 24⟩ (off := 0) (.agg #[.int .i64 0, .int .i64 0, .int .i64 0, .string ⟨#[]⟩, .string ⟨#[]⟩]) (.bool false) Tryz.results42 (by kernel_rfl) (by kernel_rfl) (by kernel_rfl) (by kernel_rfl) ?_
          exact fun w hO => ⟨by have hno : numsOk l = false := nums_bad hk (by assumption); rw [show numsVal l = Ver.zero from if_neg (by rw [hno]; decide), hno]; rfl, hO.below⟩
      · skip
        refine s_dec (p := (1 : Int) < (n : Int)) false (by kernel_rfl) (fun _ => by kernel_rfl) (decide_eq_false (h4)) ?_
        refine s_nil ?_
        refine fin_seq ?_
        refine ok_false (by kernel_rfl) ?_
        refine ok_exit ?_
        refine fin_seq_exit ?_
        refine fin_round_exit ?_
        refine fin_block_exit ?_
        refine fin_seq ?_
        refine ok_seq ?_
        refine ok_region ?_
        refine s_val (.pointer (some ⟨b2, 0, none⟩)) (by kernel_rfl) (fun _ => by kernel_rfl) ?_
        refine s_load 0 ⟨b2, #[.int .i64 (numD (tg l 0)), .int .i64 0, .int .i64 0], 55⟩ (off := 0) (.int .i64 (numD (tg l 0))) (by kernel_rfl) rfl (by kernel_rfl) (by kernel_rfl) (by kernel_rfl) ?_
        refine s_val (.pointer (some ⟨b2, 1, none⟩)) (by kernel_rfl) (fun _ => by kernel_rfl) ?_
        refine s_load 0 ⟨b2, #[.int .i64 (numD (tg l 0)), .int .i64 0, .int .i64 0], 55⟩ (off := 1) (.int .i64 0) (by kernel_rfl) rfl (by kernel_rfl) (by kernel_rfl) (by kernel_rfl) ?_
        refine s_val (.pointer (some ⟨b2, 2, none⟩)) (by kernel_rfl) (fun _ => by kernel_rfl) ?_
        refine s_load 0 ⟨b2, #[.int .i64 (numD (tg l 0)), .int .i64 0, .int .i64 0], 55⟩ (off := 2) (.int .i64 0) (by kernel_rfl) rfl (by kernel_rfl) (by kernel_rfl) (by kernel_rfl) ?_
        refine s_val (.agg #[.int .i64 (numD (tg l 0)), .int .i64 0, .int .i64 0, .string ⟨#[]⟩, .string ⟨#[]⟩]) (by kernel_rfl) (fun _ => by kernel_rfl) ?_
        refine s_store_at 1 ⟨b1, #[.int .i64 0, .int .i64 0, .int .i64 0, .string ⟨#[]⟩, .string ⟨#[]⟩], 24⟩ (off := 0) (.agg #[.int .i64 (numD (tg l 0)), .int .i64 0, .int .i64 0, .string ⟨#[]⟩, .string ⟨#[]⟩]) (by kernel_rfl) rfl rfl (by kernel_rfl) (by kernel_rfl) (by kernel_rfl) (by kernel_rfl) (by kernel_rfl) ?_
        refine s_val (.bool true) (by kernel_rfl) (fun _ => by kernel_rfl) ?_
        refine s_nil ?_
        refine fin_seq ?_
        refine ok_ret ?_
        refine fin_cell2 1 ⟨b1, #[.int .i64 (numD (tg l 0)), .int .i64 0, .int .i64 0, .string ⟨#[]⟩, .string ⟨#[]⟩], 24⟩ (off := 0) (.agg #[.int .i64 (numD (tg l 0)), .int .i64 0, .int .i64 0, .string ⟨#[]⟩, .string ⟨#[]⟩]) (.bool true) Tryz.results42 (by kernel_rfl) (by kernel_rfl) (by kernel_rfl) (by kernel_rfl) ?_
        exact fun w hO => ⟨by have hok : numsOk l = true := nums_all (by omega) (fun i hi => by obtain rfl : i = 0 := (by omega); assumption); rw [show numsVal l = ⟨numD (tg l 0), numD (tg l 1), numD (tg l 2), [], []⟩ from if_pos hok, hok, tgi_out (i := 1) (by omega), tgi_out (i := 2) (by omega)]; rfl, hO.below⟩
    · skip
      obtain ⟨qn, q0, q1⟩ := hrel
      refine ok_seq ?_
      refine ok_seq ?_
      refine ok_region ?_
      refine s_val (.int .i64 2) (by kernel_rfl) (fun _ => by kernel_rfl) ?_
      refine s_val (.slice A n cap) (by kernel_rfl) (fun _ => by kernel_rfl) ?_
      refine s_val (.int .i64 (n : Int)) (by kernel_rfl) (fun _ => by kernel_rfl) ?_
      by_cases h6 : (2 : Int) < (n : Int)
      · skip
        have hk : 2 < l.length := by omega
        obtain ⟨b, off, hA, hlt, hcell⟩ := hv (by omega)
        refine s_dec (p := (2 : Int) < (n : Int)) true (by kernel_rfl) (fun _ => by kernel_rfl) (decide_eq_true (h6)) ?_
        refine s_nil ?_
        refine fin_seq ?_
        refine ok_true (by kernel_rfl) ?_
        refine ok_skip ?_
        refine fin_seq ?_
        refine ok_seq ?_
        refine ok_block ?_
        refine ok_seq ?_
        refine ok_region ?_
        refine s_val (.slice A n cap) (by kernel_rfl) (fun _ => by kernel_rfl) ?_
        refine s_val (.int .i64 2) (by kernel_rfl) (fun _ => by kernel_rfl) ?_
        refine s_val (.pointer (some ⟨b, off + 2 * 1, none⟩)) (by kernel_rfl) (run_ixA (b := b) (off := off) (c := cap) (n := n) (k := .i64) (j := 2) (e := 9) (sz := 1) rfl (by kernel_rfl) hA (by kernel_rfl) (by kernel_rfl) (by kernel_rfl) (by omega) (by omega) (by rfl)) ?_
        refine s_old (.string (mkS (tg l 2))) (a := ⟨b, off + 2 * 1, none⟩) (by kernel_rfl) rfl (by kernel_rfl) (fun w hO => elem_load strC_len (fun j u h => (hO.below.cell (p := ⟨b, off + j, none⟩) hlt).trans (hcell j u h)) 2 0 hk (by omega) _ (by rw [tgi_get hk]; kernel_rfl)) ?_
        refine s_call (k := 75) (args := #[.string (mkS (tg l 2))]) (.tuple #[.int .i64 (numD (tg l 2)), .bool (numI (tg l 2))]) (by kernel_rfl) (fun _ => by kernel_rfl) (fun w _ => (rnumber_mk (tg l 2) w (Nat.le_trans (htl 2) (by decide))).mono fun e w' ⟨q1, q2⟩ => ⟨q1, q2 ▸ Below.refl _ _⟩) ?_
        refine s_val (.tuple #[.int .i64 (numD (tg l 2)), .bool (numI (tg l 2))]) (by kernel_rfl) (fun _ => by kernel_rfl) ?_
        refine s_val (.int .i64 (numD (tg l 2))) (by kernel_rfl) (fun _ => by kernel_rfl) ?_
        refine s_val (.bool (numI (tg l 2))) (by kernel_rfl) (fun _ => by kernel_rfl) ?_
        refine s_val (.int .i64 (numD (tg l 2))) (by kernel_rfl) (fun _ => by kernel_rfl) ?_
        refine s_val (.bool (numI (tg l 2))) (by kernel_rfl) (fun _ => by kernel_rfl) ?_
        refine s_nil ?_
        refine fin_seq ?_
        refine ok_seq ?_
        refine ok_seq ?_
        refine ok_region ?_
        refine s_val (.bool (numI (tg l 2))) (by kernel_rfl) (fun _ => by kernel_rfl) ?_
        cases h7 : numI (tg l 2) with
        | true =>
          refine s_val (.bool false) (by kernel_rfl) (fun _ => by kernel_rfl) ?_
          refine s_nil ?_
          refine fin_seq ?_
          refine ok_false (by kernel_rfl) ?_
          refine ok_skip ?_
          refine fin_seq ?_
          refine ok_region ?_
          refine s_val (.int .i64 2) (by kernel_rfl) (fun _ => by kernel_rfl) ?_
          refine s_val (.int .i64 (numD (tg l 2))) (by kernel_rfl) (fun _ => by kernel_rfl) ?_
          refine s_val (.pointer (some ⟨b2, 2, none⟩)) (by kernel_rfl) (fun _ => by kernel_rfl) ?_
          refine s_store_at 0 ⟨b2, #[.int .i64 (numD (tg l 0)), .int .i64 (numD (tg l 1)), .int .i64 0], 55⟩ (off := 2) (.int .i64 (numD (tg l 2))) (by kernel_rfl) rfl rfl (by kernel_rfl) (by kernel_rfl) (by kernel_rfl) (by kernel_rfl) (by kernel_rfl) ?_
          refine s_nil ?_
          refine fin_block ?_
          refine fin_seq ?_
          refine ok_region ?_
          refine s_val (.int .i64 2) (by kernel_rfl) (fun _ => by kernel_rfl) ?_
          refine s_val (.int .i64 3) (by kernel_rfl) (fun _ => by kernel_rfl) ?_
          refine s_val (.int .i64 3) (by kernel_rfl) (fun _ => by kernel_rfl) ?_
          refine s_nil ?_
          exact fin_round (m' := 1) (by decide) (.inr (.inr (.inr (⟨_, ⟨by omega, q0, q1, (by first | assumption | rfl)⟩, rfl, upds_self _ ⟨by kernel_rfl, by kernel_rfl, by kernel_rfl, by kernel_rfl, trivial⟩, rfl⟩))))
        | false =>
          refine s_val (.bool true) (by kernel_rfl) (fun _ => by kernel_rfl) ?_
          refine s_nil ?_
          refine fin_seq ?_
          refine ok_true (by kernel_rfl) ?_
          refine ok_seq ?_
          refine ok_region ?_
          refine s_val (.agg #[.int .i64 0, .int .i64 0, .int .i64 0, .string ⟨#[]⟩, .string ⟨#[]⟩]) (by kernel_rfl) (fun _ => by kernel_rfl) ?_
          refine s_store_at 1 ⟨b1, #[.int .i64 0, .int .i64 0, .int .i64 0, .string ⟨#[]⟩, .string ⟨#[]⟩], 24⟩ (off := 0) (.agg #[.int .i64 0, .int .i64 0, .int .i64 0, .string ⟨#[]⟩, .string ⟨#[]⟩]) (by kernel_rfl) rfl rfl (by kernel_rfl) (by kernel_rfl) (by kernel_rfl) (by kernel_rfl) (by kernel_rfl) ?_
          refine s_val (.bool false) (by kernel_rfl) (fun _ => by kernel_rfl) ?_
          refine s_nil ?_
          refine fin_seq ?_
          refine ok_ret ?_
          refine fin_seq_ret ?_
          refine fin_block_ret ?_
          refine fin_seq_ret ?_
          refine fin_round_ret ?_
          refine fin_block_ret ?_
          refine fin_seq_ret ?_
          refine fin_cell2 1 ⟨b1, #[.int .i64 0, .int .i64 0, .int .i64 0, .string ⟨#[]⟩, .string ⟨#[]⟩], 24⟩ (off := 0) (.agg #[.int .i64 0, .int .i64 0, .int .i64 0, .string ⟨#[]⟩, .string ⟨#[]⟩]) (.bool false) Tryz.results42 (by kernel_rfl) (by kernel_rfl) (by kernel_rfl) (by kernel_rfl) ?_
          exact fun w hO => ⟨by have hno : numsOk l = false := nums_bad hk (by assumption); rw [show numsVal l = Ver.zero from if_neg (by rw [hno]; decide), hno]; rfl, hO.below⟩
      · skip
        refine s_dec (p := (2 : Int) < (n : Int)) false (by kernel_rfl) (fun _ => by kernel_rfl) (decide_eq_false (h6)) ?_
        refine s_nil ?_
        refine fin_seq ?_
        refine ok_false (by kernel_rfl) ?_
        refine ok_exit ?_
        refine fin_seq_exit ?_
        refine fin_round_exit ?_
        refine fin_block_exit ?_
        refine fin_seq ?_
        refine ok_seq ?_
        refine ok_region ?_
        refine s_val (.pointer (some ⟨b2, 0, none⟩)) (by kernel_rfl) (fun _ => by kernel_rfl) ?_
        refine s_load 0 ⟨b2, #[.int .i64 (numD (tg l 0)), .int .i64 (numD (tg l 1)), .int .i64 0], 55⟩ (off := 0) (.int .i64 (numD (tg l 0))) (by kernel_rfl) rfl (by kernel_rfl) (by kernel_rfl) (by kernel_rfl) ?_
        refine s_val (.pointer (some ⟨b2, 1, none⟩)) (by kernel_rfl) (fun _ => by kernel_rfl) ?_
        refine s_load 0 ⟨b2, #[.int .i64 (numD (tg l 0)), .int .i64 (numD (tg l 1)), .int .i64 0], 55⟩ (off := 1) (.int .i64 (numD (tg l 1))) (by kernel_rfl) rfl (by kernel_rfl) (by kernel_rfl) (by kernel_rfl) ?_
        refine s_val (.pointer (some ⟨b2, 2, none⟩)) (by kernel_rfl) (fun _ => by kernel_rfl) ?_
        refine s_load 0 ⟨b2, #[.int .i64 (numD (tg l 0)), .int .i64 (numD (tg l 1)), .int .i64 0], 55⟩ (off := 2) (.int .i64 0) (by kernel_rfl) rfl (by kernel_rfl) (by kernel_rfl) (by kernel_rfl) ?_
        refine s_val (.agg #[.int .i64 (numD (tg l 0)), .int .i64 (numD (tg l 1)), .int .i64 0, .string ⟨#[]⟩, .string ⟨#[]⟩]) (by kernel_rfl) (fun _ => by kernel_rfl) ?_
        refine s_store_at 1 ⟨b1, #[.int .i64 0, .int .i64 0, .int .i64 0, .string ⟨#[]⟩, .string ⟨#[]⟩], 24⟩ (off := 0) (.agg #[.int .i64 (numD (tg l 0)), .int .i64 (numD (tg l 1)), .int .i64 0, .string ⟨#[]⟩, .string ⟨#[]⟩]) (by kernel_rfl) rfl rfl (by kernel_rfl) (by kernel_rfl) (by kernel_rfl) (by kernel_rfl) (by kernel_rfl) ?_
        refine s_val (.bool true) (by kernel_rfl) (fun _ => by kernel_rfl) ?_
        refine s_nil ?_
        refine fin_seq ?_
        refine ok_ret ?_
        refine fin_cell2 1 ⟨b1, #[.int .i64 (numD (tg l 0)), .int .i64 (numD (tg l 1)), .int .i64 0, .string ⟨#[]⟩, .string ⟨#[]⟩], 24⟩ (off := 0) (.agg #[.int .i64 (numD (tg l 0)), .int .i64 (numD (tg l 1)), .int .i64 0, .string ⟨#[]⟩, .string ⟨#[]⟩]) (.bool true) Tryz.results42 (by kernel_rfl) (by kernel_rfl) (by kernel_rfl) (by kernel_rfl) ?_
        exact fun w hO => ⟨by have hok : numsOk l = true := nums_all (by omega) (fun i hi => by have q8 : i = 0 ∨ i = 1 := (by omega); rcases q8 with rfl | rfl <;> assumption); rw [show numsVal l = ⟨numD (tg l 0), numD (tg l 1), numD (tg l 2), [], []⟩ from if_pos hok, hok, tgi_out (i := 2) (by omega)]; rfl, hO.below⟩
    · skip
      obtain ⟨qn, q0, q1, q2⟩ := hrel
      refine ok_seq ?_
      refine ok_seq ?_
      refine ok_region ?_
      refine s_val (.int .i64 3) (by kernel_rfl) (fun _ => by kernel_rfl) ?_
      refine s_val (.slice A n cap) (by kernel_rfl) (fun _ => by kernel_rfl) ?_
      refine s_val (.int .i64 (n : Int)) (by kernel_rfl) (fun _ => by kernel_rfl) ?_
      refine s_dec (p := (3 : Int) < (n : Int)) false (by kernel_rfl) (fun _ => by kernel_rfl) (decide_eq_false (h1)) ?_
      refine s_nil ?_
      refine fin_seq ?_
      refine ok_false (by kernel_rfl) ?_
      refine ok_exit ?_
      refine fin_seq_exit ?_
      refine fin_round_exit ?_
      refine fin_block_exit ?_
      refine fin_seq ?_
      refine ok_seq ?_
      refine ok_region ?_
      refine s_val (.pointer (some ⟨b2, 0, none⟩)) (by kernel_rfl) (fun _ => by kernel_rfl) ?_
      refine s_load 0 ⟨b2, #[.int .i64 (numD (tg l 0)), .int .i64 (numD (tg l 1)), .int .i64 (numD (tg l 2))], 55⟩ (off := 0) (.int .i64 (numD (tg l 0))) (by kernel_rfl) rfl (by kernel_rfl) (by kernel_rfl) (by kernel_rfl) ?_
      refine s_val (.pointer (some ⟨b2, 1, none⟩)) (by kernel_rfl) (fun _ => by kernel_rfl) ?_
      refine s_load 0 ⟨b2, #[.int .i64 (numD (tg l 0)), .int .i64 (numD (tg l 1)), .int .i64 (numD (tg l 2))], 55⟩ (off := 1) (.int .i64 (numD (tg l 1))) (by kernel_rfl) rfl (by kernel_rfl) (by kernel_rfl) (by kernel_rfl) ?_
      refine s_val (.pointer (some ⟨b2, 2, none⟩)) (by kernel_rfl) (fun _ => by kernel_rfl) ?_
      refine s_load 0 ⟨b2, #[.int .i64 (numD (tg l 0)), .int .i64 (numD (tg l 1)), .int .i64 (numD (tg l 2))], 55⟩ (off := 2) (.int .i64 (numD (tg l 2))) (by kernel_rfl) rfl (by kernel_rfl) (by kernel_rfl) (by kernel_rfl) ?_
      refine s_val (.agg #[.int .i64 (numD (tg l 0)), .int .i64 (numD (tg l 1)), .int .i64 (numD (tg l 2)), .string ⟨#[]⟩, .string ⟨#[]⟩]) (by kernel_rfl) (fun _ => by kernel_rfl) ?_
      refine s_store_at 1 ⟨b1, #[.int .i64 0, .int .i64 0, .int .i64 0, .string ⟨#[]⟩, .string ⟨#[]⟩], 24⟩ (off := 0) (.agg #[.int .i64 (numD (tg l 0)), .int .i64 (numD (tg l 1)), .int .i64 (numD (tg l 2)), .string ⟨#[]⟩, .string ⟨#[]⟩]) (by kernel_rfl) rfl rfl (by kernel_rfl) (by kernel_rfl) (by kernel_rfl) (by kernel_rfl) (by kernel_rfl) ?_
      refine s_val (.bool true) (by kernel_rfl) (fun _ => by kernel_rfl) ?_
      refine s_nil ?_
      refine fin_seq ?_
      refine ok_ret ?_
      refine fin_cell2 1 ⟨b1, #[.int .i64 (numD (tg l 0)), .int .i64 (numD (tg l 1)), .int .i64 (numD (tg l 2)), .string ⟨#[]⟩, .string ⟨#[]⟩], 24⟩ (off := 0) (.agg #[.int .i64 (numD (tg l 0)), .int .i64 (numD (tg l 1)), .int .i64 (numD (tg l 2)), .string ⟨#[]⟩, .string ⟨#[]⟩]) (.bool true) Tryz.results42 (by kernel_rfl) (by kernel_rfl) (by kernel_rfl) (by kernel_rfl) ?_
      exact fun w hO => ⟨by have hok : numsOk l = true := nums_all (by omega) (fun i hi => by have q8 : i = 0 ∨ i = 1 ∨ i = 2 := (by omega); rcases q8 with rfl | rfl | rfl <;> assumption); rw [show numsVal l = ⟨numD (tg l 0), numD (tg l 1), numD (tg l 2), [], []⟩ from if_pos hok, hok]; rfl, hO.below⟩
end Go.Proofs.YtjabcbagggicaaaGreatDoor
end
