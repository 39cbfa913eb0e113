/-
  What the statement's proof leans on: the ways of walking, n8 mathematics, and what the program's functions return; each theorem says on what conditions.
-/
import Derived.Deep.RegionHeld3
import Derived.Outline
import Derived.Lib.SplitLaws
import Derived.Lib.TrimByte
import Derived.Lib.Join
import Derived.Lib.MakeNoZero
import Derived.Laws.IdiomCopy
import Derived.Test.YtkljdpiaghepfaaGreatDoorMB3
set_option maxRecDepth 1000000
set_option maxHeartbeats 8000000
set_option linter.unusedVariables false
set_option linter.unusedSimpArgs false
namespace Go.Proofs.YtkljdpiaghepfaaGreatDoor
open Go.RowKit

section
theorem mk_get (s : List UInt8) (k : Nat) (h : k < s.length) : (mkS s)[k]? = some s[k] := by
  have h2 : k < (mkS s).size := by rw [xA]; exact h
  rw [getElem?_pos (mkS s) k h2]
  congr 1
theorem uY {P : Program} {ρ : Operand → Value} {o : Oper} {t : TypeId} {x y : Operand} {s : List UInt8} {k : IntKind} {j : Int} (ho : o.op = .index t x y) (hx : ρ x = .string (mkS s)) (hy : ρ y = .int k j)
    (hu : P.underlying t = some .string) (h0 : 0 ≤ j) (h1 : j.toNat < s.length) (w : World) : (execOp ρ o).run P w = .ok (.value (.int .u8 (s[j.toNat].toNat : Int))) w := by
  unfold execOp
  have e := mk_get s j.toNat h1
  simp [ho, hx, hy, Instr.index, Sem.run_bind, asIntOf, run_underlying hu, h0, e]
theorem run_slhm {P : Program} {ρ : Operand → Value} {o : Oper} {t e : TypeId} {x z y : Operand} {b n c sz : Nat} {k q : IntKind} {j m : Int} (ho : o.op = .slice t x none (some z) (some y)) (hx : ρ x = .slice (some ⟨b, 0, none⟩) n c) (hz : ρ z = .int k j) (hy : ρ y = .int q m)
    (hu : P.underlying t = some (.slice e)) (hs : (P.info? e).map (·.size) = some sz) (h0 : 0 ≤ j) (h1 : j ≤ m) (h2 : m ≤ c) (w : World) : (execOp ρ o).run P w = .ok (.value (.slice (some ⟨b, 0, none⟩) j.toNat m.toNat)) w := by
  cases he : P.info? e with
  | none => rw [he] at hs; cases hs
  | some i =>
    rw [he] at hs
    obtain rfl := Option.some.inj hs
    have h3 : 0 ≤ m := Int.le_trans h0 h1
    unfold execOp
    simp [ho, hx, hz, hy, Instr.sliceAt, Instr.slice, Instr.sliceBounds, Instr.sliceBound, Sem.run_bind, asIntOf, run_underlying hu, h0, h1, h2, h3, sizeOf, typeInfo, he, xK]
    try (first | omega | (rw [if_pos (by omega)]; simp [xK]))
theorem yG {P : Program} {ρ : Operand → Value} {o : Oper} {t t' : TypeId} {x y : Operand} {a b : List UInt8} (ho : o.op = .binOp .add t x y t') (hx : ρ x = .string (mkS a)) (hy : ρ y = .string (mkS b)) (hb : a.length + b.length ≤ 4000000000) (w : World) : (execOp ρ o).run P w = .ok (.value (.string (mkS (a ++ b)))) w := by
  unfold execOp
  have h1 : ¬ (9223372036854775807 : Int) < ((mkS a).size : Int) + ((mkS b).size : Int) := by rw [xA, xA]; omega
  simp [ho, hx, hy, Sem.run_bind, eqGuard, binOp, Op.stringOp, dQ, h1]
theorem run_min2 {P : Program} {ρ : Operand → Value} {o : Oper} {t t' : TypeId} {x y : Operand} {k q : IntKind} {i j : Int} (ho : o.op = .call { callee := .builtin .min, args := #[x, y], argTypes := #[t, t'] }) (hx : ρ x = .int k i) (hy : ρ y = .int q j) (w : World) : (execOp ρ o).run P w = .ok (.value (.int k (min i j))) w := by
  unfold execOp
  have e : min i j = if j < i then j else i := by split <;> omega
  simp [ho, resolve, invoke, builtin, Builtin.min_, Builtin.min2, hx, hy, e]
section
variable {M : List Nat} {P : Program} {n0 : Nat} {ops : Array Oper} {W : World} {Q : Exit → Act → World → Prop} {rest : List Oper} {o : Oper} {L : List Blk} {f : Nat → Value}
theorem s_appendF {t T : TypeId} {s x : Operand} {i : TypeInfo} {z : Value} {sz : Nat} (hw : xY ops n0 f o = true) (ho : o.op = .call { callee := .builtin .append, args := #[s, x], argTypes := #[t, t] })
    (ht : P.underlying t = some (.slice T)) (hi : P.info? T = some i) (hz : i.zero = some z) (hsz : i.size = sz) (hzs : z.cells.size = sz)
    {b : Addr} {n cap : Nat} {xs : List Value} (hs : ev n0 f s = .slice (some b) n cap) (hxl : xs.length = n * sz) (hxs : ∀ w, Own M W w L → ∀ j u, xs[j]? = some u → w.cell? (b.add j) = some u)
    {a : Addr} {m c : Nat} {news : List Value} (hx : ev n0 f x = .slice (some a) m c) (hl : news.length = m * sz) (hnews : ∀ w, Own M W w L → ∀ j u, news[j]? = some u → w.cell? (a.add j) = some u)
    (hroom : cap < n + m) (h63 : n + m ≤ maxLen) (hbytes : (n + m) * i.bytes ≤ 140737488355328)
    (h : ∀ v' ob', Sl T sz v' (n + m) (xs ++ news) ob' → Seg M P n0 ops W Q rest (ob' ++ L) (upd f o.dst v')) : Seg M P n0 ops W Q (o :: rest) L f :=
  vK hw fun w hO => by
    subst hsz
    have hsmall : n + m ≤ 9223372036854775807 := by simp only [maxLen] at h63; omega
    have hlen : (xs ++ news).length = (n + m) * i.size := by rw [List.length_append, hxl, hl, Nat.add_mul]
    have hr := run_append_grow (P := P) w t o.type T i z ht hi hz b n cap xs hxl (hxs w hO) a m c news hl (hnews w hO) (by omega) (by omega) (growslice_fits (by omega) hbytes)
    have hge := grownCap_ge w (n + m) cap T
    have hcm := grownCap_le_maxLen w (n + m) cap T h63
    refine vJ _ (w' := _) ?_ ((h _ [⟨w.heap.size, xs.toArray ++ news.toArray ++ Builtin.zeroCells z.cells (grownCap w (n + m) cap T - (n + m)), T⟩] ⟨hlen, .inr ⟨w.heap.size, grownCap w (n + m) cap T, _, rfl, rfl, hge, hcm, ?_, ?_⟩⟩).go _ ((tR hO).alloc (xs.toArray ++ news.toArray ++ Builtin.zeroCells z.cells (grownCap w (n + m) cap T - (n + m))) T))
    · unfold execOp
      simp only [ho, resolve, invoke, builtin, Sem.run_bind, Sem.run_pure, Result.andThen_ok, List.map_toArray, List.map_cons, List.map_nil, hs, hx, hr]
    · simp only [Array.size_append, List.size_toArray, size_zeroCells, hzs, hxl, hl, ← Nat.add_mul]
      congr 1
      omega
    · simp only [Array.toList_append, List.append_assoc]
      rw [← List.append_assoc, ← hlen]
      exact List.take_left
end
section
variable {M : List Nat} {P : Program} {n : Nat} {ops : Array Oper} {W : World} {L0 : List Blk} {Q : Exit → Act → World → Prop} {fuel : Nat} {listed : Array Bool} {f : Nat → Value}
end
end
section
theorem bump_short (v : Ver) (k : Int) : (yW v k).short := by
  by_cases h : yD v k = true
  · obtain ⟨a, b, c, e⟩ := bump_rel h
    rw [e]; exact ⟨Nat.zero_le _, Nat.zero_le _⟩
  · unfold yW
    rw [if_neg h]; exact ⟨Nat.zero_le _, Nat.zero_le _⟩
def uA (v : Ver) (z : Int) : Cu := if z < 0 then yJ 1 else gX v z.toNat
theorem highZ_hit {v : Ver} {z : Int} (h0 : 0 ≤ z) (h : yD v z = true) : uA v z = ⟨0, yW v z, false⟩ := by
  unfold uA
  rw [if_neg (by omega)]
  obtain ⟨k, rfl⟩ : ∃ k : Nat, z = k := ⟨z.toNat, by omega⟩
  rw [Int.toNat_natCast]
  cases k with
  | zero => unfold gX; exact if_pos h
  | succ k => unfold gX; rw [if_pos h]
theorem highZ_next {v : Ver} {z : Int} (h0 : 0 ≤ z) (h : yD v z = false) : uA v z = uA v (z - 1) := by
  unfold uA
  rw [if_neg (by omega)]
  obtain ⟨k, rfl⟩ : ∃ k : Nat, z = k := ⟨z.toNat, by omega⟩
  rw [Int.toNat_natCast]
  cases k with
  | zero => unfold gX; rw [if_neg (by rw [show ((0 : Nat) : Int) = 0 from rfl] at h; rw [h]; decide), if_pos (by decide)]
  | succ k =>
    unfold gX
    rw [if_neg (by rw [h]; decide), if_neg (by omega)]
    rw [show (((k + 1 : Nat) : Int) - 1).toNat = k from by omega]
    cases k <;> rfl
theorem rcMay_any (c : Co) (W : World) (hc : c.short) : Calls Tryz.prog 79 #[coV c] W fun e w' => e = .returned (.bool c.may) ∧ Below W.heap.size W w' := by
  refine zQ (n := 80) Tryz.func79 rfl (by kernel_rfl) (by kernel_rfl) (ZO (Zb (coV c) (fun b1 => Zv (.bool false) (ZN (z6 (ZO (Zv (.pointer (some ⟨b1, 0, none⟩)) (Zl 0 ⟨b1, (coV c).cells, 51⟩ (off := 0) (.int .i64 c.op) ?_))))))))
  by_cases h1 : (c.op : Int) < 1
  · refine zV (p := (c.op : Int) < 1) true (by kernel_rfl) (fun _ => by kernel_rfl) (decide_eq_true (h1)) ?_
    refine Zv (.bool true) (Zk (Zk (Zk (Zv (.bool true) (Zv (.bool true) (Zk (Zk (Zk (Zk (Zv (.bool true) (Zv (.bool true) ?_)))))))))))
    refine Zk (Zk (Zk (Zk (Zv (.bool true) (ZY (ZO (Zv (.bool false) (zN ?_))))))))
    exact zC (zA (z8 (ZF (.bool false) Tryz.results79 (fun w hO => ⟨by rw [show c.may = false from Bool.eq_false_iff.2 fun q0 => by have q1 := Co.may_iff.1 q0; grind], hO.below⟩))))
  refine Zd (p := (c.op : Int) < 1) false (decide_eq_false (h1)) (Zv (.bool false) (Zv (.pointer (some ⟨b1, 0, none⟩)) (Zl 0 ⟨b1, (coV c).cells, 51⟩ (off := 0) (.int .i64 c.op) ?_)))
  by_cases h2 : (9 : Int) < c.op
  · refine zV (p := (9 : Int) < c.op) true (by kernel_rfl) (fun _ => by kernel_rfl) (decide_eq_true (h2)) ?_
    refine Zv (.bool true) (Zv (.bool true) (Zk (Zk (Zk (Zk (Zv (.bool true) (Zv (.bool true) (Zk (Zk (Zk (Zk ?_)))))))))))
    refine Zv (.bool true) (ZY (ZO (Zv (.bool false) (ZN (zA (z8 (ZF (.bool false) Tryz.results79 ?_)))))))
    exact fun w hO => ⟨by rw [show c.may = false from Bool.eq_false_iff.2 fun q0 => by have q1 := Co.may_iff.1 q0; grind], hO.below⟩
  refine Zd (p := (9 : Int) < c.op) false (decide_eq_false (h2)) (Zv (.bool false) (Zv (.bool false) (Zv (.pointer (some ⟨b1, 2, none⟩)) (Zl 0 ⟨b1, (coV c).cells, 51⟩ (off := 2) (.agg #[.int .i64 c.v.maj, .int .i64 c.v.min, .int .i64 c.v.pat, .string (mkS c.v.pre), .string (mkS c.v.build)]) (Zc (k := 56) (args := #[.agg #[.int .i64 c.v.maj, .int .i64 c.v.min, .int .i64 c.v.pat, .string (mkS c.v.pre), .string (mkS c.v.build)]]) (.bool c.v.may) (fun w _ => uZ c.v w hc.1 hc.2) ?_)))))
  cases h3 : c.v.may with
  | true =>
    refine Zv (.bool false) (Zv (.bool false) (Zv (.bool false) (Zv (.pointer (some ⟨b1, 2, none⟩)) (Zv (.pointer (some ⟨b1, 6, none⟩)) (Zl 0 ⟨b1, (coV c).cells, 51⟩ (off := 6) (.string (mkS c.v.build)) ?_)))))
    by_cases h4 : (c.v.build : List UInt8) = []
    · refine zT (.bool false) (by kernel_rfl) (x6 (a := c.v.build) (b := ([])) rfl (by kernel_rfl) (by kernel_rfl) (decide_eq_true (h4))) ?_
      refine Zv (.bool false) (ZX (ZB (ZO (Zv (.int .i64 1) (Zv (.int .i64 3) (zN (zC ?_)))))))
      refine z6 (ZO (Zv (.pointer (some ⟨b1, 0, none⟩)) (Zl 0 ⟨b1, (coV c).cells, 51⟩ (off := 0) (.int .i64 c.op) ?_)))
      by_cases h5 : (c.op : Int) = 9
      · refine zV (p := (c.op : Int) = 9) true (by kernel_rfl) (fun _ => by kernel_rfl) (decide_eq_true (h5)) ?_
        refine ZN (bA (fun L f => ∃ (lo : Int) (hi : Int) (j : Nat → Value), ((c.op = 9 → lo = 0 ∧ hi = 2) ∧ (¬ c.op = 9 → lo = 1 ∧ hi = 3)) ∧ L = [⟨b1, (coV c).cells, 51⟩] ∧ f = kE j [(1, .pointer (some ⟨b1, 0, none⟩)), (3, .int .i64 lo), (4, .int .i64 hi)]) ?_ ?_)
        · refine ok_true (by kernel_rfl) ?_
          exact z7 (Zv (.int .i64 0) (Zv (.int .i64 2) (zN (yU ⟨0, 2, _, ⟨by omega, by omega⟩, rfl, ZU⟩))))
        · rintro L f ⟨lo, hi, j, hj3, rfl, rfl⟩
          refine zC (z6 (z6 (bA (fun L f => ∃ (bad : Bool) (j : Nat → Value), ((bad = true → ¬ (lo ≤ c.parts ∧ c.parts ≤ hi ∧ (3 ≤ c.parts ∨ c.v.pre = []))) ∧ (bad = false → lo ≤ c.parts ∧ c.parts ≤ hi ∧ (3 ≤ c.parts ∨ c.v.pre = []))) ∧ L = [⟨b1, (coV c).cells, 51⟩] ∧ f = kE j [(1, .pointer (some ⟨b1, 0, none⟩)), (48, .bool bad)]) ?_ ?_)))
          · refine z7 ?_
            refine Zv (.pointer (some ⟨b1, 1, none⟩)) (Zl 0 ⟨b1, (coV c).cells, 51⟩ (off := 1) (.int .i64 c.parts) (Zv (.int .i64 lo) ?_))
            by_cases h6 : (c.parts : Int) < lo
            · refine zV (p := (c.parts : Int) < lo) true (by kernel_rfl) (fun _ => by kernel_rfl) (decide_eq_true (h6)) ?_
              refine Zv (.bool true) (Zk (Zk (Zk (Zk (Zv (.bool true) (Zv (.bool true) (Zk (Zk (Zk (Zk (Zk ?_)))))))))))
              exact Zk (Zk (Zk (Zk (Zv (.bool true) (zN (yU ⟨true, _, ⟨fun q0 => by grind, fun q0 => absurd q0 (by decide)⟩, rfl, ZU⟩))))))
            refine Zd (p := (c.parts : Int) < lo) false (decide_eq_false (h6)) (Zv (.bool false) (Zv (.pointer (some ⟨b1, 1, none⟩)) (Zl 0 ⟨b1, (coV c).cells, 51⟩ (off := 1) (.int .i64 c.parts) (Zv (.int .i64 hi) ?_))))
            by_cases h7 : (hi : Int) < c.parts
            · refine zV (p := (hi : Int) < c.parts) true (by kernel_rfl) (fun _ => by kernel_rfl) (decide_eq_true (h7)) ?_
              refine Zv (.bool true) (Zv (.bool true) (Zk (Zk (Zk (Zk (Zk (Zk (Zk (Zk (Zk (Zv (.bool true) ?_)))))))))))
              exact zN (yU ⟨true, _, ⟨fun q0 => by grind, fun q0 => absurd q0 (by decide)⟩, rfl, ZU⟩)
            refine Zd (p := (hi : Int) < c.parts) false (decide_eq_false (h7)) (Zv (.bool false) (Zv (.bool false) (Zv (.pointer (some ⟨b1, 1, none⟩)) (Zl 0 ⟨b1, (coV c).cells, 51⟩ (off := 1) (.int .i64 c.parts) ?_))))
            by_cases h8 : (c.parts : Int) < 3
            · refine zV (p := (c.parts : Int) < 3) true (by kernel_rfl) (fun _ => by kernel_rfl) (decide_eq_true (h8)) ?_
              refine Zv (.bool true) (Zv (.pointer (some ⟨b1, 2, none⟩)) (Zv (.pointer (some ⟨b1, 5, none⟩)) (Zl 0 ⟨b1, (coV c).cells, 51⟩ (off := 5) (.string (mkS c.v.pre)) ?_)))
              by_cases h9 : (c.v.pre : List UInt8) = []
              · refine zT (.bool false) (by kernel_rfl) (x6 (a := c.v.pre) (b := ([])) rfl (by kernel_rfl) (by kernel_rfl) (decide_eq_true (h9))) ?_
                exact Zv (.bool false) (Zv (.bool false) (zN (yU ⟨false, _, ⟨fun q0 => absurd q0 (by decide), fun q0 => ⟨by omega, by omega, by first | exact .inr (by assumption) | exact .inl (by omega)⟩⟩, rfl, ZU⟩)))
              exact zT (.bool true) (by kernel_rfl) (x6 (a := c.v.pre) (b := ([])) rfl (by kernel_rfl) (by kernel_rfl) (decide_eq_false (h9))) (Zv (.bool true) (Zv (.bool true) (zN (yU ⟨true, _, ⟨fun q0 => by grind, fun q0 => absurd q0 (by decide)⟩, rfl, ZU⟩))))
            exact Zd (p := (c.parts : Int) < 3) false (decide_eq_false (h8)) (Zv (.bool false) (Zk (Zk (Zk (Zk (Zv (.bool false) (Zv (.bool false) (zN (yU ⟨false, _, ⟨fun q0 => absurd q0 (by decide), fun q0 => ⟨by omega, by omega, by first | exact .inr (by assumption) | exact .inl (by omega)⟩⟩, rfl, ZU⟩)))))))))
          · rintro L f ⟨bad, j, hj2, rfl, rfl⟩
            refine zC ?_
            cases h10 : bad with
            | true =>
              exact Zt (ZO (Zv (.bool false) (ZN (zA (z8 (ZF (.bool false) Tryz.results79 (fun w hO => ⟨by rw [show c.may = false from Bool.eq_false_iff.2 fun q0 => by have q1 := Co.may_iff.1 q0; grind], hO.below⟩)))))))
            | false =>
              refine Zf (ZB (ZO (Zv (.pointer (some ⟨b1, 1, none⟩)) (Zl 0 ⟨b1, (coV c).cells, 51⟩ (off := 1) (.int .i64 c.parts) ?_))))
              by_cases h11 : (0 : Int) < c.parts
              · refine zV (p := (0 : Int) < c.parts) true (by kernel_rfl) (fun _ => by kernel_rfl) (decide_eq_true (h11)) ?_
                refine Zv (.bool true) (Zk (Zk (Zk (Zk (Zv (.bool true) (Zv (.bool true) (Zv (.pointer (some ⟨b1, 1, none⟩)) (Zl 0 ⟨b1, (coV c).cells, 51⟩ (off := 1) (.int .i64 c.parts) ?_))))))))
                by_cases h12 : (1 : Int) < c.parts
                · refine zV (p := (1 : Int) < c.parts) true (by kernel_rfl) (fun _ => by kernel_rfl) (decide_eq_true (h12)) ?_
                  refine Zv (.bool true) (Zk (Zk (Zk (Zk (Zv (.bool true) (Zv (.bool true) (Zv (.bool true) (Zv (.pointer (some ⟨b1, 1, none⟩)) (Zl 0 ⟨b1, (coV c).cells, 51⟩ (off := 1) (.int .i64 c.parts) ?_)))))))))
                  by_cases h13 : (2 : Int) < c.parts
                  · refine zV (p := (2 : Int) < c.parts) true (by kernel_rfl) (fun _ => by kernel_rfl) (decide_eq_true (h13)) ?_
                    refine Zv (.bool true) (Zk (Zk (Zk (Zk (Zv (.bool true) (Zv (.bool true) (Zv (.bool true) (ZN (zA (ZF (.bool true) Tryz.results79 ?_))))))))))
                    exact fun w hO => ⟨by rw [Co.may_iff.2 ⟨by omega, by assumption, by assumption, by grind, by grind, by grind, by omega, by omega, by omega⟩], hO.below⟩
                  refine Zd (p := (2 : Int) < c.parts) false (decide_eq_false (h13)) (Zv (.bool false) (Zv (.pointer (some ⟨b1, 2, none⟩)) (Zv (.pointer (some ⟨b1, 4, none⟩)) (Zl 0 ⟨b1, (coV c).cells, 51⟩ (off := 4) (.int .i64 c.v.pat) ?_))))
                  by_cases h14 : (c.v.pat : Int) = 0
                  · refine zV (p := (c.v.pat : Int) = 0) true (by kernel_rfl) (fun _ => by kernel_rfl) (decide_eq_true (h14)) ?_
                    exact Zv (.bool true) (Zv (.bool true) (Zv (.bool true) (ZN (zA (ZF (.bool true) Tryz.results79 (fun w hO => ⟨by rw [Co.may_iff.2 ⟨by omega, by assumption, by assumption, by grind, by grind, by grind, by omega, by omega, by omega⟩], hO.below⟩))))))
                  exact Zd (p := (c.v.pat : Int) = 0) false (decide_eq_false (h14)) (Zv (.bool false) (Zv (.bool false) (Zv (.bool false) (ZN (zA (ZF (.bool false) Tryz.results79 (fun w hO => ⟨by rw [show c.may = false from Bool.eq_false_iff.2 fun q0 => by have q1 := Co.may_iff.1 q0; grind], hO.below⟩)))))))
                refine Zd (p := (1 : Int) < c.parts) false (decide_eq_false (h12)) (Zv (.bool false) (Zv (.pointer (some ⟨b1, 2, none⟩)) (Zv (.pointer (some ⟨b1, 3, none⟩)) (Zl 0 ⟨b1, (coV c).cells, 51⟩ (off := 3) (.int .i64 c.v.min) ?_))))
                by_cases h15 : (c.v.min : Int) = 0
                · refine zV (p := (c.v.min : Int) = 0) true (by kernel_rfl) (fun _ => by kernel_rfl) (decide_eq_true (h15)) ?_
                  refine Zv (.bool true) (Zv (.bool true) (Zv (.bool true) (Zv (.pointer (some ⟨b1, 1, none⟩)) (Zl 0 ⟨b1, (coV c).cells, 51⟩ (off := 1) (.int .i64 c.parts) ?_))))
                  by_cases h16 : (2 : Int) < c.parts
                  · refine zV (p := (2 : Int) < c.parts) true (by kernel_rfl) (fun _ => by kernel_rfl) (decide_eq_true (h16)) ?_
                    refine Zv (.bool true) (Zk (Zk (Zk (Zk (Zv (.bool true) (Zv (.bool true) (Zv (.bool true) (ZN (zA (ZF (.bool true) Tryz.results79 ?_))))))))))
                    exact fun w hO => ⟨by rw [Co.may_iff.2 ⟨by omega, by assumption, by assumption, by grind, by grind, by grind, by omega, by omega, by omega⟩], hO.below⟩
                  refine Zd (p := (2 : Int) < c.parts) false (decide_eq_false (h16)) (Zv (.bool false) (Zv (.pointer (some ⟨b1, 2, none⟩)) (Zv (.pointer (some ⟨b1, 4, none⟩)) (Zl 0 ⟨b1, (coV c).cells, 51⟩ (off := 4) (.int .i64 c.v.pat) ?_))))
                  by_cases h17 : (c.v.pat : Int) = 0
                  · refine zV (p := (c.v.pat : Int) = 0) true (by kernel_rfl) (fun _ => by kernel_rfl) (decide_eq_true (h17)) ?_
                    exact Zv (.bool true) (Zv (.bool true) (Zv (.bool true) (ZN (zA (ZF (.bool true) Tryz.results79 (fun w hO => ⟨by rw [Co.may_iff.2 ⟨by omega, by assumption, by assumption, by grind, by grind, by grind, by omega, by omega, by omega⟩], hO.below⟩))))))
                  exact Zd (p := (c.v.pat : Int) = 0) false (decide_eq_false (h17)) (Zv (.bool false) (Zv (.bool false) (Zv (.bool false) (ZN (zA (ZF (.bool false) Tryz.results79 (fun w hO => ⟨by rw [show c.may = false from Bool.eq_false_iff.2 fun q0 => by have q1 := Co.may_iff.1 q0; grind], hO.below⟩)))))))
                refine Zd (p := (c.v.min : Int) = 0) false (decide_eq_false (h15)) (Zv (.bool false) (Zv (.bool false) (Zv (.bool false) (Zk (Zk (Zk (Zk (Zk (Zk (Zk (Zk ?_)))))))))))
                exact Zk (Zv (.bool false) (Zv (.bool false) (ZN (zA (ZF (.bool false) Tryz.results79 (fun w hO => ⟨by rw [show c.may = false from Bool.eq_false_iff.2 fun q0 => by have q1 := Co.may_iff.1 q0; grind], hO.below⟩))))))
              refine Zd (p := (0 : Int) < c.parts) false (decide_eq_false (h11)) (Zv (.bool false) (Zv (.pointer (some ⟨b1, 2, none⟩)) (Zv (.pointer (some ⟨b1, 2, none⟩)) (Zl 0 ⟨b1, (coV c).cells, 51⟩ (off := 2) (.int .i64 c.v.maj) ?_))))
              by_cases h18 : (c.v.maj : Int) = 0
              · refine zV (p := (c.v.maj : Int) = 0) true (by kernel_rfl) (fun _ => by kernel_rfl) (decide_eq_true (h18)) ?_
                refine Zv (.bool true) (Zv (.bool true) (Zv (.pointer (some ⟨b1, 1, none⟩)) (Zl 0 ⟨b1, (coV c).cells, 51⟩ (off := 1) (.int .i64 c.parts) ?_)))
                by_cases h19 : (1 : Int) < c.parts
                · refine zV (p := (1 : Int) < c.parts) true (by kernel_rfl) (fun _ => by kernel_rfl) (decide_eq_true (h19)) ?_
                  refine Zv (.bool true) (Zk (Zk (Zk (Zk (Zv (.bool true) (Zv (.bool true) (Zv (.bool true) (Zv (.pointer (some ⟨b1, 1, none⟩)) (Zl 0 ⟨b1, (coV c).cells, 51⟩ (off := 1) (.int .i64 c.parts) ?_)))))))))
                  by_cases h20 : (2 : Int) < c.parts
                  · refine zV (p := (2 : Int) < c.parts) true (by kernel_rfl) (fun _ => by kernel_rfl) (decide_eq_true (h20)) ?_
                    refine Zv (.bool true) (Zk (Zk (Zk (Zk (Zv (.bool true) (Zv (.bool true) (Zv (.bool true) (ZN (zA (ZF (.bool true) Tryz.results79 ?_))))))))))
                    exact fun w hO => ⟨by rw [Co.may_iff.2 ⟨by omega, by assumption, by assumption, by grind, by grind, by grind, by omega, by omega, by omega⟩], hO.below⟩
                  refine Zd (p := (2 : Int) < c.parts) false (decide_eq_false (h20)) (Zv (.bool false) (Zv (.pointer (some ⟨b1, 2, none⟩)) (Zv (.pointer (some ⟨b1, 4, none⟩)) (Zl 0 ⟨b1, (coV c).cells, 51⟩ (off := 4) (.int .i64 c.v.pat) ?_))))
                  by_cases h21 : (c.v.pat : Int) = 0
                  · refine zV (p := (c.v.pat : Int) = 0) true (by kernel_rfl) (fun _ => by kernel_rfl) (decide_eq_true (h21)) ?_
                    exact Zv (.bool true) (Zv (.bool true) (Zv (.bool true) (ZN (zA (ZF (.bool true) Tryz.results79 (fun w hO => ⟨by rw [Co.may_iff.2 ⟨by omega, by assumption, by assumption, by grind, by grind, by grind, by omega, by omega, by omega⟩], hO.below⟩))))))
                  exact Zd (p := (c.v.pat : Int) = 0) false (decide_eq_false (h21)) (Zv (.bool false) (Zv (.bool false) (Zv (.bool false) (ZN (zA (ZF (.bool false) Tryz.results79 (fun w hO => ⟨by rw [show c.may = false from Bool.eq_false_iff.2 fun q0 => by have q1 := Co.may_iff.1 q0; grind], hO.below⟩)))))))
                refine Zd (p := (1 : Int) < c.parts) false (decide_eq_false (h19)) (Zv (.bool false) (Zv (.pointer (some ⟨b1, 2, none⟩)) (Zv (.pointer (some ⟨b1, 3, none⟩)) (Zl 0 ⟨b1, (coV c).cells, 51⟩ (off := 3) (.int .i64 c.v.min) ?_))))
                by_cases h22 : (c.v.min : Int) = 0
                · refine zV (p := (c.v.min : Int) = 0) true (by kernel_rfl) (fun _ => by kernel_rfl) (decide_eq_true (h22)) ?_
                  refine Zv (.bool true) (Zv (.bool true) (Zv (.bool true) (Zv (.pointer (some ⟨b1, 1, none⟩)) (Zl 0 ⟨b1, (coV c).cells, 51⟩ (off := 1) (.int .i64 c.parts) ?_))))
                  by_cases h23 : (2 : Int) < c.parts
                  · refine zV (p := (2 : Int) < c.parts) true (by kernel_rfl) (fun _ => by kernel_rfl) (decide_eq_true (h23)) ?_
                    refine Zv (.bool true) (Zk (Zk (Zk (Zk (Zv (.bool true) (Zv (.bool true) (Zv (.bool true) (ZN (zA (ZF (.bool true) Tryz.results79 ?_))))))))))
                    exact fun w hO => ⟨by rw [Co.may_iff.2 ⟨by omega, by assumption, by assumption, by grind, by grind, by grind, by omega, by omega, by omega⟩], hO.below⟩
                  refine Zd (p := (2 : Int) < c.parts) false (decide_eq_false (h23)) (Zv (.bool false) (Zv (.pointer (some ⟨b1, 2, none⟩)) (Zv (.pointer (some ⟨b1, 4, none⟩)) (Zl 0 ⟨b1, (coV c).cells, 51⟩ (off := 4) (.int .i64 c.v.pat) ?_))))
                  by_cases h24 : (c.v.pat : Int) = 0
                  · refine zV (p := (c.v.pat : Int) = 0) true (by kernel_rfl) (fun _ => by kernel_rfl) (decide_eq_true (h24)) ?_
                    exact Zv (.bool true) (Zv (.bool true) (Zv (.bool true) (ZN (zA (ZF (.bool true) Tryz.results79 (fun w hO => ⟨by rw [Co.may_iff.2 ⟨by omega, by assumption, by assumption, by grind, by grind, by grind, by omega, by omega, by omega⟩], hO.below⟩))))))
                  exact Zd (p := (c.v.pat : Int) = 0) false (decide_eq_false (h24)) (Zv (.bool false) (Zv (.bool false) (Zv (.bool false) (ZN (zA (ZF (.bool false) Tryz.results79 (fun w hO => ⟨by rw [show c.may = false from Bool.eq_false_iff.2 fun q0 => by have q1 := Co.may_iff.1 q0; grind], hO.below⟩)))))))
                refine Zd (p := (c.v.min : Int) = 0) false (decide_eq_false (h22)) (Zv (.bool false) (Zv (.bool false) (Zv (.bool false) (Zk (Zk (Zk (Zk (Zk (Zk (Zk (Zk ?_)))))))))))
                exact Zk (Zv (.bool false) (Zv (.bool false) (ZN (zA (ZF (.bool false) Tryz.results79 (fun w hO => ⟨by rw [show c.may = false from Bool.eq_false_iff.2 fun q0 => by have q1 := Co.may_iff.1 q0; grind], hO.below⟩))))))
              refine Zd (p := (c.v.maj : Int) = 0) false (decide_eq_false (h18)) (Zv (.bool false) (Zv (.bool false) (Zk (Zk (Zk (Zk (Zk (Zk (Zk (Zk (Zk ?_)))))))))))
              refine Zv (.bool false) (Zv (.bool false) (Zk (Zk (Zk (Zk (Zk (Zk (Zk (Zk (Zk (Zv (.bool false) ?_)))))))))))
              exact Zv (.bool false) (ZN (zA (ZF (.bool false) Tryz.results79 (fun w hO => ⟨by rw [show c.may = false from Bool.eq_false_iff.2 fun q0 => by have q1 := Co.may_iff.1 q0; grind], hO.below⟩))))
      refine Zd (p := (c.op : Int) = 9) false (decide_eq_false (h5)) (ZN (bA (fun L f => ∃ (lo : Int) (hi : Int) (j : Nat → Value), ((c.op = 9 → lo = 0 ∧ hi = 2) ∧ (¬ c.op = 9 → lo = 1 ∧ hi = 3)) ∧ L = [⟨b1, (coV c).cells, 51⟩] ∧ f = kE j [(1, .pointer (some ⟨b1, 0, none⟩)), (3, .int .i64 lo), (4, .int .i64 hi)]) ?_ ?_))
      · refine ok_false (by kernel_rfl) ?_
        exact x4 (yU ⟨1, 3, _, ⟨by omega, by omega⟩, rfl, ZU⟩)
      · rintro L f ⟨lo, hi, j, hj3, rfl, rfl⟩
        refine zC (z6 (z6 (bA (fun L f => ∃ (bad : Bool) (j : Nat → Value), ((bad = true → ¬ (lo ≤ c.parts ∧ c.parts ≤ hi ∧ (3 ≤ c.parts ∨ c.v.pre = []))) ∧ (bad = false → lo ≤ c.parts ∧ c.parts ≤ hi ∧ (3 ≤ c.parts ∨ c.v.pre = []))) ∧ L = [⟨b1, (coV c).cells, 51⟩] ∧ f = kE j [(1, .pointer (some ⟨b1, 0, none⟩)), (48, .bool bad)]) ?_ ?_)))
        · refine z7 ?_
          refine Zv (.pointer (some ⟨b1, 1, none⟩)) (Zl 0 ⟨b1, (coV c).cells, 51⟩ (off := 1) (.int .i64 c.parts) (Zv (.int .i64 lo) ?_))
          by_cases h25 : (c.parts : Int) < lo
          · refine zV (p := (c.parts : Int) < lo) true (by kernel_rfl) (fun _ => by kernel_rfl) (decide_eq_true (h25)) ?_
            refine Zv (.bool true) (Zk (Zk (Zk (Zk (Zv (.bool true) (Zv (.bool true) (Zk (Zk (Zk (Zk (Zk ?_)))))))))))
            exact Zk (Zk (Zk (Zk (Zv (.bool true) (zN (yU ⟨true, _, ⟨fun q0 => by grind, fun q0 => absurd q0 (by decide)⟩, rfl, ZU⟩))))))
          refine Zd (p := (c.parts : Int) < lo) false (decide_eq_false (h25)) (Zv (.bool false) (Zv (.pointer (some ⟨b1, 1, none⟩)) (Zl 0 ⟨b1, (coV c).cells, 51⟩ (off := 1) (.int .i64 c.parts) (Zv (.int .i64 hi) ?_))))
          by_cases h26 : (hi : Int) < c.parts
          · refine zV (p := (hi : Int) < c.parts) true (by kernel_rfl) (fun _ => by kernel_rfl) (decide_eq_true (h26)) ?_
            refine Zv (.bool true) (Zv (.bool true) (Zk (Zk (Zk (Zk (Zk (Zk (Zk (Zk (Zk (Zv (.bool true) ?_)))))))))))
            exact zN (yU ⟨true, _, ⟨fun q0 => by grind, fun q0 => absurd q0 (by decide)⟩, rfl, ZU⟩)
          refine Zd (p := (hi : Int) < c.parts) false (decide_eq_false (h26)) (Zv (.bool false) (Zv (.bool false) (Zv (.pointer (some ⟨b1, 1, none⟩)) (Zl 0 ⟨b1, (coV c).cells, 51⟩ (off := 1) (.int .i64 c.parts) ?_))))
          by_cases h27 : (c.parts : Int) < 3
          · refine zV (p := (c.parts : Int) < 3) true (by kernel_rfl) (fun _ => by kernel_rfl) (decide_eq_true (h27)) ?_
            refine Zv (.bool true) (Zv (.pointer (some ⟨b1, 2, none⟩)) (Zv (.pointer (some ⟨b1, 5, none⟩)) (Zl 0 ⟨b1, (coV c).cells, 51⟩ (off := 5) (.string (mkS c.v.pre)) ?_)))
            by_cases h28 : (c.v.pre : List UInt8) = []
            · refine zT (.bool false) (by kernel_rfl) (x6 (a := c.v.pre) (b := ([])) rfl (by kernel_rfl) (by kernel_rfl) (decide_eq_true (h28))) ?_
              exact Zv (.bool false) (Zv (.bool false) (zN (yU ⟨false, _, ⟨fun q0 => absurd q0 (by decide), fun q0 => ⟨by omega, by omega, by first | exact .inr (by assumption) | exact .inl (by omega)⟩⟩, rfl, ZU⟩)))
            exact zT (.bool true) (by kernel_rfl) (x6 (a := c.v.pre) (b := ([])) rfl (by kernel_rfl) (by kernel_rfl) (decide_eq_false (h28))) (Zv (.bool true) (Zv (.bool true) (zN (yU ⟨true, _, ⟨fun q0 => by grind, fun q0 => absurd q0 (by decide)⟩, rfl, ZU⟩))))
          exact Zd (p := (c.parts : Int) < 3) false (decide_eq_false (h27)) (Zv (.bool false) (Zk (Zk (Zk (Zk (Zv (.bool false) (Zv (.bool false) (zN (yU ⟨false, _, ⟨fun q0 => absurd q0 (by decide), fun q0 => ⟨by omega, by omega, by first | exact .inr (by assumption) | exact .inl (by omega)⟩⟩, rfl, ZU⟩)))))))))
        · rintro L f ⟨bad, j, hj2, rfl, rfl⟩
          refine zC ?_
          cases h29 : bad with
          | true =>
            exact Zt (ZO (Zv (.bool false) (ZN (zA (z8 (ZF (.bool false) Tryz.results79 (fun w hO => ⟨by rw [show c.may = false from Bool.eq_false_iff.2 fun q0 => by have q1 := Co.may_iff.1 q0; grind], hO.below⟩)))))))
          | false =>
            refine Zf (ZB (ZO (Zv (.pointer (some ⟨b1, 1, none⟩)) (Zl 0 ⟨b1, (coV c).cells, 51⟩ (off := 1) (.int .i64 c.parts) ?_))))
            by_cases h30 : (0 : Int) < c.parts
            · refine zV (p := (0 : Int) < c.parts) true (by kernel_rfl) (fun _ => by kernel_rfl) (decide_eq_true (h30)) ?_
              refine Zv (.bool true) (Zk (Zk (Zk (Zk (Zv (.bool true) (Zv (.bool true) (Zv (.pointer (some ⟨b1, 1, none⟩)) (Zl 0 ⟨b1, (coV c).cells, 51⟩ (off := 1) (.int .i64 c.parts) ?_))))))))
              by_cases h31 : (1 : Int) < c.parts
              · refine zV (p := (1 : Int) < c.parts) true (by kernel_rfl) (fun _ => by kernel_rfl) (decide_eq_true (h31)) ?_
                refine Zv (.bool true) (Zk (Zk (Zk (Zk (Zv (.bool true) (Zv (.bool true) (Zv (.bool true) (Zv (.pointer (some ⟨b1, 1, none⟩)) (Zl 0 ⟨b1, (coV c).cells, 51⟩ (off := 1) (.int .i64 c.parts) ?_)))))))))
                by_cases h32 : (2 : Int) < c.parts
                · refine zV (p := (2 : Int) < c.parts) true (by kernel_rfl) (fun _ => by kernel_rfl) (decide_eq_true (h32)) ?_
                  refine Zv (.bool true) (Zk (Zk (Zk (Zk (Zv (.bool true) (Zv (.bool true) (Zv (.bool true) (ZN (zA (ZF (.bool true) Tryz.results79 ?_))))))))))
                  exact fun w hO => ⟨by rw [Co.may_iff.2 ⟨by omega, by assumption, by assumption, by grind, by grind, by grind, by omega, by omega, by omega⟩], hO.below⟩
                refine Zd (p := (2 : Int) < c.parts) false (decide_eq_false (h32)) (Zv (.bool false) (Zv (.pointer (some ⟨b1, 2, none⟩)) (Zv (.pointer (some ⟨b1, 4, none⟩)) (Zl 0 ⟨b1, (coV c).cells, 51⟩ (off := 4) (.int .i64 c.v.pat) ?_))))
                by_cases h33 : (c.v.pat : Int) = 0
                · refine zV (p := (c.v.pat : Int) = 0) true (by kernel_rfl) (fun _ => by kernel_rfl) (decide_eq_true (h33)) ?_
                  exact Zv (.bool true) (Zv (.bool true) (Zv (.bool true) (ZN (zA (ZF (.bool true) Tryz.results79 (fun w hO => ⟨by rw [Co.may_iff.2 ⟨by omega, by assumption, by assumption, by grind, by grind, by grind, by omega, by omega, by omega⟩], hO.below⟩))))))
                exact Zd (p := (c.v.pat : Int) = 0) false (decide_eq_false (h33)) (Zv (.bool false) (Zv (.bool false) (Zv (.bool false) (ZN (zA (ZF (.bool false) Tryz.results79 (fun w hO => ⟨by rw [show c.may = false from Bool.eq_false_iff.2 fun q0 => by have q1 := Co.may_iff.1 q0; grind], hO.below⟩)))))))
              refine Zd (p := (1 : Int) < c.parts) false (decide_eq_false (h31)) (Zv (.bool false) (Zv (.pointer (some ⟨b1, 2, none⟩)) (Zv (.pointer (some ⟨b1, 3, none⟩)) (Zl 0 ⟨b1, (coV c).cells, 51⟩ (off := 3) (.int .i64 c.v.min) ?_))))
              by_cases h34 : (c.v.min : Int) = 0
              · refine zV (p := (c.v.min : Int) = 0) true (by kernel_rfl) (fun _ => by kernel_rfl) (decide_eq_true (h34)) ?_
                refine Zv (.bool true) (Zv (.bool true) (Zv (.bool true) (Zv (.pointer (some ⟨b1, 1, none⟩)) (Zl 0 ⟨b1, (coV c).cells, 51⟩ (off := 1) (.int .i64 c.parts) ?_))))
                by_cases h35 : (2 : Int) < c.parts
                · refine zV (p := (2 : Int) < c.parts) true (by kernel_rfl) (fun _ => by kernel_rfl) (decide_eq_true (h35)) ?_
                  refine Zv (.bool true) (Zk (Zk (Zk (Zk (Zv (.bool true) (Zv (.bool true) (Zv (.bool true) (ZN (zA (ZF (.bool true) Tryz.results79 ?_))))))))))
                  exact fun w hO => ⟨by rw [Co.may_iff.2 ⟨by omega, by assumption, by assumption, by grind, by grind, by grind, by omega, by omega, by omega⟩], hO.below⟩
                refine Zd (p := (2 : Int) < c.parts) false (decide_eq_false (h35)) (Zv (.bool false) (Zv (.pointer (some ⟨b1, 2, none⟩)) (Zv (.pointer (some ⟨b1, 4, none⟩)) (Zl 0 ⟨b1, (coV c).cells, 51⟩ (off := 4) (.int .i64 c.v.pat) ?_))))
                by_cases h36 : (c.v.pat : Int) = 0
                · refine zV (p := (c.v.pat : Int) = 0) true (by kernel_rfl) (fun _ => by kernel_rfl) (decide_eq_true (h36)) ?_
                  exact Zv (.bool true) (Zv (.bool true) (Zv (.bool true) (ZN (zA (ZF (.bool true) Tryz.results79 (fun w hO => ⟨by rw [Co.may_iff.2 ⟨by omega, by assumption, by assumption, by grind, by grind, by grind, by omega, by omega, by omega⟩], hO.below⟩))))))
                exact Zd (p := (c.v.pat : Int) = 0) false (decide_eq_false (h36)) (Zv (.bool false) (Zv (.bool false) (Zv (.bool false) (ZN (zA (ZF (.bool false) Tryz.results79 (fun w hO => ⟨by rw [show c.may = false from Bool.eq_false_iff.2 fun q0 => by have q1 := Co.may_iff.1 q0; grind], hO.below⟩)))))))
              refine Zd (p := (c.v.min : Int) = 0) false (decide_eq_false (h34)) (Zv (.bool false) (Zv (.bool false) (Zv (.bool false) (Zk (Zk (Zk (Zk (Zk (Zk (Zk (Zk ?_)))))))))))
              exact Zk (Zv (.bool false) (Zv (.bool false) (ZN (zA (ZF (.bool false) Tryz.results79 (fun w hO => ⟨by rw [show c.may = false from Bool.eq_false_iff.2 fun q0 => by have q1 := Co.may_iff.1 q0; grind], hO.below⟩))))))
            refine Zd (p := (0 : Int) < c.parts) false (decide_eq_false (h30)) (Zv (.bool false) (Zv (.pointer (some ⟨b1, 2, none⟩)) (Zv (.pointer (some ⟨b1, 2, none⟩)) (Zl 0 ⟨b1, (coV c).cells, 51⟩ (off := 2) (.int .i64 c.v.maj) ?_))))
            by_cases h37 : (c.v.maj : Int) = 0
            · refine zV (p := (c.v.maj : Int) = 0) true (by kernel_rfl) (fun _ => by kernel_rfl) (decide_eq_true (h37)) ?_
              refine Zv (.bool true) (Zv (.bool true) (Zv (.pointer (some ⟨b1, 1, none⟩)) (Zl 0 ⟨b1, (coV c).cells, 51⟩ (off := 1) (.int .i64 c.parts) ?_)))
              by_cases h38 : (1 : Int) < c.parts
              · refine zV (p := (1 : Int) < c.parts) true (by kernel_rfl) (fun _ => by kernel_rfl) (decide_eq_true (h38)) ?_
                refine Zv (.bool true) (Zk (Zk (Zk (Zk (Zv (.bool true) (Zv (.bool true) (Zv (.bool true) (Zv (.pointer (some ⟨b1, 1, none⟩)) (Zl 0 ⟨b1, (coV c).cells, 51⟩ (off := 1) (.int .i64 c.parts) ?_)))))))))
                by_cases h39 : (2 : Int) < c.parts
                · refine zV (p := (2 : Int) < c.parts) true (by kernel_rfl) (fun _ => by kernel_rfl) (decide_eq_true (h39)) ?_
                  refine Zv (.bool true) (Zk (Zk (Zk (Zk (Zv (.bool true) (Zv (.bool true) (Zv (.bool true) (ZN (zA (ZF (.bool true) Tryz.results79 ?_))))))))))
                  exact fun w hO => ⟨by rw [Co.may_iff.2 ⟨by omega, by assumption, by assumption, by grind, by grind, by grind, by omega, by omega, by omega⟩], hO.below⟩
                refine Zd (p := (2 : Int) < c.parts) false (decide_eq_false (h39)) (Zv (.bool false) (Zv (.pointer (some ⟨b1, 2, none⟩)) (Zv (.pointer (some ⟨b1, 4, none⟩)) (Zl 0 ⟨b1, (coV c).cells, 51⟩ (off := 4) (.int .i64 c.v.pat) ?_))))
                by_cases h40 : (c.v.pat : Int) = 0
                · refine zV (p := (c.v.pat : Int) = 0) true (by kernel_rfl) (fun _ => by kernel_rfl) (decide_eq_true (h40)) ?_
                  exact Zv (.bool true) (Zv (.bool true) (Zv (.bool true) (ZN (zA (ZF (.bool true) Tryz.results79 (fun w hO => ⟨by rw [Co.may_iff.2 ⟨by omega, by assumption, by assumption, by grind, by grind, by grind, by omega, by omega, by omega⟩], hO.below⟩))))))
                exact Zd (p := (c.v.pat : Int) = 0) false (decide_eq_false (h40)) (Zv (.bool false) (Zv (.bool false) (Zv (.bool false) (ZN (zA (ZF (.bool false) Tryz.results79 (fun w hO => ⟨by rw [show c.may = false from Bool.eq_false_iff.2 fun q0 => by have q1 := Co.may_iff.1 q0; grind], hO.below⟩)))))))
              refine Zd (p := (1 : Int) < c.parts) false (decide_eq_false (h38)) (Zv (.bool false) (Zv (.pointer (some ⟨b1, 2, none⟩)) (Zv (.pointer (some ⟨b1, 3, none⟩)) (Zl 0 ⟨b1, (coV c).cells, 51⟩ (off := 3) (.int .i64 c.v.min) ?_))))
              by_cases h41 : (c.v.min : Int) = 0
              · refine zV (p := (c.v.min : Int) = 0) true (by kernel_rfl) (fun _ => by kernel_rfl) (decide_eq_true (h41)) ?_
                refine Zv (.bool true) (Zv (.bool true) (Zv (.bool true) (Zv (.pointer (some ⟨b1, 1, none⟩)) (Zl 0 ⟨b1, (coV c).cells, 51⟩ (off := 1) (.int .i64 c.parts) ?_))))
                by_cases h42 : (2 : Int) < c.parts
                · refine zV (p := (2 : Int) < c.parts) true (by kernel_rfl) (fun _ => by kernel_rfl) (decide_eq_true (h42)) ?_
                  refine Zv (.bool true) (Zk (Zk (Zk (Zk (Zv (.bool true) (Zv (.bool true) (Zv (.bool true) (ZN (zA (ZF (.bool true) Tryz.results79 ?_))))))))))
                  exact fun w hO => ⟨by rw [Co.may_iff.2 ⟨by omega, by assumption, by assumption, by grind, by grind, by grind, by omega, by omega, by omega⟩], hO.below⟩
                refine Zd (p := (2 : Int) < c.parts) false (decide_eq_false (h42)) (Zv (.bool false) (Zv (.pointer (some ⟨b1, 2, none⟩)) (Zv (.pointer (some ⟨b1, 4, none⟩)) (Zl 0 ⟨b1, (coV c).cells, 51⟩ (off := 4) (.int .i64 c.v.pat) ?_))))
                by_cases h43 : (c.v.pat : Int) = 0
                · refine zV (p := (c.v.pat : Int) = 0) true (by kernel_rfl) (fun _ => by kernel_rfl) (decide_eq_true (h43)) ?_
                  exact Zv (.bool true) (Zv (.bool true) (Zv (.bool true) (ZN (zA (ZF (.bool true) Tryz.results79 (fun w hO => ⟨by rw [Co.may_iff.2 ⟨by omega, by assumption, by assumption, by grind, by grind, by grind, by omega, by omega, by omega⟩], hO.below⟩))))))
                exact Zd (p := (c.v.pat : Int) = 0) false (decide_eq_false (h43)) (Zv (.bool false) (Zv (.bool false) (Zv (.bool false) (ZN (zA (ZF (.bool false) Tryz.results79 (fun w hO => ⟨by rw [show c.may = false from Bool.eq_false_iff.2 fun q0 => by have q1 := Co.may_iff.1 q0; grind], hO.below⟩)))))))
              refine Zd (p := (c.v.min : Int) = 0) false (decide_eq_false (h41)) (Zv (.bool false) (Zv (.bool false) (Zv (.bool false) (Zk (Zk (Zk (Zk (Zk (Zk (Zk (Zk ?_)))))))))))
              exact Zk (Zv (.bool false) (Zv (.bool false) (ZN (zA (ZF (.bool false) Tryz.results79 (fun w hO => ⟨by rw [show c.may = false from Bool.eq_false_iff.2 fun q0 => by have q1 := Co.may_iff.1 q0; grind], hO.below⟩))))))
            refine Zd (p := (c.v.maj : Int) = 0) false (decide_eq_false (h37)) (Zv (.bool false) (Zv (.bool false) (Zk (Zk (Zk (Zk (Zk (Zk (Zk (Zk (Zk ?_)))))))))))
            refine Zv (.bool false) (Zv (.bool false) (Zk (Zk (Zk (Zk (Zk (Zk (Zk (Zk (Zk (Zv (.bool false) ?_)))))))))))
            exact Zv (.bool false) (ZN (zA (ZF (.bool false) Tryz.results79 (fun w hO => ⟨by rw [show c.may = false from Bool.eq_false_iff.2 fun q0 => by have q1 := Co.may_iff.1 q0; grind], hO.below⟩))))
    refine zT (.bool true) (by kernel_rfl) (x6 (a := c.v.build) (b := ([])) rfl (by kernel_rfl) (by kernel_rfl) (decide_eq_false (h4))) (Zv (.bool true) (ZY (ZO (Zv (.bool false) (ZN (zA (z8 ?_)))))))
    exact ZF (.bool false) Tryz.results79 (fun w hO => ⟨by rw [show c.may = false from Bool.eq_false_iff.2 fun q0 => by have q1 := Co.may_iff.1 q0; grind], hO.below⟩)
  | false =>
    refine Zv (.bool true) (Zv (.bool true) (Zv (.bool true) (Zk (Zk (Zk (Zk (Zv (.bool true) (ZY (z6 ?_)))))))))
    exact z7 (Zv (.bool false) (ZN (zA (z8 (ZF (.bool false) Tryz.results79 (fun w hO => ⟨by rw [show c.may = false from Bool.eq_false_iff.2 fun q0 => by have q1 := Co.may_iff.1 q0; grind], hO.below⟩))))))
theorem rcsign_any (op : Int) (W : World) : Calls Tryz.prog 123 #[.int .i64 op] W fun e w' => e = .returned (.string (mkS (zY op))) ∧ Below W.heap.size W w' := by
  refine zQ (n := 20) Tryz.func123 rfl (by kernel_rfl) (by kernel_rfl) (ZO (Zv (.string ⟨#[]⟩) (ZN (z6 (ZO (Zv (.int .i64 op) (zN (zC ?_))))))))
  refine zI (z6 (z7 ?_))
  by_cases h1 : (op : Int) = 1
  · refine zV (p := (op : Int) = 1) true (by kernel_rfl) (fun _ => by kernel_rfl) (decide_eq_true (h1)) ?_
    refine Zv (.bool true) (ZY (ZO (Zv (.string ⟨#[61]⟩) (ZN (zA (zD (z8 ?_)))))))
    exact ZF (.string ⟨#[61]⟩) Tryz.results123 (fun w hO => ⟨by unfold zY; simp [h1]; rfl, hO.below⟩)
  refine Zd (p := (op : Int) = 1) false (decide_eq_false (h1)) (Zv (.bool false) (ZX (z6 (z7 ?_))))
  by_cases h2 : (op : Int) = 2
  · refine zV (p := (op : Int) = 2) true (by kernel_rfl) (fun _ => by kernel_rfl) (decide_eq_true (h2)) ?_
    refine Zv (.bool true) (ZY (ZO (Zv (.string ⟨#[33, 61]⟩) (ZN (zA (zD (z8 ?_)))))))
    exact ZF (.string ⟨#[33, 61]⟩) Tryz.results123 (fun w hO => ⟨by unfold zY; simp [h1, h2]; rfl, hO.below⟩)
  refine Zd (p := (op : Int) = 2) false (decide_eq_false (h2)) (Zv (.bool false) (ZX (z6 (z7 ?_))))
  by_cases h3 : (op : Int) = 3
  · refine zV (p := (op : Int) = 3) true (by kernel_rfl) (fun _ => by kernel_rfl) (decide_eq_true (h3)) ?_
    refine Zv (.bool true) (ZY (ZO (Zv (.string ⟨#[60]⟩) (ZN (zA (zD (z8 ?_)))))))
    exact ZF (.string ⟨#[60]⟩) Tryz.results123 (fun w hO => ⟨by unfold zY; simp [h1, h2, h3]; rfl, hO.below⟩)
  refine Zd (p := (op : Int) = 3) false (decide_eq_false (h3)) (Zv (.bool false) (ZX (z6 (z7 ?_))))
  by_cases h4 : (op : Int) = 4
  · refine zV (p := (op : Int) = 4) true (by kernel_rfl) (fun _ => by kernel_rfl) (decide_eq_true (h4)) ?_
    refine Zv (.bool true) (ZY (ZO (Zv (.string ⟨#[60, 61]⟩) (ZN (zA (zD (z8 ?_)))))))
    exact ZF (.string ⟨#[60, 61]⟩) Tryz.results123 (fun w hO => ⟨by unfold zY; simp [h1, h2, h3, h4]; rfl, hO.below⟩)
  refine Zd (p := (op : Int) = 4) false (decide_eq_false (h4)) (Zv (.bool false) (ZX (z6 (z7 ?_))))
  by_cases h5 : (op : Int) = 5
  · refine zV (p := (op : Int) = 5) true (by kernel_rfl) (fun _ => by kernel_rfl) (decide_eq_true (h5)) ?_
    refine Zv (.bool true) (ZY (ZO (Zv (.string ⟨#[62]⟩) (ZN (zA (zD (z8 ?_)))))))
    exact ZF (.string ⟨#[62]⟩) Tryz.results123 (fun w hO => ⟨by unfold zY; simp [h1, h2, h3, h4, h5]; rfl, hO.below⟩)
  refine Zd (p := (op : Int) = 5) false (decide_eq_false (h5)) (Zv (.bool false) (ZX (z6 (z7 ?_))))
  by_cases h6 : (op : Int) = 6
  · refine zV (p := (op : Int) = 6) true (by kernel_rfl) (fun _ => by kernel_rfl) (decide_eq_true (h6)) ?_
    refine Zv (.bool true) (ZY (ZO (Zv (.string ⟨#[62, 61]⟩) (ZN (zA (zD (z8 ?_)))))))
    exact ZF (.string ⟨#[62, 61]⟩) Tryz.results123 (fun w hO => ⟨by unfold zY; simp [h1, h2, h3, h4, h5, h6]; rfl, hO.below⟩)
  refine Zd (p := (op : Int) = 6) false (decide_eq_false (h6)) (Zv (.bool false) (ZX (z6 (z7 ?_))))
  by_cases h7 : (op : Int) = 7
  · refine zV (p := (op : Int) = 7) true (by kernel_rfl) (fun _ => by kernel_rfl) (decide_eq_true (h7)) ?_
    refine Zv (.bool true) (ZY (ZO (Zv (.string ⟨#[94]⟩) (ZN (zA (zD (z8 ?_)))))))
    exact ZF (.string ⟨#[94]⟩) Tryz.results123 (fun w hO => ⟨by unfold zY; simp [h1, h2, h3, h4, h5, h6, h7]; rfl, hO.below⟩)
  refine Zd (p := (op : Int) = 7) false (decide_eq_false (h7)) (Zv (.bool false) (ZX (z6 (z7 ?_))))
  by_cases h8 : (op : Int) = 8
  · refine zV (p := (op : Int) = 8) true (by kernel_rfl) (fun _ => by kernel_rfl) (decide_eq_true (h8)) ?_
    refine Zv (.bool true) (ZY (ZO (Zv (.string ⟨#[126]⟩) (ZN (zA (zD (z8 ?_)))))))
    exact ZF (.string ⟨#[126]⟩) Tryz.results123 (fun w hO => ⟨by unfold zY; simp [h1, h2, h3, h4, h5, h6, h7, h8]; rfl, hO.below⟩)
  refine Zd (p := (op : Int) = 8) false (decide_eq_false (h8)) (Zv (.bool false) (ZX (x4 (zR (zC (ZO (Zv (.string ⟨#[]⟩) (zN ?_))))))))
  exact zC (zA (ZF (.string ⟨#[]⟩) Tryz.results123 (fun w hO => ⟨by unfold zY; simp [h1, h2, h3, h4, h5, h6, h7, h8]; rfl, hO.below⟩)))
end
section
theorem slit6 (s : Sp) (b : Nat) (cur : Array Value) (h : cur.toList = x9 s) : SlS (.slice (some ⟨b, 0, none⟩) 1 1) [s] [⟨b, cur, 80⟩] := by
  have e : ([s] : List Sp).flatMap x9 = x9 s := List.append_nil _
  have hc : cur.toList.length = 14 := by rw [h]; rfl
  refine ⟨by rw [e]; rfl, .inr ⟨b, 1, cur, rfl, rfl, Nat.le_refl _, by decide, by rw [← Array.length_toList, hc], ?_⟩⟩
  rw [e, h]
  exact List.take_of_length_le (Nat.le_refl 14)
theorem high_short (v : Ver) (k : Nat) : (gX v k).short := by
  induction k with
  | zero =>
    unfold gX
    split
    · exact bump_short v 0
    · exact ⟨Nat.zero_le _, Nat.zero_le _⟩
  | succ k ih =>
    unfold gX
    split
    · exact bump_short v _
    · exact ih
theorem span_short {c : Co} (h : c.short) : c.span.1.short ∧ c.span.2.short := by
  have hl : c.low.short := core_short h
  have he : ∀ e : Int, (yJ e).short := fun e => ⟨Nat.zero_le _, Nat.zero_le _⟩
  have ha : c.aft.short := by
    unfold Co.aft
    split
    · exact high_short _ _
    · exact core_short h
  have hh := fun k => high_short c.v k
  unfold Co.span
  repeat' split
  all_goals exact ⟨by first | exact hl | exact ha | exact he _ | exact hh _, by first | exact hl | exact ha | exact he _ | exact hh _⟩
theorem dP (lo hi : Cu) : kA lo hi = if zP lo hi < 0 then [⟨lo, hi⟩] else [] := by
  unfold kA gO
  by_cases h : zP lo hi < 0
  · rw [if_pos (bS h), if_pos h]; rfl
  · rw [if_neg (fun q => h (uG q)), if_neg h]
end
section
def triV (l : List (List UInt8)) : Ver := if l.length = 3 then ⟨zO (tg l 0), zO (tg l 1), zO (tg l 2), [], []⟩ else Ver.zero
def triB (l : List (List UInt8)) : Bool := decide (l.length = 3) && (g8 (tg l 0) && g8 (tg l 1) && g8 (tg l 2))
theorem nS (n : Int) (h : yC n = true) (w : World) :
    Calls Tryz.prog 171 #[.int .i64 n] w fun e w' => e = .returned (.string (mkS (Lib.itoa n))) ∧ Below w.heap.size w w' := by
  unfold yC at h; simp at h
  exact rdigits_any n (by omega) (by omega) w
end
section
theorem jK (op : Int) : (zY op).length ≤ 2 := by
  unfold zY
  repeat' split
  all_goals decide
theorem join_len (b : UInt8) (m : Nat) : ∀ (l : List (List UInt8)), (∀ x ∈ l, x.length ≤ m) → (zW b l).length ≤ l.length * (m + 1)
  | [], _ => by simp [zW]
  | [x], h => by
    have := h x (List.mem_singleton.2 rfl)
    simp [zW]; omega
  | x :: y :: r, h => by
    have h1 := h x (List.mem_cons_self ..)
    have h2 := join_len b m (y :: r) fun z hz => h z (List.mem_cons_of_mem _ hz)
    rw [zW, List.length_append, List.length_cons]
    simp only [List.length_cons, Nat.add_mul] at h2 ⊢
    omega
theorem nums_len9 {v : Ver} (hv : v.may = true) {n : Nat} : ∀ x ∈ y9 v n, x.length ≤ 21 := fun x hx => by
  obtain ⟨k, hk, rfl⟩ := nums_mem hv hx
  have := tK hk
  omega
theorem u7 (v : Ver) (n : Nat) : (y9 v n).length ≤ 3 := by unfold y9; rw [List.length_take]; simp; omega
theorem qJ {v : Ver} (hv : v.may = true) (n : Nat) : (zW 46 (y9 v n)).length ≤ 100 := by
  have h := join_len 46 21 (y9 v n) (nums_len9 hv)
  have := u7 v n
  omega
theorem jJ {v : Ver} (hv : v.may = true) (n : Nat) : (zW 46 (y9 v n ++ [[42]])).length ≤ 200 := by
  have h := join_len 46 21 (y9 v n ++ [[42]]) (fun x hx => by
    rcases List.mem_append.1 hx with hx | hx
    · exact nums_len9 hv x hx
    · rw [List.mem_singleton.1 hx]; decide)
  have := u7 v n
  rw [List.length_append] at h
  simp at h; omega
def toldC (v : Ver) : Array Value := #[.string (mkS (Lib.itoa v.maj)), .string (mkS (Lib.itoa v.min)), .string (mkS (Lib.itoa v.pat))]
theorem told_take (v : Ver) {n : Nat} (h : n ≤ 3) : (toldC v).toList.take (n * 1) = qB (y9 v n) := by
  rw [Nat.mul_one]
  unfold qB y9
  rw [List.map_take]; rfl
theorem told_slt (v : Ver) {n : Nat} (h : n ≤ 3) (g : Nat) : SlT (.slice (some ⟨g, 0, none⟩) n 3) (y9 v n) [⟨g, toldC v, 9⟩] := by
  have e := qI v h
  refine ⟨by rw [vQ, e]; omega, .inr ⟨g, 3, toldC v, by rw [e], rfl, by rw [e]; exact h, by decide, rfl, ?_⟩⟩
  rw [e]; exact told_take v h
theorem strInfo : (Tryz.prog.info? 9).map (fun i => (i.zero.map (·.cells.size), i.size, i.bytes)) = some (some 1, 1, 16) := by kernel_rfl
theorem fI : ∃ i z, Tryz.prog.info? 9 = some i ∧ i.zero = some z ∧ i.size = 1 ∧ z.cells.size = 1 ∧ i.bytes = 16 := by
  have h := strInfo
  cases hi : Tryz.prog.info? 9 with
  | none => rw [hi] at h; cases h
  | some i =>
    rw [hi] at h
    simp only [Option.map_some, Option.some.injEq, Prod.mk.injEq] at h
    cases hz : i.zero with
    | none => rw [hz] at h; simp at h
    | some z => rw [hz] at h; simp at h; exact ⟨i, z, rfl, hz, h.2.1, h.1, h.2.2⟩
theorem parts_nat {c : Co} (h : c.may = true) : ((c.parts.toNat : Nat) : Int) = c.parts ∧ c.parts.toNat ≤ 3 := by
  obtain ⟨_, _, _, h9, hn, _⟩ := Co.facts h
  by_cases e : c.op = 9
  · have := h9 e; omega
  · have := hn e; omega
theorem star_text {c : Co} (h9 : c.op = 9) : zW 46 (y9 c.v c.parts.toNat ++ [[42]]) = c.text := by
  unfold Co.text Co.rest
  rw [h9, if_pos rfl]; rfl
theorem text_pre {c : Co} (h9 : ¬ c.op = 9) (hp : ¬ c.v.pre = []) : zY c.op ++ zW 46 (y9 c.v c.parts.toNat) ++ [45] ++ c.v.pre = c.text := by
  unfold Co.text Co.rest wR
  rw [if_neg h9]
  cases hq : c.v.pre with
  | nil => exact absurd hq hp
  | cons a r => simp
theorem text_bare {c : Co} (h9 : ¬ c.op = 9) (hp : c.v.pre = []) : zY c.op ++ zW 46 (y9 c.v c.parts.toNat) = c.text := by
  unfold Co.text Co.rest wR
  rw [if_neg h9, hp]; simp
theorem rctold_any (c : Co) (W : World) (hc : c.short) (hm : c.may = true) : Calls Tryz.prog 126 #[coV c] W fun e w' => ∃ v' ob', e = .returned v' ∧ (∃ g, v' = .slice (some ⟨g, 0, none⟩) c.parts.toNat 3 ∧ ob' = [⟨g, toldC c.v, 9⟩]) ∧ Own [] W w' ob' := by
  obtain ⟨m1, m2, m3⟩ := qE (Co.facts hm).2.1
  have hpn := parts_nat hm
  refine zQ (n := 21) Tryz.func126 rfl (by kernel_rfl) (by kernel_rfl) (ZO (Zb (coV c) (fun b1 => Zv (.slice none 0 0) (ZN (z6 (uM (by kernel_rfl) (ZT 0 [] _ (.pointer (some ⟨b1, 2, none⟩)) (zK zS) rfl (ZT 1 [] _ (.pointer (some ⟨b1, 2, none⟩)) (zK zS) rfl (ZL 2 [] _ 0 ⟨b1, (coV c).cells, 51⟩ (off := 2) (.int .i64 c.v.maj) (zK zS) rfl rfl ?_)))))))))
  refine ZT 4 [] _ (.pointer (some ⟨b1, 2, none⟩)) (zK zS) rfl (ZT 5 [] _ (.pointer (some ⟨b1, 3, none⟩)) (zK zS) rfl (ZL 6 [] _ 0 ⟨b1, (coV c).cells, 51⟩ (off := 3) (.int .i64 c.v.min) (zK zS) rfl rfl (ZT 8 [] _ (.pointer (some ⟨b1, 2, none⟩)) (zK zS) rfl (ZT 9 [] _ (.pointer (some ⟨b1, 4, none⟩)) (zK zS) rfl (ZL 10 [] _ 0 ⟨b1, (coV c).cells, 51⟩ (off := 4) (.int .i64 c.v.pat) (zK zS) rfl rfl (y8 3 (by kernel_rfl) (kD [] _ (k := 171) (args := #[.int .i64 c.v.maj]) (.string (mkS (Lib.itoa c.v.maj))) rfl (by kernel_rfl) (fun _ => by kernel_rfl) (fun w _ => nS c.v.maj m1 w) (y8 7 (by kernel_rfl) (kD [] _ (k := 171) (args := #[.int .i64 c.v.min]) (.string (mkS (Lib.itoa c.v.min))) rfl (by kernel_rfl) (fun _ => by kernel_rfl) (fun w _ => nS c.v.min m2 w) (y8 11 (by kernel_rfl) (kD [] _ (k := 171) (args := #[.int .i64 c.v.pat]) (.string (mkS (Lib.itoa c.v.pat))) rfl (by kernel_rfl) (fun _ => by kernel_rfl) (fun w _ => nS c.v.pat m3 w) ?_)))))))))))
  refine y8 12 (by kernel_rfl) (hl_lit _ 9 #[.string (mkS (Lib.itoa c.v.maj)), .string (mkS (Lib.itoa c.v.min)), .string (mkS (Lib.itoa c.v.pat))] rfl (by kernel_rfl) rfl (fun w hO => Own.sub [] hO) (fun _ => by kernel_rfl) (fun b2 => ZT 13 [⟨b2, #[.string (mkS (Lib.itoa c.v.maj)), .string (mkS (Lib.itoa c.v.min)), .string (mkS (Lib.itoa c.v.pat))], 9⟩] _ (.slice (some ⟨b2, 0, none⟩) 3 3) (zK zS) rfl (xM (by kernel_rfl) (zC (ZO (Zv (.slice (some ⟨b2, 0, none⟩) 3 3) (Zv (.pointer (some ⟨b1, 1, none⟩)) (Zl 1 ⟨b1, (coV c).cells, 51⟩ (off := 1) (.int .i64 c.parts) (zT (.slice (some ⟨b2, 0, none⟩) c.parts.toNat 3) (by kernel_rfl) (run_slhi (b := b2) (off := 0) (n := 3) (c := 3) (k := .i64) (j := c.parts) (e := 9) (sz := 1) rfl (by kernel_rfl) (by kernel_rfl) (by kernel_rfl) (by kernel_rfl) (by omega) (by omega)) (Zv (.slice (some ⟨b2, 0, none⟩) c.parts.toNat 3) ?_))))))))))
  exact ZN (zA (ZF (.slice (some ⟨b2, 0, none⟩) c.parts.toNat 3) Tryz.results126 (fun w hO => ⟨_, _, rfl, ⟨_, rfl, rfl⟩, hO.sublist (List.cons_sublist_cons.2 (List.nil_sublist _))⟩)))
theorem wZ (c : Co) (W : World) (hc : c.short) : Calls Tryz.prog 78 #[coV c] W fun e w' => e = .returned (.string (mkS c.print)) ∧ Below W.heap.size W w' := by
  refine zQ (n := 39) Tryz.func78 rfl (by kernel_rfl) (by kernel_rfl) (ZO (Zb (coV c) (fun b1 => Zv (.string ⟨#[]⟩) (ZN (z6 (ZO (Zl 0 ⟨b1, (coV c).cells, 51⟩ (off := 0) (coV c) (Zc (k := 79) (args := #[coV c]) (.bool c.may) (fun w _ => rcMay_any c w hc) ?_))))))))
  cases h1 : c.may with
  | true =>
    refine Zv (.bool false) (ZX (ZB (ZO (Zl 0 ⟨b1, (coV c).cells, 51⟩ (off := 0) (coV c) ?_))))
    have hcm := h1
    have hcv := (Co.facts hcm).2.1
    have hpn := parts_nat hcm
    refine yH (k := 126) (args := #[coV c]) (fun v' L' => ∃ g, v' = .slice (some ⟨g, 0, none⟩) c.parts.toNat 3 ∧ L' = ⟨g, toldC c.v, 9⟩ :: [⟨b1, (coV c).cells, 51⟩]) (by kernel_rfl) (fun _ => by kernel_rfl) (fun w hO => (rctold_any c w hc hcm).mono fun e w' ⟨v', ob', k1, ⟨g, k2, k4⟩, k3⟩ => ⟨v', _, k1, ⟨g, k2, rfl⟩, by subst k4; exact Own.joinN hO k3⟩) (fun v1 L1 hv1 => ?_)
    obtain ⟨g1, rfl, rfl⟩ := hv1
    refine Zv (.slice (some ⟨g1, 0, none⟩) c.parts.toNat 3) (ZN (z6 (ZO (Zv (.pointer (some ⟨b1, 0, none⟩)) (Zl 1 ⟨b1, (coV c).cells, 51⟩ (off := 0) (.int .i64 c.op) ?_)))))
    by_cases h2 : (c.op : Int) = 9
    · refine zV (p := (c.op : Int) = 9) true (by kernel_rfl) (fun _ => by kernel_rfl) (decide_eq_true (h2)) ?_
      refine ZY (ZO (Zv (.slice (some ⟨g1, 0, none⟩) c.parts.toNat 3) (Zv (.pointer (some ⟨b1, 1, none⟩)) (Zl 1 ⟨b1, (coV c).cells, 51⟩ (off := 1) (.int .i64 c.parts) (Zv (.pointer (some ⟨b1, 1, none⟩)) (Zl 1 ⟨b1, (coV c).cells, 51⟩ (off := 1) (.int .i64 c.parts) (zT (.slice (some ⟨g1, 0, none⟩) c.parts.toNat c.parts.toNat) (by kernel_rfl) (run_slhm (b := g1) (n := c.parts.toNat) (c := 3) (k := .i64) (q := .i64) (j := c.parts) (m := c.parts) (e := 9) (sz := 1) rfl (by kernel_rfl) (by kernel_rfl) (by kernel_rfl) (by kernel_rfl) (by kernel_rfl) (by omega) (by omega) (by omega)) (vC 9 #[.string ⟨#[42]⟩] (by kernel_rfl) rfl (fun _ => by kernel_rfl) (fun b2 => ?_)))))))))
      obtain ⟨i0, z0, e1, e2, e3, e4, e5⟩ := fI
      refine s_appendF (sz := 1) (by kernel_rfl) rfl Tryz.underlying58 e1 e2 e3 e4 (b := ⟨g1, 0, none⟩) (n := c.parts.toNat) (cap := c.parts.toNat) (xs := qB (y9 c.v c.parts.toNat)) (by kernel_rfl) (by rw [vQ, qI c.v hpn.2, Nat.mul_one]) (fun w hO j u hj => ?_) (a := ⟨b2, 0, none⟩) (m := 1) (c := 1) (news := qB [[42]]) (by kernel_rfl) (by kernel_rfl) (fun w hO j u hj => ?_) (by omega) (by unfold maxLen; omega) (by rw [e5]; omega) (fun va oa hva0 => ?_)
      · rw [← told_take c.v hpn.2, Nat.mul_one, List.getElem?_take] at hj
        split at hj
        · rw [xK, cell_of_row w g1 (0 + j) (toldC c.v) 9 _ (hO.held ⟨g1, toldC c.v, 9⟩ (by simp))]; simpa using hj
        · cases hj
      · rw [xK, cell_of_row w b2 (0 + j) (qB [[42]]).toArray 9 _ (hO.held ⟨b2, (qB [[42]]).toArray, 9⟩ List.mem_cons_self)]; simpa using hj
      have hva : SlT va (y9 c.v c.parts.toNat ++ [[42]]) oa := hva0.to (by rw [List.length_append, qI c.v hpn.2]; rfl) (by unfold qB; rw [List.map_append])
      exact Zc (k := 127) (args := #[va, .int .u8 46]) (.string (mkS (zW 46 (y9 c.v c.parts.toNat ++ [[42]])))) (fun w hO => rjoin_any va _ 46 w (SlT.readsT hva hO (fun x hx => by simp [hx])) (Nat.le_trans (jJ hcv _) (by decide)) (by rw [List.length_append]; have := u7 c.v c.parts.toNat; simp; omega)) (Zv (.string (mkS (zW 46 (y9 c.v c.parts.toNat ++ [[42]])))) (ZN (zA (z8 (ZF (.string (mkS (zW 46 (y9 c.v c.parts.toNat ++ [[42]])))) Tryz.results78 (fun w hO => ⟨by rw [kP hcm, ← star_text h2], hO.below⟩))))))
    refine Zd (p := (c.op : Int) = 9) false (decide_eq_false (h2)) (ZX (ZB (ZO (Zv (.pointer (some ⟨b1, 0, none⟩)) (Zl 1 ⟨b1, (coV c).cells, 51⟩ (off := 0) (.int .i64 c.op) (Zc (k := 123) (args := #[.int .i64 c.op]) (.string (mkS (zY c.op))) (fun w _ => rcsign_any c.op w) (Zv (.slice (some ⟨g1, 0, none⟩) c.parts.toNat 3) ?_)))))))
    refine Zc (k := 127) (args := #[.slice (some ⟨g1, 0, none⟩) c.parts.toNat 3, .int .u8 46]) (.string (mkS (zW 46 (y9 c.v c.parts.toNat)))) (fun w hO => rjoin_any _ _ 46 w (SlT.readsT (told_slt c.v hpn.2 g1) hO (fun x hx => by rw [List.mem_singleton.1 hx]; exact List.mem_cons_self)) (Nat.le_trans (qJ hcv _) (by decide)) (Nat.le_trans (u7 _ _) (by decide))) (zT (.string (mkS ((zY c.op) ++ (zW 46 (y9 c.v c.parts.toNat))))) (by kernel_rfl) (yG (a := (zY c.op)) (b := (zW 46 (y9 c.v c.parts.toNat))) rfl (by kernel_rfl) (by kernel_rfl) (by have q1 := jK c.op; have q2 := qJ hcv c.parts.toNat; have q3 := hc.1; first | omega | (simp only [List.length_append, List.length_cons, List.length_nil]; omega))) (Zv (.string (mkS ((zY c.op) ++ (zW 46 (y9 c.v c.parts.toNat))))) (ZN (z6 (ZO (Zv (.pointer (some ⟨b1, 2, none⟩)) (Zv (.pointer (some ⟨b1, 5, none⟩)) (Zl 1 ⟨b1, (coV c).cells, 51⟩ (off := 5) (.string (mkS c.v.pre)) ?_))))))))
    by_cases h3 : (c.v.pre : List UInt8) = []
    · refine zT (.bool false) (by kernel_rfl) (x6 (a := c.v.pre) (b := ([])) rfl (by kernel_rfl) (by kernel_rfl) (decide_eq_true (h3))) ?_
      refine ZX (ZB (ZO (Zv (.string (mkS ((zY c.op) ++ (zW 46 (y9 c.v c.parts.toNat))))) (Zv (.string (mkS ((zY c.op) ++ (zW 46 (y9 c.v c.parts.toNat))))) (ZN (zA ?_))))))
      exact ZF (.string (mkS ((zY c.op) ++ (zW 46 (y9 c.v c.parts.toNat))))) Tryz.results78 (fun w hO => ⟨by rw [kP hcm, ← text_bare h2 h3], hO.below⟩)
    refine zT (.bool true) (by kernel_rfl) (x6 (a := c.v.pre) (b := ([])) rfl (by kernel_rfl) (by kernel_rfl) (decide_eq_false (h3))) (ZY (z7 (Zv (.string (mkS ((zY c.op) ++ (zW 46 (y9 c.v c.parts.toNat))))) (zT (.string (mkS (((zY c.op) ++ (zW 46 (y9 c.v c.parts.toNat))) ++ [45]))) (by kernel_rfl) (yG (a := ((zY c.op) ++ (zW 46 (y9 c.v c.parts.toNat)))) (b := [45]) rfl (by kernel_rfl) (by kernel_rfl) (by have q1 := jK c.op; have q2 := qJ hcv c.parts.toNat; have q3 := hc.1; first | omega | (simp only [List.length_append, List.length_cons, List.length_nil]; omega))) (Zv (.pointer (some ⟨b1, 2, none⟩)) (Zv (.pointer (some ⟨b1, 5, none⟩)) (Zl 1 ⟨b1, (coV c).cells, 51⟩ (off := 5) (.string (mkS c.v.pre)) (zT (.string (mkS ((((zY c.op) ++ (zW 46 (y9 c.v c.parts.toNat))) ++ [45]) ++ c.v.pre))) (by kernel_rfl) (yG (a := (((zY c.op) ++ (zW 46 (y9 c.v c.parts.toNat))) ++ [45])) (b := c.v.pre) rfl (by kernel_rfl) (by kernel_rfl) (by have q1 := jK c.op; have q2 := qJ hcv c.parts.toNat; have q3 := hc.1; first | omega | (simp only [List.length_append, List.length_cons, List.length_nil]; omega))) (Zv (.string (mkS ((((zY c.op) ++ (zW 46 (y9 c.v c.parts.toNat))) ++ [45]) ++ c.v.pre))) ?_)))))))))
    exact ZR (Zv (.string (mkS ((((zY c.op) ++ (zW 46 (y9 c.v c.parts.toNat))) ++ [45]) ++ c.v.pre))) (Zv (.string (mkS ((((zY c.op) ++ (zW 46 (y9 c.v c.parts.toNat))) ++ [45]) ++ c.v.pre))) (ZN (zA (ZF (.string (mkS ((((zY c.op) ++ (zW 46 (y9 c.v c.parts.toNat))) ++ [45]) ++ c.v.pre))) Tryz.results78 (fun w hO => ⟨by rw [kP hcm, ← text_pre h2 h3], hO.below⟩))))))
  | false =>
    refine Zv (.bool true) (ZY (ZO (Zv (.string ⟨#[]⟩) (ZN (zA (z8 (ZF (.string ⟨#[]⟩) Tryz.results78 ?_)))))))
    exact fun w hO => ⟨by unfold Co.print; simp [h1]; rfl, hO.below⟩
end
section
theorem dY {c : UInt8} {n : Nat} (hn : n < 256) : (c.toNat : Int) = (n : Int) ↔ c = UInt8.ofNat n := by
  constructor
  · intro h
    apply UInt8.toNat_inj.1
    rw [UInt8.toNat_ofNat']
    omega
  · intro h
    rw [h, UInt8.toNat_ofNat']; omega
def numsOk (l : List (List UInt8)) : Bool := decide (l.length ≤ 3) && l.all g8
def numsVal (l : List (List UInt8)) : Ver := if numsOk l then ⟨zO (tg l 0), zO (tg l 1), zO (tg l 2), [], []⟩ else Ver.zero
theorem pX {l : List (List UInt8)} {i : Nat} (h : i < l.length) : l[i] = tg l i := by
  unfold tg
  rw [List.getElem?_eq_getElem h]; rfl
theorem tgi_out {l : List (List UInt8)} {i : Nat} (h : l.length ≤ i) : zO (tg l i) = 0 := by
  unfold tg
  rw [List.getElem?_eq_none h]; rfl
end
section
end
section
def pcV (s : List UInt8) : Co := (gV s).getD ⟨0, 0, Ver.zero⟩
def pcE (s : List UInt8) : Int := if (gV s).isSome then 0 else 6
theorem pc_none {s : List UInt8} (h : gV s = none) : pcV s = ⟨0, 0, Ver.zero⟩ ∧ pcE s = 6 := by unfold pcV pcE; rw [h]; exact ⟨rfl, rfl⟩
theorem pc_some {s : List UInt8} {c : Co} (h : gV s = some c) : pcV s = c ∧ pcE s = 0 := by unfold pcV pcE; rw [h]; exact ⟨rfl, rfl⟩
theorem tg_short {l : List (List UInt8)} (h : ∀ x ∈ l, x.length ≤ 1000000) (i : Nat) : (tg l i).length ≤ 1000000 := by
  unfold tg
  cases hq : l[i]? with
  | none => exact Nat.zero_le _
  | some x => exact h x (List.mem_of_getElem? hq)
end
section
def coC (c : Co) : List Value := (coV c).cells.toList
theorem jW (c : Co) : (coC c).length = 7 := rfl
theorem co_cells (c : Co) : ∀ u ∈ coC c, u.oneCell' = true := by
  intro u hu
  unfold coC coV at hu
  simp only [Value.cells, List.mem_cons, List.not_mem_nil, or_false] at hu
  rcases hu with rfl | rfl | rfl | rfl | rfl | rfl | rfl <;> rfl
structure Al where
  A : Option Addr
  l : List Co
  cap : Nat
def alC (x : Al) : List Value := [.slice x.A x.l.length x.cap]
theorem g0 (x : Al) : (alC x).length = 1 := rfl
theorem al_cells (x : Al) : ∀ u ∈ alC x, u.oneCell' = true := fun u hu => by rw [List.mem_singleton.1 hu]; rfl
def yM (xs : List Al) : List (List Co) := xs.map Al.l
theorem x8 (xs : List Al) : (yM xs).length = xs.length := List.length_map ..
theorem j7 {xs : List Al} {i : Nat} (hi : i < xs.length) {x : Al} (h : xs[i] = x) : (yM xs)[i]'(by rw [x8]; exact hi) = x.l := by
  unfold yM; rw [List.getElem_map, h]
def ShortA (l : List Co) : Prop := ∀ c ∈ l, c.short
structure RgIn (w : World) (B : Nat) (A : Option Addr) (xs : List Al) : Prop where
  top : Reads alC w B A xs
  each : ∀ x ∈ xs, Reads coC w B x.A x.l
  n : xs.length ≤ 1000
  m : ∀ x ∈ xs, x.l.length ≤ 1000
  short : ∀ x ∈ xs, ShortA x.l
theorem RgIn.on {w w' : World} {B B' : Nat} {A : Option Addr} {xs : List Al} (h : RgIn w B A xs) (hb : Below B w w') (hB : B ≤ B') : RgIn w' B' A xs := ⟨h.top.on hb hB, fun x hx => (h.each x hx).on hb hB, h.n, h.m, h.short⟩
theorem pY {α : Type} {p : α → Prop} {l : List α} {i : Nat} (h : ∀ x ∈ l.take i, p x) (hi : i < l.length) {x : α} (hx : l[i] = x) (hp : p x) : ∀ y ∈ l.take (i + 1), p y := fun y hy => by
  rw [List.take_succ_eq_append_getElem hi] at hy
  rcases List.mem_append.1 hy with hy | hy
  · exact h y hy
  · rw [List.mem_singleton.1 hy, hx]; exact hp
theorem take_end {α : Type} {p : α → Prop} {l : List α} {i : Nat} (h : ∀ x ∈ l.take i, p x) (hi : l.length ≤ i) : ∀ y ∈ l, p y := by rwa [List.take_of_length_le hi] at h
theorem tQ {l : List Co} (h : ¬ (1 ≤ l.length ∧ l.length ≤ 6)) : fewA l = false := by unfold fewA; rw [decide_eq_false h]; rfl
theorem fewA_one {l : List Co} {c : Co} (hm : c ∈ l) (h : c.may = false) : fewA l = false := by
  cases hf : fewA l with
  | false => rfl
  | true => rw [(fewA.facts hf).2 c hm] at h; cases h
theorem fewA_all {l : List Co} (h1 : 1 ≤ l.length ∧ l.length ≤ 6) (h : ∀ c ∈ l, c.may = true) : fewA l = true := by
  unfold fewA; rw [decide_eq_true h1, List.all_eq_true.2 h]; rfl
theorem few_len {xs : List Al} (h : ¬ (1 ≤ xs.length ∧ xs.length ≤ 6)) : fewR (yM xs) = false := by unfold fewR; rw [x8, decide_eq_false h]; rfl
theorem few_one {xs : List Al} {x : Al} (hm : x ∈ xs) (h : fewA x.l = false) : fewR (yM xs) = false := by
  cases hf : fewR (yM xs) with
  | false => rfl
  | true => rw [(fewR.facts hf).2 x.l (List.mem_map.2 ⟨x, hm, rfl⟩)] at h; cases h
theorem few_all {xs : List Al} (h1 : 1 ≤ xs.length ∧ xs.length ≤ 6) (h : ∀ x ∈ xs, fewA x.l = true) : fewR (yM xs) = true := by
  unfold fewR; rw [x8, decide_eq_true h1, List.all_eq_true.2 fun a ha => by obtain ⟨x, hx, rfl⟩ := List.mem_map.1 ha; exact h x hx]; rfl
theorem few_mem {xs : List Al} (h : fewR (yM xs) = true) : (1 ≤ xs.length ∧ xs.length ≤ 6) ∧ ∀ x ∈ xs, (1 ≤ x.l.length ∧ x.l.length ≤ 6) ∧ ∀ c ∈ x.l, c.may = true := by
  obtain ⟨h1, h2⟩ := fewR.facts h
  rw [x8] at h1
  exact ⟨h1, fun x hx => fewA.facts (h2 x.l (List.mem_map.2 ⟨x, hx, rfl⟩))⟩
theorem joinB_step (sep : List UInt8) {l : List (List UInt8)} {i : Nat} (hi : i < l.length) : g9 sep (l.take (i + 1)) = (if i = 0 then [] else g9 sep (l.take i) ++ sep) ++ l[i] := by
  rw [List.take_succ_eq_append_getElem hi, joinB_snoc]
  by_cases h : i = 0
  · subst h; rfl
  · have hne : l.take i ≠ [] := fun e => by
      have h3 : (l.take i).length = 0 := by rw [e]; rfl
      rw [List.length_take] at h3; omega
    rw [if_neg hne, if_neg h]
theorem uQ {l : List Co} {k : Nat} (hk : k < l.length) {c : Co} (hc : l[k] = c) : yR (l.take (k + 1)) = (if k = 0 then [] else yR (l.take k) ++ [44, 32]) ++ c.print := by
  unfold yR
  rw [List.map_take, List.map_take, joinB_step _ (by rw [List.length_map]; exact hk), List.getElem_map, hc]
theorem rgText_step {r : List (List Co)} {i : Nat} (hi : i < r.length) {a : List Co} (ha : r[i] = a) : yZ (r.take (i + 1)) = (if i = 0 then [] else yZ (r.take i) ++ [32, 124, 124, 32]) ++ yR a := by
  unfold yZ
  rw [List.map_take, List.map_take, joinB_step _ (by rw [List.length_map]; exact hi), List.getElem_map, ha]
theorem hJ {c : Co} (h : c.may = true) : c.print.length ≤ 300 := by
  obtain ⟨_, hv, _⟩ := Co.facts h
  have hp := preOk_short (dR hv)
  rw [kP h]
  unfold Co.text Co.rest
  rw [List.length_append]
  have h1 : (zY c.op).length ≤ 2 := by
    unfold zY
    repeat' split
    all_goals decide
  split
  · have := jJ hv c.parts.toNat; omega
  · rw [List.length_append]
    have := qJ hv c.parts.toNat
    have : (wR 45 c.v.pre).length ≤ 37 := by
      unfold wR
      split
      · exact Nat.zero_le _
      · rw [List.length_cons]; omega
    omega
end
section
theorem rsfew_any (A : Option Addr) (cap : Nat) (xs : List Al) (W : World) (hv : RgIn W W.heap.size A xs) : Calls Tryz.prog 44 #[.agg #[.slice A xs.length cap]] W fun e w' => e = .returned (.bool (fewR (yM xs))) ∧ Below W.heap.size W w' := by
  have hn := hv.n
  refine zQ (n := 58) Tryz.func44 rfl (by kernel_rfl) (by kernel_rfl) (ZO (Zb (.agg #[.slice A xs.length cap]) (fun b1 => Zv (.bool false) (ZN (z6 (ZO (Zv (.pointer (some ⟨b1, 0, none⟩)) (Zl 0 ⟨b1, #[.slice A xs.length cap], 25⟩ (off := 0) (.slice A xs.length cap) ?_))))))))
  refine Zv (.int .i64 (xs.length : Int)) ?_
  by_cases h1 : (xs.length : Int) < 1
  · refine zV (p := (xs.length : Int) < 1) true (by kernel_rfl) (fun _ => by kernel_rfl) (decide_eq_true (h1)) ?_
    refine Zv (.bool true) (Zk (Zk (Zk (Zk (Zv (.bool true) (ZY (ZO (Zv (.bool false) ?_))))))))
    exact ZN (zA (z8 (ZF (.bool false) Tryz.results44 (fun w hO => ⟨by rw [few_len (by omega)], hO.below⟩))))
  refine Zd (p := (xs.length : Int) < 1) false (decide_eq_false (h1)) (Zv (.bool false) (Zv (.pointer (some ⟨b1, 0, none⟩)) (Zl 0 ⟨b1, #[.slice A xs.length cap], 25⟩ (off := 0) (.slice A xs.length cap) (Zv (.int .i64 (xs.length : Int)) ?_))))
  by_cases h2 : (6 : Int) < (xs.length : Int)
  · refine zV (p := (6 : Int) < (xs.length : Int)) true (by kernel_rfl) (fun _ => by kernel_rfl) (decide_eq_true (h2)) ?_
    refine Zv (.bool true) (ZY (ZO (Zv (.bool false) (ZN (zA (z8 (ZF (.bool false) Tryz.results44 ?_)))))))
    exact fun w hO => ⟨by rw [few_len (by omega)], hO.below⟩
  refine Zd (p := (6 : Int) < (xs.length : Int)) false (decide_eq_false (h2)) (Zv (.bool false) (ZX (ZB (z6 (ZO (Zv (.int .i64 0) (zN ?_)))))))
  refine zC (zI (yT (fun L f m => ∃ (i : Nat) (j : Nat → Value), (i ≤ xs.length ∧ ∀ x ∈ xs.take i, fewA x.l = true) ∧ L = [⟨b1, #[.slice A xs.length cap], 25⟩] ∧ f = kE j [(1, .pointer (some ⟨b1, 0, none⟩)), (3, .int .i64 (i : Int))] ∧ m = xs.length - i) (xs.length - 0) ⟨0, _, ⟨Nat.zero_le _, by simp⟩, rfl, ZU, rfl⟩ ?_))
  rintro L f m ⟨i, j, hrel, rfl, rfl, rfl⟩
  have hrel0 := hrel; have hil := hrel.1
  refine z6 (ZO (Zv (.int .i64 (i : Int)) (Zv (.pointer (some ⟨b1, 0, none⟩)) (Zl 0 ⟨b1, #[.slice A xs.length cap], 25⟩ (off := 0) (.slice A xs.length cap) (Zv (.int .i64 (xs.length : Int)) ?_)))))
  by_cases h3 : (i : Int) < (xs.length : Int)
  · have hi : i < xs.length := by omega
    obtain ⟨b, off, hA, hlt, hcell⟩ := hv.top (by omega)
    obtain ⟨x, hx⟩ : ∃ x, xs[i] = x := ⟨_, rfl⟩
    have hxm : x ∈ xs := hx ▸ List.getElem_mem hi
    have hxn := hv.m x hxm
    refine Zd (p := (i : Int) < (xs.length : Int)) true (decide_eq_true (h3)) (ZY (ZB (z6 (zI (z6 (ZO (Zv (.pointer (some ⟨b1, 0, none⟩)) ?_)))))))
    refine Zl 0 ⟨b1, #[.slice A xs.length cap], 25⟩ (off := 0) (.slice A xs.length cap) (Zv (.int .i64 (i : Int)) (zT (.pointer (some ⟨b, off + i * 1, none⟩)) (by kernel_rfl) (ZA (b := b) (off := off) (c := cap) (n := xs.length) (k := .i64) (j := (i : Int)) (e := 47) (sz := 1) hA) (Zo (.slice x.A x.l.length x.cap) (a := ⟨b, off + i * 1, none⟩) (fun w hO => zZ g0 (fun j u h => (hO.below.cell (p := ⟨b, off + j, none⟩) hlt).trans (hcell j u h)) i 0 hi (by omega) _ (by rw [hx]; kernel_rfl)) (Zv (.int .i64 (x.l.length : Int)) ?_))))
    by_cases h4 : (x.l.length : Int) < 1
    · refine zV (p := (x.l.length : Int) < 1) true (by kernel_rfl) (fun _ => by kernel_rfl) (decide_eq_true (h4)) ?_
      refine Zv (.bool true) (Zk (Zk (Zk (Zk (Zk (Zk (Zk (Zv (.bool true) (ZN (Zt ?_))))))))))
      refine ZO (Zv (.bool false) (ZN (zA (z8 (zD (z8 (y7 (zD (z8 ?_)))))))))
      exact ZF (.bool false) Tryz.results44 (fun w hO => ⟨by rw [few_one hxm (tQ (by omega))], hO.below⟩)
    refine Zd (p := (x.l.length : Int) < 1) false (decide_eq_false (h4)) (Zv (.bool false) (Zv (.pointer (some ⟨b1, 0, none⟩)) (Zl 0 ⟨b1, #[.slice A xs.length cap], 25⟩ (off := 0) (.slice A xs.length cap) (Zv (.int .i64 (i : Int)) (zT (.pointer (some ⟨b, off + i * 1, none⟩)) (by kernel_rfl) (ZA (b := b) (off := off) (c := cap) (n := xs.length) (k := .i64) (j := (i : Int)) (e := 47) (sz := 1) hA) (Zo (.slice x.A x.l.length x.cap) (a := ⟨b, off + i * 1, none⟩) (fun w hO => zZ g0 (fun j u h => (hO.below.cell (p := ⟨b, off + j, none⟩) hlt).trans (hcell j u h)) i 0 hi (by omega) _ (by rw [hx]; kernel_rfl)) (Zv (.int .i64 (x.l.length : Int)) ?_)))))))
    by_cases h5 : (6 : Int) < (x.l.length : Int)
    · refine zV (p := (6 : Int) < (x.l.length : Int)) true (by kernel_rfl) (fun _ => by kernel_rfl) (decide_eq_true (h5)) ?_
      refine Zv (.bool true) (ZY (ZO (Zv (.bool false) (ZN (zA (z8 (zD ?_)))))))
      exact z8 (y7 (zD (z8 (ZF (.bool false) Tryz.results44 (fun w hO => ⟨by rw [few_one hxm (tQ (by omega))], hO.below⟩)))))
    refine Zd (p := (6 : Int) < (x.l.length : Int)) false (decide_eq_false (h5)) (Zv (.bool false) (ZX (ZB (ZO (Zv (.int .i64 0) (zN (zC ?_)))))))
    refine zI (yT (fun L f m => ∃ (k : Nat) (j : Nat → Value), (k ≤ x.l.length ∧ ∀ c ∈ x.l.take k, c.may = true) ∧ L = [⟨b1, #[.slice A xs.length cap], 25⟩] ∧ f = kE j [(1, .pointer (some ⟨b1, 0, none⟩)), (3, .int .i64 (i : Int)), (4, .int .i64 (k : Int))] ∧ m = x.l.length - k) (x.l.length - 0) ⟨0, _, ⟨Nat.zero_le _, by simp⟩, rfl, ZU, rfl⟩ ?_)
    rintro L f m ⟨k, j, hrel, rfl, rfl, rfl⟩
    have hkl := hrel.1
    refine z6 (ZO (Zv (.int .i64 (k : Int)) (Zv (.pointer (some ⟨b1, 0, none⟩)) (Zl 0 ⟨b1, #[.slice A xs.length cap], 25⟩ (off := 0) (.slice A xs.length cap) (Zv (.int .i64 (i : Int)) (zT (.pointer (some ⟨b, off + i * 1, none⟩)) (by kernel_rfl) (ZA (b := b) (off := off) (c := cap) (n := xs.length) (k := .i64) (j := (i : Int)) (e := 47) (sz := 1) hA) (Zo (.slice x.A x.l.length x.cap) (a := ⟨b, off + i * 1, none⟩) (fun w hO => zZ g0 (fun j u h => (hO.below.cell (p := ⟨b, off + j, none⟩) hlt).trans (hcell j u h)) i 0 hi (by omega) _ (by rw [hx]; kernel_rfl)) (Zv (.int .i64 (x.l.length : Int)) ?_))))))))
    by_cases h6 : (k : Int) < (x.l.length : Int)
    · have hk : k < x.l.length := by omega
      obtain ⟨b2, off2, hA2, hlt2, hcell2⟩ := hv.each x hxm (by omega)
      obtain ⟨c, hc⟩ : ∃ c, x.l[k] = c := ⟨_, rfl⟩
      have hcm : c ∈ x.l := hc ▸ List.getElem_mem hk
      have hcS : c.short := hv.short x hxm c hcm
      refine Zd (p := (k : Int) < (x.l.length : Int)) true (decide_eq_true (h6)) (ZY (ZB (z6 (zI (ZO (Zv (.pointer (some ⟨b1, 0, none⟩)) (Zl 0 ⟨b1, #[.slice A xs.length cap], 25⟩ (off := 0) (.slice A xs.length cap) ?_)))))))
      refine Zv (.int .i64 (i : Int)) (zT (.pointer (some ⟨b, off + i * 1, none⟩)) (by kernel_rfl) (ZA (b := b) (off := off) (c := cap) (n := xs.length) (k := .i64) (j := (i : Int)) (e := 47) (sz := 1) hA) (Zo (.slice x.A x.l.length x.cap) (a := ⟨b, off + i * 1, none⟩) (fun w hO => zZ g0 (fun j u h => (hO.below.cell (p := ⟨b, off + j, none⟩) hlt).trans (hcell j u h)) i 0 hi (by omega) _ (by rw [hx]; kernel_rfl)) (Zv (.int .i64 (k : Int)) (zT (.pointer (some ⟨b2, off2 + k * 7, none⟩)) (by kernel_rfl) (ZA (b := b2) (off := off2) (c := x.cap) (n := x.l.length) (k := .i64) (j := (k : Int)) (e := 51) (sz := 7) hA2) (Zo (coV c) (a := ⟨b2, off2 + k * 7, none⟩) (fun w hO => zZ jW (fun j u h => (hO.below.cell (p := ⟨b2, off2 + j, none⟩) hlt2).trans (hcell2 j u h)) k 0 hk (by omega) _ (by rw [hc]; kernel_rfl)) (Zc (k := 79) (args := #[coV c]) (.bool c.may) (fun w _ => rcMay_any c w hcS) ?_))))))
      cases h7 : c.may with
      | true =>
        refine Zv (.bool false) (ZX (x4 (zR (zC (z7 (Zv (.int .i64 (k : Int)) (Zu (k := .i64) (((k + 1 : Nat) : Int)) (IntWalk.i64_in _ (by omega)) (Zv (.int .i64 ((k + 1 : Nat) : Int)) (zN ?_)))))))))
        exact zU (m' := x.l.length - (k + 1)) (by omega) ⟨k + 1, _, ⟨by omega, pY hrel.2 hk hc (by assumption)⟩, rfl, ZU, rfl⟩
      | false =>
        refine Zv (.bool true) (ZY (ZO (Zv (.bool false) (ZN (zA (zD (z8 ?_)))))))
        exact y7 (zD (zD (z8 (y7 (zD (z8 (ZF (.bool false) Tryz.results44 (fun w hO => ⟨by rw [few_one hxm (fewA_one hcm (by assumption))], hO.below⟩))))))))
    refine Zd (p := (k : Int) < (x.l.length : Int)) false (decide_eq_false (h6)) (ZX (y5 (zB (zM (zH (zR (zC (z7 (Zv (.int .i64 (i : Int)) ?_)))))))))
    exact Zu (k := .i64) (((i + 1 : Nat) : Int)) (IntWalk.i64_in _ (by omega)) (Zv (.int .i64 ((i + 1 : Nat) : Int)) (zN (zU (m' := xs.length - (i + 1)) (by omega) ⟨i + 1, _, ⟨by omega, pY hrel0.2 hi hx (fewA_all (by omega) (take_end hrel.2 (by omega)))⟩, rfl, ZU, rfl⟩)))
  refine Zd (p := (i : Int) < (xs.length : Int)) false (decide_eq_false (h3)) (ZX (y5 (zB (zM (zH (zC (ZO (Zv (.bool true) ?_))))))))
  exact ZN (zA (ZF (.bool true) Tryz.results44 (fun w hO => ⟨by rw [few_all (by omega) (take_end hrel.2 (by omega))], hO.below⟩)))
theorem rstext_any (A : Option Addr) (cap : Nat) (xs : List Al) (W : World) (hv : RgIn W W.heap.size A xs) (hf : fewR (yM xs) = true) : Calls Tryz.prog 45 #[.agg #[.slice A xs.length cap]] W fun e w' => e = .returned (.string (mkS (yZ (yM xs)))) ∧ Below W.heap.size W w' := by
  have hn := (few_mem hf).1.2
  refine zQ (n := 43) Tryz.func45 rfl (by kernel_rfl) (by kernel_rfl) (ZO (Zb (.agg #[.slice A xs.length cap]) (fun b1 => Zv (.string ⟨#[]⟩) (ZR (Zv (.string ⟨#[]⟩) (zN (zC ?_)))))))
  refine z6 (ZO (Zv (.int .i64 0) (ZN (zI (yT (fun L f m => ∃ (i : Nat) (s : List UInt8) (j : Nat → Value), (i ≤ xs.length ∧ s = yZ ((yM xs).take i) ∧ s.length ≤ i * 3000) ∧ L = [⟨b1, #[.slice A xs.length cap], 25⟩] ∧ f = kE j [(1, .pointer (some ⟨b1, 0, none⟩)), (3, .string (mkS s)), (4, .int .i64 (i : Int))] ∧ m = xs.length - i) (xs.length - 0) ⟨0, [], _, ⟨Nat.zero_le _, rfl, Nat.zero_le _⟩, rfl, ZU, rfl⟩ ?_)))))
  rintro L f m ⟨i, s, j, hrel, rfl, rfl, rfl⟩
  have hrel0 := hrel; have hil := hrel.1; have hsl := hrel.2.2; have hsq := xA s
  refine z6 (ZO (Zv (.int .i64 (i : Int)) (Zv (.pointer (some ⟨b1, 0, none⟩)) (Zl 0 ⟨b1, #[.slice A xs.length cap], 25⟩ (off := 0) (.slice A xs.length cap) (Zv (.int .i64 (xs.length : Int)) ?_)))))
  by_cases h1 : (i : Int) < (xs.length : Int)
  · have hi : i < xs.length := by omega
    obtain ⟨b, off, hA, hlt, hcell⟩ := hv.top (by omega)
    obtain ⟨x, hx⟩ : ∃ x, xs[i] = x := ⟨_, rfl⟩
    have hxm : x ∈ xs := hx ▸ List.getElem_mem hi
    have hxn := hv.m x hxm
    refine Zd (p := (i : Int) < (xs.length : Int)) true (decide_eq_true (h1)) (ZY (ZB (z6 (zI (z6 (ZO (Zv (.int .i64 (i : Int)) ?_)))))))
    by_cases h2 : (0 : Int) < (i : Int)
    · refine zV (p := (0 : Int) < (i : Int)) true (by kernel_rfl) (fun _ => by kernel_rfl) (decide_eq_true (h2)) ?_
      refine ZY (z7 (Zv (.string (mkS s)) (zT (.string (mkS (s ++ [32, 124, 124, 32]))) (by kernel_rfl) (yG (a := s) (b := [32, 124, 124, 32]) rfl (by kernel_rfl) (by kernel_rfl) (by (try simp only [List.length_append, List.length_cons, List.length_nil]); omega)) (Zv (.string (mkS (s ++ [32, 124, 124, 32]))) (ZR (Zv (.int .i64 0) ?_))))))
      refine ZN (zI ?_)
      obtain ⟨p, hp⟩ : ∃ p, p = (s ++ [32, 124, 124, 32]) := ⟨_, rfl⟩
      have htp : (if i = 0 then [] else yZ ((yM xs).take i) ++ [32, 124, 124, 32]) = p := by rw [if_neg (by omega), ← hrel.2.1, hp]
      have hpl : p.length ≤ i * 3000 + 4 := by rw [hp]; (try simp only [List.length_append, List.length_cons, List.length_nil]); omega
      rw [← hp]
      have hxf := (few_mem hf).2 x hxm
      refine yT (fun L f m => ∃ (k : Nat) (t : List UInt8) (j : Nat → Value), (k ≤ x.l.length ∧ t = p ++ yR (x.l.take k) ∧ t.length ≤ p.length + k * 400) ∧ L = [⟨b1, #[.slice A xs.length cap], 25⟩] ∧ f = kE j [(1, .pointer (some ⟨b1, 0, none⟩)), (3, .string (mkS t)), (4, .int .i64 (i : Int)), (5, .int .i64 (k : Int))] ∧ m = x.l.length - k) (x.l.length - 0) ⟨0, p, _, ⟨Nat.zero_le _, by simp [yR, g9], by omega⟩, rfl, ZU, rfl⟩ ?_
      rintro L f m ⟨k, t, j, hrel, rfl, rfl, rfl⟩
      have hkl := hrel.1; have htl := hrel.2.2; have htq := xA t; have hx6 := hxf.1.2
      refine z6 (ZO (Zv (.int .i64 (k : Int)) (Zv (.pointer (some ⟨b1, 0, none⟩)) (Zl 0 ⟨b1, #[.slice A xs.length cap], 25⟩ (off := 0) (.slice A xs.length cap) (Zv (.int .i64 (i : Int)) (zT (.pointer (some ⟨b, off + i * 1, none⟩)) (by kernel_rfl) (ZA (b := b) (off := off) (c := cap) (n := xs.length) (k := .i64) (j := (i : Int)) (e := 47) (sz := 1) hA) (Zo (.slice x.A x.l.length x.cap) (a := ⟨b, off + i * 1, none⟩) (fun w hO => zZ g0 (fun j u h => (hO.below.cell (p := ⟨b, off + j, none⟩) hlt).trans (hcell j u h)) i 0 hi (by omega) _ (by rw [hx]; kernel_rfl)) (Zv (.int .i64 (x.l.length : Int)) ?_))))))))
      by_cases h3 : (k : Int) < (x.l.length : Int)
      · have hk : k < x.l.length := by omega
        obtain ⟨b2, off2, hA2, hlt2, hcell2⟩ := hv.each x hxm (by omega)
        obtain ⟨c, hc⟩ : ∃ c, x.l[k] = c := ⟨_, rfl⟩
        have hcm : c ∈ x.l := hc ▸ List.getElem_mem hk
        have hcS : c.short := hv.short x hxm c hcm
        have hcy := hxf.2 c hcm
        have hcl := hJ hcy
        refine Zd (p := (k : Int) < (x.l.length : Int)) true (decide_eq_true (h3)) (ZY (ZB (z6 (zI (z6 (ZO (Zv (.int .i64 (k : Int)) ?_)))))))
        by_cases h4 : (0 : Int) < (k : Int)
        · refine zV (p := (0 : Int) < (k : Int)) true (by kernel_rfl) (fun _ => by kernel_rfl) (decide_eq_true (h4)) ?_
          refine ZY (z7 (Zv (.string (mkS t)) (zT (.string (mkS (t ++ [44, 32]))) (by kernel_rfl) (yG (a := t) (b := [44, 32]) rfl (by kernel_rfl) (by kernel_rfl) (by (try simp only [List.length_append, List.length_cons, List.length_nil]); omega)) (Zv (.string (mkS (t ++ [44, 32]))) (ZN (z7 (Zv (.string (mkS (t ++ [44, 32]))) (Zv (.pointer (some ⟨b1, 0, none⟩)) ?_))))))))
          refine Zl 0 ⟨b1, #[.slice A xs.length cap], 25⟩ (off := 0) (.slice A xs.length cap) (Zv (.int .i64 (i : Int)) (zT (.pointer (some ⟨b, off + i * 1, none⟩)) (by kernel_rfl) (ZA (b := b) (off := off) (c := cap) (n := xs.length) (k := .i64) (j := (i : Int)) (e := 47) (sz := 1) hA) (Zo (.slice x.A x.l.length x.cap) (a := ⟨b, off + i * 1, none⟩) (fun w hO => zZ g0 (fun j u h => (hO.below.cell (p := ⟨b, off + j, none⟩) hlt).trans (hcell j u h)) i 0 hi (by omega) _ (by rw [hx]; kernel_rfl)) (Zv (.int .i64 (k : Int)) (zT (.pointer (some ⟨b2, off2 + k * 7, none⟩)) (by kernel_rfl) (ZA (b := b2) (off := off2) (c := x.cap) (n := x.l.length) (k := .i64) (j := (k : Int)) (e := 51) (sz := 7) hA2) (Zo (coV c) (a := ⟨b2, off2 + k * 7, none⟩) (fun w hO => zZ jW (fun j u h => (hO.below.cell (p := ⟨b2, off2 + j, none⟩) hlt2).trans (hcell2 j u h)) k 0 hk (by omega) _ (by rw [hc]; kernel_rfl)) (Zc (k := 78) (args := #[coV c]) (.string (mkS c.print)) (fun w _ => wZ c w hcS) (zT (.string (mkS ((t ++ [44, 32]) ++ c.print))) (by kernel_rfl) (yG (a := (t ++ [44, 32])) (b := c.print) rfl (by kernel_rfl) (by kernel_rfl) (by (try simp only [List.length_append, List.length_cons, List.length_nil]); omega)) (Zv (.string (mkS ((t ++ [44, 32]) ++ c.print))) (zN (zR ?_)))))))))))
          exact zC (z7 (Zv (.int .i64 (k : Int)) (Zu (k := .i64) (((k + 1 : Nat) : Int)) (IntWalk.i64_in _ (by omega)) (Zv (.int .i64 ((k + 1 : Nat) : Int)) (zN (zU (m' := x.l.length - (k + 1)) (by omega) ⟨k + 1, ((t ++ [44, 32]) ++ c.print), _, ⟨by omega, by rw [hrel.2.1, uQ hk hc, if_neg (by omega)]; simp only [List.append_assoc], by have := hJ hcy; (try simp only [List.length_append, List.length_cons, List.length_nil]); omega⟩, rfl, ZU, rfl⟩))))))
        refine Zd (p := (0 : Int) < (k : Int)) false (decide_eq_false (h4)) (ZX (ZB (z7 (Zv (.string (mkS t)) (Zv (.pointer (some ⟨b1, 0, none⟩)) (Zl 0 ⟨b1, #[.slice A xs.length cap], 25⟩ (off := 0) (.slice A xs.length cap) (Zv (.int .i64 (i : Int)) (zT (.pointer (some ⟨b, off + i * 1, none⟩)) (by kernel_rfl) (ZA (b := b) (off := off) (c := cap) (n := xs.length) (k := .i64) (j := (i : Int)) (e := 47) (sz := 1) hA) ?_))))))))
        refine Zo (.slice x.A x.l.length x.cap) (a := ⟨b, off + i * 1, none⟩) (fun w hO => zZ g0 (fun j u h => (hO.below.cell (p := ⟨b, off + j, none⟩) hlt).trans (hcell j u h)) i 0 hi (by omega) _ (by rw [hx]; kernel_rfl)) (Zv (.int .i64 (k : Int)) (zT (.pointer (some ⟨b2, off2 + k * 7, none⟩)) (by kernel_rfl) (ZA (b := b2) (off := off2) (c := x.cap) (n := x.l.length) (k := .i64) (j := (k : Int)) (e := 51) (sz := 7) hA2) (Zo (coV c) (a := ⟨b2, off2 + k * 7, none⟩) (fun w hO => zZ jW (fun j u h => (hO.below.cell (p := ⟨b2, off2 + j, none⟩) hlt2).trans (hcell2 j u h)) k 0 hk (by omega) _ (by rw [hc]; kernel_rfl)) (Zc (k := 78) (args := #[coV c]) (.string (mkS c.print)) (fun w _ => wZ c w hcS) (zT (.string (mkS (t ++ c.print))) (by kernel_rfl) (yG (a := t) (b := c.print) rfl (by kernel_rfl) (by kernel_rfl) (by (try simp only [List.length_append, List.length_cons, List.length_nil]); omega)) (Zv (.string (mkS (t ++ c.print))) (zN (zR (zC (z7 (Zv (.int .i64 (k : Int)) ?_)))))))))))
        exact Zu (k := .i64) (((k + 1 : Nat) : Int)) (IntWalk.i64_in _ (by omega)) (Zv (.int .i64 ((k + 1 : Nat) : Int)) (zN (zU (m' := x.l.length - (k + 1)) (by omega) ⟨k + 1, (t ++ c.print), _, ⟨by omega, by rw [hrel.2.1, uQ hk hc, if_pos (by omega), show k = 0 by omega]; simp [yR, g9], by have := hJ hcy; (try simp only [List.length_append, List.length_cons, List.length_nil]); omega⟩, rfl, ZU, rfl⟩)))
      refine Zd (p := (k : Int) < (x.l.length : Int)) false (decide_eq_false (h3)) (ZX (y5 (zB (zM (zH (zR (zC (z7 (Zv (.int .i64 (i : Int)) ?_)))))))))
      exact Zu (k := .i64) (((i + 1 : Nat) : Int)) (IntWalk.i64_in _ (by omega)) (Zv (.int .i64 ((i + 1 : Nat) : Int)) (zN (zU (m' := xs.length - (i + 1)) (by omega) ⟨i + 1, t, _, ⟨by omega, by rw [hrel.2.1, List.take_of_length_le (by omega : x.l.length ≤ k), rgText_step (by rw [x8]; exact hi) (j7 hi hx), htp], by have := hrel.2.2; have := hxf.1.2; omega⟩, rfl, ZU, rfl⟩)))
    refine Zd (p := (0 : Int) < (i : Int)) false (decide_eq_false (h2)) (ZX (ZB (ZO (Zv (.int .i64 0) (ZN (zI ?_))))))
    obtain ⟨p, hp⟩ : ∃ p, p = s := ⟨_, rfl⟩
    have htp : (if i = 0 then [] else yZ ((yM xs).take i) ++ [32, 124, 124, 32]) = p := by rw [if_pos (by omega), hp, hrel.2.1, show i = 0 by omega]; rfl
    have hpl : p.length ≤ i * 3000 + 4 := by rw [hp]; (try simp only [List.length_append, List.length_cons, List.length_nil]); omega
    rw [← hp]
    have hxf := (few_mem hf).2 x hxm
    refine yT (fun L f m => ∃ (k : Nat) (t : List UInt8) (j : Nat → Value), (k ≤ x.l.length ∧ t = p ++ yR (x.l.take k) ∧ t.length ≤ p.length + k * 400) ∧ L = [⟨b1, #[.slice A xs.length cap], 25⟩] ∧ f = kE j [(1, .pointer (some ⟨b1, 0, none⟩)), (3, .string (mkS t)), (4, .int .i64 (i : Int)), (5, .int .i64 (k : Int))] ∧ m = x.l.length - k) (x.l.length - 0) ⟨0, p, _, ⟨Nat.zero_le _, by simp [yR, g9], by omega⟩, rfl, ZU, rfl⟩ ?_
    rintro L f m ⟨k, t, j, hrel, rfl, rfl, rfl⟩
    have hkl := hrel.1; have htl := hrel.2.2; have htq := xA t; have hx6 := hxf.1.2
    refine z6 (ZO (Zv (.int .i64 (k : Int)) (Zv (.pointer (some ⟨b1, 0, none⟩)) (Zl 0 ⟨b1, #[.slice A xs.length cap], 25⟩ (off := 0) (.slice A xs.length cap) (Zv (.int .i64 (i : Int)) (zT (.pointer (some ⟨b, off + i * 1, none⟩)) (by kernel_rfl) (ZA (b := b) (off := off) (c := cap) (n := xs.length) (k := .i64) (j := (i : Int)) (e := 47) (sz := 1) hA) (Zo (.slice x.A x.l.length x.cap) (a := ⟨b, off + i * 1, none⟩) (fun w hO => zZ g0 (fun j u h => (hO.below.cell (p := ⟨b, off + j, none⟩) hlt).trans (hcell j u h)) i 0 hi (by omega) _ (by rw [hx]; kernel_rfl)) (Zv (.int .i64 (x.l.length : Int)) ?_))))))))
    by_cases h5 : (k : Int) < (x.l.length : Int)
    · have hk : k < x.l.length := by omega
      obtain ⟨b2, off2, hA2, hlt2, hcell2⟩ := hv.each x hxm (by omega)
      obtain ⟨c, hc⟩ : ∃ c, x.l[k] = c := ⟨_, rfl⟩
      have hcm : c ∈ x.l := hc ▸ List.getElem_mem hk
      have hcS : c.short := hv.short x hxm c hcm
      have hcy := hxf.2 c hcm
      have hcl := hJ hcy
      refine Zd (p := (k : Int) < (x.l.length : Int)) true (decide_eq_true (h5)) (ZY (ZB (z6 (zI (z6 (ZO (Zv (.int .i64 (k : Int)) ?_)))))))
      by_cases h6 : (0 : Int) < (k : Int)
      · refine zV (p := (0 : Int) < (k : Int)) true (by kernel_rfl) (fun _ => by kernel_rfl) (decide_eq_true (h6)) ?_
        refine ZY (z7 (Zv (.string (mkS t)) (zT (.string (mkS (t ++ [44, 32]))) (by kernel_rfl) (yG (a := t) (b := [44, 32]) rfl (by kernel_rfl) (by kernel_rfl) (by (try simp only [List.length_append, List.length_cons, List.length_nil]); omega)) (Zv (.string (mkS (t ++ [44, 32]))) (ZN (z7 (Zv (.string (mkS (t ++ [44, 32]))) (Zv (.pointer (some ⟨b1, 0, none⟩)) ?_))))))))
        refine Zl 0 ⟨b1, #[.slice A xs.length cap], 25⟩ (off := 0) (.slice A xs.length cap) (Zv (.int .i64 (i : Int)) (zT (.pointer (some ⟨b, off + i * 1, none⟩)) (by kernel_rfl) (ZA (b := b) (off := off) (c := cap) (n := xs.length) (k := .i64) (j := (i : Int)) (e := 47) (sz := 1) hA) (Zo (.slice x.A x.l.length x.cap) (a := ⟨b, off + i * 1, none⟩) (fun w hO => zZ g0 (fun j u h => (hO.below.cell (p := ⟨b, off + j, none⟩) hlt).trans (hcell j u h)) i 0 hi (by omega) _ (by rw [hx]; kernel_rfl)) (Zv (.int .i64 (k : Int)) (zT (.pointer (some ⟨b2, off2 + k * 7, none⟩)) (by kernel_rfl) (ZA (b := b2) (off := off2) (c := x.cap) (n := x.l.length) (k := .i64) (j := (k : Int)) (e := 51) (sz := 7) hA2) (Zo (coV c) (a := ⟨b2, off2 + k * 7, none⟩) (fun w hO => zZ jW (fun j u h => (hO.below.cell (p := ⟨b2, off2 + j, none⟩) hlt2).trans (hcell2 j u h)) k 0 hk (by omega) _ (by rw [hc]; kernel_rfl)) (Zc (k := 78) (args := #[coV c]) (.string (mkS c.print)) (fun w _ => wZ c w hcS) (zT (.string (mkS ((t ++ [44, 32]) ++ c.print))) (by kernel_rfl) (yG (a := (t ++ [44, 32])) (b := c.print) rfl (by kernel_rfl) (by kernel_rfl) (by (try simp only [List.length_append, List.length_cons, List.length_nil]); omega)) (Zv (.string (mkS ((t ++ [44, 32]) ++ c.print))) (zN (zR ?_)))))))))))
        exact zC (z7 (Zv (.int .i64 (k : Int)) (Zu (k := .i64) (((k + 1 : Nat) : Int)) (IntWalk.i64_in _ (by omega)) (Zv (.int .i64 ((k + 1 : Nat) : Int)) (zN (zU (m' := x.l.length - (k + 1)) (by omega) ⟨k + 1, ((t ++ [44, 32]) ++ c.print), _, ⟨by omega, by rw [hrel.2.1, uQ hk hc, if_neg (by omega)]; simp only [List.append_assoc], by have := hJ hcy; (try simp only [List.length_append, List.length_cons, List.length_nil]); omega⟩, rfl, ZU, rfl⟩))))))
      refine Zd (p := (0 : Int) < (k : Int)) false (decide_eq_false (h6)) (ZX (ZB (z7 (Zv (.string (mkS t)) (Zv (.pointer (some ⟨b1, 0, none⟩)) (Zl 0 ⟨b1, #[.slice A xs.length cap], 25⟩ (off := 0) (.slice A xs.length cap) (Zv (.int .i64 (i : Int)) (zT (.pointer (some ⟨b, off + i * 1, none⟩)) (by kernel_rfl) (ZA (b := b) (off := off) (c := cap) (n := xs.length) (k := .i64) (j := (i : Int)) (e := 47) (sz := 1) hA) ?_))))))))
      refine Zo (.slice x.A x.l.length x.cap) (a := ⟨b, off + i * 1, none⟩) (fun w hO => zZ g0 (fun j u h => (hO.below.cell (p := ⟨b, off + j, none⟩) hlt).trans (hcell j u h)) i 0 hi (by omega) _ (by rw [hx]; kernel_rfl)) (Zv (.int .i64 (k : Int)) (zT (.pointer (some ⟨b2, off2 + k * 7, none⟩)) (by kernel_rfl) (ZA (b := b2) (off := off2) (c := x.cap) (n := x.l.length) (k := .i64) (j := (k : Int)) (e := 51) (sz := 7) hA2) (Zo (coV c) (a := ⟨b2, off2 + k * 7, none⟩) (fun w hO => zZ jW (fun j u h => (hO.below.cell (p := ⟨b2, off2 + j, none⟩) hlt2).trans (hcell2 j u h)) k 0 hk (by omega) _ (by rw [hc]; kernel_rfl)) (Zc (k := 78) (args := #[coV c]) (.string (mkS c.print)) (fun w _ => wZ c w hcS) (zT (.string (mkS (t ++ c.print))) (by kernel_rfl) (yG (a := t) (b := c.print) rfl (by kernel_rfl) (by kernel_rfl) (by (try simp only [List.length_append, List.length_cons, List.length_nil]); omega)) (Zv (.string (mkS (t ++ c.print))) (zN (zR (zC (z7 (Zv (.int .i64 (k : Int)) ?_)))))))))))
      exact Zu (k := .i64) (((k + 1 : Nat) : Int)) (IntWalk.i64_in _ (by omega)) (Zv (.int .i64 ((k + 1 : Nat) : Int)) (zN (zU (m' := x.l.length - (k + 1)) (by omega) ⟨k + 1, (t ++ c.print), _, ⟨by omega, by rw [hrel.2.1, uQ hk hc, if_pos (by omega), show k = 0 by omega]; simp [yR, g9], by have := hJ hcy; (try simp only [List.length_append, List.length_cons, List.length_nil]); omega⟩, rfl, ZU, rfl⟩)))
    refine Zd (p := (k : Int) < (x.l.length : Int)) false (decide_eq_false (h5)) (ZX (y5 (zB (zM (zH (zR (zC (z7 (Zv (.int .i64 (i : Int)) ?_)))))))))
    exact Zu (k := .i64) (((i + 1 : Nat) : Int)) (IntWalk.i64_in _ (by omega)) (Zv (.int .i64 ((i + 1 : Nat) : Int)) (zN (zU (m' := xs.length - (i + 1)) (by omega) ⟨i + 1, t, _, ⟨by omega, by rw [hrel.2.1, List.take_of_length_le (by omega : x.l.length ≤ k), rgText_step (by rw [x8]; exact hi) (j7 hi hx), htp], by have := hrel.2.2; have := hxf.1.2; omega⟩, rfl, ZU, rfl⟩)))
  refine Zd (p := (i : Int) < (xs.length : Int)) false (decide_eq_false (h1)) (ZX (y5 (zB (zM (zH (zC (ZO (Zv (.string (mkS s)) ?_))))))))
  exact Zv (.string (mkS s)) (ZN (zA (ZF (.string (mkS s)) Tryz.results45 (fun w hO => ⟨by rw [hrel.2.1, List.take_of_length_le (by rw [x8]; omega)], hO.below⟩))))
theorem rsMay_any (A : Option Addr) (cap : Nat) (xs : List Al) (W : World) (hv : RgIn W W.heap.size A xs) : Calls Tryz.prog 20 #[.agg #[.slice A xs.length cap]] W fun e w' => e = .returned (.bool (rgMay (yM xs))) ∧ Below W.heap.size W w' := by
  refine zQ (n := 11) Tryz.func20 rfl (by kernel_rfl) (by kernel_rfl) (ZO (Zb (.agg #[.slice A xs.length cap]) (fun b1 => Zv (.bool false) (ZR (Zl 0 ⟨b1, #[.slice A xs.length cap], 25⟩ (off := 0) (.agg #[.slice A xs.length cap]) (Zc (k := 44) (args := #[.agg #[.slice A xs.length cap]]) (.bool (fewR (yM xs))) (fun w hO => rsfew_any A cap xs w (hv.on hO.below hO.below.size)) (Zv (.bool (fewR (yM xs))) ?_)))))))
  cases h1 : fewR (yM xs) with
  | true =>
    refine Zl 0 ⟨b1, #[.slice A xs.length cap], 25⟩ (off := 0) (.agg #[.slice A xs.length cap]) (Zc (k := 45) (args := #[.agg #[.slice A xs.length cap]]) (.string (mkS (yZ (yM xs)))) (fun w hO => rstext_any A cap xs w (hv.on hO.below hO.below.size) h1) (Zv (.int .i64 ((mkS (yZ (yM xs))).size)) ?_))
    by_cases h2 : ((mkS (yZ (yM xs))).size : Int) ≤ 96
    · refine zV (p := ((mkS (yZ (yM xs))).size : Int) ≤ 96) true (by kernel_rfl) (fun _ => by kernel_rfl) (decide_eq_true (h2)) ?_
      exact Zv (.bool true) (Zv (.bool true) (ZN (zA (ZF (.bool true) Tryz.results20 (fun w hO => ⟨by unfold rgMay; rw [h1, decide_eq_true (by have := xA (yZ (yM xs)); omega)]; rfl, hO.below⟩)))))
    exact Zd (p := ((mkS (yZ (yM xs))).size : Int) ≤ 96) false (decide_eq_false (h2)) (Zv (.bool false) (Zv (.bool false) (ZN (zA (ZF (.bool false) Tryz.results20 (fun w hO => ⟨by unfold rgMay; rw [h1, decide_eq_false (by have := xA (yZ (yM xs)); omega)]; rfl, hO.below⟩))))))
  | false =>
    exact Zk (Zk (Zk (Zk (Zv (.bool false) (Zv (.bool false) (ZN (zA (ZF (.bool false) Tryz.results20 (fun w hO => ⟨by unfold rgMay; rw [h1]; rfl, hO.below⟩)))))))))
end
section
theorem mk_mid (s : List UInt8) (i j : Nat) : (mkS s).extract i j = mkS ((s.drop i).take (j - i)) := by rw [pG, mk_data]
theorem run_strmid {P : Program} {ρ : Operand → Value} {o : Oper} {t : TypeId} {x y z : Operand} {s : List UInt8} {k q : IntKind} {i j : Int} (ho : o.op = .slice t x (some y) (some z) none) (hx : ρ x = .string (mkS s)) (hy : ρ y = .int k i) (hz : ρ z = .int q j)
    (hu : P.underlying t = some .string) (h0 : 0 ≤ i) (h1 : i ≤ j) (h3 : j ≤ s.length) (w : World) : (execOp ρ o).run P w = .ok (.value (.string (mkS ((s.drop i.toNat).take (j.toNat - i.toNat))))) w := by
  unfold execOp
  have h2 : j ≤ ((mkS s).size : Int) := by rw [xA]; exact h3
  have h4 : 0 ≤ j := Int.le_trans h0 h1
  simp [ho, hx, hy, hz, Instr.sliceAt, Instr.slice, Instr.sliceBounds, Instr.sliceBound, Sem.run_bind, asIntOf, run_underlying hu, h0, h1, h2, h4, mk_mid]
  try (intro h9; exfalso; omega)
end
section
structure AlI (s : List UInt8) (i f : Nat) (u : Value) (P : List (List UInt8)) (ob : List Blk) : Prop where
  fi : f ≤ i + 1
  il : i ≤ s.length
  fl : f ≤ s.length
  sl : SlT u P ob
  eq : P ++ xW ((s.drop f).take (i - f)) (s.drop (max i f)) = xW [] s
  pl : P.length ≤ i
end
section
theorem coInfo : (Tryz.prog.info? 51).map (fun i => (i.zero.map (·.cells.size), i.size, i.bytes)) = some (some 7, 7, 72) := by kernel_rfl
theorem co_info : ∃ i z, Tryz.prog.info? 51 = some i ∧ i.zero = some z ∧ i.size = 7 ∧ z.cells.size = 7 ∧ i.bytes = 72 := by
  have h := coInfo
  cases hi : Tryz.prog.info? 51 with
  | none => rw [hi] at h; cases h
  | some i =>
    rw [hi] at h
    simp only [Option.map_some, Option.some.injEq, Prod.mk.injEq] at h
    cases hz : i.zero with
    | none => rw [hz] at h; simp at h
    | some z => rw [hz] at h; simp at h; exact ⟨i, z, rfl, hz, h.2.1, h.1, h.2.2⟩
theorem alInfo : (Tryz.prog.info? 47).map (fun i => (i.zero.map (·.cells.size), i.size, i.bytes)) = some (some 1, 1, 24) := by kernel_rfl
theorem al_info : ∃ i z, Tryz.prog.info? 47 = some i ∧ i.zero = some z ∧ i.size = 1 ∧ z.cells.size = 1 ∧ i.bytes = 24 := by
  have h := alInfo
  cases hi : Tryz.prog.info? 47 with
  | none => rw [hi] at h; cases h
  | some i =>
    rw [hi] at h
    simp only [Option.map_some, Option.some.injEq, Prod.mk.injEq] at h
    cases hz : i.zero with
    | none => rw [hz] at h; simp at h
    | some z => rw [hz] at h; simp at h; exact ⟨i, z, rfl, hz, h.2.1, h.1, h.2.2⟩
def SlCo (v : Value) (l : List Co) (ob : List Blk) : Prop := Sl 51 7 v l.length (l.flatMap coC) ob
theorem Sl.form {T sz n : Nat} {v : Value} {xs : List Value} {ob : List Blk} (h : Sl T sz v n xs ob) : ∃ A cap, v = .slice A n cap := by
  rcases h.2 with ⟨h1, h2, _⟩ | ⟨g, cap, cur, h1, _⟩
  · exact ⟨none, 0, by rw [h1, h2]⟩
  · exact ⟨_, _, h1⟩
structure RgA (u : Value) (xs : List Al) (o1 o2 : List Blk) : Prop where
  top : Sl 47 1 u xs.length (xs.flatMap alC) o1
  each : ∀ x ∈ xs, ∃ o, (∀ b ∈ o, b ∈ o2) ∧ SlCo (.slice x.A x.l.length x.cap) x.l o
def RgO (v : Value) (r : List (List Co)) (ob : List Blk) : Prop := ∃ xs u o1 o2, v = .agg #[u] ∧ ob = o1 ++ o2 ∧ yM xs = r ∧ RgA u xs o1 o2
theorem RgA.nil : RgA (.slice none 0 0) [] [] [] := ⟨Sl.nil _ _, fun x hx => by simp at hx⟩
theorem RgO.nil : RgO (.agg #[.slice none 0 0]) [] [] := ⟨[], _, [], [], rfl, rfl, rfl, RgA.nil⟩
theorem RgA.add {u u2 : Value} {xs : List Al} {o1 o2 o3 oa : List Blk} {A : Option Addr} {cap : Nat} {a : List Co} (h : RgA u xs o1 o2) (h2 : Sl 47 1 u2 (xs.length + 1) (xs.flatMap alC ++ alC ⟨A, a, cap⟩) o3) (ha : SlCo (.slice A a.length cap) a oa) : RgA u2 (xs ++ [⟨A, a, cap⟩]) o3 (oa ++ o2) :=
  ⟨h2.to (by simp) (by simp), fun x hx => by
    rcases List.mem_append.1 hx with hx | hx
    · obtain ⟨o, k1, k2⟩ := h.each x hx
      exact ⟨o, fun b hb => List.mem_append_right _ (k1 b hb), k2⟩
    · obtain rfl := List.mem_singleton.1 hx
      exact ⟨oa, fun b hb => List.mem_append_left _ hb, ha⟩⟩
structure FineR (r : List (List Co)) : Prop where
  n : r.length ≤ 1000
  m : ∀ a ∈ r, a.length ≤ 1000 ∧ ShortA a
theorem RgA.inn {A : Option Addr} {n cap : Nat} {xs : List Al} {o1 o2 L : List Blk} {M : List Nat} {W w : World} (h : RgA (.slice A n cap) xs o1 o2) (hn : xs.length = n) (hO : Own M W w L) (h1 : ∀ x ∈ o1, x ∈ L) (h2 : ∀ x ∈ o2, x ∈ L) (hf : FineR (yM xs)) : RgIn w w.heap.size A xs := by
  subst hn
  refine ⟨Sl.reads h.top rfl hO h1, fun x hx => ?_, by have := hf.n; rwa [x8] at this, fun x hx => (hf.m x.l (List.mem_map.2 ⟨x, hx, rfl⟩)).1, fun x hx => (hf.m x.l (List.mem_map.2 ⟨x, hx, rfl⟩)).2⟩
  obtain ⟨o, k1, k2⟩ := h.each x hx
  exact Sl.reads k2 rfl hO fun b hb => h2 b (k1 b hb)
theorem SlT.blk {v : Value} {l : List (List UInt8)} {ob : List Blk} (h : SlT v l ob) (hn : l ≠ []) : ∃ g cur cap, v = .slice (some ⟨g, 0, none⟩) l.length cap ∧ ob = [⟨g, cur, 9⟩] ∧ cur.toList.take (l.length * 1) = l.flatMap pZ := by
  obtain ⟨A, cap, rfl⟩ := h.form
  have h0 : 0 < l.length := by cases l with
    | nil => exact absurd rfl hn
    | cons _ _ => simp
  obtain ⟨g, cur, rfl, e, _, _, _, e2⟩ := Sl.block h h0
  exact ⟨g, cur, cap, rfl, e, by rw [e2, uR]⟩
theorem pc_ok {s : List UInt8} (h : pcE s = 0) : gV s = some (pcV s) := by
  cases hp : gV s with
  | none => rw [(pc_none hp).2] at h; exact absurd h (by decide)
  | some c => rw [(pc_some hp).1]
theorem pc_err {s : List UInt8} (h : ¬ pcE s = 0) : gV s = none := by
  cases hp : gV s with
  | none => rfl
  | some c => exact absurd (pc_some hp).2 h
theorem parseP_may {s : List UInt8} {c : Co} (h : parseP s = some c) : c.may = true := ((dO _ c).1 h).1
theorem co_short {c : Co} (h : c.may = true) : c.short := by
  obtain ⟨_, hv, hb, _⟩ := Co.facts h
  exact may_short hv hb
theorem parseA_fine {s : List UInt8} {a : List Co} (h : nV s = some a) (hs : s.length ≤ 100) : a.length ≤ 1000 ∧ ∀ c ∈ a, c.may = true := by
  refine ⟨?_, fun c hc => ?_⟩
  · rw [dJ h, split_len]
    have := List.length_filter_le (fun x : UInt8 => x == 44) s
    omega
  · obtain ⟨x, _, e⟩ := allO_back h c hc
    exact parseP_may e
theorem fine_part {s : List UInt8} (hs : s.length ≤ 96) {l : List (List UInt8)} (hl : ∀ x ∈ l, x ∈ xW [] s) (hn : l.length ≤ 97) {r : List (List Co)} (h : uF nV l = some r) : FineR r := by
  refine ⟨by rw [dJ h]; omega, fun a ha => ?_⟩
  obtain ⟨x, hx, e⟩ := allO_back h a ha
  have := tZ s [] x (hl x hx)
  have := parseA_fine e (by simp at this; omega)
  exact ⟨this.1, fun c hc => co_short (this.2 c hc)⟩
theorem jE {r : List (List Co)} (h : fewR r = true) : FineR r := by
  obtain ⟨h1, h2⟩ := fewR.facts h
  refine ⟨by omega, fun a ha => ?_⟩
  obtain ⟨k1, k2⟩ := fewA.facts (h2 a ha)
  exact ⟨by omega, fun c hc => co_short (k2 c hc)⟩
theorem allO_next {α β : Type} {f : α → Option β} {l : List α} {i : Nat} (hi : i < l.length) {y : α} (hy : l[i] = y) {m : List β} {z : β} (h : uF f (l.take i) = some m) (hz : f y = some z) : uF f (l.take (i + 1)) = some (m ++ [z]) := by
  rw [List.take_succ_eq_append_getElem hi, hy]
  exact allO_snoc h hz
theorem all_fails {s : List UInt8} {l m : List (List UInt8)} (hl : l = xW [] s) {i k : Nat} (hi : i < l.length) {y z : List UInt8} (hy : l[i] = y) (hm : m = yL 44 [] y) (hk : k < m.length) (hz : m[k] = z) (h : ¬ pcE (xU z) = 0) : gK s = none := by
  have h1 : nV y = none := allO_none (x := z) (by rw [← hm, ← hz]; exact List.getElem_mem hk) (pc_err h)
  exact allO_none (x := y) (by rw [← hl, ← hy]; exact List.getElem_mem hi) h1
theorem errG_none {s : List UInt8} (hs : s.length ≤ 96) (h : gK s = none) : kK s = 6 ∧ x2 s = none := by
  unfold kK x2
  rw [if_neg (by omega), if_neg (by omega), h]; exact ⟨rfl, rfl⟩
theorem errG_few {s : List UInt8} (hs : s.length ≤ 96) {r : List (List Co)} (h : gK s = some r) (hf : fewR r = false) : kK s = 6 ∧ x2 s = none := by
  unfold kK x2
  rw [if_neg (by omega), if_neg (by omega), h]
  simp [hf, rgMay, Option.filter]
theorem errG_big {s : List UInt8} (hs : s.length ≤ 96) {r : List (List Co)} (h : gK s = some r) (hf : fewR r = true) (hb : 96 < (yZ r).length) : kK s = 3 ∧ x2 s = none := by
  unfold kK x2
  rw [if_neg (by omega), if_neg (by omega), h]
  simp [hf, rgMay, Option.filter]; omega
theorem errG_fine {s : List UInt8} (hs : s.length ≤ 96) {r : List (List Co)} (h : gK s = some r) (hf : fewR r = true) (hb : (yZ r).length ≤ 96) : kK s = 0 ∧ x2 s = some r := by
  unfold kK x2
  rw [if_neg (by omega), if_neg (by omega), h]
  simp [hf, rgMay, Option.filter, hb]
theorem errG_long {s : List UInt8} (hs : 96 < s.length) : kK s = 3 ∧ x2 s = none := by
  unfold kK x2
  rw [if_pos hs, if_pos hs]; exact ⟨rfl, rfl⟩
theorem bareF_len : ∀ (s : List UInt8), (xV s).length ≤ s.length
  | [] => Nat.le_refl _
  | c :: l => by
    rw [xV]
    split
    · have := bareF_len l; rw [List.length_cons]; omega
    · exact Nat.le_refl _
theorem bareL_len (s : List UInt8) : (xU s).length ≤ s.length := by
  unfold xU
  rw [List.length_reverse]
  have h1 := bareF_len (xV s).reverse
  rw [List.length_reverse] at h1
  have := bareF_len s
  omega
theorem pieces_len {y : List UInt8} (h : y.length ≤ 96) : (yL 44 [] y).length ≤ 97 ∧ ∀ z ∈ yL 44 [] y, z.length ≤ 96 := by
  refine ⟨?_, fun z hz => by have := split_le 44 y [] z hz; simp at this; omega⟩
  rw [split_len]
  have := List.length_filter_le (fun x : UInt8 => x == 44) y
  omega
section
variable {M : List Nat} {W w : World}
theorem own_two {x y : Blk} {A : List Blk} (h : Own M W w (x :: y :: A)) : Own M W w A := h.sublist ((List.sublist_cons_self y A).trans (List.sublist_cons_self x (y :: A)))
theorem own_turn {x y r t g : Blk} {oa o1 o2 : List Blk} (h : Own M W w (([x, y, g, r, t] ++ oa) ++ o1 ++ o2)) : Own M W w (g :: r :: t :: (o1 ++ (oa ++ o2))) := by
  have h1 : Own M W w (x :: y :: g :: r :: t :: ((oa ++ o1) ++ o2)) := by simpa [List.append_assoc] using h
  refine (own_two h1).perm (List.Perm.cons _ (List.Perm.cons _ (List.Perm.cons _ ?_)))
  rw [← List.append_assoc]
  exact List.Perm.append_right _ List.perm_append_comm
end
end
section
end
section
theorem none_in (w : World) (n : Nat) : SetIn w n none none gF := ⟨fun h0 => absurd h0 (Nat.lt_irrefl 0), fun h0 => absurd h0 (Nat.lt_irrefl 0), Nat.zero_le _, Nat.zero_le _, fun s hs => by simp [gF] at hs, fun s hs => by simp [gF] at hs⟩
end
section
theorem turn_short {c : Cu} (h : c.short) : (kG c).short := by
  unfold kG
  split
  · exact h
  · split
    · unfold relB
      split
      · exact next_short _
      · exact ⟨by simp [yJ, Ver.zero], by simp [yJ, Ver.zero]⟩
    · unfold relA
      split
      · exact ⟨by simp [yJ, Ver.zero], by simp [yJ, Ver.zero]⟩
      · exact relV_short _
def pW (l : List Sp) (k : Nat) : List Sp := ((l.take k).map jI).filter (·.may)
theorem turnL_step {l : List Sp} {k : Nat} (hk : k < l.length) {s : Sp} (hs : l[k] = s) : pW l (k + 1) = pW l k ++ (if (jI s).may then [jI s] else []) := by
  unfold pW
  rw [List.take_succ_eq_append_getElem hk, List.map_append, List.filter_append, hs]
  congr 1
  show List.filter _ [jI s] = _
  cases h : (jI s).may <;> simp [h]
theorem turnL_len (l : List Sp) (k : Nat) : (pW l k).length ≤ k := by
  unfold pW
  refine Nat.le_trans (List.length_filter_le _ _) ?_
  rw [List.length_map, List.length_take]; omega
structure MkI (l : List Sp) (k : Nat) (u : Value) (acc : List Sp) (ob : List Blk) : Prop where
  le : k ≤ l.length
  sl : SlS u acc ob
  eq : acc = pW l k
theorem MkI.keep {l : List Sp} {k : Nat} {u : Value} {acc : List Sp} {ob : List Blk} (h : MkI l k u acc ob) (hk : k < l.length) {s : Sp} {x y : Cu} (hs : l[k] = s) (hx : kG s.lo = x) (hy : kG s.hi = y) (hm : (Sp.mk x y).may = false) : MkI l (k + 1) u acc ob :=
  ⟨hk, h.sl, by rw [turnL_step hk hs, show jI s = ⟨x, y⟩ from by unfold jI; rw [hx, hy], hm, h.eq]; simp⟩
theorem MkI.grow {l : List Sp} {k : Nat} {u u2 : Value} {acc : List Sp} {ob ob2 : List Blk} (h : MkI l k u acc ob) (hk : k < l.length) {s : Sp} {x y : Cu} (hs : l[k] = s) (hx : kG s.lo = x) (hy : kG s.hi = y) (hm : (Sp.mk x y).may = true) (h2 : Sl 80 14 u2 (acc.length + 1) (acc.flatMap x9 ++ x9 ⟨x, y⟩) ob2) : MkI l (k + 1) u2 (acc ++ [⟨x, y⟩]) ob2 :=
  ⟨hk, h2.to (by simp) (by simp), by rw [turnL_step hk hs, show jI s = ⟨x, y⟩ from by unfold jI; rw [hx, hy], hm, ← h.eq, if_pos rfl]⟩
theorem turnL_may (l : List Sp) (k : Nat) : ∀ s ∈ pW l k, s.may = true := fun s hs => by
  unfold pW at hs
  exact (List.mem_filter.1 hs).2
theorem own_drop {M : List Nat} {W w : World} {x y z : Blk} {A : List Blk} (h : Own M W w ([x, y] ++ A ++ [z])) : Own M W w (A ++ [z]) := h.sublist (by rw [List.append_assoc]; exact List.sublist_append_right [x, y] _)
end
section
theorem altRel_next {l : List Co} {k : Nat} (hk : k < l.length) {c : Co} (hc : l[k] = c) : xG (l.take (k + 1)) = f7 (xG (l.take k)) c.region := by
  rw [List.take_succ_eq_append_getElem hk, hc, m7]
theorem altZone_next {l : List Co} {k : Nat} (hk : k < l.length) {c : Co} (hc : l[k] = c) : xD (l.take (k + 1)) = orL (xD (l.take k)) c.zone := by
  rw [List.take_succ_eq_append_getElem hk, hc, f9]
theorem orAll_next {r : List (List Co)} {i : Nat} (hi : i < r.length) {a : List Co} (ha : r[i] = a) : x5 (r.take (i + 1)) = orT (x5 (r.take i)) (yN a) := by
  rw [List.take_succ_eq_append_getElem hi, ha, wA]
theorem mS (l : List Co) (k : Nat) (h : l.length ≤ 1000) : RF (xG (l.take k)) 4000 := (qM _).le (by rw [List.length_take]; omega)
theorem fA (l : List Co) (k : Nat) (h : l.length ≤ 1000) : RF (xD (l.take k)) 4000 := (vN _).le (by rw [List.length_take]; omega)
theorem orAll_le {r : List (List Co)} (h : fewR r = true) (i : Nat) : SF (x5 (r.take i)) 198 := by
  obtain ⟨h1, h2⟩ := fewR.facts h
  refine (orAll_sf (n := 6) _ fun a ha => ((fewA.facts (h2 a (List.mem_of_mem_take ha))).1).2).le ?_
  rw [List.length_take]
  show min i r.length * 33 ≤ 198
  omega
section
variable {M : List Nat} {W w : World}
theorem own_tail {A B C : List Blk} (h : Own M W w ((A ++ B) ++ C)) : Own M W w (B ++ C) := by
  rw [List.append_assoc] at h
  exact Own.sub A h
end
theorem fine_get {s : List UInt8} (h : kK s = 0) : FineR ((x2 s).getD []) := by
  cases hp : x2 s with
  | none => rcases err_none hp with e | e <;> rw [e] at h <;> exact absurd h (by decide)
  | some r => exact jE (rgMay.facts (wF hp).2.1).1
end
section
def xE : List UInt8 → List UInt8
  | [] => []
  | b :: t => (if b = 44 then [32] else []) ++ b :: ((if b = 44 ∨ (b = 124 ∧ t ≠ [] ∧ ¬ t.head? = some 124) then [32, 32] else []) ++ xE t)
theorem nH : ∀ (x t : List UInt8), (44 : UInt8) ∉ x → (124 : UInt8) ∉ x → xE (x ++ t) = x ++ xE t
  | [], t, _, _ => rfl
  | b :: x, t, h1, h2 => by
    have n1 : b ≠ 44 := fun e => h1 (by rw [e]; exact List.mem_cons_self ..)
    have n2 : b ≠ 124 := fun e => h2 (by rw [e]; exact List.mem_cons_self ..)
    have ih := nH x t (fun h => h1 (List.mem_cons_of_mem _ h)) (fun h => h2 (List.mem_cons_of_mem _ h))
    show xE (b :: (x ++ t)) = b :: (x ++ xE t)
    rw [xE, if_neg n1, if_neg (fun q => q.elim n1 (fun q => n2 q.1)), ih]; rfl
theorem wideG_comma (t : List UInt8) : xE ([44, 32] ++ t) = [32, 44, 32, 32, 32] ++ xE t := by
  show xE (44 :: 32 :: t) = _
  rw [xE, xE, if_pos rfl, if_pos (.inl rfl), if_neg (by decide), if_neg (fun q => q.elim (by decide) (fun q => absurd q.1 (by decide)))]; rfl
theorem wideG_bars (t : List UInt8) : xE ([32, 124, 124, 32] ++ t) = [32, 124, 124, 32, 32, 32] ++ xE t := by
  show xE (32 :: 124 :: 124 :: 32 :: t) = _
  rw [xE, xE, xE, xE]
  simp
def pV : List Co → List UInt8
  | [] => []
  | [c] => c.print
  | c :: d :: a => c.print ++ ([32, 44, 32, 32, 32] ++ pV (d :: a))
theorem print_frees {c : Co} (h : c.may = true) : (44 : UInt8) ∉ c.print ∧ (124 : UInt8) ∉ c.print := by
  rw [kP h]; exact ⟨text_no44 h, text_no124 h⟩
theorem wide_alt : ∀ (a : List Co) (t : List UInt8), (∀ c ∈ a, c.may = true) → xE (yR a ++ t) = pV a ++ xE t
  | [], t, _ => rfl
  | [c], t, h => by
    obtain ⟨h1, h2⟩ := print_frees (h c (List.mem_singleton.2 rfl))
    show xE (c.print ++ t) = c.print ++ xE t
    exact nH _ _ h1 h2
  | c :: d :: a, t, h => by
    obtain ⟨h1, h2⟩ := print_frees (h c (List.mem_cons_self ..))
    rw [altText_cons, List.append_assoc, List.append_assoc, nH _ _ h1 h2, wideG_comma, wide_alt (d :: a) t fun x hx => h x (List.mem_cons_of_mem _ hx)]
    show _ = c.print ++ ([32, 44, 32, 32, 32] ++ pV (d :: a)) ++ xE t
    simp only [List.append_assoc]
theorem spell_print {c : Co} (h : c.may = true) (n : Nat) : fC (c.print ++ xX n) c := ⟨0, n, by rw [kP h]; rfl⟩
theorem fH : ∀ (a : List Co), a ≠ [] → (∀ c ∈ a, c.may = true) → vO (pV a) a
  | [], h, _ => absurd rfl h
  | [c], _, h => by
    have h1 := spell_print (h c (List.mem_singleton.2 rfl)) 0
    rw [show c.print ++ xX 0 = c.print from List.append_nil _] at h1
    exact nO h1
  | c :: d :: a, _, h => by
    have ih := fH (d :: a) (by simp) fun x hx => h x (List.mem_cons_of_mem _ hx)
    have h2 := fL (spell_print (h c (List.mem_cons_self ..)) 1) (fK 3 ih)
    have e : pV (c :: d :: a) = c.print ++ xX 1 ++ 44 :: (xX 3 ++ pV (d :: a)) := by
      show c.print ++ ([32, 44, 32, 32, 32] ++ pV (d :: a)) = _
      rw [List.append_assoc]; rfl
    rw [e]; exact h2
theorem wide_rg : ∀ (r : List (List Co)), r ≠ [] → (∀ a ∈ r, a ≠ [] ∧ ∀ c ∈ a, c.may = true) → wM (xE (yZ r)) r
  | [], h, _ => absurd rfl h
  | [a], _, h => by
    obtain ⟨h1, h2⟩ := h a (List.mem_singleton.2 rfl)
    have e : xE (yZ [a]) = pV a := by
      have := wide_alt a [] h2
      rw [List.append_nil] at this
      exact this.trans (List.append_nil _)
    rw [e]; exact spellR_one (fH a h1 h2)
  | a :: b :: r, _, h => by
    obtain ⟨h1, h2⟩ := h a (List.mem_cons_self ..)
    have ih := wide_rg (b :: r) (by simp) fun x hx => h x (List.mem_cons_of_mem _ hx)
    have h3 := spellR_cons (spellA_padR 1 (fH a h1 h2)) (spellR_padL 3 ih)
    have e : xE (yZ (a :: b :: r)) = pV a ++ xX 1 ++ 124 :: 124 :: (xX 3 ++ xE (yZ (b :: r))) := by
      rw [rgText_cons, List.append_assoc, wide_alt a _ h2, wideG_bars, List.append_assoc]; rfl
    rw [e]; exact h3
theorem wide_may {r : List (List Co)} (h : rgMay r = true) : wM (xE (yZ r)) r := by
  obtain ⟨h1, h2⟩ := tP (rgMay.facts h).1
  exact wide_rg r h1 h2
theorem wideG_len : ∀ (s : List UInt8), (xE s).length ≤ 4 * s.length
  | [] => Nat.le_refl _
  | b :: t => by
    have := wideG_len t
    rw [xE]
    simp only [List.length_append, List.length_cons]
    split <;> split <;> simp only [List.length_cons, List.length_nil] <;> omega
theorem nG {s : List UInt8} {k : Nat} (hk : k < s.length) {b : UInt8} (hb : s[k] = b) : xE (s.drop k) = (if b = 44 then [32] else []) ++ b :: ((if b = 44 ∨ (b = 124 ∧ s.drop (k + 1) ≠ [] ∧ ¬ (s.drop (k + 1)).head? = some 124) then [32, 32] else []) ++ xE (s.drop (k + 1))) := by
  rw [List.drop_eq_getElem_cons hk, hb, xE]
def uE (l : List Int) (i a : Nat) : List Co := (List.range ((plc (atL l (i + 1 + a)) 3).toNat + 1)).map fun k => xN l (i + 4 + 21 * a + 7 * k)
def uH (l : List Int) (i : Nat) : List (List Co) := (List.range ((plc (atL l i) 3).toNat + 1)).map fun a => uE l i a
def genRg (l : List Int) (i : Nat) : List (List Co) := if rgMay (uH l i) then uH l i else [[xN l (i + 4)]]
theorem pre_small : ∀ k, k < 14 → (w0 k).length ≤ 4 := by decide +kernel
theorem told_pre (p : Int) (v : Ver) : (wP p v).pre.length ≤ v.pre.length := by
  show (if p < 3 then [] else v.pre).length ≤ _
  split
  · exact Nat.zero_le _
  · exact Nat.le_refl _
theorem gen_pre4 (l : List Int) (i : Nat) : (zL l i).pre.length ≤ 4 := pre_small _ (dN _ 14 14 (by omega) rfl)
theorem genCo_pre (l : List Int) (i : Nat) : (xN l i).v.pre.length ≤ 4 := Nat.le_trans (told_pre _ _) (gen_pre4 l i)
theorem nums_small {v : Ver} (hv : v.may = true) (n : Nat) : (zW 46 (y9 v n)).length ≤ 14 ∧ (zW 46 ([Lib.itoa v.maj, Lib.itoa v.min].take n ++ [[42]])).length ≤ 14 := by
  obtain ⟨m1, m2, m3⟩ := qE hv
  have e1 := tK m1
  have e2 := tK m2
  have e3 := tK m3
  unfold y9
  match n with
  | 0 => exact ⟨by simp [zW], by simp [zW]⟩
  | 1 => exact ⟨by simp [zW]; omega, by simp [zW]; omega⟩
  | 2 => exact ⟨by simp [zW]; omega, by simp [zW]; omega⟩
  | n + 3 => exact ⟨by simp [zW]; omega, by simp [zW]; omega⟩
theorem print_small {c : Co} (h : c.may = true) (hp : c.v.pre.length ≤ 4) : c.print.length ≤ 30 := by
  obtain ⟨_, hv, _, h9, hn, _⟩ := Co.facts h
  have hs : (zY c.op).length ≤ 2 := by
    unfold zY
    repeat' split
    all_goals decide
  obtain ⟨q1, q2⟩ := nums_small hv c.parts.toNat
  rw [kP h]
  unfold Co.text Co.rest
  rw [List.length_append]
  split
  · rename_i e
    have hq := h9 e
    have e2 : y9 c.v c.parts.toNat = [Lib.itoa c.v.maj, Lib.itoa c.v.min].take c.parts.toNat := by
      unfold y9
      have hk : c.parts.toNat = 0 ∨ c.parts.toNat = 1 ∨ c.parts.toNat = 2 := by omega
      rcases hk with k | k | k <;> rw [k] <;> rfl
    rw [e2]; omega
  · rw [List.length_append]
    unfold wR
    split
    · simp only [List.length_nil]; omega
    · rename_i hne
      simp only [List.length_cons]; omega
theorem one_fine {c : Co} (h : c.may = true) (hp : c.v.pre.length ≤ 4) : rgMay [[c]] = true := by
  have hl := print_small h hp
  unfold rgMay fewR fewA
  have e : yZ [[c]] = c.print := rfl
  rw [e, decide_eq_true (show c.print.length ≤ 96 by omega)]
  simp [h, fewA]
theorem genRg_may (l : List Int) (i : Nat) : rgMay (genRg l i) = true := by
  unfold genRg
  split
  · assumption
  · exact one_fine (genCo_may l _) (genCo_pre l _)
theorem genR0_len (l : List Int) (i : Nat) : (uH l i).length = (plc (atL l i) 3).toNat + 1 := by unfold uH; rw [List.length_map, List.length_range]
theorem genA_len (l : List Int) (i a : Nat) : (uE l i a).length = (plc (atL l (i + 1 + a)) 3).toNat + 1 := by unfold uE; rw [List.length_map, List.length_range]
end
section
instance : DecidableEq St := fun a b => decidable_of_iff (a.rel = b.rel ∧ a.pre = b.pre) ⟨fun h => St.eq h.1 h.2, fun h => by rw [h]; exact ⟨rfl, rfl⟩⟩
theorem same_g (a b : St) : (decide (a.rel = b.rel) && decide (a.pre = b.pre)) = decide (a = b) := by
  rw [← Bool.decide_and]; exact decide_eq_decide.2 ⟨fun h => St.eq h.1 h.2, fun h => by rw [h]; exact ⟨rfl, rfl⟩⟩
theorem op_ne_co {ρ : Operand → Value} {o : Oper} {t' : TypeId} {x y : Operand} {u v : Co} {b : Bool} (ho : o.op = .binOp .neq 51 x y t') (hx : ρ x = coV u) (hy : ρ y = coV v) (hb : decide (u = v) = b) (w : World) : (execOp ρ o).run Tryz.prog w = .ok (.value (.bool (!b))) w :=
  run_ne_op ho hx hy guard_co (fun w => hb ▸ eq_co u v 9997 w) w
theorem rg_take_eq {xs ys : List Al} (hl : xs.length = ys.length) {i : Nat} (hi : i < xs.length) {x y : Al} (hx : xs[i] = x) (hy : ys[i]'(by omega) = y) (h : (yM xs).take i = (yM ys).take i) (he : x.l = y.l) : (yM xs).take (i + 1) = (yM ys).take (i + 1) := by
  rw [List.take_succ_eq_append_getElem (by rw [x8]; exact hi), List.take_succ_eq_append_getElem (by rw [x8]; omega), h, j7 hi hx, j7 (by omega) hy, he]
theorem rg_end {xs ys : List Al} (hl : xs.length = ys.length) {i : Nat} (hi : ¬ i < xs.length) (h : (yM xs).take i = (yM ys).take i) : yM xs = yM ys := by
  rwa [List.take_of_length_le (by rw [x8]; omega), List.take_of_length_le (by rw [x8]; omega)] at h
theorem rg_differ {xs ys : List Al} (hl : xs.length = ys.length) {i : Nat} (hi : i < xs.length) {x y : Al} (hx : xs[i] = x) (hy : ys[i]'(by omega) = y) (h : ¬ x.l = y.l) : ¬ yM xs = yM ys := fun e => h (by
  rw [← j7 hi hx, ← j7 (by omega) hy]
  exact List.getElem_of_eq e _)
theorem co_take_eq {l m : List Co} (hl : l.length = m.length) {k : Nat} (hk : k < l.length) {c d : Co} (hc : l[k] = c) (hd : m[k]'(by omega) = d) (h : l.take k = m.take k) (he : c = d) : l.take (k + 1) = m.take (k + 1) := by
  rw [List.take_succ_eq_append_getElem hk, List.take_succ_eq_append_getElem (by omega), h, hc, hd, he]
theorem co_end {l m : List Co} (hl : l.length = m.length) {k : Nat} (hk : ¬ k < l.length) (h : l.take k = m.take k) : l = m := by
  rwa [List.take_of_length_le (by omega), List.take_of_length_le (by omega)] at h
theorem co_differ {l m : List Co} (hl : l.length = m.length) {k : Nat} (hk : k < l.length) {c d : Co} (hc : l[k] = c) (hd : m[k]'(by omega) = d) (h : ¬ c = d) : ¬ l = m := fun e => h (by
  rw [← hc, ← hd]
  exact List.getElem_of_eq e _)
theorem same7_any (A B : Option Addr) (cap capb : Nat) (xs ys : List Al) (W : World) (hv : RgIn W W.heap.size A xs) (hu : RgIn W W.heap.size B ys) : Calls Tryz.prog 16 #[.agg #[.slice A xs.length cap], .agg #[.slice B ys.length capb]] W fun e w' => e = .returned (.bool (decide (yM xs = yM ys))) ∧ Below W.heap.size W w' := by
  have hn := hv.n
  have hm := hu.n
  refine zQ (n := 61) Tryz.func16 rfl (by kernel_rfl) (by kernel_rfl) (ZO (Zb (.agg #[.slice A xs.length cap]) (fun b1 => Zb (.agg #[.slice B ys.length capb]) (fun b2 => Zv (.bool false) (ZN (z6 (ZO (Zv (.pointer (some ⟨b1, 0, none⟩)) ?_))))))))
  refine Zl 1 ⟨b1, #[.slice A xs.length cap], 25⟩ (off := 0) (.slice A xs.length cap) (Zv (.int .i64 (xs.length : Int)) (Zv (.pointer (some ⟨b2, 0, none⟩)) (Zl 0 ⟨b2, #[.slice B ys.length capb], 25⟩ (off := 0) (.slice B ys.length capb) (Zv (.int .i64 (ys.length : Int)) ?_))))
  by_cases h1 : (xs.length : Int) = (ys.length : Int)
  · refine vL (p := (xs.length : Int) = (ys.length : Int)) true (by kernel_rfl) (fun _ => by kernel_rfl) (decide_eq_true (h1)) ?_
    refine ZX (ZB (z6 (ZO (Zv (.int .i64 0) (ZN (zI ?_))))))
    refine yT (fun L f m => ∃ (i : Nat) (j : Nat → Value), (i ≤ xs.length ∧ (yM xs).take i = (yM ys).take i) ∧ L = [⟨b2, #[.slice B ys.length capb], 25⟩, ⟨b1, #[.slice A xs.length cap], 25⟩] ∧ f = kE j [(2, .pointer (some ⟨b1, 0, none⟩)), (3, .pointer (some ⟨b2, 0, none⟩)), (5, .int .i64 (i : Int))] ∧ m = xs.length - i) (xs.length - 0) ⟨0, _, ⟨Nat.zero_le _, rfl⟩, rfl, ZU, rfl⟩ ?_
    rintro L f m ⟨i, j, hrel, rfl, rfl, rfl⟩
    have hrel0 := hrel; have hil := hrel.1
    refine z6 (ZO (Zv (.int .i64 (i : Int)) (Zv (.pointer (some ⟨b1, 0, none⟩)) (Zl 1 ⟨b1, #[.slice A xs.length cap], 25⟩ (off := 0) (.slice A xs.length cap) (Zv (.int .i64 (xs.length : Int)) ?_)))))
    by_cases h2 : (i : Int) < (xs.length : Int)
    · have hi : i < xs.length := by omega
      have hiy : i < ys.length := by omega
      obtain ⟨ba, oa, hA, hlta, hcella⟩ := hv.top (by omega)
      obtain ⟨bb, ob, hB, hltb, hcellb⟩ := hu.top (by omega)
      obtain ⟨x, hx⟩ : ∃ x, xs[i] = x := ⟨_, rfl⟩
      obtain ⟨y, hy⟩ : ∃ y, ys[i] = y := ⟨_, rfl⟩
      have hxm : x ∈ xs := hx ▸ List.getElem_mem hi
      have hym : y ∈ ys := hy ▸ List.getElem_mem hiy
      have hxn := hv.m x hxm
      have hyn := hu.m y hym
      refine Zd (p := (i : Int) < (xs.length : Int)) true (decide_eq_true (h2)) (ZY (ZB (z6 (zI (z6 (z6 (uL (by kernel_rfl) (by kernel_rfl) (Zw (.pointer (some ⟨b1, 0, none⟩)) ?_))))))))
      refine Zm 1 ⟨b1, #[.slice A xs.length cap], 25⟩ (off := 0) (.slice A xs.length cap) (Zw (.int .i64 (i : Int)) (kW (.pointer (some ⟨ba, oa + i * 1, none⟩)) (by kernel_rfl) (ZA (b := ba) (off := oa) (c := cap) (n := xs.length) (k := .i64) (j := (i : Int)) (e := 47) (sz := 1) hA) (b8 (.slice x.A x.l.length x.cap) (a := ⟨ba, oa + i * 1, none⟩) (by kernel_rfl) rfl (by kernel_rfl) (fun w hO => zZ g0 (fun j u h => (hO.below.cell (p := ⟨ba, oa + j, none⟩) hlta).trans (hcella j u h)) i 0 hi (by omega) _ (by rw [hx]; kernel_rfl)) (Zw (.int .i64 (x.l.length : Int)) (Zw (.pointer (some ⟨b2, 0, none⟩)) (Zm 0 ⟨b2, #[.slice B ys.length capb], 25⟩ (off := 0) (.slice B ys.length capb) (Zw (.int .i64 (i : Int)) (kW (.pointer (some ⟨bb, ob + i * 1, none⟩)) (by kernel_rfl) (ZA (b := bb) (off := ob) (c := capb) (n := ys.length) (k := .i64) (j := (i : Int)) (e := 47) (sz := 1) hB) (b8 (.slice y.A y.l.length y.cap) (a := ⟨bb, ob + i * 1, none⟩) (by kernel_rfl) rfl (by kernel_rfl) (fun w hO => zZ g0 (fun j u h => (hO.below.cell (p := ⟨bb, ob + j, none⟩) hltb).trans (hcellb j u h)) i 0 hiy (by omega) _ (by rw [hy]; kernel_rfl)) (Zw (.int .i64 (y.l.length : Int)) ?_))))))))))
      by_cases h3 : (x.l.length : Int) = (y.l.length : Int)
      · refine q_ndec (p := (x.l.length : Int) = (y.l.length : Int)) true (by kernel_rfl) (fun _ => by kernel_rfl) (decide_eq_true (h3)) ?_
        refine qO (zC (Zf (ZB (ZO (Zv (.int .i64 0) (ZN (zI (yT (fun L f m => ∃ (k : Nat) (j : Nat → Value), (k ≤ x.l.length ∧ x.l.take k = y.l.take k) ∧ L = [⟨b2, #[.slice B ys.length capb], 25⟩, ⟨b1, #[.slice A xs.length cap], 25⟩] ∧ f = kE j [(2, .pointer (some ⟨b1, 0, none⟩)), (3, .pointer (some ⟨b2, 0, none⟩)), (5, .int .i64 (i : Int)), (6, .int .i64 (k : Int))] ∧ m = x.l.length - k) (x.l.length - 0) ⟨0, _, ⟨Nat.zero_le _, rfl⟩, rfl, ZU, rfl⟩ ?_))))))))
        rintro L f m ⟨k, j, hrel, rfl, rfl, rfl⟩
        have hkl := hrel.1
        refine z6 (ZO (Zv (.int .i64 (k : Int)) (Zv (.pointer (some ⟨b1, 0, none⟩)) (Zl 1 ⟨b1, #[.slice A xs.length cap], 25⟩ (off := 0) (.slice A xs.length cap) (Zv (.int .i64 (i : Int)) (zT (.pointer (some ⟨ba, oa + i * 1, none⟩)) (by kernel_rfl) (ZA (b := ba) (off := oa) (c := cap) (n := xs.length) (k := .i64) (j := (i : Int)) (e := 47) (sz := 1) hA) (Zo (.slice x.A x.l.length x.cap) (a := ⟨ba, oa + i * 1, none⟩) (fun w hO => zZ g0 (fun j u h => (hO.below.cell (p := ⟨ba, oa + j, none⟩) hlta).trans (hcella j u h)) i 0 hi (by omega) _ (by rw [hx]; kernel_rfl)) (Zv (.int .i64 (x.l.length : Int)) ?_))))))))
        by_cases h4 : (k : Int) < (x.l.length : Int)
        · have hk : k < x.l.length := by omega
          have hky : k < y.l.length := by omega
          obtain ⟨bc, oc, hC, hltc, hcellc⟩ := hv.each x hxm (by omega)
          obtain ⟨bd, od, hD, hltd, hcelld⟩ := hu.each y hym (by omega)
          obtain ⟨c, hc⟩ : ∃ c, x.l[k] = c := ⟨_, rfl⟩
          obtain ⟨d, hd⟩ : ∃ d, y.l[k] = d := ⟨_, rfl⟩
          refine Zd (p := (k : Int) < (x.l.length : Int)) true (decide_eq_true (h4)) (ZY (ZB (z6 (zI (z6 (uL (by kernel_rfl) (by kernel_rfl) (Zw (.pointer (some ⟨b1, 0, none⟩)) (Zm 1 ⟨b1, #[.slice A xs.length cap], 25⟩ (off := 0) (.slice A xs.length cap) ?_))))))))
          refine Zw (.int .i64 (i : Int)) (kW (.pointer (some ⟨ba, oa + i * 1, none⟩)) (by kernel_rfl) (ZA (b := ba) (off := oa) (c := cap) (n := xs.length) (k := .i64) (j := (i : Int)) (e := 47) (sz := 1) hA) (b8 (.slice x.A x.l.length x.cap) (a := ⟨ba, oa + i * 1, none⟩) (by kernel_rfl) rfl (by kernel_rfl) (fun w hO => zZ g0 (fun j u h => (hO.below.cell (p := ⟨ba, oa + j, none⟩) hlta).trans (hcella j u h)) i 0 hi (by omega) _ (by rw [hx]; kernel_rfl)) (Zw (.int .i64 (k : Int)) (kW (.pointer (some ⟨bc, oc + k * 7, none⟩)) (by kernel_rfl) (ZA (b := bc) (off := oc) (c := x.cap) (n := x.l.length) (k := .i64) (j := (k : Int)) (e := 51) (sz := 7) hC) (b8 (coV c) (a := ⟨bc, oc + k * 7, none⟩) (by kernel_rfl) rfl (by kernel_rfl) (fun w hO => zZ jW (fun j u h => (hO.below.cell (p := ⟨bc, oc + j, none⟩) hltc).trans (hcellc j u h)) k 0 hk (by omega) _ (by rw [hc]; kernel_rfl)) (Zw (.pointer (some ⟨b2, 0, none⟩)) (Zm 0 ⟨b2, #[.slice B ys.length capb], 25⟩ (off := 0) (.slice B ys.length capb) (Zw (.int .i64 (i : Int)) (kW (.pointer (some ⟨bb, ob + i * 1, none⟩)) (by kernel_rfl) (ZA (b := bb) (off := ob) (c := capb) (n := ys.length) (k := .i64) (j := (i : Int)) (e := 47) (sz := 1) hB) (b8 (.slice y.A y.l.length y.cap) (a := ⟨bb, ob + i * 1, none⟩) (by kernel_rfl) rfl (by kernel_rfl) (fun w hO => zZ g0 (fun j u h => (hO.below.cell (p := ⟨bb, ob + j, none⟩) hltb).trans (hcellb j u h)) i 0 hiy (by omega) _ (by rw [hy]; kernel_rfl)) (Zw (.int .i64 (k : Int)) ?_)))))))))))
          refine kW (.pointer (some ⟨bd, od + k * 7, none⟩)) (by kernel_rfl) (ZA (b := bd) (off := od) (c := y.cap) (n := y.l.length) (k := .i64) (j := (k : Int)) (e := 51) (sz := 7) hD) (b8 (coV d) (a := ⟨bd, od + k * 7, none⟩) (by kernel_rfl) rfl (by kernel_rfl) (fun w hO => zZ jW (fun j u h => (hO.below.cell (p := ⟨bd, od + j, none⟩) hltd).trans (hcelld j u h)) k 0 hky (by omega) _ (by rw [hd]; kernel_rfl)) ?_)
          by_cases h5 : c = d
          · refine kW (.bool false) (by kernel_rfl) (op_ne_co (u := c) (v := d) rfl (by kernel_rfl) (by kernel_rfl) (decide_eq_true (h5))) ?_
            exact qO (zC (Zf (x4 (zR (zC (z7 (Zv (.int .i64 (k : Int)) (Zu (k := .i64) (((k + 1 : Nat) : Int)) (IntWalk.i64_in _ (by omega)) (Zv (.int .i64 ((k + 1 : Nat) : Int)) (zN (zU (m' := x.l.length - (k + 1)) (by omega) ⟨k + 1, _, ⟨by omega, co_take_eq (by omega) hk hc hd hrel.2 (by assumption)⟩, rfl, ZU, rfl⟩)))))))))))
          refine kW (.bool true) (by kernel_rfl) (op_ne_co (u := c) (v := d) rfl (by kernel_rfl) (by kernel_rfl) (decide_eq_false (h5))) (qO (zC (Zt (ZO (Zv (.bool false) (ZN (zA (zD (z8 ?_)))))))))
          exact y7 (zD (zD (z8 (y7 (zD (z8 (ZF (.bool false) Tryz.results16 (fun w hO => ⟨by rw [decide_eq_false (rg_differ (by omega) hi hx hy (co_differ (by omega) hk hc hd (by assumption)))], hO.below⟩))))))))
        refine Zd (p := (k : Int) < (x.l.length : Int)) false (decide_eq_false (h4)) (ZX (y5 (zB (zM (zH (zR (zC (z7 (Zv (.int .i64 (i : Int)) ?_)))))))))
        exact Zu (k := .i64) (((i + 1 : Nat) : Int)) (IntWalk.i64_in _ (by omega)) (Zv (.int .i64 ((i + 1 : Nat) : Int)) (zN (zU (m' := xs.length - (i + 1)) (by omega) ⟨i + 1, _, ⟨by omega, rg_take_eq (by omega) hi hx hy hrel0.2 (co_end (by omega) (by omega) hrel.2)⟩, rfl, ZU, rfl⟩)))
      refine q_ndec (p := (x.l.length : Int) = (y.l.length : Int)) false (by kernel_rfl) (fun _ => by kernel_rfl) (decide_eq_false (h3)) (qO (zC (Zt (ZO (Zv (.bool false) (ZN (zA (z8 (zD ?_)))))))))
      exact z8 (y7 (zD (z8 (ZF (.bool false) Tryz.results16 (fun w hO => ⟨by rw [decide_eq_false (rg_differ (by omega) hi hx hy (fun q0 => by have := congrArg List.length q0; omega))], hO.below⟩)))))
    refine Zd (p := (i : Int) < (xs.length : Int)) false (decide_eq_false (h2)) (ZX (y5 (zB (zM (zH (zC (ZO (Zv (.bool true) ?_))))))))
    exact ZN (zA (ZF (.bool true) Tryz.results16 (fun w hO => ⟨by rw [decide_eq_true (rg_end (by omega) (by omega) hrel0.2)], hO.below⟩)))
  refine Zn (p := (xs.length : Int) = (ys.length : Int)) false (decide_eq_false (h1)) (ZY (ZO (Zv (.bool false) (ZN (zA (z8 (ZF (.bool false) Tryz.results16 ?_)))))))
  exact fun w hO => ⟨by rw [decide_eq_false (fun q0 => by have q1 := congrArg List.length q0; rw [x8, x8] at q1; omega)], hO.below⟩
end
section
theorem altsL_index : ∀ (s acc : List UInt8), xW acc s = if Lib.index s [124, 124] = -1 then [acc ++ s] else (acc ++ s.take (Lib.index s [124, 124]).toNat) :: xW [] (s.drop ((Lib.index s [124, 124]).toNat + 2))
  | [], acc => by simp [xW, Lib.index]
  | [c], acc => by simp [xW, Lib.index, List.isPrefixOf]
  | c :: d :: r, acc => by
    by_cases h : c = 124 ∧ d = 124
    · obtain ⟨rfl, rfl⟩ := h
      have e : Lib.index (124 :: 124 :: r) [124, 124] = 0 := by simp [Lib.index, List.isPrefixOf]
      rw [e, xW, if_pos ⟨rfl, rfl⟩, if_neg (by decide)]; simp
    · have hp : List.isPrefixOf ([124, 124] : List UInt8) (c :: d :: r) = false := by
        rw [List.isPrefixOf, List.isPrefixOf, List.isPrefixOf]
        by_cases hc : c = 124
        · have hd : ¬ d = 124 := fun q => h ⟨hc, q⟩
          have : ((124 : UInt8) == d) = false := beq_eq_false_iff_ne.2 (Ne.symm hd)
          simp [this]
        · have : ((124 : UInt8) == c) = false := beq_eq_false_iff_ne.2 (Ne.symm hc)
          simp [this]
      have ge := Lib.index_ge (d :: r) [124, 124]
      rw [xW, if_neg h, altsL_index (d :: r) (acc ++ [c])]
      have e : Lib.index (c :: d :: r) [124, 124] = if Lib.index (d :: r) [124, 124] = -1 then -1 else Lib.index (d :: r) [124, 124] + 1 := by
        conv => lhs; rw [Lib.index]
        rw [hp, if_neg (by decide)]
        simp
      rw [e]
      generalize Lib.index (d :: r) [124, 124] = n at ge
      by_cases hn : n = -1
      · subst hn; simp
      · rw [if_neg hn, if_neg hn, if_neg (by omega)]
        have e2 : (n + 1).toNat = n.toNat + 1 := by omega
        rw [e2, List.take_succ_cons, show n.toNat + 1 + 2 = (n.toNat + 2) + 1 from by omega, List.drop_succ_cons]
        simp
theorem splitK_from (sep : List UInt8) : ∀ (f : Nat) (s : List UInt8), s.length < f → Lib.splitK sep 0 (Lib.countFrom sep f s) s = if Lib.index s sep = -1 then [s] else s.take (Lib.index s sep).toNat :: Lib.splitK sep 0 (Lib.countFrom sep (f - 1) (s.drop ((Lib.index s sep).toNat + sep.length))) (s.drop ((Lib.index s sep).toNat + sep.length))
  | f + 1, s, h => by
    rw [Lib.countFrom]
    by_cases q : Lib.index s sep = -1
    · rw [if_pos (by simp [q]), if_pos q, Lib.splitK]
    · rw [if_neg (by simp [q]), if_neg q, Nat.add_comm 1, Lib.splitK, if_neg (by simp [q]), Nat.add_zero]; rfl
theorem alts_from : ∀ (f : Nat) (s : List UInt8), s.length < f → Lib.splitK [124, 124] 0 (Lib.countFrom [124, 124] f s) s = xW [] s
  | f + 1, s, h => by
    rw [splitK_from _ _ _ h, altsL_index s []]
    by_cases q : Lib.index s [124, 124] = -1
    · rw [if_pos q, if_pos q]; rfl
    · have hr := Lib.index_room s [124, 124] (by have := Lib.index_ge s [124, 124]; omega)
      rw [if_neg q, if_neg q]
      show _ :: Lib.splitK [124, 124] 0 (Lib.countFrom [124, 124] f _) _ = _
      rw [alts_from f _ (by rw [List.length_drop]; simp only [List.length_cons, List.length_nil]; simp only [List.length_cons, List.length_nil] at hr; have := Lib.index_ge s [124, 124]; omega)]
      rfl
theorem split_alts (s : List UInt8) : Lib.splitK [124, 124] 0 (Lib.count s [124, 124]) s = xW [] s := alts_from _ s (Nat.lt_succ_self _)
theorem cut_index (b : UInt8) (s : List UInt8) : yL b [] s = if Lib.index s [b] = -1 then [s] else s.take (Lib.index s [b]).toNat :: yL b [] (s.drop ((Lib.index s [b]).toNat + 1)) := by
  have hc := cutAt_cut b s
  have hge := Lib.index_ge s [b]
  rw [qX, ← hc]
  unfold Lib.cut
  by_cases h : Lib.index s [b] = -1
  · have h2 : ¬ 0 ≤ Lib.index s [b] := by omega
    simp [h]
  · have h2 : 0 ≤ Lib.index s [b] := by omega
    simp [h, h2]
theorem cuts_from (b : UInt8) : ∀ (f : Nat) (s : List UInt8), s.length < f → Lib.splitK [b] 0 (Lib.countFrom [b] f s) s = yL b [] s
  | f + 1, s, h => by
    rw [splitK_from _ _ _ h, cut_index b s]
    by_cases q : Lib.index s [b] = -1
    · rw [if_pos q, if_pos q]
    · have hr := Lib.index_room s [b] (by have := Lib.index_ge s [b]; omega)
      rw [if_neg q, if_neg q]
      show _ :: Lib.splitK [b] 0 (Lib.countFrom [b] f _) _ = _
      rw [cuts_from b f _ (by rw [List.length_drop]; simp only [List.length_cons, List.length_nil]; simp only [List.length_cons, List.length_nil] at hr; have := Lib.index_ge s [b]; omega)]
      rfl
theorem split_cuts (b : UInt8) (s : List UInt8) : Lib.splitK [b] 0 (Lib.count s [b]) s = yL b [] s := cuts_from b _ s (Nat.lt_succ_self _)
theorem splitB_list (sep : List UInt8) (k : Nat) (s : List UInt8) : Lib.splitB (mkS sep) 0 k (mkS s) = (Lib.splitK sep 0 k s).map mkS := by
  have h := Lib.splitB_data (mkS sep) 0 k (mkS s)
  rw [mk_data, mk_data] at h
  rw [← h, List.map_map]
  refine ((List.map_congr_left fun x _ => ?_).trans (List.map_id _)).symm
  exact Lib.mk_data x
theorem splitB_alts (s : List UInt8) : Lib.splitB (mkS [124, 124]) 0 (Lib.countB (mkS s) (mkS [124, 124])) (mkS s) = (xW [] s).map mkS := by
  rw [splitB_list, show Lib.countB (mkS s) (mkS [124, 124]) = Lib.count s [124, 124] from by unfold Lib.countB; rw [mk_data, mk_data], split_alts]
theorem splitB_cuts (b : UInt8) (s : List UInt8) : Lib.splitB (mkS [b]) 0 (Lib.countB (mkS s) (mkS [b])) (mkS s) = (yL b [] s).map mkS := by
  rw [splitB_list, show Lib.countB (mkS s) (mkS [b]) = Lib.count s [b] from by unfold Lib.countB; rw [mk_data, mk_data], split_cuts]
theorem pN : ∀ (s : List UInt8), Lib.trimLeftB s 32 = xV s
  | [] => rfl
  | c :: l => by
    unfold Lib.trimLeftB
    rw [xV, List.dropWhile_cons]
    by_cases h : c = 32
    · subst h
      rw [if_pos (by decide), if_pos rfl]; exact pN l
    · rw [if_neg (by simp [h]), if_neg h]
def bareR (s : List UInt8) : List UInt8 := (xV s.reverse).reverse
theorem bareF_snoc {c : UInt8} (h : c ≠ 32) : ∀ (x : List UInt8), xV (x ++ [c]) = xV x ++ [c]
  | [] => by
    show xV [c] = [c]
    rw [xV]; exact if_neg h
  | d :: x => by
    rw [List.cons_append, xV, xV]
    by_cases q : d = 32
    · rw [if_pos q, if_pos q, bareF_snoc h x]
    · rw [if_neg q, if_neg q]; rfl
theorem tW : ∀ (x : List UInt8), xV (x ++ [32]) = if xV x = [] then [] else xV x ++ [32]
  | [] => by simp [xV]
  | d :: x => by
    rw [List.cons_append, xV, xV]
    by_cases q : d = 32
    · rw [if_pos q, if_pos q, tW x]
    · rw [if_neg q, if_neg q, if_neg (by simp)]; rfl
theorem bare_swap : ∀ (s : List UInt8), xV (bareR s) = bareR (xV s)
  | [] => rfl
  | c :: l => by
    have ih := bare_swap l
    by_cases h : c = 32
    · subst h
      rw [show xV (32 :: l) = xV l from by rw [xV, if_pos rfl], ← ih]
      unfold bareR
      rw [List.reverse_cons, tW]
      by_cases q : xV l.reverse = []
      · rw [if_pos q, q]
      · rw [if_neg q, List.reverse_append]
        show xV (32 :: (xV l.reverse).reverse) = _
        rw [xV, if_pos rfl]
    · rw [show xV (c :: l) = c :: l from by rw [xV, if_neg h]]
      unfold bareR
      rw [List.reverse_cons, bareF_snoc h, List.reverse_append]
      show xV (c :: (xV l.reverse).reverse) = c :: (xV l.reverse).reverse
      rw [xV, if_neg h]
theorem trim_bare (s : List UInt8) : Lib.trimB s 32 = xU s := by
  unfold Lib.trimB Lib.trimRightB
  have e : ∀ l : List UInt8, l.dropWhile (· == 32) = xV l := pN
  rw [e, pN]
  exact bare_swap s
def wQ (r : List (List Co)) : List UInt8 := if fewR r then yZ r else []
theorem altText_ne {a : List Co} (h : fewA a = true) : yR a ≠ [] := by
  obtain ⟨h1, h2⟩ := fewA.facts h
  cases a with
  | nil => exact absurd h1.1 (by decide)
  | cons c l =>
    have hc : c.print ≠ [] := by
      rw [kP (h2 c (List.mem_cons_self ..))]
      exact text_ne (h2 c (List.mem_cons_self ..))
    unfold yR
    cases l with
    | nil => exact hc
    | cons d l => 
      rw [List.map_cons, List.map_cons, vY]
      intro e
      exact hc (List.append_eq_nil_iff.1 (List.append_eq_nil_iff.1 e).1).1
theorem rgText_ne {r : List (List Co)} (h : fewR r = true) : yZ r ≠ [] := by
  obtain ⟨h1, h2⟩ := fewR.facts h
  cases r with
  | nil => exact absurd h1.1 (by decide)
  | cons a l =>
    have hc := altText_ne (h2 a (List.mem_cons_self ..))
    unfold yZ
    cases l with
    | nil => exact hc
    | cons d l =>
      rw [List.map_cons, List.map_cons, vY]
      intro e
      exact hc (List.append_eq_nil_iff.1 (List.append_eq_nil_iff.1 e).1).1
theorem textR_nil {r : List (List Co)} : wQ r = [] ↔ fewR r = false := by
  unfold wQ
  cases h : fewR r with
  | false => simp
  | true => simp [rgText_ne h]
theorem print_text (r : List (List Co)) : jT r = if 96 < (wQ r).length then [] else wQ r := by
  unfold jT rgMay wQ
  cases fewR r with
  | false => simp
  | true =>
    by_cases h : (yZ r).length ≤ 96
    · simp [h, Nat.not_lt.2 h]
    · simp [h, Nat.lt_of_not_le h]
theorem print_nil (r : List (List Co)) : jT r = [] ↔ rgMay r = false := by
  unfold jT
  cases h : rgMay r with
  | false => simp
  | true => simp [rgText_ne (rgMay.facts h).1]
end
section
theorem grow_inner (B b n : Nat) (w : World) (hB : B ≤ b) (hbk : w.heap[b]? = some (.cells #[.pointer (some ⟨b, 0, none⟩), .slice none 0 0] 139 (0, 0))) (hBw : B ≤ w.heap.size) (hn : n ≤ 281474976710656) :
    Calls Tryz.prog 169 #[.pointer (some ⟨b, 0, none⟩), .int .i64 n] w fun e w' => e = .returned (.tuple #[]) ∧ (Lib.BuilderAt 139 5 B b (.pointer (some ⟨b, 0, none⟩)) [] w' ∧ Below B w w') := by
  obtain ⟨cs, hrun, hle, hmax⟩ := Lib.run_makeNoZero (P := Tryz.prog) w.drew #[3] 137 5 Tryz.underlying137 n hn
  have hlt : b < w.heap.size := by
    rcases Nat.lt_or_ge b w.heap.size with h | h
    · exact h
    · simp [Array.getElem?_eq_none h] at hbk
  have hw : IntKind.i64.wrap (IntKind.i64.wrap 0 + (n : Int)) = n := by
    rw [IntKind.wrap_i64, IntKind.wrap_i64]; omega
  have hcall : (callFunc 199 #[.int .i64 (IntKind.i64.wrap (IntKind.i64.wrap 0 + (n : Int)))]).run Tryz.prog w.drew = .ok (.value (.slice (some ⟨w.drew.heap.size, 0, none⟩) n cs.size)) (w.drew.drew.drew.alloc (.cells cs 5)) := by
    rw [hw, run_callFunc_extern Tryz.func199 (by kernel_rfl) (by kernel_rfl) (by kernel_rfl) (e := Extern.BytealgMakeNoZero.makeNoZero #[3] #[137]) (by kernel_rfl), hrun]
    rfl
  have c1 : w.drew.cell? ⟨b, 1, none⟩ = some (.slice none 0 0) := by
    have : w.drew.heap[b]? = _ := hbk
    rw [Lib.cell_of_heap this]; rfl
  have hb2 : (w.alloc (.cells cs 5)).heap[b]? = _ := (Lib.alloc_old w _ b hlt).trans hbk
  have c2 : (w.alloc (.cells cs 5)).cell? ⟨b, 1, none⟩ = some (.slice none 0 0) := by rw [Lib.cell_of_heap hb2]; rfl
  have f2 : (w.alloc (.cells cs 5)).frozen? ⟨b, 1, none⟩ = false := Lib.frozen_of_heap hb2 1
  have hcopy : ∀ W : World, (Builtin.copy_ #[137, 137] 3 #[.slice (some ⟨w.heap.size, 0, none⟩) 0 cs.size, .slice none 0 0]).run Tryz.prog W = .ok (goInt 0) W :=
    fun W => run_copy_none W 137 137 3 5 _ _ 0 cs.size 0 0 Tryz.underlying137 (by kernel_rfl) rfl
  clear hw hlt hb2
  have mixed : Tryz.prog.follows .mixedOrders = true := by kernel_rfl
  go_enter Tryz.func169, Tryz.ntmps169
  go_wp2
  have hfin := Lib.grown_fresh (T := 139) (e := 5) (cs := cs) hB hbk hBw (hmax (by unfold maxLen; omega)) (by decide)
  have hbel : Below B w ((w.alloc (.cells cs 5)).setCell ⟨b, 1, none⟩ (.slice (some ⟨w.heap.size, 0, none⟩) 0 cs.size)).drew.drew.drew := ((((Below.refl B w).alloc hBw _).setCell (p := ⟨b, 1, none⟩) hB _).drew).drew.drew
  go_region_o
  all_goals (go_wp2; go_end0; exact ⟨rfl, hfin.1, hbel⟩)
theorem grow_fresh (B b n : Nat) (w : World) (hB : B ≤ b) (hbk : w.heap[b]? = some (.cells #[.pointer none, .slice none 0 0] 139 (0, 0))) (hBw : B ≤ w.heap.size) (hn : n ≤ 281474976710656) :
    Calls Tryz.prog 120 #[.pointer (some ⟨b, 0, none⟩), .int .i64 n] w fun e w' => e = .returned (.tuple #[]) ∧ (Lib.BuilderAt 139 5 B b (.pointer (some ⟨b, 0, none⟩)) [] w' ∧ Below B w w') := by
  obtain ⟨w1, hw1⟩ : ∃ x, x = w.setCell ⟨b, 0, none⟩ (.pointer (some ⟨b, 0, none⟩)) := ⟨_, rfl⟩
  have hbk1 : w1.heap[b]? = some (.cells #[.pointer (some ⟨b, 0, none⟩), .slice none 0 0] 139 (0, 0)) := by
    rw [hw1]; simp [World.setCell, Array.getElem?_modify, hbk]
  have hs1 : B ≤ w1.heap.size := by rw [hw1]; simpa [World.setCell] using hBw
  have hb1 : Below B w w1 := by rw [hw1]; exact (Below.refl B w).setCell (p := ⟨b, 0, none⟩) hB _
  have hc : Calls Tryz.prog 168 #[.pointer (some ⟨b, 0, none⟩)] w fun e w' => e = .returned (.tuple #[]) ∧ w' = w1 := by
    rw [hw1]
    exact fE b w (by rw [Lib.cell_of_heap hbk]; rfl) (by simp [World.shape?, hbk]) (Lib.frozen_of_heap hbk 0)
  clear hw1
  have c1 : w1.cell? ⟨b, 1, none⟩ = some (.slice none 0 0) := by rw [Lib.cell_of_heap hbk1]; rfl
  have c1' : w1.drew.cell? ⟨b, 1, none⟩ = some (.slice none 0 0) := c1
  have hU : Lib.BuilderAt 139 5 B b (.pointer (some ⟨b, 0, none⟩)) [] w1 := ⟨hB, .slice none 0 0, hbk1, World.ownsRow_nil _ _ _ _, by simp [Value.ownBlock]⟩
  have mixed : Tryz.prog.follows .mixedOrders = true := by kernel_rfl
  go_enter Tryz.func120, Tryz.ntmps120
  go_wp2_with (go_at_call 168; refine hc.mono ?_; rintro e w' ⟨rfl, hw⟩; rw [hw])
  go_region_o
  all_goals go_wp2_with (go_at_call 169; refine (grow_inner B b n w1.drew hB hbk1 hs1 hn).mono ?_; rintro e w' ⟨rfl, h1, h2⟩)
  all_goals first
    | (go_end0; exact ⟨rfl, h1, hb1.drew.trans h2⟩)
    | (go_end0; exact ⟨rfl, hU.drew, hb1.drew⟩)
end
section
structure HasLib (w : World) : Prop where
  tab : HasTab w
  max : ∃ m, w.cell? ⟨0, 0, none⟩ = some (.int .i64 m)
theorem HasLib.on {w w' : World} (h : HasLib w) (hb : Below w.heap.size w w') : HasLib w' :=
  ⟨h.tab.on hb, let ⟨m, hm⟩ := h.max; ⟨m, (hb.cell (World.block_lt_of_cell? _ _ hm)).trans hm⟩⟩
theorem hasLib_of {W : World} (ht : HasTab W) (hS : W.ShapedOpen Tryz.prog) : HasLib W := ⟨ht, Tryz.laysM143.s1_3 W hS⟩
theorem split_own (s sep : List UInt8) (l : List (List UInt8)) (W : World) (h0 : 1 ≤ sep.length) (hs : s.length ≤ 1000000) (hl : Lib.splitB (mkS sep) 0 (Lib.countB (mkS s) (mkS sep)) (mkS s) = l.map mkS) (ht : HasLib W) :
    Calls Tryz.prog 36 #[.string (mkS s), .string (mkS sep)] W fun e w' => ∃ v' ob', e = .returned v' ∧ SlT v' l ob' ∧ Own [] W w' ob' := by
  obtain ⟨m, hm⟩ := ht.max
  have hz : (mkS sep).size = sep.length := xA sep
  have hlen := Lib.splitB_all (mkS sep) (by omega) 0 _ (mkS s) rfl
  have hle := Lib.countB_le (mkS sep) (by omega) (mkS s).size (mkS s) (Nat.le_refl _)
  rw [xA] at hle
  rw [hl, List.length_map] at hlen
  refine (Tryz.strings_Split (mkS s) (mkS sep) m W (by rw [xA]; omega) hm (by omega)).mono fun e w' ⟨he, hw⟩ => ?_
  subst hw
  rw [hl, List.map_map] at *
  rw [← hlen] at he
  refine ⟨_, _, he, slt_lit l W.heap.size _ (by unfold qB; rfl) (by unfold maxLen; omega), (Own.start [] W).alloc _ _⟩
theorem split_bars (s : List UInt8) (W : World) (hs : s.length ≤ 1000000) (ht : HasLib W) :
    Calls Tryz.prog 36 #[.string (mkS s), .string ⟨#[124, 124]⟩] W fun e w' => ∃ v' ob', e = .returned v' ∧ SlT v' (xW [] s) ob' ∧ Own [] W w' ob' :=
  split_own s [124, 124] (xW [] s) W (by decide) hs (splitB_alts s) ht
theorem split_comma (s : List UInt8) (W : World) (hs : s.length ≤ 1000000) (ht : HasLib W) :
    Calls Tryz.prog 36 #[.string (mkS s), .string ⟨#[44]⟩] W fun e w' => ∃ v' ob', e = .returned v' ∧ SlT v' (yL 44 [] s) ob' ∧ Own [] W w' ob' :=
  split_own s [44] (yL 44 [] s) W (by decide) hs (splitB_cuts 44 s) ht
theorem trim_any (s : List UInt8) (W : World) (hs : s.length ≤ 1000000) :
    Calls Tryz.prog 38 #[.string (mkS s), .string ⟨#[32]⟩] W fun e w' => e = .returned (.string (mkS (xU s))) ∧ Below W.heap.size W w' :=
  (Tryz.strings_Trim_one (mkS s) 32 (by decide) W (by rw [xA]; omega)).mono fun e w' ⟨he, hw⟩ =>
    ⟨by rw [he, mk_data, trim_bare]; rfl, hw.elim (fun q => q ▸ Below.refl _ _) (fun q => q ▸ (Below.refl _ _).drew)⟩
def vG (sep : List UInt8) : List (List UInt8) → List UInt8
  | [] => []
  | x :: r => sep ++ x ++ vG sep r
theorem joinB_T (sep : List UInt8) : ∀ (r : List (List UInt8)) (x : List UInt8), g9 sep (x :: r) = x ++ vG sep r
  | [], x => by simp [g9, vG]
  | y :: r, x => by rw [vY, joinB_T sep r y, vG]; simp only [List.append_assoc]
theorem joinT_snoc (sep x : List UInt8) : ∀ (r : List (List UInt8)), vG sep (r ++ [x]) = vG sep r ++ (sep ++ x)
  | [] => by simp [vG]
  | y :: r => by rw [List.cons_append, vG, vG, joinT_snoc sep x r]; simp only [List.append_assoc]
theorem joinT_len {sep : List UInt8} (hs : sep.length ≤ 100) : ∀ {r : List (List UInt8)}, (∀ x ∈ r, x.length ≤ 1000000) → (vG sep r).length ≤ r.length * 1000100
  | [], _ => by simp [vG]
  | y :: r, h => by
    have h1 := joinT_len hs (r := r) fun x hx => h x (List.mem_cons_of_mem _ hx)
    have h2 := h y (List.mem_cons_self ..)
    rw [vG]; simp only [List.length_append, List.length_cons]; omega
theorem bc_two (x y z : List UInt8) : Lib.byteCells (x ++ (y ++ z)) = Lib.byteCells x ++ Lib.strCells (mkS y) ++ Lib.strCells (mkS z) := by
  rw [wT, wT, ← Lib.byteCells_append, ← Lib.byteCells_append, List.append_assoc]
theorem join_many (sep x0 : List UInt8) (r : List (List UInt8)) (b off cap : Nat) (w : World) (hc : ∀ j (h : j < (x0 :: r).length), w.cell? ⟨b, off + j, none⟩ = some (.string (mkS ((x0 :: r)[j]))))
    (hb : b < w.heap.size) (hr : 1 ≤ r.length) (hn : r.length ≤ 1000) (h0 : sep ≠ []) (hs : sep.length ≤ 100) (hx : ∀ x ∈ x0 :: r, x.length ≤ 1000000) (hcap : r.length + 1 ≤ cap) :
    Calls Tryz.prog 74 #[.slice (some ⟨b, off, none⟩) (r.length + 1) cap, .string (mkS sep)] w fun e w' => e = .returned (.string (mkS (g9 sep (x0 :: r)))) ∧ Below w.heap.size w w' := by
  have HT := Lib.hid (show ∀ k, (x0 ++ vG sep (r.take k)).length ≤ 2000000000 from fun k => by
    have h1 := joinT_len hs (r := r.take k) fun x hm => hx x (List.mem_cons_of_mem _ (List.mem_of_mem_take hm))
    have h2 := hx x0 (List.mem_cons_self ..)
    have h3 : (r.take k).length ≤ 1000 := Nat.le_trans (by rw [List.length_take]; exact Nat.min_le_right ..) hn
    rw [List.length_append]; omega)
  have HC := Lib.hid hc
  have HX := Lib.hid hx
  have HJ := Lib.hid (joinB_T sep r x0)
  have hx0 : (mkS x0).size ≤ 1000000 := by rw [xA]; exact hx x0 (List.mem_cons_self ..)
  obtain ⟨S, hS⟩ : ∃ q, q = mkS sep := ⟨_, rfl⟩
  have hSz : S.size = sep.length := by rw [hS, xA]
  have hS1 : 1 ≤ S.size := by cases sep with
    | nil => exact absurd rfl h0
    | cons _ _ => rw [hSz]; simp
  have hS9 : S.size ≤ 100 := by omega
  rw [← hS]
  have HS := Lib.hid hS
  obtain ⟨N, hN⟩ : ∃ q, q = r.length + 1 := ⟨_, rfl⟩
  rw [← hN] at hcap ⊢
  have hcast : ((N : Int) - 1) = (r.length : Int) := by omega
  have hmul : S.size * r.length ≤ 100000 := Nat.le_trans (Nat.mul_le_mul hS9 hn) (by decide)
  have hdv : ¬ (9223372036854775807 / ((N : Int) - 1) ≤ (S.size : Int)) := by
    rw [hcast]
    intro q
    have h1 : (9223372036854775807 : Int) < ((S.size : Int) + 1) * (r.length : Int) :=
      Int.lt_mul_of_ediv_lt (by omega) (Int.lt_add_one_of_le q)
    have h2 : ((S.size : Int) + 1) * (r.length : Int) = ((S.size * r.length + r.length : Nat) : Int) := by rw [Int.add_mul, Int.one_mul]; push_cast; rfl
    omega
  have hprod : wrap64 ((S.size : Int) * ((N : Int) - 1)) = ((S.size * r.length : Nat) : Int) := by
    rw [hcast, show (S.size : Int) * (r.length : Int) = ((S.size * r.length : Nat) : Int) from by push_cast; rfl]
    exact IntWalk.wrap64_in _ ⟨by omega, by omega⟩
  generalize S.size * r.length = M at hmul hprod
  have hne0 : ((N : Int) == 0) = false := beq_eq_false_iff_ne.2 (by omega)
  have hne1 : ((N : Int) == 1) = false := beq_eq_false_iff_ne.2 (by omega)
  have hN2 : 2 ≤ N := by omega
  have hN9 : N ≤ 1001 := by omega
  have HN := Lib.hid hN
  have H0 := Lib.hid h0
  clear hc hx hs h0 hS hSz hcast hN hr hn
  go_enter Tryz.func74, Tryz.ntmps74
  go_wp2
  go_loop [5, 41] (fun n i => ∃ (k t : Nat), k ≤ N ∧ i = .int .i64 k ∧ n = .int .i64 t ∧ t ≤ 100000 + k * 1000000) (fun _ i => N - (intOf i).toNat)
  case atStart => exact ⟨0, M, Nat.zero_le _, rfl, rfl, by omega⟩
  case round =>
    obtain ⟨k, t, hk, rfl, rfl, ht⟩ := hrel
    by_cases hkn : k < N
    · have hkl : k < (x0 :: r).length := by have := HN.out; rw [List.length_cons]; omega
      obtain ⟨y, hy⟩ : ∃ q, q = mkS ((x0 :: r)[k]) := ⟨_, rfl⟩
      have hyz : y.size ≤ 1000000 := by rw [hy, xA]; exact HX.out _ (List.getElem_mem hkl)
      have hck : w.cell? ⟨b, off + k, none⟩ = some (.string y) := by rw [hy]; exact HC.out k hkl
      clear hy hkl
      go_wp2
      exact ⟨⟨k + 1, t + y.size, by omega, by go_num, by go_num, by omega⟩, by simp [intOf]; omega⟩
    · obtain rfl : k = N := by omega
      go_wp2_with (go_at_call 120; refine (grow_fresh w.heap.size w.heap.size t _ (Nat.le_refl _) (heap_alloc_new w _) (by simp) (by omega)).mono ?_)
      rintro e w1 rfl h1 hb1
      have hb1' : Below w.heap.size w w1 := ((Below.refl w.heap.size w).alloc (Nat.le_refl _) _).trans hb1
      have hsz1 := hb1'.size
      have hc0 : w1.cell? ⟨b, off, none⟩ = some (.string (mkS x0)) := by
        rw [hb1'.cell (p := ⟨b, off, none⟩) hb]
        exact HC.out 0 (by simp)
      have H1 := Lib.hid (Or.inr h1 : Lib.IsBuilder 139 5 w.heap.size w.heap.size [] w1)
      have HB1 := Lib.hid hb1'
      clear h1 hb1 hb1' ht hprod hmul hdv hkn hk
      obtain ⟨X, hX⟩ : ∃ q, q = mkS x0 := ⟨_, rfl⟩
      rw [← hX] at hc0 hx0
      have HX0 := Lib.hid hX
      clear hX
      go_wp2_with (go_at_call 121; refine (qA w.heap.size w.heap.size [] X w1 H1.out ?_ hsz1).mono ?_)
      · simp; omega
      rintro e w2 ⟨rfl, h2, hb2⟩
      have H2 := Lib.hid (show Lib.IsBuilder 139 5 w.heap.size w.heap.size (Lib.byteCells (x0 ++ vG sep (r.take 0))) w2 from by
        rw [HX0.out, wT, List.nil_append] at h2
        rw [List.take_zero, vG, List.append_nil]; exact Or.inr h2)
      have HB2 := Lib.hid (HB1.out.trans hb2)
      clear h2 hb2 hsz1 hc0
      have hrk : k - 1 = r.length := by have := HN.out; omega
      go_wp2
      go_loopw [65] (fun i wr => ∃ j : Nat, j ≤ r.length ∧ i = .int .i64 j ∧ Hid (Lib.IsBuilder 139 5 w.heap.size w.heap.size (Lib.byteCells (x0 ++ vG sep (r.take j))) wr) ∧ Hid (Below w.heap.size w wr)) (fun i _ => r.length - (intOf i).toNat)
      case atStart => exact ⟨0, Nat.zero_le _, rfl, H2, HB2⟩
      case round =>
        obtain ⟨j, hj, rfl, HB, HW⟩ := hrel
        have hsz := HW.out.size
        by_cases hjr : j < r.length
        · obtain ⟨y, hy⟩ : ∃ q, q = mkS r[j] := ⟨_, rfl⟩
          have hyz : y.size ≤ 1000000 := by rw [hy, xA]; exact HX.out _ (List.mem_cons_of_mem _ (List.getElem_mem hjr))
          have hck : wr.cell? ⟨b, off + 1 + j, none⟩ = some (.string y) := by
            rw [HW.out.cell (p := ⟨b, off + 1 + j, none⟩) hb, hy, show off + 1 + j = off + (j + 1) from by omega]
            exact HC.out (j + 1) (by simp; omega)
          have HY := Lib.hid hy
          have hlen : (Lib.byteCells (x0 ++ vG sep (r.take j))).length ≤ 2000000000 := by rw [Lib.byteCells_length]; exact HT.out j
          have HE := Lib.hid (show Lib.byteCells (x0 ++ vG sep (r.take j)) ++ Lib.strCells S ++ Lib.strCells y = Lib.byteCells (x0 ++ vG sep (r.take (j + 1))) from by
            rw [HS.out, HY.out, List.take_succ_eq_append_getElem hjr, joinT_snoc, ← List.append_assoc, bc_two])
          clear hy
          go_wp2_with (go_at_call 121; refine (qA w.heap.size w.heap.size _ S wr HB.out ?_ hsz).mono ?_)
          · omega
          rintro e w3 ⟨rfl, h3, hb3⟩
          have hsz3 := Nat.le_trans hsz hb3.size
          have H3 := Lib.hid h3
          have HB3 := Lib.hid hb3
          clear h3 hb3
          go_wp2_with (go_at_call 121; refine (qA w.heap.size w.heap.size _ y w3 (Or.inr H3.out) ?_ hsz3).mono ?_)
          · rw [List.length_append, Lib.strCells_length]; omega
          rintro e w4 ⟨rfl, h4, hb4⟩
          rw [HE.out] at h4
          have H4 := Lib.hid (Or.inr h4 : Lib.IsBuilder 139 5 w.heap.size w.heap.size (Lib.byteCells (x0 ++ vG sep (r.take (j + 1)))) w4)
          have HB4 := Lib.hid ((HW.out.trans HB3.out).trans hb4)
          clear h4 hb4
          go_wp2
          go_roundw
          case rel => exact ⟨j + 1, by omega, by go_num, H4, HB4⟩
          case measure => simp [intOf]; omega
        · obtain rfl : j = r.length := by omega
          have HB' := HB.out
          rw [List.take_length, ← HJ.out] at HB'
          have hne : g9 sep (x0 :: r) ≠ [] := by
            rw [HJ.out]
            cases r with
            | nil => simp at hrk; omega
            | cons y r => rw [vG]; intro q; exact H0.out (List.append_eq_nil_iff.1 (List.append_eq_nil_iff.1 (List.append_eq_nil_iff.1 q).2).1).1
          have HBF := Lib.hid HB'
          clear HB'
          go_wp2_with (go_at_call 122; refine (string_any w.heap.size w.heap.size _ _ HBF.out hne).mono ?_)
          rintro e w5 ⟨rfl, hb5⟩
          go_wp2
          go_ret
          exact ⟨rfl, HW.out.trans hb5⟩
theorem join_one (sep x : List UInt8) (A : Option Addr) (cap : Nat) (w : World) (hv : Reads pZ w w.heap.size A [x]) (hcap : 1 ≤ cap) :
    Calls Tryz.prog 74 #[.slice A 1 cap, .string (mkS sep)] w fun e w' => e = .returned (.string (mkS x)) ∧ Below w.heap.size w w' := by
  obtain ⟨b, off, rfl, hb, hcell⟩ := hv (by simp)
  have hc : w.cell? ⟨b, off, none⟩ = some (.string (mkS x)) := hcell 0 _ rfl
  go_enter Tryz.func74, Tryz.ntmps74
  go_wp2
  go_ret
  exact ⟨rfl, Below.refl _ _⟩
theorem join_none (sep : List UInt8) (A : Option Addr) (cap : Nat) (w : World) :
    Calls Tryz.prog 74 #[.slice A 0 cap, .string (mkS sep)] w fun e w' => e = .returned (.string (mkS [])) ∧ Below w.heap.size w w' := by
  go_enter Tryz.func74, Tryz.ntmps74
  go_wp2
  go_ret
  exact ⟨rfl, Below.refl _ _⟩
theorem sjoin_any (sep : List UInt8) (l : List (List UInt8)) (A : Option Addr) (cap : Nat) (w : World) (hv : Reads pZ w w.heap.size A l) (h0 : sep ≠ []) (hs : sep.length ≤ 100) (hn : l.length ≤ 1000) (hx : ∀ x ∈ l, x.length ≤ 1000000) (hcap : l.length ≤ cap) :
    Calls Tryz.prog 74 #[.slice A l.length cap, .string (mkS sep)] w fun e w' => e = .returned (.string (mkS (g9 sep l))) ∧ Below w.heap.size w w' := by
  match l, hv, hn, hx, hcap with
  | [], _, _, _, _ => exact join_none sep A cap w
  | [x], hv, _, _, hcap => exact join_one sep x A cap w hv hcap
  | x :: y :: r, hv, hn, hx, hcap =>
    obtain ⟨b, off, rfl, hb, hcell⟩ := hv (by simp)
    refine join_many sep x (y :: r) b off cap w (fun j hj => ?_) hb (by simp) (by simp at hn ⊢; omega) h0 hs hx hcap
    refine hcell j _ ?_
    rw [← uR]; unfold qB
    rw [List.getElem?_map, List.getElem?_eq_getElem hj]; rfl
theorem SlT.caps {A : Option Addr} {n cap : Nat} {l : List (List UInt8)} {ob : List Blk} (h : SlT (.slice A n cap) l ob) : n = l.length ∧ l.length ≤ cap := by
  rcases h.2 with ⟨h1, h2, _⟩ | ⟨g, c, cur, h1, _, h3, _⟩
  · injection h1 with q1 q2 q3
    exact ⟨by omega, by omega⟩
  · injection h1 with q1 q2 q3
    exact ⟨q2, by omega⟩
theorem SlT.add {u : Value} {l : List (List UInt8)} {x : List UInt8} {ob : List Blk} (h : Sl 9 1 u (l.length + 1) (qB l ++ pZ x) ob) : SlT u (l ++ [x]) ob :=
  Sl.to h (by simp) (by unfold qB; rw [List.map_append]; rfl)
end
end Go.Proofs.YtkljdpiaghepfaaGreatDoor
