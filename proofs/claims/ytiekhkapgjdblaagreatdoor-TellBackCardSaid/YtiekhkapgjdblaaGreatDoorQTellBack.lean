/-
  TellBack: for every input the call returns true, and each argument reads afterwards as it read before. Conditions: none but the row's own, that the listed package-level variables read as the program's text lays them.
-/
import Derived.Test.YtiekhkapgjdblaaGreatDoorCards
import Derived.Test.YtiekhkapgjdblaaGreatDoorTie
import Derived.Test.YtiekhkapgjdblaaGreatDoorTA6

section
/-
  TellBack: for any list of numbers, any number and any byte the law returns true, and nothing that was there is changed. Condition: the library's tables read as they are laid.
-/
namespace Go.Proofs.YtiekhkapgjdblaaGreatDoor
open Go.RowKit
set_option maxRecDepth 100000
set_option linter.unusedVariables false
set_option linter.unusedSimpArgs false
set_option maxHeartbeats 2000000

theorem xor_ne {b z : UInt8} (h : ¬ (z.toNat : Int) = 0) : b ^^^ z ≠ b := fun e => by
  apply h
  have h2 : z = 0 := by
    have := congrArg (b ^^^ ·) e
    simpa [← UInt8.xor_assoc] using this
  rw [h2]; rfl
theorem turned_ne {l : List UInt8} {k : Nat} (hk : k < l.length) {c : UInt8} (h : c ≠ l[k]) : l.set k c ≠ l := fun e => by
  apply h
  have := List.getElem_set_self (l := l) (i := k) (a := c) (by rwa [List.length_set])
  rw [← this]
  exact List.getElem_of_eq e _
set_option maxHeartbeats 1000000 in
theorem tellBack.law (W : World) (x : Value) (xl : List Int) (hxl : ReadsI W W.heap.size x xl) (lxl : xl.length ≤ maxLen) (at_ : Int) (_ : (Lit.int .i64 at_).wf = true) (by_ : UInt8) (ht : HasLib W) :
    Calls Tryz.prog 5 #[x, .int .i64 at_, .int .u8 (by_.toNat : Int)] W fun e w' => e = .returned (.bool true) ∧ Below W.heap.size W w' := by
  obtain ⟨a, ea⟩ : ∃ q, q = setG xl 0 := ⟨_, rfl⟩
  have fa : SF a 22 := ea ▸ setG_sf xl 0
  obtain ⟨T, hT⟩ : ∃ T, T = zG a := ⟨_, rfl⟩
  have hTl : T.length ≤ 90000 := by have := mL fa; rw [hT]; omega
  have hT0 : 0 < T.length := by rw [hT, k9 fa]; exact List.length_pos_iff.2 (stext_ne fa.may)
  have hTz := yC T
  refine zM (n := 94) Tryz.func5 rfl (by kernel_rfl) (by kernel_rfl) (ZO (Zv (.bool false) (ZR (Zv (x) (y9 (k := 16) (args := #[x, .int .i64 0]) (fun v' L' => ∃ ob', L' = ob' ++ ([]) ∧ SetO v' (a) ob') (by kernel_rfl) (fun _ => by kernel_rfl) (fun w hO => (d6 x xl 0 w ((hxl.below hO.below).more hO.below.size) (by unfold maxLen at lxl; omega) (by omega)).mono fun e w' ⟨v', ob', k1, k2, k3⟩ => ⟨v', _, k1, ⟨ob', rfl, by rw [← ea] at k2; exact k2⟩, Own.joinN hO k3⟩) (fun v1 L1 hv1 => ?_))))))
  obtain ⟨o1, rfl, hr1⟩ := hv1
  obtain ⟨V1, U1, c1, d1, rfl⟩ := hr1.form
  refine kI (L' := o1) (List.append_nil _) (Za (.agg #[.slice none 0 0, .slice none 0 0]) (fun b1 => Zs 0 ⟨b1, #[.slice none 0 0, .slice none 0 0], 24⟩ (off := 0) (.agg #[.slice V1 ((a).rel.length) c1, .slice U1 ((a).pre.length) d1]) (ZR (Zl 0 ⟨b1, #[.slice V1 ((a).rel.length) c1, .slice U1 ((a).pre.length) d1], 24⟩ (off := 0) (.agg #[.slice V1 ((a).rel.length) c1, .slice U1 ((a).pre.length) d1]) (Zc (k := 11) (args := #[.agg #[.slice V1 ((a).rel.length) c1, .slice U1 ((a).pre.length) d1]]) (.string (mkS T)) (fun w hO => qM (by rw [show zG a = T from hT.symm]) (xN V1 U1 c1 d1 a w (SetO.inn hr1 hO (fun x hx => by simp [hx]) (fa) (by decide)) hr1.caps (ht.tab.on hO.below))) (Zv (.string (mkS T)) (zL (z7 ?_))))))))
  refine ZO (Zv (.string (mkS T)) (y9 (k := 13) (args := #[.string (mkS T)]) (fun v' L' => ∃ sv ob', v' = .tuple #[sv, .int .i64 0] ∧ L' = ob' ++ (⟨b1, #[.slice V1 ((a).rel.length) c1, .slice U1 ((a).pre.length) d1], 24⟩ :: (o1)) ∧ SetO sv (a) ob') (by kernel_rfl) (fun _ => by kernel_rfl) (fun w hO => (jU T w hTl (ht.on hO.below)).mono fun e w' ⟨v', ob', k1, k2, k3⟩ => ⟨.tuple #[v', .int .i64 0], _, k1.trans (by rw [show k6 T = 0 from by rw [hT]; exact serr_print fa]), ⟨v', ob', rfl, rfl, by rw [show (yR T).getD xV = a from by rw [hT]; exact sget_print fa] at k2; exact k2⟩, Own.joinN hO k3⟩) (fun tv L2 hv2 => ?_)))
  obtain ⟨sv2, o2, rfl, rfl, hr2⟩ := hv2
  obtain ⟨V2, U2, c2, d2, rfl⟩ := hr2.form
  refine Zv (.tuple #[.agg #[.slice V2 ((a).rel.length) c2, .slice U2 ((a).pre.length) d2], .int .i64 0]) (Zv (.agg #[.slice V2 ((a).rel.length) c2, .slice U2 ((a).pre.length) d2]) (Zv (.int .i64 0) (Za (.agg #[.slice none 0 0, .slice none 0 0]) (fun b2 => Zs 0 ⟨b2, #[.slice none 0 0, .slice none 0 0], 24⟩ (off := 0) (.agg #[.slice V2 ((a).rel.length) c2, .slice U2 ((a).pre.length) d2]) (Zv (.int .i64 0) (ZN (z8 (ZO (Zv (.int .i64 0) ?_)))))))))
  refine Zv (.bool false) (Zv (.bool false) (Zl 0 ⟨b2, #[.slice V2 ((a).rel.length) c2, .slice U2 ((a).pre.length) d2], 24⟩ (off := 0) (.agg #[.slice V2 ((a).rel.length) c2, .slice U2 ((a).pre.length) d2]) (fS ⟨b1, #[.slice V1 ((a).rel.length) c1, .slice U1 ((a).pre.length) d1], 24⟩ (off := 0) (.agg #[.slice V1 ((a).rel.length) c1, .slice U1 ((a).pre.length) d1]) (by kernel_rfl) rfl (by simp) (by kernel_rfl) (by kernel_rfl) (Zc (k := 15) (args := #[.agg #[.slice V2 ((a).rel.length) c2, .slice U2 ((a).pre.length) d2], .agg #[.slice V1 ((a).rel.length) c1, .slice U1 ((a).pre.length) d1]]) (.bool true) (fun w hO => ret_b (same8_t (rfl)) (qH V2 U2 V1 U1 c2 d2 c1 d1 a a w (SetO.inn hr2 hO (fun x hx => by simp [hx]) (fa) (by decide)) (SetO.inn hr1 hO (fun x hx => by simp [hx]) (fa) (by decide)))) (Zv (.bool false) (Zv (.bool false) (Zv (.bool false) (Zv (.string (mkS T)) (Zv (.int .i64 ((mkS T).size)) (Zd (p := ((mkS T).size : Int) = 0) false (decide_eq_false (by omega)) (Zv (.bool false) ?_)))))))))))
  refine Zv (.bool false) (Zv (.int .u8 (by_.toNat : Int)) ?_)
  by_cases h1 : (by_.toNat : Int) = 0
  · refine xO (p := (by_.toNat : Int) = 0) true (by kernel_rfl) (fun _ => by kernel_rfl) (decide_eq_true (h1)) ?_
    refine Zv (.bool true) (ZY (ZO (Zc (k := 10) (args := #[]) (.bool true) (fun w hO => gN w (ht.on hO.below)) (Zv (.bool true) (Zv (.int .i64 0) (Zv (.bool true) (Zv (.bool true) (Zv (.bool true) ?_))))))))
    exact Zl 0 ⟨b2, #[.slice V2 ((a).rel.length) c2, .slice U2 ((a).pre.length) d2], 24⟩ (off := 0) (.agg #[.slice V2 ((a).rel.length) c2, .slice U2 ((a).pre.length) d2]) (fS ⟨b1, #[.slice V1 ((a).rel.length) c1, .slice U1 ((a).pre.length) d1], 24⟩ (off := 0) (.agg #[.slice V1 ((a).rel.length) c1, .slice U1 ((a).pre.length) d1]) (by kernel_rfl) rfl (by simp) (by kernel_rfl) (by kernel_rfl) (Zc (k := 15) (args := #[.agg #[.slice V2 ((a).rel.length) c2, .slice U2 ((a).pre.length) d2], .agg #[.slice V1 ((a).rel.length) c1, .slice U1 ((a).pre.length) d1]]) (.bool true) (fun w hO => ret_b (same8_t (rfl)) (qH V2 U2 V1 U1 c2 d2 c1 d1 a a w (SetO.inn hr2 hO (fun x hx => by simp [hx]) (fa) (by decide)) (SetO.inn hr1 hO (fun x hx => by simp [hx]) (fa) (by decide)))) (Zv (.bool true) (Zv (.bool true) (ZN (zB (z6 (ZF (.bool true) Tryz.results5 (fun w hO => ⟨rfl, hO.below⟩)))))))))
  have hby := h1
  refine Zd (p := (by_.toNat : Int) = 0) false (decide_eq_false (h1)) (Zv (.bool false) (ZX (ZB (ZO (Zv (.string (mkS T)) (s_bytes (s := T) (by kernel_rfl) rfl Tryz.underlying9 Tryz.underlying35 Tryz.underlying5 (by kernel_rfl) (fun w0 w1 bc hO0 hB1 hb01 hz01 hbc => ?_)))))))
  obtain ⟨g, hg⟩ : ∃ g, g = w0.heap.size := ⟨_, rfl⟩
  rw [← hg] at hB1 ⊢
  have ht0 := ht.on hO0.below
  have hOx : Own [] W w0 (⟨b2, #[.slice V2 ((a).rel.length) c2, .slice U2 ((a).pre.length) d2], 24⟩ :: (o2 ++ (⟨b1, #[.slice V1 ((a).rel.length) c1, .slice U1 ((a).pre.length) d1], 24⟩ :: (o1)))) := hO0
  have hhb2 := hOx.held ⟨b2, #[.slice V2 ((a).rel.length) c2, .slice U2 ((a).pre.length) d2], 24⟩ (by simp)
  have hhb1 := hOx.held ⟨b1, #[.slice V1 ((a).rel.length) c1, .slice U1 ((a).pre.length) d1], 24⟩ (by simp)
  have hnV1 : SetIn w0 w0.heap.size V1 U1 a := by have hO := hOx; exact (SetO.inn hr1 hO (fun x hx => by simp [hx]) (fa) (by decide))
  have hnV2 : SetIn w0 w0.heap.size V2 U2 a := by have hO := hOx; exact (SetO.inn hr2 hO (fun x hx => by simp [hx]) (fa) (by decide))
  refine Zv (.slice (some ⟨g, 0, none⟩) T.length bc) (ZR (Zv (.int .i64 at_) (Zv (.slice (some ⟨g, 0, none⟩) T.length bc) (Zv (.int .i64 (T.length : Int)) ?_))))
  obtain ⟨kz, hkz⟩ : ∃ z, z = plc at_ (T.length : Int) := ⟨_, rfl⟩
  have hpl := t7 at_ (T.length : Int) (by omega)
  rw [← hkz] at hpl
  obtain ⟨k, hkk⟩ : ∃ k : Nat, kz = (k : Int) := ⟨kz.toNat, by omega⟩
  have hk : k < T.length := by omega
  obtain ⟨y, hy⟩ : ∃ y, T[k] = y := ⟨_, rfl⟩
  refine Zc (k := 17) (args := #[.int .i64 at_, .int .i64 (T.length : Int)]) (.int .i64 (k : Int)) (fun w _ => qM (by rw [← hkk, hkz]) ((place_any at_ (T.length : Int) w (by omega) (by omega)).mono fun e w' ⟨q1, q2⟩ => ⟨q1, q2 ▸ Below.refl _ _⟩)) (Zv (.int .i64 (k : Int)) (ZR (Zv (.slice (some ⟨g, 0, none⟩) T.length bc) (Zv (.int .i64 (k : Int)) (Zv (.slice (some ⟨g, 0, none⟩) T.length bc) (Zv (.int .i64 (k : Int)) (zK (.pointer (some ⟨g, k, none⟩)) (by kernel_rfl) (qP (b := g) (off := 0) (n := T.length) (c := bc) (k := .i64) (j := (k : Int)) (e := 5) (sz := 1) rfl (by kernel_rfl) (by kernel_rfl) (by kernel_rfl) (by kernel_rfl) (by omega) (by omega) (by show 0 + k * 1 = k; omega)) (Zo (.int .u8 (y.toNat : Int)) (a := ⟨g, k, none⟩) (fun w hO => by rw [← hy]; exact byte_load (ty := 5) (hB1.below hO) hk (by kernel_rfl)) ?_))))))))
  refine Zv (.int .u8 (by_.toNat : Int)) (zK (.int .u8 ((y ^^^ by_).toNat : Int)) (by kernel_rfl) (fun w => run_xor8 (fun _ => by kernel_rfl) rfl w) (zK (.pointer (some ⟨g, k, none⟩)) (by kernel_rfl) (qP (b := g) (off := 0) (n := T.length) (c := bc) (k := .i64) (j := (k : Int)) (e := 5) (sz := 1) rfl (by kernel_rfl) (by kernel_rfl) (by kernel_rfl) (by kernel_rfl) (by omega) (by omega) (by show 0 + k * 1 = k; omega)) ?_))
  obtain ⟨i0, e1, _, e3, _⟩ := infoU8
  refine s_poke (g := g) (k := k) (l := T) (b := y ^^^ by_) (by kernel_rfl) rfl rfl (by kernel_rfl) (by kernel_rfl) e1 e3 hB1 hk (fun w2 hB2 hb12 hz12 => ?_)
  have hb02 : Below w0.heap.size w0 w2 := hb01.trans (hg ▸ hb12)
  have hz02 : w0.heap.size ≤ w2.heap.size := Nat.le_trans (Nat.le_of_lt hz01) hz12
  obtain ⟨b9, hb0⟩ : ∃ q, q = T.set k (y ^^^ by_) := ⟨_, rfl⟩
  rw [← hb0] at hB2
  have hb9 : b9.length = T.length := by rw [hb0, List.length_set]
  have hne9 : ¬ b9 = T := by rw [hb0]; exact turned_ne hk (by rw [hy]; exact xor_ne hby)
  obtain ⟨x9, hx9⟩ : ∃ x, x = (yR b9).getD xV := ⟨_, rfl⟩
  obtain ⟨n9, hn9⟩ : ∃ n, n = k6 b9 := ⟨_, rfl⟩
  have hs9 : SF x9 100000 := by rw [hx9]; exact parse_sf (by rw [hb9]; exact hTl)
  have hn92 := err_two b9
  rw [← hn9] at hn92
  refine ZR (Zv (.slice (some ⟨g, 0, none⟩) T.length bc) (s_read (.string (mkS b9)) (by kernel_rfl) (fun w hO => run_back (g := g) (cap := bc) (l := b9) rfl Tryz.underlying35 Tryz.underlying5 Tryz.underlying9 (by rw [hb9]; kernel_rfl) (hB2.below hO)) (y9 (k := 13) (args := #[.string (mkS b9)]) (fun v' L' => ∃ sv ob', v' = .tuple #[sv, .int .i64 n9] ∧ L' = ob' ++ ([]) ∧ SetO sv (x9) ob') (by kernel_rfl) (fun _ => by kernel_rfl) (fun w hO => (jU b9 w (by rw [hb9]; exact hTl) (ht0.on (hb02.trans (hO.below.mono hz02)))).mono fun e w' ⟨v', ob', k1, k2, k3⟩ => ⟨.tuple #[v', .int .i64 n9], _, k1.trans (by rw [show k6 b9 = n9 from hn9.symm]), ⟨v', ob', rfl, rfl, by rw [show (yR b9).getD xV = x9 from hx9.symm] at k2; exact k2⟩, Own.joinN hO k3⟩) (fun tv L3 hv3 => ?_))))
  obtain ⟨sv3, o3, rfl, rfl, hr3⟩ := hv3
  obtain ⟨V3, U3, c3, d3, rfl⟩ := hr3.form
  refine kI (L' := o3) (List.append_nil _) (Zv (.tuple #[.agg #[.slice V3 ((x9).rel.length) c3, .slice U3 ((x9).pre.length) d3], .int .i64 n9]) (Zv (.agg #[.slice V3 ((x9).rel.length) c3, .slice U3 ((x9).pre.length) d3]) (Zv (.int .i64 n9) (Za (.agg #[.slice none 0 0, .slice none 0 0]) (fun b3 => Zs 0 ⟨b3, #[.slice none 0 0, .slice none 0 0], 24⟩ (off := 0) (.agg #[.slice V3 ((x9).rel.length) c3, .slice U3 ((x9).pre.length) d3]) (Zv (.int .i64 n9) (ZN (z8 (g7 (by kernel_rfl) (by kernel_rfl) (Zq (k := 10) (args := #[]) (.bool true) (fun w hO => gN w (ht0.on (hb02.trans (hO.below.mono hz02)))) ?_))))))))))
  refine Zw (.bool true) (Zw (.int .i64 n9) ?_)
  by_cases h2 : (n9 : Int) = 2
  · refine mD (p := (n9 : Int) = 2) true (by kernel_rfl) (fun _ => by kernel_rfl) (decide_eq_true (h2)) ?_
    refine Zw (.bool true) (Zj (Zj (Zj (Zj (Zj (Zj (Zj (Zj (Zj (Zj (Zj ?_)))))))))))
    exact Zj (Zj (Zj (Zj (Zw (.bool true) (Zw (.bool true) (Zw (.bool true) (xP (z7 (zB (ZF (.bool true) Tryz.results5 (fun w hO => ⟨rfl, hO0.below.trans ((hb02.trans (hO.below.mono hz02)).mono hO0.size)⟩)))))))))))
  refine Ze (p := (n9 : Int) = 2) false (decide_eq_false (h2)) (Zw (.bool false) (Zw (.int .i64 n9) (Ze (p := (n9 : Int) = 0) true (decide_eq_true (by omega)) (Zw (.bool true) (Zm 0 ⟨b3, #[.slice V3 ((x9).rel.length) c3, .slice U3 ((x9).pre.length) d3], 24⟩ (off := 0) (.agg #[.slice V3 ((x9).rel.length) c3, .slice U3 ((x9).pre.length) d3]) (p6 (.agg #[.slice V1 ((a).rel.length) c1, .slice U1 ((a).pre.length) d1]) (a := ⟨b1, 0, none⟩) (by kernel_rfl) rfl (by kernel_rfl) (fun w hO => held_load (ty := 24) (x := ⟨b1, #[.slice V1 ((a).rel.length) c1, .slice U1 ((a).pre.length) d1], 24⟩) (by kernel_rfl) hhb1 (hb02.trans (hO.below.mono hz02))) (Zq (k := 15) (args := #[.agg #[.slice V3 ((x9).rel.length) c3, .slice U3 ((x9).pre.length) d3], .agg #[.slice V1 ((a).rel.length) c1, .slice U1 ((a).pre.length) d1]]) (.bool false) (fun w hO => ret_b (same8_f (fun e => hne9 (by rw [hT, ← e, hx9]; exact (dU (by rw [← hn9]; omega)).symm))) (qH V3 U3 V1 U1 c3 d3 c1 d1 x9 a w (SetO.inn hr3 hO (fun x hx => by simp [hx]) (hs9) (by decide)) (hnV1.on (hb02.trans (hO.below.mono hz02)) (Nat.le_trans hz02 hO.size)))) (Zw (.bool true) (Zw (.bool true) (Zw (.bool true) (Zm 0 ⟨b3, #[.slice V3 ((x9).rel.length) c3, .slice U3 ((x9).pre.length) d3], 24⟩ (off := 0) (.agg #[.slice V3 ((x9).rel.length) c3, .slice U3 ((x9).pre.length) d3]) ?_)))))))))))
  refine Zq (k := 11) (args := #[.agg #[.slice V3 ((x9).rel.length) c3, .slice U3 ((x9).pre.length) d3]]) (.string (mkS (zG x9))) (fun w hO => xN V3 U3 c3 d3 x9 w (SetO.inn hr3 hO (fun x hx => by simp [hx]) (hs9) (by decide)) hr3.caps (ht0.tab.on (hb02.trans (hO.below.mono hz02)))) (Zw (.slice (some ⟨g, 0, none⟩) T.length bc) (q_read (.string (mkS b9)) (by kernel_rfl) (fun w hO => run_back (g := g) (cap := bc) (l := b9) rfl Tryz.underlying35 Tryz.underlying5 Tryz.underlying9 (by rw [hb9]; kernel_rfl) (hB2.below hO)) (kL (.bool true) (by kernel_rfl) (zI (a := (zG x9)) (b := b9) rfl (by kernel_rfl) (by kernel_rfl) (decide_eq_true (by rw [hx9]; exact dU (by rw [← hn9]; omega)))) (Zw (.bool true) (Zw (.bool true) (Zw (.bool true) (Zw (.bool true) (xP (z7 (zB (ZF (.bool true) Tryz.results5 ?_)))))))))))
  exact fun w hO => ⟨rfl, hO0.below.trans ((hb02.trans (hO.below.mono hz02)).mono hO0.size)⟩
end Go.Proofs.YtiekhkapgjdblaaGreatDoor
end

section
/-
  TellBack: for every input the call returns true, and each argument reads afterwards as it read before. Conditions: none but the row's own, that the listed package-level variables read as the program's text lays them.
-/
namespace Go.Proofs.YtiekhkapgjdblaaGreatDoor.tellBack
open Go.ChangeShapes Go.WideShapes Go.ChangeAt Go.RowKit
open Go.ChangeMaps (open_string shut_string)
set_option linter.unusedVariables false

set_option maxRecDepth 100000 in
theorem vN (H : Type) (enc : TypeId × Value → H) (W : World) (base : Nat) (args : Array Value) (ds gs : List (DataW H)) (before : List MemPlace)
    (hval : ∀ (j : Nat) t v, Tryz.f5.params[j]? = some t → args[j]? = some v → Value.okWide Tryz.prog W .any base t v)
    (hW : DataW.Whole enc Tryz.prog Tryz.f5.params.toList Rows.tellBackSpec.vars false W args.toList ds gs before) (hL : laidMetH Tryz.prog Rows.tellBackRow.laid W) (hS : W.ShapedOpen Tryz.prog) :
    Calls Tryz.prog 5 args W fun e W' => ∃ v, e = .returned v ∧ Rows.tellBackSpec.post enc Tryz.prog Tryz.f5 false true false false W args v W' := by
  have ht : HasLib W := bS (bR hL (by rfl)) hS
  have hW' := hW
  obtain ⟨p, q, hA0, hV, rfl, hfz, hnd⟩ := hW
  have hA : DataW.TrodAll enc Tryz.prog W 0 (fun _ => true) true Tryz.f5.params.toList args.toList ds p := hA0
  rw [Tryz.params5] at hA hval
  obtain ⟨v0, vs0, d0, ds0, p0, q0, hargs, rfl, rfl, h0, r0⟩ := trodAll_cons hA
  obtain ⟨v1, vs1, d1, ds1, p1, q1, rfl, rfl, rfl, h1, r1⟩ := trodAll_cons r0
  obtain ⟨v2, vs2, d2, ds2, p2, q2, rfl, rfl, rfl, h2, r2⟩ := trodAll_cons r1
  obtain ⟨rfl, rfl, rfl⟩ := trodAll_nil r2
  obtain rfl : args = #[v0, v1, v2] := by cases args; simp_all
  obtain ⟨rfl, rfl⟩ := trodVars_none hV
  obtain ⟨at_, rfl, rfl, rfl, w1⟩ := open_int Tryz.underlying3 (hval 1 3 v1 rfl rfl) h1
  obtain ⟨by_, rfl, rfl, rfl, w2⟩ := open_int Tryz.underlying5 (hval 2 5 v2 rfl rfl) h2
  clear hA0
  obtain ⟨l, l_reads, l_len⟩ := fY (hval 0 33 v0 rfl rfl) h0
  obtain ⟨by_, rfl⟩ : ∃ z : UInt8, by_ = (z.toNat : Int) := ⟨UInt8.ofNat by_.toNat, by have := bounds_u8 w2; rw [UInt8.toNat_ofNat']; omega⟩
  refine (tellBack.law W v0 l l_reads l_len at_ w1 by_ ht).mono fun e W' ⟨he, hb⟩ => ?_
  subst he
  exact ⟨_, rfl, pE pF (fun t ht => by rw [Tryz.params5] at ht; simp at ht; rcases ht with rfl | rfl | rfl <;> exact ⟨by kernel_rfl, of_decide_eq_true (by kernel_rfl)⟩) rfl rfl Tryz.underlying4 hW' (by rfl) hb⟩

noncomputable def xC (os : Os) : World :=
  { World.holding Tryz.prog os ⟨#[], #[], []⟩ with heap := gP (gP (gP (gP (gP ((World.holding Tryz.prog os ⟨#[], #[], []⟩).heap) 4 Rows.laid_math_bits_deBruijn32tab) 5 Rows.laid_math_bits_deBruijn64tab) 3 Rows.laid_internal_strconv_uint64pow10) 2 Rows.laid_unicode_utf8_acceptRanges) 1 Rows.laid_unicode_utf8_first }
theorem vK (os : Os) : laidMet Tryz.prog Rows.tellBackRow.laid ((xC os).forCall (fun _ _ => 0) ⟨#[], #[.slice none 0 0, .int .i64 0, .int .u8 0], []⟩).memory :=
  laidMet_of_run' 8 (by kernel_rfl) (by kernel_rfl)
theorem reads (os : Os) {H : Type} (enc : TypeId × Value → H) : ∃ places, DataW.whole enc Tryz.prog ((xC os).forCall (fun _ _ => 0) ⟨#[], #[.slice none 0 0, .int .i64 0, .int .u8 0], []⟩).memory Tryz.f5.params.toList Rows.tellBackSpec.vars false (#[.slice none 0 0, .int .i64 0, .int .u8 0] : Array Value).toList 8 = some ([.nil, .lit (.int .i64 0), .lit (.int .u8 0)], [], places) :=
  ⟨[], by kernel_rfl⟩

set_option maxRecDepth 100000 in
theorem dF (os : Os) (started : os.Started) (H : Type) (enc : TypeId × Value → H) (F : Stop.Interp) :
    ReturnsInHanded {} Tryz.checked os 5 .any ((OpenSpec.ofChange Rows.tellBackSpec).preRow enc Tryz.prog Tryz.f5 Rows.tellBackRow.domain false Rows.tellBackRow.laid) (((OpenSpec.ofChange Rows.tellBackSpec).at F).post enc Tryz.prog Tryz.f5 false true false false) := by
  obtain ⟨places, hx⟩ := reads os enc
  refine returnsInHanded_of_row (C := Tryz.checked) (s := OpenSpec.ofChange Rows.tellBackSpec) own started (by kernel_rfl) Tryz.func5
    (witness_row_at (enc := enc) (C := Tryz.checked) false (xC os) #[.slice none 0 0, .int .i64 0, .int .u8 0] rfl (by kernel_rfl) (by kernel_rfl) (by kernel_rfl)
      (OpenSpec.preRow_of_cond 8 hx (by kernel_rfl) (fun k hk => by cases hk) (by kernel_rfl) (vK os))) ?_
  intro W base args ds gs before hval hW _ _ _ hL hS _
  exact vN H enc W base args ds gs before hval hW hL hS

theorem said : Rows.TellBackSaid :=
  OpenClaim.holds_of_cond 5 Tryz.f5 rfl rfl rfl rfl rfl rfl rfl ⟨rfl, rfl, rfl, rfl, rfl⟩ rfl rfl rfl rfl rfl (by kernel_rfl) Tryz.func5 (by kernel_rfl)
    (of_decide_eq_true (by kernel_rfl)) (by unfold Func.isWrapper; first | (rw [if_pos (by decide +kernel)]; kernel_rfl) | (rw [if_neg (by decide +kernel)]; exact ⟨rfl, rfl⟩))
    (fun os started H enc _ F => by rw [OpenClaim.pre_eq_preRow]; exact dF os started H enc F)

theorem jY (f : FuncId) (fn : Func) (hf : Tryz.pinned.checked.prog.funcNamed "linchpin/linchpinlaw8.TellBack" = some f) (hfn : Tryz.pinned.checked.prog.funcs[f]? = some fn) :
    false = Tryz.pinned.checked.prog.looks [] ∧ ∀ (j : Nat) t, fn.params[j]? = some t → Tryz.pinned.checked.prog.wantsStandIn t = false := by
  obtain rfl : f = 5 := Option.some.inj ((show Tryz.prog.funcNamed "linchpin/linchpinlaw8.TellBack" = some 5 by kernel_rfl).symm.trans hf) |>.symm
  obtain rfl : fn = Tryz.f5 := (Option.some.inj (Tryz.func5.symm.trans hfn)).symm
  refine ⟨by kernel_rfl, fun j t ht => ?_⟩
  rw [Tryz.params5] at ht
  have hm := Array.mem_of_getElem? ht
  simp at hm
  rcases hm with rfl | rfl | rfl
  · exact (show Tryz.prog.wantsStandIn 33 = false by kernel_rfl)
  · exact (show Tryz.prog.wantsStandIn 3 = false by kernel_rfl)
  · exact (show Tryz.prog.wantsStandIn 5 = false by kernel_rfl)

theorem card : Rows.TellBackCardSaid :=
  Claim7.holds_tied_plain_at .later [] _ _ _ _ said (fun _ h => by cases h) (by kernel_rfl) (fun _ h => by cases h) tellBack_row_tie rfl ⟨rfl, rfl⟩ (by kernel_rfl) rfl jY (by kernel_rfl)

#print axioms card
end Go.Proofs.YtiekhkapgjdblaaGreatDoor.tellBack
end
