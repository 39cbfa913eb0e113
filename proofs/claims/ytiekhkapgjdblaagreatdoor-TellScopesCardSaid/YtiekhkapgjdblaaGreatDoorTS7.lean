/-
  What the statements' proofs lean on, part 7: each part begins with a remark that says what it proves and on what conditions.
-/
import Derived.ChangeArms
import Derived.Deep.Fields
import Derived.Test.YtiekhkapgjdblaaGreatDoorTS6

section
/-
  Parameters that are versions, cuts or spans: what they are, out of the row's own conditions.
-/
namespace Go.Proofs.YtiekhkapgjdblaaGreatDoor
open Go.ChangeShapes Go.WideShapes Go.ChangeAt Go.RowKit Go.Deep
set_option maxRecDepth 100000
set_option linter.unusedVariables false
set_option linter.unusedSimpArgs false

theorem mk_self (p : ByteArray) : mkS p.data.toList = p := by unfold mkS; simp
def Ver.wide (v : Ver) : Prop := v.pre.length ≤ maxLen ∧ v.build.length ≤ maxLen
def Ver.i64 (v : Ver) : Prop := ((-9223372036854775808 ≤ v.maj ∧ v.maj ≤ 9223372036854775807) ∧ (-9223372036854775808 ≤ v.min ∧ v.min ≤ 9223372036854775807)) ∧ (-9223372036854775808 ≤ v.pat ∧ v.pat ≤ 9223372036854775807)
theorem wf_i64 {a : Int} (h : (Lit.int .i64 a).wf = true) : -9223372036854775808 ≤ a ∧ a ≤ 9223372036854775807 := bounds_i64 h
section
variable {H : Type} {enc : TypeId × Value → H} {W : World}
theorem mI {fuel : Nat} {cs : List Value} {x : DataW H × List MemPlace} (h : DataW.trod enc Tryz.prog W 0 (fun _ => true) true fuel 3 cs = some x) : ∃ a, cs = [.int .i64 a] ∧ (-9223372036854775808 ≤ a ∧ a ≤ 9223372036854775807) := by
  obtain ⟨a, e, _, hw⟩ := DataW.trod_int Tryz.underlying3 h
  exact ⟨a, e, wf_i64 hw⟩
theorem cells_str {fuel : Nat} {cs : List Value} {x : DataW H × List MemPlace} (h : DataW.trod enc Tryz.prog W 0 (fun _ => true) true fuel 9 cs = some x) : ∃ p : List UInt8, cs = [.string (mkS p)] ∧ p.length ≤ maxLen := by
  obtain ⟨p, e, _, hw⟩ := DataW.trod_string Tryz.underlying9 h
  exact ⟨p.data.toList, by rw [mk_self]; exact e, by rw [len_data]; exact hw⟩
theorem cells_bool {fuel : Nat} {cs : List Value} {x : DataW H × List MemPlace} (h : DataW.trod enc Tryz.prog W 0 (fun _ => true) true fuel 4 cs = some x) : ∃ a, cs = [.bool a] := by
  obtain ⟨a, e, _⟩ := DataW.trod_bool Tryz.underlying4 h
  exact ⟨a, e⟩
theorem size_int : Tryz.prog.cellsOf 3 = 1 := by kernel_rfl
theorem size_str : Tryz.prog.cellsOf 9 = 1 := by kernel_rfl
theorem size_bool : Tryz.prog.cellsOf 4 = 1 := by kernel_rfl
theorem size_ver : Tryz.prog.cellsOf 70 = 5 := by kernel_rfl
theorem size_cut : Tryz.prog.cellsOf 72 = 7 := by kernel_rfl
theorem size_span : Tryz.prog.cellsOf 74 = 14 := by kernel_rfl
set_option maxRecDepth 100000 in
theorem cells_ver {fuel : Nat} {cs : List Value} {x : DataW H × List MemPlace} (h : DataW.trod enc Tryz.prog W 0 (fun _ => true) true fuel 70 cs = some x) : ∃ v : Ver, cs = (yK v).cells.toList ∧ v.wide ∧ v.i64 := by
  obtain ⟨xs, n, _, _, hl, hxl, hg⟩ := DataW.trod_struct Tryz.underlying70 h
  rw [size_ver] at hl
  match cs, hl with
  | [c0, c1, c2, c3, c4], _ =>
    have g : ∀ i, i < 5 → ∃ y, xs[i]? = some y := fun i hi => ⟨_, List.getElem?_eq_getElem (by rw [hxl]; exact hi)⟩
    obtain ⟨y0, e0⟩ := g 0 (by omega)
    obtain ⟨y1, e1⟩ := g 1 (by omega)
    obtain ⟨y2, e2⟩ := g 2 (by omega)
    obtain ⟨y3, e3⟩ := g 3 (by omega)
    obtain ⟨y4, e4⟩ := g 4 (by omega)
    obtain ⟨a, ha, wa⟩ := mI ((hg 0 _ rfl).trans e0)
    obtain ⟨b, hb, wb⟩ := mI ((hg 1 _ rfl).trans e1)
    obtain ⟨c, hc, wc⟩ := mI ((hg 2 _ rfl).trans e2)
    obtain ⟨p, hp, wp⟩ := cells_str ((hg 3 _ rfl).trans e3)
    obtain ⟨q, hq, wq⟩ := cells_str ((hg 4 _ rfl).trans e4)
    have ha2 : List.take (Tryz.prog.cellsOf 3) (List.drop 0 [c0, c1, c2, c3, c4]) = _ := ha
    have hb2 : List.take (Tryz.prog.cellsOf 3) (List.drop 1 [c0, c1, c2, c3, c4]) = _ := hb
    have hc2 : List.take (Tryz.prog.cellsOf 3) (List.drop 2 [c0, c1, c2, c3, c4]) = _ := hc
    have hp2 : List.take (Tryz.prog.cellsOf 9) (List.drop 3 [c0, c1, c2, c3, c4]) = _ := hp
    have hq2 : List.take (Tryz.prog.cellsOf 9) (List.drop 4 [c0, c1, c2, c3, c4]) = _ := hq
    rw [size_int] at ha2 hb2 hc2
    rw [size_str] at hp2 hq2
    obtain rfl : c0 = _ := List.singleton_inj.1 ha2
    obtain rfl : c1 = _ := List.singleton_inj.1 hb2
    obtain rfl : c2 = _ := List.singleton_inj.1 hc2
    obtain rfl : c3 = _ := List.singleton_inj.1 hp2
    obtain rfl : c4 = _ := List.singleton_inj.1 hq2
    exact ⟨⟨a, b, c, p, q⟩, rfl, ⟨wp, wq⟩, ⟨⟨wa, wb⟩, wc⟩⟩
def Cu.wide (c : Cu) : Prop := c.v.wide ∧ c.v.i64 ∧ (-9223372036854775808 ≤ c.e ∧ c.e ≤ 9223372036854775807)
set_option maxRecDepth 100000 in
theorem cells_cut {fuel : Nat} {cs : List Value} {x : DataW H × List MemPlace} (h : DataW.trod enc Tryz.prog W 0 (fun _ => true) true fuel 72 cs = some x) : ∃ c : Cu, cs = (zC c).cells.toList ∧ c.wide := by
  obtain ⟨xs, n, _, _, hl, hxl, hg⟩ := DataW.trod_struct Tryz.underlying72 h
  rw [size_cut] at hl
  match cs, hl with
  | [c0, c1, c2, c3, c4, c5, c6], _ =>
    have g : ∀ i, i < 3 → ∃ y, xs[i]? = some y := fun i hi => ⟨_, List.getElem?_eq_getElem (by rw [hxl]; exact hi)⟩
    obtain ⟨y0, e0⟩ := g 0 (by omega)
    obtain ⟨y1, e1⟩ := g 1 (by omega)
    obtain ⟨y2, e2⟩ := g 2 (by omega)
    obtain ⟨a, ha, wa⟩ := mI ((hg 0 _ rfl).trans e0)
    obtain ⟨v, hv, w1, w2⟩ := cells_ver ((hg 1 _ rfl).trans e1)
    obtain ⟨b, hb⟩ := cells_bool ((hg 2 _ rfl).trans e2)
    have ha2 : List.take (Tryz.prog.cellsOf 3) (List.drop 0 [c0, c1, c2, c3, c4, c5, c6]) = _ := ha
    have hv2 : List.take (Tryz.prog.cellsOf 70) (List.drop 1 [c0, c1, c2, c3, c4, c5, c6]) = _ := hv
    have hb2 : List.take (Tryz.prog.cellsOf 4) (List.drop 6 [c0, c1, c2, c3, c4, c5, c6]) = _ := hb
    rw [size_int] at ha2
    rw [size_ver] at hv2
    rw [size_bool] at hb2
    obtain rfl : c0 = _ := List.singleton_inj.1 ha2
    obtain rfl : c6 = _ := List.singleton_inj.1 hb2
    have hv3 : [c1, c2, c3, c4, c5] = (yK v).cells.toList := hv2
    refine ⟨⟨a, v, b⟩, ?_, w1, w2, wa⟩
    show .int .i64 a :: ([c1, c2, c3, c4, c5] ++ [.bool b]) = _
    rw [hv3]; rfl
def Sp.wide (s : Sp) : Prop := s.lo.wide ∧ s.hi.wide
set_option maxRecDepth 100000 in
theorem cells_span {fuel : Nat} {cs : List Value} {x : DataW H × List MemPlace} (h : DataW.trod enc Tryz.prog W 0 (fun _ => true) true fuel 74 cs = some x) : ∃ s : Sp, cs = (zM s).cells.toList ∧ s.wide := by
  obtain ⟨xs, n, _, _, hl, hxl, hg⟩ := DataW.trod_struct Tryz.underlying74 h
  rw [size_span] at hl
  have g : ∀ i, i < 2 → ∃ y, xs[i]? = some y := fun i hi => ⟨_, List.getElem?_eq_getElem (by rw [hxl]; exact hi)⟩
  obtain ⟨y0, e0⟩ := g 0 (by omega)
  obtain ⟨y1, e1⟩ := g 1 (by omega)
  obtain ⟨a, ha, wa⟩ := cells_cut ((hg 0 _ rfl).trans e0)
  obtain ⟨b, hb, wb⟩ := cells_cut ((hg 1 _ rfl).trans e1)
  have ha2 : List.take (Tryz.prog.cellsOf 72) (List.drop 0 cs) = _ := ha
  have hb2 : List.take (Tryz.prog.cellsOf 72) (List.drop 7 cs) = _ := hb
  rw [size_cut] at ha2 hb2
  refine ⟨⟨a, b⟩, ?_, wa, wb⟩
  have e : cs = List.take 7 (List.drop 0 cs) ++ List.take 7 (List.drop 7 cs) := by
    rw [List.drop_zero, List.take_of_length_le (show (List.drop 7 cs).length ≤ 7 by rw [List.length_drop, hl]; decide), List.take_append_drop]
  rw [e, ha2, hb2]; rfl
theorem nQ {v : Value} {cs : Array Value} {l : List Value} (h : v = .agg cs) (e : v.cells.toList = l) : v = .agg l.toArray := by
  subst h
  have : cs.toList = l := e
  rw [← this]
theorem open_verV {base : Nat} {v : Value} {d : DataW H} {ps : List MemPlace} (hval : Value.okWide Tryz.prog W .any base 70 v) (h : DataW.Trod enc Tryz.prog W 0 (fun _ => true) true 70 v d ps) : ∃ u : Ver, v = yK u ∧ u.wide ∧ u.i64 := by
  obtain ⟨cs, hc, _⟩ := okWide_struct Tryz.underlying70 hval
  obtain ⟨fuel, hf⟩ := h
  obtain ⟨u, e, w1, w2⟩ := cells_ver hf
  exact ⟨u, (nQ hc e).trans rfl, w1, w2⟩
theorem open_cutV {base : Nat} {v : Value} {d : DataW H} {ps : List MemPlace} (hval : Value.okWide Tryz.prog W .any base 72 v) (h : DataW.Trod enc Tryz.prog W 0 (fun _ => true) true 72 v d ps) : ∃ u : Cu, v = zC u ∧ u.wide := by
  obtain ⟨cs, hc, _⟩ := okWide_struct Tryz.underlying72 hval
  obtain ⟨fuel, hf⟩ := h
  obtain ⟨u, e, w1⟩ := cells_cut hf
  exact ⟨u, (nQ hc e).trans rfl, w1⟩
theorem open_spanV {base : Nat} {v : Value} {d : DataW H} {ps : List MemPlace} (hval : Value.okWide Tryz.prog W .any base 74 v) (h : DataW.Trod enc Tryz.prog W 0 (fun _ => true) true 74 v d ps) : ∃ u : Sp, v = zM u ∧ u.wide := by
  obtain ⟨cs, hc, _⟩ := okWide_struct Tryz.underlying74 hval
  obtain ⟨fuel, hf⟩ := h
  obtain ⟨u, e, w1⟩ := cells_span hf
  exact ⟨u, (nQ hc e).trans rfl, w1⟩
end
end Go.Proofs.YtiekhkapgjdblaaGreatDoor
end
