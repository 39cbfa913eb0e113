/-
  A parameter that is a version: what it is, out of the row's own conditions. And: a slice of ints that came in reads as a list.
-/
import Derived.Test.YtdkdghbmeoeliaaDoorLawKit
import Derived.Test.YtdkdghbmeoeliaaDoorVer2
import Derived.Deep.Fields
namespace Go.Proofs.YtdkdghbmeoeliaaDoor
open Go.ChangeShapes Go.WideShapes Go.ChangeAt Go.RowKit Go.Deep

def i64wf (n : Int) : Prop := (Lit.int .i64 n).wf = true
/-- The version as a value. -/
def verVal (a b c : Int) (p q : ByteArray) : Value := .agg #[.int .i64 a, .int .i64 b, .int .i64 c, .string p, .string q]
theorem verCells : Tryd.prog.cellsOf 24 = 5 := by kernel_rfl

set_option maxRecDepth 100000 in
theorem open_ver {H : Type} {enc : TypeId × Value → H} {W : World} {base : Nat} {v : Value} {d : DataW H} {ps : List MemPlace} (hval : Value.okWide Tryd.prog W .any base 24 v)
    (h : DataW.Trod enc Tryd.prog W 0 (fun _ => true) true 24 v d ps) :
    ∃ (a b c : Int) (p q : ByteArray), v = verVal a b c p q ∧ i64wf a ∧ i64wf b ∧ i64wf c ∧ p.size ≤ maxLen ∧ q.size ≤ maxLen := by
  obtain ⟨cs, rfl, hsz⟩ := okWide_struct Tryd.underlying24 hval
  rw [verCells] at hsz
  obtain ⟨fuel, hf⟩ := h
  obtain ⟨xs, n, _, _, _, hxl, hg⟩ := DataW.trod_struct Tryd.underlying24 hf
  obtain ⟨l⟩ := cs
  match l, hsz with
  | [c0, c1, c2, c3, c4], _ =>
    have k3 : Tryd.prog.cellsOf 3 = 1 := by kernel_rfl
    have k9 : Tryd.prog.cellsOf 9 = 1 := strCells1
    have g : ∀ i, i < 5 → ∃ y, xs[i]? = some y := fun i hi => ⟨_, List.getElem?_eq_getElem (by rw [hxl]; exact hi)⟩
    obtain ⟨y0, e0⟩ := g 0 (by omega)
    obtain ⟨y1, e1⟩ := g 1 (by omega)
    obtain ⟨y2, e2⟩ := g 2 (by omega)
    obtain ⟨y3, e3⟩ := g 3 (by omega)
    obtain ⟨y4, e4⟩ := g 4 (by omega)
    have f0 := (hg 0 _ rfl).trans e0
    have f1 := (hg 1 _ rfl).trans e1
    have f2 := (hg 2 _ rfl).trans e2
    have f3 := (hg 3 _ rfl).trans e3
    have f4 := (hg 4 _ rfl).trans e4
    obtain ⟨a, ha, _, wa⟩ := DataW.trod_int Tryd.underlying3 f0
    obtain ⟨b, hb, _, wb⟩ := DataW.trod_int Tryd.underlying3 f1
    obtain ⟨c, hc, _, wc⟩ := DataW.trod_int Tryd.underlying3 f2
    obtain ⟨p, hp, _, wp⟩ := DataW.trod_string Tryd.underlying9 f3
    obtain ⟨q, hq, _, wq⟩ := DataW.trod_string Tryd.underlying9 f4
    have ha2 : List.take (Tryd.prog.cellsOf 3) (List.drop 0 [c0, c1, c2, c3, c4]) = [.int .i64 a] := ha
    rw [k3] at ha2
    have z0 : c0 = .int .i64 a := List.singleton_inj.1 ha2
    have hb2 : List.take (Tryd.prog.cellsOf 3) (List.drop 1 [c0, c1, c2, c3, c4]) = [.int .i64 b] := hb
    rw [k3] at hb2
    have z1 : c1 = .int .i64 b := List.singleton_inj.1 hb2
    have hc2 : List.take (Tryd.prog.cellsOf 3) (List.drop 2 [c0, c1, c2, c3, c4]) = [.int .i64 c] := hc
    rw [k3] at hc2
    have z2 : c2 = .int .i64 c := List.singleton_inj.1 hc2
    have hp2 : List.take (Tryd.prog.cellsOf 9) (List.drop 3 [c0, c1, c2, c3, c4]) = [.string p] := hp
    rw [k9] at hp2
    have z3 : c3 = .string p := List.singleton_inj.1 hp2
    have hq2 : List.take (Tryd.prog.cellsOf 9) (List.drop 4 [c0, c1, c2, c3, c4]) = [.string q] := hq
    rw [k9] at hq2
    have z4 : c4 = .string q := List.singleton_inj.1 hq2
    subst z0 z1 z2 z3 z4
    exact ⟨a, b, c, p, q, rfl, wa, wb, wc, wp, wq⟩
end Go.Proofs.YtdkdghbmeoeliaaDoor
