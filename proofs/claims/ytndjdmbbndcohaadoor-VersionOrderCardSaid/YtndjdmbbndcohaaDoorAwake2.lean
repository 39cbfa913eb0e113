/-
  linchpinlaw2's awake: it returns true, and changes nothing that was there. Condition: the library's table of powers of ten reads as it is laid.
-/
import Derived.Test.YtndjdmbbndcohaaDoorVBump
import Derived.Test.YtndjdmbbndcohaaDoorVCmp2
import Derived.Outline
namespace Go.Proofs.YtndjdmbbndcohaaDoor
open Go.RowKit
theorem cells5' {w : World} {B : Nat} {a b c d e : Value} (h : w.heap[B]? = some (.cells #[a, b, c, d, e] 24)) : w.cell? ⟨B, 0, none⟩ = some a ∧ w.cell? ⟨B, 1, none⟩ = some b ∧ w.cell? ⟨B, 2, none⟩ = some c ∧ w.cell? ⟨B, 3, none⟩ = some d ∧ w.cell? ⟨B, 4, none⟩ = some e :=
  ⟨cell_of_row w B 0 _ _ _ h, cell_of_row w B 1 _ _ _ h, cell_of_row w B 2 _ _ _ h, cell_of_row w B 3 _ _ _ h, cell_of_row w B 4 _ _ _ h⟩

def aw0 : List UInt8 := [49, 46, 50, 46, 51, 45, 114, 99, 46, 49, 43, 55]
def awV : Ver := ⟨1, 2, 3, [114, 99, 46, 49], [55]⟩
theorem awParse : parseR aw0 = some awV := by decide +kernel
theorem awText : awV.print = aw0 := by
  obtain ⟨hm, ht⟩ := parseR_back awParse
  rw [print_eq hm]; exact ht
theorem aw_p0 (w : World) (ht : HasTab w) : Calls Tryd.prog 14 #[.string ⟨#[49, 46, 50, 46, 51, 45, 114, 99, 46, 49, 43, 55]⟩] w fun e w' => e = .returned (.tuple #[.agg #[.int .i64 1, .int .i64 2, .int .i64 3, .string ⟨#[114, 99, 46, 49]⟩, .string ⟨#[55]⟩], .int .i64 0]) ∧ Below w.heap.size w w' := by
  have h := parse_any aw0 w (by decide) ht
  have e1 : parV aw0 = awV := by unfold parV; rw [awParse]; rfl
  have e2 : parE aw0 = 0 := by unfold parE; rw [awParse]; rfl
  rw [e1, e2] at h
  exact h
theorem aw_p1 (w : World) (ht : HasTab w) : Calls Tryd.prog 14 #[.string ⟨#[49, 46, 50, 46, 51]⟩] w fun e w' => e = .returned (.tuple #[.agg #[.int .i64 1, .int .i64 2, .int .i64 3, .string ⟨#[]⟩, .string ⟨#[]⟩], .int .i64 0]) ∧ Below w.heap.size w w' := by
  have h := parse_any [49, 46, 50, 46, 51] w (by decide) ht
  have e0 : parseR [49, 46, 50, 46, 51] = some (Ver.rel 1 2 3) := by decide +kernel
  have e1 : parV [49, 46, 50, 46, 51] = Ver.rel 1 2 3 := by unfold parV; rw [e0]; rfl
  have e2 : parE [49, 46, 50, 46, 51] = 0 := by unfold parE; rw [e0]; rfl
  rw [e1, e2] at h
  exact h
theorem aw_p2 (w : World) (ht : HasTab w) : Calls Tryd.prog 14 #[.string ⟨#[49, 46, 48, 50, 46, 51]⟩] w fun e w' => e = .returned (.tuple #[.agg #[.int .i64 0, .int .i64 0, .int .i64 0, .string ⟨#[]⟩, .string ⟨#[]⟩], .int .i64 5]) ∧ Below w.heap.size w w' := by
  have h := parse_any [49, 46, 48, 50, 46, 51] w (by decide) ht
  have e0 : parseR [49, 46, 48, 50, 46, 51] = none := by decide +kernel
  have e1 : parV [49, 46, 48, 50, 46, 51] = Ver.zero := by unfold parV; rw [e0]; rfl
  have e2 : parE [49, 46, 48, 50, 46, 51] = 5 := by unfold parE; rw [e0]; rfl
  rw [e1, e2] at h
  exact h
theorem aw_next (w : World) : Calls Tryd.prog 15 #[.agg #[.int .i64 1, .int .i64 2, .int .i64 3, .string ⟨#[114, 99, 46, 49]⟩, .string ⟨#[55]⟩]] w fun e w' => e = .returned (.tuple #[.agg #[.int .i64 1, .int .i64 2, .int .i64 3, .string ⟨#[]⟩, .string ⟨#[]⟩], .bool true]) ∧ Below w.heap.size w w' := by
  have h := vnext_any awV w (by decide) (by decide)
  have e1 : nextV awV = Ver.rel 1 2 3 := by decide +kernel
  have e2 : nextOk awV = true := by decide +kernel
  rw [e1, e2] at h
  exact h
theorem aw_print (w : World) (ht : HasTab w) : Calls Tryd.prog 16 #[.agg #[.int .i64 1, .int .i64 2, .int .i64 3, .string ⟨#[114, 99, 46, 49]⟩, .string ⟨#[55]⟩]] w fun e w' => e = .returned (.string ⟨#[49, 46, 50, 46, 51, 45, 114, 99, 46, 49, 43, 55]⟩) ∧ Below w.heap.size w w' := by
  have h := vprint_any awV w (by decide) (by decide) ht
  rw [awText] at h
  exact h
theorem aw_cmp (w : World) : Calls Tryd.prog 6 #[.agg #[.int .i64 1, .int .i64 2, .int .i64 3, .string ⟨#[114, 99, 46, 49]⟩, .string ⟨#[55]⟩], .agg #[.int .i64 1, .int .i64 2, .int .i64 3, .string ⟨#[]⟩, .string ⟨#[]⟩]] w fun e w' => e = .returned (.int .i64 (-1)) ∧ Below w.heap.size w w' := by
  have h := vcompare_any awV (Ver.rel 1 2 3) w (by decide) (by decide) (by decide) (by decide)
  have e1 : cmpR awV (Ver.rel 1 2 3) = -1 := by decide +kernel
  rw [e1] at h
  exact h

set_option maxHeartbeats 8000000 in
set_option maxRecDepth 100000 in
theorem awake_any (w : World) (ht : HasTab w) :
    Calls Tryd.prog 7 #[] w fun e w' => e = .returned (.bool true) ∧ Below w.heap.size w w' := by
  go_enter Tryd.func7, Tryd.ntmps7
  go_wp2_with fail
  refine (aw_p0 _ ht).mono ?_
  rintro e w1 ⟨rfl, hb1⟩
  have B1 : Below w.heap.size w (w1.alloc (.cells #[.int .i64 1, .int .i64 2, .int .i64 3, .string ⟨#[114, 99, 46, 49]⟩, .string ⟨#[55]⟩] 24)) := hb1.alloc hb1.size _
  go_wp2_with fail
  refine (aw_p1 _ (ht.on B1)).mono ?_
  rintro e w2 ⟨rfl, hb2⟩
  have hg1 := (hb2.block w1.heap.size (by rw [size_box]; omega)).trans (heap_new w1 _)
  have hz2 := hb2.size
  rw [size_box] at hz2
  have B2 : Below w.heap.size w w2 := B1.trans (hb2.mono (by rw [size_box]; have := hb1.size; omega))
  have HG1 := Lib.hid hg1
  clear hg1
  go_wp2_with (first | (refine wpList_load_row rfl 24 _ rfl w1.heap.size rfl _ _ _ _ ((heap_old _ _ (by omega)).trans HG1.out) Tryd.underlying24 rfl (by kernel_rfl) ?_) | fail)
  refine (aw_next _).mono ?_
  rintro e w3 ⟨rfl, hb3⟩
  have hz3 := hb3.size
  rw [size_box] at hz3
  have hg1 := (hb3.block w1.heap.size (by rw [size_box]; omega)).trans ((heap_old _ _ (by omega)).trans HG1.out)
  have hg2 := (hb3.block w2.heap.size (by rw [size_box]; omega)).trans (heap_new w2 _)
  have B3 : Below w.heap.size w w3 := (B2.alloc B2.size _).trans (hb3.mono (by rw [size_box]; have := B2.size; omega))
  have HG13 := Lib.hid hg1
  have HG23 := Lib.hid hg2
  clear hg1 hg2 HG1
  go_wp2_with fail
  refine (aw_p2 _ (ht.on (B3.alloc B3.size _))).mono ?_
  rintro e w4 ⟨rfl, hb4⟩
  have hz4 := hb4.size
  rw [size_box] at hz4
  have hg1 := (hb4.block w1.heap.size (by rw [size_box]; omega)).trans ((heap_old _ _ (by omega)).trans HG13.out)
  have hg2 := (hb4.block w2.heap.size (by rw [size_box]; omega)).trans ((heap_old _ _ (by omega)).trans HG23.out)
  have hg3 := (hb4.block w3.heap.size (by rw [size_box]; omega)).trans (heap_new w3 _)
  have B4 : Below w.heap.size w w4 := (B3.alloc B3.size _).trans (hb4.mono (by rw [size_box]; have := B3.size; omega))
  have HG14 := Lib.hid hg1
  have HG24 := Lib.hid hg2
  have HG34 := Lib.hid hg3
  obtain ⟨a0, a1, a2, a3, a4⟩ := cells5' hg1
  have l1 : w1.heap.size < w4.heap.size := by omega
  have l2 : w2.heap.size < w4.heap.size := by omega
  have l3 : w3.heap.size < w4.heap.size := by omega
  clear hg1 hg2 hg3 HG13 HG23 hb1 hb2 hb3 hb4
  go_wp2_with fail
  refine (aw_print _ (ht.on (B4.alloc B4.size _))).mono ?_
  rintro e w5 ⟨rfl, hb5⟩
  have hz5 := hb5.size
  rw [size_box] at hz5
  have hg1 := (hb5.block w1.heap.size (by rw [size_box]; omega)).trans ((heap_old _ _ (by omega)).trans HG14.out)
  have hg2 := (hb5.block w2.heap.size (by rw [size_box]; omega)).trans ((heap_old _ _ (by omega)).trans HG24.out)
  have hg3 := (hb5.block w3.heap.size (by rw [size_box]; omega)).trans ((heap_old _ _ (by omega)).trans HG34.out)
  have B5 : Below w.heap.size w w5 := (B4.alloc B4.size _).trans (hb5.mono (by rw [size_box]; have := B4.size; omega))
  obtain ⟨b0, b1, b2, b3, b4⟩ := cells5' hg1
  obtain ⟨c0, c1, c2, c3, c4⟩ := cells5' hg2
  have HG15 := Lib.hid hg1
  have HG25 := Lib.hid hg2
  have HG35 := Lib.hid hg3
  clear hg1 hg2 hg3 HG14 HG24 HG34 hb5
  go_wp2_with fail
  refine (aw_cmp _).mono ?_
  rintro e w6 ⟨rfl, hb6⟩
  have hg2 := (hb6.block w2.heap.size (by omega)).trans HG25.out
  have hg3 := (hb6.block w3.heap.size (by omega)).trans HG35.out
  obtain ⟨d0, d1, d2, d3, d4⟩ := cells5' hg2
  obtain ⟨e0, e1, e2, e3, e4⟩ := cells5' hg3
  have B6 : Below w.heap.size w w6 := B5.trans (hb6.mono B5.size)
  clear hg2 hg3 hb6
  go_wp2
  go_ret
  exact ⟨rfl, B6⟩
end Go.Proofs.YtndjdmbbndcohaaDoor
