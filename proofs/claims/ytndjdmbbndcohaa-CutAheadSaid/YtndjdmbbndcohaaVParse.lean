/-
  Package version: Parse: it returns the version that the document's own reading (parseR) finds, and OK; or the zero version and ErrVersion; nothing that was there is changed. Conditions: a string of at most a million bytes; the library's table of powers of ten reads as it is laid.
-/
import Derived.Test.YtndjdmbbndcohaaVPrint
namespace Go.Proofs.Ytndjdmbbndcohaa
open Go.RowKit

def parV (s : List UInt8) : Ver := (parseR s).getD Ver.zero
def parE (s : List UInt8) : Int := if (parseR s).isSome then 0 else 5
theorem mkS_ne {a b : List UInt8} (h : a ≠ b) : ((mkS a).toList == (mkS b).toList) = false := by
  rw [Lib.toList_data, Lib.toList_data, mk_data, mk_data]; simpa using h
theorem mkS_eq {a b : List UInt8} (h : a = b) : ((mkS a).toList == (mkS b).toList) = true := by
  subst h; simp
theorem par_hit {s : List UInt8} (h : (guess s).print = s) : parV s = guess s ∧ parE s = 0 := by
  have := parse_eq s
  unfold parseI at this
  rw [if_pos h] at this
  unfold parV parE
  rw [← this]; exact ⟨rfl, rfl⟩
theorem par_miss {s : List UInt8} (h : ¬ (guess s).print = s) : parV s = Ver.zero ∧ parE s = 5 := by
  have := parse_eq s
  unfold parseI at this
  rw [if_neg h] at this
  unfold parV parE
  rw [← this]; exact ⟨rfl, rfl⟩
def PEnd (s : List UInt8) (w : World) (e : Ending) (w' : World) : Prop := e = .returned (.tuple #[verV (parV s), .int .i64 (parE s)]) ∧ Below w.heap.size w w'

theorem ver_one (a b c : Int) (p q : ByteArray) : (#[.int .i64 a, .int .i64 b, .int .i64 c, .string p, .string q] : Array Value).all (·.oneCell') = true := by simp [Value.oneCell']
theorem set34 {w1 : World} {B : Nat} {a b c x0 y0 : Value} (x y : Value) (hg : w1.heap[B]? = some (.cells #[a, b, c, x0, y0] 23)) :
    ((w1.setCell ⟨B, 3, none⟩ x).setCell ⟨B, 4, none⟩ y).heap[B]? = some (.cells #[a, b, c, x, y] 23) ∧ ∀ k, B ≠ k → ((w1.setCell ⟨B, 3, none⟩ x).setCell ⟨B, 4, none⟩ y).heap[k]? = w1.heap[k]? := by
  have e3 := setCell_eq_setRow w1 B 3 _ _ _ x hg
  have hq3 := setRow_heap w1 B _ #[a, b, c, x, y0] _ _ hg
  have e4 := setCell_eq_setRow _ B 4 _ _ _ y hq3
  have hwv : (w1.setCell ⟨B, 3, none⟩ x).setCell ⟨B, 4, none⟩ y = (w1.setRow B #[a, b, c, x, y0]).setRow B #[a, b, c, x, y] := by rw [e3]; exact e4
  rw [hwv]
  exact ⟨setRow_heap _ _ _ _ _ _ hq3, fun k hk => by rw [setRow_other _ _ _ _ hk, setRow_other _ _ _ _ hk]⟩

theorem core_any (v : Ver) (w : World) (hp : v.pre.length ≤ 1000000) :
    Calls Try.prog 23 #[verV v] w fun e w' => e = .returned (verV { v with build := [] }) ∧ Below w.heap.size w w' := by
  obtain ⟨a, b, c, p, q⟩ := v
  unfold verV
  dsimp only at hp ⊢
  go_enter Try.func23, Try.ntmps23
  go_wp2_with fail
  refine (clone_any (mkS p) _ (by rw [mkS_sz]; omega)).mono ?_
  rintro e w1 ⟨rfl, hb1⟩
  have hz1 := hb1.size
  simp only [size_box] at hz1
  have hgB := Lib.hid ((hb1.block w.heap.size (by simp only [size_box]; omega)).trans ((heap_old _ _ (by simp only [size_box]; omega)).trans (heap_new w _)))
  have hgR := Lib.hid ((hb1.block (w.heap.size + 1) (by simp only [size_box]; omega)).trans (heap_at _ _ _ (by simp only [size_box])))
  have hbw : Below w.heap.size w w1 := (((Below.refl _ _).alloc (Nat.le_refl _) _).alloc (by simp only [size_box]; omega) _).trans (hb1.mono (by simp only [size_box]; omega))
  obtain ⟨c3, f3⟩ := cell_row (j := 3) hgB.out (by simp)
  obtain ⟨c4, f4⟩ := cell_row (j := 4) hgB.out (by simp)
  obtain ⟨hL, hO⟩ := set34 (.string (mkS p)) (.string ⟨#[]⟩) hgB.out
  have HL := Lib.hid hL
  have HL0 := Lib.hid ((hO (w.heap.size + 1) (by omega)).trans hgR.out)
  have hbL : Below w.heap.size w ((w1.setCell ⟨w.heap.size, 3, none⟩ (.string (mkS p))).setCell ⟨w.heap.size, 4, none⟩ (.string ⟨#[]⟩)) := (hbw.setCell (by simp) _).setCell (by simp) _
  clear hL hO
  go_wp2_with (first
    | (refine wpList_load_row rfl 23 _ rfl w.heap.size rfl _ _ _ _ HL.out Try.underlying23 rfl (by kernel_rfl) ?_)
    | (refine wpList_store_row rfl 23 _ _ rfl (w.heap.size + 1) #[.int .i64 a, .int .i64 b, .int .i64 c, .string (mkS p), .string ⟨#[]⟩] rfl rfl _ _ HL0.out (by kernel_rfl) rfl (ver_one _ _ _ _ _) ?_))
  have hr := results_cell_row (P := Try.prog) (fn := Try.f23) Try.results23
  refine bodyPost_ret (v := .agg #[.int .i64 a, .int .i64 b, .int .i64 c, .string (mkS p), .string ⟨#[]⟩]) (hr _ _ (w.heap.size + 1) _ _ _ _ rfl (setRow_heap _ _ _ _ _ _ HL0.out) Try.underlying23 rfl (by kernel_rfl)) rfl ⟨rfl, below_setRow hbL (by omega) _⟩
end Go.Proofs.Ytndjdmbbndcohaa
