/-
  Small contracts and facts that many texts need: digit of package ident and of the document's own answer. Conditions: none.
-/
import Derived.Test.YtjgmmeienchfnaaBel
import Derived.Test.YtjgmmeienchfnaaPlain1
import Derived.Test.YtjgmmeienchfnaaProg
import Derived.WalkKit
import Derived.Lib.Hide
import Derived.Deep.Draws
namespace Go.Proofs.Ytjgmmeienchfnaa
open Go.RowKit

theorem ret_bool {a b : Bool} (h : a = b) : Ending.returned (.bool a) = .returned (.bool b) := by rw [h]

theorem ret_int {k : IntKind} {a b : Int} (h : a = b) : Ending.returned (.int k a) = .returned (.int k b) := by rw [h]

theorem letB_hi (n : Nat) (h : 128 ≤ n) : letB n = false := by unfold letB; simp; omega
theorem digB_hi (n : Nat) (h : 128 ≤ n) : digB n = false := by unfold digB; simp; omega
theorem letB_hi8 (c : UInt8) (h : 128 ≤ c.toNat) : letB c.toNat = false := letB_hi _ h
theorem digB_hi8 (c : UInt8) (h : 128 ≤ c.toNat) : digB c.toNat = false := digB_hi _ h
theorem beq_int_false {a b : Int} (h : ¬ a = b) : (a == b) = false := by simpa using h
theorem nameGo_hi (f : Bool) (l : Int) (c : UInt8) (r : List UInt8) (h : 128 ≤ c.toNat) : nameGo f l (c :: r) = false := by
  unfold nameGo
  rw [letB_hi8 c h, digB_hi8 c h]
  simp; omega

theorem below_iter (w : World) (s : ByteArray) (pos : Nat) : Below w.heap.size w (w.iter s pos) := (Below.refl _ w).alloc (Nat.le_refl _) _

theorem below_drewN {B : Nat} {a w : World} (h : Below B a w) (n : Nat) : Below B a (w.drewN n) := ⟨h.os, h.tape, h.output, h.size, Nat.le_trans h.drawn (Nat.le_add_right _ _), h.block⟩
end Go.Proofs.Ytjgmmeienchfnaa
