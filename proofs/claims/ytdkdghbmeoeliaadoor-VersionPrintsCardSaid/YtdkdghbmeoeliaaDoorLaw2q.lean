/-
  VersionPrints: the law, for every version; its first case: a tag list of more than 300 bytes.
-/
import Derived.Test.YtdkdghbmeoeliaaDoorLaw2p
namespace Go.Proofs.YtdkdghbmeoeliaaDoor
open Go.RowKit

set_option maxHeartbeats 4000000 in
set_option maxRecDepth 100000 in
theorem prints_big (a b c : Int) (p q : ByteArray) (W : World) (hb : 300 < p.size ∨ (p.size ≤ 300 ∧ 300 < q.size)) (ht : HasTab W) :
    Calls Tryd.prog 4 #[verVal a b c p q] W fun e w' => e = .returned (.bool true) ∧ Below W.heap.size W w' := by
  unfold verVal
  have B0 : ∀ o1, Below W.heap.size W (W.alloc o1) := fun o1 => (Below.refl _ _).alloc (Nat.le_refl _) _
  have cA := fun o1 => awake_any (W.alloc o1) (ht.on (B0 o1))
  rcases hb with h1 | ⟨h1, h2⟩
  · have i1 : (300 : Int) < p.size := by omega
    clear h1
    go_enter Tryd.func4, Tryd.ntmps4
    go_wp2_with (go_at_call 13; refine (cA _).mono ?_; rintro e w1 ⟨rfl, hb1⟩)
    go_ret
    exact ⟨rfl, (B0 _).trans (hb1.mono (by rw [size_box]; omega))⟩
  · have i1 : ¬ (300 : Int) < p.size := by omega
    have i2 : (300 : Int) < q.size := by omega
    clear h1 h2
    go_enter Tryd.func4, Tryd.ntmps4
    go_wp2_with (go_at_call 13; refine (cA _).mono ?_; rintro e w1 ⟨rfl, hb1⟩)
    go_ret
    exact ⟨rfl, (B0 _).trans (hb1.mono (by rw [size_box]; omega))⟩

theorem versionPrints.law (W : World) (a b c : Int) (p q : ByteArray) (_hp : p.size ≤ maxLen) (_hq : q.size ≤ maxLen) (ht : HasTab W) :
    Calls Tryd.prog 4 #[verVal a b c p q] W fun e w' => e = .returned (.bool true) ∧ Below W.heap.size W w' := by
  by_cases h1 : 300 < p.size
  · exact prints_big a b c p q W (.inl h1) ht
  · by_cases h2 : 300 < q.size
    · exact prints_big a b c p q W (.inr ⟨by omega, h2⟩) ht
    · have e1 := bytes_mk p
      have e2 := bytes_mk q
      rw [e1, e2]
      cases hm : (Ver.mk a b c p.data.toList q.data.toList).may with
      | true => exact prints_true a b c _ _ W (by rw [len_data]; omega) (by rw [len_data]; omega) hm ht
      | false => exact prints_false a b c _ _ W (by rw [len_data]; omega) (by rw [len_data]; omega) hm ht
end Go.Proofs.YtdkdghbmeoeliaaDoor
