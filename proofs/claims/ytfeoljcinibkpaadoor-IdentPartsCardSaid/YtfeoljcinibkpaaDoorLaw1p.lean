/-
  Stage 1, IdentParts: a string cut at any byte, and any strings put together, come out as the document's own answer has them. Condition: the library's table of powers of ten reads as it is laid.
-/
import Derived.Test.YtfeoljcinibkpaaDoorLaw1
namespace Go.Proofs.YtfeoljcinibkpaaDoor
open Go.RowKit Go.ChangeShapes

theorem piece_total (b : UInt8) (l : List (List UInt8)) (m : Nat) (h : ∀ x ∈ l, x.length ≤ m) : (joinL b l).length ≤ l.length * (m + 1) := by
  induction l with
  | nil => simp [joinL]
  | cons x r ih =>
    have hx := h x (by simp)
    have ih2 := ih (fun y hy => h y (by simp [hy]))
    cases r with
    | nil => simp [joinL]; omega
    | cons y r2 =>
      rw [joinL]
      simp only [List.length_append, List.length_cons] at ih2 ⊢
      rw [Nat.add_mul (r2.length + 1) 1 (m + 1)]
      omega
theorem pieces_len (s : ByteArray) (b : UInt8) : (piecesOf s b).length ≤ s.size + 1 := by
  unfold piecesOf
  rw [split_len]
  have := List.length_filter_le (· == b) s.data.toList
  rw [len_data] at this
  omega

set_option maxHeartbeats 2000000 in
theorem identParts.law (W : World) (s : ByteArray) (hs : s.size ≤ maxLen) (b : UInt8) (v : Value) (l : List (List UInt8)) (hv : ReadsT W W.heap.size v l) (hn : l.length ≤ maxLen) (hx : ∀ x ∈ l, x.length ≤ maxLen) (ht : HasTab W) :
    Calls Tryd.prog 6 #[.string s, .int .u8 b.toNat, v] W fun e w' => e = .returned (.bool true) ∧ Below W.heap.size W w' := by
  have HT := Lib.hid ht
  clear ht
  have HV := Lib.hid hv
  obtain ⟨A, cap, rfl, hcell⟩ := hv
  unfold maxLen at hs hn
  have HX := Lib.hid hx
  clear hx
  by_cases h2000 : s.size ≤ 2000
  · by_cases h100 : l.length ≤ 100
    · have hln : l.length ≤ 1000000000 := by omega
      go_enter Tryd.func6, Tryd.ntmps6
      go_wp2_with fail
      go_loop [7] (fun iv => ∃ (k : Nat), iv = .int .i64 k ∧ k ≤ l.length ∧ Hid (∀ x ∈ l.take k, x.length ≤ 200)) (fun iv => l.length - (intOf iv).toNat)
      case atStart => exact ⟨0, rfl, Nat.zero_le _, by show ∀ x ∈ l.take 0, _; simp⟩
      case round =>
        obtain ⟨k, rfl, hk, HK⟩ := hrel
        by_cases hp : k < l.length
        · obtain ⟨ad, rfl, hlt, hc⟩ := hcell (by omega)
          have hck : W.cell? (ad.add k) = some (.string (mkS l[k])) := hc k hp
          have hsz : (mkS l[k]).size ≤ 9223372036854775807 := by
            rw [mkS_size]; exact HX.out _ (List.getElem_mem hp)
          clear hc hcell
          by_cases h200 : (mkS l[k]).size ≤ 200
          · go_wp2_with fail
            go_round
            case rel =>
              refine ⟨k + 1, by go_num, by omega, ?_⟩
              show ∀ x ∈ l.take (k + 1), _
              rw [take_snocL l k hp]
              intro x hx
              rcases List.mem_append.1 hx with hx | hx
              · exact HK.out x hx
              · rw [List.mem_singleton] at hx
                subst hx
                rw [mkS_size] at h200
                exact h200
            case measure => simp [intOf]; omega
          · go_wp2_with fail
            refine (awake_any _ HT.out).mono ?_
            rintro e w1 ⟨rfl, b1⟩
            go_wp2_with fail
            go_ret
            exact ⟨rfl, b1⟩
        · obtain rfl : k = l.length := by omega
          have HA : Hid (∀ x ∈ l, x.length ≤ 200) := by
            show ∀ x ∈ l, _
            have := HK.out
            rwa [List.take_length] at this
          clear hcell
          have hj : (joinL b l).length ≤ 1000000000 := by
            have := piece_total b l 200 HA.out
            omega
          have hpl := pieces_len s b
          have hpl2 : (piecesOf s b).length ≤ 1000000000 := by omega
          go_wp2_with fail
          refine (awake_any _ HT.out).mono ?_
          rintro e w1 ⟨rfl, b1⟩
          have s1 := b1.size
          go_wp2_with fail
          refine (split_any s b _ (by omega)).mono ?_
          rintro e w2 ⟨v2, rfl, ho2, b2⟩
          have hv2 := ReadsT.of_own ho2
          have c2 : Below W.heap.size W w2 := b1.trans (b2.mono s1)
          clear ho2 b2
          go_wp2_with fail
          refine (rsplit_any s b _ (by omega)).mono ?_
          rintro e w3 ⟨v3, rfl, ho3, b3⟩
          have hv3 := ReadsT.of_own ho3
          have hv2b := (hv2.below b3).more b3.size
          have c3 : Below W.heap.size W w3 := c2.trans (b3.mono c2.size)
          clear ho3 b3 hv2 c2
          have HV2 := Lib.hid hv2b
          have HV3 := Lib.hid hv3
          clear hv2b hv3
          go_wp2_with fail
          refine (same_any _ _ (piecesOf s b) (piecesOf s b) _ HV2.out HV3.out hpl2 hpl2).mono ?_
          rw [decide_eq_true rfl]
          rintro e w4 ⟨rfl, b4⟩
          have c4 : Below W.heap.size W w4 := c3.trans (b4.mono c3.size)
          clear b4 c3
          go_wp2_with fail
          refine (join_any _ l b _ ((HV.out.below c4).more c4.size) hj hln).mono ?_
          rintro e w5 ⟨rfl, b5⟩
          have c5 : Below W.heap.size W w5 := c4.trans (b5.mono c4.size)
          clear b5 c4
          go_wp2_with fail
          refine (rjoin_any _ l b _ ((HV.out.below c5).more c5.size) hj hln).mono ?_
          rintro e w6 ⟨rfl, b6⟩
          have c6 : Below W.heap.size W w6 := c5.trans (b6.mono c5.size)
          clear b6 c5
          go_wp2_with fail
          go_ret
          exact ⟨ret_bool (by simp), c6⟩
    · go_enter Tryd.func6, Tryd.ntmps6
      go_wp2_with fail
      refine (awake_any _ HT.out).mono ?_
      rintro e w1 ⟨rfl, b1⟩
      go_wp2_with fail
      go_ret
      exact ⟨rfl, b1⟩
  · go_enter Tryd.func6, Tryd.ntmps6
    go_wp2_with fail
    refine (awake_any _ HT.out).mono ?_
    rintro e w1 ⟨rfl, b1⟩
    go_wp2_with fail
    go_ret
    exact ⟨rfl, b1⟩
end Go.Proofs.YtfeoljcinibkpaaDoor
