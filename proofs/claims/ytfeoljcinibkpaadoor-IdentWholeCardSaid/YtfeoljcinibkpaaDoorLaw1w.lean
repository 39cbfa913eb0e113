/-
  Stage 1, IdentWhole: what is cut and put together again is the string; no piece has the byte, and there is one piece more than there are such bytes. Condition: the library's table of powers of ten reads as it is laid.
-/
import Derived.Test.YtfeoljcinibkpaaDoorLaw1
namespace Go.Proofs.YtfeoljcinibkpaaDoor
open Go.RowKit Go.ChangeShapes

theorem whole_join (s : ByteArray) (b : UInt8) : mkS (joinL b (piecesOf s b)) = s := by
  unfold piecesOf mkS
  rw [join_split, List.nil_append]
theorem filter_take (b : UInt8) (s : ByteArray) (k : Nat) (h : k < s.size) : ((s.data.toList.take (k + 1)).filter (· == b)).length = ((s.data.toList.take k).filter (· == b)).length + (if s[k] = b then 1 else 0) := by
  rw [take_snoc s k h, List.filter_append, List.length_append]
  by_cases e : s[k] = b <;> simp [e]
theorem mkS_mem (l : List UInt8) (k : Nat) (h2 : k < (mkS l).size) : (mkS l)[k]'h2 ∈ l := by
  have : k < l.length := by rw [← mkS_size]; exact h2
  exact List.getElem_mem this

theorem pieces_len2 (s : ByteArray) (b : UInt8) : (piecesOf s b).length ≤ s.size + 1 := by
  unfold piecesOf
  rw [split_len]
  have := List.length_filter_le (· == b) s.data.toList
  rw [len_data] at this
  omega

set_option maxHeartbeats 4000000 in
theorem identWhole.law (W : World) (s : ByteArray) (hs : s.size ≤ maxLen) (b : UInt8) (ht : HasTab W) :
    Calls Tryd.prog 7 #[.string s, .int .u8 b.toNat] W fun e w' => e = .returned (.bool true) ∧ Below W.heap.size W w' := by
  have HT := Lib.hid ht
  clear ht
  unfold maxLen at hs
  by_cases h2000 : s.size ≤ 2000
  · have HFREE := Lib.hid (split_free b s.data.toList [] (by simp))
    have HLE := Lib.hid (split_le b s.data.toList [])
    have hpl := pieces_len2 s b
    go_enter Tryd.func7, Tryd.ntmps7
    go_wp2_with fail
    refine (split_any s b _ (by omega)).mono ?_
    rintro e w1 ⟨v, rfl, ho, b1⟩
    have hv := ReadsT.of_own ho
    have HV := Lib.hid hv
    have s1 := b1.size
    clear ho
    obtain ⟨A, cap, rfl, hcell⟩ := hv
    go_wp2_with fail
    go_loop [6, 7] (fun nv iv => ∃ (k : Nat), k ≤ s.size ∧ iv = .int .i64 k ∧ nv = .int .i64 (((s.data.toList.take k).filter (· == b)).length + 1 : Nat)) (fun _ iv => s.size - (intOf iv).toNat)
    case atStart => exact ⟨0, Nat.zero_le _, rfl, rfl⟩
    case round =>
      obtain ⟨k, hk, rfl, rfl⟩ := hrel
      have hfl : ((s.data.toList.take k).filter (· == b)).length ≤ k := Nat.le_trans (List.length_filter_le _ _) (List.length_take_le _ _)
      by_cases hp : k < s.size
      · have HF := Lib.hid (filter_take b s k hp)
        by_cases hc : s[k] = b
        · have HC := Lib.hid hc
          have hcb : ((s[k].toNat : Int) == (b.toNat : Int)) = true := by rw [hc]; simp
          clear hc
          go_wp2_with fail
          go_round
          case rel => exact ⟨k + 1, by omega, by go_num, by rw [HF.out, if_pos HC.out]; go_num⟩
          case measure => simp [intOf]; omega
        · have hcb : ((s[k].toNat : Int) == (b.toNat : Int)) = false := beq_int_false (fun e => hc (UInt8.toNat_inj.1 (by omega)))
          go_wp2_with fail
          go_round
          case rel => exact ⟨k + 1, by omega, by go_num, by rw [HF.out, if_neg hc]⟩
          case measure => simp [intOf]; omega
      · obtain rfl : k = s.size := by omega
        have HL : Hid ((piecesOf s b).length = ((s.data.toList.take s.size).filter (· == b)).length + 1) := by
          show _ = _
          unfold piecesOf
          rw [split_len, List.take_of_length_le (by rw [len_data]; exact Nat.le_refl _)]
        have hl1 : (piecesOf s b).length ≤ ((s.data.toList.take s.size).filter (· == b)).length + 1 := Nat.le_of_eq HL.out
        have hl2 : ((s.data.toList.take s.size).filter (· == b)).length + 1 ≤ (piecesOf s b).length := Nat.le_of_eq HL.out.symm
        go_wp2_with fail
        go_loop [8, 9] (fun iv _ => ∃ (i : Nat), i ≤ (piecesOf s b).length ∧ iv = .int .i64 i) (fun iv _ => (piecesOf s b).length - (intOf iv).toNat)
        case atStart => exact ⟨0, Nat.zero_le _, rfl⟩
        case round =>
          obtain ⟨i, hi, rfl⟩ := hrel
          by_cases hp2 : i < (piecesOf s b).length
          · obtain ⟨ad, rfl, hlt, hc⟩ := hcell (by omega)
            have hck : w1.cell? (ad.add i) = some (.string (mkS (piecesOf s b)[i])) := hc i hp2
            have hzi : (mkS (piecesOf s b)[i]).size ≤ 2000 := by
              rw [mkS_size]
              have := HLE.out _ (List.getElem_mem hp2)
              rw [len_data] at this
              simp at this; omega
            clear hc hcell
            go_wp2_with fail
            go_loop [9] (fun kv => ∃ (k : Nat), k ≤ (mkS (piecesOf s b)[i]).size ∧ kv = .int .i64 k) (fun kv => (mkS (piecesOf s b)[i]).size - (intOf kv).toNat)
            case atStart => exact ⟨0, Nat.zero_le _, rfl⟩
            case round =>
              obtain ⟨k, hk3, rfl⟩ := hrel
              by_cases hp3 : k < (mkS (piecesOf s b)[i]).size
              · have hcb : (((mkS (piecesOf s b)[i])[k].toNat : Int) == (b.toNat : Int)) = false := by
                  apply beq_int_false
                  intro e
                  have e2 : (mkS (piecesOf s b)[i])[k] = b := UInt8.toNat_inj.1 (by omega)
                  have hm := mkS_mem (piecesOf s b)[i] k hp3
                  rw [e2] at hm
                  exact HFREE.out _ (List.getElem_mem hp2) hm
                go_wp2_with fail
                go_round
                case rel => exact ⟨k + 1, by omega, by go_num⟩
                case measure => simp [intOf]; omega
              · go_wp2_with fail
                go_round
                case rel => exact ⟨i + 1, by omega, by go_num⟩
                case measure => simp [intOf]; omega
          · clear hcell
            have hj : (joinL b (piecesOf s b)).length ≤ 1000000000 := by
              unfold piecesOf
              rw [join_split, List.nil_append, len_data]; omega
            have HWJ := Lib.hid (whole_join s b)
            go_wp2_with fail
            refine (awake_any _ (HT.out.on b1)).mono ?_
            rintro e w2 ⟨rfl, b2⟩
            have c2 : Below W.heap.size W w2 := b1.trans (b2.mono s1)
            go_wp2_with fail
            refine (join_any _ (piecesOf s b) b _ ((HV.out.below b2).more b2.size) hj (by omega)).mono ?_
            rw [HWJ.out]
            rintro e w3 ⟨rfl, b3⟩
            have c3 : Below W.heap.size W w3 := c2.trans (b3.mono c2.size)
            go_wp2_with fail
            go_ret
            exact ⟨ret_bool (by simp), c3⟩
  · go_enter Tryd.func7, Tryd.ntmps7
    go_wp2_with fail
    refine (awake_any _ HT.out).mono ?_
    rintro e w1 ⟨rfl, b1⟩
    go_wp2_with fail
    go_ret
    exact ⟨rfl, b1⟩
end Go.Proofs.YtfeoljcinibkpaaDoor
