/-
  The document's own answer's Split: for every string of at most a million bytes and every byte it returns a new slice of the pieces that splitL names; nothing that was there is changed.
-/
import Derived.Test.YtndjdmbbndcohaaBase
import Derived.Test.YtndjdmbbndcohaaPlain3
import Derived.WalkKit
namespace Go.Proofs.Ytndjdmbbndcohaa
open Go.RowKit

theorem infoStr : (Try.prog.info? 9).map (fun i => (i.zero, i.size, i.bytes)) = some (some (.string ByteArray.empty), 1, 16) := by kernel_rfl
def mkS (l : List UInt8) : ByteArray := ⟨l.toArray⟩
def strV (l : List (List UInt8)) : List Value := l.map fun x => .string (mkS x)
theorem strV_snoc (l : List (List UInt8)) (x : List UInt8) : strV (l ++ [x]) = strV l ++ [.string (mkS x)] := by unfold strV; rw [List.map_append]; rfl
theorem strV_length (l : List (List UInt8)) : (strV l).length = l.length := by unfold strV; rw [List.length_map]
theorem extract_mk (s : ByteArray) (f k : Nat) : s.extract f k = mkS ((s.data.toList.drop f).take (k - f)) := by
  unfold mkS
  apply ByteArray.ext
  apply Array.toList_inj.1
  rw [ByteArray.data_extract, Array.toList_extract, List.toList_toArray, List.extract_eq_take_drop]

theorem take_more (s : ByteArray) (f k : Nat) (hf : f ≤ k) (h : k < s.size) : (s.data.toList.drop f).take (k + 1 - f) = (s.data.toList.drop f).take (k - f) ++ [s[k]] := by
  rw [show k + 1 - f = k - f + 1 from by omega, List.take_succ_eq_append_getElem (by simp; omega)]
  congr 1
  simp [show f + (k - f) = k from by omega]
  rfl
theorem split_hit (b c : UInt8) (acc r : List UInt8) (h : c = b) : splitL b acc (c :: r) = acc :: splitL b [] r := by rw [splitL, if_pos h]
theorem split_miss (b c : UInt8) (acc r : List UInt8) (h : ¬ c = b) : splitL b acc (c :: r) = splitL b (acc ++ [c]) r := by rw [splitL, if_neg h]

def piecesOf (s : ByteArray) (b : UInt8) : List (List UInt8) := splitL b [] s.data.toList

set_option maxHeartbeats 2000000 in
theorem rsplit_any (s : ByteArray) (b : UInt8) (w : World) (hs : s.size ≤ 1000000) :
    Calls Try.prog 51 #[.string s, .int .u8 b.toNat] w fun e w' => ∃ v, e = .returned v ∧ w'.ownsRow w.heap.size 9 1 v (piecesOf s b).length (strV (piecesOf s b)) ∧ Below w.heap.size w w' := by
  obtain ⟨i0, hi, hz0, hz1, hz2⟩ := info_parts infoStr
  go_enter Try.func51, Try.ntmps51
  go_wp2
  go_loopw [5, 6, 7] (fun v fv iv wr => ∃ (k f : Nat) (P : List (List UInt8)), iv = .int .i64 k ∧ fv = .int .i64 f ∧ f ≤ k ∧ k ≤ s.size ∧ P.length ≤ k ∧ wr.ownsRow w.heap.size 9 1 v P.length (strV P) ∧ Below w.heap.size w wr ∧ Hid (P ++ splitL b ((s.data.toList.drop f).take (k - f)) (s.data.toList.drop k) = piecesOf s b)) (fun _ _ iv _ => s.size - (intOf iv).toNat)
  case atStart => exact ⟨0, 0, [], rfl, rfl, Nat.le_refl _, Nat.zero_le _, Nat.zero_le _, ⟨rfl, Or.inl ⟨rfl, rfl⟩⟩, Below.refl _ _, rfl⟩
  case round =>
    obtain ⟨k, f, P, rfl, rfl, hfk, hk, hP, hown, hb, HR⟩ := hrel
    have hsz := hb.size
    by_cases hp : k < s.size
    · have HD := Lib.hid (drop_cons s k hp)
      by_cases hc : s[k] = b
      · have HC := Lib.hid hc
        have hcb : ((s[k].toNat : Int) == (b.toNat : Int)) = true := by rw [hc]; simp
        clear hc
        go_wp2_with (at_builtin; refine wpList_append_own _ rfl _ _ 62 rfl w.heap.size 9 i0 (.string ByteArray.empty) 1 16 Try.underlying62 hi hz0 hz1 hz2 rfl (by decide) _ _ _ rfl (hown.alloc _) ⟨wr.heap.size, 0, none⟩ 1 1 [.string (s.extract f k)] rfl rfl ?c1 ?c2 ?c3 ?c4 ?c5 ?_)
        case c1 =>
          intro j u hj
          match j, hj with
          | 0, hj => simp at hj; subst hj; simp [Addr.add]
        case c2 => intro u hu; simp at hu; subst hu; rfl
        case c3 => unfold maxLen; omega
        case c4 => omega
        case c5 => simp; omega
        intro v' w2 hown' hgrow _
        go_wp2
        go_roundw
        case rel =>
          refine ⟨k + 1, k + 1, P ++ [(s.data.toList.drop f).take (k - f)], by go_num, by go_num, Nat.le_refl _, by omega, by simp; omega, ?_, (hb.alloc hsz _).grown hgrow (by simp; omega) (fun k hk => (hown.lt k hk).1), ?_⟩
          · rw [strV_snoc, ← extract_mk, List.length_append]; exact hown'
          · show _ = _
            rw [← HR.out, HD.out, split_hit _ _ _ _ HC.out, List.append_assoc, Nat.sub_self, List.take_zero]; rfl
        case measure => simp [intOf]; omega
      · have hcb : ((s[k].toNat : Int) == (b.toNat : Int)) = false := beq_int_false (fun e => hc (UInt8.toNat_inj.1 (by omega)))
        go_wp2
        go_roundw
        case rel => exact ⟨k + 1, f, P, by go_num, rfl, by omega, by omega, by omega, hown, hb, by show _ = _; rw [← HR.out, HD.out, split_miss _ _ _ _ hc, take_more s f k hfk hp]⟩
        case measure => simp [intOf]; omega
    · have hk2 : k = s.size := by omega
      have HD := Lib.hid (drop_end s k hp)
      have HE : Hid (P ++ [(s.data.toList.drop f).take (s.size - f)] = piecesOf s b) := by
        show _ = _
        rw [← HR.out, HD.out, hk2]; rfl
      clear hk2
      go_wp2_with (at_builtin; refine wpList_append_own _ rfl _ _ 62 rfl w.heap.size 9 i0 (.string ByteArray.empty) 1 16 Try.underlying62 hi hz0 hz1 hz2 rfl (by decide) _ _ _ rfl (hown.alloc _) ⟨wr.heap.size, 0, none⟩ 1 1 [.string (s.extract f s.size)] rfl rfl ?c1 ?c2 ?c3 ?c4 ?c5 ?_)
      case c1 =>
        intro j u hj
        match j, hj with
        | 0, hj => simp at hj; subst hj; simp [Addr.add]
      case c2 => intro u hu; simp at hu; subst hu; rfl
      case c3 => unfold maxLen; omega
      case c4 => omega
      case c5 => simp; omega
      intro v' w2 hown' hgrow _
      go_wp2
      go_ret
      refine ⟨v', rfl, ?_, (hb.alloc hsz _).grown hgrow (by simp; omega) (fun k hk => (hown.lt k hk).1)⟩
      rw [← HE.out, strV_snoc, ← extract_mk, List.length_append]; exact hown'
end Go.Proofs.Ytndjdmbbndcohaa
