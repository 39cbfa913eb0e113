/-
  Package ident's Split: for every string of at most a million bytes and every byte it returns a new slice of the pieces that splitL names; nothing that was there is changed.
-/
import Derived.Test.YtfeoljcinibkpaaDoorSplitR
import Derived.Test.YtfeoljcinibkpaaDoorShelf
import Derived.Lib.OthersKept
import Derived.Lib.IndexBytes
namespace Go.Proofs.YtfeoljcinibkpaaDoor
open Go.RowKit

theorem ret_int {k : IntKind} {a b : Int} (h : a = b) : Ending.returned (.int k a) = .returned (.int k b) := by rw [h]

theorem clone_any (s : ByteArray) (w : World) (hs : s.size ≤ 281474976710656) :
    Calls Tryd.prog 37 #[.string s] w fun e w' => e = .returned (.string s) ∧ Below w.heap.size w w' := by
  go_enter Tryd.func37, Tryd.ntmps37
  go_wp2_with (go_at_call 41; refine (Tryd.stringslite_Clone s _ hs).mono ?_; rintro e w' ⟨rfl, hb⟩)
  go_ret
  exact ⟨rfl, hb⟩

theorem piece_any (s : ByteArray) (f k : Nat) (w : World) (hs : s.size ≤ 1000000) (hfk : f ≤ k) (hk : k ≤ s.size) :
    Calls Tryd.prog 30 #[.string s, .int .i64 f, .int .i64 k] w fun e w' => e = .returned (.string (s.extract f k)) ∧ Below w.heap.size w w' := by
  have hz : (s.extract f k).size ≤ 281474976710656 := by
    rw [ByteArray.size_extract]; omega
  go_enter Tryd.func30, Tryd.ntmps30
  go_wp2_with (go_at_call 37; refine (clone_any _ _ hz).mono ?_; rintro e w' ⟨rfl, hb⟩)
  go_ret
  exact ⟨rfl, hb⟩

theorem width_any (t : ByteArray) (r n : Nat) (hne : t.data.toList ≠ []) (hd : Lib.decodeL t.data.toList = (r, n)) (w : World) :
    Calls Tryd.prog 29 #[.string t, .int .i32 r] w fun e w' => e = .returned (.int .i64 n) ∧ w = w' := by
  have HD := Lib.hid hd
  clear hd
  have HNE := Lib.hid hne
  clear hne
  by_cases h : r = 65533
  · by_cases hp : Lib.hasPrefix t.data.toList [239, 191, 189] = true
    · have HP := Lib.hid hp
      clear hp
      have hb : ((r : Int) == 65533) = true := by simp [h]
      have HR := Lib.hid h
      clear h
      go_enter Tryd.func29, Tryd.ntmps29
      go_wp2_with (first | (go_at_call 35; refine (Tryd.strings_HasPrefix t ⟨#[239, 191, 189]⟩ _).mono ?_; rw [HP.out]; rintro e w' ⟨rfl, rfl⟩) | (go_at_call 36; refine (Tryd.utf8_RuneLen _ _).mono ?_; rintro e w' ⟨rfl, rfl⟩))
      go_ret
      refine ⟨ret_int ?_, rfl⟩
      have h3 := wide_err _ HP.out
      rw [HD.out] at h3
      rw [HR.out, show n = 3 from h3]
      decide
    · have HP := Lib.hid (Bool.eq_false_iff.2 hp)
      clear hp
      have hb : ((r : Int) == 65533) = true := by simp [h]
      have HR := Lib.hid h
      clear h
      go_enter Tryd.func29, Tryd.ntmps29
      go_wp2_with (go_at_call 35; refine (Tryd.strings_HasPrefix t ⟨#[239, 191, 189]⟩ _).mono ?_; rw [HP.out]; rintro e w' ⟨rfl, rfl⟩)
      go_ret
      refine ⟨ret_int ?_, rfl⟩
      have h1 := wide_bad _ HNE.out (by rw [HD.out]; exact HR.out) HP.out
      rw [HD.out] at h1
      rw [show n = 1 from h1]
      rfl
  · have hb : ((r : Int) == 65533) = false := beq_int_false (by omega)
    go_enter Tryd.func29, Tryd.ntmps29
    go_wp2_with (go_at_call 36; refine (Tryd.utf8_RuneLen _ _).mono ?_; rintro e w' ⟨rfl, rfl⟩)
    go_ret
    refine ⟨ret_int ?_, rfl⟩
    have h2 := wide_other t.data.toList (by rw [HD.out]; exact h)
    rw [HD.out] at h2
    exact h2

theorem ownsRow_iterAt {w : World} {B : Nat} {e : TypeId} {size : Nat} {v : Value} {n : Nat} {xs : List Value} (h : w.ownsRow B e size v n xs) {k : Nat} {s : ByteArray} {pos : Nat} (hk : w.heap[k]? = some (.stringIter s pos)) (pos' : Nat) :
    (w.iterAt k s pos').ownsRow B e size v n xs := by
  obtain ⟨h1, h2⟩ := h
  refine ⟨h1, ?_⟩
  rcases h2 with h2 | ⟨g, cap, cur, hv, hg, hh, r⟩
  · exact Or.inl h2
  · refine Or.inr ⟨g, cap, cur, hv, hg, ?_, r⟩
    rw [Lib.iterAt_other _ _ _ _ _ (fun e => by subst e; rw [hk] at hh; cases hh)]
    exact hh
theorem ownsRow_ne {w : World} {B : Nat} {e : TypeId} {size : Nat} {v : Value} {n : Nat} {xs : List Value} (h : w.ownsRow B e size v n xs) {k : Nat} {s : ByteArray} {pos : Nat} (hk : w.heap[k]? = some (.stringIter s pos)) : some k ≠ v.ownBlock := by
  obtain ⟨h1, h2⟩ := h
  rcases h2 with ⟨rfl, _⟩ | ⟨g, cap, cur, rfl, hg, hh, r⟩
  · simp [Value.ownBlock]
  · intro he
    have : k = g := by simpa [Value.ownBlock] using he
    subst this
    rw [hk] at hh; cases hh
theorem ownsRow_below {w w' : World} {B : Nat} {e : TypeId} {size : Nat} {v : Value} {n : Nat} {xs : List Value} (h : w.ownsRow B e size v n xs) (hb : Below w.heap.size w w') : w'.ownsRow B e size v n xs := by
  obtain ⟨h1, h2⟩ := h
  refine ⟨h1, ?_⟩
  rcases h2 with h2 | ⟨g, cap, cur, hv, hg, hh, r⟩
  · exact Or.inl h2
  · exact Or.inr ⟨g, cap, cur, hv, hg, by rw [hb.block g (Array.getElem?_eq_some_iff.1 hh).1]; exact hh, r⟩
theorem iter_below {w w' : World} {k : Nat} {s : ByteArray} {pos : Nat} (h : w.heap[k]? = some (.stringIter s pos)) (hb : Below w.heap.size w w') : w'.heap[k]? = some (.stringIter s pos) := by
  rw [hb.block k (Array.getElem?_eq_some_iff.1 h).1]; exact h

set_option maxHeartbeats 4000000 in
theorem split_any (s : ByteArray) (b : UInt8) (w : World) (hs : s.size ≤ 1000000) :
    Calls Tryd.prog 19 #[.string s, .int .u8 b.toNat] w fun e w' => ∃ v, e = .returned v ∧ w'.ownsRow w.heap.size 9 1 v (piecesOf s b).length (strV (piecesOf s b)) ∧ Below w.heap.size w w' := by
  obtain ⟨i0, hi, hz0, hz1, hz2⟩ := info_parts infoStr
  go_enter Tryd.func19, Tryd.ntmps19
  go_wp2
  go_loopw [5, 6] (fun v fv wr => ∃ (pos f : Nat) (P : List (List UInt8)), fv = .int .i64 f ∧ f ≤ pos ∧ pos ≤ s.size ∧ P.length ≤ pos ∧ wr.heap[w.heap.size]? = some (.stringIter s pos) ∧ wr.ownsRow w.heap.size 9 1 v P.length (strV P) ∧ Below w.heap.size w wr ∧ Hid (P ++ splitL b ((s.data.toList.drop f).take (pos - f)) (s.data.toList.drop pos) = piecesOf s b)) (fun _ _ wr => s.size - wr.iterPos w.heap.size)
  case atStart => exact ⟨0, 0, [], rfl, Nat.le_refl _, Nat.zero_le _, Nat.zero_le _, World.iter_heap _ _ _, ⟨rfl, Or.inl ⟨rfl, rfl⟩⟩, below_iter _ _ _, rfl⟩
  case round =>
    obtain ⟨pos, f, P, rfl, hfp, hple, hP, hit, hown, hb, HR⟩ := hrel
    have hsz := hb.size
    by_cases hp : pos < s.size
    · obtain ⟨r, n, hdec⟩ : ∃ r n, Utf8.decode s pos = (r, n) := ⟨_, _, rfl⟩
      have hnx : ∀ ty, (Instr.next (.pointer (some ⟨w.heap.size, 0, none⟩)) true ty).run Tryd.prog wr = _ := fun ty => Lib.run_next_any_at wr w.heap.size s pos ty hit hp
      rw [hdec] at hnx
      have hn1 : 1 ≤ n := by
        by_cases ha : (s[pos]'hp).toNat < 128
        · have := decode_ascii s pos hp ha
          rw [hdec] at this
          have : n = 1 := congrArg Prod.snd this
          omega
        · have := (decode_high s pos hp (by omega)).2
          rw [hdec] at this
          exact this
      have hdl : Lib.decodeL (s.extract pos s.size).data.toList = (r, n) := by rw [Lib.extract_to_end, Lib.decodeL_drop, hdec]
      have hne : (s.extract pos s.size).data.toList ≠ [] := by
        rw [Lib.extract_to_end]; intro h; have := congrArg List.length h; simp at this; omega
      have hnle : pos + n ≤ s.size := by
        have := Lib.decodeL_le _ hne
        rw [hdl, Lib.extract_to_end] at this
        simp at this; omega
      have HDL := Lib.hid hdl
      have HNE := Lib.hid hne
      have HIT := Lib.hid hit
      have hown1 := ownsRow_iterAt hown hit (pos + n)
      have hit1 := Lib.iterAt_heap wr w.heap.size s pos (pos + n) hit
      have hb1 : Below w.heap.size w (wr.iterAt w.heap.size s (pos + n)) := Lib.below_iterAt hb (Nat.le_refl _) s (pos + n)
      have HIT1 := Lib.hid hit1
      clear hdl hne hdec hit1
      obtain ⟨wo, rfl⟩ : ∃ wo : World, wo = wr := ⟨_, rfl⟩
      go_wp2_with (go_at_call 29; refine (width_any _ r n HNE.out HDL.out _).mono ?_; rintro e w' ⟨rfl, rfl⟩)
      go_loopw [5, 6, 10] (fun v fv iv wi => ∃ (k f : Nat) (P : List (List UInt8)), iv = .int .i64 k ∧ fv = .int .i64 f ∧ f ≤ k ∧ pos ≤ k ∧ k ≤ pos + n ∧ P.length ≤ k ∧ wi.heap[w.heap.size]? = some (.stringIter s (pos + n)) ∧ wi.ownsRow w.heap.size 9 1 v P.length (strV P) ∧ Below w.heap.size w wi ∧ Hid (P ++ splitL b ((s.data.toList.drop f).take (k - f)) (s.data.toList.drop k) = piecesOf s b)) (fun _ _ iv _ => pos + n - (intOf iv).toNat)
      case atStart => exact ⟨pos, f, P, rfl, rfl, hfp, Nat.le_refl _, by omega, hP, HIT1.out, hown1, hb1, HR⟩
      case round =>
        clear HR hown hb hit hsz hnx hown1 hb1
        obtain ⟨k, f2, P2, rfl, rfl, hfk, hpk, hkn, hP2, hit2, hown2, hb2, HR2⟩ := hrel
        have hsz2 := hb2.size
        have HIT2 := Lib.hid hit2
        clear hit2
        by_cases hlt : k < pos + n
        · have hks : k < s.size := by omega
          have HD := Lib.hid (drop_cons s k hks)
          by_cases hc : s[k] = b
          · have HC := Lib.hid hc
            have hcb : ((s[k].toNat : Int) == (b.toNat : Int)) = true := by rw [hc]; simp
            clear hc
            go_wp2_with (go_at_call 30; refine (piece_any s f2 k _ hs hfk (by omega)).mono ?_)
            rintro e w3 ⟨rfl, hb3⟩
            have hown3 := ownsRow_below hown2 hb3
            have hsz3 := hb3.size
            have hb4 : Below w.heap.size w w3 := hb2.trans (hb3.mono hsz2)
            have HIT3 := Lib.hid (iter_below HIT2.out hb3)
            go_wp2_with (at_builtin; refine wpList_append_own _ rfl _ _ 29 rfl w.heap.size 9 i0 (.string ByteArray.empty) 1 16 Tryd.underlying29 hi hz0 hz1 hz2 rfl (by decide) _ _ _ rfl (hown3.alloc _) ⟨w3.heap.size, 0, none⟩ 1 1 [.string (s.extract f2 k)] rfl rfl ?c1 ?c2 ?c3 ?c4 ?c5 ?_)
            case c1 =>
              intro j u hj
              match j, hj with
              | 0, hj => simp at hj; subst hj; simp [Addr.add]
            case c2 => intro u hu; simp at hu; subst hu; rfl
            case c3 => unfold maxLen; omega
            case c4 => omega
            case c5 => simp; omega
            intro v' w5 hown' hgrow _
            go_wp2
            go_roundw
            case rel =>
              refine ⟨k + 1, k + 1, P2 ++ [(s.data.toList.drop f2).take (k - f2)], by go_num, by go_num, Nat.le_refl _, by omega, by omega, by simp; omega, ?_, ?_, (hb4.alloc (by omega) _).grown hgrow (by simp; omega) (fun k hk => (hown3.lt k hk).1), ?_⟩
              · have ha : (w3.alloc (.cells #[.string (s.extract f2 k)] 9)).heap[w.heap.size]? = some (.stringIter s (pos + n)) := by
                  rw [Below.heap_alloc _ _ _ (Array.getElem?_eq_some_iff.1 HIT3.out).1]; exact HIT3.out
                rw [hgrow.block _ (Array.getElem?_eq_some_iff.1 ha).1 (ownsRow_ne (hown3.alloc _) ha)]
                exact ha
              · rw [strV_snoc, ← extract_mk, List.length_append]; exact hown'
              · show _ = _
                rw [← HR2.out, HD.out, split_hit _ _ _ _ HC.out, List.append_assoc, Nat.sub_self, List.take_zero]; rfl
            case measure => simp [intOf]; omega
          · have hcb : ((s[k].toNat : Int) == (b.toNat : Int)) = false := beq_int_false (fun e => hc (UInt8.toNat_inj.1 (by omega)))
            go_wp2
            go_roundw
            case rel => exact ⟨k + 1, f2, P2, by go_num, rfl, by omega, by omega, by omega, by omega, HIT2.out, hown2, hb2, by show _ = _; rw [← HR2.out, HD.out, split_miss _ _ _ _ hc, take_more s f2 k hfk hks]⟩
            case measure => simp [intOf]; omega
        · obtain rfl : k = pos + n := by omega
          go_wp2
          go_roundw
          case rel => exact ⟨pos + n, f2, P2, rfl, hfk, hnle, hP2, HIT2.out, hown2, hb2, HR2⟩
          case measure =>
            simp only [World.iterPos, HIT2.out, HIT.out]
            omega
    · have hnx : ∀ ty, (Instr.next (.pointer (some ⟨w.heap.size, 0, none⟩)) true ty).run Tryd.prog wr = _ := fun ty => Lib.run_next_end_at wr w.heap.size s pos ty hit hp
      have HD := Lib.hid (drop_end s pos hp)
      have hk2 : pos = s.size := by omega
      have HE : Hid (P ++ [(s.data.toList.drop f).take (s.size - f)] = piecesOf s b) := by
        show _ = _
        rw [← HR.out, HD.out, hk2]; rfl
      clear hk2
      have hfs : f ≤ s.size := by omega
      go_wp2_with (go_at_call 30; refine (piece_any s f s.size _ hs hfs (Nat.le_refl _)).mono ?_)
      rintro e w3 ⟨rfl, hb3⟩
      have hown3 := ownsRow_below hown hb3
      have hsz3 := hb3.size
      have hb4 : Below w.heap.size w w3 := hb.trans (hb3.mono hsz)
      go_wp2_with (at_builtin; refine wpList_append_own _ rfl _ _ 29 rfl w.heap.size 9 i0 (.string ByteArray.empty) 1 16 Tryd.underlying29 hi hz0 hz1 hz2 rfl (by decide) _ _ _ rfl (hown3.alloc _) ⟨w3.heap.size, 0, none⟩ 1 1 [.string (s.extract f s.size)] rfl rfl ?c1 ?c2 ?c3 ?c4 ?c5 ?_)
      case c1 =>
        intro j u hj
        match j, hj with
        | 0, hj => simp at hj; subst hj; simp [Addr.add]
      case c2 => intro u hu; simp at hu; subst hu; rfl
      case c3 => unfold maxLen; omega
      case c4 => omega
      case c5 => simp; omega
      intro v' w2 hown' hgrow _
      go_wp2
      go_ret
      refine ⟨v', rfl, ?_, (hb4.alloc (by omega) _).grown hgrow (by simp; omega) (fun k hk => (hown3.lt k hk).1)⟩
      rw [← HE.out, strV_snoc, ← extract_mk, List.length_append]; exact hown'
end Go.Proofs.YtfeoljcinibkpaaDoor
