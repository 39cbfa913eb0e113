/-
  Package version: Print: it returns the string of a valid version, and the empty string for any other; nothing that was there is changed. Conditions: strings of at most a million bytes; the library's table of powers of ten reads as it is laid.
-/
import Derived.Test.YtndjdmbbndcohaaDoorVMay
import Derived.Test.YtndjdmbbndcohaaDoorJoin
import Derived.Test.YtndjdmbbndcohaaDoorClone
namespace Go.Proofs.YtndjdmbbndcohaaDoor
open Go.RowKit

def digs (a b c : Int) : List (List UInt8) := [Lib.itoa a, Lib.itoa b, Lib.itoa c]
theorem digs_snoc (a b c : Int) (k : Nat) (hk : k < 3) : (digs a b c).take (k + 1) = (digs a b c).take k ++ [Lib.itoa (nth3 a b c k)] := by
  match k, hk with
  | 0, _ => rfl
  | 1, _ => rfl
  | 2, _ => rfl
theorem digs_len (a b c : Int) (k : Nat) (hk : k ≤ 3) : ((digs a b c).take k).length = k := by
  rw [List.length_take]; simp [digs]; omega
theorem join_digs (a b c : Int) : joinL 46 (digs a b c) = Lib.itoa a ++ 46 :: (Lib.itoa b ++ 46 :: Lib.itoa c) := rfl
theorem digits_mk (n : Int) (h0 : -9223372036854775808 ≤ n) (h1 : n ≤ 9223372036854775807) (w : World) (ht : HasTab w) :
    Calls Tryd.prog 30 #[.int .i64 n] w fun e w' => e = .returned (.string (mkS (Lib.itoa n))) ∧ Below w.heap.size w w' := digits_any n h0 h1 w ht
theorem dec_len (n : Nat) (h : n ≤ 9999) : (Lib.decDigits n).length ≤ 4 := by
  rw [Lib.decDigits_length]
  unfold Lib.nDigits
  split
  · omega
  · unfold Lib.nDigits
    split
    · omega
    · unfold Lib.nDigits
      split
      · omega
      · rw [Lib.nDigits_small (by omega)]; omega
theorem itoa_len {n : Int} (h : numOkI n = true) : (Lib.itoa n).length ≤ 4 := by
  rw [itoa_nat h]
  apply dec_len
  unfold numOkI at h; simp at h; omega
theorem nums_len {a b c : Int} (h1 : numOkI a = true) (h2 : numOkI b = true) (h3 : numOkI c = true) : (joinL 46 (digs a b c)).length ≤ 14 := by
  rw [join_digs]
  have := itoa_len h1; have := itoa_len h2; have := itoa_len h3
  simp; omega

set_option maxHeartbeats 4000000 in
set_option maxRecDepth 100000 in
theorem print_good (v : Ver) (w : World) (hp : v.pre.length ≤ 1000000) (hq : v.build.length ≤ 1000000) (hm : v.may = true) (ht : HasTab w) :
    Calls Tryd.prog 16 #[verV v] w fun e w' => e = .returned (.string (mkS v.text)) ∧ Below w.heap.size w w' := by
  obtain ⟨i0, hi, hz0, hz1, hz2⟩ := info_parts infoStr
  have cM := fun w' => may_any v w' (by omega) (by omega)
  have cN := fun w' => numbers_any v w'
  obtain ⟨n1, n2, n3⟩ := may_nums hm
  have hT : v.text = joinL 46 (digs v.maj v.min v.pat) ++ tailS 45 v.pre ++ tailS 43 v.build := rfl
  obtain ⟨a, b, c, p, q⟩ := v
  rw [hm] at cM
  unfold verV at cN cM ⊢
  dsimp only at cN cM hp hq n1 n2 n3 hT ⊢
  have hjl := nums_len n1 n2 n3
  have HT := Lib.hid hT
  have H1 := Lib.hid n1
  have H2 := Lib.hid n2
  have H3 := Lib.hid n3
  clear hT hm n1 n2 n3
  go_enter Tryd.func16, Tryd.ntmps16
  go_wp2_with (first
    | (go_at_call 10; refine (cM _).mono ?_; rintro e w1 ⟨rfl, hb1⟩; have hg1 := Lib.hid ((hb1.block w.heap.size (by simp)).trans (heap_new w _)))
    | (refine wpList_load_row rfl 24 _ rfl w.heap.size rfl _ _ _ _ hg1.out Tryd.underlying24 rfl (by kernel_rfl) ?_)
    | (go_at_call 20; refine (cN _).mono ?_; rintro e w2 ⟨rfl, hb2⟩))
  have hbw1 : Below w.heap.size w w1 := ((Below.refl _ _).alloc (Nat.le_refl _) _).trans (hb1.mono (by simp))
  have hsw : w.heap.size < w1.heap.size := by have := hb1.size; rw [size_box] at this; omega
  have hsw2 : w.heap.size < w2.heap.size := Nat.lt_of_lt_of_le hsw hb2.size
  have hg2 := Lib.hid ((hb2.block w.heap.size hsw).trans hg1.out)
  have ht2 : HasTab w2 := (ht.on hbw1).on hb2
  go_loopw [3, 12] (fun v x wr => ∃ k : Nat, k ≤ 3 ∧ x = .int .i64 k ∧ wr.ownsRow w2.heap.size 9 1 v k (strV ((digs a b c).take k)) ∧ Below w2.heap.size w2 wr) (fun _ x _ => 3 - (intOf x).toNat)
  case atStart => exact ⟨0, by omega, rfl, ⟨rfl, Or.inl ⟨rfl, rfl⟩⟩, Below.refl _ _⟩
  case round =>
    obtain ⟨k, hk, rfl, hown, hbel⟩ := hrel
    have hsz := hbel.size
    by_cases hk3 : k < 3
    · have hki : (k : Int) < 3 := by omega
      have hix : ∀ w, (Instr.index 46 (.agg #[.int .i64 a, .int .i64 b, .int .i64 c]) (.int .i64 k)).run Tryd.prog w = .ok (.int .i64 (nth3 a b c k)) w := ix_num a b c k hk3
      have hnb : 0 ≤ nth3 a b c k ∧ nth3 a b c k ≤ 9999 := by
        have h1 := H1.out; have h2 := H2.out; have h3 := H3.out
        unfold numOkI at h1 h2 h3; simp at h1 h2 h3
        unfold nth3; split
        · exact h1
        · split
          · exact h2
          · exact h3
      obtain ⟨hn0, hn9⟩ := hnb
      go_wp2_with (first
        | (go_at_call 30; refine (digits_mk _ (by omega) (by omega) _ (ht2.on hbel)).mono ?_; rintro e w3 ⟨rfl, hb3⟩; have hown3 := ownsRow_below hown hb3; have hsz3 := hb3.size)
        | (at_builtin; refine wpList_append_own _ rfl _ _ 55 rfl w2.heap.size 9 i0 (.string ByteArray.empty) 1 16 Tryd.underlying55 hi hz0 hz1 hz2 rfl (by decide) _ _ _ rfl (hown3.alloc _) ⟨w3.heap.size, 0, none⟩ 1 1 [.string (mkS (Lib.itoa (nth3 a b c k)))] rfl rfl ?c1 ?c2 ?c3 ?c4 ?c5 ?_))
      case c1 =>
        intro j u hj
        match j, hj with
        | 0, hj => simp at hj; subst hj; simp [Addr.add]
      case c2 => intro u hu; simp at hu; subst hu; rfl
      case c3 => unfold maxLen; omega
      case c4 => omega
      case c5 => simp; omega
      intro v' w5 hown' hgrow _
      go_wp2
      go_roundw
      case rel =>
        refine ⟨k + 1, by omega, by go_num, ?_, ((hbel.trans (hb3.mono hsz)).alloc (by omega) _).grown hgrow (by simp; omega) (fun k hk => (hown3.lt k hk).1)⟩
        rw [digs_snoc a b c k hk3, strV_snoc]; exact hown'
      case measure => simp [intOf]; omega
    · obtain rfl : k = 3 := by omega
      have hki : ¬ (((3 : Nat) : Int) < 3) := by omega
      have hrd := ReadsT.of_own (l := digs a b c) hown
      have hg3 := Lib.hid ((hbel.block w.heap.size hsw2).trans hg2.out)
      have hbww : Below w.heap.size w w2 := hbw1.trans (hb2.mono (by omega))
      have hj0 : (mkS (joinL 46 (digs a b c))).size ≤ 14 := by rw [mkS_sz]; exact hjl
      have hp0 : (mkS p).size ≤ 1000000 := by rw [mkS_sz]; exact hp
      have hq0 : (mkS q).size ≤ 1000000 := by rw [mkS_sz]; exact hq
      have hp1 : ((⟨#[45]⟩ : ByteArray) ++ mkS p).size ≤ 1000001 := by rw [ByteArray.size_append]; show 1 + _ ≤ _; omega
      have hq1 : ((⟨#[43]⟩ : ByteArray) ++ mkS q).size ≤ 1000001 := by rw [ByteArray.size_append]; show 1 + _ ≤ _; omega
      have hjp : (mkS (joinL 46 (digs a b c)) ++ ((⟨#[45]⟩ : ByteArray) ++ mkS p)).size ≤ 1000015 := by rw [ByteArray.size_append]; omega
      by_cases hpe : p = []
      · have hpb : (mkS p).toList.isEmpty = true := by rw [Lib.toList_data, mk_data, hpe]; rfl
        have HPT := Lib.hid (show tailS 45 p = [] by rw [hpe]; rfl)
        clear hpe
        by_cases hqe : q = []
        · have hqb : (mkS q).toList.isEmpty = true := by rw [Lib.toList_data, mk_data, hqe]; rfl
          have HQT := Lib.hid (show tailS 43 q = [] by rw [hqe]; rfl)
          clear hqe
          go_wp2_with (go_at_call 31; refine (join_any _ (digs a b c) 46 _ hrd (by omega) (by simp [digs])).mono ?_; rintro e w4 ⟨rfl, hb4⟩; obtain ⟨c3, f3⟩ := cell_row (j := 3) ((hb4.block w.heap.size (by omega)).trans hg3.out) (by simp); obtain ⟨c4, f4⟩ := cell_row (j := 4) ((hb4.block w.heap.size (by omega)).trans hg3.out) (by simp); simp only [List.getElem_toArray, List.getElem_cons_succ, List.getElem_cons_zero] at c3 c4)
          go_ret
          exact ⟨ret_str (by rw [HT.out, HPT.out, HQT.out]; simp), (hbww.trans (hbel.mono (by omega))).trans (hb4.mono (by omega))⟩
        · have hqb : (mkS q).toList.isEmpty = false := by rw [Lib.toList_data, mk_data]; exact List.isEmpty_eq_false_iff.2 hqe
          have HQT := Lib.hid (show tailS 43 q = 43 :: q by unfold tailS; rw [if_neg (by simpa using hqe)])
          clear hqe
          go_wp2_with (go_at_call 31; refine (join_any _ (digs a b c) 46 _ hrd (by omega) (by simp [digs])).mono ?_; rintro e w4 ⟨rfl, hb4⟩; obtain ⟨c3, f3⟩ := cell_row (j := 3) ((hb4.block w.heap.size (by omega)).trans hg3.out) (by simp); obtain ⟨c4, f4⟩ := cell_row (j := 4) ((hb4.block w.heap.size (by omega)).trans hg3.out) (by simp); simp only [List.getElem_toArray, List.getElem_cons_succ, List.getElem_cons_zero] at c3 c4)
          go_ret
          exact ⟨ret_str (by rw [HT.out, HPT.out, HQT.out, show (⟨#[43]⟩ : ByteArray) = mkS [43] from rfl, mkS_append, mkS_append]; simp), (hbww.trans (hbel.mono (by omega))).trans (hb4.mono (by omega))⟩
      · have hpb : (mkS p).toList.isEmpty = false := by rw [Lib.toList_data, mk_data]; exact List.isEmpty_eq_false_iff.2 hpe
        have HPT := Lib.hid (show tailS 45 p = 45 :: p by unfold tailS; rw [if_neg (by simpa using hpe)])
        clear hpe
        by_cases hqe : q = []
        · have hqb : (mkS q).toList.isEmpty = true := by rw [Lib.toList_data, mk_data, hqe]; rfl
          have HQT := Lib.hid (show tailS 43 q = [] by rw [hqe]; rfl)
          clear hqe
          go_wp2_with (go_at_call 31; refine (join_any _ (digs a b c) 46 _ hrd (by omega) (by simp [digs])).mono ?_; rintro e w4 ⟨rfl, hb4⟩; obtain ⟨c3, f3⟩ := cell_row (j := 3) ((hb4.block w.heap.size (by omega)).trans hg3.out) (by simp); obtain ⟨c4, f4⟩ := cell_row (j := 4) ((hb4.block w.heap.size (by omega)).trans hg3.out) (by simp); simp only [List.getElem_toArray, List.getElem_cons_succ, List.getElem_cons_zero] at c3 c4)
          go_ret
          exact ⟨ret_str (by rw [HT.out, HPT.out, HQT.out, show (⟨#[45]⟩ : ByteArray) = mkS [45] from rfl, mkS_append, mkS_append]; simp), (hbww.trans (hbel.mono (by omega))).trans (hb4.mono (by omega))⟩
        · have hqb : (mkS q).toList.isEmpty = false := by rw [Lib.toList_data, mk_data]; exact List.isEmpty_eq_false_iff.2 hqe
          have HQT := Lib.hid (show tailS 43 q = 43 :: q by unfold tailS; rw [if_neg (by simpa using hqe)])
          clear hqe
          go_wp2_with (go_at_call 31; refine (join_any _ (digs a b c) 46 _ hrd (by omega) (by simp [digs])).mono ?_; rintro e w4 ⟨rfl, hb4⟩; obtain ⟨c3, f3⟩ := cell_row (j := 3) ((hb4.block w.heap.size (by omega)).trans hg3.out) (by simp); obtain ⟨c4, f4⟩ := cell_row (j := 4) ((hb4.block w.heap.size (by omega)).trans hg3.out) (by simp); simp only [List.getElem_toArray, List.getElem_cons_succ, List.getElem_cons_zero] at c3 c4)
          go_ret
          exact ⟨ret_str (by rw [HT.out, HPT.out, HQT.out, show (⟨#[45]⟩ : ByteArray) = mkS [45] from rfl, show (⟨#[43]⟩ : ByteArray) = mkS [43] from rfl, mkS_append, mkS_append, mkS_append, mkS_append]; simp), (hbww.trans (hbel.mono (by omega))).trans (hb4.mono (by omega))⟩

theorem print_none (v : Ver) (w : World) (hp : v.pre.length ≤ 1000000) (hq : v.build.length ≤ 1000000) (hm : v.may = false) :
    Calls Tryd.prog 16 #[verV v] w fun e w' => e = .returned (.string (mkS [])) ∧ Below w.heap.size w w' := by
  have cM := fun w' => may_any v w' (by omega) (by omega)
  rw [hm] at cM
  obtain ⟨a, b, c, p, q⟩ := v
  unfold verV at cM ⊢
  dsimp only at cM ⊢
  clear hm
  go_enter Tryd.func16, Tryd.ntmps16
  go_wp2_with (go_at_call 10; refine (cM _).mono ?_; rintro e w1 ⟨rfl, hb1⟩)
  go_ret
  exact ⟨rfl, ((Below.refl _ _).alloc (Nat.le_refl _) _).trans (hb1.mono (by simp))⟩

/-- Print, for every version. -/
theorem vprint_any (v : Ver) (w : World) (hp : v.pre.length ≤ 1000000) (hq : v.build.length ≤ 1000000) (ht : HasTab w) :
    Calls Tryd.prog 16 #[verV v] w fun e w' => e = .returned (.string (mkS v.print)) ∧ Below w.heap.size w w' := by
  cases hm : v.may with
  | true => rw [print_eq hm]; exact print_good v w hp hq hm ht
  | false => rw [print_bad hm]; exact print_none v w hp hq hm
end Go.Proofs.YtndjdmbbndcohaaDoor
