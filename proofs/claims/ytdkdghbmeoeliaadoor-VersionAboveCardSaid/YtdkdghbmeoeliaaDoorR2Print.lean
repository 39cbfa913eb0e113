/-
  The document's own answer for chapter 2 (linchpinref2): place, three, Numbers and Print. Conditions: strings of at most a million bytes.
-/
import Derived.Test.YtdkdghbmeoeliaaDoorR2May
import Derived.Test.YtdkdghbmeoeliaaDoorVPrint
import Derived.Test.YtdkdghbmeoeliaaDoorVParse
import Derived.Deep.RegionHeld3
import Derived.Outline
namespace Go.Proofs.YtdkdghbmeoeliaaDoor
open Go.RowKit

set_option maxHeartbeats 1000000 in
theorem rplace_any (s : List UInt8) (c : UInt8) (w : World) (hs : s.length ≤ 1000000) :
    Calls Tryd.prog 36 #[.string (mkS s), .int .u8 c.toNat] w fun e w' => e = .returned (.int .i64 ((cutAt c s).1.length : Nat)) ∧ w = w' := by
  have hz : (mkS s).size ≤ 1000000 := by rw [mkS_sz]; exact hs
  have HZ := Lib.hid (mkS_sz s)
  go_enter Tryd.func36, Tryd.ntmps36
  go_wp2
  go_loop [5] (fun i => ∃ k : Nat, k ≤ (mkS s).size ∧ i = .int .i64 k ∧ Hid (k + (cutAt c (s.drop k)).1.length = (cutAt c s).1.length)) (fun i => (mkS s).size - (intOf i).toNat)
  case atStart => exact ⟨0, Nat.zero_le _, rfl, by show 0 + _ = _; rw [List.drop_zero, Nat.zero_add]⟩
  case round =>
    obtain ⟨k, hk, rfl, HR⟩ := hrel
    by_cases hp : k < (mkS s).size
    · have hd0 := drop_cons (mkS s) k hp
      rw [mk_data] at hd0
      have HD := Lib.hid hd0
      clear hd0
      by_cases hc : (mkS s)[k]'hp = c
      · have hcb : ((((mkS s)[k]'hp).toNat : Int) == (c.toNat : Int)) = true := by rw [hc]; simp
        have hk2 : k = (cutAt c s).1.length := by
          rw [← HR.out, HD.out, hc, cutAt, if_pos rfl]; rfl
        have HK := Lib.hid hk2
        clear hc hk2
        go_wp2
        go_ret
        exact ⟨ret_int (by rw [← HK.out]), rfl⟩
      · have hcb : ((((mkS s)[k]'hp).toNat : Int) == (c.toNat : Int)) = false := beq_int_false (fun e => hc (UInt8.toNat_inj.1 (by omega)))
        have hq : k + 1 + (cutAt c (s.drop (k + 1))).1.length = (cutAt c s).1.length := by
          rw [← HR.out, HD.out, cutAt, if_neg hc]; simp; omega
        have HQ := Lib.hid hq
        clear hc hq
        go_wp2
        go_round
        case rel => exact ⟨k + 1, by omega, by go_num, HQ.out⟩
        case measure => simp [intOf]; omega
    · have hd0 := drop_end (mkS s) k hp
      rw [mk_data] at hd0
      have hk2 : (mkS s).size = (cutAt c s).1.length := by
        rw [← HR.out, hd0]; show _ = k + 0; omega
      have HK := Lib.hid hk2
      clear hd0 hk2
      go_wp2
      go_ret
      exact ⟨ret_int (by rw [← HK.out]), rfl⟩

def triV (l : List (List UInt8)) : Ver := if l.length = 3 then ⟨numD (tg l 0), numD (tg l 1), numD (tg l 2), [], []⟩ else Ver.zero
def triB (l : List (List UInt8)) : Bool := decide (l.length = 3) && (numI (tg l 0) && numI (tg l 1) && numI (tg l 2))
theorem tg_get (l : List (List UInt8)) (k : Nat) (h : k < l.length) : l[k] = tg l k := by unfold tg; rw [List.getElem?_eq_getElem h]; rfl

set_option maxHeartbeats 2000000 in
set_option maxRecDepth 100000 in
theorem rthree_any (g : Nat) (cap : Nat) (l : List (List UInt8)) (w : World) (hlt : g < w.heap.size) (hc : ∀ j (h : j < l.length), w.cell? ⟨g, j, none⟩ = some (.string (mkS l[j]))) (hx : ∀ x ∈ l, x.length ≤ 1000000) :
    Calls Tryd.prog 37 #[.slice (some ⟨g, 0, none⟩) l.length cap] w fun e w' => e = .returned (.tuple #[verV (triV l), .bool (triB l)]) ∧ Below w.heap.size w w' := by
  by_cases h3 : l.length = 3
  · have k0 := hc 0 (by omega)
    have k1 := hc 1 (by omega)
    have k2 := hc 2 (by omega)
    rw [tg_get] at k0 k1 k2
    have t0 : (tg l 0).length ≤ maxLen := by have := hx _ (List.getElem_mem (by omega : 0 < l.length)); rw [tg_get] at this; unfold maxLen; omega
    have t1 : (tg l 1).length ≤ maxLen := by have := hx _ (List.getElem_mem (by omega : 1 < l.length)); rw [tg_get] at this; unfold maxLen; omega
    have t2 : (tg l 2).length ≤ maxLen := by have := hx _ (List.getElem_mem (by omega : 2 < l.length)); rw [tg_get] at this; unfold maxLen; omega
    have n0 := fun w' => rnumber_mk (tg l 0) w' t0
    have n1 := fun w' => rnumber_mk (tg l 1) w' t1
    have n2 := fun w' => rnumber_mk (tg l 2) w' t2
    have HV : Hid (triV l = ⟨numD (tg l 0), numD (tg l 1), numD (tg l 2), [], []⟩) := by show _ = _; unfold triV; rw [if_pos h3]
    have HB : Hid (triB l = (numI (tg l 0) && numI (tg l 1) && numI (tg l 2))) := by show _ = _; unfold triB; rw [decide_eq_true h3, Bool.true_and]
    obtain ⟨x0, e0⟩ : ∃ x, numD (tg l 0) = x := ⟨_, rfl⟩
    obtain ⟨x1, e1⟩ : ∃ x, numD (tg l 1) = x := ⟨_, rfl⟩
    obtain ⟨x2, e2⟩ : ∃ x, numD (tg l 2) = x := ⟨_, rfl⟩
    obtain ⟨g0, d0⟩ : ∃ x, numI (tg l 0) = x := ⟨_, rfl⟩
    obtain ⟨g1, d1⟩ : ∃ x, numI (tg l 1) = x := ⟨_, rfl⟩
    obtain ⟨g2, d2⟩ : ∃ x, numI (tg l 2) = x := ⟨_, rfl⟩
    rw [e0, d0] at n0
    rw [e1, d1] at n1
    rw [e2, d2] at n2
    rw [e0, e1, e2] at HV
    rw [d0, d1, d2] at HB
    have HL := Lib.hid h3
    rw [h3]
    have q0 : ∀ o1 o2, ((w.alloc o1).alloc o2).cell? ⟨g, 0, none⟩ = some (.string (mkS (tg l 0))) := fun o1 o2 => by
      rw [World.cell?_alloc_lt _ _ _ (by rw [size_box]; show g < _; omega), World.cell?_alloc_lt _ _ _ hlt]; exact k0
    have q1 : ∀ o1 o2, ((w.alloc o1).alloc o2).cell? ⟨g, 1, none⟩ = some (.string (mkS (tg l 1))) := fun o1 o2 => by
      rw [World.cell?_alloc_lt _ _ _ (by rw [size_box]; show g < _; omega), World.cell?_alloc_lt _ _ _ hlt]; exact k1
    have q2 : ∀ o1 o2, ((w.alloc o1).alloc o2).cell? ⟨g, 2, none⟩ = some (.string (mkS (tg l 2))) := fun o1 o2 => by
      rw [World.cell?_alloc_lt _ _ _ (by rw [size_box]; show g < _; omega), World.cell?_alloc_lt _ _ _ hlt]; exact k2
    clear e0 e1 e2 d0 d1 d2 hc h3 hx k0 k1 k2
    go_enter Tryd.func37, Tryd.ntmps37
    go_wp2_with fail
    refine (n0 _).mono ?_
    rintro e w1 ⟨rfl, rfl⟩
    go_wp2_with fail
    refine (n1 _).mono ?_
    rintro e w1 ⟨rfl, rfl⟩
    go_wp2_with fail
    refine (n2 _).mono ?_
    rintro e w1 ⟨rfl, rfl⟩
    cases g0 <;> cases g1
    all_goals
      go_wp2
      exact bodyPost_ret (v := .tuple #[verV (triV l), .bool (triB l)]) (by rw [HV.out, HB.out]; simp [results, Tryd.results37, go_sem, verV, mkS]) rfl ⟨rfl, ((Below.refl _ _).alloc (Nat.le_refl _) _).alloc (by simp) _⟩
  · have h3i : ((l.length : Int) != 3) = true := by simp; omega
    have HV : Hid (triV l = Ver.zero) := by show _ = _; unfold triV; rw [if_neg h3]
    have HB : Hid (triB l = false) := by show _ = _; unfold triB; rw [decide_eq_false h3]; rfl
    clear h3 hc
    go_enter Tryd.func37, Tryd.ntmps37
    go_wp2
    exact bodyPost_ret (v := .tuple #[verV (triV l), .bool (triB l)]) (by rw [HV.out, HB.out]; simp [results, Tryd.results37, go_sem, verV, Ver.zero, mkS]) rfl ⟨rfl, ((Below.refl _ _).alloc (Nat.le_refl _) _).alloc (by simp) _⟩

theorem one_keep {w w' w2 : World} {v1 v2 v3 : Value} (hS : w'.cell? ⟨w.heap.size, 0, none⟩ = some v1 ∧ w'.cell? ⟨w.heap.size, 1, none⟩ = some v2 ∧ w'.cell? ⟨w.heap.size, 2, none⟩ = some v3 ∧ Below w.heap.size w w' ∧ w.heap.size < w'.heap.size) (hb : Below w'.heap.size w' w2) : w2.cell? ⟨w.heap.size, 0, none⟩ = some v1 ∧ w2.cell? ⟨w.heap.size, 1, none⟩ = some v2 ∧ w2.cell? ⟨w.heap.size, 2, none⟩ = some v3 ∧ Below w.heap.size w w2 ∧ w.heap.size < w2.heap.size := by
  obtain ⟨a0, a1, a2, h, hA⟩ := hS
  have k : ∀ C i v, C < w'.heap.size → w'.cell? ⟨C, i, none⟩ = some v → w2.cell? ⟨C, i, none⟩ = some v := fun C i v hC e => (hb.cell (p := ⟨C, i, none⟩) hC).trans e
  exact ⟨k _ _ _ hA a0, k _ _ _ hA a1, k _ _ _ hA a2, h.trans (hb.mono h.size), Nat.lt_of_lt_of_le hA hb.size⟩
theorem one_start (w : World) (v1 v2 v3 v4 v5 : Value) (T : TypeId) : (w.alloc (.cells #[v1, v2, v3, v4, v5] T)).drew.cell? ⟨w.heap.size, 0, none⟩ = some v1 ∧ (w.alloc (.cells #[v1, v2, v3, v4, v5] T)).drew.cell? ⟨w.heap.size, 1, none⟩ = some v2 ∧ (w.alloc (.cells #[v1, v2, v3, v4, v5] T)).drew.cell? ⟨w.heap.size, 2, none⟩ = some v3 ∧ Below w.heap.size w (w.alloc (.cells #[v1, v2, v3, v4, v5] T)).drew ∧ w.heap.size < (w.alloc (.cells #[v1, v2, v3, v4, v5] T)).drew.heap.size := by
  have h0 : (w.alloc (.cells #[v1, v2, v3, v4, v5] T)).drew.heap[w.heap.size]? = some (.cells #[v1, v2, v3, v4, v5] T) := heap_new w _
  have k0 : ∀ i v, (#[v1, v2, v3, v4, v5] : Array Value)[i]? = some v → (w.alloc (.cells #[v1, v2, v3, v4, v5] T)).drew.cell? ⟨w.heap.size, i, none⟩ = some v := fun i v e => (cell_of_row _ _ i _ _ _ h0).trans e
  have hs : (w.alloc (.cells #[v1, v2, v3, v4, v5] T)).drew.heap.size = w.heap.size + 1 := size_box w _
  have hB : Below w.heap.size w (w.alloc (.cells #[v1, v2, v3, v4, v5] T)) := (Below.refl _ w).alloc (Nat.le_refl _) _
  exact ⟨k0 0 _ rfl, k0 1 _ rfl, k0 2 _ rfl, ⟨hB.os, hB.tape, hB.output, hB.size, hB.block⟩, by omega⟩
theorem rdigits_mk (n : Int) (h : numOkI n = true) (w : World) :
    Calls Tryd.prog 65 #[.int .i64 n] w fun e w' => e = .returned (.string (mkS (Lib.itoa n))) ∧ Below w.heap.size w w' := by
  unfold numOkI at h; simp at h
  exact rdigits_any n (by omega) (by omega) w
theorem numsL_mk (a b c : Int) (p q : List UInt8) : mkS (numsL ⟨a, b, c, p, q⟩) = mkS (Lib.itoa a) ++ ⟨#[46]⟩ ++ mkS (Lib.itoa b) ++ ⟨#[46]⟩ ++ mkS (Lib.itoa c) := by
  rw [show (⟨#[46]⟩ : ByteArray) = mkS [46] from rfl, mkS_append, mkS_append, mkS_append, mkS_append]
  congr 1
  unfold numsL
  simp

set_option maxHeartbeats 4000000 in
set_option maxRecDepth 100000 in
theorem rnumbers_any (v : Ver) (w : World) (h1 : numOkI v.maj = true) (h2 : numOkI v.min = true) (h3 : numOkI v.pat = true) :
    Calls Tryd.prog 46 #[verV v] w fun e w' => e = .returned (.string (mkS (numsL v))) ∧ Below w.heap.size w w' := by
  obtain ⟨a, b, c, p, q⟩ := v
  have HN := Lib.hid (numsL_mk a b c p q)
  dsimp only at h1 h2 h3
  have cA := fun w' => rdigits_mk a h1 w'
  have cB := fun w' => rdigits_mk b h2 w'
  have cC := fun w' => rdigits_mk c h3 w'
  have la := itoa_len h1
  have lb := itoa_len h2
  have lc := itoa_len h3
  rw [← mkS_sz] at la lb lc
  unfold verV
  dsimp only
  obtain ⟨x, hx⟩ : ∃ x, mkS (Lib.itoa a) = x := ⟨_, rfl⟩
  obtain ⟨y, hy⟩ : ∃ x, mkS (Lib.itoa b) = x := ⟨_, rfl⟩
  obtain ⟨z, hz⟩ : ∃ x, mkS (Lib.itoa c) = x := ⟨_, rfl⟩
  rw [hx] at cA la HN
  rw [hy] at cB lb HN
  rw [hz] at cC lc HN
  clear hx hy hz h1 h2 h3
  have s1 : (x ++ (⟨#[46]⟩ : ByteArray)).size ≤ 5 := by rw [ByteArray.size_append]; show x.size + 1 ≤ 5; omega
  have s2 : (x ++ (⟨#[46]⟩ : ByteArray) ++ y).size ≤ 9 := by rw [ByteArray.size_append]; omega
  have s3 : (x ++ (⟨#[46]⟩ : ByteArray) ++ y ++ (⟨#[46]⟩ : ByteArray)).size ≤ 10 := by rw [ByteArray.size_append]; show _ + 1 ≤ 10; omega
  go_enter Tryd.func46, Tryd.ntmps46
  go_wp2_with fail
  have hS0 := one_start w (.int .i64 a) (.int .i64 b) (.int .i64 c) (.string (mkS p)) (.string (mkS q)) 24
  go_region_with (first
      | (go_at_call 65; with_reducible refine (cA _).mono ?_; rintro e w1 ⟨rfl, hb1⟩; have hS1 := one_keep ‹_› hb1)
      | (go_at_call 65; with_reducible refine (cB _).mono ?_; rintro e w2 ⟨rfl, hb2⟩; have hS2 := one_keep ‹_› hb2))
  all_goals
    obtain ⟨_, _, k1, hbk1, _⟩ := hS1
    obtain ⟨_, _, k2, hbk2, _⟩ := hS2
    go_wp2_with (go_at_call 65; refine (cC _).mono ?_; rintro e w3 ⟨rfl, hb3⟩)
    go_ret
    first
      | exact ⟨ret_str HN.out.symm, hbk2.trans (hb3.mono hbk2.size)⟩
      | exact ⟨ret_str HN.out.symm, hbk1.trans (hb3.mono hbk1.size)⟩

set_option maxHeartbeats 4000000 in
set_option maxRecDepth 100000 in
theorem rprint_good (v : Ver) (w : World) (hp : v.pre.length ≤ 1000000) (hq : v.build.length ≤ 1000000) (hm : v.may = true) :
    Calls Tryd.prog 19 #[verV v] w fun e w' => e = .returned (.string (mkS v.text)) ∧ Below w.heap.size w w' := by
  have cM := fun w' => rmay_any v w' hp hq
  obtain ⟨n1, n2, n3⟩ := may_nums hm
  have cN := fun w' => rnumbers_any v w' n1 n2 n3
  have hT : v.text = numsL v ++ tailS 45 v.pre ++ tailS 43 v.build := rfl
  have hnl : (numsL v).length ≤ 14 := nums_len n1 n2 n3
  obtain ⟨J, hJ⟩ : ∃ J, numsL v = J := ⟨_, rfl⟩
  rw [hJ] at cN hT hnl
  obtain ⟨a, b, c, p, q⟩ := v
  rw [hm] at cM
  unfold verV at cN cM ⊢
  dsimp only at cN cM hp hq hT ⊢
  have HT := Lib.hid hT
  clear hT hm n1 n2 n3 hJ
  have hj0 : (mkS J).size ≤ 14 := by rw [mkS_sz]; exact hnl
  have hp0 : (mkS p).size ≤ 1000000 := by rw [mkS_sz]; exact hp
  have hq0 : (mkS q).size ≤ 1000000 := by rw [mkS_sz]; exact hq
  have hj1 : (mkS J ++ (⟨#[45]⟩ : ByteArray)).size ≤ 15 := by rw [ByteArray.size_append]; show _ + 1 ≤ _; omega
  have hj2 : (mkS J ++ (⟨#[45]⟩ : ByteArray) ++ mkS p).size ≤ 1000015 := by rw [ByteArray.size_append]; omega
  have hj3 : (mkS J ++ (⟨#[45]⟩ : ByteArray) ++ mkS p ++ (⟨#[43]⟩ : ByteArray)).size ≤ 1000016 := by rw [ByteArray.size_append]; show _ + 1 ≤ _; omega
  have hj4 : (mkS J ++ (⟨#[43]⟩ : ByteArray)).size ≤ 15 := by rw [ByteArray.size_append]; show _ + 1 ≤ _; omega
  have hpe0 : (mkS p).toList.isEmpty = p.isEmpty := by rw [Lib.toList_data, mk_data]
  have hqe0 : (mkS q).toList.isEmpty = q.isEmpty := by rw [Lib.toList_data, mk_data]
  have hcase : (p.isEmpty = true ∧ tailS 45 p = [] ∨ p.isEmpty = false ∧ tailS 45 p = 45 :: p) ∧ (q.isEmpty = true ∧ tailS 43 q = [] ∨ q.isEmpty = false ∧ tailS 43 q = 43 :: q) := by
    unfold tailS; cases p <;> cases q <;> simp
  obtain ⟨hc1, hc2⟩ := hcase
  rcases hc1 with ⟨e1, t1⟩ | ⟨e1, t1⟩ <;> rcases hc2 with ⟨e2, t2⟩ | ⟨e2, t2⟩
  all_goals
    rw [e1] at hpe0
    rw [e2] at hqe0
    have T1 := Lib.hid t1
    have T2 := Lib.hid t2
    clear t1 t2 e1 e2
    go_enter Tryd.func19, Tryd.ntmps19
    go_wp2_with fail
    refine (cM _).mono ?_
    rintro e w1 ⟨rfl, hb1⟩
    have hg1 := Lib.hid ((hb1.block w.heap.size (by simp)).trans (heap_new w _))
    have hbw1 : Below w.heap.size w w1 := ((Below.refl _ _).alloc (Nat.le_refl _) _).trans (hb1.mono (by simp))
    have hsw : w.heap.size < w1.heap.size := by have := hb1.size; rw [size_box] at this; omega
    go_wp2_with (first
      | (refine wpList_load_row rfl 24 _ rfl w.heap.size rfl _ _ _ _ hg1.out Tryd.underlying24 rfl (by kernel_rfl) ?_)
      | (go_at_call 46; refine (cN _).mono ?_; rintro e w2 ⟨rfl, hb2⟩; obtain ⟨c3, f3⟩ := cell_row (j := 3) ((hb2.block w.heap.size hsw).trans hg1.out) (by simp); obtain ⟨c4, f4⟩ := cell_row (j := 4) ((hb2.block w.heap.size hsw).trans hg1.out) (by simp); simp only [List.getElem_toArray, List.getElem_cons_succ, List.getElem_cons_zero] at c3 c4))
    go_ret
    exact ⟨ret_str (by rw [HT.out, T1.out, T2.out]; try rw [show (⟨#[45]⟩ : ByteArray) = mkS [45] from rfl]
                       try rw [show (⟨#[43]⟩ : ByteArray) = mkS [43] from rfl]
                       simp [mkS_append]), hbw1.trans (hb2.mono hbw1.size)⟩

theorem rprint_none (v : Ver) (w : World) (hp : v.pre.length ≤ 1000000) (hq : v.build.length ≤ 1000000) (hm : v.may = false) :
    Calls Tryd.prog 19 #[verV v] w fun e w' => e = .returned (.string (mkS [])) ∧ Below w.heap.size w w' := by
  have cM := fun w' => rmay_any v w' hp hq
  rw [hm] at cM
  obtain ⟨a, b, c, p, q⟩ := v
  unfold verV at cM ⊢
  dsimp only at cM ⊢
  clear hm
  go_enter Tryd.func19, Tryd.ntmps19
  go_wp2_with (go_at_call 18; refine (cM _).mono ?_; rintro e w1 ⟨rfl, hb1⟩)
  go_ret
  exact ⟨rfl, ((Below.refl _ _).alloc (Nat.le_refl _) _).trans (hb1.mono (by simp))⟩
theorem rprint_any (v : Ver) (w : World) (hp : v.pre.length ≤ 1000000) (hq : v.build.length ≤ 1000000) :
    Calls Tryd.prog 19 #[verV v] w fun e w' => e = .returned (.string (mkS v.print)) ∧ Below w.heap.size w w' := by
  cases hm : v.may with
  | true => rw [print_eq hm]; exact rprint_good v w hp hq hm
  | false => rw [print_bad hm]; exact rprint_none v w hp hq hm
end Go.Proofs.YtdkdghbmeoeliaaDoor
