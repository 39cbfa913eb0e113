/-
  Package version: digit, numeric and list: what they return for every string of at most 2^32 - 16 bytes; nothing that was there is changed.
-/
import Derived.Test.YtndjdmbbndcohaaDoorCut
import Derived.Test.YtndjdmbbndcohaaDoorNum
import Derived.Laws.Rows
import Derived.Outline
import Derived.Deep.LoopGhost
namespace Go.Proofs.YtndjdmbbndcohaaDoor
open Go.RowKit

theorem vdigit_is (r : Int) (b : Bool) (hb : digB r = b) (w : World) :
    Calls Tryd.prog 33 #[.int .i32 r] w fun e w' => e = .returned (.bool b) ∧ w = w' := by
  subst hb
  unfold digB
  go_enter Tryd.func33, Tryd.ntmps33
  go_wp2
  all_goals go_ret
  all_goals exact ⟨ret_bool (by simp; try omega), rfl⟩

theorem allDig_cons_ok (c : UInt8) (r : List UInt8) (h : digB c.toNat = true) : allDig (c :: r) = allDig r := by unfold allDig; rw [List.all_cons, h, Bool.true_and]
theorem allDig_cons_bad (c : UInt8) (r : List UInt8) (h : digB c.toNat = false) : allDig (c :: r) = false := by unfold allDig; rw [List.all_cons, h, Bool.false_and]

set_option maxHeartbeats 1000000 in
theorem vnumeric_any (s : ByteArray) (w : World) (_hs : s.size ≤ maxLen) :
    Calls Tryd.prog 35 #[.string s] w fun e w' => e = .returned (.bool (numer s.data.toList)) ∧ Below w.heap.size w w' := by
  go_enter Tryd.func35, Tryd.ntmps35
  go_wp2
  go_loopw [] (fun wr => ∃ (pos : Nat), wr = w.iter s pos ∧ pos ≤ s.size ∧ Hid (allDig (s.data.toList.drop pos) = allDig s.data.toList)) (fun wr => s.size - wr.iterPos w.heap.size)
  case atStart => exact ⟨0, rfl, Nat.zero_le _, rfl⟩
  case round =>
    obtain ⟨pos, rfl, hple, HR⟩ := hrel
    by_cases hp : pos < s.size
    · have HD := Lib.hid (drop_cons s pos hp)
      by_cases ha : (s[pos]'hp).toNat < 128
      · have hnx : ∀ ty, (Instr.next (.pointer (some ⟨w.heap.size, 0, none⟩)) true ty).run Tryd.prog (w.iter s pos) = _ := fun ty => run_next_ascii w s pos ty hp ha
        by_cases hd : digB (s[pos]'hp).toNat = true
        · have HG := Lib.hid hd
          clear hd
          go_wp2_with (go_at_call 33; refine (vdigit_is _ true HG.out _).mono ?_; rintro e w' ⟨rfl, rfl⟩)
          go_roundw
          case rel => exact ⟨pos + 1, rfl, by omega, by rw [← HR.out, HD.out, allDig_cons_ok _ _ HG.out]; rfl⟩
          case measure => simp; omega
        · have HG := Lib.hid (Bool.eq_false_iff.2 hd)
          clear hd
          go_wp2_with (go_at_call 33; refine (vdigit_is _ false HG.out _).mono ?_; rintro e w' ⟨rfl, rfl⟩)
          go_ret
          exact ⟨ret_bool (by unfold numer; rw [← HR.out, HD.out, allDig_cons_bad _ _ HG.out, Bool.and_false]), below_iter _ _ _⟩
      · have hnx : ∀ ty, (Instr.next (.pointer (some ⟨w.heap.size, 0, none⟩)) true ty).run Tryd.prog (w.iter s pos) = _ := fun ty => run_next_any w s pos ty hp
        have hhi := (decode_high s pos hp (by omega)).1
        have HG := Lib.hid (digB_hi _ hhi)
        go_wp2_with (go_at_call 33; refine (vdigit_is _ false HG.out _).mono ?_; rintro e w' ⟨rfl, rfl⟩)
        go_ret
        exact ⟨ret_bool (by unfold numer; rw [← HR.out, HD.out, allDig_cons_bad _ _ (digB_hi8 _ (by omega)), Bool.and_false]), below_iter _ _ _⟩
    · have hnx : ∀ ty, (Instr.next (.pointer (some ⟨w.heap.size, 0, none⟩)) true ty).run Tryd.prog (w.iter s pos) = _ := fun ty => run_next_end w s pos ty hp
      have HD := Lib.hid (drop_end s pos hp)
      go_wp2
      go_ret
      exact ⟨ret_bool (by unfold numer; rw [← HR.out, HD.out]; simp [allDig, Lib.toList_data]), below_iter _ _ _⟩
theorem mk_data (t : List UInt8) : (mkS t).data.toList = t := by unfold mkS; simp
theorem tagC_dig (c : UInt8) (h : digB c.toNat = true) : tagC c = true := by unfold tagC; rw [h]; simp
theorem tagC_let (c : UInt8) (h : letB c.toNat = true) : tagC c = true := by unfold tagC; rw [h]; simp
theorem tagC_dash (c : UInt8) (h : (c.toNat : Int) = 45) : tagC c = true := by unfold tagC; rw [decide_eq_true h]; simp
theorem tagC_bad (c : UInt8) (h1 : digB c.toNat = false) (h2 : letB c.toNat = false) (h3 : ¬ (c.toNat : Int) = 45) : tagC c = false := by unfold tagC; rw [h1, h2, decide_eq_false h3]; rfl
theorem all_ok (c : UInt8) (r : List UInt8) (h : tagC c = true) : (c :: r).all tagC = r.all tagC := by rw [List.all_cons, h, Bool.true_and]
theorem all_bad (c : UInt8) (r : List UInt8) (h : tagC c = false) : (c :: r).all tagC = false := by rw [List.all_cons, h, Bool.false_and]
def lcells (l : List (List UInt8)) : Array Value := #[.string (mkS (tg l 0)), .string (mkS (tg l 1)), .string (mkS (tg l 2)), .string (mkS (tg l 3))]

theorem tagOk_short {t : List UInt8} (h : t = []) : tagOk t = false := by subst h; decide
theorem tagOk_long {t : List UInt8} (h : 8 < t.length) : tagOk t = false := by
  unfold tagOk; rw [decide_eq_false (by omega)]; rfl
theorem tagOk_mid {t : List UInt8} (h : t ≠ []) (h2 : t.length ≤ 8) : tagOk t = t.all tagC := by
  unfold tagOk
  have : 1 ≤ t.length := by cases t <;> simp at h ⊢
  rw [decide_eq_true ⟨this, h2⟩, Bool.true_and]
theorem cutGo_bad (n : Nat) (s : List UInt8) (h : tagOk (cutAt 46 s).1 = false) : cutGo (n + 1) s = ([], false) := by
  unfold cutGo; rw [if_neg (by simp [h])]
theorem cutGo_last (n : Nat) (s : List UInt8) (h : tagOk (cutAt 46 s).1 = true) (h2 : (cutAt 46 s).2.2 = false) : cutGo (n + 1) s = ([(cutAt 46 s).1], true) := by
  unfold cutGo; rw [if_pos h, if_neg (by simp [h2])]
theorem cutGo_on (n : Nat) (s : List UInt8) (h : tagOk (cutAt 46 s).1 = true) (h2 : (cutAt 46 s).2.2 = true) : cutGo (n + 1) s = ((cutAt 46 s).1 :: (cutGo n (cutAt 46 s).2.1).1, (cutGo n (cutAt 46 s).2.1).2) := by
  rw [cutGo, if_pos h, if_pos h2]
theorem lcells_snoc (acc : List (List UInt8)) (x : List UInt8) (k : Nat) (hk : acc.length = k) (h4 : k < 4) : (lcells acc).setIfInBounds k (.string (mkS x)) = lcells (acc ++ [x]) := by
  subst hk
  match acc, h4 with
  | [], _ => rfl
  | [a], _ => rfl
  | [a, b], _ => rfl
  | [a, b, c], _ => rfl

def LRel (s : List UInt8) (w : World) (g : Nat) (s0 s5 s6 : Value) (wr : World) : Prop :=
  ∃ (acc : List (List UInt8)) (r : List UInt8) (k : Nat) (b : Bool), k + g = 4 ∧ s0 = .string (mkS r) ∧ s5 = .bool b ∧ s6 = .int .i64 k ∧ r.length ≤ s.length ∧
    wr.heap[w.heap.size]? = some (.cells (lcells []) 49) ∧ wr.heap[w.heap.size + 1]? = some (.cells (lcells acc) 49) ∧ Below w.heap.size w wr ∧
    (b = true → lst s = (acc, true)) ∧ (b = false → acc.length = k ∧ lst s = (acc ++ (cutGo (4 - k) r).1, (cutGo (4 - k) r).2))

theorem heap_new (w : World) (o : Obj) : (w.alloc o).heap[w.heap.size]? = some o := by
  show (w.heap.push o)[w.heap.size]? = some o
  simp
theorem heap_at (w : World) (o : Obj) (k : Nat) (h : k = w.heap.size) : (w.alloc o).heap[k]? = some o := by subst h; exact heap_new w o
theorem heap_old (w : World) (o : Obj) {k : Nat} (h : k < w.heap.size) : (w.alloc o).heap[k]? = w.heap[k]? := by
  show (w.heap.push o)[k]? = _
  rw [Array.getElem?_push, if_neg (by omega)]
theorem heap_iter (w : World) (s : ByteArray) (pos : Nat) {k : Nat} (h : k < w.heap.size) : (w.iter s pos).heap[k]? = w.heap[k]? := heap_old w _ h
theorem cell_row {w : World} {g j : Nat} {cs : Array Value} {t : TypeId} (hg : w.heap[g]? = some (.cells cs t (0, 0))) (hj : j < cs.size) : w.cell? ⟨g, j, none⟩ = some cs[j] ∧ w.frozen? ⟨g, j, none⟩ = false := by
  refine ⟨by rw [cell_of_row w g j cs t (0, 0) hg]; simp [hj], by simp [World.frozen?, hg]⟩
theorem below_setRow {B g : Nat} {a w : World} (h : Below B a w) (hg : B ≤ g) (cs : Array Value) : Below B a (w.setRow g cs) := by
  refine ⟨h.os, h.tape, h.output, ?_, fun k hk => ?_⟩
  · have := h.size; unfold World.setRow; simpa using this
  · rw [← h.block k hk]
    unfold World.setRow
    have : g ≠ k := by omega
    simp [Array.getElem?_modify, this]
theorem setRow_other (w : World) (g k : Nat) (cs : Array Value) (h : g ≠ k) : (w.setRow g cs).heap[k]? = w.heap[k]? := by
  unfold World.setRow
  simp [Array.getElem?_modify, h]
theorem lcells_size (l : List (List UInt8)) : (lcells l).size = 4 := rfl
theorem lcells_one (l : List (List UInt8)) : (lcells l).all (·.oneCell') = true := by simp [lcells, Value.oneCell']
def LEnd (s : List UInt8) (w : World) (e : Ending) (w' : World) : Prop := e = .returned (.tuple #[.agg (lcells (lst s).1), .bool (lst s).2]) ∧ Below w.heap.size w w'

theorem list_done {s : List UInt8} {w wr : World} {acc : List (List UInt8)} {b : Bool} {tmps : Array Value} (h2 : tmps.getD 2 undef = .pointer (some ⟨w.heap.size, 0, none⟩)) (h3 : tmps.getD 3 undef = .bool b)
    (hg : wr.heap[w.heap.size]? = some (.cells (lcells []) 49)) (hbel : Below w.heap.size w wr) (hl : lst s = (acc, b)) :
    bodyPost Tryd.prog Tryd.f21 (LEnd s w) .ret ⟨tmps, []⟩ (wr.setRow w.heap.size (lcells acc)) := by
  have hrow := setRow_heap wr w.heap.size _ (lcells acc) _ _ hg
  have hr := run_loadVar_row (P := Tryd.prog) (wr.setRow w.heap.size (lcells acc)) w.heap.size 49 49 (lcells acc) _ _ hrow Tryd.underlying49 rfl (by kernel_rfl)
  have h2' : tmps[2]?.getD undef = .pointer (some ⟨w.heap.size, 0, none⟩) := by simpa using h2
  have h3' : tmps[3]?.getD undef = .bool b := by simpa using h3
  refine bodyPost_ret (v := .tuple #[.agg (lcells acc), .bool b]) (by simp [results, Tryd.results21, asAddr, h2', h3', hr]) rfl ⟨by rw [hl], below_setRow hbel (Nat.le_refl _) _⟩

set_option maxHeartbeats 4000000 in
theorem list_any0 (s : List UInt8) (w : World) (hs : s.length < 4294967281) :
    Calls Tryd.prog 21 #[.string (mkS s)] w (LEnd s w) := by
  go_enter Tryd.func21, Tryd.ntmps21
  go_wp2
  go_step3
  go_wp2
  go_step3
  go_wp2
  go_loopg [0, 5, 6] 4 (fun g s0 s5 s6 wr => LRel s w g s0 s5 s6 wr)
  case atStart =>
    refine ⟨[], s, 0, s.isEmpty, by omega, rfl, ?_, rfl, Nat.le_refl _, ?_, ?_, ?_, ?_, ?_⟩
    · rw [Lib.toList_data]; rfl
    · rw [heap_old _ _ (by simp), heap_new]; rfl
    · exact heap_at _ _ _ (by simp)
    · exact ((Below.refl _ _).alloc (Nat.le_refl _) _).alloc (by simp) _
    · intro h; unfold lst; rw [if_pos h]
    · intro h; unfold lst; rw [if_neg (by simp [h])]; exact ⟨rfl, rfl⟩
  case round =>
    obtain ⟨acc, r, k, b, hkg, rfl, rfl, rfl, hrl, hB0, hB1, hbel, hT, hF⟩ := hrel
    have HB0 := Lib.hid hB0
    have HB1 := Lib.hid hB1
    clear hB0 hB1
    cases b with
    | true =>
      have HT := Lib.hid (hT rfl)
      clear hT hF
      by_cases hk4 : (k : Int) < 4
      all_goals
        go_wp2_with (first
          | (refine wpList_load_row rfl 49 _ rfl (w.heap.size + 1) rfl _ _ _ _ HB1.out Tryd.underlying49 rfl (by kernel_rfl) ?_)
          | (refine wpList_store_row rfl 49 _ _ rfl w.heap.size (lcells acc) rfl rfl _ _ HB0.out (by kernel_rfl) rfl (lcells_one acc) ?_))
        exact list_done rfl rfl HB0.out hbel HT.out
    | false =>
      have HKL := Lib.hid (hF rfl).1
      have HL := Lib.hid (hF rfl).2
      clear hT hF
      cases gk with
      | zero =>
        have hk4 : ¬ (k : Int) < 4 := by omega
        go_wp2_with (first
          | (refine wpList_load_row rfl 49 _ rfl (w.heap.size + 1) rfl _ _ _ _ HB1.out Tryd.underlying49 rfl (by kernel_rfl) ?_)
          | (refine wpList_store_row rfl 49 _ _ rfl w.heap.size (lcells acc) rfl rfl _ _ HB0.out (by kernel_rfl) rfl (lcells_one acc) ?_))
        exact list_done rfl rfl HB0.out hbel (by rw [HL.out, show 4 - k = 0 from by omega, cutGo, List.append_nil])
      | succ g =>
        have hk4 : (k : Int) < 4 := by omega
        obtain ⟨t, rest, more, hcut⟩ : ∃ t rest more, cutAt 46 r = (t, rest, more) := ⟨_, _, _, rfl⟩
        have hle := cutAt_le 46 r
        have cC := cutb_any r 46 wr (by omega)
        have hG : (∀ n, cutGo (n + 1) r = if tagOk t then (if more then (t :: (cutGo n rest).1, (cutGo n rest).2) else ([t], true)) else ([], false)) := by
          intro n; rw [cutGo, hcut]
        have HG := Lib.hid hG
        clear hG
        rw [hcut] at cC hle
        dsimp only at cC hle
        have htz : (mkS t).size = t.length := by unfold mkS; simp [ByteArray.size]
        have HC := Lib.hid hcut
        clear hcut
        have hsz0 : w.heap.size + 1 < wr.heap.size := (Array.getElem?_eq_some_iff.1 HB1.out).1
        by_cases ht0 : t = []
        · have hte : (mkS t).toList.isEmpty = true := by rw [Lib.toList_data, ht0]; rfl
          have hE : lst s = (acc, false) := by rw [HL.out, show 4 - k = (3 - k) + 1 from by omega, HG.out, tagOk_short ht0]; simp
          have HE := Lib.hid hE
          clear hE
          clear ht0
          go_wp2_with (first
            | (go_at_call 26; refine cC.mono ?_; rintro e w2 ⟨rfl, hb2⟩; have HB02 := Lib.hid ((hb2.block w.heap.size (by omega)).trans HB0.out); have HB12 := Lib.hid ((hb2.block (w.heap.size + 1) hsz0).trans HB1.out))
            | (refine wpList_load_row rfl 49 _ rfl (w.heap.size + 1) rfl _ _ _ _ HB12.out Tryd.underlying49 rfl (by kernel_rfl) ?_)
            | (refine wpList_store_row rfl 49 _ _ rfl w.heap.size (lcells acc) rfl rfl _ _ HB02.out (by kernel_rfl) rfl (lcells_one acc) ?_))
          exact list_done rfl rfl HB02.out (hbel.trans (hb2.mono hbel.size)) HE.out
        · have htn : (mkS t).toList.isEmpty = false := by
            rw [Lib.toList_data, mk_data]; cases t with
            | nil => exact absurd rfl ht0
            | cons _ _ => rfl
          by_cases h8 : t.length ≤ 8
          · have h8i : ¬ (8 : Int) < (mkS t).size := by omega
            have HA := Lib.hid (tagOk_mid ht0 h8)
            clear ht0
            go_wp2_with (first
              | (go_at_call 26; refine cC.mono ?_; rintro e w2 ⟨rfl, hb2⟩; have HB02 := Lib.hid ((hb2.block w.heap.size (by omega)).trans HB0.out); have HB12 := Lib.hid ((hb2.block (w.heap.size + 1) hsz0).trans HB1.out)))
            go_loopg [11] ((mkS t).size + 1) (fun g2 s11 wi => ∃ pos : Nat, wi = w2.iter (mkS t) pos ∧ pos + g2 = (mkS t).size + 1 ∧ pos ≤ (mkS t).size ∧ Hid ((t.drop pos).all tagC = t.all tagC))
            case atStart => exact ⟨0, rfl, by omega, by omega, rfl⟩
            case round =>
              obtain ⟨pos, rfl, hpg, hple, HR⟩ := hrel
              have hs1 : w.heap.size + 1 < w2.heap.size := by have := hb2.size; omega
              have hs0 : w.heap.size < w2.heap.size := by omega
              have hb0 : w.heap.size ≤ w2.heap.size := by omega
              by_cases hp : pos < (mkS t).size
              · have hd0 := drop_cons (mkS t) pos hp
                rw [mk_data] at hd0
                have HD := Lib.hid hd0
                clear hd0
                by_cases ha : ((mkS t)[pos]'hp).toNat < 128
                · have hnx : ∀ ty, (Instr.next (.pointer (some ⟨w2.heap.size, 0, none⟩)) true ty).run Tryd.prog (w2.iter (mkS t) pos) = _ := fun ty => run_next_ascii w2 (mkS t) pos ty hp ha
                  by_cases hd : digB ((mkS t)[pos]'hp).toNat = true
                  · have HG1 := Lib.hid hd
                    clear hd
                    go_wp2_with (go_at_call 33; refine (vdigit_is _ true HG1.out _).mono ?_; rintro e w' ⟨rfl, rfl⟩)
                    go_roundg (gk - 1)
                    case measure => omega
                    case rel => exact ⟨pos + 1, rfl, by omega, by omega, by rw [← HR.out, HD.out, all_ok _ _ (tagC_dig _ HG1.out)]; rfl⟩
                  · have HG1 := Lib.hid (Bool.eq_false_iff.2 hd)
                    clear hd
                    by_cases hl : letB ((mkS t)[pos]'hp).toNat = true
                    · have hl2 : (97 : Int) ≤ ((mkS t)[pos]'hp).toNat ∧ (((mkS t)[pos]'hp).toNat : Int) ≤ 122 := by unfold letB at hl; simpa using hl
                      obtain ⟨hla, hlb⟩ := hl2
                      have HL1 := Lib.hid hl
                      clear hl
                      go_wp2_with (go_at_call 33; refine (vdigit_is _ false HG1.out _).mono ?_; rintro e w' ⟨rfl, rfl⟩)
                      go_roundg (gk - 1)
                      case measure => omega
                      case rel => exact ⟨pos + 1, rfl, by omega, by omega, by rw [← HR.out, HD.out, all_ok _ _ (tagC_let _ HL1.out)]; rfl⟩
                    · have HL1 := Lib.hid (Bool.eq_false_iff.2 hl)
                      by_cases h3 : (((mkS t)[pos]'hp).toNat : Int) = 45
                      · have h3b : ((((mkS t)[pos]'hp).toNat : Int) != 45) = false := by simp [h3]
                        have hla : (((mkS t)[pos]'hp).toNat : Int) < 97 := by omega
                        have H3 := Lib.hid h3
                        clear h3 hl
                        go_wp2_with (go_at_call 33; refine (vdigit_is _ false HG1.out _).mono ?_; rintro e w' ⟨rfl, rfl⟩)
                        go_roundg (gk - 1)
                        case measure => omega
                        case rel => exact ⟨pos + 1, rfl, by omega, by omega, by rw [← HR.out, HD.out, all_ok _ _ (tagC_dash _ H3.out)]; rfl⟩
                      · have h3b : ((((mkS t)[pos]'hp).toNat : Int) != 45) = true := by simpa using h3
                        have hE : lst s = (acc, false) := by
                          rw [HL.out, show 4 - k = (3 - k) + 1 from by omega, HG.out, HA.out, ← HR.out, HD.out, all_bad _ _ (tagC_bad _ HG1.out HL1.out h3)]; simp
                        have HE := Lib.hid hE
                        clear hE h3
                        have hl3 : (((mkS t)[pos]'hp).toNat : Int) < 97 ∨ (122 : Int) < ((mkS t)[pos]'hp).toNat := by
                          unfold letB at hl; simp at hl; omega
                        clear hl
                        rcases hl3 with hl3 | hl3
                        · go_wp2_with (first
                            | (go_at_call 33; refine (vdigit_is _ false HG1.out _).mono ?_; rintro e w' ⟨rfl, rfl⟩)
                            | (refine wpList_load_row rfl 49 _ rfl (w.heap.size + 1) rfl _ _ _ _ ((heap_iter _ _ _ hs1).trans HB12.out) Tryd.underlying49 rfl (by kernel_rfl) ?_)
                            | (refine wpList_store_row rfl 49 _ _ rfl w.heap.size (lcells acc) rfl rfl _ _ ((heap_iter _ _ _ hs0).trans HB02.out) (by kernel_rfl) rfl (lcells_one acc) ?_))
                          exact list_done rfl rfl ((heap_iter _ _ _ hs0).trans HB02.out) ((hbel.trans (hb2.mono hbel.size)).trans ((below_iter _ _ _).mono hb0)) HE.out
                        · have hl4 : (97 : Int) ≤ ((mkS t)[pos]'hp).toNat := by omega
                          have hl5 : (!decide ((((mkS t)[pos]'hp).toNat : Int) ≤ 122)) = true := by simp; omega
                          go_wp2_with (first
                            | (go_at_call 33; refine (vdigit_is _ false HG1.out _).mono ?_; rintro e w' ⟨rfl, rfl⟩)
                            | (refine wpList_load_row rfl 49 _ rfl (w.heap.size + 1) rfl _ _ _ _ ((heap_iter _ _ _ hs1).trans HB12.out) Tryd.underlying49 rfl (by kernel_rfl) ?_)
                            | (refine wpList_store_row rfl 49 _ _ rfl w.heap.size (lcells acc) rfl rfl _ _ ((heap_iter _ _ _ hs0).trans HB02.out) (by kernel_rfl) rfl (lcells_one acc) ?_))
                          exact list_done rfl rfl ((heap_iter _ _ _ hs0).trans HB02.out) ((hbel.trans (hb2.mono hbel.size)).trans ((below_iter _ _ _).mono hb0)) HE.out
                · have hnx : ∀ ty, (Instr.next (.pointer (some ⟨w2.heap.size, 0, none⟩)) true ty).run Tryd.prog (w2.iter (mkS t) pos) = _ := fun ty => run_next_any w2 (mkS t) pos ty hp
                  have hhi := (decode_high (mkS t) pos hp (by omega)).1
                  have HG1 := Lib.hid (digB_hi _ hhi)
                  have h3b : (((Utf8.decode (mkS t) pos).1 : Int) != 45) = true := by simp; omega
                  have hl3 : (122 : Int) < (Utf8.decode (mkS t) pos).1 := by omega
                  have hl4 : (97 : Int) ≤ (Utf8.decode (mkS t) pos).1 := by omega
                  have hl5 : (!decide (((Utf8.decode (mkS t) pos).1 : Int) ≤ 122)) = true := by simp; omega
                  have hE : lst s = (acc, false) := by
                    rw [HL.out, show 4 - k = (3 - k) + 1 from by omega, HG.out, HA.out, ← HR.out, HD.out, all_bad _ _ (tagC_bad _ (digB_hi8 _ (by omega)) (letB_hi8 _ (by omega)) (by omega))]; simp
                  have HE := Lib.hid hE
                  clear hE
                  go_wp2_with (first
                    | (go_at_call 33; refine (vdigit_is _ false HG1.out _).mono ?_; rintro e w' ⟨rfl, rfl⟩)
                    | (refine wpList_load_row rfl 49 _ rfl (w.heap.size + 1) rfl _ _ _ _ ((heap_iter _ _ _ hs1).trans HB12.out) Tryd.underlying49 rfl (by kernel_rfl) ?_)
                    | (refine wpList_store_row rfl 49 _ _ rfl w.heap.size (lcells acc) rfl rfl _ _ ((heap_iter _ _ _ hs0).trans HB02.out) (by kernel_rfl) rfl (lcells_one acc) ?_))
                  exact list_done rfl rfl ((heap_iter _ _ _ hs0).trans HB02.out) ((hbel.trans (hb2.mono hbel.size)).trans ((below_iter _ _ _).mono hb0)) HE.out
              · have hnx : ∀ ty, (Instr.next (.pointer (some ⟨w2.heap.size, 0, none⟩)) true ty).run Tryd.prog (w2.iter (mkS t) pos) = _ := fun ty => run_next_end w2 (mkS t) pos ty hp
                have hd0 := drop_end (mkS t) pos hp
                rw [mk_data] at hd0
                have hA : tagOk t = true := by rw [HA.out, ← HR.out, hd0]; rfl
                have HAT := Lib.hid hA
                clear hd0 hA
                obtain ⟨hcell, hfro⟩ := cell_row (j := k) ((heap_iter w2 (mkS t) pos hs1).trans HB12.out) (by rw [lcells_size]; omega)
                go_wp2
                have hg1 : (w2.iter (mkS t) pos).heap[w.heap.size + 1]? = some (.cells (lcells acc) 49) := (heap_iter _ _ _ hs1).trans HB12.out
                have hg0 : (w2.iter (mkS t) pos).heap[w.heap.size]? = some (.cells (lcells []) 49) := (heap_iter _ _ _ hs0).trans HB02.out
                have hset := setCell_eq_setRow _ _ k _ _ _ (.string (mkS t)) hg1
                rw [lcells_snoc acc t k HKL.out (by omega)] at hset
                have hbw : Below w.heap.size w (w2.iter (mkS t) pos) := (hbel.trans (hb2.mono hbel.size)).trans ((below_iter _ _ _).mono hb0)
                rw [hset]
                go_roundg g
                case measure => omega
                case rel =>
                  refine ⟨acc ++ [t], rest, k + 1, !more, by omega, rfl, rfl, by go_num, by omega, ?_, setRow_heap _ _ _ _ _ _ hg1, below_setRow hbw (by omega) _, ?_, ?_⟩
                  · rw [← hg0]; exact setRow_other _ _ _ _ (by omega)
                  · intro h
                    have hm : more = false := by simpa using h
                    rw [HL.out, show 4 - k = (3 - k) + 1 from by omega, HG.out, HAT.out, hm]; simp
                  · intro h
                    have hm : more = true := by simpa using h
                    refine ⟨by rw [List.length_append, HKL.out]; rfl, ?_⟩
                    rw [HL.out, show 4 - k = (3 - k) + 1 from by omega, HG.out, HAT.out, hm, show 4 - (k + 1) = 3 - k from by omega]; simp
          · have h8i : (8 : Int) < (mkS t).size := by omega
            have hE : lst s = (acc, false) := by rw [HL.out, show 4 - k = (3 - k) + 1 from by omega, HG.out, tagOk_long (by omega)]; simp
            have HE := Lib.hid hE
            clear hE ht0
            go_wp2_with (first
              | (go_at_call 26; refine cC.mono ?_; rintro e w2 ⟨rfl, hb2⟩; have HB02 := Lib.hid ((hb2.block w.heap.size (by omega)).trans HB0.out); have HB12 := Lib.hid ((hb2.block (w.heap.size + 1) hsz0).trans HB1.out))
              | (refine wpList_load_row rfl 49 _ rfl (w.heap.size + 1) rfl _ _ _ _ HB12.out Tryd.underlying49 rfl (by kernel_rfl) ?_)
              | (refine wpList_store_row rfl 49 _ _ rfl w.heap.size (lcells acc) rfl rfl _ _ HB02.out (by kernel_rfl) rfl (lcells_one acc) ?_))
            exact list_done rfl rfl HB02.out (hbel.trans (hb2.mono hbel.size)) HE.out

theorem list_any (s : List UInt8) (w : World) (hs : s.length < 4294967281) :
    Calls Tryd.prog 21 #[.string (mkS s)] w fun e w' => e = .returned (.tuple #[.agg (lcells (lst s).1), .bool (lst s).2]) ∧ Below w.heap.size w w' := list_any0 s w hs
end Go.Proofs.YtndjdmbbndcohaaDoor
