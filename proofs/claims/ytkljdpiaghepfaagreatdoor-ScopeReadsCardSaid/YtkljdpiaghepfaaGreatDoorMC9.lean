/-
  What the statement's proof leans on: the ways of walking, mM mathematics, and what the program's functions return; each theorem says on what conditions.
-/
import Derived.Test.YtkljdpiaghepfaaGreatDoorMC8
set_option maxRecDepth 1000000
set_option maxHeartbeats 8000000
set_option linter.unusedVariables false
set_option linter.unusedSimpArgs false
set_option linter.unnecessarySimpa false
namespace Go.Proofs.YtkljdpiaghepfaaGreatDoor
open Go.RowKit

section
theorem textR_few {xs : List Al} (h1 : xs.length ≤ 6) (h : ∀ x ∈ xs, fewA x.l = true) : bX (yU xs) = kH (yU xs) := by
  unfold bX
  cases hf : fewR (yU xs) with
  | true => rfl
  | false =>
    cases xs with
    | nil => rfl
    | cons x xs => rw [few_all ⟨by simp, h1⟩ h] at hf; cases hf
theorem textR_bad {xs : List Al} {x : Al} (hm : x ∈ xs) (h : fewA x.l = false) : bX (yU xs) = [] := textR_nil.2 (few_one hm h)
theorem textR_big {xs : List Al} (h : 6 < xs.length) : bX (yU xs) = [] := textR_nil.2 (few_len (by omega))
theorem own_tx1 {M : List Nat} {W w : World} {x y z : Blk} {A B : List Blk} (h : Own M W w ([x, y, z] ++ A ++ B)) : Own M W w (z :: (A ++ B)) := by
  rw [List.append_assoc] at h
  exact Own.sub [x, y] h
theorem own_tx2 {M : List Nat} {W w : World} {x z : Blk} {A B : List Blk} (h : Own M W w ([x, z] ++ A ++ B)) : Own M W w (z :: A) := by
  exact (Own.sub [x] (by simpa using h : Own M W w (x :: (z :: A ++ B)))).sublist (by simp)
theorem own_tx3 {M : List Nat} {W w : World} {x y : Blk} {A B : List Blk} (h : Own M W w (x :: y :: (A ++ B))) : Own M W w (x :: y :: (B ++ A)) :=
  h.perm (List.Perm.cons x (List.Perm.cons y List.perm_append_comm))
theorem alts_le {l : List (List Co)} {i : Nat} (h : ∀ a ∈ l.take i, fewA a = true) : ∀ t ∈ (l.take i).map xR, t.length ≤ 1000000 := fun t ht => by
  obtain ⟨a, ha, rfl⟩ := List.mem_map.1 ht
  obtain ⟨h1, h2⟩ := fewA.facts (h a ha)
  unfold xR
  rw [joinB_len, List.length_map]
  have : ∀ (l : List Co), (∀ c ∈ l, c.may = true) → sumN ((l.map Co.print).map (·.length)) ≤ l.length * 300 := by
    intro l hl
    induction l with
    | nil => simp [sumN]
    | cons c l ih =>
      have h3 := mU (hl c (List.mem_cons_self ..))
      have h4 := ih fun d hd => hl d (List.mem_cons_of_mem _ hd)
      rw [List.map_cons, List.map_cons, sumN, List.length_cons]; omega
  have := this a h2
  have h5 : (a.length - 1) * ([44, 32] : List UInt8).length ≤ 5 * 2 := Nat.mul_le_mul (by omega) (by simp)
  omega
theorem gtext_any (A : Option Addr) (cap : Nat) (xs : List Al) (W : World) (hv : RgIn W W.heap.size A xs) (ht : HasLib W) : Calls Tryz.prog 39 #[.agg #[.slice A xs.length cap]] W fun e w' => e = .returned (.string (mkS (bX (yU xs)))) ∧ Below W.heap.size W w' := by
  have hn := hv.n
  refine Z2 (n := 51) Tryz.func39 rfl (ZO (Zb (.agg #[.slice A xs.length cap]) (fun b1 => Zv (.string ⟨#[]⟩) (ZN (z7 (ZO (Zv (Zp b1 0) (Zl 0 ⟨b1, #[.slice A xs.length cap], 25⟩ (off := 0) (.slice A xs.length cap) ?_))))))))
  refine Zv (.int .i64 (xs.length : Int)) ?_
  by_cases h1 : (6 : Int) < (xs.length : Int)
  · refine Zg h1 (ZY (ZO (Zv (.string ⟨#[]⟩) (ZN (zB (z6 (ZF (.string ⟨#[]⟩) Tryz.results39 ?_)))))))
    exact fun w hO => ⟨by rw [textR_big (by omega)]; rfl, hO.below⟩
  refine Zh h1 (ZX (ZB (ZO (Zv (.slice none 0 0) (ZN (z7 ?_))))))
  refine ZO (Zv (Zp b1 0) (Zl 0 ⟨b1, #[.slice A xs.length cap], 25⟩ (off := 0) (.slice A xs.length cap) (Zv (.int .i64 (xs.length : Int)) (Zv (.int .i64 0) (ZN (zL (qE (L' := ⟨b1, #[.slice A xs.length cap], 25⟩ :: []) rfl (yL (fun L f m => ∃ (i : Nat) (U : Option Addr) (n : Nat) (cu : Nat) (ob : List Blk) (j : Nat → Value), (i ≤ xs.length ∧ (∀ x ∈ xs.take i, fewA x.l = true) ∧ SlT (.slice U n cu) (((yU xs).take i).map xR) ob) ∧ L = ⟨b1, #[.slice A xs.length cap], 25⟩ :: ob ∧ f = xF j [(1, Zp b1 0), (3, .slice U n cu), (14, .slice A xs.length cap), (15, .int .i64 (xs.length : Int)), (16, .int .i64 (i : Int))] ∧ m = xs.length - i) (xs.length - 0) ⟨0, none, 0, 0, [], _, ⟨Nat.zero_le _, by simp, Sl.nil _ _⟩, rfl, ZU, rfl⟩ ?_))))))))
  rintro L f m ⟨i, U, n, cu, ob, j, hrel, rfl, rfl, rfl⟩
  obtain ⟨hil, hff, hT⟩ := hrel
  refine z7 (zA ?_)
  by_cases h2 : (i : Int) < (xs.length : Int)
  · have hi : i < xs.length := by omega
    obtain ⟨bp, off, hA, hlt, hcell⟩ := hv.top (by omega)
    obtain ⟨x, hx⟩ : ∃ x, xs[i] = x := ⟨_, rfl⟩
    have hxm : x ∈ xs := hx ▸ List.getElem_mem hi
    have hxn := hv.m x hxm
    have hxr : (yU xs)[i]'(by rw [xK]; exact hi) = x.l := jD hi hx
    refine Zg h2 (ZN (z7 (Zt (ZB (z7 (zL (ZO (zU (Zp bp (off + i * 1)) (by kernel_rfl) (ZA (b := bp) (off := off) (c := cap) (n := xs.length) (k := .i64) (j := (i : Int)) (e := 47) (sz := 1) hA) ?_))))))))
    refine Zo (.slice x.A x.l.length x.cap) (a := ⟨bp, off + i * 1, none⟩) (fun w hO => y6 gS (fun j u h => (hO.below.cell (p := ⟨bp, off + j, none⟩) hlt).trans (hcell j u h)) i 0 hi (by omega) _ (by rw [hx]; kernel_rfl)) (Zv (.slice x.A x.l.length x.cap) (ZN (z7 (ZO (Zv (.slice x.A x.l.length x.cap) (Zv (.int .i64 (x.l.length : Int)) ?_))))))
    by_cases h3 : (x.l.length : Int) = 0
    · refine Zg h3 (Zv Z4 (Zk (Zk (Zk (Zv Z4 (ZY (ZO (Zv (.string ⟨#[]⟩) ?_))))))))
      exact ZN (zB (z6 (zF (z6 (zW (zF (z6 (ZF (.string ⟨#[]⟩) Tryz.results39 (fun w hO => ⟨by rw [textR_bad hxm (fewA_len (by omega))]; rfl, hO.below⟩)))))))))
    refine Zh h3 (Zv Z5 (Zv (.slice x.A x.l.length x.cap) (Zv (.int .i64 (x.l.length : Int)) ?_)))
    by_cases h4 : (6 : Int) < (x.l.length : Int)
    · refine Zg h4 (Zv Z4 (ZY (ZO (Zv (.string ⟨#[]⟩) (ZN (zB (z6 ?_)))))))
      exact zF (z6 (zW (zF (z6 (ZF (.string ⟨#[]⟩) Tryz.results39 (fun w hO => ⟨by rw [textR_bad hxm (fewA_len (by omega))]; rfl, hO.below⟩))))))
    refine Zh h4 (Zv Z5 (ZX (ZB (ZO (Zv (.slice none 0 0) (zP (z8 ?_)))))))
    refine z7 (ZO (Zv (.slice x.A x.l.length x.cap) (Zv (.int .i64 (x.l.length : Int)) (Zv (.int .i64 0) (ZN (zL (qE (L' := ⟨b1, #[.slice A xs.length cap], 25⟩ :: ([] ++ ob)) rfl (yL (fun L f m => ∃ (k : Nat) (V : Option Addr) (np : Nat) (cv : Nat) (oa : List Blk) (j : Nat → Value), (k ≤ x.l.length ∧ (∀ c ∈ x.l.take k, c.may = true) ∧ SlT (.slice V np cv) ((x.l.take k).map Co.print) oa) ∧ L = ⟨b1, #[.slice A xs.length cap], 25⟩ :: (oa ++ ob) ∧ f = xF j [(1, Zp b1 0), (3, .slice U n cu), (14, .slice A xs.length cap), (15, .int .i64 (xs.length : Int)), (16, .int .i64 (i : Int)), (6, .slice V np cv), (28, .slice x.A x.l.length x.cap), (29, .int .i64 (x.l.length : Int)), (30, .int .i64 (k : Int))] ∧ m = x.l.length - k) (x.l.length - 0) ⟨0, none, 0, 0, [], _, ⟨Nat.zero_le _, by simp, Sl.nil _ _⟩, rfl, ZU, rfl⟩ ?_))))))))
    rintro L f m ⟨k, V, np, cv, oa, j, hrel, rfl, rfl, rfl⟩
    obtain ⟨hkl, hcf, hP⟩ := hrel
    refine z7 (zA ?_)
    by_cases h5 : (k : Int) < (x.l.length : Int)
    · have hk : k < x.l.length := by omega
      obtain ⟨bq, off2, hA2, hlt2, hcell2⟩ := hv.each x hxm (by omega)
      obtain ⟨c, hc⟩ : ∃ c, x.l[k] = c := ⟨_, rfl⟩
      have hcm : c ∈ x.l := hc ▸ List.getElem_mem hk
      have hcS : c.short := hv.short x hxm c hcm
      refine Zg h5 (ZN (z7 (Zt (ZB (z7 (zL (ZO (zU (Zp bq (off2 + k * 7)) (by kernel_rfl) (ZA (b := bq) (off := off2) (c := x.cap) (n := x.l.length) (k := .i64) (j := (k : Int)) (e := 51) (sz := 7) hA2) ?_))))))))
      refine Zo (coV c) (a := ⟨bq, off2 + k * 7, none⟩) (fun w hO => y6 uM (fun j u h => (hO.below.cell (p := ⟨bq, off2 + j, none⟩) hlt2).trans (hcell2 j u h)) k 0 hk (by omega) _ (by rw [hc]; kernel_rfl)) (Za (.agg Z0) (fun b2 => Zs 0 ⟨b2, Z0, 51⟩ (off := 0) (coV c) (ZN (z7 (ZO (Zl 0 ⟨b2, (coV c).cells, 51⟩ (off := 0) (coV c) (Zc (k := 73) (args := #[coV c]) (.bool c.may) (fun w _ => cMay_any c w hcS) ?_)))))))
      cases h6 : c.may with
      | true =>
        refine Zv Z5 (ZX (ZB (zA (Zv (.slice V np cv) (Zl 0 ⟨b2, (coV c).cells, 51⟩ (off := 0) (coV c) (Zc (k := 64) (args := #[coV c]) (.string (mkS c.print)) (fun w hO => tL c w hcS (ht.tab.on hO.below)) (qC 9 #[.string (mkS c.print)] (by kernel_rfl) rfl (fun _ => by kernel_rfl) (fun b3 => ?_))))))))
        have hpl0 : ((x.l.take k).map Co.print).length ≤ 6 := by rw [List.length_map, List.length_take]; omega
        obtain ⟨i1, z1, e11, e12, e13, e14, e15⟩ := bI
        refine xT (L' := [⟨b3, #[.string (mkS c.print)], 9⟩, ⟨b2, (coV c).cells, 51⟩, ⟨b1, #[.slice A xs.length cap], 25⟩] ++ oa ++ (ob)) (by simp <;> rfl) (kR (sz := 1) (by kernel_rfl) rfl Tryz.underlying58 e11 e12 e13 e14 (by kernel_rfl) hP (a := ⟨b3, 0, none⟩) (m := 1) (c := 1) (news := wX c.print) (by kernel_rfl) rfl (fun w hO j u hj => ?_) (fun u hu => by rw [List.mem_singleton.1 hu]; rfl) (by unfold maxLen; omega) (by rw [e15]; omega) (fun w1 oa2 hu1 => ?_))
        · rw [yW, cell_of_row w b3 (0 + j) (wX c.print).toArray 9 _ (hO.held ⟨b3, (wX c.print).toArray, 9⟩ (List.mem_append_left _ (List.mem_append_left _ (List.mem_cons_self ..))))]; simpa using hj
        have hP2 : SlT w1 (((x.l.take k).map Co.print) ++ [c.print]) oa2 := SlT.add hu1
        obtain ⟨V2, cv2, rfl⟩ := hP2.form
        exact Zv (.slice V2 ((((x.l.take k).map Co.print) ++ [c.print]).length) cv2) (zP (zQ (z8 (zA (Zu (k := .i64) (((k + 1 : Nat) : Int)) (IntWalk.i64_in _ (by omega)) (Zv (.int .i64 ((k + 1 : Nat) : Int)) (zP (xM (fun w hO => own_tx1 hO) (zT (m' := x.l.length - (k + 1)) (by omega) ⟨k + 1, V2, (((x.l.take k).map Co.print) ++ [c.print]).length, cv2, oa2, _, ⟨by omega, tT hcf hk hc (by assumption), by rw [List.take_succ_eq_append_getElem hk, hc, List.map_append]; exact hP2⟩, rfl, ZU, rfl⟩)))))))))
      | false =>
        refine Zv Z4 (ZY (ZO (Zv (.string ⟨#[]⟩) (ZN (zB (z6 (zF ?_)))))))
        exact z6 (zW (zF (z6 (zF (z6 (zW (zF (z6 (ZF (.string ⟨#[]⟩) Tryz.results39 (fun w hO => ⟨by rw [textR_bad hxm (fewA_one hcm (by assumption))]; rfl, hO.below⟩))))))))))
    have hal2 : ∀ c ∈ x.l, c.may = true := by have q := hcf; rwa [List.take_of_length_le (by omega)] at q
    have hfx : fewA x.l = true := fewA_all ⟨by omega, by omega⟩ hal2
    have htk2 : x.l.take k = x.l := List.take_of_length_le (by omega)
    have hpl := hP.caps
    rw [htk2] at hP hpl
    have htl := hT.caps
    refine Zh h5 (ZN (z7 (Zf (y5 (zD (zN (zH (z8 (zA (Zv (.slice U n cu) ?_))))))))))
    refine Zv (.slice V np cv) (Zc (k := 74) (args := #[.slice V np cv, .string ⟨#[44, 32]⟩]) (.string (mkS (xR x.l))) (fun w hO => by rw [hpl.1]; exact sjoin_any [44, 32] (x.l.map Co.print) V cv w (SlT.reads hP hpl.1.symm hO (fun x hx => by simp [hx])) (by decide) (by decide) (by rw [List.length_map]; omega) (fun t ht => by obtain ⟨c, hc, rfl⟩ := List.mem_map.1 ht; exact Nat.le_trans (mU (hal2 c hc)) (by decide)) hpl.2) (qC 9 #[.string (mkS (xR x.l))] (by kernel_rfl) rfl (fun _ => by kernel_rfl) (fun b2 => ?_)))
    have hal0 : (((yU xs).take i).map xR).length ≤ 6 := by rw [List.length_map, List.length_take, xK]; omega
    refine gJ (L' := ⟨b2, #[.string (mkS (xR x.l))], 9⟩ :: ⟨b1, #[.slice A xs.length cap], 25⟩ :: (ob ++ oa)) (fun w hO => own_tx3 hO) ?_
    obtain ⟨i2, z2, e21, e22, e23, e24, e25⟩ := bI
    refine xT (L' := [⟨b2, #[.string (mkS (xR x.l))], 9⟩, ⟨b1, #[.slice A xs.length cap], 25⟩] ++ ob ++ (oa)) (by simp <;> rfl) (kR (sz := 1) (by kernel_rfl) rfl Tryz.underlying58 e21 e22 e23 e24 (by kernel_rfl) hT (a := ⟨b2, 0, none⟩) (m := 1) (c := 1) (news := wX (xR x.l)) (by kernel_rfl) rfl (fun w hO j u hj => ?_) (fun u hu => by rw [List.mem_singleton.1 hu]; rfl) (by unfold maxLen; omega) (by rw [e25]; omega) (fun w2 ob2 hu2 => ?_))
    · rw [yW, cell_of_row w b2 (0 + j) (wX (xR x.l)).toArray 9 _ (hO.held ⟨b2, (wX (xR x.l)).toArray, 9⟩ (List.mem_append_left _ (List.mem_append_left _ (List.mem_cons_self ..))))]; simpa using hj
    have hT2 : SlT w2 ((((yU xs).take i).map xR) ++ [xR x.l]) ob2 := SlT.add hu2
    obtain ⟨U2, cu2, rfl⟩ := hT2.form
    exact Zv (.slice U2 (((((yU xs).take i).map xR) ++ [xR x.l]).length) cu2) (zP (zQ (z8 (zA (Zu (k := .i64) (((i + 1 : Nat) : Int)) (IntWalk.i64_in _ (by omega)) (Zv (.int .i64 ((i + 1 : Nat) : Int)) (zP (xM (fun w hO => own_tx2 hO) (zT (m' := xs.length - (i + 1)) (by omega) ⟨i + 1, U2, ((((yU xs).take i).map xR) ++ [xR x.l]).length, cu2, ob2, _, ⟨by omega, tT hff hi hx hfx, by rw [List.take_succ_eq_append_getElem (by rw [xK]; exact hi), hxr, List.map_append]; exact hT2⟩, rfl, ZU, rfl⟩)))))))))
  have hall : ∀ x ∈ xs, fewA x.l = true := by have q := hff; rwa [List.take_of_length_le (by omega)] at q
  have htk : (yU xs).take i = yU xs := List.take_of_length_le (by rw [xK]; omega)
  have htl := hT.caps
  rw [htk] at hT htl
  refine Zh h2 (ZN (z7 (Zf (y5 (zD (zN (zH (z8 (z7 (zA ?_))))))))))
  exact Zv (.slice U n cu) (Zc (k := 74) (args := #[.slice U n cu, .string ⟨#[32, 124, 124, 32]⟩]) (.string (mkS (kH (yU xs)))) (fun w hO => by rw [htl.1]; exact sjoin_any [32, 124, 124, 32] ((yU xs).map xR) U cu w (SlT.reads hT htl.1.symm hO (fun x hx => by simp [hx])) (by decide) (by decide) (by rw [List.length_map, xK]; omega) (by have q := alts_le (l := yU xs) (i := xs.length) (fun a ha => by obtain ⟨x, hx, rfl⟩ := List.mem_map.1 (List.mem_of_mem_take ha); exact hall x hx); rwa [List.take_of_length_le (by rw [xK]; exact Nat.le_refl _)] at q) htl.2) (Zv (.string (mkS (kH (yU xs)))) (ZN (zB (ZF (.string (mkS (kH (yU xs)))) Tryz.results39 (fun w hO => ⟨by rw [textR_few (by omega) hall], hO.below⟩))))))
theorem gPrint_any (A : Option Addr) (cap : Nat) (xs : List Al) (W : World) (hv : RgIn W W.heap.size A xs) (ht : HasLib W) : Calls Tryz.prog 21 #[.agg #[.slice A xs.length cap]] W fun e w' => e = .returned (.string (mkS (fN (yU xs)))) ∧ Below W.heap.size W w' := by
  obtain ⟨t, et⟩ : ∃ t, bX (yU xs) = t := ⟨_, rfl⟩
  have hsz := yY t
  refine Z2 (n := 10) Tryz.func21 rfl (ZO (Zb (.agg #[.slice A xs.length cap]) (fun b1 => Zv (.string ⟨#[]⟩) (ZR (Zl 0 ⟨b1, #[.slice A xs.length cap], 25⟩ (off := 0) (.agg #[.slice A xs.length cap]) (Zc (k := 39) (args := #[.agg #[.slice A xs.length cap]]) (.string (mkS t)) (fun w hO => jA (by rw [et]) (gtext_any A cap xs w (hv.on hO.below hO.below.size) (ht.on hO.below))) (Zv (.string (mkS t)) ?_)))))))
  refine ZN (z7 (ZO (Zv (.string (mkS t)) (Zv (.int .i64 ((mkS t).size)) ?_))))
  by_cases h1 : (96 : Int) < (mkS t).size
  · refine Zg h1 (ZY (ZO (Zv (.string ⟨#[]⟩) (ZN (zB (z6 (ZF (.string ⟨#[]⟩) Tryz.results21 ?_)))))))
    exact fun w hO => ⟨by rw [print_text, et, if_pos (by omega)]; rfl, hO.below⟩
  refine Zh h1 (ZX (ZB (ZO (Zv (.string (mkS t)) (Zv (.string (mkS t)) (zP (z8 ?_)))))))
  exact zB (ZF (.string (mkS t)) Tryz.results21 (fun w hO => ⟨by rw [print_text, et, if_neg (by omega)], hO.below⟩))
theorem gMay_any (A : Option Addr) (cap : Nat) (xs : List Al) (W : World) (hv : RgIn W W.heap.size A xs) (ht : HasLib W) : Calls Tryz.prog 19 #[.agg #[.slice A xs.length cap]] W fun e w' => e = .returned (.bool (rgMay (yU xs))) ∧ Below W.heap.size W w' := by
  obtain ⟨t, et⟩ : ∃ t, fN (yU xs) = t := ⟨_, rfl⟩
  refine Z2 (n := 6) Tryz.func19 rfl (ZO (Zb (.agg #[.slice A xs.length cap]) (fun b1 => Zv Z5 (ZR (Zl 0 ⟨b1, #[.slice A xs.length cap], 25⟩ (off := 0) (.agg #[.slice A xs.length cap]) (Zc (k := 21) (args := #[.agg #[.slice A xs.length cap]]) (.string (mkS t)) (fun w hO => jA (by rw [et]) (gPrint_any A cap xs w (hv.on hO.below hO.below.size) (ht.on hO.below))) ?_))))))
  by_cases h1 : (t : List UInt8) = []
  · exact zU Z5 (by kernel_rfl) (yV (a := t) (b := ([])) rfl (by kernel_rfl) (by kernel_rfl) (decide_eq_true (h1))) (Zv Z5 (ZN (zB (ZF Z5 Tryz.results19 (fun w hO => ⟨by rw [(print_nil (yU xs)).1 (et.trans (by assumption))], hO.below⟩)))))
  exact zU Z4 (by kernel_rfl) (yV (a := t) (b := ([])) rfl (by kernel_rfl) (by kernel_rfl) (decide_eq_false (h1))) (Zv Z4 (ZN (zB (ZF Z4 Tryz.results19 (fun w hO => ⟨by rw [show rgMay (yU xs) = true from by cases hm : rgMay (yU xs) with | true => rfl | false => exact absurd (et.symm.trans ((print_nil (yU xs)).2 hm)) (by assumption)], hO.below⟩)))))
end
section
structure Se where
  A : Option Addr
  B : Option Addr
  s : St
  c : Nat
  d : Nat
def seC (x : Se) : List Value := [.slice x.A x.s.rel.length x.c, .slice x.B x.s.pre.length x.d]
def seV (x : Se) : Value := .agg #[.slice x.A x.s.rel.length x.c, .slice x.B x.s.pre.length x.d]
theorem seC_len (x : Se) : (seC x).length = 2 := rfl
theorem se_cells (x : Se) : ∀ u ∈ seC x, u.oneCell' = true := by
  intro u hu
  unfold seC at hu
  simp only [List.mem_cons, List.not_mem_nil, or_false] at hu
  rcases hu with rfl | rfl <;> rfl
theorem seInfo : (Tryz.prog.info? 31).map (fun i => (i.zero.map (·.cells.size), i.size, i.bytes)) = some (some 2, 2, 48) := by kernel_rfl
theorem se_info : ∃ i z, Tryz.prog.info? 31 = some i ∧ i.zero = some z ∧ i.size = 2 ∧ z.cells.size = 2 ∧ i.bytes = 48 := by
  have h := seInfo
  cases hi : Tryz.prog.info? 31 with
  | none => rw [hi] at h; cases h
  | some i =>
    rw [hi] at h
    simp only [Option.map_some, Option.some.injEq, Prod.mk.injEq] at h
    cases hz : i.zero with
    | none => rw [hz] at h; simp at h
    | some z => rw [hz] at h; simp at h; exact ⟨i, z, rfl, hz, h.2.1, h.1, h.2.2⟩
structure SsIn (w : World) (B : Nat) (A : Option Addr) (xs : List Se) : Prop where
  top : Reads seC w B A xs
  each : ∀ x ∈ xs, SetIn w B x.A x.B x.s
  caps : ∀ x ∈ xs, x.s.rel.length ≤ x.c ∧ x.s.pre.length ≤ x.d
structure SsO (u : Value) (xs : List Se) (o1 o2 : List Blk) : Prop where
  top : Sl 31 2 u xs.length (xs.flatMap seC) o1
  each : ∀ x ∈ xs, ∃ o, (∀ b ∈ o, b ∈ o2) ∧ SetO (.agg #[.slice x.A x.s.rel.length x.c, .slice x.B x.s.pre.length x.d]) x.s o
theorem SsO.nil : SsO (.slice none 0 0) [] [] [] := ⟨Sl.nil _ _, fun x hx => by simp at hx⟩
theorem SsO.add {u u2 : Value} {xs : List Se} {o1 o2 o3 oa : List Blk} {A B : Option Addr} {c d : Nat} {s : St} (h : SsO u xs o1 o2) (h2 : Sl 31 2 u2 (xs.length + 1) (xs.flatMap seC ++ seC ⟨A, B, s, c, d⟩) o3) (ha : SetO (.agg #[.slice A s.rel.length c, .slice B s.pre.length d]) s oa) : SsO u2 (xs ++ [⟨A, B, s, c, d⟩]) o3 (oa ++ o2) :=
  ⟨h2.to (by simp) (by simp), fun x hx => by
    rcases List.mem_append.1 hx with hx | hx
    · obtain ⟨o, k1, k2⟩ := h.each x hx
      exact ⟨o, fun b hb => List.mem_append_right _ (k1 b hb), k2⟩
    · obtain rfl := List.mem_singleton.1 hx
      exact ⟨oa, fun b hb => List.mem_append_left _ hb, ha⟩⟩
theorem SsO.inn {A : Option Addr} {n cap : Nat} {xs : List Se} {o1 o2 L : List Blk} {M : List Nat} {W w : World} (h : SsO (.slice A n cap) xs o1 o2) (hn : xs.length = n) (hO : Own M W w L) (h1 : ∀ x ∈ o1, x ∈ L) (h2 : ∀ x ∈ o2, x ∈ L) (hf : ∀ x ∈ xs, SF x.s 198) : SsIn w w.heap.size A xs := by
  subst hn
  refine ⟨Sl.reads h.top rfl hO h1, fun x hx => ?_, fun x hx => ?_⟩
  · obtain ⟨o, k1, k2⟩ := h.each x hx
    exact SetO.inn k2 hO (fun b hb => h2 b (k1 b hb)) (hf x hx) (by decide)
  · obtain ⟨o, k1, k2⟩ := h.each x hx
    exact k2.caps
theorem se_at {xs : List Se} {r : List (List Co)} (hr : xs.map Se.s = r.map yF) {k : Nat} (hk : k < xs.length) (hk2 : k < r.length) {x : Se} (hx : xs[k] = x) : yF r[k] = x.s := by
  have q1 := List.getElem_of_eq hr (i := k) (by rw [List.length_map]; exact hk)
  rw [List.getElem_map, List.getElem_map, hx] at q1
  exact q1.symm
theorem fin_alts {r : List (List Co)} (h : fewR r = true) : ∀ s ∈ r.map yF, SF s 198 := fun s hs => by
  obtain ⟨a, ha, rfl⟩ := List.mem_map.1 hs
  exact (u7 a).le (by have := (fewA.facts ((fewR.facts h).2 a ha)).1; omega)
end
section
theorem sub0 {P : Program} {ρ : Operand → Value} {o : Oper} (k : Nat) (hr : ∀ w, (execOp ρ o).run P w = .ok (.value (.int .i64 (IntKind.i64.wrap ((k : Int) - 0)))) w) (hk : (k : Int) ≤ 9223372036854775807) (w : World) : (execOp ρ o).run P w = .ok (.value (.int .i64 (k : Int))) w := by
  rw [hr w, Int.sub_zero, IntWalk.i64_in _ (by omega)]
theorem grow4_any (k : Nat) (W : World) (hk : k ≤ 600000) :
    Calls Tryz.prog 180 #[.slice none 0 0, .int .i64 (k : Int)] W fun e w' => ∃ v' ob', e = .returned v' ∧ SlS v' [] ob' ∧ Own [] W w' ob' := by
  refine Z2 (n := 27) Tryz.func180 rfl (ZO (Zv (.slice none 0 0) (ZN (z7 (ZO (Zv (.int .i64 (k : Int)) (Zh (p := (k : Int) < 0) (by omega) (zP ?_))))))))
  refine z8 (Zf (ZB (z7 (ZO (Zv (.int .i64 (k : Int)) (Zv (.slice none 0 0) (Zv (.int .i64 (0 : Int)) (Zv (.slice none 0 0) (Zv (.int .i64 (0 : Int)) ?_)))))))))
  refine Zv (.int .i64 0) (zU (.int .i64 (k : Int)) (by kernel_rfl) (fun w => sub0 k (fun _ => by kernel_rfl) (by omega) w) (Zv (.int .i64 (k : Int)) (ZR (Zv (.int .i64 (k : Int)) ?_))))
  by_cases h1 : (0 : Int) < (k : Int)
  · refine Zg h1 (ZY (zA (Zv (.slice none 0 0) (Zv (.slice none 0 0) (Zv (.int .i64 (0 : Int)) (Zv (.slice none 0 0) (Zv (.int .i64 (k : Int)) ?_)))))))
    obtain ⟨i, z, e1, e2, e3, e4, e5⟩ := kX
    refine s_append0 (sz := 14) (k := k) (by kernel_rfl) rfl (by kernel_rfl) (by kernel_rfl) Tryz.underlying29 Tryz.underlying3 e1 e2 e3 e4 (by omega) (by decide) (by unfold maxLen; omega) (by rw [e5]; omega) (fun b cs cap hcs hkc hcm => Zv (.slice none 0 0) (Zv (.int .i64 (0 : Int)) (zU (.slice (some ⟨b, 0, none⟩) 0 cap) (by kernel_rfl) (dT (b := b) (off := 0) (n := k) (c := cap) (k := .i64) (j := 0) (e := 80) (sz := 14) rfl (by kernel_rfl) (by kernel_rfl) (by kernel_rfl) (by kernel_rfl) (by omega) (by omega)) (Zv (.slice (some ⟨b, 0, none⟩) 0 cap) (ZR (Zv (.slice (some ⟨b, 0, none⟩) 0 cap) (Zv (.slice (some ⟨b, 0, none⟩) 0 cap) (zP ?_))))))))
    exact z8 (zB (ZF (.slice (some ⟨b, 0, none⟩) 0 cap) Tryz.results180 (fun w hO => ⟨_, [⟨b, cs, 80⟩], rfl, ⟨rfl, .inr ⟨b, cap, cs, rfl, rfl, Nat.zero_le _, hcm, hcs, by simp⟩⟩, hO⟩)))
  refine Zh h1 (ZX (ZB (ZO (Zv (.slice none 0 0) (Zv (.slice none 0 0) (zP (z8 ?_)))))))
  exact zB (ZF (.slice none 0 0) Tryz.results180 (fun w hO => ⟨_, [], rfl, Sl.nil _ _, by simpa using hO⟩))
end
section
theorem one_load {P : Program} {ty : TypeId} {w : World} {b o : Nat} {v : Value} (hc : w.cell? ⟨b, o, none⟩ = some v) (hr : g8 P ty [v].toArray 0 = some v) : (loadVar ty ⟨b, o, none⟩).run P w = .ok v w :=
  old_load [v] v (fun j u h => by
    cases j with
    | zero => simp only [List.getElem?_cons_zero, Option.some.injEq] at h; rw [← h]; exact hc
    | succ j => simp at h) hr
theorem concat4_any (A B : Option Addr) (cap capb : Nat) (a b : List Sp) (W : World) (hv : Reads yR W W.heap.size A a) (hu : Reads yR W W.heap.size B b) (hn : a.length ≤ 100000) (hm : b.length ≤ 100000) (g : Nat) (hg : W.heap[g]? = some (.cells #[.slice A a.length cap, .slice B b.length capb] 29)) :
    Calls Tryz.prog 137 #[.slice (some ⟨g, 0, none⟩) 2 2] W fun e w' => ∃ v' ob', e = .returned v' ∧ SlS v' (a ++ b) ob' ∧ Own [] W w' ob' := by
  have hglt : g < W.heap.size := (Array.getElem?_eq_some_iff.1 hg).1
  have hcell : ∀ j u, (#[.slice A a.length cap, .slice B b.length capb] : Array Value).toList[j]? = some u → W.cell? ⟨g, 0 + j, none⟩ = some u := fun j u h => by rw [cell_of_row W g (0 + j) _ _ _ hg]; simpa using h
  refine Z2 (n := 36) Tryz.func137 rfl (ZO (Zv (.slice none 0 0) (ZR (Zv (.int .i64 0) (ZN (z7 ?_))))))
  refine ZO (Zv (.slice (some ⟨g, 0, none⟩) 2 2) (Zv (.int .i64 (2 : Int)) (Zv (.int .i64 0) (ZN (zL (yL (fun L f m => (∃  (j : Nat → Value), (True) ∧ L = [] ∧ f = xF j [(0, .slice (some ⟨g, 0, none⟩) 2 2), (3, .int .i64 0), (9, .slice (some ⟨g, 0, none⟩) 2 2), (10, .int .i64 2), (11, .int .i64 0)] ∧ m = 3) ∨ (∃  (j : Nat → Value), (True) ∧ L = [] ∧ f = xF j [(0, .slice (some ⟨g, 0, none⟩) 2 2), (3, .int .i64 ((0 + a.length : Nat) : Int)), (9, .slice (some ⟨g, 0, none⟩) 2 2), (10, .int .i64 2), (11, .int .i64 1)] ∧ m = 2) ∨ (∃  (j : Nat → Value), (True) ∧ L = [] ∧ f = xF j [(0, .slice (some ⟨g, 0, none⟩) 2 2), (3, .int .i64 ((0 + a.length + b.length : Nat) : Int)), (9, .slice (some ⟨g, 0, none⟩) 2 2), (10, .int .i64 2), (11, .int .i64 2)] ∧ m = 1)) 3 (.inl ⟨_, trivial, rfl, ZU, rfl⟩) ?_))))))
  rintro L f m (⟨j, hrel, rfl, rfl, rfl⟩ | ⟨j, hrel, rfl, rfl, rfl⟩ | ⟨j, hrel, rfl, rfl, rfl⟩)
  · refine ZO (Zv Z4 (ZN (z7 (Zt (ZB (z7 (zL (z7 ?_))))))))
    refine zA (zU (Zp g 0) (by kernel_rfl) (ZV (b := g) (off := 0) (n := 2) (c := 2) (k := .i64) (j := 0) (e := 29) (sz := 1)) (Zo (.slice A a.length cap) (a := ⟨g, 0, none⟩) (fun w hO => one_load ((hO.below.cell (p := ⟨g, 0, none⟩) hglt).trans (by simpa using hcell 0 _ rfl)) (by kernel_rfl)) (Zv (.slice A a.length cap) (ZR (Zv (.int .i64 0) (Zv (.slice A a.length cap) (Zv (.int .i64 (a.length : Int)) (Zu (k := .i64) (((0 + a.length : Nat) : Int)) (IntWalk.i64_in _ (by omega)) ?_))))))))
    refine Zv (.int .i64 ((0 + a.length : Nat) : Int)) (ZR (Zv (.int .i64 ((0 + a.length : Nat) : Int)) (Zh (p := ((0 + a.length : Nat) : Int) < 0) (by omega) (ZX (yC (zQ ?_))))))
    exact z8 (zA (Zv (.int .i64 1) (Zv (.int .i64 1) (zP (zT (m' := 2) (by decide) (.inr (.inl ⟨_, trivial, rfl, ZU, rfl⟩)))))))
  · refine ZO (Zv Z4 (ZN (z7 (Zt (ZB (z7 (zL (z7 ?_))))))))
    refine zA (zU (Zp g 1) (by kernel_rfl) (ZV (b := g) (off := 0) (n := 2) (c := 2) (k := .i64) (j := 1) (e := 29) (sz := 1)) (Zo (.slice B b.length capb) (a := ⟨g, 1, none⟩) (fun w hO => one_load ((hO.below.cell (p := ⟨g, 1, none⟩) hglt).trans (by simpa using hcell 1 _ rfl)) (by kernel_rfl)) (Zv (.slice B b.length capb) (ZR (Zv (.int .i64 ((0 + a.length : Nat) : Int)) (Zv (.slice B b.length capb) (Zv (.int .i64 (b.length : Int)) (Zu (k := .i64) (((0 + a.length + b.length : Nat) : Int)) (IntWalk.i64_in _ (by omega)) ?_))))))))
    refine Zv (.int .i64 ((0 + a.length + b.length : Nat) : Int)) (ZR (Zv (.int .i64 ((0 + a.length + b.length : Nat) : Int)) (Zh (p := ((0 + a.length + b.length : Nat) : Int) < 0) (by omega) (ZX (yC (zQ ?_))))))
    exact z8 (zA (Zv (.int .i64 2) (Zv (.int .i64 2) (zP (zT (m' := 1) (by decide) (.inr (.inr (⟨_, trivial, rfl, ZU, rfl⟩))))))))
  refine ZO (Zv Z5 (ZN (z7 (Zf (y5 (zD (zN (zH (z8 ?_)))))))))
  refine ZO (Zv (.int .i64 ((0 + a.length + b.length : Nat) : Int)) (Zr (k := 180) (args := #[.slice none 0 0, .int .i64 ((0 + a.length + b.length : Nat) : Int)]) (fun v' L' => SlS v' [] L') (fun w hO => (grow4_any (0 + a.length + b.length) w (by omega)).mono fun e w' ⟨v', ob', h1, h2, h3⟩ => ⟨v', ob', h1, h2, by simpa using Own.joinN hO h3⟩) (fun v0 o0 hv0 => xT (L' := o0 ++ []) (List.append_nil _).symm (Zv (v0) (ZN (z7 (ZO (Zv (.slice (some ⟨g, 0, none⟩) 2 2) ?_))))))))
  refine Zv (.int .i64 (2 : Int)) (Zv (.int .i64 0) (ZN (zL (yL (fun L f m => (∃ (v : Value) (oq : List Blk) (j : Nat → Value), (SlS v ([]) oq) ∧ L = oq ++ [] ∧ f = xF j [(6, v), (25, .slice (some ⟨g, 0, none⟩) 2 2), (26, .int .i64 2), (27, .int .i64 0)] ∧ m = 3) ∨ (∃ (v : Value) (oq : List Blk) (j : Nat → Value), (SlS v (a) oq) ∧ L = oq ++ [] ∧ f = xF j [(6, v), (25, .slice (some ⟨g, 0, none⟩) 2 2), (26, .int .i64 2), (27, .int .i64 1)] ∧ m = 2) ∨ (∃ (v : Value) (oq : List Blk) (j : Nat → Value), (SlS v (a ++ b) oq) ∧ L = oq ++ [] ∧ f = xF j [(6, v), (25, .slice (some ⟨g, 0, none⟩) 2 2), (26, .int .i64 2), (27, .int .i64 2)] ∧ m = 1)) 3 (.inl ⟨_, _, _, hv0, rfl, ZU, rfl⟩) ?_))))
  rintro L f m (⟨v, oq, j, hrel, rfl, rfl, rfl⟩ | ⟨v, oq, j, hrel, rfl, rfl, rfl⟩ | ⟨v, oq, j, hrel, rfl, rfl, rfl⟩)
  · unfold SlS at hrel
    refine ZO (Zv Z4 (ZN (z7 (Zt (ZB (z7 (zL (z7 ?_))))))))
    refine zA (zU (Zp g 0) (by kernel_rfl) (ZV (b := g) (off := 0) (n := 2) (c := 2) (k := .i64) (j := 0) (e := 29) (sz := 1)) (Zo (.slice A a.length cap) (a := ⟨g, 0, none⟩) (fun w hO => one_load ((hO.below.cell (p := ⟨g, 0, none⟩) hglt).trans (by simpa using hcell 0 _ rfl)) (by kernel_rfl)) (Zv (.slice A a.length cap) (ZN (zA (Zv (v) (Zv (.slice A a.length cap) ?_)))))))
    obtain ⟨i, z, e1, e2, e3, e4, e5⟩ := kX
    refine xT (L' := [] ++ oq ++ []) (by simp) (jQ (E := []) (ob := oq) (L0 := []) (sz := 14) (l := a) (A := A) (c := cap) y9 (by kernel_rfl) rfl Tryz.underlying29 e1 e2 e3 e4 (by kernel_rfl) hrel (by kernel_rfl) (fun w hO => hv.on hO.below hO.size) xX (by unfold maxLen; first | (simp; omega) | omega) (by rw [e5]; first | (simp; omega) | omega) (fun va oa hva => xT (L' := oa ++ []) (by simp) ?_))
    have hva2 : SlS va (a) oa := hva.to (by simp) (by simp)
    exact Zv (va) (zP (zQ (z8 (zA (Zv (.int .i64 1) (Zv (.int .i64 1) (zP (zT (m' := 2) (by decide) (.inr (.inl ⟨va, oa, _, hva2, rfl, ZU, rfl⟩))))))))))
  · unfold SlS at hrel
    refine ZO (Zv Z4 (ZN (z7 (Zt (ZB (z7 (zL (z7 ?_))))))))
    refine zA (zU (Zp g 1) (by kernel_rfl) (ZV (b := g) (off := 0) (n := 2) (c := 2) (k := .i64) (j := 1) (e := 29) (sz := 1)) (Zo (.slice B b.length capb) (a := ⟨g, 1, none⟩) (fun w hO => one_load ((hO.below.cell (p := ⟨g, 1, none⟩) hglt).trans (by simpa using hcell 1 _ rfl)) (by kernel_rfl)) (Zv (.slice B b.length capb) (ZN (zA (Zv (v) (Zv (.slice B b.length capb) ?_)))))))
    obtain ⟨i, z, e1, e2, e3, e4, e5⟩ := kX
    refine xT (L' := [] ++ oq ++ []) (by simp) (jQ (E := []) (ob := oq) (L0 := []) (sz := 14) (l := b) (A := B) (c := capb) y9 (by kernel_rfl) rfl Tryz.underlying29 e1 e2 e3 e4 (by kernel_rfl) hrel (by kernel_rfl) (fun w hO => hu.on hO.below hO.size) xX (by unfold maxLen; first | (simp; omega) | omega) (by rw [e5]; first | (simp; omega) | omega) (fun va oa hva => xT (L' := oa ++ []) (by simp) ?_))
    have hva2 : SlS va (a ++ b) oa := hva.to (by simp) (by simp)
    exact Zv (va) (zP (zQ (z8 (zA (Zv (.int .i64 2) (Zv (.int .i64 2) (zP (zT (m' := 1) (by decide) (.inr (.inr (⟨va, oa, _, hva2, rfl, ZU, rfl⟩)))))))))))
  unfold SlS at hrel
  refine ZO (Zv Z5 (ZN (z7 (Zf (y5 (zD (zN (zH (z8 ?_)))))))))
  exact ZO (Zv (v) (Zv (v) (ZN (zB (ZF (v) Tryz.results137 (fun w hO => ⟨v, oq, rfl, hrel, by simpa using hO⟩))))))
theorem or4_any (A B : Option Addr) (cap capb : Nat) (a b : List Sp) (W : World) (hv : Reads yR W W.heap.size A a) (hu : Reads yR W W.heap.size B b) (hn : a.length ≤ 100000) (hm : b.length ≤ 100000) (ha : x8 a) (hb : x8 b) :
    Calls Tryz.prog 83 #[.slice A a.length cap, .slice B b.length capb] W fun e w' => ∃ v' ob', e = .returned v' ∧ SlS v' (if zR a && zR b then orL a b else []) ob' ∧ Own [] W w' ob' := by
  refine Z2 (n := 24) Tryz.func83 rfl (ZO (Zv (.slice none 0 0) (ZN (z7 (ZO (Zv (.slice A a.length cap) (Zc (k := 129) (args := #[.slice A a.length cap]) (.bool (zR a)) (fun w hO => uI A cap a w (hv.on hO.below hO.size) (by omega) ha) ?_)))))))
  cases h1 : zR a with
  | true =>
    refine Zv Z5 (Zv Z5 (Zv (.slice B b.length capb) (Zc (k := 129) (args := #[.slice B b.length capb]) (.bool (zR b)) (fun w hO => uI B capb b w (hu.on hO.below hO.size) (by omega) hb) ?_)))
    cases h2 : zR b with
    | true =>
      refine Zv Z5 (Zv Z5 (ZX (ZB (ZO (Zv (.slice A a.length cap) (Zv (.slice B b.length capb) (qC 29 #[.slice A a.length cap, .slice B b.length capb] (by kernel_rfl) rfl (fun _ => by kernel_rfl) (fun b1 => ?_))))))))
      refine Zr (k := 137) (args := #[.slice (some ⟨b1, 0, none⟩) 2 2]) (fun v' L' => SlS v' (a ++ b) L') (fun w hO => (concat4_any A B cap capb a b w (hv.on hO.below hO.size) (hu.on hO.below hO.size) hn hm b1 (hO.held _ List.mem_cons_self)).mono fun e w' ⟨v', ob', h1, h2, h3⟩ => ⟨v', ob', h1, h2, Own.take (Own.joinN hO h3) (fun x hx => List.mem_append_left _ hx) h3.apart⟩) (fun cv oc hcv => ?_)
      obtain ⟨C, capc, rfl⟩ := hcv.form
      have hlen : (a ++ b).length ≤ 200000 := by rw [List.length_append]; omega
      have hlab := tP ha hb
      refine Zr (k := 136) (args := #[.slice C (a ++ b).length capc]) (fun v' L' => ∃ mv, v' = .tuple #[mv, .bool (k8 (a ++ b))] ∧ SlS mv (if k8 (a ++ b) then jG (a ++ b) else []) L') (fun w hO => (nK C capc (a ++ b) w (Sl.reads hcv rfl hO (fun x hx => hx)) (by omega) hlab).mono fun e w' ⟨v', ob', h1, h2, h3⟩ => ⟨_, ob', h1, ⟨v', rfl, h2⟩, Own.take (Own.joinN hO h3) (fun x hx => List.mem_append_left _ hx) h3.apart⟩) (fun tv om htv => ?_)
      obtain ⟨mv, rfl, hmv⟩ := htv
      refine Zv (.tuple #[mv, .bool (k8 (a ++ b))]) (Zv (mv) (Zv (.bool (k8 (a ++ b))) (Zv (mv) (Zv (.bool (k8 (a ++ b))) (ZR (Zv (mv) (Zv (mv) (zP ?_))))))))
      exact z8 (zB (ZF (mv) Tryz.results83 (fun w hO => ⟨mv, om, rfl, by rw [if_pos (by simp)]; unfold orL; have hall : k8 (a ++ b) = true := allMay_mem.2 (bT (by assumption) (by assumption)); rw [hall, if_pos rfl] at hmv; exact hmv, hO⟩)))
    | false =>
      refine Zv Z4 (Zv Z4 (ZY (ZO (Zv (.slice none 0 0) (ZN (zB (z6 ?_)))))))
      exact ZF (.slice none 0 0) Tryz.results83 (fun w hO => ⟨_, [], rfl, by rw [if_neg (by simp)]; exact Sl.nil _ _, by simpa using hO⟩)
  | false =>
    refine Zv Z4 (Zv Z4 (Zk (Zk (Zk (Zv Z4 (ZY (ZO (Zv (.slice none 0 0) ?_))))))))
    exact ZN (zB (z6 (ZF (.slice none 0 0) Tryz.results83 (fun w hO => ⟨_, [], rfl, by rw [if_neg (by simp)]; exact Sl.nil _ _, by simpa using hO⟩))))
end
section
structure BothB (a b : List Sp) (W : World) (A1 B1 : Option Addr) (c1 c2 n : Nat) (a1 b1 : List Sp) (v : Value) (out : List Sp) (ob : List Blk) : Prop where
  ra : Reads yR W W.heap.size A1 a1
  rb : Reads yR W W.heap.size B1 b1
  ca : a1.length ≤ c1
  cb : b1.length ≤ c2
  sa : x8 a1
  sb : x8 b1
  sl : SlS v out ob
  so : x8 out
  len : out.length + n ≤ a.length + b.length
  fuel : a1.length + b1.length ≤ n
  eq : andG (a.length + b.length) [] a b = andG n out a1 b1
theorem andG_end {n : Nat} {out a b : List Sp} (h : ¬ (0 < a.length ∧ 0 < b.length)) : andG n out a b = out := by
  cases n with
  | zero => cases a <;> cases b <;> rfl
  | succ n =>
    cases a with
    | nil => rfl
    | cons s a =>
      cases b with
      | nil => rfl
      | cons u b => exact absurd ⟨by simp, by simp⟩ h
theorem drop1_short {l : List Sp} (h : x8 l) : x8 (l.drop 1) := fun s hs => h s (List.mem_of_mem_drop hs)
theorem BothB.stepA {a b : List Sp} {W : World} {A1 B1 : Option Addr} {c1 c2 n o b0 : Nat} {a1 b1 : List Sp} {v v2 : Value} {out : List Sp} {ob ob2 : List Blk} (h : BothB a b W A1 B1 c1 c2 n a1 b1 v out ob) (ha : 0 < a1.length) (hb : 0 < b1.length) {s u : Sp} (hs : a1[0] = s) (hu : b1[0] = u) (hA : A1 = some ⟨b0, o, none⟩)
    (he : s.hi = x9 s.hi u.hi) (h2 : SlS v2 (qG out (xB s.lo u.lo) (x9 s.hi u.hi)) ob2) : BothB a b W (some ⟨b0, o + (if c1 = (1 : Int).toNat then 0 else (1 : Int).toNat * 14), none⟩) B1 (c1 - (1 : Int).toNat) c2 (n - 1) (a1.drop 1) b1 v2 (qG out (xB s.lo u.lo) (x9 s.hi u.hi)) ob2 := by
  have hss : s.short := hs ▸ h.sa _ (List.getElem_mem ha)
  have hus : u.short := hu ▸ h.sb _ (List.getElem_mem hb)
  have hf := h.fuel
  have h1 : (1 : Int).toNat = 1 := rfl
  refine ⟨h.ra.drop1 y9 hA h.ca, h.rb, by rw [List.length_drop, h1]; have := h.ca; omega, h.cb, drop1_short h.sa, h.sb, h2, p5 h.so (fV hss.1 hus.1) (tD hss.2 hus.2), by have := h.len; have := pA out (xB s.lo u.lo) (x9 s.hi u.hi); omega, by rw [List.length_drop]; omega, ?_⟩
  rw [h.eq]
  obtain ⟨m, rfl⟩ : ∃ m, n = m + 1 := ⟨n - 1, by omega⟩
  match a1, b1, ha, hb, hs, hu with
  | x :: a2, y :: b2, _, _, hs, hu =>
    obtain rfl : x = s := hs
    obtain rfl : y = u := hu
    conv => lhs; unfold andG
    rw [if_pos he]; rfl
theorem BothB.stepB {a b : List Sp} {W : World} {A1 B1 : Option Addr} {c1 c2 n o b0 : Nat} {a1 b1 : List Sp} {v v2 : Value} {out : List Sp} {ob ob2 : List Blk} (h : BothB a b W A1 B1 c1 c2 n a1 b1 v out ob) (ha : 0 < a1.length) (hb : 0 < b1.length) {s u : Sp} (hs : a1[0] = s) (hu : b1[0] = u) (hB : B1 = some ⟨b0, o, none⟩)
    (he : ¬ s.hi = x9 s.hi u.hi) (h2 : SlS v2 (qG out (xB s.lo u.lo) (x9 s.hi u.hi)) ob2) : BothB a b W A1 (some ⟨b0, o + (if c2 = (1 : Int).toNat then 0 else (1 : Int).toNat * 14), none⟩) c1 (c2 - (1 : Int).toNat) (n - 1) a1 (b1.drop 1) v2 (qG out (xB s.lo u.lo) (x9 s.hi u.hi)) ob2 := by
  have hss : s.short := hs ▸ h.sa _ (List.getElem_mem ha)
  have hus : u.short := hu ▸ h.sb _ (List.getElem_mem hb)
  have hf := h.fuel
  have h1 : (1 : Int).toNat = 1 := rfl
  refine ⟨h.ra, h.rb.drop1 y9 hB h.cb, h.ca, by rw [List.length_drop, h1]; have := h.cb; omega, h.sa, drop1_short h.sb, h2, p5 h.so (fV hss.1 hus.1) (tD hss.2 hus.2), by have := h.len; have := pA out (xB s.lo u.lo) (x9 s.hi u.hi); omega, by rw [List.length_drop]; omega, ?_⟩
  rw [h.eq]
  obtain ⟨m, rfl⟩ : ∃ m, n = m + 1 := ⟨n - 1, by omega⟩
  match a1, b1, ha, hb, hs, hu with
  | x :: a2, y :: b2, _, _, hs, hu =>
    obtain rfl : x = s := hs
    obtain rfl : y = u := hu
    conv => lhs; unfold andG
    rw [if_neg he]; rfl
theorem and4_any (A B : Option Addr) (cap capb : Nat) (a b : List Sp) (W : World) (hv : Reads yR W W.heap.size A a) (hu : Reads yR W W.heap.size B b) (hn : a.length ≤ 100000) (hm : b.length ≤ 100000) (ha : x8 a) (hb : x8 b) (hca : a.length ≤ cap) (hcb : b.length ≤ capb) :
    Calls Tryz.prog 81 #[.slice A a.length cap, .slice B b.length capb] W fun e w' => ∃ v' ob', e = .returned v' ∧ SlS v' (if zR a && zR b then wP a b else []) ob' ∧ Own [] W w' ob' := by
  refine Z2 (n := 66) Tryz.func81 rfl (ZO (Zv (.slice none 0 0) (ZN (z7 (ZO (Zv (.slice A a.length cap) (Zc (k := 129) (args := #[.slice A a.length cap]) (.bool (zR a)) (fun w hO => uI A cap a w (hv.on hO.below hO.size) (by omega) ha) ?_)))))))
  cases h1 : zR a with
  | true =>
    refine Zv Z5 (Zv Z5 (Zv (.slice B b.length capb) (Zc (k := 129) (args := #[.slice B b.length capb]) (.bool (zR b)) (fun w hO => uI B capb b w (hu.on hO.below hO.size) (by omega) hb) ?_)))
    cases h2 : zR b with
    | true =>
      refine Zv Z5 (Zv Z5 (ZX (ZB (ZO (Zv (.slice none 0 0) (zP (z8 ?_)))))))
      refine z7 (zL (qE (L' := [] ++ []) rfl (yL (fun L f m => ∃ (A1 : Option Addr) (B1 : Option Addr) (q1 : Nat) (q2 : Nat) (c1 : Nat) (c2 : Nat) (n : Nat) (a1 : List Sp) (b1 : List Sp) (v : Value) (out : List Sp) (ob : List Blk) (j : Nat → Value), (q1 = a1.length ∧ q2 = b1.length ∧ BothB a b W A1 B1 c1 c2 n a1 b1 v out ob) ∧ L = ob ++ [] ∧ f = xF j [(0, .slice A1 q1 c1), (1, .slice B1 q2 c2), (5, v)] ∧ m = a1.length + b1.length) (a.length + b.length) ⟨A, B, a.length, b.length, cap, capb, a.length + b.length, a, b, _, [], [], _, ⟨rfl, rfl, ⟨hv, hu, hca, hcb, ha, hb, Sl.nil _ _, fun s hs => by simp at hs, by simp, Nat.le_refl _, rfl⟩⟩, rfl, ZU, rfl⟩ ?_)))
      rintro L f m ⟨A1, B1, q1, q2, c1, c2, n, a1, b1, v, out, ob, j, hrel, rfl, rfl, rfl⟩
      obtain ⟨hq1, hq2, hrel⟩ := hrel; subst hq1; subst hq2; have hlen := hrel.len; have hfuel := hrel.fuel; refine qE (L' := ob) (List.append_nil ob) ?_
      refine z7 (ZO (Zv (.slice A1 a1.length c1) (Zv (.int .i64 (a1.length : Int)) ?_)))
      by_cases h3 : (0 : Int) < (a1.length : Int)
      · have hka : 0 < a1.length := by omega
        obtain ⟨ba, offa, hA, hlta, hcela⟩ := hrel.ra hka
        obtain ⟨s, hs⟩ : ∃ s, a1[0] = s := ⟨_, rfl⟩
        have hsk : s.short := hs ▸ hrel.sa _ (List.getElem_mem hka)
        refine Zg h3 (Zv Z4 (Zv (.slice B1 b1.length c2) (Zv (.int .i64 (b1.length : Int)) ?_)))
        by_cases h4 : (0 : Int) < (b1.length : Int)
        · have hkb : 0 < b1.length := by omega
          obtain ⟨bb, offb, hB, hltb, hcelb⟩ := hrel.rb hkb
          obtain ⟨u, hu1⟩ : ∃ u, b1[0] = u := ⟨_, rfl⟩
          have huk : u.short := hu1 ▸ hrel.sb _ (List.getElem_mem hkb)
          refine Zg h4 (Zv Z4 (ZY (ZB (zL (z7 (j6 (fun L f => ∃ (p6 p7 : Nat) (j : Nat → Value), L = ⟨p7, (zC (xB s.lo u.lo)).cells, 78⟩ :: (⟨p6, (zC (x9 s.lo u.lo)).cells, 78⟩ :: (ob)) ∧ f = xF j [(0, .slice A1 a1.length c1), (1, .slice B1 b1.length c2), (5, v), (6, Zp p6 0), (7, Zp p7 0)]) ?_ ?_))))))
          · refine uF (by kernel_rfl) (ZT 0 [] _ (.slice A1 a1.length c1) yJ rfl (uK 1 [] _ (Zp ba (offa + 0 * 14)) rfl (by kernel_rfl) (by kernel_rfl) (by kernel_rfl) yJ (by kernel_rfl) (fun w _ => qJ (b := ba) (off := offa) (c := c1) (n := a1.length) (k := .i64) (j := 0) (e := 80) (sz := 14) rfl (by kernel_rfl) hA (by kernel_rfl) (by kernel_rfl) (by kernel_rfl) (by omega) (by omega) (by omega) w) (ZT 2 [] _ (Zp ba (offa + 0 * 14 + 0)) yJ rfl (hJ 3 _ (a := ⟨ba, offa + 0 * 14 + 0, none⟩) (zC s.lo) rfl (by kernel_rfl) (by kernel_rfl) (by kernel_rfl) yJ (fun w hO => Own.sub [] hO) (by kernel_rfl) rfl (by kernel_rfl) (fun w hO => y6 y9 (fun j u h => (hO.below.cell (p := ⟨ba, offa + j, none⟩) hlta).trans (hcela j u h)) 0 0 hka (by omega) _ (by rw [hs]; kernel_rfl)) (ZT 4 [] _ (.slice B1 b1.length c2) yJ rfl (uK 5 [] _ (Zp bb (offb + 0 * 14)) rfl (by kernel_rfl) (by kernel_rfl) (by kernel_rfl) yJ (by kernel_rfl) (fun w _ => qJ (b := bb) (off := offb) (c := c2) (n := b1.length) (k := .i64) (j := 0) (e := 80) (sz := 14) rfl (by kernel_rfl) hB (by kernel_rfl) (by kernel_rfl) (by kernel_rfl) (by omega) (by omega) (by omega) w) (ZT 6 [] _ (Zp bb (offb + 0 * 14 + 0)) yJ rfl (hJ 7 _ (a := ⟨bb, offb + 0 * 14 + 0, none⟩) (zC u.lo) rfl (by kernel_rfl) (by kernel_rfl) (by kernel_rfl) yJ (fun w hO => Own.sub [] hO) (by kernel_rfl) rfl (by kernel_rfl) (fun w hO => y6 y9 (fun j u h => (hO.below.cell (p := ⟨bb, offb + j, none⟩) hltb).trans (hcelb j u h)) 0 0 hkb (by omega) _ (by rw [hu1]; kernel_rfl)) (h_three 8 12 13 (by kernel_rfl) ?_ ?_ ?_)))))))))
            · refine Zx [] _ (k := 130) (args := #[zC s.lo, zC u.lo]) (.tuple #[zC (x9 s.lo u.lo), zC (xB s.lo u.lo)]) rfl (fun w _ => qT s.lo u.lo w hsk.1 huk.1) (ZT 9 [] _ (.tuple #[zC (x9 s.lo u.lo), zC (xB s.lo u.lo)]) yJ rfl (ZT 10 [] _ (zC (x9 s.lo u.lo)) yJ rfl (ZT 11 [] _ (zC (xB s.lo u.lo)) yJ rfl (wS 12 13 (by kernel_rfl) ?_ ?_))))
              · exact Zy [] _ (.agg ZE) rfl rfl (fun b1 => Zz 13 (Zy [⟨b1, ZE, 78⟩] _ (.agg ZE) rfl rfl (fun b2 => Zz 14 (ZS [⟨b2, ZE, 78⟩, ⟨b1, ZE, 78⟩] _ 1 ⟨b1, ZE, 78⟩ (off := 0) (zC (x9 s.lo u.lo)) rfl rfl (Zz 15 (ZS [⟨b2, ZE, 78⟩, ⟨b1, (zC (x9 s.lo u.lo)).cells, 78⟩] _ 0 ⟨b2, ZE, 78⟩ (off := 0) (zC (xB s.lo u.lo)) rfl rfl (ZZ (yQ ⟨b1, b2, _, rfl, ZU⟩))))))))
              exact Zy [] _ (.agg ZE) rfl rfl (fun b1 => Zz 12 (Zy [⟨b1, ZE, 78⟩] _ (.agg ZE) rfl rfl (fun b2 => Zz 14 (ZS [⟨b2, ZE, 78⟩, ⟨b1, ZE, 78⟩] _ 0 ⟨b2, ZE, 78⟩ (off := 0) (zC (x9 s.lo u.lo)) rfl rfl (Zz 15 (ZS [⟨b2, (zC (x9 s.lo u.lo)).cells, 78⟩, ⟨b1, ZE, 78⟩] _ 1 ⟨b1, ZE, 78⟩ (off := 0) (zC (xB s.lo u.lo)) rfl rfl (ZZ (uL (yQ ⟨b2, b1, _, rfl, ZU⟩)))))))))
            · refine Zy [] _ (.agg ZE) rfl rfl (fun b1 => wS 8 13 (by kernel_rfl) ?_ ?_)
              · exact Zx [⟨b1, ZE, 78⟩] _ (k := 130) (args := #[zC s.lo, zC u.lo]) (.tuple #[zC (x9 s.lo u.lo), zC (xB s.lo u.lo)]) rfl (fun w _ => qT s.lo u.lo w hsk.1 huk.1) (ZT 9 [⟨b1, ZE, 78⟩] _ (.tuple #[zC (x9 s.lo u.lo), zC (xB s.lo u.lo)]) yJ rfl (ZT 10 [⟨b1, ZE, 78⟩] _ (zC (x9 s.lo u.lo)) yJ rfl (ZT 11 [⟨b1, ZE, 78⟩] _ (zC (xB s.lo u.lo)) yJ rfl (Zz 13 (Zy [⟨b1, ZE, 78⟩] _ (.agg ZE) rfl rfl (fun b2 => Zz 14 (ZS [⟨b2, ZE, 78⟩, ⟨b1, ZE, 78⟩] _ 1 ⟨b1, ZE, 78⟩ (off := 0) (zC (x9 s.lo u.lo)) rfl rfl (Zz 15 (ZS [⟨b2, ZE, 78⟩, ⟨b1, (zC (x9 s.lo u.lo)).cells, 78⟩] _ 0 ⟨b2, ZE, 78⟩ (off := 0) (zC (xB s.lo u.lo)) rfl rfl (ZZ (yQ ⟨b1, b2, _, rfl, ZU⟩)))))))))))
              exact Zy [⟨b1, ZE, 78⟩] _ (.agg ZE) rfl rfl (fun b2 => Zz 8 (Zx [⟨b2, ZE, 78⟩, ⟨b1, ZE, 78⟩] _ (k := 130) (args := #[zC s.lo, zC u.lo]) (.tuple #[zC (x9 s.lo u.lo), zC (xB s.lo u.lo)]) rfl (fun w _ => qT s.lo u.lo w hsk.1 huk.1) (ZT 9 [⟨b2, ZE, 78⟩, ⟨b1, ZE, 78⟩] _ (.tuple #[zC (x9 s.lo u.lo), zC (xB s.lo u.lo)]) yJ rfl (ZT 10 [⟨b2, ZE, 78⟩, ⟨b1, ZE, 78⟩] _ (zC (x9 s.lo u.lo)) yJ rfl (ZT 11 [⟨b2, ZE, 78⟩, ⟨b1, ZE, 78⟩] _ (zC (xB s.lo u.lo)) yJ rfl (Zz 14 (ZS [⟨b2, ZE, 78⟩, ⟨b1, ZE, 78⟩] _ 1 ⟨b1, ZE, 78⟩ (off := 0) (zC (x9 s.lo u.lo)) rfl rfl (Zz 15 (ZS [⟨b2, ZE, 78⟩, ⟨b1, (zC (x9 s.lo u.lo)).cells, 78⟩] _ 0 ⟨b2, ZE, 78⟩ (off := 0) (zC (xB s.lo u.lo)) rfl rfl (ZZ (yQ ⟨b1, b2, _, rfl, ZU⟩)))))))))))
            refine Zy [] _ (.agg ZE) rfl rfl (fun b1 => wS 8 12 (by kernel_rfl) ?_ ?_)
            · refine Zx [⟨b1, ZE, 78⟩] _ (k := 130) (args := #[zC s.lo, zC u.lo]) (.tuple #[zC (x9 s.lo u.lo), zC (xB s.lo u.lo)]) rfl (fun w _ => qT s.lo u.lo w hsk.1 huk.1) (ZT 9 [⟨b1, ZE, 78⟩] _ (.tuple #[zC (x9 s.lo u.lo), zC (xB s.lo u.lo)]) yJ rfl (ZT 10 [⟨b1, ZE, 78⟩] _ (zC (x9 s.lo u.lo)) yJ rfl (ZT 11 [⟨b1, ZE, 78⟩] _ (zC (xB s.lo u.lo)) yJ rfl (Zz 12 (Zy [⟨b1, ZE, 78⟩] _ (.agg ZE) rfl rfl (fun b2 => Zz 14 (ZS [⟨b2, ZE, 78⟩, ⟨b1, ZE, 78⟩] _ 0 ⟨b2, ZE, 78⟩ (off := 0) (zC (x9 s.lo u.lo)) rfl rfl (Zz 15 (ZS [⟨b2, (zC (x9 s.lo u.lo)).cells, 78⟩, ⟨b1, ZE, 78⟩] _ 1 ⟨b1, ZE, 78⟩ (off := 0) (zC (xB s.lo u.lo)) rfl rfl (ZZ (uL ?_)))))))))))
              exact yQ ⟨b2, b1, _, rfl, ZU⟩
            refine Zy [⟨b1, ZE, 78⟩] _ (.agg ZE) rfl rfl (fun b2 => Zz 8 (Zx [⟨b2, ZE, 78⟩, ⟨b1, ZE, 78⟩] _ (k := 130) (args := #[zC s.lo, zC u.lo]) (.tuple #[zC (x9 s.lo u.lo), zC (xB s.lo u.lo)]) rfl (fun w _ => qT s.lo u.lo w hsk.1 huk.1) (ZT 9 [⟨b2, ZE, 78⟩, ⟨b1, ZE, 78⟩] _ (.tuple #[zC (x9 s.lo u.lo), zC (xB s.lo u.lo)]) yJ rfl (ZT 10 [⟨b2, ZE, 78⟩, ⟨b1, ZE, 78⟩] _ (zC (x9 s.lo u.lo)) yJ rfl (ZT 11 [⟨b2, ZE, 78⟩, ⟨b1, ZE, 78⟩] _ (zC (xB s.lo u.lo)) yJ rfl (Zz 14 (ZS [⟨b2, ZE, 78⟩, ⟨b1, ZE, 78⟩] _ 0 ⟨b2, ZE, 78⟩ (off := 0) (zC (x9 s.lo u.lo)) rfl rfl (Zz 15 (ZS [⟨b2, (zC (x9 s.lo u.lo)).cells, 78⟩, ⟨b1, ZE, 78⟩] _ 1 ⟨b1, ZE, 78⟩ (off := 0) (zC (xB s.lo u.lo)) rfl rfl (ZZ (uL ?_)))))))))))
            exact yQ ⟨b2, b1, _, rfl, ZU⟩
          · rintro L f ⟨p6, p7, j, rfl, rfl⟩
            refine z8 (z7 (j6 (fun L f => ∃ (p8 p9 : Nat) (j : Nat → Value), L = ⟨p9, (zC (xB s.hi u.hi)).cells, 78⟩ :: (⟨p8, (zC (x9 s.hi u.hi)).cells, 78⟩ :: (⟨p7, (zC (xB s.lo u.lo)).cells, 78⟩ :: (⟨p6, (zC (x9 s.lo u.lo)).cells, 78⟩ :: (ob)))) ∧ f = xF j [(0, .slice A1 a1.length c1), (1, .slice B1 b1.length c2), (5, v), (6, Zp p6 0), (7, Zp p7 0), (8, Zp p8 0), (9, Zp p9 0)]) ?_ ?_))
            · refine uF (by kernel_rfl) (ZT 0 [] _ (.slice A1 a1.length c1) yJ rfl (uK 1 [] _ (Zp ba (offa + 0 * 14)) rfl (by kernel_rfl) (by kernel_rfl) (by kernel_rfl) yJ (by kernel_rfl) (fun w _ => qJ (b := ba) (off := offa) (c := c1) (n := a1.length) (k := .i64) (j := 0) (e := 80) (sz := 14) rfl (by kernel_rfl) hA (by kernel_rfl) (by kernel_rfl) (by kernel_rfl) (by omega) (by omega) (by omega) w) (ZT 2 [] _ (Zp ba (offa + 0 * 14 + 7)) yJ rfl (hJ 3 _ (a := ⟨ba, offa + 0 * 14 + 7, none⟩) (zC s.hi) rfl (by kernel_rfl) (by kernel_rfl) (by kernel_rfl) yJ (fun w hO => Own.sub [] hO) (by kernel_rfl) rfl (by kernel_rfl) (fun w hO => y6 y9 (fun j u h => (hO.below.cell (p := ⟨ba, offa + j, none⟩) hlta).trans (hcela j u h)) 0 7 hka (by omega) _ (by rw [hs]; kernel_rfl)) (ZT 4 [] _ (.slice B1 b1.length c2) yJ rfl (uK 5 [] _ (Zp bb (offb + 0 * 14)) rfl (by kernel_rfl) (by kernel_rfl) (by kernel_rfl) yJ (by kernel_rfl) (fun w _ => qJ (b := bb) (off := offb) (c := c2) (n := b1.length) (k := .i64) (j := 0) (e := 80) (sz := 14) rfl (by kernel_rfl) hB (by kernel_rfl) (by kernel_rfl) (by kernel_rfl) (by omega) (by omega) (by omega) w) (ZT 6 [] _ (Zp bb (offb + 0 * 14 + 7)) yJ rfl (hJ 7 _ (a := ⟨bb, offb + 0 * 14 + 7, none⟩) (zC u.hi) rfl (by kernel_rfl) (by kernel_rfl) (by kernel_rfl) yJ (fun w hO => Own.sub [] hO) (by kernel_rfl) rfl (by kernel_rfl) (fun w hO => y6 y9 (fun j u h => (hO.below.cell (p := ⟨bb, offb + j, none⟩) hltb).trans (hcelb j u h)) 0 7 hkb (by omega) _ (by rw [hu1]; kernel_rfl)) (h_three 8 12 13 (by kernel_rfl) ?_ ?_ ?_)))))))))
              · refine Zx [] _ (k := 130) (args := #[zC s.hi, zC u.hi]) (.tuple #[zC (x9 s.hi u.hi), zC (xB s.hi u.hi)]) rfl (fun w _ => qT s.hi u.hi w hsk.2 huk.2) (ZT 9 [] _ (.tuple #[zC (x9 s.hi u.hi), zC (xB s.hi u.hi)]) yJ rfl (ZT 10 [] _ (zC (x9 s.hi u.hi)) yJ rfl (ZT 11 [] _ (zC (xB s.hi u.hi)) yJ rfl (wS 12 13 (by kernel_rfl) ?_ ?_))))
                · exact Zy [] _ (.agg ZE) rfl rfl (fun b3 => Zz 13 (Zy [⟨b3, ZE, 78⟩] _ (.agg ZE) rfl rfl (fun b4 => Zz 14 (ZS [⟨b4, ZE, 78⟩, ⟨b3, ZE, 78⟩] _ 1 ⟨b3, ZE, 78⟩ (off := 0) (zC (x9 s.hi u.hi)) rfl rfl (Zz 15 (ZS [⟨b4, ZE, 78⟩, ⟨b3, (zC (x9 s.hi u.hi)).cells, 78⟩] _ 0 ⟨b4, ZE, 78⟩ (off := 0) (zC (xB s.hi u.hi)) rfl rfl (ZZ (yQ ⟨b3, b4, _, rfl, ZU⟩))))))))
                exact Zy [] _ (.agg ZE) rfl rfl (fun b3 => Zz 12 (Zy [⟨b3, ZE, 78⟩] _ (.agg ZE) rfl rfl (fun b4 => Zz 14 (ZS [⟨b4, ZE, 78⟩, ⟨b3, ZE, 78⟩] _ 0 ⟨b4, ZE, 78⟩ (off := 0) (zC (x9 s.hi u.hi)) rfl rfl (Zz 15 (ZS [⟨b4, (zC (x9 s.hi u.hi)).cells, 78⟩, ⟨b3, ZE, 78⟩] _ 1 ⟨b3, ZE, 78⟩ (off := 0) (zC (xB s.hi u.hi)) rfl rfl (ZZ (uL (yQ ⟨b4, b3, _, rfl, ZU⟩)))))))))
              · refine Zy [] _ (.agg ZE) rfl rfl (fun b3 => wS 8 13 (by kernel_rfl) ?_ ?_)
                · exact Zx [⟨b3, ZE, 78⟩] _ (k := 130) (args := #[zC s.hi, zC u.hi]) (.tuple #[zC (x9 s.hi u.hi), zC (xB s.hi u.hi)]) rfl (fun w _ => qT s.hi u.hi w hsk.2 huk.2) (ZT 9 [⟨b3, ZE, 78⟩] _ (.tuple #[zC (x9 s.hi u.hi), zC (xB s.hi u.hi)]) yJ rfl (ZT 10 [⟨b3, ZE, 78⟩] _ (zC (x9 s.hi u.hi)) yJ rfl (ZT 11 [⟨b3, ZE, 78⟩] _ (zC (xB s.hi u.hi)) yJ rfl (Zz 13 (Zy [⟨b3, ZE, 78⟩] _ (.agg ZE) rfl rfl (fun b4 => Zz 14 (ZS [⟨b4, ZE, 78⟩, ⟨b3, ZE, 78⟩] _ 1 ⟨b3, ZE, 78⟩ (off := 0) (zC (x9 s.hi u.hi)) rfl rfl (Zz 15 (ZS [⟨b4, ZE, 78⟩, ⟨b3, (zC (x9 s.hi u.hi)).cells, 78⟩] _ 0 ⟨b4, ZE, 78⟩ (off := 0) (zC (xB s.hi u.hi)) rfl rfl (ZZ (yQ ⟨b3, b4, _, rfl, ZU⟩)))))))))))
                exact Zy [⟨b3, ZE, 78⟩] _ (.agg ZE) rfl rfl (fun b4 => Zz 8 (Zx [⟨b4, ZE, 78⟩, ⟨b3, ZE, 78⟩] _ (k := 130) (args := #[zC s.hi, zC u.hi]) (.tuple #[zC (x9 s.hi u.hi), zC (xB s.hi u.hi)]) rfl (fun w _ => qT s.hi u.hi w hsk.2 huk.2) (ZT 9 [⟨b4, ZE, 78⟩, ⟨b3, ZE, 78⟩] _ (.tuple #[zC (x9 s.hi u.hi), zC (xB s.hi u.hi)]) yJ rfl (ZT 10 [⟨b4, ZE, 78⟩, ⟨b3, ZE, 78⟩] _ (zC (x9 s.hi u.hi)) yJ rfl (ZT 11 [⟨b4, ZE, 78⟩, ⟨b3, ZE, 78⟩] _ (zC (xB s.hi u.hi)) yJ rfl (Zz 14 (ZS [⟨b4, ZE, 78⟩, ⟨b3, ZE, 78⟩] _ 1 ⟨b3, ZE, 78⟩ (off := 0) (zC (x9 s.hi u.hi)) rfl rfl (Zz 15 (ZS [⟨b4, ZE, 78⟩, ⟨b3, (zC (x9 s.hi u.hi)).cells, 78⟩] _ 0 ⟨b4, ZE, 78⟩ (off := 0) (zC (xB s.hi u.hi)) rfl rfl (ZZ (yQ ⟨b3, b4, _, rfl, ZU⟩)))))))))))
              refine Zy [] _ (.agg ZE) rfl rfl (fun b3 => wS 8 12 (by kernel_rfl) ?_ ?_)
              · refine Zx [⟨b3, ZE, 78⟩] _ (k := 130) (args := #[zC s.hi, zC u.hi]) (.tuple #[zC (x9 s.hi u.hi), zC (xB s.hi u.hi)]) rfl (fun w _ => qT s.hi u.hi w hsk.2 huk.2) (ZT 9 [⟨b3, ZE, 78⟩] _ (.tuple #[zC (x9 s.hi u.hi), zC (xB s.hi u.hi)]) yJ rfl (ZT 10 [⟨b3, ZE, 78⟩] _ (zC (x9 s.hi u.hi)) yJ rfl (ZT 11 [⟨b3, ZE, 78⟩] _ (zC (xB s.hi u.hi)) yJ rfl (Zz 12 (Zy [⟨b3, ZE, 78⟩] _ (.agg ZE) rfl rfl (fun b4 => Zz 14 (ZS [⟨b4, ZE, 78⟩, ⟨b3, ZE, 78⟩] _ 0 ⟨b4, ZE, 78⟩ (off := 0) (zC (x9 s.hi u.hi)) rfl rfl (Zz 15 (ZS [⟨b4, (zC (x9 s.hi u.hi)).cells, 78⟩, ⟨b3, ZE, 78⟩] _ 1 ⟨b3, ZE, 78⟩ (off := 0) (zC (xB s.hi u.hi)) rfl rfl (ZZ (uL ?_)))))))))))
                exact yQ ⟨b4, b3, _, rfl, ZU⟩
              refine Zy [⟨b3, ZE, 78⟩] _ (.agg ZE) rfl rfl (fun b4 => Zz 8 (Zx [⟨b4, ZE, 78⟩, ⟨b3, ZE, 78⟩] _ (k := 130) (args := #[zC s.hi, zC u.hi]) (.tuple #[zC (x9 s.hi u.hi), zC (xB s.hi u.hi)]) rfl (fun w _ => qT s.hi u.hi w hsk.2 huk.2) (ZT 9 [⟨b4, ZE, 78⟩, ⟨b3, ZE, 78⟩] _ (.tuple #[zC (x9 s.hi u.hi), zC (xB s.hi u.hi)]) yJ rfl (ZT 10 [⟨b4, ZE, 78⟩, ⟨b3, ZE, 78⟩] _ (zC (x9 s.hi u.hi)) yJ rfl (ZT 11 [⟨b4, ZE, 78⟩, ⟨b3, ZE, 78⟩] _ (zC (xB s.hi u.hi)) yJ rfl (Zz 14 (ZS [⟨b4, ZE, 78⟩, ⟨b3, ZE, 78⟩] _ 0 ⟨b4, ZE, 78⟩ (off := 0) (zC (x9 s.hi u.hi)) rfl rfl (Zz 15 (ZS [⟨b4, (zC (x9 s.hi u.hi)).cells, 78⟩, ⟨b3, ZE, 78⟩] _ 1 ⟨b3, ZE, 78⟩ (off := 0) (zC (xB s.hi u.hi)) rfl rfl (ZZ (uL ?_)))))))))))
              exact yQ ⟨b4, b3, _, rfl, ZU⟩
            · rintro L f ⟨p8, p9, j, rfl, rfl⟩
              refine z8 (ZO (Zv (v) (Zl 2 ⟨p7, (zC (xB s.lo u.lo)).cells, 78⟩ (off := 0) (zC (xB s.lo u.lo)) (Zl 1 ⟨p8, (zC (x9 s.hi u.hi)).cells, 78⟩ (off := 0) (zC (x9 s.hi u.hi)) (Zr (k := 131) (args := #[v, zC (xB s.lo u.lo), zC (x9 s.hi u.hi)]) (fun v' L' => ∃ ob', L' = [⟨p9, (zC (xB s.hi u.hi)).cells, 78⟩, ⟨p8, (zC (x9 s.hi u.hi)).cells, 78⟩, ⟨p7, (zC (xB s.lo u.lo)).cells, 78⟩, ⟨p6, (zC (x9 s.lo u.lo)).cells, 78⟩] ++ ob' ∧ SlS v' (qG out (xB s.lo u.lo) (x9 s.hi u.hi)) ob') (fun w hO => add_call (E := [⟨p9, (zC (xB s.hi u.hi)).cells, 78⟩, ⟨p8, (zC (x9 s.hi u.hi)).cells, 78⟩, ⟨p7, (zC (xB s.lo u.lo)).cells, 78⟩, ⟨p6, (zC (x9 s.lo u.lo)).cells, 78⟩]) (xB s.lo u.lo) (x9 s.hi u.hi) hO hrel.sl (by omega) hrel.so (fV hsk.1 huk.1) (tD hsk.2 huk.2)) (fun v2 L2 hv2 => ?_))))))
              obtain ⟨ob2, rfl, hs2⟩ := hv2
              refine Zv (v2) (ZN (z7 (kM (by kernel_rfl) (by kernel_rfl) (Zw (.slice A1 a1.length c1) (xH (Zp ba (offa + 0 * 14)) (by kernel_rfl) (ZA (b := ba) (off := offa) (c := c1) (n := a1.length) (k := .i64) (j := 0) (e := 80) (sz := 14) hA) (Zw (Zp ba (offa + 0 * 14 + 7)) (wR (zC s.hi) (a := ⟨ba, offa + 0 * 14 + 7, none⟩) (by kernel_rfl) rfl (by kernel_rfl) (fun w hO => y6 y9 (fun j u h => (hO.below.cell (p := ⟨ba, offa + j, none⟩) hlta).trans (hcela j u h)) 0 7 hka (by omega) _ (by rw [hs]; kernel_rfl)) (Zm 1 ⟨p8, (zC (x9 s.hi u.hi)).cells, 78⟩ (off := 0) (zC (x9 s.hi u.hi)) ?_))))))))
              by_cases h5 : s.hi = x9 s.hi u.hi
              · refine xH Z4 (by kernel_rfl) (jW (u := s.hi) (v := x9 s.hi u.hi) rfl (by kernel_rfl) (by kernel_rfl) (decide_eq_true (h5))) (xU (z8 (Zt (zA (Zv (.slice A1 a1.length c1) (zU (.slice (some ⟨ba, offa + (if c1 = (1 : Int).toNat then 0 else (1 : Int).toNat * 14), none⟩) (a1.length - (1 : Int).toNat) (c1 - (1 : Int).toNat)) (by kernel_rfl) (run_sllA (n := a1.length) (c := c1) (k := .i64) (j := 1) (e := 80) (sz := 14) rfl (by kernel_rfl) hA (by kernel_rfl) (by kernel_rfl) (by kernel_rfl) (by omega) (by omega)) (Zv (.slice (some ⟨ba, offa + (if c1 = (1 : Int).toNat then 0 else (1 : Int).toNat * 14), none⟩) (a1.length - (1 : Int).toNat) (c1 - (1 : Int).toNat)) (zP (zQ (xM (L' := ob2 ++ []) (fun w hO => by rw [List.append_nil]; exact Own.sub [_, _, _, _] hO) ?_))))))))))
                have hd1 : (a1.drop 1).length = a1.length - 1 := List.length_drop
                exact zT (m' := (a1.drop 1).length + b1.length) (by omega) ⟨some ⟨ba, offa + (if c1 = (1 : Int).toNat then 0 else (1 : Int).toNat * 14), none⟩, B1, a1.length - (1 : Int).toNat, b1.length, c1 - (1 : Int).toNat, c2, n - 1, a1.drop 1, b1, v2, qG out (xB s.lo u.lo) (x9 s.hi u.hi), ob2, _, ⟨by rw [List.length_drop]; rfl, rfl, hrel.stepA hka hkb hs hu1 hA (by assumption) hs2⟩, rfl, ZU, rfl⟩
              refine xH Z5 (by kernel_rfl) (jW (u := s.hi) (v := x9 s.hi u.hi) rfl (by kernel_rfl) (by kernel_rfl) (decide_eq_false (h5))) (xU (z8 (Zf (zA (Zv (.slice B1 b1.length c2) (zU (.slice (some ⟨bb, offb + (if c2 = (1 : Int).toNat then 0 else (1 : Int).toNat * 14), none⟩) (b1.length - (1 : Int).toNat) (c2 - (1 : Int).toNat)) (by kernel_rfl) (run_sllA (n := b1.length) (c := c2) (k := .i64) (j := 1) (e := 80) (sz := 14) rfl (by kernel_rfl) hB (by kernel_rfl) (by kernel_rfl) (by kernel_rfl) (by omega) (by omega)) (Zv (.slice (some ⟨bb, offb + (if c2 = (1 : Int).toNat then 0 else (1 : Int).toNat * 14), none⟩) (b1.length - (1 : Int).toNat) (c2 - (1 : Int).toNat)) (zP (zQ (xM (L' := ob2 ++ []) (fun w hO => by rw [List.append_nil]; exact Own.sub [_, _, _, _] hO) ?_))))))))))
              have hd1 : (b1.drop 1).length = b1.length - 1 := List.length_drop
              exact zT (m' := a1.length + (b1.drop 1).length) (by omega) ⟨A1, some ⟨bb, offb + (if c2 = (1 : Int).toNat then 0 else (1 : Int).toNat * 14), none⟩, a1.length, b1.length - (1 : Int).toNat, c1, c2 - (1 : Int).toNat, n - 1, a1, b1.drop 1, v2, qG out (xB s.lo u.lo) (x9 s.hi u.hi), ob2, _, ⟨rfl, by rw [List.length_drop]; rfl, hrel.stepB hka hkb hs hu1 hB (by assumption) hs2⟩, rfl, ZU, rfl⟩
        refine Zh h4 (Zv Z5 (ZX (y5 (zD (zN (zH (z8 (z7 (zA ?_)))))))))
        exact Zv (v) (Zr (k := 132) (args := #[v]) (fun v' L' => SlS v' out L') (fun w hO => (wU (E := []) hO hrel.sl (by omega) hrel.so).mono fun e w' ⟨v', L', k1, ⟨ob', k2, k3⟩, k4⟩ => ⟨v', L', k1, by subst k2; exact k3, k4⟩) (fun v4 ob4 hs4 => Zv (v4) (ZN (zB (ZF (v4) Tryz.results81 (fun w hO => ⟨v4, ob4, rfl, by rw [if_pos (by simp), ← andG_eq (by assumption) (by assumption), hrel.eq, andG_end (by omega)]; exact hs4, hO⟩))))))
      refine Zh h3 (Zv Z5 (Zk (Zk (Zk (Zv Z5 (ZX (y5 (zD (zN ?_)))))))))
      exact zH (z8 (ZO (Zv (v) (Zr (k := 132) (args := #[v]) (fun v' L' => SlS v' out L') (fun w hO => (wU (E := []) hO hrel.sl (by omega) hrel.so).mono fun e w' ⟨v', L', k1, ⟨ob', k2, k3⟩, k4⟩ => ⟨v', L', k1, by subst k2; exact k3, k4⟩) (fun v4 ob4 hs4 => Zv (v4) (ZN (zB (ZF (v4) Tryz.results81 (fun w hO => ⟨v4, ob4, rfl, by rw [if_pos (by simp), ← andG_eq (by assumption) (by assumption), hrel.eq, andG_end (by omega)]; exact hs4, hO⟩)))))))))
    | false =>
      refine Zv Z4 (Zv Z4 (ZY (ZO (Zv (.slice none 0 0) (ZN (zB (z6 ?_)))))))
      exact ZF (.slice none 0 0) Tryz.results81 (fun w hO => ⟨_, [], rfl, by rw [if_neg (by simp)]; exact Sl.nil _ _, by simpa using hO⟩)
  | false =>
    refine Zv Z4 (Zv Z4 (Zk (Zk (Zk (Zv Z4 (ZY (ZO (Zv (.slice none 0 0) ?_))))))))
    exact ZN (zB (z6 (ZF (.slice none 0 0) Tryz.results81 (fun w hO => ⟨_, [], rfl, by rw [if_neg (by simp)]; exact Sl.nil _ _, by simpa using hO⟩))))
end
section
def pC (v : Ver) : Ver := { v with pre := [] }
theorem pre0_rel {v : Ver} (h : v.build = []) : pC v = gU v := by
  obtain ⟨a, b, c, p, q⟩ := v
  simp only at h; subst h; rfl
theorem rel_least {v : Ver} : gU v = Ver.zero ↔ qU v = true := by
  unfold gU qU Ver.rel Ver.zero
  simp only [Ver.mk.injEq, and_true, Bool.and_eq_true, decide_eq_true_eq, and_assoc]
theorem relA_zero {v : Ver} (h : gU v = Ver.zero) : bV v = zX (-1) := by unfold bV; rw [rel_least.1 h]; rfl
theorem relA_one {v : Ver} (h : ¬ gU v = Ver.zero) : bV v = ⟨0, gU v, false⟩ := by
  unfold bV
  rw [show qU v = false from Bool.eq_false_iff.2 fun e => h (rel_least.2 e)]; rfl
theorem rel_self {v : Ver} (h1 : v.pre = []) (h2 : v.build = []) : gU v = v := by
  obtain ⟨a, b, c, p, q⟩ := v
  simp only at h1 h2; subst h1; subst h2; rfl
theorem next_pre {v : Ver} (h : v.may = true) (hp : v.pre ≠ []) : yO v = gU v ∧ kC v = true := by
  have e : v.pre.isEmpty = false := by cases hq : v.pre with
    | nil => exact absurd hq hp
    | cons _ _ => rfl
  unfold yO kC
  rw [h, e]; exact ⟨rfl, rfl⟩
theorem next_pos {v : Ver} (h : v.may = true) (hp : v.pre = []) (ho : kC v = true) : ¬ pC (yO v) = Ver.zero := by
  intro e
  rcases next_is h with ⟨k, _⟩ | ⟨_, a, b, c, e1, e2, ⟨_, e3⟩ | ⟨e3, _⟩⟩
  · rw [ho] at k; cases k
  · have hn := wC h
    rw [e1] at e
    have h4 : (Ver.rel a b c).code = 0 := by
      have : Ver.rel a b c = Ver.zero := e
      rw [this]; rfl
    rw [h4] at e3
    unfold Ver.code at e3; omega
  · exact e3 hp
theorem pre0_next (v : Ver) : pC (yO v) = yO v := by
  have h := (nJ v).1
  generalize yO v = u at h ⊢
  obtain ⟨a, b, c, p, q⟩ := u
  simp only at h; subst h; rfl
theorem pO {c : Cu} (h : ¬ c.e = 0) : kJ c = c := by unfold kJ; rw [if_pos h]
theorem n4 {c : Cu} (hm : c.may = true) (h0 : c.e = 0) (ha : c.aft = true) (ho : kC c.v = false) : kJ c = zX 1 := by
  have hb := j7 hm
  have hp : c.v.pre = [] := Classical.byContradiction fun hp => by rw [(next_pre (jF hm) hp).2] at ho; cases ho
  unfold kJ pB
  rw [if_neg (by omega), if_pos ⟨ha, hp⟩, rel_self hp hb, ho]; rfl
theorem dP {c : Cu} (hm : c.may = true) (h0 : c.e = 0) (ha : c.aft = true) (ho : kC c.v = true) (hz : pC (yO c.v) = Ver.zero) : kJ c = zX (-1) := by
  have hp : ¬ c.v.pre = [] := fun hp => next_pos (jF hm) hp ho hz
  unfold kJ
  rw [if_neg (by omega), if_neg (fun h => hp h.2)]
  refine relA_zero ?_
  rw [← (next_pre (jF hm) hp).1, ← pre0_next]; exact hz
theorem dO {c : Cu} (hm : c.may = true) (h0 : c.e = 0) (ha : c.aft = true) (ho : kC c.v = true) (hz : ¬ pC (yO c.v) = Ver.zero) : kJ c = ⟨0, pC (yO c.v), false⟩ := by
  have hb := j7 hm
  rw [pre0_next] at hz ⊢
  unfold kJ
  by_cases hp : c.v.pre = []
  · rw [if_neg (by omega), if_pos ⟨ha, hp⟩]
    unfold pB
    rw [rel_self hp hb, ho]; rfl
  · rw [(next_pre (jF hm) hp).1] at hz ⊢
    rw [if_neg (by omega), if_neg (fun h => hp h.2)]
    exact relA_one hz
theorem tr_at0 {c : Cu} (hm : c.may = true) (h0 : c.e = 0) (ha : c.aft = false) (hz : pC c.v = Ver.zero) : kJ c = zX (-1) := by
  unfold kJ
  rw [if_neg (by omega), if_neg (fun h => by rw [ha] at h; cases h.1)]
  exact relA_zero (by rw [← pre0_rel (j7 hm)]; exact hz)
theorem pP {c : Cu} (hm : c.may = true) (h0 : c.e = 0) (ha : c.aft = false) (hz : ¬ pC c.v = Ver.zero) : kJ c = ⟨0, pC c.v, false⟩ := by
  unfold kJ
  rw [if_neg (by omega), if_neg (fun h => by rw [ha] at h; cases h.1), pre0_rel (j7 hm)]
  exact relA_one (by rw [← pre0_rel (j7 hm)]; exact hz)
theorem turn_right {c : Cu} (hm : c.may = true) : decide (c = kJ c) = xG c := by
  cases h : xG c with
  | false => exact decide_eq_false fun e => by rw [e, (n3 hm).2] at h; cases h
  | true =>
    refine decide_eq_true ?_
    by_cases h0 : c.e = 0
    · have hr := h
      unfold xG at hr
      rw [decide_eq_false (by simpa using h0), Bool.false_or] at hr
      simp only [Bool.and_eq_true, Bool.not_eq_true', decide_eq_true_eq] at hr
      obtain ⟨⟨ha, hp⟩, hl⟩ := hr
      have e1 : pC c.v = c.v := by
        have := j7 hm
        rw [pre0_rel this, rel_self hp this]
      rw [pP hm h0 ha (by rw [e1]; intro e; rw [e] at hl; revert hl; decide), e1]
      obtain ⟨e, v, a⟩ := c
      simp only at h0 ha; subst h0; subst ha; rfl
    · exact (pO h0).symm
theorem toRel_any (c : Cu) (W : World) (hc : c.short) (hm : c.may = true) : Calls Tryz.prog 138 #[zC c] W fun e w' => e = .returned (zC (kJ c)) ∧ Below W.heap.size W w' := by
  refine Z2 (n := 30) Tryz.func138 rfl (ZO (Zb (zC c) (fun b1 => Za (.agg ZE) (fun b2 => ZN (z7 (ZO (Zv (Zp b1 0) (Zl 1 ⟨b1, (zC c).cells, 78⟩ (off := 0) (.int .i64 c.e) ?_))))))))
  by_cases h1 : (c.e : Int) = 0
  · refine Zn (p := (c.e : Int) = 0) true (decide_eq_true (h1)) (ZX (ZB (ZO (Zv (Zp b1 1) (Zl 1 ⟨b1, (zC c).cells, 78⟩ (off := 1) (.agg (ZP c.v)) (Za (.agg Z1) (fun b3 => Zs 0 ⟨b3, Z1, 44⟩ (off := 0) (.agg (ZP c.v)) ?_)))))))
    refine Zv Z4 (ZN (z7 (ZO (Zv (Zp b1 6) (Zl 2 ⟨b1, (zC c).cells, 78⟩ (off := 6) (.bool c.aft) (zP (z8 ?_)))))))
    cases h2 : c.aft with
    | true =>
      refine Zt (zA (Zl 0 ⟨b3, (ZP c.v), 44⟩ (off := 0) (.agg (ZP c.v)) (Zc (k := 181) (args := #[.agg (ZP c.v)]) (.tuple #[y8 (yO c.v), .bool (kC c.v)]) (fun w _ => vnext_any c.v w hc.1 hc.2) (Zv (.tuple #[y8 (yO c.v), .bool (kC c.v)]) (Zv (y8 (yO c.v)) (Zv (.bool (kC c.v)) (Zs 0 ⟨b3, (ZP c.v), 44⟩ (off := 0) (y8 (yO c.v)) (Zv (.bool (kC c.v)) (ZN (z7 ?_))))))))))
      refine zA (Zv (Zp b3 3) (Zs 0 ⟨b3, (y8 (yO c.v)).cells, 44⟩ (off := 3) (.string ⟨#[]⟩) (ZN (z7 (zL (ZO (Zv (.bool (kC c.v)) ?_)))))))
      cases h3 : kC c.v with
      | true =>
        refine Zv Z5 (Zv Z5 (ZX (ZO (Zl 0 ⟨b3, #[.int .i64 ((yO c.v).maj), .int .i64 ((yO c.v).min), .int .i64 ((yO c.v).pat), .string ⟨#[]⟩, .string (mkS (yO c.v).build)], 44⟩ (off := 0) (.agg #[.int .i64 ((yO c.v).maj), .int .i64 ((yO c.v).min), .int .i64 ((yO c.v).pat), .string ⟨#[]⟩, .string (mkS (yO c.v).build)]) (Zv (.agg Z1) ?_)))))
        by_cases h4 : pC (yO c.v) = Ver.zero
        · refine zU Z4 (by kernel_rfl) (jV (u := pC (yO c.v)) (v := Ver.zero) rfl (by kernel_rfl) (by kernel_rfl) (decide_eq_true (h4))) (Zv Z4 (ZY (ZO (Zv (.agg Z7) (Zs 1 ⟨b2, ZE, 78⟩ (off := 0) (.agg Z7) (ZN (zB ?_)))))))
          exact zF (z6 (ZC 1 ⟨b2, Z7, 78⟩ (off := 0) (.agg Z7) Tryz.results138 (fun w hO => ⟨by first | rw [pO (by omega)] | (rw [n4 hm (by omega) (by assumption) (by assumption)]; rfl) | (rw [dP hm (by omega) (by assumption) (by assumption) (by assumption)]; rfl) | (rw [dO hm (by omega) (by assumption) (by assumption) (by assumption)]; rfl) | (rw [tr_at0 hm (by omega) (by assumption) (by assumption)]; rfl) | (rw [pP hm (by omega) (by assumption) (by assumption)]; rfl), hO.below⟩)))
        refine zU Z5 (by kernel_rfl) (jV (u := pC (yO c.v)) (v := Ver.zero) rfl (by kernel_rfl) (by kernel_rfl) (decide_eq_false (h4))) (Zv Z5 (ZX (yC (zQ (z8 (ZO (Zl 0 ⟨b3, #[.int .i64 ((yO c.v).maj), .int .i64 ((yO c.v).min), .int .i64 ((yO c.v).pat), .string ⟨#[]⟩, .string (mkS (yO c.v).build)], 44⟩ (off := 0) (.agg #[.int .i64 ((yO c.v).maj), .int .i64 ((yO c.v).min), .int .i64 ((yO c.v).pat), .string ⟨#[]⟩, .string (mkS (yO c.v).build)]) (Zv (.agg #[.int .i64 0, .int .i64 ((yO c.v).maj), .int .i64 ((yO c.v).min), .int .i64 ((yO c.v).pat), .string ⟨#[]⟩, .string (mkS (yO c.v).build), .bool false]) ?_))))))))
        exact Zs 1 ⟨b2, ZE, 78⟩ (off := 0) (.agg #[.int .i64 0, .int .i64 ((yO c.v).maj), .int .i64 ((yO c.v).min), .int .i64 ((yO c.v).pat), .string ⟨#[]⟩, .string (mkS (yO c.v).build), .bool false]) (ZN (zB (ZC 1 ⟨b2, #[.int .i64 0, .int .i64 ((yO c.v).maj), .int .i64 ((yO c.v).min), .int .i64 ((yO c.v).pat), .string ⟨#[]⟩, .string (mkS (yO c.v).build), .bool false], 78⟩ (off := 0) (.agg #[.int .i64 0, .int .i64 ((yO c.v).maj), .int .i64 ((yO c.v).min), .int .i64 ((yO c.v).pat), .string ⟨#[]⟩, .string (mkS (yO c.v).build), .bool false]) Tryz.results138 (fun w hO => ⟨by first | rw [pO (by omega)] | (rw [n4 hm (by omega) (by assumption) (by assumption)]; rfl) | (rw [dP hm (by omega) (by assumption) (by assumption) (by assumption)]; rfl) | (rw [dO hm (by omega) (by assumption) (by assumption) (by assumption)]; rfl) | (rw [tr_at0 hm (by omega) (by assumption) (by assumption)]; rfl) | (rw [pP hm (by omega) (by assumption) (by assumption)]; rfl), hO.below⟩))))
      | false =>
        refine Zv Z4 (Zv Z4 (ZY (ZO (Zv (.agg Z8) (Zs 1 ⟨b2, ZE, 78⟩ (off := 0) (.agg Z8) (ZN (zB ?_)))))))
        exact zF (z6 (ZC 1 ⟨b2, Z8, 78⟩ (off := 0) (.agg Z8) Tryz.results138 (fun w hO => ⟨by first | rw [pO (by omega)] | (rw [n4 hm (by omega) (by assumption) (by assumption)]; rfl) | (rw [dP hm (by omega) (by assumption) (by assumption) (by assumption)]; rfl) | (rw [dO hm (by omega) (by assumption) (by assumption) (by assumption)]; rfl) | (rw [tr_at0 hm (by omega) (by assumption) (by assumption)]; rfl) | (rw [pP hm (by omega) (by assumption) (by assumption)]; rfl), hO.below⟩)))
    | false =>
      refine Zf (ZB (ZO (Zv (Zp b3 3) (Zs 0 ⟨b3, (ZP c.v), 44⟩ (off := 3) (.string ⟨#[]⟩) (ZN (z7 (zL (z7 ?_))))))))
      refine zA (Zv Z4 (Zv Z5 (Zv Z5 (ZX (ZO (Zl 0 ⟨b3, #[.int .i64 c.v.maj, .int .i64 c.v.min, .int .i64 c.v.pat, .string ⟨#[]⟩, .string (mkS c.v.build)], 44⟩ (off := 0) (.agg #[.int .i64 c.v.maj, .int .i64 c.v.min, .int .i64 c.v.pat, .string ⟨#[]⟩, .string (mkS c.v.build)]) (Zv (.agg Z1) ?_)))))))
      by_cases h5 : pC c.v = Ver.zero
      · refine zU Z4 (by kernel_rfl) (jV (u := pC c.v) (v := Ver.zero) rfl (by kernel_rfl) (by kernel_rfl) (decide_eq_true (h5))) (Zv Z4 (ZY (ZO (Zv (.agg Z7) (Zs 1 ⟨b2, ZE, 78⟩ (off := 0) (.agg Z7) (ZN (zB ?_)))))))
        exact zF (z6 (ZC 1 ⟨b2, Z7, 78⟩ (off := 0) (.agg Z7) Tryz.results138 (fun w hO => ⟨by first | rw [pO (by omega)] | (rw [n4 hm (by omega) (by assumption) (by assumption)]; rfl) | (rw [dP hm (by omega) (by assumption) (by assumption) (by assumption)]; rfl) | (rw [dO hm (by omega) (by assumption) (by assumption) (by assumption)]; rfl) | (rw [tr_at0 hm (by omega) (by assumption) (by assumption)]; rfl) | (rw [pP hm (by omega) (by assumption) (by assumption)]; rfl), hO.below⟩)))
      refine zU Z5 (by kernel_rfl) (jV (u := pC c.v) (v := Ver.zero) rfl (by kernel_rfl) (by kernel_rfl) (decide_eq_false (h5))) (Zv Z5 (ZX (yC (zQ (z8 (ZO (Zl 0 ⟨b3, #[.int .i64 c.v.maj, .int .i64 c.v.min, .int .i64 c.v.pat, .string ⟨#[]⟩, .string (mkS c.v.build)], 44⟩ (off := 0) (.agg #[.int .i64 c.v.maj, .int .i64 c.v.min, .int .i64 c.v.pat, .string ⟨#[]⟩, .string (mkS c.v.build)]) (Zv (.agg #[.int .i64 0, .int .i64 c.v.maj, .int .i64 c.v.min, .int .i64 c.v.pat, .string ⟨#[]⟩, .string (mkS c.v.build), .bool false]) ?_))))))))
      exact Zs 1 ⟨b2, ZE, 78⟩ (off := 0) (.agg #[.int .i64 0, .int .i64 c.v.maj, .int .i64 c.v.min, .int .i64 c.v.pat, .string ⟨#[]⟩, .string (mkS c.v.build), .bool false]) (ZN (zB (ZC 1 ⟨b2, #[.int .i64 0, .int .i64 c.v.maj, .int .i64 c.v.min, .int .i64 c.v.pat, .string ⟨#[]⟩, .string (mkS c.v.build), .bool false], 78⟩ (off := 0) (.agg #[.int .i64 0, .int .i64 c.v.maj, .int .i64 c.v.min, .int .i64 c.v.pat, .string ⟨#[]⟩, .string (mkS c.v.build), .bool false]) Tryz.results138 (fun w hO => ⟨by first | rw [pO (by omega)] | (rw [n4 hm (by omega) (by assumption) (by assumption)]; rfl) | (rw [dP hm (by omega) (by assumption) (by assumption) (by assumption)]; rfl) | (rw [dO hm (by omega) (by assumption) (by assumption) (by assumption)]; rfl) | (rw [tr_at0 hm (by omega) (by assumption) (by assumption)]; rfl) | (rw [pP hm (by omega) (by assumption) (by assumption)]; rfl), hO.below⟩))))
  refine Zn (p := (c.e : Int) = 0) false (decide_eq_false (h1)) (ZY (ZO (Zl 1 ⟨b1, (zC c).cells, 78⟩ (off := 0) (zC c) (Zs 0 ⟨b2, ZE, 78⟩ (off := 0) (zC c) (ZN (zB (z6 ?_)))))))
  exact ZC 0 ⟨b2, (zC c).cells, 78⟩ (off := 0) (zC c) Tryz.results138 (fun w hO => ⟨by first | rw [pO (by omega)] | (rw [n4 hm (by omega) (by assumption) (by assumption)]; rfl) | (rw [dP hm (by omega) (by assumption) (by assumption) (by assumption)]; rfl) | (rw [dO hm (by omega) (by assumption) (by assumption) (by assumption)]; rfl) | (rw [tr_at0 hm (by omega) (by assumption) (by assumption)]; rfl) | (rw [pP hm (by omega) (by assumption) (by assumption)]; rfl), hO.below⟩)
theorem mayRel_any (c : Cu) (W : World) (hc : c.short) (hm : c.may = true) : Calls Tryz.prog 208 #[zC c] W fun e w' => e = .returned (.bool (xG c)) ∧ Below W.heap.size W w' := by
  rw [← turn_right hm]
  refine Z2 (n := 7) Tryz.func208 rfl (ZO (Zb (zC c) (fun b1 => Zv Z5 (ZN (z7 (kM (by kernel_rfl) (by kernel_rfl) (Zm 0 ⟨b1, (zC c).cells, 78⟩ (off := 0) (zC c) (Zm 0 ⟨b1, (zC c).cells, 78⟩ (off := 0) (zC c) (Zq (k := 138) (args := #[zC c]) (zC (kJ c)) (fun w _ => toRel_any c w hc hm) ?_)))))))))
  by_cases h1 : c = kJ c
  · exact xH Z4 (by kernel_rfl) (jW (u := c) (v := kJ c) rfl (by kernel_rfl) (by kernel_rfl) (decide_eq_true (h1))) (Zw Z4 (xU (z8 (zB (ZF Z4 Tryz.results208 (fun w hO => ⟨by rw [decide_eq_true h1], hO.below⟩))))))
  exact xH Z5 (by kernel_rfl) (jW (u := c) (v := kJ c) rfl (by kernel_rfl) (by kernel_rfl) (decide_eq_false (h1))) (Zw Z5 (xU (z8 (zB (ZF Z5 Tryz.results208 (fun w hO => ⟨by rw [decide_eq_false h1], hO.below⟩))))))
def qF (s : Sp) : Bool := !xG s.lo || !xG s.hi
theorem dB {l : List Sp} : (!l.any qF) = l.all fun x => xG x.lo && xG x.hi := by
  rw [List.not_any_eq_all_not]
  congr 1
  funext s
  unfold qF
  simp
theorem foreign1_any (s : Sp) (W : World) (hs : s.short) (hm : s.may = true) : Calls Tryz.prog 207 #[yX s] W fun e w' => e = .returned (.bool (qF s)) ∧ Below W.heap.size W w' := by
  obtain ⟨m1, m2⟩ := yD hm
  refine Z2 (n := 13) Tryz.func207 rfl (ZO (Zb (yX s) (fun b1 => Zv Z5 (ZR (Zv (Zp b1 0) (Zl 0 ⟨b1, (yX s).cells, 80⟩ (off := 0) (.agg (ZJ s.lo)) (Zc (k := 208) (args := #[.agg (ZJ s.lo)]) (.bool (xG s.lo)) (fun w _ => mayRel_any s.lo w hs.1 m1) ?_)))))))
  cases h1 : xG s.lo with
  | true =>
    refine Zv Z5 (Zv Z5 (Zv (Zp b1 7) (Zl 0 ⟨b1, (yX s).cells, 80⟩ (off := 7) (.agg (ZJ s.hi)) (Zc (k := 208) (args := #[.agg (ZJ s.hi)]) (.bool (xG s.hi)) (fun w _ => mayRel_any s.hi w hs.2 m2) ?_))))
    cases h2 : xG s.hi with
    | true =>
      exact Zv Z5 (Zv Z5 (Zv Z5 (ZN (zB (ZF Z5 Tryz.results207 (fun w hO => ⟨by unfold qF; simp [h1, h2], hO.below⟩))))))
    | false =>
      exact Zv Z4 (Zv Z4 (Zv Z4 (ZN (zB (ZF Z4 Tryz.results207 (fun w hO => ⟨by unfold qF; simp [h1, h2], hO.below⟩))))))
  | false =>
    refine Zv Z4 (Zv Z4 (Zk (Zk (Zk (Zk (Zv Z4 (Zv Z4 (ZN (zB (ZF Z4 Tryz.results207 ?_))))))))))
    exact fun w hO => ⟨by unfold qF; simp [h1], hO.below⟩
def idxR : List Sp → Int → Int
  | [], _ => -1
  | s :: r, k => if qF s then k else idxR r (k + 1)
theorem idxR_any : ∀ (l : List Sp) (k : Int), 0 ≤ k → decide (0 ≤ idxR l k) = l.any qF
  | [], k, _ => rfl
  | s :: r, k, hk => by
    unfold idxR
    rw [List.any_cons]
    cases h : qF s with
    | true => rw [if_pos rfl, Bool.true_or]; exact decide_eq_true hk
    | false => rw [if_neg (by decide), Bool.false_or]; exact idxR_any r (k + 1) (by omega)
theorem idxr_any (A : Option Addr) (cap : Nat) (l : List Sp) (W : World) (hv : Reads yR W W.heap.size A l) (hn : l.length ≤ 1000000) (hl : x8 l) (hmay : ∀ s ∈ l, s.may = true) :
    Calls Tryz.prog 226 #[.slice A l.length cap, .func (.func 207) #[] #[]] W fun e w' => e = .returned (.int .i64 (idxR l 0)) ∧ Below W.heap.size W w' := by
  refine Z2 (n := 19) Tryz.func226 rfl (ZO (Zv (.int .i64 0) (ZN (z7 (ZO (Zv (.slice A l.length cap) (Zv (.int .i64 (l.length : Int)) (Zv (.int .i64 0) ?_))))))))
  refine ZN (zL (yL (fun L f m => ∃ (k : Nat) (j : Nat → Value), (k ≤ l.length ∧ idxR l 0 = idxR (l.drop k) (k : Int)) ∧ L = [] ∧ f = xF j [(0, .slice A l.length cap), (1, .func (.func 207) #[] #[]), (7, .int .i64 (l.length : Int)), (8, .int .i64 (k : Int))] ∧ m = l.length - k) (l.length - 0) ⟨0, _, ⟨Nat.zero_le _, by rw [List.drop_zero]; rfl⟩, rfl, ZU, rfl⟩ ?_))
  rintro L f m ⟨k, j, hrel, rfl, rfl, rfl⟩
  have hkl := hrel.1
  refine z7 (zA ?_)
  by_cases h1 : (k : Int) < (l.length : Int)
  · have hk : k < l.length := by omega
    obtain ⟨b, off, hA, hlt, hcel⟩ := hv (by omega)
    obtain ⟨s, hs⟩ : ∃ s, l[k] = s := ⟨_, rfl⟩
    have hsk : s.short := hs ▸ hl l[k] (List.getElem_mem hk)
    have hsm : s.may = true := hs ▸ hmay l[k] (List.getElem_mem hk)
    refine Zg h1 (ZN (z7 (Zt (ZB (z7 (zL (ZO (Zv (.int .i64 (k : Int)) ?_))))))))
    refine Zv (.int .i64 (k : Int)) (ZR (Zv (.func (.func 207) #[] #[]) (Zv (.slice A l.length cap) (Zv (.int .i64 (k : Int)) (zU (Zp b (off + k * 14)) (by kernel_rfl) (ZA (b := b) (off := off) (c := cap) (n := l.length) (k := .i64) (j := (k : Int)) (e := 80) (sz := 14) hA) (Zo (yX s) (a := ⟨b, off + k * 14, none⟩) (fun w hO => y6 y9 (fun j u h => (hO.below.cell (p := ⟨b, off + j, none⟩) hlt).trans (hcel j u h)) k 0 hk (by omega) _ (by rw [hs]; kernel_rfl)) (Zc (k := 207) (args := #[yX s]) (.bool (qF s)) (fun w hO => foreign1_any s w hsk hsm) (zP ?_))))))))
    refine z8 ?_
    cases h2 : qF s with
    | true =>
      refine Zt (ZO (Zv (.int .i64 (k : Int)) (Zv (.int .i64 (k : Int)) (ZN (zB (zF (z6 (zW (zF ?_)))))))))
      exact z6 (ZF (.int .i64 (k : Int)) Tryz.results226 (fun w hO => ⟨by rw [hrel.2, List.drop_eq_getElem_cons hk, hs]; simp only [idxR, h2]; rfl, hO.below⟩))
    | false =>
      refine Zf (yC (zQ (z8 (zA (Zu (k := .i64) (((k + 1 : Nat) : Int)) (IntWalk.i64_in _ (by omega)) (Zv (.int .i64 ((k + 1 : Nat) : Int)) (zP ?_)))))))
      have hnext : idxR l 0 = idxR (l.drop (k + 1)) ((k + 1 : Nat) : Int) := by rw [hrel.2, List.drop_eq_getElem_cons hk, hs]; simp only [idxR, h2]; rfl
      exact zT (m' := l.length - (k + 1)) (by omega) ⟨k + 1, _, ⟨by omega, hnext⟩, rfl, ZU, rfl⟩
  refine Zh h1 (ZN (z7 (Zf (y5 (zD (zN (zH (z8 (z7 (zA ?_))))))))))
  exact Zv (.int .i64 (-1)) (ZN (zB (ZF (.int .i64 (-1)) Tryz.results226 (fun w hO => ⟨by rw [hrel.2, List.drop_of_length_le (by omega)]; rfl, hO.below⟩))))
theorem containsr_any (A : Option Addr) (cap : Nat) (l : List Sp) (W : World) (hv : Reads yR W W.heap.size A l) (hn : l.length ≤ 1000000) (hl : x8 l) (hmay : ∀ s ∈ l, s.may = true) :
    Calls Tryz.prog 209 #[.slice A l.length cap, .func (.func 207) #[] #[]] W fun e w' => e = .returned (.bool (l.any qF)) ∧ Below W.heap.size W w' := by
  rw [← idxR_any l 0 (by omega)]
  refine Z2 (n := 9) Tryz.func209 rfl (ZO (Zv Z5 (ZR (Zv (.slice A l.length cap) (Zv (.func (.func 207) #[] #[]) (Zc (k := 226) (args := #[.slice A l.length cap, .func (.func 207) #[] #[]]) (.int .i64 (idxR l 0)) (fun w hO => idxr_any A cap l w (hv.on hO.below hO.size) hn hl hmay) ?_))))))
  by_cases h1 : (0 : Int) ≤ idxR l 0
  · exact Zg h1 (Zv Z4 (ZN (zB (ZF Z4 Tryz.results209 (fun w hO => ⟨by simp only [decide_eq_true h1], hO.below⟩)))))
  exact Zh h1 (Zv Z5 (ZN (zB (ZF Z5 Tryz.results209 (fun w hO => ⟨by simp only [decide_eq_false h1], hO.below⟩)))))
theorem tX (A B : Option Addr) (c d : Nat) (a : St) (W : World) (hs : SetIn W W.heap.size A B a) (ca : a.rel.length ≤ c ∧ a.pre.length ≤ d) : Calls Tryz.prog 182 #[.agg #[.slice A a.rel.length c, .slice B a.pre.length d]] W fun e w' => e = .returned (.bool a.may) ∧ Below W.heap.size W w' := by
  refine Z2 (n := 19) Tryz.func182 rfl (ZO (Zb (.agg #[.slice A a.rel.length c, .slice B a.pre.length d]) (fun b1 => Zv Z5 (ZR (Zv (.func (.func 207) #[] #[]) (zP (z8 ?_)))))))
  refine ZO (Zv (Zp b1 0) (Zl 0 ⟨b1, #[.slice A a.rel.length c, .slice B a.pre.length d], 31⟩ (off := 0) (.slice A a.rel.length c) (Zc (k := 129) (args := #[.slice A a.rel.length c]) (.bool (zR a.rel)) (fun w hO => uI A c a.rel w (hs.rel.on hO.below hO.size) (Nat.le_trans hs.lr (by decide)) hs.sr) (Zv (.bool (zR a.rel)) ?_))))
  cases h1 : zR a.rel with
  | true =>
    refine Zv (Zp b1 1) (Zl 0 ⟨b1, #[.slice A a.rel.length c, .slice B a.pre.length d], 31⟩ (off := 1) (.slice B a.pre.length d) (Zc (k := 129) (args := #[.slice B a.pre.length d]) (.bool (zR a.pre)) (fun w hO => uI B d a.pre w (hs.pre.on hO.below hO.size) (Nat.le_trans hs.lp (by decide)) hs.sp) (Zv (.bool (zR a.pre)) (Zv (.bool (zR a.pre)) ?_))))
    cases h2 : zR a.pre with
    | true =>
      refine Zv (Zp b1 0) (Zl 0 ⟨b1, #[.slice A a.rel.length c, .slice B a.pre.length d], 31⟩ (off := 0) (.slice A a.rel.length c) (Zv (.func (.func 207) #[] #[]) (Zc (k := 209) (args := #[.slice A a.rel.length c, .func (.func 207) #[] #[]]) (.bool (a.rel.any qF)) (fun w hO => containsr_any A c a.rel w (hs.rel.on hO.below hO.size) (Nat.le_trans hs.lr (by decide)) hs.sr (xJ h1)) ?_)))
      cases h3 : a.rel.any qF with
      | true =>
        exact Zv Z5 (Zv Z5 (Zv Z5 (ZN (zB (ZF Z5 Tryz.results182 (fun w hO => ⟨by unfold St.may; rw [← dB]; simp [h1, h2, h3], hO.below⟩))))))
      | false =>
        exact Zv Z4 (Zv Z4 (Zv Z4 (ZN (zB (ZF Z4 Tryz.results182 (fun w hO => ⟨by unfold St.may; rw [← dB]; simp [h1, h2, h3], hO.below⟩))))))
    | false =>
      exact Zk (Zk (Zk (Zk (Zk (Zv Z5 (Zv Z5 (ZN (zB (ZF Z5 Tryz.results182 (fun w hO => ⟨by unfold St.may; rw [← dB]; simp [h1, h2], hO.below⟩))))))))))
  | false =>
    refine Zk (Zk (Zk (Zv Z5 (Zv Z5 (Zk (Zk (Zk (Zk (Zk (Zv Z5 (Zv Z5 ?_)))))))))))
    exact ZN (zB (ZF Z5 Tryz.results182 (fun w hO => ⟨by unfold St.may; rw [← dB]; simp [h1], hO.below⟩)))
theorem vJ (W : World) : Calls Tryz.prog 47 #[] W fun e w' => e = .returned (.agg ZM) ∧ Below W.heap.size W w' := by
  refine Z2 (n := 2) Tryz.func47 rfl (ZO (Za (.agg ZM) (fun b1 => ZR (Zv (.agg ZM) (Zs 0 ⟨b1, ZM, 31⟩ (off := 0) (.agg ZM) (zP (z8 ?_)))))))
  exact zB (ZC 0 ⟨b1, ZM, 31⟩ (off := 0) (.agg ZM) Tryz.results47 (fun w hO => ⟨rfl, hO.below⟩))
end
section
theorem not1_any (A B : Option Addr) (cap capb : Nat) (x y : List Sp) (W : World) (hv : Reads yR W W.heap.size A x) (hu : Reads yR W W.heap.size B y) (hx : RF x 100000) (hy : RF y 100000) (hca : x.length ≤ cap) (hcb : y.length ≤ capb) : Calls Tryz.prog 172 #[.slice A x.length cap, .slice B y.length capb] W fun e w' => ∃ v' ob', e = .returned v' ∧ SlS v' (vP x) ob' ∧ Own [] W w' ob' := by
  refine Z2 (n := 7) Tryz.func172 rfl (ZO (Zv (.slice none 0 0) (ZR (Zv (.slice A x.length cap) (Zr (k := 135) (args := #[.slice A x.length cap]) (fun v' L' => ∃ ob', L' = ob' ++ ([]) ∧ SlS v' (vP x) ob') (fun w hO => (not4_any A cap x w (hv.on hO.below hO.size) (Nat.le_trans hx.len (by decide)) hx.short).mono fun e w' ⟨v', ob', k1, k2, k3⟩ => ⟨v', _, k1, ⟨ob', rfl, by rw [if_pos hx.may] at k2; exact k2⟩, Own.joinN hO k3⟩) (fun v1 L1 hv1 => ?_))))))
  obtain ⟨o1, rfl, hr1⟩ := hv1
  obtain ⟨V1, c1, rfl⟩ := hr1.form
  exact xT (L' := o1) (List.append_nil _) (Zv (.slice V1 ((vP x).length) c1) (ZN (zB (ZF (.slice V1 ((vP x).length) c1) Tryz.results172 (fun w hO => ⟨_, o1, rfl, hr1, by simpa using hO⟩)))))
theorem combOr_any (A B A' B' : Option Addr) (c d c' d' : Nat) (a b : St) (W : World) (hs : SetIn W W.heap.size A B a) (ht : SetIn W W.heap.size A' B' b) (ca : a.rel.length ≤ c ∧ a.pre.length ≤ d) (cb : b.rel.length ≤ c' ∧ b.pre.length ≤ d') : Calls Tryz.prog 140 #[.agg #[.slice A a.rel.length c, .slice B a.pre.length d], .agg #[.slice A' b.rel.length c', .slice B' b.pre.length d'], .func (.func 83) #[] #[]] W fun e w' => ∃ v' ob', e = .returned v' ∧ SetO v' (if a.may && b.may then orT a b else gH) ob' ∧ Own [] W w' ob' := by
  refine Z2 (n := 29) Tryz.func140 rfl (ZO (Zb (.agg #[.slice A a.rel.length c, .slice B a.pre.length d]) (fun b1 => Zb (.agg #[.slice A' b.rel.length c', .slice B' b.pre.length d']) (fun b2 => Za (.agg ZM) (fun b3 => ZN (z7 (ZO (Zl 2 ⟨b1, #[.slice A a.rel.length c, .slice B a.pre.length d], 31⟩ (off := 0) (.agg #[.slice A a.rel.length c, .slice B a.pre.length d]) ?_))))))))
  refine Zc (k := 182) (args := #[.agg #[.slice A a.rel.length c, .slice B a.pre.length d]]) (.bool a.may) (fun w hO => tX A B c d a w (hs.on hO.below hO.size) ca) ?_
  cases h1 : a.may with
  | true =>
    refine Zv Z5 (Zv Z5 (Zl 1 ⟨b2, #[.slice A' b.rel.length c', .slice B' b.pre.length d'], 31⟩ (off := 0) (.agg #[.slice A' b.rel.length c', .slice B' b.pre.length d']) (Zc (k := 182) (args := #[.agg #[.slice A' b.rel.length c', .slice B' b.pre.length d']]) (.bool b.may) (fun w hO => tX A' B' c' d' b w (ht.on hO.below hO.size) cb) ?_)))
    cases h2 : b.may with
    | true =>
      refine Zv Z5 (Zv Z5 (ZX (ZB (z7 (xO [⟨b2, #[.slice A' b.rel.length c', .slice B' b.pre.length d'], 31⟩, ⟨b1, #[.slice A a.rel.length c, .slice B a.pre.length d], 31⟩] (by kernel_rfl) (fun w hO => Own.sub [⟨b3, ZM, 31⟩] hO) (ZT 0 [⟨b3, ZM, 31⟩] _ (.func (.func 83) #[] #[]) (zG zI) rfl (ZT 1 [⟨b3, ZM, 31⟩] _ (Zp b1 0) (zG zI) rfl (ZL 2 [⟨b3, ZM, 31⟩] _ 1 ⟨b1, #[.slice A a.rel.length c, .slice B a.pre.length d], 31⟩ (off := 0) (.slice A a.rel.length c) (zG zI) rfl rfl ?_))))))))
      refine ZT 3 [⟨b3, ZM, 31⟩] _ (Zp b2 0) (zG zI) rfl (ZL 4 [⟨b3, ZM, 31⟩] _ 0 ⟨b2, #[.slice A' b.rel.length c', .slice B' b.pre.length d'], 31⟩ (off := 0) (.slice A' b.rel.length c') (zG zI) rfl rfl (ZT 6 [⟨b3, ZM, 31⟩] _ (.func (.func 83) #[] #[]) (zG zI) rfl (ZT 7 [⟨b3, ZM, 31⟩] _ (Zp b1 1) (zG zI) rfl (ZL 8 [⟨b3, ZM, 31⟩] _ 1 ⟨b1, #[.slice A a.rel.length c, .slice B a.pre.length d], 31⟩ (off := 1) (.slice B a.pre.length d) (zG zI) rfl rfl (ZT 9 [⟨b3, ZM, 31⟩] _ (Zp b2 1) (zG zI) rfl (ZL 10 [⟨b3, ZM, 31⟩] _ 0 ⟨b2, #[.slice A' b.rel.length c', .slice B' b.pre.length d'], 31⟩ (off := 1) (.slice B' b.pre.length d') (zG zI) rfl rfl (Zz 5 (g6 _ (k := 83) (args := #[.slice A a.rel.length c, .slice A' b.rel.length c']) (fun v' L' => ∃ ob', L' = ob' ++ ([⟨b3, ZM, 31⟩] ++ ([⟨b2, #[.slice A' b.rel.length c', .slice B' b.pre.length d'], 31⟩, ⟨b1, #[.slice A a.rel.length c, .slice B a.pre.length d], 31⟩])) ∧ SlS v' (orL a.rel b.rel) ob') rfl (by kernel_rfl) (fun _ => by kernel_rfl) (fun w hO => (or4_any A A' c c' a.rel b.rel w (hs.rel.on hO.below hO.size) (ht.rel.on hO.below hO.size) (SF.of h1 hs.lr hs.lp).rel.len (SF.of h2 ht.lr ht.lp).rel.len (SF.of h1 hs.lr hs.lp).rel.short (SF.of h2 ht.lr ht.lp).rel.short).mono fun e w' ⟨v', ob', k1, k2, k3⟩ => ⟨v', _, k1, ⟨ob', rfl, by rw [if_pos (by rw [(SF.of h1 hs.lr hs.lp).rel.may, (SF.of h2 ht.lr ht.lp).rel.may]; rfl)] at k2; exact k2⟩, Own.joinN hO k3⟩) (fun v' L' ⟨ob', e, _⟩ w hO => by subst e; exact Own.sub [⟨b3, ZM, 31⟩] (Own.sub ob' hO)) (fun v1 L2 hv2 => ?_)))))))))
      obtain ⟨o1, rfl, hr1⟩ := hv2
      obtain ⟨V1, c1, rfl⟩ := hr1.form
      refine vD (L' := (o1 ++ ([⟨b3, ZM, 31⟩] : List Blk)) ++ ([⟨b2, #[.slice A' b.rel.length c', .slice B' b.pre.length d'], 31⟩, ⟨b1, #[.slice A a.rel.length c, .slice B a.pre.length d], 31⟩])) (List.append_assoc _ _ _).symm (Zz 11 (g6 _ (k := 83) (args := #[.slice B a.pre.length d, .slice B' b.pre.length d']) (fun v' L' => ∃ ob', L' = ob' ++ ((o1 ++ ([⟨b3, ZM, 31⟩] : List Blk)) ++ ([⟨b2, #[.slice A' b.rel.length c', .slice B' b.pre.length d'], 31⟩, ⟨b1, #[.slice A a.rel.length c, .slice B a.pre.length d], 31⟩])) ∧ SlS v' (orL a.pre b.pre) ob') rfl (by kernel_rfl) (fun _ => by kernel_rfl) (fun w hO => (or4_any B B' d d' a.pre b.pre w (hs.pre.on hO.below hO.size) (ht.pre.on hO.below hO.size) (SF.of h1 hs.lr hs.lp).pre.len (SF.of h2 ht.lr ht.lp).pre.len (SF.of h1 hs.lr hs.lp).pre.short (SF.of h2 ht.lr ht.lp).pre.short).mono fun e w' ⟨v', ob', k1, k2, k3⟩ => ⟨v', _, k1, ⟨ob', rfl, by rw [if_pos (by rw [(SF.of h1 hs.lr hs.lp).pre.may, (SF.of h2 ht.lr ht.lp).pre.may]; rfl)] at k2; exact k2⟩, Own.joinN hO k3⟩) (fun v' L' ⟨ob', e, _⟩ w hO => by subst e; exact Own.sub (o1 ++ ([⟨b3, ZM, 31⟩] : List Blk)) (Own.sub ob' hO)) (fun v2 L2 hv2 => ?_)))
      obtain ⟨o2, rfl, hr2⟩ := hv2
      obtain ⟨V2, c2, rfl⟩ := hr2.form
      exact vD (L' := (o2 ++ (o1 ++ ([⟨b3, ZM, 31⟩] : List Blk))) ++ ([⟨b2, #[.slice A' b.rel.length c', .slice B' b.pre.length d'], 31⟩, ⟨b1, #[.slice A a.rel.length c, .slice B a.pre.length d], 31⟩])) (List.append_assoc _ _ _).symm (ZT 12 (o2 ++ (o1 ++ ([⟨b3, ZM, 31⟩] : List Blk))) _ (.agg #[.slice V1 ((orL a.rel b.rel).length) c1, .slice V2 ((orL a.pre b.pre).length) c2]) (zG zI) rfl (Zz 13 (mQ (E' := (⟨b3, ZM, 31⟩ :: (o2 ++ (o1 ++ ([] : List Blk))))) (by simpa [List.append_assoc] using (List.perm_middle (a := ⟨b3, ZM, 31⟩) (l₁ := (o2 ++ (o1 ++ ([] : List Blk)))) (l₂ := []))) (ZS (⟨b3, ZM, 31⟩ :: (o2 ++ (o1 ++ ([] : List Blk)))) _ 0 ⟨b3, ZM, 31⟩ (off := 0) (.agg #[.slice V1 ((orL a.rel b.rel).length) c1, .slice V2 ((orL a.pre b.pre).length) c2]) rfl rfl (ZZ (z8 (zB (ZC 0 ⟨b3, #[.slice V1 ((orL a.rel b.rel).length) c1, .slice V2 ((orL a.pre b.pre).length) c2], 31⟩ (off := 0) (.agg #[.slice V1 ((orL a.rel b.rel).length) c1, .slice V2 ((orL a.pre b.pre).length) c2]) Tryz.results140 (fun w hO => ⟨_, _, rfl, by rw [if_pos (by simp [h1, h2])]; exact ⟨_, _, o1, o2, rfl, rfl, hr1, hr2⟩, own_mid hO⟩)))))))))
    | false =>
      refine Zv Z4 (Zv Z4 (ZY (ZO (Zc (k := 47) (args := #[]) (.agg ZM) (fun w _ => vJ w) (Zs 0 ⟨b3, ZM, 31⟩ (off := 0) (.agg ZM) (ZN (zB ?_)))))))
      exact z6 (ZC 0 ⟨b3, ZM, 31⟩ (off := 0) (.agg ZM) Tryz.results140 (fun w hO => ⟨_, [], rfl, by rw [if_neg (by simp [h1, h2])]; exact SetO.none, kF hO⟩))
  | false =>
    refine Zv Z4 (Zv Z4 (Zk (Zk (Zk (Zv Z4 (ZY (ZO (Zc (k := 47) (args := #[]) (.agg ZM) (fun w _ => vJ w) ?_))))))))
    exact Zs 0 ⟨b3, ZM, 31⟩ (off := 0) (.agg ZM) (ZN (zB (z6 (ZC 0 ⟨b3, ZM, 31⟩ (off := 0) (.agg ZM) Tryz.results140 (fun w hO => ⟨_, [], rfl, by rw [if_neg (by simp [h1])]; exact SetO.none, kF hO⟩)))))
theorem combNot_any (A B A' B' : Option Addr) (c d c' d' : Nat) (a b : St) (W : World) (hs : SetIn W W.heap.size A B a) (ht : SetIn W W.heap.size A' B' b) (ca : a.rel.length ≤ c ∧ a.pre.length ≤ d) (cb : b.rel.length ≤ c' ∧ b.pre.length ≤ d') : Calls Tryz.prog 140 #[.agg #[.slice A a.rel.length c, .slice B a.pre.length d], .agg #[.slice A' b.rel.length c', .slice B' b.pre.length d'], .func (.func 172) #[] #[]] W fun e w' => ∃ v' ob', e = .returned v' ∧ SetO v' (if a.may && b.may then notT a else gH) ob' ∧ Own [] W w' ob' := by
  refine Z2 (n := 29) Tryz.func140 rfl (ZO (Zb (.agg #[.slice A a.rel.length c, .slice B a.pre.length d]) (fun b1 => Zb (.agg #[.slice A' b.rel.length c', .slice B' b.pre.length d']) (fun b2 => Za (.agg ZM) (fun b3 => ZN (z7 (ZO (Zl 2 ⟨b1, #[.slice A a.rel.length c, .slice B a.pre.length d], 31⟩ (off := 0) (.agg #[.slice A a.rel.length c, .slice B a.pre.length d]) ?_))))))))
  refine Zc (k := 182) (args := #[.agg #[.slice A a.rel.length c, .slice B a.pre.length d]]) (.bool a.may) (fun w hO => tX A B c d a w (hs.on hO.below hO.size) ca) ?_
  cases h1 : a.may with
  | true =>
    refine Zv Z5 (Zv Z5 (Zl 1 ⟨b2, #[.slice A' b.rel.length c', .slice B' b.pre.length d'], 31⟩ (off := 0) (.agg #[.slice A' b.rel.length c', .slice B' b.pre.length d']) (Zc (k := 182) (args := #[.agg #[.slice A' b.rel.length c', .slice B' b.pre.length d']]) (.bool b.may) (fun w hO => tX A' B' c' d' b w (ht.on hO.below hO.size) cb) ?_)))
    cases h2 : b.may with
    | true =>
      refine Zv Z5 (Zv Z5 (ZX (ZB (z7 (xO [⟨b2, #[.slice A' b.rel.length c', .slice B' b.pre.length d'], 31⟩, ⟨b1, #[.slice A a.rel.length c, .slice B a.pre.length d], 31⟩] (by kernel_rfl) (fun w hO => Own.sub [⟨b3, ZM, 31⟩] hO) (ZT 0 [⟨b3, ZM, 31⟩] _ (.func (.func 172) #[] #[]) (zG zI) rfl (ZT 1 [⟨b3, ZM, 31⟩] _ (Zp b1 0) (zG zI) rfl (ZL 2 [⟨b3, ZM, 31⟩] _ 1 ⟨b1, #[.slice A a.rel.length c, .slice B a.pre.length d], 31⟩ (off := 0) (.slice A a.rel.length c) (zG zI) rfl rfl ?_))))))))
      refine ZT 3 [⟨b3, ZM, 31⟩] _ (Zp b2 0) (zG zI) rfl (ZL 4 [⟨b3, ZM, 31⟩] _ 0 ⟨b2, #[.slice A' b.rel.length c', .slice B' b.pre.length d'], 31⟩ (off := 0) (.slice A' b.rel.length c') (zG zI) rfl rfl (ZT 6 [⟨b3, ZM, 31⟩] _ (.func (.func 172) #[] #[]) (zG zI) rfl (ZT 7 [⟨b3, ZM, 31⟩] _ (Zp b1 1) (zG zI) rfl (ZL 8 [⟨b3, ZM, 31⟩] _ 1 ⟨b1, #[.slice A a.rel.length c, .slice B a.pre.length d], 31⟩ (off := 1) (.slice B a.pre.length d) (zG zI) rfl rfl (ZT 9 [⟨b3, ZM, 31⟩] _ (Zp b2 1) (zG zI) rfl (ZL 10 [⟨b3, ZM, 31⟩] _ 0 ⟨b2, #[.slice A' b.rel.length c', .slice B' b.pre.length d'], 31⟩ (off := 1) (.slice B' b.pre.length d') (zG zI) rfl rfl (Zz 5 (g6 _ (k := 172) (args := #[.slice A a.rel.length c, .slice A' b.rel.length c']) (fun v' L' => ∃ ob', L' = ob' ++ ([⟨b3, ZM, 31⟩] ++ ([⟨b2, #[.slice A' b.rel.length c', .slice B' b.pre.length d'], 31⟩, ⟨b1, #[.slice A a.rel.length c, .slice B a.pre.length d], 31⟩])) ∧ SlS v' (vP a.rel) ob') rfl (by kernel_rfl) (fun _ => by kernel_rfl) (fun w hO => (not1_any A A' c c' a.rel b.rel w (hs.rel.on hO.below hO.size) (ht.rel.on hO.below hO.size) (SF.of h1 hs.lr hs.lp).rel (SF.of h2 ht.lr ht.lp).rel ca.1 cb.1).mono fun e w' ⟨v', ob', k1, k2, k3⟩ => ⟨v', _, k1, ⟨ob', rfl, k2⟩, Own.joinN hO k3⟩) (fun v' L' ⟨ob', e, _⟩ w hO => by subst e; exact Own.sub [⟨b3, ZM, 31⟩] (Own.sub ob' hO)) (fun v1 L2 hv2 => ?_)))))))))
      obtain ⟨o1, rfl, hr1⟩ := hv2
      obtain ⟨V1, c1, rfl⟩ := hr1.form
      refine vD (L' := (o1 ++ ([⟨b3, ZM, 31⟩] : List Blk)) ++ ([⟨b2, #[.slice A' b.rel.length c', .slice B' b.pre.length d'], 31⟩, ⟨b1, #[.slice A a.rel.length c, .slice B a.pre.length d], 31⟩])) (List.append_assoc _ _ _).symm (Zz 11 (g6 _ (k := 172) (args := #[.slice B a.pre.length d, .slice B' b.pre.length d']) (fun v' L' => ∃ ob', L' = ob' ++ ((o1 ++ ([⟨b3, ZM, 31⟩] : List Blk)) ++ ([⟨b2, #[.slice A' b.rel.length c', .slice B' b.pre.length d'], 31⟩, ⟨b1, #[.slice A a.rel.length c, .slice B a.pre.length d], 31⟩])) ∧ SlS v' (vP a.pre) ob') rfl (by kernel_rfl) (fun _ => by kernel_rfl) (fun w hO => (not1_any B B' d d' a.pre b.pre w (hs.pre.on hO.below hO.size) (ht.pre.on hO.below hO.size) (SF.of h1 hs.lr hs.lp).pre (SF.of h2 ht.lr ht.lp).pre ca.2 cb.2).mono fun e w' ⟨v', ob', k1, k2, k3⟩ => ⟨v', _, k1, ⟨ob', rfl, k2⟩, Own.joinN hO k3⟩) (fun v' L' ⟨ob', e, _⟩ w hO => by subst e; exact Own.sub (o1 ++ ([⟨b3, ZM, 31⟩] : List Blk)) (Own.sub ob' hO)) (fun v2 L2 hv2 => ?_)))
      obtain ⟨o2, rfl, hr2⟩ := hv2
      obtain ⟨V2, c2, rfl⟩ := hr2.form
      exact vD (L' := (o2 ++ (o1 ++ ([⟨b3, ZM, 31⟩] : List Blk))) ++ ([⟨b2, #[.slice A' b.rel.length c', .slice B' b.pre.length d'], 31⟩, ⟨b1, #[.slice A a.rel.length c, .slice B a.pre.length d], 31⟩])) (List.append_assoc _ _ _).symm (ZT 12 (o2 ++ (o1 ++ ([⟨b3, ZM, 31⟩] : List Blk))) _ (.agg #[.slice V1 ((vP a.rel).length) c1, .slice V2 ((vP a.pre).length) c2]) (zG zI) rfl (Zz 13 (mQ (E' := (⟨b3, ZM, 31⟩ :: (o2 ++ (o1 ++ ([] : List Blk))))) (by simpa [List.append_assoc] using (List.perm_middle (a := ⟨b3, ZM, 31⟩) (l₁ := (o2 ++ (o1 ++ ([] : List Blk)))) (l₂ := []))) (ZS (⟨b3, ZM, 31⟩ :: (o2 ++ (o1 ++ ([] : List Blk)))) _ 0 ⟨b3, ZM, 31⟩ (off := 0) (.agg #[.slice V1 ((vP a.rel).length) c1, .slice V2 ((vP a.pre).length) c2]) rfl rfl (ZZ (z8 (zB (ZC 0 ⟨b3, #[.slice V1 ((vP a.rel).length) c1, .slice V2 ((vP a.pre).length) c2], 31⟩ (off := 0) (.agg #[.slice V1 ((vP a.rel).length) c1, .slice V2 ((vP a.pre).length) c2]) Tryz.results140 (fun w hO => ⟨_, _, rfl, by rw [if_pos (by simp [h1, h2])]; exact ⟨_, _, o1, o2, rfl, rfl, hr1, hr2⟩, own_mid hO⟩)))))))))
    | false =>
      refine Zv Z4 (Zv Z4 (ZY (ZO (Zc (k := 47) (args := #[]) (.agg ZM) (fun w _ => vJ w) (Zs 0 ⟨b3, ZM, 31⟩ (off := 0) (.agg ZM) (ZN (zB ?_)))))))
      exact z6 (ZC 0 ⟨b3, ZM, 31⟩ (off := 0) (.agg ZM) Tryz.results140 (fun w hO => ⟨_, [], rfl, by rw [if_neg (by simp [h1, h2])]; exact SetO.none, kF hO⟩))
  | false =>
    refine Zv Z4 (Zv Z4 (Zk (Zk (Zk (Zv Z4 (ZY (ZO (Zc (k := 47) (args := #[]) (.agg ZM) (fun w _ => vJ w) ?_))))))))
    exact Zs 0 ⟨b3, ZM, 31⟩ (off := 0) (.agg ZM) (ZN (zB (z6 (ZC 0 ⟨b3, ZM, 31⟩ (off := 0) (.agg ZM) Tryz.results140 (fun w hO => ⟨_, [], rfl, by rw [if_neg (by simp [h1])]; exact SetO.none, kF hO⟩)))))
end
section
theorem own_front {M : List Nat} {W w : World} {x : Blk} {A L : List Blk} (h : Own M W w (A ++ (x :: L))) : Own M W w (x :: A) :=
  (h.sublist ((List.Sublist.refl A).append (List.Sublist.cons_cons x (List.nil_sublist L)))).perm (List.perm_append_comm (l₁ := A) (l₂ := [x]))
theorem own_tl {M : List Nat} {W w : World} {x : Blk} {A : List Blk} (h : Own M W w (x :: A)) : Own M W w A := h.sublist (List.sublist_cons_self x A)
theorem notT_none : notT gH = allT := St.eq not_nil not_nil
theorem sOr_any (A B A' B' : Option Addr) (c d c' d' : Nat) (a b : St) (W : World) (hs : SetIn W W.heap.size A B a) (ht : SetIn W W.heap.size A' B' b) (ca : a.rel.length ≤ c ∧ a.pre.length ≤ d) (cb : b.rel.length ≤ c' ∧ b.pre.length ≤ d') : Calls Tryz.prog 86 #[.agg #[.slice A a.rel.length c, .slice B a.pre.length d], .agg #[.slice A' b.rel.length c', .slice B' b.pre.length d']] W fun e w' => ∃ v' ob', e = .returned v' ∧ SetO v' (if a.may && b.may then orT a b else gH) ob' ∧ Own [] W w' ob' := by
  refine Z2 (n := 8) Tryz.func86 rfl (ZO (Zb (.agg #[.slice A a.rel.length c, .slice B a.pre.length d]) (fun b1 => Zb (.agg #[.slice A' b.rel.length c', .slice B' b.pre.length d']) (fun b2 => Za (.agg ZM) (fun b3 => ZR (Zl 2 ⟨b1, #[.slice A a.rel.length c, .slice B a.pre.length d], 31⟩ (off := 0) (.agg #[.slice A a.rel.length c, .slice B a.pre.length d]) (Zl 1 ⟨b2, #[.slice A' b.rel.length c', .slice B' b.pre.length d'], 31⟩ (off := 0) (.agg #[.slice A' b.rel.length c', .slice B' b.pre.length d']) ?_)))))))
  refine Zr (k := 140) (args := #[.agg #[.slice A a.rel.length c, .slice B a.pre.length d], .agg #[.slice A' b.rel.length c', .slice B' b.pre.length d'], .func (.func 83) #[] #[]]) (fun v' L' => ∃ ob', L' = ob' ++ ([⟨b3, ZM, 31⟩, ⟨b2, #[.slice A' b.rel.length c', .slice B' b.pre.length d'], 31⟩, ⟨b1, #[.slice A a.rel.length c, .slice B a.pre.length d], 31⟩]) ∧ SetO v' (if a.may && b.may then orT a b else gH) ob') (fun w hO => (combOr_any A B A' B' c d c' d' a b w (hs.on hO.below hO.size) (ht.on hO.below hO.size) ca cb).mono fun e w' ⟨v', ob', k1, k2, k3⟩ => ⟨v', _, k1, ⟨ob', rfl, k2⟩, Own.joinN hO k3⟩) (fun v1 L1 hv1 => ?_)
  obtain ⟨o1, rfl, hr1⟩ := hv1
  obtain ⟨V1, U1, c1, d1, rfl⟩ := hr1.form
  exact gJ (L' := ⟨b3, ZM, 31⟩ :: o1) (fun w hO => own_front hO) (Zs 0 ⟨b3, ZM, 31⟩ (off := 0) (.agg #[.slice V1 (((if a.may && b.may then orT a b else gH)).rel.length) c1, .slice U1 (((if a.may && b.may then orT a b else gH)).pre.length) d1]) (ZN (zB (ZC 0 ⟨b3, #[.slice V1 (((if a.may && b.may then orT a b else gH)).rel.length) c1, .slice U1 (((if a.may && b.may then orT a b else gH)).pre.length) d1], 31⟩ (off := 0) (.agg #[.slice V1 (((if a.may && b.may then orT a b else gH)).rel.length) c1, .slice U1 (((if a.may && b.may then orT a b else gH)).pre.length) d1]) Tryz.results86 (fun w hO => ⟨_, o1, rfl, hr1, own_tl hO⟩)))))
theorem sNot_any (A B : Option Addr) (c d : Nat) (a : St) (W : World) (hs : SetIn W W.heap.size A B a) (ca : a.rel.length ≤ c ∧ a.pre.length ≤ d) : Calls Tryz.prog 128 #[.agg #[.slice A a.rel.length c, .slice B a.pre.length d]] W fun e w' => ∃ v' ob', e = .returned v' ∧ SetO v' (if a.may then notT a else gH) ob' ∧ Own [] W w' ob' := by
  refine Z2 (n := 6) Tryz.func128 rfl (ZO (Zb (.agg #[.slice A a.rel.length c, .slice B a.pre.length d]) (fun b1 => Za (.agg ZM) (fun b2 => ZR (Zl 1 ⟨b1, #[.slice A a.rel.length c, .slice B a.pre.length d], 31⟩ (off := 0) (.agg #[.slice A a.rel.length c, .slice B a.pre.length d]) (Zl 1 ⟨b1, #[.slice A a.rel.length c, .slice B a.pre.length d], 31⟩ (off := 0) (.agg #[.slice A a.rel.length c, .slice B a.pre.length d]) (Zr (k := 140) (args := #[.agg #[.slice A a.rel.length c, .slice B a.pre.length d], .agg #[.slice A a.rel.length c, .slice B a.pre.length d], .func (.func 172) #[] #[]]) (fun v' L' => ∃ ob', L' = ob' ++ ([⟨b2, ZM, 31⟩, ⟨b1, #[.slice A a.rel.length c, .slice B a.pre.length d], 31⟩]) ∧ SetO v' (if a.may then notT a else gH) ob') (fun w hO => (combNot_any A B A B c d c d a a w (hs.on hO.below hO.size) (hs.on hO.below hO.size) ca ca).mono fun e w' ⟨v', ob', k1, k2, k3⟩ => ⟨v', _, k1, ⟨ob', rfl, by rw [Bool.and_self] at k2; exact k2⟩, Own.joinN hO k3⟩) (fun v1 L1 hv1 => ?_))))))))
  obtain ⟨o1, rfl, hr1⟩ := hv1
  obtain ⟨V1, U1, c1, d1, rfl⟩ := hr1.form
  exact gJ (L' := ⟨b2, ZM, 31⟩ :: o1) (fun w hO => own_front hO) (Zs 0 ⟨b2, ZM, 31⟩ (off := 0) (.agg #[.slice V1 (((if a.may then notT a else gH)).rel.length) c1, .slice U1 (((if a.may then notT a else gH)).pre.length) d1]) (ZN (zB (ZC 0 ⟨b2, #[.slice V1 (((if a.may then notT a else gH)).rel.length) c1, .slice U1 (((if a.may then notT a else gH)).pre.length) d1], 31⟩ (off := 0) (.agg #[.slice V1 (((if a.may then notT a else gH)).rel.length) c1, .slice U1 (((if a.may then notT a else gH)).pre.length) d1]) Tryz.results128 (fun w hO => ⟨_, o1, rfl, hr1, own_tl hO⟩)))))
theorem sAll_any (W : World) : Calls Tryz.prog 80 #[] W fun e w' => ∃ v' ob', e = .returned v' ∧ SetO v' (allT) ob' ∧ Own [] W w' ob' := by
  refine Z2 (n := 3) Tryz.func80 rfl (ZO (Za (.agg ZM) (fun b1 => ZR (Zc (k := 47) (args := #[]) (.agg ZM) (fun w _ => vJ w) (Zr (k := 128) (args := #[.agg ZM]) (fun v' L' => ∃ ob', L' = ob' ++ ([⟨b1, ZM, 31⟩]) ∧ SetO v' (allT) ob') (fun w hO => (sNot_any none none 0 0 gH w (none_in _ _) ⟨Nat.le_refl 0, Nat.le_refl 0⟩).mono fun e w' ⟨v', ob', k1, k2, k3⟩ => ⟨v', _, k1, ⟨ob', rfl, by rw [if_pos none_sf.may, notT_none] at k2; exact k2⟩, Own.joinN hO k3⟩) (fun v1 L1 hv1 => ?_))))))
  obtain ⟨o1, rfl, hr1⟩ := hv1
  obtain ⟨V1, U1, c1, d1, rfl⟩ := hr1.form
  exact gJ (L' := ⟨b1, ZM, 31⟩ :: o1) (fun w hO => own_front hO) (Zs 0 ⟨b1, ZM, 31⟩ (off := 0) (.agg #[.slice V1 ((allT).rel.length) c1, .slice U1 ((allT).pre.length) d1]) (ZN (zB (ZC 0 ⟨b1, #[.slice V1 ((allT).rel.length) c1, .slice U1 ((allT).pre.length) d1], 31⟩ (off := 0) (.agg #[.slice V1 ((allT).rel.length) c1, .slice U1 ((allT).pre.length) d1]) Tryz.results80 (fun w hO => ⟨_, o1, rfl, hr1, own_tl hO⟩)))))
end
section
theorem own_mk5 {M : List Nat} {W w : World} {x y : Blk} {A B : List Blk} (h : Own M W w (A ++ (x :: (B ++ [y])))) : Own M W w (x :: y :: A) :=
  (h.sublist ((List.Sublist.refl A).append (List.Sublist.cons_cons x (List.sublist_append_right B [y])))).perm (List.perm_append_comm (l₁ := A) (l₂ := [x, y]))
theorem own_mk6 {M : List Nat} {W w : World} {x y : Blk} {A B : List Blk} (h : Own M W w (A ++ (x :: y :: B))) : Own M W w (x :: y :: (A ++ B)) :=
  h.perm (by
    have e : A ++ ([x, y] ++ B) = A ++ [x, y] ++ B := (List.append_assoc ..).symm
    show (A ++ ([x, y] ++ B)).Perm ([x, y] ++ (A ++ B))
    rw [e, ← List.append_assoc]
    exact List.Perm.append_right B List.perm_append_comm)
theorem sMake_any (A B : Option Addr) (c d : Nat) (l q : List Sp) (W : World) (hv : Reads yR W W.heap.size A l) (hu : Reads yR W W.heap.size B q) (hn : l.length ≤ 100000) (hk : q.length ≤ 100000) (hl : x8 l) (hm : x8 q) (ca : l.length ≤ c) (cb : q.length ≤ d) :
    Calls Tryz.prog 85 #[.slice A l.length c, .slice B q.length d] W fun e w' => ∃ v' ob', e = .returned (.tuple #[v', .bool (zR l && zR q)]) ∧ SetO v' (if zR l && zR q then ⟨kB l, q⟩ else gH) ob' ∧ Own [] W w' ob' := by
  refine Z2 (n := 52) Tryz.func85 rfl (ZO (Za (.agg ZM) (fun b1 => Zv Z5 (ZN (z7 (ZO (Zv (.slice A l.length c) (Zc (k := 129) (args := #[.slice A l.length c]) (.bool (zR l)) (fun w hO => uI A c l w (hv.on hO.below hO.below.size) (Nat.le_trans hn (by decide)) hl) ?_))))))))
  cases h1 : zR l with
  | true =>
    refine Zv Z5 (Zv Z5 (Zv (.slice B q.length d) (Zc (k := 129) (args := #[.slice B q.length d]) (.bool (zR q)) (fun w hO => uI B d q w (hu.on hO.below hO.below.size) (Nat.le_trans hk (by decide)) hm) ?_)))
    cases h2 : zR q with
    | true =>
      refine Zv Z5 (Zv Z5 (ZX (ZB (ZO (Zv (.slice none 0 0) (zP (z8 ?_)))))))
      refine z7 (ZO (Zv (.slice A l.length c) (Zv (.int .i64 (l.length : Int)) (Zv (.int .i64 0) (ZN (zL (qE (L' := [] ++ [⟨b1, ZM, 31⟩]) rfl (yL (fun L f m => ∃ (k : Nat) (u : Value) (acc : List Sp) (ob : List Blk) (j : Nat → Value), (MkI l k u acc ob) ∧ L = ob ++ [⟨b1, ZM, 31⟩] ∧ f = xF j [(1, .slice B q.length d), (4, Zp b1 0), (6, u), (19, .slice A l.length c), (20, .int .i64 (l.length : Int)), (21, .int .i64 (k : Int))] ∧ m = l.length - k) (l.length - 0) ⟨0, _, [], [], _, ⟨Nat.zero_le _, Sl.nil _ _, rfl⟩, rfl, ZU, rfl⟩ ?_))))))))
      rintro L f m ⟨k, u, acc, ob, j, hrel, rfl, rfl, rfl⟩
      have hkl := hrel.le
      refine z7 (zA ?_)
      by_cases h3 : (k : Int) < (l.length : Int)
      · have hlk : k < l.length := by omega
        obtain ⟨b, off, hA, hlt, hcell⟩ := hv (by omega)
        obtain ⟨s, he⟩ : ∃ s, l[k] = s := ⟨_, rfl⟩
        have hsk : s.short := he ▸ hl _ (List.getElem_mem _)
        have hsm : s.lo.may = true ∧ s.hi.may = true := yD (he ▸ xJ h1 _ (List.getElem_mem _))
        obtain ⟨x, hx⟩ : ∃ x, kJ s.lo = x := ⟨_, rfl⟩
        obtain ⟨y, hy⟩ : ∃ y, kJ s.hi = y := ⟨_, rfl⟩
        have hxS : x.short := hx ▸ fI hsk.1
        have hyS : y.short := hy ▸ fI hsk.2
        refine Zg h3 (ZN (z7 (Zt (ZB (z7 (zL (ZO (zU (Zp b (off + k * 14)) (by kernel_rfl) (ZA (b := b) (off := off) (c := c) (n := l.length) (k := .i64) (j := (k : Int)) (e := 80) (sz := 14) hA) ?_))))))))
        refine Zo (yX s) (a := ⟨b, off + k * 14, none⟩) (fun w hO => y6 y9 (fun j u h => (hO.below.cell (p := ⟨b, off + j, none⟩) hlt).trans (hcell j u h)) k 0 hlk (by omega) _ (by rw [he]; kernel_rfl)) (Za (.agg Z6) (fun b2 => Zs 0 ⟨b2, Z6, 80⟩ (off := 0) (yX s) (ZN (z7 (ok_drawt 7 (by kernel_rfl) (by kernel_rfl) (by kernel_rfl) ?_)))))
        simp only [List.take_succ_cons, List.take_zero, List.drop_succ_cons, List.drop_zero]
        refine Zw (Zp b2 0) (Zm 0 ⟨b2, (yX s).cells, 80⟩ (off := 0) (.agg (ZJ s.lo)) (Zq (k := 138) (args := #[.agg (ZJ s.lo)]) (zC x) (fun w _ => jA (by rw [hx]) (toRel_any s.lo w hsk.1 hsm.1)) (Zw (Zp b2 7) (Zm 0 ⟨b2, (yX s).cells, 80⟩ (off := 7) (.agg (ZJ s.hi)) (Zq (k := 138) (args := #[.agg (ZJ s.hi)]) (zC y) (fun w _ => jA (by rw [hy]) (toRel_any s.hi w hsk.2 hsm.2)) (Zw (.agg (ZJ2 x y)) (xU (Zs 0 ⟨b2, (yX s).cells, 80⟩ (off := 0) (.agg (ZJ2 x y)) (ZN (z7 ?_))))))))))
        refine zA (Zl 0 ⟨b2, (ZJ2 x y), 80⟩ (off := 0) (.agg (ZJ2 x y)) (Zc (k := 139) (args := #[.agg (ZJ2 x y)]) (.bool ((⟨x, y⟩ : Sp).may)) (fun w _ => d5 ⟨x, y⟩ w ⟨hxS, hyS⟩) (zP (z8 ?_))))
        cases h4 : (⟨x, y⟩ : Sp).may with
        | true =>
          refine Zt (zA (Zv (u) (Zl 0 ⟨b2, (ZJ2 x y), 80⟩ (off := 0) (.agg (ZJ2 x y)) (qC 80 (ZJ2 x y) (by kernel_rfl) rfl (fun _ => by kernel_rfl) (fun b3 => ?_)))))
          obtain ⟨i0, z0, e1, e2, e3, e4, e5⟩ := kX
          have hln : acc.length ≤ k := by rw [hrel.eq]; exact bA l k
          refine xT (L' := [⟨b3, (ZJ2 x y), 80⟩, ⟨b2, (ZJ2 x y), 80⟩] ++ ob ++ [⟨b1, ZM, 31⟩]) (by rw [List.append_assoc]; kernel_rfl) (kR (sz := 14) (by kernel_rfl) rfl Tryz.underlying29 e1 e2 e3 e4 (by kernel_rfl) hrel.sl (a := ⟨b3, 0, none⟩) (m := 1) (c := 1) (news := yR ⟨x, y⟩) (by kernel_rfl) rfl (fun w hO j u hj => ?_) (xX _) (by unfold maxLen; omega) (by rw [e5]; omega) (fun u2 ob2 hu2 => ?_))
          · rw [yW, cell_of_row w b3 (0 + j) (yR ⟨x, y⟩).toArray 80 _ (hO.held ⟨b3, (yR ⟨x, y⟩).toArray, 80⟩ (List.mem_append_left _ (List.mem_append_left _ (List.mem_cons_self ..))))]; simpa using hj
          exact Zv (u2) (zP (zQ (z8 (zA (Zu (k := .i64) (((k + 1 : Nat) : Int)) (IntWalk.i64_in _ (by omega)) (Zv (.int .i64 ((k + 1 : Nat) : Int)) (zP (xM (L' := ob2 ++ [⟨b1, ZM, 31⟩]) (fun w hO => own_drop hO) (zT (m' := l.length - (k + 1)) (by omega) ⟨k + 1, u2, _, ob2, _, hrel.grow hlk he hx hy (by assumption) hu2, rfl, ZU, rfl⟩)))))))))
        | false =>
          exact Zf (yC (zQ (z8 (zA (Zu (k := .i64) (((k + 1 : Nat) : Int)) (IntWalk.i64_in _ (by omega)) (Zv (.int .i64 ((k + 1 : Nat) : Int)) (zP (xM (L' := ob ++ [⟨b1, ZM, 31⟩]) (fun w hO => Own.sub [_] hO) (zT (m' := l.length - (k + 1)) (by omega) ⟨k + 1, u, acc, ob, _, hrel.keep hlk he hx hy (by assumption), rfl, ZU, rfl⟩)))))))))
      refine Zh h3 (ZN (z7 (Zf (y5 (zD (zN (zH (z8 (z7 (zA ?_))))))))))
      refine Za (.agg ZM) (fun b2 => ZR (Zv (u) ?_))
      have hke : acc = (l.map uC).filter (·.may) := by have h := hrel.eq; unfold pF at h; rwa [List.take_of_length_le (by omega)] at h
      have hall : k8 acc = true := allMay_mem.2 (by rw [hrel.eq]; exact turnL_may l k)
      have hsh : x8 acc := fun s hs => tV (allMay_mem.1 hall s hs)
      have hln : acc.length ≤ k := by rw [hrel.eq]; exact bA l k
      have hsl := hrel.sl
      clear hrel
      obtain ⟨C, cc, rfl⟩ := hsl.form
      refine Zr (k := 136) (args := #[.slice C acc.length cc]) (fun v' L' => ∃ mv ob', v' = .tuple #[mv, .bool true] ∧ L' = ob' ++ (⟨b2, ZM, 31⟩ :: (ob ++ ([⟨b1, ZM, 31⟩]))) ∧ SlS mv (kB l) ob') (fun w hO => (nK C cc acc w (Sl.reads hsl rfl hO (fun x hx => by simp [hx])) (by omega) hsh).mono fun e w' ⟨v', ob', k1, k2, k3⟩ => ⟨_, _, k1, ⟨v', ob', by rw [hall], rfl, by rw [hall, if_pos rfl, hke] at k2; exact k2⟩, Own.joinN hO k3⟩) (fun tv L2 hv2 => ?_)
      obtain ⟨v2, o2, rfl, rfl, hr2⟩ := hv2
      obtain ⟨V2, c2, rfl⟩ := hr2.form
      refine gJ (L' := ⟨b2, ZM, 31⟩ :: ⟨b1, ZM, 31⟩ :: o2) (fun w hO => own_mk5 hO) (Zv (.tuple #[.slice V2 ((kB l).length) c2, .bool true]) (Zv (.slice V2 ((kB l).length) c2) (Zv Z4 (Zv (Zp b2 0) (Zs 0 ⟨b2, ZM, 31⟩ (off := 0) (.slice V2 ((kB l).length) c2) (ZR (Zv (.slice B q.length d) ?_)))))))
      have hqa : k8 q = true := allMay_mem.2 (xJ h2)
      refine Zr (k := 136) (args := #[.slice B q.length d]) (fun v' L' => ∃ mv ob', v' = .tuple #[mv, .bool true] ∧ L' = ob' ++ (⟨b2, #[.slice V2 ((kB l).length) c2, .slice none 0 0], 31⟩ :: (⟨b1, ZM, 31⟩ :: (o2))) ∧ SlS mv q ob') (fun w hO => (nK B d q w (hu.on hO.below hO.below.size) (Nat.le_trans hk (by decide)) hm).mono fun e w' ⟨v', ob', k1, k2, k3⟩ => ⟨_, _, k1, ⟨v', ob', by rw [hqa], rfl, by rw [hqa, if_pos rfl, make_self h2] at k2; exact k2⟩, Own.joinN hO k3⟩) (fun tv L3 hv3 => ?_)
      obtain ⟨v3, o3, rfl, rfl, hr3⟩ := hv3
      obtain ⟨V3, c3, rfl⟩ := hr3.form
      refine gJ (L' := ⟨b2, #[.slice V2 ((kB l).length) c2, .slice none 0 0], 31⟩ :: ⟨b1, ZM, 31⟩ :: (o3 ++ o2)) (fun w hO => own_mk6 hO) (Zv (.tuple #[.slice V3 q.length c3, .bool true]) (Zv (.slice V3 q.length c3) (Zv Z4 (Zv (Zp b2 1) (Zs 0 ⟨b2, #[.slice V2 ((kB l).length) c2, .slice none 0 0], 31⟩ (off := 1) (.slice V3 q.length c3) (ZR (Zl 0 ⟨b2, #[.slice V2 ((kB l).length) c2, .slice V3 q.length c3], 31⟩ (off := 0) (.agg #[.slice V2 ((kB l).length) c2, .slice V3 q.length c3]) (Zs 1 ⟨b1, ZM, 31⟩ (off := 0) (.agg #[.slice V2 ((kB l).length) c2, .slice V3 q.length c3]) ?_))))))))
      exact Zv Z4 (ZN (zB (ZD 1 ⟨b1, #[.slice V2 ((kB l).length) c2, .slice V3 q.length c3], 31⟩ (off := 0) (.agg #[.slice V2 ((kB l).length) c2, .slice V3 q.length c3]) Z4 Tryz.results85 (fun w hO => ⟨_, _, rfl, by rw [if_pos (by simp [h1, h2])]; exact ⟨_, _, o2, o3, rfl, rfl, hr2, hr3⟩, own_tl (own_tl hO)⟩))))
    | false =>
      refine Zv Z4 (Zv Z4 (ZY (ZO (Zc (k := 47) (args := #[]) (.agg ZM) (fun w _ => vJ w) (Zs 0 ⟨b1, ZM, 31⟩ (off := 0) (.agg ZM) (Zv Z5 (zP (z8 ?_))))))))
      exact zB (z6 (ZD 0 ⟨b1, ZM, 31⟩ (off := 0) (.agg ZM) Z5 Tryz.results85 (fun w hO => ⟨_, [], by first | rfl | (simp [h1, h2]; done), by rw [if_neg (by simp [h1, h2])]; exact SetO.none, kF hO⟩)))
  | false =>
    refine Zv Z4 (Zv Z4 (Zk (Zk (Zk (Zv Z4 (ZY (ZO (Zc (k := 47) (args := #[]) (.agg ZM) (fun w _ => vJ w) ?_))))))))
    exact Zs 0 ⟨b1, ZM, 31⟩ (off := 0) (.agg ZM) (Zv Z5 (ZN (zB (z6 (ZD 0 ⟨b1, ZM, 31⟩ (off := 0) (.agg ZM) Z5 Tryz.results85 (fun w hO => ⟨_, [], by first | rfl | (simp [h1]; done), by rw [if_neg (by simp [h1])]; exact SetO.none, kF hO⟩))))))
end
section
section
variable {M : List Nat} {W w : World} {x y z : Blk} {A B C D E F G : List Blk}
theorem own_ev1 (h : Own M W w (A ++ (B ++ (C ++ (D ++ (x :: (E ++ (F ++ [y])))))))) : Own M W w (C ++ (A ++ [y])) := by
  have h0 : [y].Sublist (D ++ (x :: (E ++ (F ++ [y])))) := (((List.sublist_append_right F [y]).trans (List.sublist_append_right E _)).trans (List.sublist_cons_self x _)).trans (List.sublist_append_right D _)
  have h1 : Own M W w (A ++ (C ++ [y])) := h.sublist (List.Sublist.append (List.Sublist.refl A) ((List.Sublist.append (List.Sublist.refl C) h0).trans (List.sublist_append_right B _)))
  exact h1.perm (by rw [← List.append_assoc, ← List.append_assoc]; exact List.Perm.append_right [y] List.perm_append_comm)
theorem own_ev2 (h : Own M W w (x :: (A ++ (B ++ (E ++ (F ++ [y])))))) : Own M W w (x :: y :: A) := by
  have h0 : [y].Sublist (B ++ (E ++ (F ++ [y]))) := ((List.sublist_append_right F [y]).trans (List.sublist_append_right E _)).trans (List.sublist_append_right B _)
  have h1 : Own M W w (x :: (A ++ [y])) := h.sublist (List.Sublist.cons_cons x (List.Sublist.append (List.Sublist.refl A) h0))
  exact h1.perm (List.Perm.cons x List.perm_append_comm)
theorem own_so1 (h : Own M W w (A ++ (x :: y :: z :: B))) : Own M W w (y :: z :: A) := by
  have h1 : Own M W w (A ++ [y, z]) := h.sublist (List.Sublist.append (List.Sublist.refl A) ((List.Sublist.cons_cons y (List.Sublist.cons_cons z (List.nil_sublist B))).trans (List.sublist_cons_self x _)))
  exact h1.perm List.perm_append_comm
theorem own_st1 (h : Own M W w ((x :: (A ++ [y, z])) ++ B ++ C)) : Own M W w (y :: z :: (B ++ (A ++ C))) := by
  have h1 : Own M W w (A ++ ([y, z] ++ (B ++ C))) := by
    have h2 : Own M W w ([x] ++ (A ++ ([y, z] ++ (B ++ C)))) := by simpa [List.append_assoc] using h
    exact h2.sublist (List.sublist_append_right [x] _)
  refine h1.perm ((List.perm_append_comm_assoc A [y, z] (B ++ C)).trans ?_)
  show ([y, z] ++ (A ++ (B ++ C))).Perm ([y, z] ++ (B ++ (A ++ C)))
  exact List.Perm.append_left _ (List.perm_append_comm_assoc A B C)
theorem own_st2 (h : Own M W w (A ++ (x :: y :: B))) : Own M W w (x :: A) := by
  have h1 : Own M W w (A ++ [x]) := h.sublist (List.Sublist.append (List.Sublist.refl A) (List.Sublist.cons_cons x (List.nil_sublist _)))
  exact h1.perm List.perm_append_comm
end
theorem gmake_al (A B : Option Addr) (c d : Nat) (a : List Co) (W : World) {n : Nat} (hv : Reads yR W W.heap.size A (x7 a)) (hu : Reads yR W W.heap.size B (wP (x7 a) (x5 a))) (h1 : RF (x7 a) 4000) (h2 : RF (wP (x7 a) (x5 a)) n) (ca : (x7 a).length ≤ c) (cb : (wP (x7 a) (x5 a)).length ≤ d) (hn : n ≤ 100000 := by decide) :
    Calls Tryz.prog 85 #[.slice A (x7 a).length c, .slice B (wP (x7 a) (x5 a)).length d] W fun e w' => ∃ v' ob', e = .returned (.tuple #[v', .bool true]) ∧ SetO v' (yF a) ob' ∧ Own [] W w' ob' :=
  (sMake_any A B c d _ _ W hv hu (Nat.le_trans h1.len (by decide)) (Nat.le_trans h2.len hn) h1.short h2.short ca cb).mono fun e w' ⟨v', ob', q1, q2, q3⟩ => by
    rw [h1.may, h2.may] at q1 q2
    exact ⟨v', ob', q1, q2, q3⟩
theorem gevery_any (A : Option Addr) (cap : Nat) (a : List Co) (W : World) (hv : Reads coC W W.heap.size A a) (hn : a.length ≤ 1000) (hsh : ShortA a) : Calls Tryz.prog 48 #[.slice A a.length cap] W fun e w' => ∃ v' ob', e = .returned v' ∧ SetO v' (yF a) ob' ∧ Own [] W w' ob' := by
  refine Z2 (n := 37) Tryz.func48 rfl (ZO (Za (.agg ZM) (fun b1 => ZR (Zr (k := 80) (args := #[]) (fun v' L' => ∃ ob', L' = ob' ++ ([⟨b1, ZM, 31⟩]) ∧ SetO v' allT ob') (fun w hO => (sAll_any w).mono fun e w' ⟨v', ob', k1, k2, k3⟩ => ⟨v', _, k1, ⟨ob', rfl, k2⟩, Own.joinN hO k3⟩) (fun v0 Lx1 hvx1 => ?_)))))
  obtain ⟨o0, rfl, h0⟩ := hvx1
  obtain ⟨_, _, p1, p2, rfl, rfl, hq1, hq2⟩ := h0
  obtain ⟨V0, c0, rfl⟩ := hq1.form
  obtain ⟨U0, d0, rfl⟩ := hq2.form
  refine gJ (L' := p1 ++ ([⟨b1, ZM, 31⟩])) (fun w hO => own_tail hO) (Zv (.slice V0 allT.rel.length c0) (Zc (k := 47) (args := #[]) (.agg ZM) (fun w _ => vJ w) (Zv (.slice none 0 0) (Zv (.slice V0 allT.rel.length c0) (Zv (.slice none 0 0) (ZN (z7 (ZO (Zv (.slice A a.length cap) ?_)))))))))
  refine Zv (.int .i64 (a.length : Int)) (Zv (.int .i64 0) (ZN (zL (qE (L' := p1 ++ ([] ++ [⟨b1, ZM, 31⟩])) (by simp) (yL (fun L f m => ∃ (k : Nat) (V1 : Option Addr) (c1 : Nat) (o1 : List Blk) (V2 : Option Addr) (c2 : Nat) (o2 : List Blk) (j : Nat → Value), (k ≤ a.length ∧ SlS (.slice V1 (x7 (a.take k)).length c1) (x7 (a.take k)) o1 ∧ SlS (.slice V2 (x5 (a.take k)).length c2) (x5 (a.take k)) o2) ∧ L = o1 ++ (o2 ++ [⟨b1, ZM, 31⟩]) ∧ f = xF j [(0, .slice A a.length cap), (2, Zp b1 0), (3, .slice V1 (x7 (a.take k)).length c1), (4, .slice V2 (x5 (a.take k)).length c2), (13, .slice A a.length cap), (14, .int .i64 (a.length : Int)), (15, .int .i64 (k : Int))] ∧ m = a.length - k) (a.length - 0) ⟨0, _, _, _, none, 0, [], _, ⟨Nat.zero_le _, hq1, Sl.nil _ _⟩, rfl, ZU, rfl⟩ ?_)))))
  rintro L f m ⟨k, V1, c1, o1, V2, c2, o2, j, hrel, rfl, rfl, rfl⟩
  obtain ⟨hkl, gq1, gq2⟩ := hrel
  refine z7 (zA ?_)
  by_cases h1 : (k : Int) < (a.length : Int)
  · have hk : k < a.length := by omega
    obtain ⟨bp, off, hA, hlt, hcell⟩ := hv (by omega)
    obtain ⟨c, hc⟩ : ∃ c, a[k] = c := ⟨_, rfl⟩
    have hcS : c.short := hsh c (hc ▸ List.getElem_mem hk)
    refine Zg h1 (ZN (z7 (Zt (ZB (z7 (zL (ZO (zU (Zp bp (off + k * 7)) (by kernel_rfl) (ZA (b := bp) (off := off) (c := cap) (n := a.length) (k := .i64) (j := (k : Int)) (e := 51) (sz := 7) hA) ?_))))))))
    refine Zo (coV c) (a := ⟨bp, off + k * 7, none⟩) (fun w hO => y6 uM (fun j u h => (hO.below.cell (p := ⟨bp, off + j, none⟩) hlt).trans (hcell j u h)) k 0 hk (by omega) _ (by rw [hc]; kernel_rfl)) (Za (.agg Z0) (fun b2 => Zs 0 ⟨b2, Z0, 51⟩ (off := 0) (coV c) (ZR (Zv (.slice V1 ((x7 (a.take k)).length) c1) (Zl 0 ⟨b2, (coV c).cells, 51⟩ (off := 0) (coV c) (Zr (k := 82) (args := #[coV c]) (fun v' L' => ∃ ob', L' = ob' ++ (⟨b2, (coV c).cells, 51⟩ :: (o1 ++ (o2 ++ ([⟨b1, ZM, 31⟩])))) ∧ SlS v' c.region ob') (fun w hO => (cRegion_any c w hcS).mono fun e w' ⟨v', ob', k1, k2, k3⟩ => ⟨v', _, k1, ⟨ob', rfl, k2⟩, Own.joinN hO k3⟩) (fun vr Lx2 hvx2 => ?_)))))))
    obtain ⟨oR, rfl, hR⟩ := hvx2
    obtain ⟨VR, cR, rfl⟩ := hR.form
    refine Zr (k := 81) (args := #[.slice V1 ((x7 (a.take k)).length) c1, .slice VR c.region.length cR]) (fun v' L' => ∃ ob', L' = ob' ++ (oR ++ (⟨b2, (coV c).cells, 51⟩ :: (o1 ++ (o2 ++ ([⟨b1, ZM, 31⟩]))))) ∧ SlS v' (x7 (a.take (k + 1))) ob') (fun w hO => (and4_any V1 VR c1 cR (x7 (a.take k)) c.region w (Sl.reads gq1 rfl hO (fun x hx => by simp [hx])) (Sl.reads hR rfl hO (fun x hx => by simp [hx])) (Nat.le_trans (qB a k hn).len (by decide)) (Nat.le_trans (j5 c).len (by decide)) (qB a k hn).short (j5 c).short (d6 gq1) (d6 hR)).mono fun e w' ⟨v', ob', k1, k2, k3⟩ => ⟨v', _, k1, ⟨ob', rfl, by rw [if_pos (by rw [(qB a k hn).may, (j5 c).may]; rfl), ← altRel_next hk hc] at k2; exact k2⟩, Own.joinN hO k3⟩) (fun va Lx3 hvx3 => ?_)
    obtain ⟨oA, rfl, hA2⟩ := hvx3
    obtain ⟨VA, cA, rfl⟩ := hA2.form
    refine Zv (.slice VA ((x7 (a.take (k + 1))).length) cA) (ZN (zA (Zv (.slice V2 ((x5 (a.take k)).length) c2) (d7 ⟨b2, (coV c).cells, 51⟩ (off := 0) (coV c) (by kernel_rfl) rfl (by simp) (by kernel_rfl) (by kernel_rfl) (Zr (k := 84) (args := #[coV c]) (fun v' L' => ∃ ob', L' = ob' ++ (oA ++ (oR ++ (⟨b2, (coV c).cells, 51⟩ :: (o1 ++ (o2 ++ ([⟨b1, ZM, 31⟩])))))) ∧ SlS v' c.zone ob') (fun w hO => (cZone_any c w hcS).mono fun e w' ⟨v', ob', k1, k2, k3⟩ => ⟨v', _, k1, ⟨ob', rfl, k2⟩, Own.joinN hO k3⟩) (fun vz Lx4 hvx4 => ?_))))))
    obtain ⟨oZ, rfl, hZ⟩ := hvx4
    obtain ⟨VZ, cZ, rfl⟩ := hZ.form
    refine Zr (k := 83) (args := #[.slice V2 ((x5 (a.take k)).length) c2, .slice VZ c.zone.length cZ]) (fun v' L' => ∃ ob', L' = ob' ++ (oZ ++ (oA ++ (oR ++ (⟨b2, (coV c).cells, 51⟩ :: (o1 ++ (o2 ++ ([⟨b1, ZM, 31⟩]))))))) ∧ SlS v' (x5 (a.take (k + 1))) ob') (fun w hO => (or4_any V2 VZ c2 cZ (x5 (a.take k)) c.zone w (Sl.reads gq2 rfl hO (fun x hx => by simp [hx])) (Sl.reads hZ rfl hO (fun x hx => by simp [hx])) (Nat.le_trans (gR a k hn).len (by decide)) (Nat.le_trans (wT c).len (by decide)) (gR a k hn).short (wT c).short).mono fun e w' ⟨v', ob', k1, k2, k3⟩ => ⟨v', _, k1, ⟨ob', rfl, by rw [if_pos (by rw [(gR a k hn).may, (wT c).may]; rfl), ← altZone_next hk hc] at k2; exact k2⟩, Own.joinN hO k3⟩) (fun vo Lx5 hvx5 => ?_)
    obtain ⟨oO, rfl, hO2⟩ := hvx5
    obtain ⟨VO, cO, rfl⟩ := hO2.form
    exact Zv (.slice VO ((x5 (a.take (k + 1))).length) cO) (zP (zQ (z8 (zA (Zu (k := .i64) (((k + 1 : Nat) : Int)) (IntWalk.i64_in _ (by omega)) (Zv (.int .i64 ((k + 1 : Nat) : Int)) (zP (xM (fun w hO => own_ev1 hO) (zT (m' := a.length - (k + 1)) (by omega) ⟨k + 1, VA, cA, oA, VO, cO, oO, _, ⟨by omega, hA2, hO2⟩, rfl, ZU, rfl⟩)))))))))
  have htk : a.take k = a := List.take_of_length_le (by omega)
  have hRL := qB a k hn
  have hZL := gR a k hn
  have hAZ := hRL.and1 hZL
  refine Zh h1 (ZN (z7 (Zf (y5 (zD (zN (zH (z8 (z7 (zA ?_))))))))))
  refine Zv (.slice V1 ((x7 (a.take k)).length) c1) (Zv (.slice V1 ((x7 (a.take k)).length) c1) (Zv (.slice V2 ((x5 (a.take k)).length) c2) (Zr (k := 81) (args := #[.slice V1 ((x7 (a.take k)).length) c1, .slice V2 ((x5 (a.take k)).length) c2]) (fun v' L' => ∃ ob', L' = ob' ++ (o1 ++ (o2 ++ ([⟨b1, ZM, 31⟩]))) ∧ SlS v' (wP (x7 (a.take k)) (x5 (a.take k))) ob') (fun w hO => (and4_any V1 V2 c1 c2 (x7 (a.take k)) (x5 (a.take k)) w (Sl.reads gq1 rfl hO (fun x hx => by simp [hx])) (Sl.reads gq2 rfl hO (fun x hx => by simp [hx])) (Nat.le_trans hRL.len (by decide)) (Nat.le_trans hZL.len (by decide)) hRL.short hZL.short (d6 gq1) (d6 gq2)).mono fun e w' ⟨v', ob', k1, k2, k3⟩ => ⟨v', _, k1, ⟨ob', rfl, by rw [if_pos (by rw [hRL.may, hZL.may]; rfl)] at k2; exact k2⟩, Own.joinN hO k3⟩) (fun vb Lx6 hvx6 => ?_))))
  obtain ⟨oB, rfl, hB⟩ := hvx6
  obtain ⟨VB, cB, rfl⟩ := hB.form
  refine Zr (k := 85) (args := #[.slice V1 ((x7 (a.take k)).length) c1, .slice VB ((wP (x7 (a.take k)) (x5 (a.take k))).length) cB]) (fun v' L' => ∃ ob', L' = ob' ++ (oB ++ (o1 ++ (o2 ++ ([⟨b1, ZM, 31⟩])))) ∧ ∃ mv, v' = .tuple #[mv, .bool true] ∧ SetO mv (yF (a.take k)) ob') (fun w hO => (gmake_al V1 VB c1 cB (a.take k) w (Sl.reads gq1 rfl hO (fun x hx => by simp [hx])) (Sl.reads hB rfl hO (fun x hx => by simp [hx])) hRL hAZ (d6 gq1) (d6 hB)).mono fun e w' ⟨v', ob', k1, k2, k3⟩ => ⟨Value.tuple #[v', .bool true], _, k1, ⟨ob', rfl, ⟨v', rfl, k2⟩⟩, Own.joinN hO k3⟩) (fun tv Lx7 hvx7 => ?_)
  obtain ⟨oM, rfl, hM0⟩ := hvx7
  obtain ⟨mv, rfl, hM⟩ := hM0
  obtain ⟨VM, UM, cM, dM, rfl⟩ := hM.form
  refine Zv (.tuple #[.agg #[.slice VM ((yF (a.take k)).rel.length) cM, .slice UM ((yF (a.take k)).pre.length) dM], .bool true]) (Zv (.agg #[.slice VM ((yF (a.take k)).rel.length) cM, .slice UM ((yF (a.take k)).pre.length) dM]) (Zv Z4 (Za (.agg ZM) (fun b2 => Zs 0 ⟨b2, ZM, 31⟩ (off := 0) (.agg #[.slice VM ((yF (a.take k)).rel.length) cM, .slice UM ((yF (a.take k)).pre.length) dM]) (Zv Z4 (ZR (Zl 0 ⟨b2, #[.slice VM ((yF (a.take k)).rel.length) cM, .slice UM ((yF (a.take k)).pre.length) dM], 31⟩ (off := 0) (.agg #[.slice VM ((yF (a.take k)).rel.length) cM, .slice UM ((yF (a.take k)).pre.length) dM]) (gJ (L' := ⟨b2, #[.slice VM ((yF (a.take k)).rel.length) cM, .slice UM ((yF (a.take k)).pre.length) dM], 31⟩ :: (⟨b1, ZM, 31⟩ :: (oM))) (fun w hO => own_ev2 hO) ?_))))))))
  exact Zs 1 ⟨b1, ZM, 31⟩ (off := 0) (.agg #[.slice VM ((yF (a.take k)).rel.length) cM, .slice UM ((yF (a.take k)).pre.length) dM]) (ZN (zB (ZC 1 ⟨b1, #[.slice VM ((yF (a.take k)).rel.length) cM, .slice UM ((yF (a.take k)).pre.length) dM], 31⟩ (off := 0) (.agg #[.slice VM ((yF (a.take k)).rel.length) cM, .slice UM ((yF (a.take k)).pre.length) dM]) Tryz.results48 (fun w hO => ⟨_, oM, rfl, by rw [htk] at hM ⊢; exact hM, Own.sub [_, _] hO⟩))))
theorem gsome_any (A : Option Addr) (cap : Nat) (xs : List Se) (r : List (List Co)) (W : World) (hv : SsIn W W.heap.size A xs) (hr : xs.map Se.s = r.map yF) (hf : fewR r = true) : Calls Tryz.prog 49 #[.slice A xs.length cap] W fun e w' => ∃ v' ob', e = .returned v' ∧ SetO v' (xQ r) ob' ∧ Own [] W w' ob' := by
  have hn : xs.length = r.length := by have q := congrArg List.length hr; rwa [List.length_map, List.length_map] at q
  have hr6 := (fewR.facts hf).1
  have hfin := fin_alts hf
  refine Z2 (n := 18) Tryz.func49 rfl (ZO (Za (.agg ZM) (fun b1 => ZR (Zc (k := 47) (args := #[]) (.agg ZM) (fun w _ => vJ w) (Za (.agg ZM) (fun b2 => Zs 0 ⟨b2, ZM, 31⟩ (off := 0) (.agg ZM) (zP ?_)))))))
  refine z8 (z7 (ZO (Zv (.slice A xs.length cap) (Zv (.int .i64 (xs.length : Int)) (Zv (.int .i64 0) (ZN (zL (qE (L' := ⟨b2, ZM, 31⟩ :: ⟨b1, ZM, 31⟩ :: []) rfl (yL (fun L f m => ∃ (k : Nat) (V : Option Addr) (U : Option Addr) (c : Nat) (d : Nat) (ob : List Blk) (j : Nat → Value), (k ≤ xs.length ∧ SetO (.agg #[.slice V (xQ (r.take k)).rel.length c, .slice U (xQ (r.take k)).pre.length d]) (xQ (r.take k)) ob) ∧ L = ⟨b2, #[.slice V ((xQ (r.take k)).rel.length) c, .slice U ((xQ (r.take k)).pre.length) d], 31⟩ :: ⟨b1, ZM, 31⟩ :: ob ∧ f = xF j [(2, Zp b1 0), (3, Zp b2 0), (7, .slice A xs.length cap), (8, .int .i64 (xs.length : Int)), (9, .int .i64 (k : Int))] ∧ m = xs.length - k) (xs.length - 0) ⟨0, none, none, 0, 0, [], _, ⟨Nat.zero_le _, SetO.none⟩, rfl, ZU, rfl⟩ ?_)))))))))
  rintro L f m ⟨k, V, U, c, d, ob, j, hrel, rfl, rfl, rfl⟩
  obtain ⟨hkl, hac⟩ := hrel
  refine z7 (zA ?_)
  by_cases h1 : (k : Int) < (xs.length : Int)
  · have hk : k < xs.length := by omega
    obtain ⟨bp, off, hA, hlt, hcell⟩ := hv.top (by omega)
    obtain ⟨x, hx⟩ : ∃ x, xs[k] = x := ⟨_, rfl⟩
    have hxm : x ∈ xs := hx ▸ List.getElem_mem hk
    have hxf : SF x.s 198 := hfin x.s (hr ▸ List.mem_map.2 ⟨x, hxm, rfl⟩)
    have hxr : yF (r[k]'(by omega)) = x.s := se_at hr hk (by omega) hx
    refine Zg h1 (ZN (z7 (Zt (ZB (z7 (zL (ZO (zU (Zp bp (off + k * 2)) (by kernel_rfl) (ZA (b := bp) (off := off) (c := cap) (n := xs.length) (k := .i64) (j := (k : Int)) (e := 31) (sz := 2) hA) ?_))))))))
    refine Zo (.agg #[.slice x.A x.s.rel.length x.c, .slice x.B x.s.pre.length x.d]) (a := ⟨bp, off + k * 2, none⟩) (fun w hO => y6 seC_len (fun j u h => (hO.below.cell (p := ⟨bp, off + j, none⟩) hlt).trans (hcell j u h)) k 0 hk (by omega) _ (by rw [hx]; kernel_rfl)) (Za (.agg ZM) (fun b3 => Zs 0 ⟨b3, ZM, 31⟩ (off := 0) (.agg #[.slice x.A x.s.rel.length x.c, .slice x.B x.s.pre.length x.d]) (ZN (zA (Zl 1 ⟨b2, #[.slice V ((xQ (r.take k)).rel.length) c, .slice U ((xQ (r.take k)).pre.length) d], 31⟩ (off := 0) (.agg #[.slice V ((xQ (r.take k)).rel.length) c, .slice U ((xQ (r.take k)).pre.length) d]) (Zl 0 ⟨b3, #[.slice x.A x.s.rel.length x.c, .slice x.B x.s.pre.length x.d], 31⟩ (off := 0) (.agg #[.slice x.A x.s.rel.length x.c, .slice x.B x.s.pre.length x.d]) (Zr (k := 86) (args := #[.agg #[.slice V ((xQ (r.take k)).rel.length) c, .slice U ((xQ (r.take k)).pre.length) d], .agg #[.slice x.A x.s.rel.length x.c, .slice x.B x.s.pre.length x.d]]) (fun v' L' => ∃ ob', L' = ob' ++ (⟨b3, #[.slice x.A x.s.rel.length x.c, .slice x.B x.s.pre.length x.d], 31⟩ :: (⟨b2, #[.slice V ((xQ (r.take k)).rel.length) c, .slice U ((xQ (r.take k)).pre.length) d], 31⟩ :: (⟨b1, ZM, 31⟩ :: (ob)))) ∧ SetO v' (xQ (r.take (k + 1))) ob') (fun w hO => (sOr_any V U x.A x.B c d x.c x.d (xQ (r.take k)) x.s w (SetO.inn hac hO (fun x hx => by simp [hx]) (orAll_le hf k) (by decide)) ((hv.each x hxm).on hO.below hO.below.size) hac.caps (hv.caps x hxm)).mono fun e w' ⟨v', ob', k1, k2, k3⟩ => ⟨v', _, k1, ⟨ob', rfl, by rw [if_pos (by rw [(orAll_le hf k).may, hxf.may]; rfl), ← hxr, ← t6 (by omega) rfl] at k2; exact k2⟩, Own.joinN hO k3⟩) (fun vo Lx1 hvx1 => ?_))))))))
    obtain ⟨oO, rfl, hO2⟩ := hvx1
    obtain ⟨V2, U2, c2, d2, rfl⟩ := hO2.form
    exact gJ (L' := ⟨b2, #[.slice V ((xQ (r.take k)).rel.length) c, .slice U ((xQ (r.take k)).pre.length) d], 31⟩ :: (⟨b1, ZM, 31⟩ :: (oO))) (fun w hO => own_so1 hO) (Zs 0 ⟨b2, #[.slice V ((xQ (r.take k)).rel.length) c, .slice U ((xQ (r.take k)).pre.length) d], 31⟩ (off := 0) (.agg #[.slice V2 ((xQ (r.take (k + 1))).rel.length) c2, .slice U2 ((xQ (r.take (k + 1))).pre.length) d2]) (zP (zQ (z8 (zA (Zu (k := .i64) (((k + 1 : Nat) : Int)) (IntWalk.i64_in _ (by omega)) (Zv (.int .i64 ((k + 1 : Nat) : Int)) (zP (zT (m' := xs.length - (k + 1)) (by omega) ⟨k + 1, V2, U2, c2, d2, oO, _, ⟨by omega, hO2⟩, rfl, ZU, rfl⟩)))))))))
  have htk : r.take k = r := List.take_of_length_le (by omega)
  refine Zh h1 (ZN (z7 (Zf (y5 (zD (zN (zH (z8 (z7 (zA ?_))))))))))
  exact Zl 0 ⟨b2, #[.slice V ((xQ (r.take k)).rel.length) c, .slice U ((xQ (r.take k)).pre.length) d], 31⟩ (off := 0) (.agg #[.slice V ((xQ (r.take k)).rel.length) c, .slice U ((xQ (r.take k)).pre.length) d]) (Zs 1 ⟨b1, ZM, 31⟩ (off := 0) (.agg #[.slice V ((xQ (r.take k)).rel.length) c, .slice U ((xQ (r.take k)).pre.length) d]) (ZN (zB (ZC 1 ⟨b1, #[.slice V ((xQ (r.take k)).rel.length) c, .slice U ((xQ (r.take k)).pre.length) d], 31⟩ (off := 0) (.agg #[.slice V ((xQ (r.take k)).rel.length) c, .slice U ((xQ (r.take k)).pre.length) d]) Tryz.results49 (fun w hO => ⟨_, ob, rfl, by rw [htk] at hac ⊢; exact hac, Own.sub [_, _] hO⟩)))))
theorem gSet_any (A : Option Addr) (cap : Nat) (xs : List Al) (W : World) (hv : RgIn W W.heap.size A xs) (ht : HasLib W) : Calls Tryz.prog 23 #[.agg #[.slice A xs.length cap]] W fun e w' => ∃ v' ob', e = .returned v' ∧ SetO v' (yT (yU xs)) ob' ∧ Own [] W w' ob' := by
  have hn := hv.n
  refine Z2 (n := 25) Tryz.func23 rfl (ZO (Zb (.agg #[.slice A xs.length cap]) (fun b1 => Za (.agg ZM) (fun b2 => ZN (z7 (ZO (Zl 1 ⟨b1, #[.slice A xs.length cap], 25⟩ (off := 0) (.agg #[.slice A xs.length cap]) (Zc (k := 19) (args := #[.agg #[.slice A xs.length cap]]) (.bool (rgMay (yU xs))) (fun w hO => gMay_any A cap xs w (hv.on hO.below hO.below.size) (ht.on hO.below)) ?_))))))))
  cases h1 : rgMay (yU xs) with
  | true =>
    have hfw : fewR (yU xs) = true := (rgMay.facts h1).1
    obtain ⟨hxs6, hxe⟩ := few_mem hfw
    refine Zv Z5 (ZX (ZB (ZO (Zv (.slice none 0 0) (ZN (z7 ?_))))))
    refine ZO (Zv (Zp b1 0) (Zl 1 ⟨b1, #[.slice A xs.length cap], 25⟩ (off := 0) (.slice A xs.length cap) (Zv (.int .i64 (xs.length : Int)) (Zv (.int .i64 0) (ZN (zL (qE (L' := ⟨b2, ZM, 31⟩ :: ⟨b1, #[.slice A xs.length cap], 25⟩ :: ([] ++ [])) rfl (yL (fun L f m => ∃ (i : Nat) (U : Option Addr) (nq : Nat) (cu : Nat) (ys : List Se) (oX : List Blk) (oY : List Blk) (j : Nat → Value), (nq = ys.length ∧ i ≤ xs.length ∧ SsO (.slice U nq cu) ys oX oY ∧ ys.map Se.s = (((yU xs).take i).map yF)) ∧ L = ⟨b2, ZM, 31⟩ :: ⟨b1, #[.slice A xs.length cap], 25⟩ :: (oX ++ oY) ∧ f = xF j [(1, Zp b1 0), (2, Zp b2 0), (3, .slice U nq cu), (11, .slice A xs.length cap), (12, .int .i64 (xs.length : Int)), (13, .int .i64 (i : Int))] ∧ m = xs.length - i) (xs.length - 0) ⟨0, none, 0, 0, [], [], [], _, ⟨rfl, Nat.zero_le _, SsO.nil, rfl⟩, rfl, ZU, rfl⟩ ?_))))))))
    rintro L f m ⟨i, U, nq, cu, ys, oX, oY, j, hrel, rfl, rfl, rfl⟩
    obtain ⟨hnq, hil, hss, hys⟩ := hrel; subst hnq
    refine z7 (zA ?_)
    by_cases h2 : (i : Int) < (xs.length : Int)
    · have hi : i < xs.length := by omega
      obtain ⟨bp, off, hA, hlt, hcell⟩ := hv.top (by omega)
      obtain ⟨x, hx⟩ : ∃ x, xs[i] = x := ⟨_, rfl⟩
      have hxm : x ∈ xs := hx ▸ List.getElem_mem hi
      have hxr : (yU xs)[i]'(by rw [xK]; exact hi) = x.l := jD hi hx
      refine Zg h2 (ZN (z7 (Zt (ZB (z7 (zL (ZO (zU (Zp bp (off + i * 1)) (by kernel_rfl) (ZA (b := bp) (off := off) (c := cap) (n := xs.length) (k := .i64) (j := (i : Int)) (e := 47) (sz := 1) hA) ?_))))))))
      refine Zo (.slice x.A x.l.length x.cap) (a := ⟨bp, off + i * 1, none⟩) (fun w hO => y6 gS (fun j u h => (hO.below.cell (p := ⟨bp, off + j, none⟩) hlt).trans (hcell j u h)) i 0 hi (by omega) _ (by rw [hx]; kernel_rfl)) (Zv (.slice x.A x.l.length x.cap) (ZN (zA (Zv (.slice U ys.length cu) (Zv (.slice x.A x.l.length x.cap) (Zr (k := 48) (args := #[.slice x.A x.l.length x.cap]) (fun v' L' => ∃ ob', L' = ob' ++ (⟨b2, ZM, 31⟩ :: (⟨b1, #[.slice A xs.length cap], 25⟩ :: (oX ++ (oY)))) ∧ SetO v' (yF x.l) ob') (fun w hO => (gevery_any x.A x.cap x.l w ((hv.each x hxm).on hO.below hO.below.size) (hv.m x hxm) (hv.short x hxm)).mono fun e w' ⟨v', ob', k1, k2, k3⟩ => ⟨v', _, k1, ⟨ob', rfl, k2⟩, Own.joinN hO k3⟩) (fun ve Lx1 hvx1 => ?_)))))))
      obtain ⟨oE, rfl, hE⟩ := hvx1
      obtain ⟨VE, UE, cE, dE, rfl⟩ := hE.form
      refine qC 31 #[.slice VE ((yF x.l).rel.length) cE, .slice UE ((yF x.l).pre.length) dE] (by kernel_rfl) rfl (fun _ => by kernel_rfl) (fun b3 => ?_)
      obtain ⟨i1, z1, e1, e2, e3, e4, e5⟩ := se_info
      have hyl : ys.length ≤ 6 := by have q := congrArg List.length hys; rw [List.length_map, List.length_map, List.length_take, xK] at q; omega
      refine xT (L' := (⟨b3, #[.slice VE ((yF x.l).rel.length) cE, .slice UE ((yF x.l).pre.length) dE], 31⟩ :: (oE ++ [⟨b2, ZM, 31⟩, ⟨b1, #[.slice A xs.length cap], 25⟩])) ++ oX ++ oY) (by simp <;> rfl) (kR (sz := 2) (by kernel_rfl) rfl Tryz.underlying66 e1 e2 e3 e4 (by kernel_rfl) hss.top (a := ⟨b3, 0, none⟩) (m := 1) (c := 1) (news := seC ⟨VE, UE, yF x.l, cE, dE⟩) (by kernel_rfl) rfl (fun w hO j u hj => ?_) (se_cells _) (by unfold maxLen; omega) (by rw [e5]; omega) (fun u2 oX2 hu0 => ?_))
      · rw [yW, cell_of_row w b3 (0 + j) (seC ⟨VE, UE, yF x.l, cE, dE⟩).toArray 31 _ (hO.held ⟨b3, (seC ⟨VE, UE, yF x.l, cE, dE⟩).toArray, 31⟩ (List.mem_append_left _ (List.mem_append_left _ (List.mem_cons_self ..))))]; simpa using hj
      have hss2 := hss.add hu0 hE
      obtain ⟨U2, cu2, rfl⟩ := Sl.form hu0
      exact Zv (.slice U2 (ys.length + 1) cu2) (zP (zQ (z8 (zA (Zu (k := .i64) (((i + 1 : Nat) : Int)) (IntWalk.i64_in _ (by omega)) (Zv (.int .i64 ((i + 1 : Nat) : Int)) (zP (xM (fun w hO => own_st1 hO) (zT (m' := xs.length - (i + 1)) (by omega) ⟨i + 1, U2, ys.length + 1, cu2, ys ++ [⟨VE, UE, yF x.l, cE, dE⟩], oX2, (oE ++ oY), _, ⟨by simp, by omega, hss2, by rw [List.take_succ_eq_append_getElem (by rw [xK]; exact hi), hxr, List.map_append, List.map_append, hys]; rfl⟩, rfl, ZU, rfl⟩)))))))))
    have htk : (yU xs).take i = yU xs := List.take_of_length_le (by rw [xK]; omega)
    rw [htk] at hys
    have hyf : ∀ y ∈ ys, SF y.s 198 := fun y hy => fin_alts hfw y.s (hys ▸ List.mem_map.2 ⟨y, hy, rfl⟩)
    refine Zh h2 (ZN (z7 (Zf (y5 (zD (zN (zH (z8 (z7 (zA ?_))))))))))
    refine Zv (.slice U ys.length cu) (Zr (k := 49) (args := #[.slice U ys.length cu]) (fun v' L' => ∃ ob', L' = ob' ++ (⟨b2, ZM, 31⟩ :: (⟨b1, #[.slice A xs.length cap], 25⟩ :: (oX ++ (oY)))) ∧ SetO v' (xQ (yU xs)) ob') (fun w hO => (gsome_any U cu ys (yU xs) w (SsO.inn hss rfl hO (fun x hx => by simp [hx]) (fun x hx => by simp [hx]) hyf) hys hfw).mono fun e w' ⟨v', ob', k1, k2, k3⟩ => ⟨v', _, k1, ⟨ob', rfl, k2⟩, Own.joinN hO k3⟩) (fun vs Lx2 hvx2 => ?_))
    obtain ⟨oS, rfl, hS⟩ := hvx2
    obtain ⟨VS, US, cS, dS, rfl⟩ := hS.form
    exact gJ (L' := ⟨b2, ZM, 31⟩ :: (oS)) (fun w hO => own_st2 hO) (Zs 0 ⟨b2, ZM, 31⟩ (off := 0) (.agg #[.slice VS ((xQ (yU xs)).rel.length) cS, .slice US ((xQ (yU xs)).pre.length) dS]) (ZN (zB (ZC 0 ⟨b2, #[.slice VS ((xQ (yU xs)).rel.length) cS, .slice US ((xQ (yU xs)).pre.length) dS], 31⟩ (off := 0) (.agg #[.slice VS ((xQ (yU xs)).rel.length) cS, .slice US ((xQ (yU xs)).pre.length) dS]) Tryz.results23 (fun w hO => ⟨_, oS, rfl, by unfold yT; rw [if_pos h1]; exact hS, Own.sub [_] hO⟩)))))
  | false =>
    refine Zv Z4 (ZY (ZO (Zc (k := 47) (args := #[]) (.agg ZM) (fun w _ => vJ w) (Zs 0 ⟨b2, ZM, 31⟩ (off := 0) (.agg ZM) (ZN (zB (z6 ?_)))))))
    exact ZC 0 ⟨b2, ZM, 31⟩ (off := 0) (.agg ZM) Tryz.results23 (fun w hO => ⟨_, [], rfl, by unfold yT; rw [if_neg (by simp [h1])]; exact SetO.none, kF hO⟩)
end
end Go.Proofs.YtkljdpiaghepfaaGreatDoor
