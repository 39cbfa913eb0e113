/-
  What the statement's proof leans on: the ways of walking, tI mathematics, and what the program's functions return; each theorem says on what conditions.
-/
import Derived.Test.YtkljdpiaghepfaaGreatDoorME6
set_option maxRecDepth 1000000
set_option maxHeartbeats 8000000
set_option linter.unusedVariables false
set_option linter.unusedSimpArgs false
namespace Go.Proofs.YtkljdpiaghepfaaGreatDoor
open Go.RowKit

section
theorem textR_few {xs : List Al} (h1 : xs.length ≤ 6) (h : ∀ x ∈ xs, fewA x.l = true) : wT (xA xs) = kG (xA xs) := by
  unfold wT
  cases hf : fewR (xA xs) with
  | true => rfl
  | false =>
    cases xs with
    | nil => rfl
    | cons x xs => rw [few_all ⟨by simp, h1⟩ h] at hf; cases hf
theorem textR_bad {xs : List Al} {x : Al} (hm : x ∈ xs) (h : fewA x.l = false) : wT (xA xs) = [] := textR_nil.2 (few_one hm h)
theorem textR_big {xs : List Al} (h : 6 < xs.length) : wT (xA xs) = [] := textR_nil.2 (few_len (by omega))
theorem own_tx1 {M : List Nat} {W w : World} {x y z : Blk} {A B : List Blk} (h : Own M W w ([x, y, z] ++ A ++ B)) : Own M W w (z :: (A ++ B)) := by
  rw [List.append_assoc] at h
  exact Own.sub [x, y] h
theorem own_tx2 {M : List Nat} {W w : World} {x z : Blk} {A B : List Blk} (h : Own M W w ([x, z] ++ A ++ B)) : Own M W w (z :: A) := by
  exact (Own.sub [x] (by simpa using h : Own M W w (x :: (z :: A ++ B)))).sublist (by simp)
theorem own_tx3 {M : List Nat} {W w : World} {x y : Blk} {A B : List Blk} (h : Own M W w (x :: y :: (A ++ B))) : Own M W w (x :: y :: (B ++ A)) :=
  h.perm (List.Perm.cons x (List.Perm.cons y List.perm_append_comm))
theorem alts_le {l : List (List Co)} {i : Nat} (h : ∀ a ∈ l.take i, fewA a = true) : ∀ t ∈ (l.take i).map xH, t.length ≤ 1000000 := fun t ht => by
  obtain ⟨a, ha, rfl⟩ := List.mem_map.1 ht
  obtain ⟨h1, h2⟩ := fewA.facts (h a ha)
  unfold xH
  rw [joinB_len, List.length_map]
  have : ∀ (l : List Co), (∀ c ∈ l, c.may = true) → sumN ((l.map Co.print).map (·.length)) ≤ l.length * 300 := by
    intro l hl
    induction l with
    | nil => simp [sumN]
    | cons c l ih =>
      have h3 := m8 (hl c (List.mem_cons_self ..))
      have h4 := ih fun d hd => hl d (List.mem_cons_of_mem _ hd)
      rw [List.map_cons, List.map_cons, sumN, List.length_cons]; omega
  have := this a h2
  have h5 : (a.length - 1) * ([44, 32] : List UInt8).length ≤ 5 * 2 := Nat.mul_le_mul (by omega) (by simp)
  omega
theorem gtext_any (A : Option Addr) (cap : Nat) (xs : List Al) (W : World) (hv : RgIn W W.heap.size A xs) (ht : HasLib W) : Calls Tryz.prog 39 #[.agg #[.slice A xs.length cap]] W fun e w' => e = .returned (.string (mkS (wT (xA xs)))) ∧ Below W.heap.size W w' := by
  have hn := hv.n
  refine zQ (n := 51) Tryz.func39 rfl (by kernel_rfl) (by kernel_rfl) (ZO (Zb (.agg #[.slice A xs.length cap]) (fun b1 => Zv (.string ⟨#[]⟩) (ZN (z6 (ZO (Zv (.pointer (some ⟨b1, 0, none⟩)) (Zl 0 ⟨b1, #[.slice A xs.length cap], 25⟩ (off := 0) (.slice A xs.length cap) ?_))))))))
  refine Zv (.int .i64 (xs.length : Int)) ?_
  by_cases h1 : (6 : Int) < (xs.length : Int)
  · refine zW (p := (6 : Int) < (xs.length : Int)) true (by kernel_rfl) (fun _ => by kernel_rfl) (decide_eq_true (h1)) ?_
    exact ZY (ZO (Zv (.string ⟨#[]⟩) (ZN (zC (z8 (ZF (.string ⟨#[]⟩) Tryz.results39 (fun w hO => ⟨by rw [textR_big (by omega)]; rfl, hO.below⟩)))))))
  refine Zd (p := (6 : Int) < (xs.length : Int)) false (decide_eq_false (h1)) (ZX (ZB (ZO (Zv (.slice none 0 0) (ZN (z6 ?_))))))
  refine ZO (Zv (.pointer (some ⟨b1, 0, none⟩)) (Zl 0 ⟨b1, #[.slice A xs.length cap], 25⟩ (off := 0) (.slice A xs.length cap) (Zv (.int .i64 (xs.length : Int)) (Zv (.int .i64 0) (ZN (zK (gN (L' := ⟨b1, #[.slice A xs.length cap], 25⟩ :: []) rfl (yP (fun L f m => ∃ (i : Nat) (U : Option Addr) (n : Nat) (cu : Nat) (ob : List Blk) (j : Nat → Value), (i ≤ xs.length ∧ (∀ x ∈ xs.take i, fewA x.l = true) ∧ SlT (.slice U n cu) (((xA xs).take i).map xH) ob) ∧ L = ⟨b1, #[.slice A xs.length cap], 25⟩ :: ob ∧ f = kA j [(1, .pointer (some ⟨b1, 0, none⟩)), (3, .slice U n cu), (14, .slice A xs.length cap), (15, .int .i64 (xs.length : Int)), (16, .int .i64 (i : Int))] ∧ m = xs.length - i) (xs.length - 0) ⟨0, none, 0, 0, [], _, ⟨Nat.zero_le _, by simp, Sl.nil _ _⟩, rfl, ZU, rfl⟩ ?_))))))))
  rintro L f m ⟨i, U, n, cu, ob, j, hrel, rfl, rfl, rfl⟩
  obtain ⟨hil, hff, hT⟩ := hrel
  refine z6 (z7 ?_)
  by_cases h2 : (i : Int) < (xs.length : Int)
  · have hi : i < xs.length := by omega
    obtain ⟨bp, off, hA, hlt, hcell⟩ := hv.top (by omega)
    obtain ⟨x, hx⟩ : ∃ x, xs[i] = x := ⟨_, rfl⟩
    have hxm : x ∈ xs := hx ▸ List.getElem_mem hi
    have hxn := hv.m x hxm
    have hxr : (xA xs)[i]'(by rw [kB]; exact hi) = x.l := fR hi hx
    refine Zd (p := (i : Int) < (xs.length : Int)) true (decide_eq_true (h2)) (ZN (z6 (Zt (ZB (z6 (zK (ZO (zX (.pointer (some ⟨bp, off + i * 1, none⟩)) (by kernel_rfl) (ZA (b := bp) (off := off) (c := cap) (n := xs.length) (k := .i64) (j := (i : Int)) (e := 47) (sz := 1) hA) ?_))))))))
    refine Zo (.slice x.A x.l.length x.cap) (a := ⟨bp, off + i * 1, none⟩) (fun w hO => yD vC (fun j u h => (hO.below.cell (p := ⟨bp, off + j, none⟩) hlt).trans (hcell j u h)) i 0 hi (by omega) _ (by rw [hx]; kernel_rfl)) (Zv (.slice x.A x.l.length x.cap) (ZN (z6 (ZO (Zv (.slice x.A x.l.length x.cap) (Zv (.int .i64 (x.l.length : Int)) ?_))))))
    by_cases h3 : (x.l.length : Int) = 0
    · refine zW (p := (x.l.length : Int) = 0) true (by kernel_rfl) (fun _ => by kernel_rfl) (decide_eq_true (h3)) ?_
      refine Zv (.bool true) (Zk (Zk (Zk (Zv (.bool true) (ZY (ZO (Zv (.string ⟨#[]⟩) (zP ?_))))))))
      exact zB (zC (z8 (zF (z8 (yC (zF (z8 (ZF (.string ⟨#[]⟩) Tryz.results39 (fun w hO => ⟨by rw [textR_bad hxm (tR (by omega))]; rfl, hO.below⟩)))))))))
    refine Zd (p := (x.l.length : Int) = 0) false (decide_eq_false (h3)) (Zv (.bool false) (Zv (.slice x.A x.l.length x.cap) (Zv (.int .i64 (x.l.length : Int)) ?_)))
    by_cases h4 : (6 : Int) < (x.l.length : Int)
    · refine zW (p := (6 : Int) < (x.l.length : Int)) true (by kernel_rfl) (fun _ => by kernel_rfl) (decide_eq_true (h4)) ?_
      refine Zv (.bool true) (ZY (ZO (Zv (.string ⟨#[]⟩) (ZN (zC (z8 (zF ?_)))))))
      exact z8 (yC (zF (z8 (ZF (.string ⟨#[]⟩) Tryz.results39 (fun w hO => ⟨by rw [textR_bad hxm (tR (by omega))]; rfl, hO.below⟩)))))
    refine Zd (p := (6 : Int) < (x.l.length : Int)) false (decide_eq_false (h4)) (Zv (.bool false) (ZX (ZB (ZO (Zv (.slice none 0 0) (zP (zB ?_)))))))
    refine z6 (ZO (Zv (.slice x.A x.l.length x.cap) (Zv (.int .i64 (x.l.length : Int)) (Zv (.int .i64 0) (ZN (zK (gN (L' := ⟨b1, #[.slice A xs.length cap], 25⟩ :: ([] ++ ob)) rfl (yP (fun L f m => ∃ (k : Nat) (V : Option Addr) (np : Nat) (cv : Nat) (oa : List Blk) (j : Nat → Value), (k ≤ x.l.length ∧ (∀ c ∈ x.l.take k, c.may = true) ∧ SlT (.slice V np cv) ((x.l.take k).map Co.print) oa) ∧ L = ⟨b1, #[.slice A xs.length cap], 25⟩ :: (oa ++ ob) ∧ f = kA j [(1, .pointer (some ⟨b1, 0, none⟩)), (3, .slice U n cu), (14, .slice A xs.length cap), (15, .int .i64 (xs.length : Int)), (16, .int .i64 (i : Int)), (6, .slice V np cv), (28, .slice x.A x.l.length x.cap), (29, .int .i64 (x.l.length : Int)), (30, .int .i64 (k : Int))] ∧ m = x.l.length - k) (x.l.length - 0) ⟨0, none, 0, 0, [], _, ⟨Nat.zero_le _, by simp, Sl.nil _ _⟩, rfl, ZU, rfl⟩ ?_))))))))
    rintro L f m ⟨k, V, np, cv, oa, j, hrel, rfl, rfl, rfl⟩
    obtain ⟨hkl, hcf, hP⟩ := hrel
    refine z6 (z7 ?_)
    by_cases h5 : (k : Int) < (x.l.length : Int)
    · have hk : k < x.l.length := by omega
      obtain ⟨bq, off2, hA2, hlt2, hcell2⟩ := hv.each x hxm (by omega)
      obtain ⟨c, hc⟩ : ∃ c, x.l[k] = c := ⟨_, rfl⟩
      have hcm : c ∈ x.l := hc ▸ List.getElem_mem hk
      have hcS : c.short := hv.short x hxm c hcm
      refine Zd (p := (k : Int) < (x.l.length : Int)) true (decide_eq_true (h5)) (ZN (z6 (Zt (ZB (z6 (zK (ZO (zX (.pointer (some ⟨bq, off2 + k * 7, none⟩)) (by kernel_rfl) (ZA (b := bq) (off := off2) (c := x.cap) (n := x.l.length) (k := .i64) (j := (k : Int)) (e := 51) (sz := 7) hA2) ?_))))))))
      refine Zo (coV c) (a := ⟨bq, off2 + k * 7, none⟩) (fun w hO => yD uY (fun j u h => (hO.below.cell (p := ⟨bq, off2 + j, none⟩) hlt2).trans (hcell2 j u h)) k 0 hk (by omega) _ (by rw [hc]; kernel_rfl)) (Za (.agg #[.int .i64 0, .int .i64 0, .int .i64 0, .int .i64 0, .int .i64 0, .string ⟨#[]⟩, .string ⟨#[]⟩]) (fun b2 => Zs 0 ⟨b2, #[.int .i64 0, .int .i64 0, .int .i64 0, .int .i64 0, .int .i64 0, .string ⟨#[]⟩, .string ⟨#[]⟩], 51⟩ (off := 0) (coV c) (ZN (z6 (ZO (Zl 0 ⟨b2, (coV c).cells, 51⟩ (off := 0) (coV c) (Zc (k := 73) (args := #[coV c]) (.bool c.may) (fun w _ => tV c w hcS) ?_)))))))
      cases h6 : c.may with
      | true =>
        refine Zv (.bool false) (ZX (ZB (z7 (Zv (.slice V np cv) (Zl 0 ⟨b2, (coV c).cells, 51⟩ (off := 0) (coV c) (Zc (k := 64) (args := #[coV c]) (.string (mkS c.print)) (fun w hO => pP c w hcS (ht.tab.on hO.below)) (v6 9 #[.string (mkS c.print)] (by kernel_rfl) rfl (fun _ => by kernel_rfl) (fun b3 => ?_))))))))
        have hpl0 : ((x.l.take k).map Co.print).length ≤ 6 := by rw [List.length_map, List.length_take]; omega
        obtain ⟨i1, z1, e11, e12, e13, e14, e15⟩ := fI
        refine kK (L' := [⟨b3, #[.string (mkS c.print)], 9⟩, ⟨b2, (coV c).cells, 51⟩, ⟨b1, #[.slice A xs.length cap], 25⟩] ++ oa ++ (ob)) (by simp <;> rfl) (gJ (sz := 1) (by kernel_rfl) rfl Tryz.underlying58 e11 e12 e13 e14 (by kernel_rfl) hP (a := ⟨b3, 0, none⟩) (m := 1) (c := 1) (news := t7 c.print) (by kernel_rfl) rfl (fun w hO j u hj => ?_) (fun u hu => by rw [List.mem_singleton.1 hu]; rfl) (by unfold maxLen; omega) (by rw [e15]; omega) (fun w1 oa2 hu1 => ?_))
        · rw [yQ, cell_of_row w b3 (0 + j) (t7 c.print).toArray 9 _ (hO.held ⟨b3, (t7 c.print).toArray, 9⟩ (List.mem_append_left _ (List.mem_append_left _ (List.mem_cons_self ..))))]; simpa using hj
        have hP2 : SlT w1 (((x.l.take k).map Co.print) ++ [c.print]) oa2 := SlT.add hu1
        obtain ⟨V2, cv2, rfl⟩ := hP2.form
        exact Zv (.slice V2 ((((x.l.take k).map Co.print) ++ [c.print]).length) cv2) (zP (zS (zB (z7 (Zu (k := .i64) (((k + 1 : Nat) : Int)) (IntWalk.i64_in _ (by omega)) (Zv (.int .i64 ((k + 1 : Nat) : Int)) (zP (xG (fun w hO => own_tx1 hO) (zU (m' := x.l.length - (k + 1)) (by omega) ⟨k + 1, V2, (((x.l.take k).map Co.print) ++ [c.print]).length, cv2, oa2, _, ⟨by omega, jH hcf hk hc (by assumption), by rw [List.take_succ_eq_append_getElem hk, hc, List.map_append]; exact hP2⟩, rfl, ZU, rfl⟩)))))))))
      | false =>
        refine Zv (.bool true) (ZY (ZO (Zv (.string ⟨#[]⟩) (ZN (zC (z8 (zF ?_)))))))
        exact z8 (yC (zF (z8 (zF (z8 (yC (zF (z8 (ZF (.string ⟨#[]⟩) Tryz.results39 (fun w hO => ⟨by rw [textR_bad hxm (fewA_one hcm (by assumption))]; rfl, hO.below⟩))))))))))
    have hal2 : ∀ c ∈ x.l, c.may = true := by have q := hcf; rwa [List.take_of_length_le (by omega)] at q
    have hfx : fewA x.l = true := fewA_all ⟨by omega, by omega⟩ hal2
    have htk2 : x.l.take k = x.l := List.take_of_length_le (by omega)
    have hpl := hP.caps
    rw [htk2] at hP hpl
    have htl := hT.caps
    refine Zd (p := (k : Int) < (x.l.length : Int)) false (decide_eq_false (h5)) (ZN (z6 (Zf (y8 (zD (zN (zI (zB (z7 (Zv (.slice U n cu) ?_))))))))))
    refine Zv (.slice V np cv) (Zc (k := 74) (args := #[.slice V np cv, .string ⟨#[44, 32]⟩]) (.string (mkS (xH x.l))) (fun w hO => by rw [hpl.1]; exact sjoin_any [44, 32] (x.l.map Co.print) V cv w (SlT.reads hP hpl.1.symm hO (fun x hx => by simp [hx])) (by decide) (by decide) (by rw [List.length_map]; omega) (fun t ht => by obtain ⟨c, hc, rfl⟩ := List.mem_map.1 ht; exact Nat.le_trans (m8 (hal2 c hc)) (by decide)) hpl.2) (v6 9 #[.string (mkS (xH x.l))] (by kernel_rfl) rfl (fun _ => by kernel_rfl) (fun b2 => ?_)))
    have hal0 : (((xA xs).take i).map xH).length ≤ 6 := by rw [List.length_map, List.length_take, kB]; omega
    refine vY (L' := ⟨b2, #[.string (mkS (xH x.l))], 9⟩ :: ⟨b1, #[.slice A xs.length cap], 25⟩ :: (ob ++ oa)) (fun w hO => own_tx3 hO) ?_
    obtain ⟨i2, z2, e21, e22, e23, e24, e25⟩ := fI
    refine kK (L' := [⟨b2, #[.string (mkS (xH x.l))], 9⟩, ⟨b1, #[.slice A xs.length cap], 25⟩] ++ ob ++ (oa)) (by simp <;> rfl) (gJ (sz := 1) (by kernel_rfl) rfl Tryz.underlying58 e21 e22 e23 e24 (by kernel_rfl) hT (a := ⟨b2, 0, none⟩) (m := 1) (c := 1) (news := t7 (xH x.l)) (by kernel_rfl) rfl (fun w hO j u hj => ?_) (fun u hu => by rw [List.mem_singleton.1 hu]; rfl) (by unfold maxLen; omega) (by rw [e25]; omega) (fun w2 ob2 hu2 => ?_))
    · rw [yQ, cell_of_row w b2 (0 + j) (t7 (xH x.l)).toArray 9 _ (hO.held ⟨b2, (t7 (xH x.l)).toArray, 9⟩ (List.mem_append_left _ (List.mem_append_left _ (List.mem_cons_self ..))))]; simpa using hj
    have hT2 : SlT w2 ((((xA xs).take i).map xH) ++ [xH x.l]) ob2 := SlT.add hu2
    obtain ⟨U2, cu2, rfl⟩ := hT2.form
    exact Zv (.slice U2 (((((xA xs).take i).map xH) ++ [xH x.l]).length) cu2) (zP (zS (zB (z7 (Zu (k := .i64) (((i + 1 : Nat) : Int)) (IntWalk.i64_in _ (by omega)) (Zv (.int .i64 ((i + 1 : Nat) : Int)) (zP (xG (fun w hO => own_tx2 hO) (zU (m' := xs.length - (i + 1)) (by omega) ⟨i + 1, U2, ((((xA xs).take i).map xH) ++ [xH x.l]).length, cu2, ob2, _, ⟨by omega, jH hff hi hx hfx, by rw [List.take_succ_eq_append_getElem (by rw [kB]; exact hi), hxr, List.map_append]; exact hT2⟩, rfl, ZU, rfl⟩)))))))))
  have hall : ∀ x ∈ xs, fewA x.l = true := by have q := hff; rwa [List.take_of_length_le (by omega)] at q
  have htk : (xA xs).take i = xA xs := List.take_of_length_le (by rw [kB]; omega)
  have htl := hT.caps
  rw [htk] at hT htl
  refine Zd (p := (i : Int) < (xs.length : Int)) false (decide_eq_false (h2)) (ZN (z6 (Zf (y8 (zD (zN (zI (zB (z6 (z7 ?_))))))))))
  exact Zv (.slice U n cu) (Zc (k := 74) (args := #[.slice U n cu, .string ⟨#[32, 124, 124, 32]⟩]) (.string (mkS (kG (xA xs)))) (fun w hO => by rw [htl.1]; exact sjoin_any [32, 124, 124, 32] ((xA xs).map xH) U cu w (SlT.reads hT htl.1.symm hO (fun x hx => by simp [hx])) (by decide) (by decide) (by rw [List.length_map, kB]; omega) (by have q := alts_le (l := xA xs) (i := xs.length) (fun a ha => by obtain ⟨x, hx, rfl⟩ := List.mem_map.1 (List.mem_of_mem_take ha); exact hall x hx); rwa [List.take_of_length_le (by rw [kB]; exact Nat.le_refl _)] at q) htl.2) (Zv (.string (mkS (kG (xA xs)))) (ZN (zC (ZF (.string (mkS (kG (xA xs)))) Tryz.results39 (fun w hO => ⟨by rw [textR_few (by omega) hall], hO.below⟩))))))
theorem gPrint_any (A : Option Addr) (cap : Nat) (xs : List Al) (W : World) (hv : RgIn W W.heap.size A xs) (ht : HasLib W) : Calls Tryz.prog 21 #[.agg #[.slice A xs.length cap]] W fun e w' => e = .returned (.string (mkS (dP (xA xs)))) ∧ Below W.heap.size W w' := by
  obtain ⟨t, et⟩ : ∃ t, wT (xA xs) = t := ⟨_, rfl⟩
  have hsz := xR t
  refine zQ (n := 10) Tryz.func21 rfl (by kernel_rfl) (by kernel_rfl) (ZO (Zb (.agg #[.slice A xs.length cap]) (fun b1 => Zv (.string ⟨#[]⟩) (ZR (Zl 0 ⟨b1, #[.slice A xs.length cap], 25⟩ (off := 0) (.agg #[.slice A xs.length cap]) (Zc (k := 39) (args := #[.agg #[.slice A xs.length cap]]) (.string (mkS t)) (fun w hO => wZ (by rw [et]) (gtext_any A cap xs w (hv.on hO.below hO.below.size) (ht.on hO.below))) (Zv (.string (mkS t)) ?_)))))))
  refine ZN (z6 (ZO (Zv (.string (mkS t)) (Zv (.int .i64 ((mkS t).size)) ?_))))
  by_cases h1 : (96 : Int) < (mkS t).size
  · refine zW (p := (96 : Int) < (mkS t).size) true (by kernel_rfl) (fun _ => by kernel_rfl) (decide_eq_true (h1)) ?_
    exact ZY (ZO (Zv (.string ⟨#[]⟩) (ZN (zC (z8 (ZF (.string ⟨#[]⟩) Tryz.results21 (fun w hO => ⟨by rw [print_text, et, if_pos (by omega)]; rfl, hO.below⟩)))))))
  refine Zd (p := (96 : Int) < (mkS t).size) false (decide_eq_false (h1)) (ZX (ZB (ZO (Zv (.string (mkS t)) (Zv (.string (mkS t)) (zP (zB ?_)))))))
  exact zC (ZF (.string (mkS t)) Tryz.results21 (fun w hO => ⟨by rw [print_text, et, if_neg (by omega)], hO.below⟩))
theorem gMay_any (A : Option Addr) (cap : Nat) (xs : List Al) (W : World) (hv : RgIn W W.heap.size A xs) (ht : HasLib W) : Calls Tryz.prog 19 #[.agg #[.slice A xs.length cap]] W fun e w' => e = .returned (.bool (rgMay (xA xs))) ∧ Below W.heap.size W w' := by
  obtain ⟨t, et⟩ : ∃ t, dP (xA xs) = t := ⟨_, rfl⟩
  refine zQ (n := 6) Tryz.func19 rfl (by kernel_rfl) (by kernel_rfl) (ZO (Zb (.agg #[.slice A xs.length cap]) (fun b1 => Zv (.bool false) (ZR (Zl 0 ⟨b1, #[.slice A xs.length cap], 25⟩ (off := 0) (.agg #[.slice A xs.length cap]) (Zc (k := 21) (args := #[.agg #[.slice A xs.length cap]]) (.string (mkS t)) (fun w hO => wZ (by rw [et]) (gPrint_any A cap xs w (hv.on hO.below hO.below.size) (ht.on hO.below))) ?_))))))
  by_cases h1 : (t : List UInt8) = []
  · refine zX (.bool false) (by kernel_rfl) (x2 (a := t) (b := ([])) rfl (by kernel_rfl) (by kernel_rfl) (decide_eq_true (h1))) ?_
    exact Zv (.bool false) (ZN (zC (ZF (.bool false) Tryz.results19 (fun w hO => ⟨by rw [(print_nil (xA xs)).1 (et.trans (by assumption))], hO.below⟩))))
  exact zX (.bool true) (by kernel_rfl) (x2 (a := t) (b := ([])) rfl (by kernel_rfl) (by kernel_rfl) (decide_eq_false (h1))) (Zv (.bool true) (ZN (zC (ZF (.bool true) Tryz.results19 (fun w hO => ⟨by rw [show rgMay (xA xs) = true from by cases hm : rgMay (xA xs) with | true => rfl | false => exact absurd (et.symm.trans ((print_nil (xA xs)).2 hm)) (by assumption)], hO.below⟩)))))
end
section
structure Se where
  A : Option Addr
  B : Option Addr
  s : St
  c : Nat
  d : Nat
def seC (x : Se) : List Value := [.slice x.A x.s.rel.length x.c, .slice x.B x.s.pre.length x.d]
def seV (x : Se) : Value := .agg #[.slice x.A x.s.rel.length x.c, .slice x.B x.s.pre.length x.d]
theorem seC_len (x : Se) : (seC x).length = 2 := rfl
theorem se_cells (x : Se) : ∀ u ∈ seC x, u.oneCell' = true := by
  intro u hu
  unfold seC at hu
  simp only [List.mem_cons, List.not_mem_nil, or_false] at hu
  rcases hu with rfl | rfl <;> rfl
theorem seInfo : (Tryz.prog.info? 31).map (fun i => (i.zero.map (·.cells.size), i.size, i.bytes)) = some (some 2, 2, 48) := by kernel_rfl
theorem se_info : ∃ i z, Tryz.prog.info? 31 = some i ∧ i.zero = some z ∧ i.size = 2 ∧ z.cells.size = 2 ∧ i.bytes = 48 := by
  have h := seInfo
  cases hi : Tryz.prog.info? 31 with
  | none => rw [hi] at h; cases h
  | some i =>
    rw [hi] at h
    simp only [Option.map_some, Option.some.injEq, Prod.mk.injEq] at h
    cases hz : i.zero with
    | none => rw [hz] at h; simp at h
    | some z => rw [hz] at h; simp at h; exact ⟨i, z, rfl, hz, h.2.1, h.1, h.2.2⟩
structure SsIn (w : World) (B : Nat) (A : Option Addr) (xs : List Se) : Prop where
  top : Reads seC w B A xs
  each : ∀ x ∈ xs, SetIn w B x.A x.B x.s
  caps : ∀ x ∈ xs, x.s.rel.length ≤ x.c ∧ x.s.pre.length ≤ x.d
structure SsO (u : Value) (xs : List Se) (o1 o2 : List Blk) : Prop where
  top : Sl 31 2 u xs.length (xs.flatMap seC) o1
  each : ∀ x ∈ xs, ∃ o, (∀ b ∈ o, b ∈ o2) ∧ SetO (.agg #[.slice x.A x.s.rel.length x.c, .slice x.B x.s.pre.length x.d]) x.s o
theorem SsO.nil : SsO (.slice none 0 0) [] [] [] := ⟨Sl.nil _ _, fun x hx => by simp at hx⟩
theorem SsO.add {u u2 : Value} {xs : List Se} {o1 o2 o3 oa : List Blk} {A B : Option Addr} {c d : Nat} {s : St} (h : SsO u xs o1 o2) (h2 : Sl 31 2 u2 (xs.length + 1) (xs.flatMap seC ++ seC ⟨A, B, s, c, d⟩) o3) (ha : SetO (.agg #[.slice A s.rel.length c, .slice B s.pre.length d]) s oa) : SsO u2 (xs ++ [⟨A, B, s, c, d⟩]) o3 (oa ++ o2) :=
  ⟨h2.to (by simp) (by simp), fun x hx => by
    rcases List.mem_append.1 hx with hx | hx
    · obtain ⟨o, k1, k2⟩ := h.each x hx
      exact ⟨o, fun b hb => List.mem_append_right _ (k1 b hb), k2⟩
    · obtain rfl := List.mem_singleton.1 hx
      exact ⟨oa, fun b hb => List.mem_append_left _ hb, ha⟩⟩
theorem SsO.inn {A : Option Addr} {n cap : Nat} {xs : List Se} {o1 o2 L : List Blk} {M : List Nat} {W w : World} (h : SsO (.slice A n cap) xs o1 o2) (hn : xs.length = n) (hO : Own M W w L) (h1 : ∀ x ∈ o1, x ∈ L) (h2 : ∀ x ∈ o2, x ∈ L) (hf : ∀ x ∈ xs, SF x.s 198) : SsIn w w.heap.size A xs := by
  subst hn
  refine ⟨Sl.reads h.top rfl hO h1, fun x hx => ?_, fun x hx => ?_⟩
  · obtain ⟨o, k1, k2⟩ := h.each x hx
    exact SetO.inn k2 hO (fun b hb => h2 b (k1 b hb)) (hf x hx) (by decide)
  · obtain ⟨o, k1, k2⟩ := h.each x hx
    exact k2.caps
theorem se_at {xs : List Se} {r : List (List Co)} (hr : xs.map Se.s = r.map xD) {k : Nat} (hk : k < xs.length) (hk2 : k < r.length) {x : Se} (hx : xs[k] = x) : xD r[k] = x.s := by
  have q1 := List.getElem_of_eq hr (i := k) (by rw [List.length_map]; exact hk)
  rw [List.getElem_map, List.getElem_map, hx] at q1
  exact q1.symm
theorem fin_alts {r : List (List Co)} (h : fewR r = true) : ∀ s ∈ r.map xD, SF s 198 := fun s hs => by
  obtain ⟨a, ha, rfl⟩ := List.mem_map.1 hs
  exact (mZ a).le (by have := (fewA.facts ((fewR.facts h).2 a ha)).1; omega)
end
section
theorem sub0 {P : Program} {ρ : Operand → Value} {o : Oper} (k : Nat) (hr : ∀ w, (execOp ρ o).run P w = .ok (.value (.int .i64 (IntKind.i64.wrap ((k : Int) - 0)))) w) (hk : (k : Int) ≤ 9223372036854775807) (w : World) : (execOp ρ o).run P w = .ok (.value (.int .i64 (k : Int))) w := by
  rw [hr w, Int.sub_zero, IntWalk.i64_in _ (by omega)]
theorem grow4_any (k : Nat) (W : World) (hk : k ≤ 600000) :
    Calls Tryz.prog 180 #[.slice none 0 0, .int .i64 (k : Int)] W fun e w' => ∃ v' ob', e = .returned v' ∧ SlS v' [] ob' ∧ Own [] W w' ob' := by
  refine zQ (n := 27) Tryz.func180 rfl (by kernel_rfl) (by kernel_rfl) (ZO (Zv (.slice none 0 0) (ZN (z6 (ZO (Zv (.int .i64 (k : Int)) (Zd (p := (k : Int) < 0) false (decide_eq_false (by omega)) (zP ?_))))))))
  refine zB (Zf (ZB (z6 (ZO (Zv (.int .i64 (k : Int)) (Zv (.slice none 0 0) (Zv (.int .i64 (0 : Int)) (Zv (.slice none 0 0) (Zv (.int .i64 (0 : Int)) ?_)))))))))
  refine Zv (.int .i64 0) (zX (.int .i64 (k : Int)) (by kernel_rfl) (fun w => sub0 k (fun _ => by kernel_rfl) (by omega) w) (Zv (.int .i64 (k : Int)) (ZR (Zv (.int .i64 (k : Int)) ?_))))
  by_cases h1 : (0 : Int) < (k : Int)
  · refine zW (p := (0 : Int) < (k : Int)) true (by kernel_rfl) (fun _ => by kernel_rfl) (decide_eq_true (h1)) ?_
    refine ZY (z7 (Zv (.slice none 0 0) (Zv (.slice none 0 0) (Zv (.int .i64 (0 : Int)) (Zv (.slice none 0 0) (Zv (.int .i64 (k : Int)) ?_))))))
    obtain ⟨i, z, e1, e2, e3, e4, e5⟩ := qS
    refine s_append0 (sz := 14) (k := k) (by kernel_rfl) rfl (by kernel_rfl) (by kernel_rfl) Tryz.underlying29 Tryz.underlying3 e1 e2 e3 e4 (by omega) (by decide) (by unfold maxLen; omega) (by rw [e5]; omega) (fun b cs cap hcs hkc hcm => Zv (.slice none 0 0) (Zv (.int .i64 (0 : Int)) (zX (.slice (some ⟨b, 0, none⟩) 0 cap) (by kernel_rfl) (fM (b := b) (off := 0) (n := k) (c := cap) (k := .i64) (j := 0) (e := 80) (sz := 14) rfl (by kernel_rfl) (by kernel_rfl) (by kernel_rfl) (by kernel_rfl) (by omega) (by omega)) (Zv (.slice (some ⟨b, 0, none⟩) 0 cap) (ZR (Zv (.slice (some ⟨b, 0, none⟩) 0 cap) (Zv (.slice (some ⟨b, 0, none⟩) 0 cap) (zP ?_))))))))
    exact zB (zC (ZF (.slice (some ⟨b, 0, none⟩) 0 cap) Tryz.results180 (fun w hO => ⟨_, [⟨b, cs, 80⟩], rfl, ⟨rfl, .inr ⟨b, cap, cs, rfl, rfl, Nat.zero_le _, hcm, hcs, by simp⟩⟩, hO⟩)))
  refine Zd (p := (0 : Int) < (k : Int)) false (decide_eq_false (h1)) (ZX (ZB (ZO (Zv (.slice none 0 0) (Zv (.slice none 0 0) (zP (zB ?_)))))))
  exact zC (ZF (.slice none 0 0) Tryz.results180 (fun w hO => ⟨_, [], rfl, Sl.nil _ _, by simpa using hO⟩))
end
section
theorem tJ {P : Program} {ty : TypeId} {w : World} {b o : Nat} {v : Value} (hc : w.cell? ⟨b, o, none⟩ = some v) (hr : kQ P ty [v].toArray 0 = some v) : (loadVar ty ⟨b, o, none⟩).run P w = .ok v w :=
  old_load [v] v (fun j u h => by
    cases j with
    | zero => simp only [List.getElem?_cons_zero, Option.some.injEq] at h; rw [← h]; exact hc
    | succ j => simp at h) hr
theorem concat4_any (A B : Option Addr) (cap capb : Nat) (a b : List Sp) (W : World) (hv : Reads x4 W W.heap.size A a) (hu : Reads x4 W W.heap.size B b) (hn : a.length ≤ 100000) (hm : b.length ≤ 100000) (g : Nat) (hg : W.heap[g]? = some (.cells #[.slice A a.length cap, .slice B b.length capb] 29)) :
    Calls Tryz.prog 137 #[.slice (some ⟨g, 0, none⟩) 2 2] W fun e w' => ∃ v' ob', e = .returned v' ∧ SlS v' (a ++ b) ob' ∧ Own [] W w' ob' := by
  have hglt : g < W.heap.size := (Array.getElem?_eq_some_iff.1 hg).1
  have hcell : ∀ j u, (#[.slice A a.length cap, .slice B b.length capb] : Array Value).toList[j]? = some u → W.cell? ⟨g, 0 + j, none⟩ = some u := fun j u h => by rw [cell_of_row W g (0 + j) _ _ _ hg]; simpa using h
  refine zQ (n := 36) Tryz.func137 rfl (by kernel_rfl) (by kernel_rfl) (ZO (Zv (.slice none 0 0) (ZR (Zv (.int .i64 0) (ZN (z6 ?_))))))
  refine ZO (Zv (.slice (some ⟨g, 0, none⟩) 2 2) (Zv (.int .i64 (2 : Int)) (Zv (.int .i64 0) (ZN (zK (yP (fun L f m => (∃  (j : Nat → Value), (True) ∧ L = [] ∧ f = kA j [(0, .slice (some ⟨g, 0, none⟩) 2 2), (3, .int .i64 0), (9, .slice (some ⟨g, 0, none⟩) 2 2), (10, .int .i64 2), (11, .int .i64 0)] ∧ m = 3) ∨ (∃  (j : Nat → Value), (True) ∧ L = [] ∧ f = kA j [(0, .slice (some ⟨g, 0, none⟩) 2 2), (3, .int .i64 ((0 + a.length : Nat) : Int)), (9, .slice (some ⟨g, 0, none⟩) 2 2), (10, .int .i64 2), (11, .int .i64 1)] ∧ m = 2) ∨ (∃  (j : Nat → Value), (True) ∧ L = [] ∧ f = kA j [(0, .slice (some ⟨g, 0, none⟩) 2 2), (3, .int .i64 ((0 + a.length + b.length : Nat) : Int)), (9, .slice (some ⟨g, 0, none⟩) 2 2), (10, .int .i64 2), (11, .int .i64 2)] ∧ m = 1)) 3 (.inl ⟨_, trivial, rfl, ZU, rfl⟩) ?_))))))
  rintro L f m (⟨j, hrel, rfl, rfl, rfl⟩ | ⟨j, hrel, rfl, rfl, rfl⟩ | ⟨j, hrel, rfl, rfl, rfl⟩)
  · refine z6 ?_
    refine z7 (Zv (.bool true) (ZN (z6 (Zt (ZB (z6 (zK (z6 (z7 ?_)))))))))
    refine zX (.pointer (some ⟨g, 0, none⟩)) (by kernel_rfl) (ZV (b := g) (off := 0) (n := 2) (c := 2) (k := .i64) (j := 0) (e := 29) (sz := 1)) (Zo (.slice A a.length cap) (a := ⟨g, 0, none⟩) (fun w hO => tJ ((hO.below.cell (p := ⟨g, 0, none⟩) hglt).trans (by simpa using hcell 0 _ rfl)) (by kernel_rfl)) (Zv (.slice A a.length cap) (ZR (Zv (.int .i64 0) (Zv (.slice A a.length cap) (Zv (.int .i64 (a.length : Int)) (Zu (k := .i64) (((0 + a.length : Nat) : Int)) (IntWalk.i64_in _ (by omega)) (Zv (.int .i64 ((0 + a.length : Nat) : Int)) ?_))))))))
    refine ZR (Zv (.int .i64 ((0 + a.length : Nat) : Int)) (Zd (p := ((0 + a.length : Nat) : Int) < 0) false (decide_eq_false (by omega)) (ZX (yS (zS (zB ?_))))))
    exact z7 (Zv (.int .i64 1) (Zv (.int .i64 1) (zP (zU (m' := 2) (by decide) (.inr (.inl ⟨_, trivial, rfl, ZU, rfl⟩))))))
  · refine z6 ?_
    refine z7 (Zv (.bool true) (ZN (z6 (Zt (ZB (z6 (zK (z6 (z7 ?_)))))))))
    refine zX (.pointer (some ⟨g, 1, none⟩)) (by kernel_rfl) (ZV (b := g) (off := 0) (n := 2) (c := 2) (k := .i64) (j := 1) (e := 29) (sz := 1)) (Zo (.slice B b.length capb) (a := ⟨g, 1, none⟩) (fun w hO => tJ ((hO.below.cell (p := ⟨g, 1, none⟩) hglt).trans (by simpa using hcell 1 _ rfl)) (by kernel_rfl)) (Zv (.slice B b.length capb) (ZR (Zv (.int .i64 ((0 + a.length : Nat) : Int)) (Zv (.slice B b.length capb) (Zv (.int .i64 (b.length : Int)) (Zu (k := .i64) (((0 + a.length + b.length : Nat) : Int)) (IntWalk.i64_in _ (by omega)) (Zv (.int .i64 ((0 + a.length + b.length : Nat) : Int)) ?_))))))))
    refine ZR (Zv (.int .i64 ((0 + a.length + b.length : Nat) : Int)) (Zd (p := ((0 + a.length + b.length : Nat) : Int) < 0) false (decide_eq_false (by omega)) (ZX (yS (zS (zB ?_))))))
    exact z7 (Zv (.int .i64 2) (Zv (.int .i64 2) (zP (zU (m' := 1) (by decide) (.inr (.inr (⟨_, trivial, rfl, ZU, rfl⟩)))))))
  refine ZO (Zv (.bool false) (ZN (z6 (Zf (y8 (zD (zN (zI (zB ?_)))))))))
  refine ZO (Zv (.int .i64 ((0 + a.length + b.length : Nat) : Int)) (yK (k := 180) (args := #[.slice none 0 0, .int .i64 ((0 + a.length + b.length : Nat) : Int)]) (fun v' L' => SlS v' [] L') (by kernel_rfl) (fun _ => by kernel_rfl) (fun w hO => (grow4_any (0 + a.length + b.length) w (by omega)).mono fun e w' ⟨v', ob', h1, h2, h3⟩ => ⟨v', ob', h1, h2, by simpa using Own.joinN hO h3⟩) (fun v0 o0 hv0 => kK (L' := o0 ++ []) (List.append_nil _).symm (Zv (v0) (ZN (z6 (ZO (Zv (.slice (some ⟨g, 0, none⟩) 2 2) ?_))))))))
  refine Zv (.int .i64 (2 : Int)) (Zv (.int .i64 0) (ZN (zK (yP (fun L f m => (∃ (v : Value) (oq : List Blk) (j : Nat → Value), (SlS v ([]) oq) ∧ L = oq ++ [] ∧ f = kA j [(6, v), (25, .slice (some ⟨g, 0, none⟩) 2 2), (26, .int .i64 2), (27, .int .i64 0)] ∧ m = 3) ∨ (∃ (v : Value) (oq : List Blk) (j : Nat → Value), (SlS v (a) oq) ∧ L = oq ++ [] ∧ f = kA j [(6, v), (25, .slice (some ⟨g, 0, none⟩) 2 2), (26, .int .i64 2), (27, .int .i64 1)] ∧ m = 2) ∨ (∃ (v : Value) (oq : List Blk) (j : Nat → Value), (SlS v (a ++ b) oq) ∧ L = oq ++ [] ∧ f = kA j [(6, v), (25, .slice (some ⟨g, 0, none⟩) 2 2), (26, .int .i64 2), (27, .int .i64 2)] ∧ m = 1)) 3 (.inl ⟨_, _, _, hv0, rfl, ZU, rfl⟩) ?_))))
  rintro L f m (⟨v, oq, j, hrel, rfl, rfl, rfl⟩ | ⟨v, oq, j, hrel, rfl, rfl, rfl⟩ | ⟨v, oq, j, hrel, rfl, rfl, rfl⟩)
  · unfold SlS at hrel
    refine ZO (Zv (.bool true) (ZN (z6 (Zt (ZB (z6 (zK (z6 ?_))))))))
    refine z7 (zX (.pointer (some ⟨g, 0, none⟩)) (by kernel_rfl) (ZV (b := g) (off := 0) (n := 2) (c := 2) (k := .i64) (j := 0) (e := 29) (sz := 1)) (Zo (.slice A a.length cap) (a := ⟨g, 0, none⟩) (fun w hO => tJ ((hO.below.cell (p := ⟨g, 0, none⟩) hglt).trans (by simpa using hcell 0 _ rfl)) (by kernel_rfl)) (Zv (.slice A a.length cap) (ZN (z7 (Zv (v) (Zv (.slice A a.length cap) ?_)))))))
    obtain ⟨i, z, e1, e2, e3, e4, e5⟩ := qS
    refine kK (L' := [] ++ oq ++ []) (by simp) (s_appendR (E := []) (ob := oq) (L0 := []) (sz := 14) (l := a) (A := A) (c := cap) yB (by kernel_rfl) rfl Tryz.underlying29 e1 e2 e3 e4 (by kernel_rfl) hrel (by kernel_rfl) (fun w hO => hv.on hO.below hO.size) gZ (by unfold maxLen; first | (simp; omega) | omega) (by rw [e5]; first | (simp; omega) | omega) (fun va oa hva => kK (L' := oa ++ []) (by simp) ?_))
    have hva2 : SlS va (a) oa := hva.to (by simp) (by simp)
    exact Zv (va) (zP (zS (zB (z7 (Zv (.int .i64 1) (Zv (.int .i64 1) (zP (zU (m' := 2) (by decide) (.inr (.inl ⟨va, oa, _, hva2, rfl, ZU, rfl⟩))))))))))
  · unfold SlS at hrel
    refine ZO (Zv (.bool true) (ZN (z6 (Zt (ZB (z6 (zK (z6 ?_))))))))
    refine z7 (zX (.pointer (some ⟨g, 1, none⟩)) (by kernel_rfl) (ZV (b := g) (off := 0) (n := 2) (c := 2) (k := .i64) (j := 1) (e := 29) (sz := 1)) (Zo (.slice B b.length capb) (a := ⟨g, 1, none⟩) (fun w hO => tJ ((hO.below.cell (p := ⟨g, 1, none⟩) hglt).trans (by simpa using hcell 1 _ rfl)) (by kernel_rfl)) (Zv (.slice B b.length capb) (ZN (z7 (Zv (v) (Zv (.slice B b.length capb) ?_)))))))
    obtain ⟨i, z, e1, e2, e3, e4, e5⟩ := qS
    refine kK (L' := [] ++ oq ++ []) (by simp) (s_appendR (E := []) (ob := oq) (L0 := []) (sz := 14) (l := b) (A := B) (c := capb) yB (by kernel_rfl) rfl Tryz.underlying29 e1 e2 e3 e4 (by kernel_rfl) hrel (by kernel_rfl) (fun w hO => hu.on hO.below hO.size) gZ (by unfold maxLen; first | (simp; omega) | omega) (by rw [e5]; first | (simp; omega) | omega) (fun va oa hva => kK (L' := oa ++ []) (by simp) ?_))
    have hva2 : SlS va (a ++ b) oa := hva.to (by simp) (by simp)
    exact Zv (va) (zP (zS (zB (z7 (Zv (.int .i64 2) (Zv (.int .i64 2) (zP (zU (m' := 1) (by decide) (.inr (.inr (⟨va, oa, _, hva2, rfl, ZU, rfl⟩)))))))))))
  unfold SlS at hrel
  refine ZO (Zv (.bool false) (ZN (z6 (Zf (y8 (zD (zN (zI (zB ?_)))))))))
  exact ZO (Zv (v) (Zv (v) (ZN (zC (ZF (v) Tryz.results137 (fun w hO => ⟨v, oq, rfl, hrel, by simpa using hO⟩))))))
theorem or4_any (A B : Option Addr) (cap capb : Nat) (a b : List Sp) (W : World) (hv : Reads x4 W W.heap.size A a) (hu : Reads x4 W W.heap.size B b) (hn : a.length ≤ 100000) (hm : b.length ≤ 100000) (ha : x7 a) (hb : x7 b) :
    Calls Tryz.prog 83 #[.slice A a.length cap, .slice B b.length capb] W fun e w' => ∃ v' ob', e = .returned v' ∧ SlS v' (if zL a && zL b then orL a b else []) ob' ∧ Own [] W w' ob' := by
  refine zQ (n := 24) Tryz.func83 rfl (by kernel_rfl) (by kernel_rfl) (ZO (Zv (.slice none 0 0) (ZN (z6 (ZO (Zv (.slice A a.length cap) (Zc (k := 129) (args := #[.slice A a.length cap]) (.bool (zL a)) (fun w hO => jP A cap a w (hv.on hO.below hO.size) (by omega) ha) ?_)))))))
  cases h1 : zL a with
  | true =>
    refine Zv (.bool false) (Zv (.bool false) (Zv (.slice B b.length capb) (Zc (k := 129) (args := #[.slice B b.length capb]) (.bool (zL b)) (fun w hO => jP B capb b w (hu.on hO.below hO.size) (by omega) hb) ?_)))
    cases h2 : zL b with
    | true =>
      refine Zv (.bool false) (Zv (.bool false) (ZX (ZB (ZO (Zv (.slice A a.length cap) (Zv (.slice B b.length capb) (v6 29 #[.slice A a.length cap, .slice B b.length capb] (by kernel_rfl) rfl (fun _ => by kernel_rfl) (fun b1 => ?_))))))))
      refine yK (k := 137) (args := #[.slice (some ⟨b1, 0, none⟩) 2 2]) (fun v' L' => SlS v' (a ++ b) L') (by kernel_rfl) (fun _ => by kernel_rfl) (fun w hO => (concat4_any A B cap capb a b w (hv.on hO.below hO.size) (hu.on hO.below hO.size) hn hm b1 (hO.held _ List.mem_cons_self)).mono fun e w' ⟨v', ob', h1, h2, h3⟩ => ⟨v', ob', h1, h2, Own.take (Own.joinN hO h3) (fun x hx => List.mem_append_left _ hx) h3.apart⟩) (fun cv oc hcv => ?_)
      obtain ⟨C, capc, rfl⟩ := hcv.form
      have hlen : (a ++ b).length ≤ 200000 := by rw [List.length_append]; omega
      have hlab := both_short ha hb
      refine yK (k := 136) (args := #[.slice C (a ++ b).length capc]) (fun v' L' => ∃ mv, v' = .tuple #[mv, .bool (gA (a ++ b))] ∧ SlS mv (if gA (a ++ b) then uJ (a ++ b) else []) L') (by kernel_rfl) (fun _ => by kernel_rfl) (fun w hO => (mO C capc (a ++ b) w (Sl.reads hcv rfl hO (fun x hx => hx)) (by omega) hlab).mono fun e w' ⟨v', ob', h1, h2, h3⟩ => ⟨_, ob', h1, ⟨v', rfl, h2⟩, Own.take (Own.joinN hO h3) (fun x hx => List.mem_append_left _ hx) h3.apart⟩) (fun tv om htv => ?_)
      obtain ⟨mv, rfl, hmv⟩ := htv
      refine Zv (.tuple #[mv, .bool (gA (a ++ b))]) (Zv (mv) (Zv (.bool (gA (a ++ b))) (Zv (mv) (Zv (.bool (gA (a ++ b))) (ZR (Zv (mv) (Zv (mv) (zP ?_))))))))
      exact zB (zC (ZF (mv) Tryz.results83 (fun w hO => ⟨mv, om, rfl, by rw [if_pos (by simp)]; unfold orL; have hall : gA (a ++ b) = true := allMay_mem.2 (dH (by assumption) (by assumption)); rw [hall, if_pos rfl] at hmv; exact hmv, hO⟩)))
    | false =>
      refine Zv (.bool true) (Zv (.bool true) (ZY (ZO (Zv (.slice none 0 0) (ZN (zC (z8 ?_)))))))
      exact ZF (.slice none 0 0) Tryz.results83 (fun w hO => ⟨_, [], rfl, by rw [if_neg (by simp)]; exact Sl.nil _ _, by simpa using hO⟩)
  | false =>
    refine Zv (.bool true) (Zv (.bool true) (Zk (Zk (Zk (Zv (.bool true) (ZY (ZO (Zv (.slice none 0 0) ?_))))))))
    exact ZN (zC (z8 (ZF (.slice none 0 0) Tryz.results83 (fun w hO => ⟨_, [], rfl, by rw [if_neg (by simp)]; exact Sl.nil _ _, by simpa using hO⟩))))
end
section
structure BothB (a b : List Sp) (W : World) (A1 B1 : Option Addr) (c1 c2 n : Nat) (a1 b1 : List Sp) (v : Value) (out : List Sp) (ob : List Blk) : Prop where
  ra : Reads x4 W W.heap.size A1 a1
  rb : Reads x4 W W.heap.size B1 b1
  ca : a1.length ≤ c1
  cb : b1.length ≤ c2
  sa : x7 a1
  sb : x7 b1
  sl : SlS v out ob
  so : x7 out
  len : out.length + n ≤ a.length + b.length
  fuel : a1.length + b1.length ≤ n
  eq : andG (a.length + b.length) [] a b = andG n out a1 b1
theorem andG_end {n : Nat} {out a b : List Sp} (h : ¬ (0 < a.length ∧ 0 < b.length)) : andG n out a b = out := by
  cases n with
  | zero => cases a <;> cases b <;> rfl
  | succ n =>
    cases a with
    | nil => rfl
    | cons s a =>
      cases b with
      | nil => rfl
      | cons u b => exact absurd ⟨by simp, by simp⟩ h
theorem drop1_short {l : List Sp} (h : x7 l) : x7 (l.drop 1) := fun s hs => h s (List.mem_of_mem_drop hs)
theorem BothB.stepA {a b : List Sp} {W : World} {A1 B1 : Option Addr} {c1 c2 n o b0 : Nat} {a1 b1 : List Sp} {v v2 : Value} {out : List Sp} {ob ob2 : List Blk} (h : BothB a b W A1 B1 c1 c2 n a1 b1 v out ob) (ha : 0 < a1.length) (hb : 0 < b1.length) {s u : Sp} (hs : a1[0] = s) (hu : b1[0] = u) (hA : A1 = some ⟨b0, o, none⟩)
    (he : s.hi = yR s.hi u.hi) (h2 : SlS v2 (gY out (yX s.lo u.lo) (yR s.hi u.hi)) ob2) : BothB a b W (some ⟨b0, o + (if c1 = (1 : Int).toNat then 0 else (1 : Int).toNat * 14), none⟩) B1 (c1 - (1 : Int).toNat) c2 (n - 1) (a1.drop 1) b1 v2 (gY out (yX s.lo u.lo) (yR s.hi u.hi)) ob2 := by
  have hss : s.short := hs ▸ h.sa _ (List.getElem_mem ha)
  have hus : u.short := hu ▸ h.sb _ (List.getElem_mem hb)
  have hf := h.fuel
  have h1 : (1 : Int).toNat = 1 := rfl
  refine ⟨h.ra.drop1 yB hA h.ca, h.rb, by rw [List.length_drop, h1]; have := h.ca; omega, h.cb, drop1_short h.sa, h.sb, h2, n5 h.so (dZ hss.1 hus.1) (pE hss.2 hus.2), by have := h.len; have := n7 out (yX s.lo u.lo) (yR s.hi u.hi); omega, by rw [List.length_drop]; omega, ?_⟩
  rw [h.eq]
  obtain ⟨m, rfl⟩ : ∃ m, n = m + 1 := ⟨n - 1, by omega⟩
  match a1, b1, ha, hb, hs, hu with
  | x :: a2, y :: b2, _, _, hs, hu =>
    obtain rfl : x = s := hs
    obtain rfl : y = u := hu
    conv => lhs; unfold andG
    rw [if_pos he]; rfl
theorem BothB.stepB {a b : List Sp} {W : World} {A1 B1 : Option Addr} {c1 c2 n o b0 : Nat} {a1 b1 : List Sp} {v v2 : Value} {out : List Sp} {ob ob2 : List Blk} (h : BothB a b W A1 B1 c1 c2 n a1 b1 v out ob) (ha : 0 < a1.length) (hb : 0 < b1.length) {s u : Sp} (hs : a1[0] = s) (hu : b1[0] = u) (hB : B1 = some ⟨b0, o, none⟩)
    (he : ¬ s.hi = yR s.hi u.hi) (h2 : SlS v2 (gY out (yX s.lo u.lo) (yR s.hi u.hi)) ob2) : BothB a b W A1 (some ⟨b0, o + (if c2 = (1 : Int).toNat then 0 else (1 : Int).toNat * 14), none⟩) c1 (c2 - (1 : Int).toNat) (n - 1) a1 (b1.drop 1) v2 (gY out (yX s.lo u.lo) (yR s.hi u.hi)) ob2 := by
  have hss : s.short := hs ▸ h.sa _ (List.getElem_mem ha)
  have hus : u.short := hu ▸ h.sb _ (List.getElem_mem hb)
  have hf := h.fuel
  have h1 : (1 : Int).toNat = 1 := rfl
  refine ⟨h.ra, h.rb.drop1 yB hB h.cb, h.ca, by rw [List.length_drop, h1]; have := h.cb; omega, h.sa, drop1_short h.sb, h2, n5 h.so (dZ hss.1 hus.1) (pE hss.2 hus.2), by have := h.len; have := n7 out (yX s.lo u.lo) (yR s.hi u.hi); omega, by rw [List.length_drop]; omega, ?_⟩
  rw [h.eq]
  obtain ⟨m, rfl⟩ : ∃ m, n = m + 1 := ⟨n - 1, by omega⟩
  match a1, b1, ha, hb, hs, hu with
  | x :: a2, y :: b2, _, _, hs, hu =>
    obtain rfl : x = s := hs
    obtain rfl : y = u := hu
    conv => lhs; unfold andG
    rw [if_neg he]; rfl
theorem and4_any (A B : Option Addr) (cap capb : Nat) (a b : List Sp) (W : World) (hv : Reads x4 W W.heap.size A a) (hu : Reads x4 W W.heap.size B b) (hn : a.length ≤ 100000) (hm : b.length ≤ 100000) (ha : x7 a) (hb : x7 b) (hca : a.length ≤ cap) (hcb : b.length ≤ capb) :
    Calls Tryz.prog 81 #[.slice A a.length cap, .slice B b.length capb] W fun e w' => ∃ v' ob', e = .returned v' ∧ SlS v' (if zL a && zL b then fB a b else []) ob' ∧ Own [] W w' ob' := by
  refine zQ (n := 66) Tryz.func81 rfl (by kernel_rfl) (by kernel_rfl) (ZO (Zv (.slice none 0 0) (ZN (z6 (ZO (Zv (.slice A a.length cap) (Zc (k := 129) (args := #[.slice A a.length cap]) (.bool (zL a)) (fun w hO => jP A cap a w (hv.on hO.below hO.size) (by omega) ha) ?_)))))))
  cases h1 : zL a with
  | true =>
    refine Zv (.bool false) (Zv (.bool false) (Zv (.slice B b.length capb) (Zc (k := 129) (args := #[.slice B b.length capb]) (.bool (zL b)) (fun w hO => jP B capb b w (hu.on hO.below hO.size) (by omega) hb) ?_)))
    cases h2 : zL b with
    | true =>
      refine Zv (.bool false) (Zv (.bool false) (ZX (ZB (ZO (Zv (.slice none 0 0) (zP (zB ?_)))))))
      refine z6 (zK (gN (L' := [] ++ []) rfl (yP (fun L f m => ∃ (A1 : Option Addr) (B1 : Option Addr) (q1 : Nat) (q2 : Nat) (c1 : Nat) (c2 : Nat) (n : Nat) (a1 : List Sp) (b1 : List Sp) (v : Value) (out : List Sp) (ob : List Blk) (j : Nat → Value), (q1 = a1.length ∧ q2 = b1.length ∧ BothB a b W A1 B1 c1 c2 n a1 b1 v out ob) ∧ L = ob ++ [] ∧ f = kA j [(0, .slice A1 q1 c1), (1, .slice B1 q2 c2), (5, v)] ∧ m = a1.length + b1.length) (a.length + b.length) ⟨A, B, a.length, b.length, cap, capb, a.length + b.length, a, b, _, [], [], _, ⟨rfl, rfl, ⟨hv, hu, hca, hcb, ha, hb, Sl.nil _ _, fun s hs => by simp at hs, by simp, Nat.le_refl _, rfl⟩⟩, rfl, ZU, rfl⟩ ?_)))
      rintro L f m ⟨A1, B1, q1, q2, c1, c2, n, a1, b1, v, out, ob, j, hrel, rfl, rfl, rfl⟩
      obtain ⟨hq1, hq2, hrel⟩ := hrel; subst hq1; subst hq2; have hlen := hrel.len; have hfuel := hrel.fuel; refine gN (L' := ob) (List.append_nil ob) ?_
      refine z6 (ZO (Zv (.slice A1 a1.length c1) (Zv (.int .i64 (a1.length : Int)) ?_)))
      by_cases h3 : (0 : Int) < (a1.length : Int)
      · have hka : 0 < a1.length := by omega
        obtain ⟨ba, offa, hA, hlta, hcela⟩ := hrel.ra hka
        obtain ⟨s, hs⟩ : ∃ s, a1[0] = s := ⟨_, rfl⟩
        have hsk : s.short := hs ▸ hrel.sa _ (List.getElem_mem hka)
        refine Zd (p := (0 : Int) < (a1.length : Int)) true (decide_eq_true (h3)) (Zv (.bool true) (Zv (.slice B1 b1.length c2) (Zv (.int .i64 (b1.length : Int)) ?_)))
        by_cases h4 : (0 : Int) < (b1.length : Int)
        · have hkb : 0 < b1.length := by omega
          obtain ⟨bb, offb, hB, hltb, hcelb⟩ := hrel.rb hkb
          obtain ⟨u, hu1⟩ : ∃ u, b1[0] = u := ⟨_, rfl⟩
          have huk : u.short := hu1 ▸ hrel.sb _ (List.getElem_mem hkb)
          refine Zd (p := (0 : Int) < (b1.length : Int)) true (decide_eq_true (h4)) (Zv (.bool true) (ZY (ZB (zK (z6 (jM (fun L f => ∃ (p6 p7 : Nat) (j : Nat → Value), L = ⟨p7, (zA (yX s.lo u.lo)).cells, 78⟩ :: (⟨p6, (zA (yR s.lo u.lo)).cells, 78⟩ :: (ob)) ∧ f = kA j [(0, .slice A1 a1.length c1), (1, .slice B1 b1.length c2), (5, v), (6, .pointer (some ⟨p6, 0, none⟩)), (7, .pointer (some ⟨p7, 0, none⟩))]) ?_ ?_))))))
          · refine uD (by kernel_rfl) ?_
            refine ZT 0 [] _ (.slice A1 a1.length c1) yI rfl (uO 1 [] _ (.pointer (some ⟨ba, offa + 0 * 14, none⟩)) rfl (by kernel_rfl) (by kernel_rfl) (by kernel_rfl) yI (by kernel_rfl) (fun w _ => jJ (b := ba) (off := offa) (c := c1) (n := a1.length) (k := .i64) (j := 0) (e := 80) (sz := 14) rfl (by kernel_rfl) hA (by kernel_rfl) (by kernel_rfl) (by kernel_rfl) (by omega) (by omega) (by omega) w) (ZT 2 [] _ (.pointer (some ⟨ba, offa + 0 * 14 + 0, none⟩)) yI rfl (pK 3 _ (a := ⟨ba, offa + 0 * 14 + 0, none⟩) (zA s.lo) rfl (by kernel_rfl) (by kernel_rfl) (by kernel_rfl) yI (fun w hO => Own.sub [] hO) (by kernel_rfl) rfl (by kernel_rfl) (fun w hO => yD yB (fun j u h => (hO.below.cell (p := ⟨ba, offa + j, none⟩) hlta).trans (hcela j u h)) 0 0 hka (by omega) _ (by rw [hs]; kernel_rfl)) (ZT 4 [] _ (.slice B1 b1.length c2) yI rfl (uO 5 [] _ (.pointer (some ⟨bb, offb + 0 * 14, none⟩)) rfl (by kernel_rfl) (by kernel_rfl) (by kernel_rfl) yI (by kernel_rfl) (fun w _ => jJ (b := bb) (off := offb) (c := c2) (n := b1.length) (k := .i64) (j := 0) (e := 80) (sz := 14) rfl (by kernel_rfl) hB (by kernel_rfl) (by kernel_rfl) (by kernel_rfl) (by omega) (by omega) (by omega) w) (ZT 6 [] _ (.pointer (some ⟨bb, offb + 0 * 14 + 0, none⟩)) yI rfl (pK 7 _ (a := ⟨bb, offb + 0 * 14 + 0, none⟩) (zA u.lo) rfl (by kernel_rfl) (by kernel_rfl) (by kernel_rfl) yI (fun w hO => Own.sub [] hO) (by kernel_rfl) rfl (by kernel_rfl) (fun w hO => yD yB (fun j u h => (hO.below.cell (p := ⟨bb, offb + j, none⟩) hltb).trans (hcelb j u h)) 0 0 hkb (by omega) _ (by rw [hu1]; kernel_rfl)) (h_three 8 12 13 (by kernel_rfl) ?_ ?_ ?_))))))))
            · refine xL [] _ (k := 130) (args := #[zA s.lo, zA u.lo]) (.tuple #[zA (yR s.lo u.lo), zA (yX s.lo u.lo)]) rfl (by kernel_rfl) (fun _ => by kernel_rfl) (fun w _ => qC s.lo u.lo w hsk.1 huk.1) ?_
              refine ZT 9 [] _ (.tuple #[zA (yR s.lo u.lo), zA (yX s.lo u.lo)]) yI rfl (ZT 10 [] _ (zA (yR s.lo u.lo)) yI rfl (ZT 11 [] _ (zA (yX s.lo u.lo)) yI rfl (d9 12 13 (by kernel_rfl) ?_ ?_)))
              · refine yM [] _ (.agg #[.int .i64 0, .int .i64 0, .int .i64 0, .int .i64 0, .string ⟨#[]⟩, .string ⟨#[]⟩, .bool false]) rfl (by kernel_rfl) rfl (by kernel_rfl) (fun b1 => ?_)
                exact zY 13 (by kernel_rfl) (yM [⟨b1, #[.int .i64 0, .int .i64 0, .int .i64 0, .int .i64 0, .string ⟨#[]⟩, .string ⟨#[]⟩, .bool false], 78⟩] _ (.agg #[.int .i64 0, .int .i64 0, .int .i64 0, .int .i64 0, .string ⟨#[]⟩, .string ⟨#[]⟩, .bool false]) rfl (by kernel_rfl) rfl (by kernel_rfl) (fun b2 => zY 14 (by kernel_rfl) (ZS [⟨b2, #[.int .i64 0, .int .i64 0, .int .i64 0, .int .i64 0, .string ⟨#[]⟩, .string ⟨#[]⟩, .bool false], 78⟩, ⟨b1, #[.int .i64 0, .int .i64 0, .int .i64 0, .int .i64 0, .string ⟨#[]⟩, .string ⟨#[]⟩, .bool false], 78⟩] _ 1 ⟨b1, #[.int .i64 0, .int .i64 0, .int .i64 0, .int .i64 0, .string ⟨#[]⟩, .string ⟨#[]⟩, .bool false], 78⟩ (off := 0) (zA (yR s.lo u.lo)) rfl rfl (zY 15 (by kernel_rfl) (ZS [⟨b2, #[.int .i64 0, .int .i64 0, .int .i64 0, .int .i64 0, .string ⟨#[]⟩, .string ⟨#[]⟩, .bool false], 78⟩, ⟨b1, (zA (yR s.lo u.lo)).cells, 78⟩] _ 0 ⟨b2, #[.int .i64 0, .int .i64 0, .int .i64 0, .int .i64 0, .string ⟨#[]⟩, .string ⟨#[]⟩, .bool false], 78⟩ (off := 0) (zA (yX s.lo u.lo)) rfl rfl (yO (by kernel_rfl) (yL ⟨b1, b2, _, rfl, ZU⟩)))))))
              exact yM [] _ (.agg #[.int .i64 0, .int .i64 0, .int .i64 0, .int .i64 0, .string ⟨#[]⟩, .string ⟨#[]⟩, .bool false]) rfl (by kernel_rfl) rfl (by kernel_rfl) (fun b1 => zY 12 (by kernel_rfl) (yM [⟨b1, #[.int .i64 0, .int .i64 0, .int .i64 0, .int .i64 0, .string ⟨#[]⟩, .string ⟨#[]⟩, .bool false], 78⟩] _ (.agg #[.int .i64 0, .int .i64 0, .int .i64 0, .int .i64 0, .string ⟨#[]⟩, .string ⟨#[]⟩, .bool false]) rfl (by kernel_rfl) rfl (by kernel_rfl) (fun b2 => zY 14 (by kernel_rfl) (ZS [⟨b2, #[.int .i64 0, .int .i64 0, .int .i64 0, .int .i64 0, .string ⟨#[]⟩, .string ⟨#[]⟩, .bool false], 78⟩, ⟨b1, #[.int .i64 0, .int .i64 0, .int .i64 0, .int .i64 0, .string ⟨#[]⟩, .string ⟨#[]⟩, .bool false], 78⟩] _ 0 ⟨b2, #[.int .i64 0, .int .i64 0, .int .i64 0, .int .i64 0, .string ⟨#[]⟩, .string ⟨#[]⟩, .bool false], 78⟩ (off := 0) (zA (yR s.lo u.lo)) rfl rfl (zY 15 (by kernel_rfl) (ZS [⟨b2, (zA (yR s.lo u.lo)).cells, 78⟩, ⟨b1, #[.int .i64 0, .int .i64 0, .int .i64 0, .int .i64 0, .string ⟨#[]⟩, .string ⟨#[]⟩, .bool false], 78⟩] _ 1 ⟨b1, #[.int .i64 0, .int .i64 0, .int .i64 0, .int .i64 0, .string ⟨#[]⟩, .string ⟨#[]⟩, .bool false], 78⟩ (off := 0) (zA (yX s.lo u.lo)) rfl rfl (yO (by kernel_rfl) (jS (yL ⟨b2, b1, _, rfl, ZU⟩)))))))))
            · refine yM [] _ (.agg #[.int .i64 0, .int .i64 0, .int .i64 0, .int .i64 0, .string ⟨#[]⟩, .string ⟨#[]⟩, .bool false]) rfl (by kernel_rfl) rfl (by kernel_rfl) (fun b1 => ?_)
              refine d9 8 13 (by kernel_rfl) ?_ ?_
              · refine xL [⟨b1, #[.int .i64 0, .int .i64 0, .int .i64 0, .int .i64 0, .string ⟨#[]⟩, .string ⟨#[]⟩, .bool false], 78⟩] _ (k := 130) (args := #[zA s.lo, zA u.lo]) (.tuple #[zA (yR s.lo u.lo), zA (yX s.lo u.lo)]) rfl (by kernel_rfl) (fun _ => by kernel_rfl) (fun w _ => qC s.lo u.lo w hsk.1 huk.1) ?_
                exact ZT 9 [⟨b1, #[.int .i64 0, .int .i64 0, .int .i64 0, .int .i64 0, .string ⟨#[]⟩, .string ⟨#[]⟩, .bool false], 78⟩] _ (.tuple #[zA (yR s.lo u.lo), zA (yX s.lo u.lo)]) yI rfl (ZT 10 [⟨b1, #[.int .i64 0, .int .i64 0, .int .i64 0, .int .i64 0, .string ⟨#[]⟩, .string ⟨#[]⟩, .bool false], 78⟩] _ (zA (yR s.lo u.lo)) yI rfl (ZT 11 [⟨b1, #[.int .i64 0, .int .i64 0, .int .i64 0, .int .i64 0, .string ⟨#[]⟩, .string ⟨#[]⟩, .bool false], 78⟩] _ (zA (yX s.lo u.lo)) yI rfl (zY 13 (by kernel_rfl) (yM [⟨b1, #[.int .i64 0, .int .i64 0, .int .i64 0, .int .i64 0, .string ⟨#[]⟩, .string ⟨#[]⟩, .bool false], 78⟩] _ (.agg #[.int .i64 0, .int .i64 0, .int .i64 0, .int .i64 0, .string ⟨#[]⟩, .string ⟨#[]⟩, .bool false]) rfl (by kernel_rfl) rfl (by kernel_rfl) (fun b2 => zY 14 (by kernel_rfl) (ZS [⟨b2, #[.int .i64 0, .int .i64 0, .int .i64 0, .int .i64 0, .string ⟨#[]⟩, .string ⟨#[]⟩, .bool false], 78⟩, ⟨b1, #[.int .i64 0, .int .i64 0, .int .i64 0, .int .i64 0, .string ⟨#[]⟩, .string ⟨#[]⟩, .bool false], 78⟩] _ 1 ⟨b1, #[.int .i64 0, .int .i64 0, .int .i64 0, .int .i64 0, .string ⟨#[]⟩, .string ⟨#[]⟩, .bool false], 78⟩ (off := 0) (zA (yR s.lo u.lo)) rfl rfl (zY 15 (by kernel_rfl) (ZS [⟨b2, #[.int .i64 0, .int .i64 0, .int .i64 0, .int .i64 0, .string ⟨#[]⟩, .string ⟨#[]⟩, .bool false], 78⟩, ⟨b1, (zA (yR s.lo u.lo)).cells, 78⟩] _ 0 ⟨b2, #[.int .i64 0, .int .i64 0, .int .i64 0, .int .i64 0, .string ⟨#[]⟩, .string ⟨#[]⟩, .bool false], 78⟩ (off := 0) (zA (yX s.lo u.lo)) rfl rfl (yO (by kernel_rfl) (yL ⟨b1, b2, _, rfl, ZU⟩))))))))))
              exact yM [⟨b1, #[.int .i64 0, .int .i64 0, .int .i64 0, .int .i64 0, .string ⟨#[]⟩, .string ⟨#[]⟩, .bool false], 78⟩] _ (.agg #[.int .i64 0, .int .i64 0, .int .i64 0, .int .i64 0, .string ⟨#[]⟩, .string ⟨#[]⟩, .bool false]) rfl (by kernel_rfl) rfl (by kernel_rfl) (fun b2 => zY 8 (by kernel_rfl) (xL [⟨b2, #[.int .i64 0, .int .i64 0, .int .i64 0, .int .i64 0, .string ⟨#[]⟩, .string ⟨#[]⟩, .bool false], 78⟩, ⟨b1, #[.int .i64 0, .int .i64 0, .int .i64 0, .int .i64 0, .string ⟨#[]⟩, .string ⟨#[]⟩, .bool false], 78⟩] _ (k := 130) (args := #[zA s.lo, zA u.lo]) (.tuple #[zA (yR s.lo u.lo), zA (yX s.lo u.lo)]) rfl (by kernel_rfl) (fun _ => by kernel_rfl) (fun w _ => qC s.lo u.lo w hsk.1 huk.1) (ZT 9 [⟨b2, #[.int .i64 0, .int .i64 0, .int .i64 0, .int .i64 0, .string ⟨#[]⟩, .string ⟨#[]⟩, .bool false], 78⟩, ⟨b1, #[.int .i64 0, .int .i64 0, .int .i64 0, .int .i64 0, .string ⟨#[]⟩, .string ⟨#[]⟩, .bool false], 78⟩] _ (.tuple #[zA (yR s.lo u.lo), zA (yX s.lo u.lo)]) yI rfl (ZT 10 [⟨b2, #[.int .i64 0, .int .i64 0, .int .i64 0, .int .i64 0, .string ⟨#[]⟩, .string ⟨#[]⟩, .bool false], 78⟩, ⟨b1, #[.int .i64 0, .int .i64 0, .int .i64 0, .int .i64 0, .string ⟨#[]⟩, .string ⟨#[]⟩, .bool false], 78⟩] _ (zA (yR s.lo u.lo)) yI rfl (ZT 11 [⟨b2, #[.int .i64 0, .int .i64 0, .int .i64 0, .int .i64 0, .string ⟨#[]⟩, .string ⟨#[]⟩, .bool false], 78⟩, ⟨b1, #[.int .i64 0, .int .i64 0, .int .i64 0, .int .i64 0, .string ⟨#[]⟩, .string ⟨#[]⟩, .bool false], 78⟩] _ (zA (yX s.lo u.lo)) yI rfl (zY 14 (by kernel_rfl) (ZS [⟨b2, #[.int .i64 0, .int .i64 0, .int .i64 0, .int .i64 0, .string ⟨#[]⟩, .string ⟨#[]⟩, .bool false], 78⟩, ⟨b1, #[.int .i64 0, .int .i64 0, .int .i64 0, .int .i64 0, .string ⟨#[]⟩, .string ⟨#[]⟩, .bool false], 78⟩] _ 1 ⟨b1, #[.int .i64 0, .int .i64 0, .int .i64 0, .int .i64 0, .string ⟨#[]⟩, .string ⟨#[]⟩, .bool false], 78⟩ (off := 0) (zA (yR s.lo u.lo)) rfl rfl (zY 15 (by kernel_rfl) (ZS [⟨b2, #[.int .i64 0, .int .i64 0, .int .i64 0, .int .i64 0, .string ⟨#[]⟩, .string ⟨#[]⟩, .bool false], 78⟩, ⟨b1, (zA (yR s.lo u.lo)).cells, 78⟩] _ 0 ⟨b2, #[.int .i64 0, .int .i64 0, .int .i64 0, .int .i64 0, .string ⟨#[]⟩, .string ⟨#[]⟩, .bool false], 78⟩ (off := 0) (zA (yX s.lo u.lo)) rfl rfl (yO (by kernel_rfl) (yL ⟨b1, b2, _, rfl, ZU⟩)))))))))))
            refine yM [] _ (.agg #[.int .i64 0, .int .i64 0, .int .i64 0, .int .i64 0, .string ⟨#[]⟩, .string ⟨#[]⟩, .bool false]) rfl (by kernel_rfl) rfl (by kernel_rfl) (fun b1 => d9 8 12 (by kernel_rfl) ?_ ?_)
            · refine xL [⟨b1, #[.int .i64 0, .int .i64 0, .int .i64 0, .int .i64 0, .string ⟨#[]⟩, .string ⟨#[]⟩, .bool false], 78⟩] _ (k := 130) (args := #[zA s.lo, zA u.lo]) (.tuple #[zA (yR s.lo u.lo), zA (yX s.lo u.lo)]) rfl (by kernel_rfl) (fun _ => by kernel_rfl) (fun w _ => qC s.lo u.lo w hsk.1 huk.1) ?_
              exact ZT 9 [⟨b1, #[.int .i64 0, .int .i64 0, .int .i64 0, .int .i64 0, .string ⟨#[]⟩, .string ⟨#[]⟩, .bool false], 78⟩] _ (.tuple #[zA (yR s.lo u.lo), zA (yX s.lo u.lo)]) yI rfl (ZT 10 [⟨b1, #[.int .i64 0, .int .i64 0, .int .i64 0, .int .i64 0, .string ⟨#[]⟩, .string ⟨#[]⟩, .bool false], 78⟩] _ (zA (yR s.lo u.lo)) yI rfl (ZT 11 [⟨b1, #[.int .i64 0, .int .i64 0, .int .i64 0, .int .i64 0, .string ⟨#[]⟩, .string ⟨#[]⟩, .bool false], 78⟩] _ (zA (yX s.lo u.lo)) yI rfl (zY 12 (by kernel_rfl) (yM [⟨b1, #[.int .i64 0, .int .i64 0, .int .i64 0, .int .i64 0, .string ⟨#[]⟩, .string ⟨#[]⟩, .bool false], 78⟩] _ (.agg #[.int .i64 0, .int .i64 0, .int .i64 0, .int .i64 0, .string ⟨#[]⟩, .string ⟨#[]⟩, .bool false]) rfl (by kernel_rfl) rfl (by kernel_rfl) (fun b2 => zY 14 (by kernel_rfl) (ZS [⟨b2, #[.int .i64 0, .int .i64 0, .int .i64 0, .int .i64 0, .string ⟨#[]⟩, .string ⟨#[]⟩, .bool false], 78⟩, ⟨b1, #[.int .i64 0, .int .i64 0, .int .i64 0, .int .i64 0, .string ⟨#[]⟩, .string ⟨#[]⟩, .bool false], 78⟩] _ 0 ⟨b2, #[.int .i64 0, .int .i64 0, .int .i64 0, .int .i64 0, .string ⟨#[]⟩, .string ⟨#[]⟩, .bool false], 78⟩ (off := 0) (zA (yR s.lo u.lo)) rfl rfl (zY 15 (by kernel_rfl) (ZS [⟨b2, (zA (yR s.lo u.lo)).cells, 78⟩, ⟨b1, #[.int .i64 0, .int .i64 0, .int .i64 0, .int .i64 0, .string ⟨#[]⟩, .string ⟨#[]⟩, .bool false], 78⟩] _ 1 ⟨b1, #[.int .i64 0, .int .i64 0, .int .i64 0, .int .i64 0, .string ⟨#[]⟩, .string ⟨#[]⟩, .bool false], 78⟩ (off := 0) (zA (yX s.lo u.lo)) rfl rfl (yO (by kernel_rfl) (jS (yL ⟨b2, b1, _, rfl, ZU⟩)))))))))))
            refine yM [⟨b1, #[.int .i64 0, .int .i64 0, .int .i64 0, .int .i64 0, .string ⟨#[]⟩, .string ⟨#[]⟩, .bool false], 78⟩] _ (.agg #[.int .i64 0, .int .i64 0, .int .i64 0, .int .i64 0, .string ⟨#[]⟩, .string ⟨#[]⟩, .bool false]) rfl (by kernel_rfl) rfl (by kernel_rfl) (fun b2 => zY 8 (by kernel_rfl) (xL [⟨b2, #[.int .i64 0, .int .i64 0, .int .i64 0, .int .i64 0, .string ⟨#[]⟩, .string ⟨#[]⟩, .bool false], 78⟩, ⟨b1, #[.int .i64 0, .int .i64 0, .int .i64 0, .int .i64 0, .string ⟨#[]⟩, .string ⟨#[]⟩, .bool false], 78⟩] _ (k := 130) (args := #[zA s.lo, zA u.lo]) (.tuple #[zA (yR s.lo u.lo), zA (yX s.lo u.lo)]) rfl (by kernel_rfl) (fun _ => by kernel_rfl) (fun w _ => qC s.lo u.lo w hsk.1 huk.1) (ZT 9 [⟨b2, #[.int .i64 0, .int .i64 0, .int .i64 0, .int .i64 0, .string ⟨#[]⟩, .string ⟨#[]⟩, .bool false], 78⟩, ⟨b1, #[.int .i64 0, .int .i64 0, .int .i64 0, .int .i64 0, .string ⟨#[]⟩, .string ⟨#[]⟩, .bool false], 78⟩] _ (.tuple #[zA (yR s.lo u.lo), zA (yX s.lo u.lo)]) yI rfl (ZT 10 [⟨b2, #[.int .i64 0, .int .i64 0, .int .i64 0, .int .i64 0, .string ⟨#[]⟩, .string ⟨#[]⟩, .bool false], 78⟩, ⟨b1, #[.int .i64 0, .int .i64 0, .int .i64 0, .int .i64 0, .string ⟨#[]⟩, .string ⟨#[]⟩, .bool false], 78⟩] _ (zA (yR s.lo u.lo)) yI rfl (ZT 11 [⟨b2, #[.int .i64 0, .int .i64 0, .int .i64 0, .int .i64 0, .string ⟨#[]⟩, .string ⟨#[]⟩, .bool false], 78⟩, ⟨b1, #[.int .i64 0, .int .i64 0, .int .i64 0, .int .i64 0, .string ⟨#[]⟩, .string ⟨#[]⟩, .bool false], 78⟩] _ (zA (yX s.lo u.lo)) yI rfl (zY 14 (by kernel_rfl) (ZS [⟨b2, #[.int .i64 0, .int .i64 0, .int .i64 0, .int .i64 0, .string ⟨#[]⟩, .string ⟨#[]⟩, .bool false], 78⟩, ⟨b1, #[.int .i64 0, .int .i64 0, .int .i64 0, .int .i64 0, .string ⟨#[]⟩, .string ⟨#[]⟩, .bool false], 78⟩] _ 0 ⟨b2, #[.int .i64 0, .int .i64 0, .int .i64 0, .int .i64 0, .string ⟨#[]⟩, .string ⟨#[]⟩, .bool false], 78⟩ (off := 0) (zA (yR s.lo u.lo)) rfl rfl (zY 15 (by kernel_rfl) (ZS [⟨b2, (zA (yR s.lo u.lo)).cells, 78⟩, ⟨b1, #[.int .i64 0, .int .i64 0, .int .i64 0, .int .i64 0, .string ⟨#[]⟩, .string ⟨#[]⟩, .bool false], 78⟩] _ 1 ⟨b1, #[.int .i64 0, .int .i64 0, .int .i64 0, .int .i64 0, .string ⟨#[]⟩, .string ⟨#[]⟩, .bool false], 78⟩ (off := 0) (zA (yX s.lo u.lo)) rfl rfl (yO (by kernel_rfl) (jS ?_)))))))))))
            exact yL ⟨b2, b1, _, rfl, ZU⟩
          · rintro L f ⟨p6, p7, j, rfl, rfl⟩
            refine zB (z6 (jM (fun L f => ∃ (p8 p9 : Nat) (j : Nat → Value), L = ⟨p9, (zA (yX s.hi u.hi)).cells, 78⟩ :: (⟨p8, (zA (yR s.hi u.hi)).cells, 78⟩ :: (⟨p7, (zA (yX s.lo u.lo)).cells, 78⟩ :: (⟨p6, (zA (yR s.lo u.lo)).cells, 78⟩ :: (ob)))) ∧ f = kA j [(0, .slice A1 a1.length c1), (1, .slice B1 b1.length c2), (5, v), (6, .pointer (some ⟨p6, 0, none⟩)), (7, .pointer (some ⟨p7, 0, none⟩)), (8, .pointer (some ⟨p8, 0, none⟩)), (9, .pointer (some ⟨p9, 0, none⟩))]) ?_ ?_))
            · refine uD (by kernel_rfl) ?_
              refine ZT 0 [] _ (.slice A1 a1.length c1) yI rfl (uO 1 [] _ (.pointer (some ⟨ba, offa + 0 * 14, none⟩)) rfl (by kernel_rfl) (by kernel_rfl) (by kernel_rfl) yI (by kernel_rfl) (fun w _ => jJ (b := ba) (off := offa) (c := c1) (n := a1.length) (k := .i64) (j := 0) (e := 80) (sz := 14) rfl (by kernel_rfl) hA (by kernel_rfl) (by kernel_rfl) (by kernel_rfl) (by omega) (by omega) (by omega) w) (ZT 2 [] _ (.pointer (some ⟨ba, offa + 0 * 14 + 7, none⟩)) yI rfl (pK 3 _ (a := ⟨ba, offa + 0 * 14 + 7, none⟩) (zA s.hi) rfl (by kernel_rfl) (by kernel_rfl) (by kernel_rfl) yI (fun w hO => Own.sub [] hO) (by kernel_rfl) rfl (by kernel_rfl) (fun w hO => yD yB (fun j u h => (hO.below.cell (p := ⟨ba, offa + j, none⟩) hlta).trans (hcela j u h)) 0 7 hka (by omega) _ (by rw [hs]; kernel_rfl)) (ZT 4 [] _ (.slice B1 b1.length c2) yI rfl (uO 5 [] _ (.pointer (some ⟨bb, offb + 0 * 14, none⟩)) rfl (by kernel_rfl) (by kernel_rfl) (by kernel_rfl) yI (by kernel_rfl) (fun w _ => jJ (b := bb) (off := offb) (c := c2) (n := b1.length) (k := .i64) (j := 0) (e := 80) (sz := 14) rfl (by kernel_rfl) hB (by kernel_rfl) (by kernel_rfl) (by kernel_rfl) (by omega) (by omega) (by omega) w) (ZT 6 [] _ (.pointer (some ⟨bb, offb + 0 * 14 + 7, none⟩)) yI rfl (pK 7 _ (a := ⟨bb, offb + 0 * 14 + 7, none⟩) (zA u.hi) rfl (by kernel_rfl) (by kernel_rfl) (by kernel_rfl) yI (fun w hO => Own.sub [] hO) (by kernel_rfl) rfl (by kernel_rfl) (fun w hO => yD yB (fun j u h => (hO.below.cell (p := ⟨bb, offb + j, none⟩) hltb).trans (hcelb j u h)) 0 7 hkb (by omega) _ (by rw [hu1]; kernel_rfl)) (h_three 8 12 13 (by kernel_rfl) ?_ ?_ ?_))))))))
              · refine xL [] _ (k := 130) (args := #[zA s.hi, zA u.hi]) (.tuple #[zA (yR s.hi u.hi), zA (yX s.hi u.hi)]) rfl (by kernel_rfl) (fun _ => by kernel_rfl) (fun w _ => qC s.hi u.hi w hsk.2 huk.2) ?_
                refine ZT 9 [] _ (.tuple #[zA (yR s.hi u.hi), zA (yX s.hi u.hi)]) yI rfl (ZT 10 [] _ (zA (yR s.hi u.hi)) yI rfl (ZT 11 [] _ (zA (yX s.hi u.hi)) yI rfl (d9 12 13 (by kernel_rfl) ?_ ?_)))
                · refine yM [] _ (.agg #[.int .i64 0, .int .i64 0, .int .i64 0, .int .i64 0, .string ⟨#[]⟩, .string ⟨#[]⟩, .bool false]) rfl (by kernel_rfl) rfl (by kernel_rfl) (fun b3 => ?_)
                  exact zY 13 (by kernel_rfl) (yM [⟨b3, #[.int .i64 0, .int .i64 0, .int .i64 0, .int .i64 0, .string ⟨#[]⟩, .string ⟨#[]⟩, .bool false], 78⟩] _ (.agg #[.int .i64 0, .int .i64 0, .int .i64 0, .int .i64 0, .string ⟨#[]⟩, .string ⟨#[]⟩, .bool false]) rfl (by kernel_rfl) rfl (by kernel_rfl) (fun b4 => zY 14 (by kernel_rfl) (ZS [⟨b4, #[.int .i64 0, .int .i64 0, .int .i64 0, .int .i64 0, .string ⟨#[]⟩, .string ⟨#[]⟩, .bool false], 78⟩, ⟨b3, #[.int .i64 0, .int .i64 0, .int .i64 0, .int .i64 0, .string ⟨#[]⟩, .string ⟨#[]⟩, .bool false], 78⟩] _ 1 ⟨b3, #[.int .i64 0, .int .i64 0, .int .i64 0, .int .i64 0, .string ⟨#[]⟩, .string ⟨#[]⟩, .bool false], 78⟩ (off := 0) (zA (yR s.hi u.hi)) rfl rfl (zY 15 (by kernel_rfl) (ZS [⟨b4, #[.int .i64 0, .int .i64 0, .int .i64 0, .int .i64 0, .string ⟨#[]⟩, .string ⟨#[]⟩, .bool false], 78⟩, ⟨b3, (zA (yR s.hi u.hi)).cells, 78⟩] _ 0 ⟨b4, #[.int .i64 0, .int .i64 0, .int .i64 0, .int .i64 0, .string ⟨#[]⟩, .string ⟨#[]⟩, .bool false], 78⟩ (off := 0) (zA (yX s.hi u.hi)) rfl rfl (yO (by kernel_rfl) (yL ⟨b3, b4, _, rfl, ZU⟩)))))))
                exact yM [] _ (.agg #[.int .i64 0, .int .i64 0, .int .i64 0, .int .i64 0, .string ⟨#[]⟩, .string ⟨#[]⟩, .bool false]) rfl (by kernel_rfl) rfl (by kernel_rfl) (fun b3 => zY 12 (by kernel_rfl) (yM [⟨b3, #[.int .i64 0, .int .i64 0, .int .i64 0, .int .i64 0, .string ⟨#[]⟩, .string ⟨#[]⟩, .bool false], 78⟩] _ (.agg #[.int .i64 0, .int .i64 0, .int .i64 0, .int .i64 0, .string ⟨#[]⟩, .string ⟨#[]⟩, .bool false]) rfl (by kernel_rfl) rfl (by kernel_rfl) (fun b4 => zY 14 (by kernel_rfl) (ZS [⟨b4, #[.int .i64 0, .int .i64 0, .int .i64 0, .int .i64 0, .string ⟨#[]⟩, .string ⟨#[]⟩, .bool false], 78⟩, ⟨b3, #[.int .i64 0, .int .i64 0, .int .i64 0, .int .i64 0, .string ⟨#[]⟩, .string ⟨#[]⟩, .bool false], 78⟩] _ 0 ⟨b4, #[.int .i64 0, .int .i64 0, .int .i64 0, .int .i64 0, .string ⟨#[]⟩, .string ⟨#[]⟩, .bool false], 78⟩ (off := 0) (zA (yR s.hi u.hi)) rfl rfl (zY 15 (by kernel_rfl) (ZS [⟨b4, (zA (yR s.hi u.hi)).cells, 78⟩, ⟨b3, #[.int .i64 0, .int .i64 0, .int .i64 0, .int .i64 0, .string ⟨#[]⟩, .string ⟨#[]⟩, .bool false], 78⟩] _ 1 ⟨b3, #[.int .i64 0, .int .i64 0, .int .i64 0, .int .i64 0, .string ⟨#[]⟩, .string ⟨#[]⟩, .bool false], 78⟩ (off := 0) (zA (yX s.hi u.hi)) rfl rfl (yO (by kernel_rfl) (jS (yL ⟨b4, b3, _, rfl, ZU⟩)))))))))
              · refine yM [] _ (.agg #[.int .i64 0, .int .i64 0, .int .i64 0, .int .i64 0, .string ⟨#[]⟩, .string ⟨#[]⟩, .bool false]) rfl (by kernel_rfl) rfl (by kernel_rfl) (fun b3 => ?_)
                refine d9 8 13 (by kernel_rfl) ?_ ?_
                · refine xL [⟨b3, #[.int .i64 0, .int .i64 0, .int .i64 0, .int .i64 0, .string ⟨#[]⟩, .string ⟨#[]⟩, .bool false], 78⟩] _ (k := 130) (args := #[zA s.hi, zA u.hi]) (.tuple #[zA (yR s.hi u.hi), zA (yX s.hi u.hi)]) rfl (by kernel_rfl) (fun _ => by kernel_rfl) (fun w _ => qC s.hi u.hi w hsk.2 huk.2) ?_
                  exact ZT 9 [⟨b3, #[.int .i64 0, .int .i64 0, .int .i64 0, .int .i64 0, .string ⟨#[]⟩, .string ⟨#[]⟩, .bool false], 78⟩] _ (.tuple #[zA (yR s.hi u.hi), zA (yX s.hi u.hi)]) yI rfl (ZT 10 [⟨b3, #[.int .i64 0, .int .i64 0, .int .i64 0, .int .i64 0, .string ⟨#[]⟩, .string ⟨#[]⟩, .bool false], 78⟩] _ (zA (yR s.hi u.hi)) yI rfl (ZT 11 [⟨b3, #[.int .i64 0, .int .i64 0, .int .i64 0, .int .i64 0, .string ⟨#[]⟩, .string ⟨#[]⟩, .bool false], 78⟩] _ (zA (yX s.hi u.hi)) yI rfl (zY 13 (by kernel_rfl) (yM [⟨b3, #[.int .i64 0, .int .i64 0, .int .i64 0, .int .i64 0, .string ⟨#[]⟩, .string ⟨#[]⟩, .bool false], 78⟩] _ (.agg #[.int .i64 0, .int .i64 0, .int .i64 0, .int .i64 0, .string ⟨#[]⟩, .string ⟨#[]⟩, .bool false]) rfl (by kernel_rfl) rfl (by kernel_rfl) (fun b4 => zY 14 (by kernel_rfl) (ZS [⟨b4, #[.int .i64 0, .int .i64 0, .int .i64 0, .int .i64 0, .string ⟨#[]⟩, .string ⟨#[]⟩, .bool false], 78⟩, ⟨b3, #[.int .i64 0, .int .i64 0, .int .i64 0, .int .i64 0, .string ⟨#[]⟩, .string ⟨#[]⟩, .bool false], 78⟩] _ 1 ⟨b3, #[.int .i64 0, .int .i64 0, .int .i64 0, .int .i64 0, .string ⟨#[]⟩, .string ⟨#[]⟩, .bool false], 78⟩ (off := 0) (zA (yR s.hi u.hi)) rfl rfl (zY 15 (by kernel_rfl) (ZS [⟨b4, #[.int .i64 0, .int .i64 0, .int .i64 0, .int .i64 0, .string ⟨#[]⟩, .string ⟨#[]⟩, .bool false], 78⟩, ⟨b3, (zA (yR s.hi u.hi)).cells, 78⟩] _ 0 ⟨b4, #[.int .i64 0, .int .i64 0, .int .i64 0, .int .i64 0, .string ⟨#[]⟩, .string ⟨#[]⟩, .bool false], 78⟩ (off := 0) (zA (yX s.hi u.hi)) rfl rfl (yO (by kernel_rfl) (yL ⟨b3, b4, _, rfl, ZU⟩))))))))))
                exact yM [⟨b3, #[.int .i64 0, .int .i64 0, .int .i64 0, .int .i64 0, .string ⟨#[]⟩, .string ⟨#[]⟩, .bool false], 78⟩] _ (.agg #[.int .i64 0, .int .i64 0, .int .i64 0, .int .i64 0, .string ⟨#[]⟩, .string ⟨#[]⟩, .bool false]) rfl (by kernel_rfl) rfl (by kernel_rfl) (fun b4 => zY 8 (by kernel_rfl) (xL [⟨b4, #[.int .i64 0, .int .i64 0, .int .i64 0, .int .i64 0, .string ⟨#[]⟩, .string ⟨#[]⟩, .bool false], 78⟩, ⟨b3, #[.int .i64 0, .int .i64 0, .int .i64 0, .int .i64 0, .string ⟨#[]⟩, .string ⟨#[]⟩, .bool false], 78⟩] _ (k := 130) (args := #[zA s.hi, zA u.hi]) (.tuple #[zA (yR s.hi u.hi), zA (yX s.hi u.hi)]) rfl (by kernel_rfl) (fun _ => by kernel_rfl) (fun w _ => qC s.hi u.hi w hsk.2 huk.2) (ZT 9 [⟨b4, #[.int .i64 0, .int .i64 0, .int .i64 0, .int .i64 0, .string ⟨#[]⟩, .string ⟨#[]⟩, .bool false], 78⟩, ⟨b3, #[.int .i64 0, .int .i64 0, .int .i64 0, .int .i64 0, .string ⟨#[]⟩, .string ⟨#[]⟩, .bool false], 78⟩] _ (.tuple #[zA (yR s.hi u.hi), zA (yX s.hi u.hi)]) yI rfl (ZT 10 [⟨b4, #[.int .i64 0, .int .i64 0, .int .i64 0, .int .i64 0, .string ⟨#[]⟩, .string ⟨#[]⟩, .bool false], 78⟩, ⟨b3, #[.int .i64 0, .int .i64 0, .int .i64 0, .int .i64 0, .string ⟨#[]⟩, .string ⟨#[]⟩, .bool false], 78⟩] _ (zA (yR s.hi u.hi)) yI rfl (ZT 11 [⟨b4, #[.int .i64 0, .int .i64 0, .int .i64 0, .int .i64 0, .string ⟨#[]⟩, .string ⟨#[]⟩, .bool false], 78⟩, ⟨b3, #[.int .i64 0, .int .i64 0, .int .i64 0, .int .i64 0, .string ⟨#[]⟩, .string ⟨#[]⟩, .bool false], 78⟩] _ (zA (yX s.hi u.hi)) yI rfl (zY 14 (by kernel_rfl) (ZS [⟨b4, #[.int .i64 0, .int .i64 0, .int .i64 0, .int .i64 0, .string ⟨#[]⟩, .string ⟨#[]⟩, .bool false], 78⟩, ⟨b3, #[.int .i64 0, .int .i64 0, .int .i64 0, .int .i64 0, .string ⟨#[]⟩, .string ⟨#[]⟩, .bool false], 78⟩] _ 1 ⟨b3, #[.int .i64 0, .int .i64 0, .int .i64 0, .int .i64 0, .string ⟨#[]⟩, .string ⟨#[]⟩, .bool false], 78⟩ (off := 0) (zA (yR s.hi u.hi)) rfl rfl (zY 15 (by kernel_rfl) (ZS [⟨b4, #[.int .i64 0, .int .i64 0, .int .i64 0, .int .i64 0, .string ⟨#[]⟩, .string ⟨#[]⟩, .bool false], 78⟩, ⟨b3, (zA (yR s.hi u.hi)).cells, 78⟩] _ 0 ⟨b4, #[.int .i64 0, .int .i64 0, .int .i64 0, .int .i64 0, .string ⟨#[]⟩, .string ⟨#[]⟩, .bool false], 78⟩ (off := 0) (zA (yX s.hi u.hi)) rfl rfl (yO (by kernel_rfl) (yL ⟨b3, b4, _, rfl, ZU⟩)))))))))))
              refine yM [] _ (.agg #[.int .i64 0, .int .i64 0, .int .i64 0, .int .i64 0, .string ⟨#[]⟩, .string ⟨#[]⟩, .bool false]) rfl (by kernel_rfl) rfl (by kernel_rfl) (fun b3 => d9 8 12 (by kernel_rfl) ?_ ?_)
              · refine xL [⟨b3, #[.int .i64 0, .int .i64 0, .int .i64 0, .int .i64 0, .string ⟨#[]⟩, .string ⟨#[]⟩, .bool false], 78⟩] _ (k := 130) (args := #[zA s.hi, zA u.hi]) (.tuple #[zA (yR s.hi u.hi), zA (yX s.hi u.hi)]) rfl (by kernel_rfl) (fun _ => by kernel_rfl) (fun w _ => qC s.hi u.hi w hsk.2 huk.2) ?_
                exact ZT 9 [⟨b3, #[.int .i64 0, .int .i64 0, .int .i64 0, .int .i64 0, .string ⟨#[]⟩, .string ⟨#[]⟩, .bool false], 78⟩] _ (.tuple #[zA (yR s.hi u.hi), zA (yX s.hi u.hi)]) yI rfl (ZT 10 [⟨b3, #[.int .i64 0, .int .i64 0, .int .i64 0, .int .i64 0, .string ⟨#[]⟩, .string ⟨#[]⟩, .bool false], 78⟩] _ (zA (yR s.hi u.hi)) yI rfl (ZT 11 [⟨b3, #[.int .i64 0, .int .i64 0, .int .i64 0, .int .i64 0, .string ⟨#[]⟩, .string ⟨#[]⟩, .bool false], 78⟩] _ (zA (yX s.hi u.hi)) yI rfl (zY 12 (by kernel_rfl) (yM [⟨b3, #[.int .i64 0, .int .i64 0, .int .i64 0, .int .i64 0, .string ⟨#[]⟩, .string ⟨#[]⟩, .bool false], 78⟩] _ (.agg #[.int .i64 0, .int .i64 0, .int .i64 0, .int .i64 0, .string ⟨#[]⟩, .string ⟨#[]⟩, .bool false]) rfl (by kernel_rfl) rfl (by kernel_rfl) (fun b4 => zY 14 (by kernel_rfl) (ZS [⟨b4, #[.int .i64 0, .int .i64 0, .int .i64 0, .int .i64 0, .string ⟨#[]⟩, .string ⟨#[]⟩, .bool false], 78⟩, ⟨b3, #[.int .i64 0, .int .i64 0, .int .i64 0, .int .i64 0, .string ⟨#[]⟩, .string ⟨#[]⟩, .bool false], 78⟩] _ 0 ⟨b4, #[.int .i64 0, .int .i64 0, .int .i64 0, .int .i64 0, .string ⟨#[]⟩, .string ⟨#[]⟩, .bool false], 78⟩ (off := 0) (zA (yR s.hi u.hi)) rfl rfl (zY 15 (by kernel_rfl) (ZS [⟨b4, (zA (yR s.hi u.hi)).cells, 78⟩, ⟨b3, #[.int .i64 0, .int .i64 0, .int .i64 0, .int .i64 0, .string ⟨#[]⟩, .string ⟨#[]⟩, .bool false], 78⟩] _ 1 ⟨b3, #[.int .i64 0, .int .i64 0, .int .i64 0, .int .i64 0, .string ⟨#[]⟩, .string ⟨#[]⟩, .bool false], 78⟩ (off := 0) (zA (yX s.hi u.hi)) rfl rfl (yO (by kernel_rfl) (jS (yL ⟨b4, b3, _, rfl, ZU⟩)))))))))))
              refine yM [⟨b3, #[.int .i64 0, .int .i64 0, .int .i64 0, .int .i64 0, .string ⟨#[]⟩, .string ⟨#[]⟩, .bool false], 78⟩] _ (.agg #[.int .i64 0, .int .i64 0, .int .i64 0, .int .i64 0, .string ⟨#[]⟩, .string ⟨#[]⟩, .bool false]) rfl (by kernel_rfl) rfl (by kernel_rfl) (fun b4 => zY 8 (by kernel_rfl) (xL [⟨b4, #[.int .i64 0, .int .i64 0, .int .i64 0, .int .i64 0, .string ⟨#[]⟩, .string ⟨#[]⟩, .bool false], 78⟩, ⟨b3, #[.int .i64 0, .int .i64 0, .int .i64 0, .int .i64 0, .string ⟨#[]⟩, .string ⟨#[]⟩, .bool false], 78⟩] _ (k := 130) (args := #[zA s.hi, zA u.hi]) (.tuple #[zA (yR s.hi u.hi), zA (yX s.hi u.hi)]) rfl (by kernel_rfl) (fun _ => by kernel_rfl) (fun w _ => qC s.hi u.hi w hsk.2 huk.2) (ZT 9 [⟨b4, #[.int .i64 0, .int .i64 0, .int .i64 0, .int .i64 0, .string ⟨#[]⟩, .string ⟨#[]⟩, .bool false], 78⟩, ⟨b3, #[.int .i64 0, .int .i64 0, .int .i64 0, .int .i64 0, .string ⟨#[]⟩, .string ⟨#[]⟩, .bool false], 78⟩] _ (.tuple #[zA (yR s.hi u.hi), zA (yX s.hi u.hi)]) yI rfl (ZT 10 [⟨b4, #[.int .i64 0, .int .i64 0, .int .i64 0, .int .i64 0, .string ⟨#[]⟩, .string ⟨#[]⟩, .bool false], 78⟩, ⟨b3, #[.int .i64 0, .int .i64 0, .int .i64 0, .int .i64 0, .string ⟨#[]⟩, .string ⟨#[]⟩, .bool false], 78⟩] _ (zA (yR s.hi u.hi)) yI rfl (ZT 11 [⟨b4, #[.int .i64 0, .int .i64 0, .int .i64 0, .int .i64 0, .string ⟨#[]⟩, .string ⟨#[]⟩, .bool false], 78⟩, ⟨b3, #[.int .i64 0, .int .i64 0, .int .i64 0, .int .i64 0, .string ⟨#[]⟩, .string ⟨#[]⟩, .bool false], 78⟩] _ (zA (yX s.hi u.hi)) yI rfl (zY 14 (by kernel_rfl) (ZS [⟨b4, #[.int .i64 0, .int .i64 0, .int .i64 0, .int .i64 0, .string ⟨#[]⟩, .string ⟨#[]⟩, .bool false], 78⟩, ⟨b3, #[.int .i64 0, .int .i64 0, .int .i64 0, .int .i64 0, .string ⟨#[]⟩, .string ⟨#[]⟩, .bool false], 78⟩] _ 0 ⟨b4, #[.int .i64 0, .int .i64 0, .int .i64 0, .int .i64 0, .string ⟨#[]⟩, .string ⟨#[]⟩, .bool false], 78⟩ (off := 0) (zA (yR s.hi u.hi)) rfl rfl (zY 15 (by kernel_rfl) (ZS [⟨b4, (zA (yR s.hi u.hi)).cells, 78⟩, ⟨b3, #[.int .i64 0, .int .i64 0, .int .i64 0, .int .i64 0, .string ⟨#[]⟩, .string ⟨#[]⟩, .bool false], 78⟩] _ 1 ⟨b3, #[.int .i64 0, .int .i64 0, .int .i64 0, .int .i64 0, .string ⟨#[]⟩, .string ⟨#[]⟩, .bool false], 78⟩ (off := 0) (zA (yX s.hi u.hi)) rfl rfl (yO (by kernel_rfl) (jS ?_)))))))))))
              exact yL ⟨b4, b3, _, rfl, ZU⟩
            · rintro L f ⟨p8, p9, j, rfl, rfl⟩
              refine zB (ZO (Zv (v) (Zl 2 ⟨p7, (zA (yX s.lo u.lo)).cells, 78⟩ (off := 0) (zA (yX s.lo u.lo)) (Zl 1 ⟨p8, (zA (yR s.hi u.hi)).cells, 78⟩ (off := 0) (zA (yR s.hi u.hi)) (yK (k := 131) (args := #[v, zA (yX s.lo u.lo), zA (yR s.hi u.hi)]) (fun v' L' => ∃ ob', L' = [⟨p9, (zA (yX s.hi u.hi)).cells, 78⟩, ⟨p8, (zA (yR s.hi u.hi)).cells, 78⟩, ⟨p7, (zA (yX s.lo u.lo)).cells, 78⟩, ⟨p6, (zA (yR s.lo u.lo)).cells, 78⟩] ++ ob' ∧ SlS v' (gY out (yX s.lo u.lo) (yR s.hi u.hi)) ob') (by kernel_rfl) (fun _ => by kernel_rfl) (fun w hO => add_call (E := [⟨p9, (zA (yX s.hi u.hi)).cells, 78⟩, ⟨p8, (zA (yR s.hi u.hi)).cells, 78⟩, ⟨p7, (zA (yX s.lo u.lo)).cells, 78⟩, ⟨p6, (zA (yR s.lo u.lo)).cells, 78⟩]) (yX s.lo u.lo) (yR s.hi u.hi) hO hrel.sl (by omega) hrel.so (dZ hsk.1 huk.1) (pE hsk.2 huk.2)) (fun v2 L2 hv2 => ?_))))))
              obtain ⟨ob2, rfl, hs2⟩ := hv2
              refine Zv (v2) (ZN (z6 (vK (by kernel_rfl) (by kernel_rfl) (Zw (.slice A1 a1.length c1) (gF (.pointer (some ⟨ba, offa + 0 * 14, none⟩)) (by kernel_rfl) (ZA (b := ba) (off := offa) (c := c1) (n := a1.length) (k := .i64) (j := 0) (e := 80) (sz := 14) hA) (Zw (.pointer (some ⟨ba, offa + 0 * 14 + 7, none⟩)) (q_old (zA s.hi) (a := ⟨ba, offa + 0 * 14 + 7, none⟩) (by kernel_rfl) rfl (by kernel_rfl) (fun w hO => yD yB (fun j u h => (hO.below.cell (p := ⟨ba, offa + j, none⟩) hlta).trans (hcela j u h)) 0 7 hka (by omega) _ (by rw [hs]; kernel_rfl)) (Zm 1 ⟨p8, (zA (yR s.hi u.hi)).cells, 78⟩ (off := 0) (zA (yR s.hi u.hi)) ?_))))))))
              by_cases h5 : s.hi = yR s.hi u.hi
              · refine gF (.bool true) (by kernel_rfl) (j9 (u := s.hi) (v := yR s.hi u.hi) rfl (by kernel_rfl) (by kernel_rfl) (decide_eq_true (h5))) ?_
                refine kP (zB (Zt (z7 (Zv (.slice A1 a1.length c1) (zX (.slice (some ⟨ba, offa + (if c1 = (1 : Int).toNat then 0 else (1 : Int).toNat * 14), none⟩) (a1.length - (1 : Int).toNat) (c1 - (1 : Int).toNat)) (by kernel_rfl) (run_sllA (n := a1.length) (c := c1) (k := .i64) (j := 1) (e := 80) (sz := 14) rfl (by kernel_rfl) hA (by kernel_rfl) (by kernel_rfl) (by kernel_rfl) (by omega) (by omega)) (Zv (.slice (some ⟨ba, offa + (if c1 = (1 : Int).toNat then 0 else (1 : Int).toNat * 14), none⟩) (a1.length - (1 : Int).toNat) (c1 - (1 : Int).toNat)) (zP (zS (xG (L' := ob2 ++ []) (fun w hO => by rw [List.append_nil]; exact Own.sub [_, _, _, _] hO) ?_)))))))))
                have hd1 : (a1.drop 1).length = a1.length - 1 := List.length_drop
                exact zU (m' := (a1.drop 1).length + b1.length) (by omega) ⟨some ⟨ba, offa + (if c1 = (1 : Int).toNat then 0 else (1 : Int).toNat * 14), none⟩, B1, a1.length - (1 : Int).toNat, b1.length, c1 - (1 : Int).toNat, c2, n - 1, a1.drop 1, b1, v2, gY out (yX s.lo u.lo) (yR s.hi u.hi), ob2, _, ⟨by rw [List.length_drop]; rfl, rfl, hrel.stepA hka hkb hs hu1 hA (by assumption) hs2⟩, rfl, ZU, rfl⟩
              refine gF (.bool false) (by kernel_rfl) (j9 (u := s.hi) (v := yR s.hi u.hi) rfl (by kernel_rfl) (by kernel_rfl) (decide_eq_false (h5))) (kP (zB (Zf (z7 (Zv (.slice B1 b1.length c2) (zX (.slice (some ⟨bb, offb + (if c2 = (1 : Int).toNat then 0 else (1 : Int).toNat * 14), none⟩) (b1.length - (1 : Int).toNat) (c2 - (1 : Int).toNat)) (by kernel_rfl) (run_sllA (n := b1.length) (c := c2) (k := .i64) (j := 1) (e := 80) (sz := 14) rfl (by kernel_rfl) hB (by kernel_rfl) (by kernel_rfl) (by kernel_rfl) (by omega) (by omega)) (Zv (.slice (some ⟨bb, offb + (if c2 = (1 : Int).toNat then 0 else (1 : Int).toNat * 14), none⟩) (b1.length - (1 : Int).toNat) (c2 - (1 : Int).toNat)) (zP (zS (xG (L' := ob2 ++ []) (fun w hO => by rw [List.append_nil]; exact Own.sub [_, _, _, _] hO) ?_))))))))))
              have hd1 : (b1.drop 1).length = b1.length - 1 := List.length_drop
              exact zU (m' := a1.length + (b1.drop 1).length) (by omega) ⟨A1, some ⟨bb, offb + (if c2 = (1 : Int).toNat then 0 else (1 : Int).toNat * 14), none⟩, a1.length, b1.length - (1 : Int).toNat, c1, c2 - (1 : Int).toNat, n - 1, a1, b1.drop 1, v2, gY out (yX s.lo u.lo) (yR s.hi u.hi), ob2, _, ⟨rfl, by rw [List.length_drop]; rfl, hrel.stepB hka hkb hs hu1 hB (by assumption) hs2⟩, rfl, ZU, rfl⟩
        refine Zd (p := (0 : Int) < (b1.length : Int)) false (decide_eq_false (h4)) (Zv (.bool false) (ZX (y8 (zD (zN (zI (zB (z6 (z7 ?_)))))))))
        exact Zv (v) (yK (k := 132) (args := #[v]) (fun v' L' => SlS v' out L') (by kernel_rfl) (fun _ => by kernel_rfl) (fun w hO => (uU (E := []) hO hrel.sl (by omega) hrel.so).mono fun e w' ⟨v', L', k1, ⟨ob', k2, k3⟩, k4⟩ => ⟨v', L', k1, by subst k2; exact k3, k4⟩) (fun v4 ob4 hs4 => Zv (v4) (ZN (zC (ZF (v4) Tryz.results81 (fun w hO => ⟨v4, ob4, rfl, by rw [if_pos (by simp), ← andG_eq (by assumption) (by assumption), hrel.eq, andG_end (by omega)]; exact hs4, hO⟩))))))
      refine Zd (p := (0 : Int) < (a1.length : Int)) false (decide_eq_false (h3)) (Zv (.bool false) (Zk (Zk (Zk (Zv (.bool false) (ZX (y8 (zD (zN ?_)))))))))
      exact zI (zB (ZO (Zv (v) (yK (k := 132) (args := #[v]) (fun v' L' => SlS v' out L') (by kernel_rfl) (fun _ => by kernel_rfl) (fun w hO => (uU (E := []) hO hrel.sl (by omega) hrel.so).mono fun e w' ⟨v', L', k1, ⟨ob', k2, k3⟩, k4⟩ => ⟨v', L', k1, by subst k2; exact k3, k4⟩) (fun v4 ob4 hs4 => Zv (v4) (ZN (zC (ZF (v4) Tryz.results81 (fun w hO => ⟨v4, ob4, rfl, by rw [if_pos (by simp), ← andG_eq (by assumption) (by assumption), hrel.eq, andG_end (by omega)]; exact hs4, hO⟩)))))))))
    | false =>
      refine Zv (.bool true) (Zv (.bool true) (ZY (ZO (Zv (.slice none 0 0) (ZN (zC (z8 ?_)))))))
      exact ZF (.slice none 0 0) Tryz.results81 (fun w hO => ⟨_, [], rfl, by rw [if_neg (by simp)]; exact Sl.nil _ _, by simpa using hO⟩)
  | false =>
    refine Zv (.bool true) (Zv (.bool true) (Zk (Zk (Zk (Zv (.bool true) (ZY (ZO (Zv (.slice none 0 0) ?_))))))))
    exact ZN (zC (z8 (ZF (.slice none 0 0) Tryz.results81 (fun w hO => ⟨_, [], rfl, by rw [if_neg (by simp)]; exact Sl.nil _ _, by simpa using hO⟩))))
end
section
def nC (v : Ver) : Ver := { v with pre := [] }
theorem tH {v : Ver} (h : v.build = []) : nC v = n8 v := by
  obtain ⟨a, b, c, p, q⟩ := v
  simp only at h; subst h; rfl
theorem rel_least {v : Ver} : n8 v = Ver.zero ↔ qZ v = true := by
  unfold n8 qZ Ver.rel Ver.zero
  simp only [Ver.mk.injEq, and_true, Bool.and_eq_true, decide_eq_true_eq, and_assoc]
theorem relA_zero {v : Ver} (h : n8 v = Ver.zero) : relA v = zZ (-1) := by unfold relA; rw [rel_least.1 h]; rfl
theorem relA_one {v : Ver} (h : ¬ n8 v = Ver.zero) : relA v = ⟨0, n8 v, false⟩ := by
  unfold relA
  rw [show qZ v = false from Bool.eq_false_iff.2 fun e => h (rel_least.2 e)]; rfl
theorem rel_self {v : Ver} (h1 : v.pre = []) (h2 : v.build = []) : n8 v = v := by
  obtain ⟨a, b, c, p, q⟩ := v
  simp only at h1 h2; subst h1; subst h2; rfl
theorem next_pre {v : Ver} (h : v.may = true) (hp : v.pre ≠ []) : x1 v = n8 v ∧ gD v = true := by
  have e : v.pre.isEmpty = false := by cases hq : v.pre with
    | nil => exact absurd hq hp
    | cons _ _ => rfl
  unfold x1 gD
  rw [h, e]; exact ⟨rfl, rfl⟩
theorem next_pos {v : Ver} (h : v.may = true) (hp : v.pre = []) (ho : gD v = true) : ¬ nC (x1 v) = Ver.zero := by
  intro e
  rcases next_is h with ⟨k, _⟩ | ⟨_, a, b, c, e1, e2, ⟨_, e3⟩ | ⟨e3, _⟩⟩
  · rw [ho] at k; cases k
  · have hn := vV h
    rw [e1] at e
    have h4 : (Ver.rel a b c).code = 0 := by
      have : Ver.rel a b c = Ver.zero := e
      rw [this]; rfl
    rw [h4] at e3
    unfold Ver.code at e3; omega
  · exact e3 hp
theorem pre0_next (v : Ver) : nC (x1 v) = x1 v := by
  have h := (next_flat v).1
  generalize x1 v = u at h ⊢
  obtain ⟨a, b, c, p, q⟩ := u
  simp only at h; subst h; rfl
theorem nO {c : Cu} (h : ¬ c.e = 0) : kJ c = c := by unfold kJ; rw [if_pos h]
theorem mF {c : Cu} (hm : c.may = true) (h0 : c.e = 0) (ha : c.aft = true) (ho : gD c.v = false) : kJ c = zZ 1 := by
  have hb := vL hm
  have hp : c.v.pre = [] := Classical.byContradiction fun hp => by rw [(next_pre (vS hm) hp).2] at ho; cases ho
  unfold kJ relB
  rw [if_neg (by omega), if_pos ⟨ha, hp⟩, rel_self hp hb, ho]; rfl
theorem bO {c : Cu} (hm : c.may = true) (h0 : c.e = 0) (ha : c.aft = true) (ho : gD c.v = true) (hz : nC (x1 c.v) = Ver.zero) : kJ c = zZ (-1) := by
  have hp : ¬ c.v.pre = [] := fun hp => next_pos (vS hm) hp ho hz
  unfold kJ
  rw [if_neg (by omega), if_neg (fun h => hp h.2)]
  refine relA_zero ?_
  rw [← (next_pre (vS hm) hp).1, ← pre0_next]; exact hz
theorem bN {c : Cu} (hm : c.may = true) (h0 : c.e = 0) (ha : c.aft = true) (ho : gD c.v = true) (hz : ¬ nC (x1 c.v) = Ver.zero) : kJ c = ⟨0, nC (x1 c.v), false⟩ := by
  have hb := vL hm
  rw [pre0_next] at hz ⊢
  unfold kJ
  by_cases hp : c.v.pre = []
  · rw [if_neg (by omega), if_pos ⟨ha, hp⟩]
    unfold relB
    rw [rel_self hp hb, ho]; rfl
  · rw [(next_pre (vS hm) hp).1] at hz ⊢
    rw [if_neg (by omega), if_neg (fun h => hp h.2)]
    exact relA_one hz
theorem tr_at0 {c : Cu} (hm : c.may = true) (h0 : c.e = 0) (ha : c.aft = false) (hz : nC c.v = Ver.zero) : kJ c = zZ (-1) := by
  unfold kJ
  rw [if_neg (by omega), if_neg (fun h => by rw [ha] at h; cases h.1)]
  exact relA_zero (by rw [← tH (vL hm)]; exact hz)
theorem nP {c : Cu} (hm : c.may = true) (h0 : c.e = 0) (ha : c.aft = false) (hz : ¬ nC c.v = Ver.zero) : kJ c = ⟨0, nC c.v, false⟩ := by
  unfold kJ
  rw [if_neg (by omega), if_neg (fun h => by rw [ha] at h; cases h.1), tH (vL hm)]
  exact relA_one (by rw [← tH (vL hm)]; exact hz)
theorem turn_right {c : Cu} (hm : c.may = true) : decide (c = kJ c) = x6 c := by
  cases h : x6 c with
  | false => exact decide_eq_false fun e => by rw [e, (mE hm).2] at h; cases h
  | true =>
    refine decide_eq_true ?_
    by_cases h0 : c.e = 0
    · have hr := h
      unfold x6 at hr
      rw [decide_eq_false (by simpa using h0), Bool.false_or] at hr
      simp only [Bool.and_eq_true, Bool.not_eq_true', decide_eq_true_eq] at hr
      obtain ⟨⟨ha, hp⟩, hl⟩ := hr
      have e1 : nC c.v = c.v := by
        have := vL hm
        rw [tH this, rel_self hp this]
      rw [nP hm h0 ha (by rw [e1]; intro e; rw [e] at hl; revert hl; decide), e1]
      obtain ⟨e, v, a⟩ := c
      simp only at h0 ha; subst h0; subst ha; rfl
    · exact (nO h0).symm
theorem toRel_any (c : Cu) (W : World) (hc : c.short) (hm : c.may = true) : Calls Tryz.prog 138 #[zA c] W fun e w' => e = .returned (zA (kJ c)) ∧ Below W.heap.size W w' := by
  refine zQ (n := 30) Tryz.func138 rfl (by kernel_rfl) (by kernel_rfl) (ZO (Zb (zA c) (fun b1 => Za (.agg #[.int .i64 0, .int .i64 0, .int .i64 0, .int .i64 0, .string ⟨#[]⟩, .string ⟨#[]⟩, .bool false]) (fun b2 => ZN (z6 (ZO (Zv (.pointer (some ⟨b1, 0, none⟩)) (Zl 1 ⟨b1, (zA c).cells, 78⟩ (off := 0) (.int .i64 c.e) ?_))))))))
  by_cases h1 : (c.e : Int) = 0
  · refine uN (p := (c.e : Int) = 0) true (by kernel_rfl) (fun _ => by kernel_rfl) (decide_eq_true (h1)) ?_
    refine ZX (ZB (ZO (Zv (.pointer (some ⟨b1, 1, none⟩)) (Zl 1 ⟨b1, (zA c).cells, 78⟩ (off := 1) (.agg #[.int .i64 c.v.maj, .int .i64 c.v.min, .int .i64 c.v.pat, .string (mkS c.v.pre), .string (mkS c.v.build)]) (Za (.agg #[.int .i64 0, .int .i64 0, .int .i64 0, .string ⟨#[]⟩, .string ⟨#[]⟩]) (fun b3 => Zs 0 ⟨b3, #[.int .i64 0, .int .i64 0, .int .i64 0, .string ⟨#[]⟩, .string ⟨#[]⟩], 44⟩ (off := 0) (.agg #[.int .i64 c.v.maj, .int .i64 c.v.min, .int .i64 c.v.pat, .string (mkS c.v.pre), .string (mkS c.v.build)]) (Zv (.bool true) ?_)))))))
    refine ZN (z6 (ZO (Zv (.pointer (some ⟨b1, 6, none⟩)) (Zl 2 ⟨b1, (zA c).cells, 78⟩ (off := 6) (.bool c.aft) (zP (zB ?_))))))
    cases h2 : c.aft with
    | true =>
      refine Zt (z7 (Zl 0 ⟨b3, #[.int .i64 c.v.maj, .int .i64 c.v.min, .int .i64 c.v.pat, .string (mkS c.v.pre), .string (mkS c.v.build)], 44⟩ (off := 0) (.agg #[.int .i64 c.v.maj, .int .i64 c.v.min, .int .i64 c.v.pat, .string (mkS c.v.pre), .string (mkS c.v.build)]) (Zc (k := 181) (args := #[.agg #[.int .i64 c.v.maj, .int .i64 c.v.min, .int .i64 c.v.pat, .string (mkS c.v.pre), .string (mkS c.v.build)]]) (.tuple #[y5 (x1 c.v), .bool (gD c.v)]) (fun w _ => vnext_any c.v w hc.1 hc.2) (Zv (.tuple #[y5 (x1 c.v), .bool (gD c.v)]) (Zv (y5 (x1 c.v)) (Zv (.bool (gD c.v)) (Zs 0 ⟨b3, #[.int .i64 c.v.maj, .int .i64 c.v.min, .int .i64 c.v.pat, .string (mkS c.v.pre), .string (mkS c.v.build)], 44⟩ (off := 0) (y5 (x1 c.v)) (Zv (.bool (gD c.v)) (ZN (z6 ?_))))))))))
      refine z7 (Zv (.pointer (some ⟨b3, 3, none⟩)) (Zs 0 ⟨b3, (y5 (x1 c.v)).cells, 44⟩ (off := 3) (.string ⟨#[]⟩) (ZN (z6 (zK (ZO (Zv (.bool (gD c.v)) ?_)))))))
      cases h3 : gD c.v with
      | true =>
        refine Zv (.bool false) (Zv (.bool false) (ZX (ZO (Zl 0 ⟨b3, #[.int .i64 ((x1 c.v).maj), .int .i64 ((x1 c.v).min), .int .i64 ((x1 c.v).pat), .string ⟨#[]⟩, .string (mkS (x1 c.v).build)], 44⟩ (off := 0) (.agg #[.int .i64 ((x1 c.v).maj), .int .i64 ((x1 c.v).min), .int .i64 ((x1 c.v).pat), .string ⟨#[]⟩, .string (mkS (x1 c.v).build)]) (Zv (.agg #[.int .i64 0, .int .i64 0, .int .i64 0, .string ⟨#[]⟩, .string ⟨#[]⟩]) ?_)))))
        by_cases h4 : nC (x1 c.v) = Ver.zero
        · refine zX (.bool true) (by kernel_rfl) (j8 (u := nC (x1 c.v)) (v := Ver.zero) rfl (by kernel_rfl) (by kernel_rfl) (decide_eq_true (h4))) ?_
          refine Zv (.bool true) (ZY (ZO (Zv (.agg #[.int .i64 (-1), .int .i64 0, .int .i64 0, .int .i64 0, .string ⟨#[]⟩, .string ⟨#[]⟩, .bool false]) (Zs 1 ⟨b2, #[.int .i64 0, .int .i64 0, .int .i64 0, .int .i64 0, .string ⟨#[]⟩, .string ⟨#[]⟩, .bool false], 78⟩ (off := 0) (.agg #[.int .i64 (-1), .int .i64 0, .int .i64 0, .int .i64 0, .string ⟨#[]⟩, .string ⟨#[]⟩, .bool false]) (ZN (zC (zF ?_)))))))
          exact z8 (ZC 1 ⟨b2, #[.int .i64 (-1), .int .i64 0, .int .i64 0, .int .i64 0, .string ⟨#[]⟩, .string ⟨#[]⟩, .bool false], 78⟩ (off := 0) (.agg #[.int .i64 (-1), .int .i64 0, .int .i64 0, .int .i64 0, .string ⟨#[]⟩, .string ⟨#[]⟩, .bool false]) Tryz.results138 (fun w hO => ⟨by first | rw [nO (by omega)] | (rw [mF hm (by omega) (by assumption) (by assumption)]; rfl) | (rw [bO hm (by omega) (by assumption) (by assumption) (by assumption)]; rfl) | (rw [bN hm (by omega) (by assumption) (by assumption) (by assumption)]; rfl) | (rw [tr_at0 hm (by omega) (by assumption) (by assumption)]; rfl) | (rw [nP hm (by omega) (by assumption) (by assumption)]; rfl), hO.below⟩))
        refine zX (.bool false) (by kernel_rfl) (j8 (u := nC (x1 c.v)) (v := Ver.zero) rfl (by kernel_rfl) (by kernel_rfl) (decide_eq_false (h4))) (Zv (.bool false) (ZX (yS (zS (zB (ZO (Zl 0 ⟨b3, #[.int .i64 ((x1 c.v).maj), .int .i64 ((x1 c.v).min), .int .i64 ((x1 c.v).pat), .string ⟨#[]⟩, .string (mkS (x1 c.v).build)], 44⟩ (off := 0) (.agg #[.int .i64 ((x1 c.v).maj), .int .i64 ((x1 c.v).min), .int .i64 ((x1 c.v).pat), .string ⟨#[]⟩, .string (mkS (x1 c.v).build)]) (Zv (.agg #[.int .i64 0, .int .i64 ((x1 c.v).maj), .int .i64 ((x1 c.v).min), .int .i64 ((x1 c.v).pat), .string ⟨#[]⟩, .string (mkS (x1 c.v).build), .bool false]) ?_))))))))
        exact Zs 1 ⟨b2, #[.int .i64 0, .int .i64 0, .int .i64 0, .int .i64 0, .string ⟨#[]⟩, .string ⟨#[]⟩, .bool false], 78⟩ (off := 0) (.agg #[.int .i64 0, .int .i64 ((x1 c.v).maj), .int .i64 ((x1 c.v).min), .int .i64 ((x1 c.v).pat), .string ⟨#[]⟩, .string (mkS (x1 c.v).build), .bool false]) (ZN (zC (ZC 1 ⟨b2, #[.int .i64 0, .int .i64 ((x1 c.v).maj), .int .i64 ((x1 c.v).min), .int .i64 ((x1 c.v).pat), .string ⟨#[]⟩, .string (mkS (x1 c.v).build), .bool false], 78⟩ (off := 0) (.agg #[.int .i64 0, .int .i64 ((x1 c.v).maj), .int .i64 ((x1 c.v).min), .int .i64 ((x1 c.v).pat), .string ⟨#[]⟩, .string (mkS (x1 c.v).build), .bool false]) Tryz.results138 (fun w hO => ⟨by first | rw [nO (by omega)] | (rw [mF hm (by omega) (by assumption) (by assumption)]; rfl) | (rw [bO hm (by omega) (by assumption) (by assumption) (by assumption)]; rfl) | (rw [bN hm (by omega) (by assumption) (by assumption) (by assumption)]; rfl) | (rw [tr_at0 hm (by omega) (by assumption) (by assumption)]; rfl) | (rw [nP hm (by omega) (by assumption) (by assumption)]; rfl), hO.below⟩))))
      | false =>
        refine Zv (.bool true) (Zv (.bool true) (ZY (ZO (Zv (.agg #[.int .i64 1, .int .i64 0, .int .i64 0, .int .i64 0, .string ⟨#[]⟩, .string ⟨#[]⟩, .bool false]) (Zs 1 ⟨b2, #[.int .i64 0, .int .i64 0, .int .i64 0, .int .i64 0, .string ⟨#[]⟩, .string ⟨#[]⟩, .bool false], 78⟩ (off := 0) (.agg #[.int .i64 1, .int .i64 0, .int .i64 0, .int .i64 0, .string ⟨#[]⟩, .string ⟨#[]⟩, .bool false]) (ZN (zC ?_)))))))
        exact zF (z8 (ZC 1 ⟨b2, #[.int .i64 1, .int .i64 0, .int .i64 0, .int .i64 0, .string ⟨#[]⟩, .string ⟨#[]⟩, .bool false], 78⟩ (off := 0) (.agg #[.int .i64 1, .int .i64 0, .int .i64 0, .int .i64 0, .string ⟨#[]⟩, .string ⟨#[]⟩, .bool false]) Tryz.results138 (fun w hO => ⟨by first | rw [nO (by omega)] | (rw [mF hm (by omega) (by assumption) (by assumption)]; rfl) | (rw [bO hm (by omega) (by assumption) (by assumption) (by assumption)]; rfl) | (rw [bN hm (by omega) (by assumption) (by assumption) (by assumption)]; rfl) | (rw [tr_at0 hm (by omega) (by assumption) (by assumption)]; rfl) | (rw [nP hm (by omega) (by assumption) (by assumption)]; rfl), hO.below⟩)))
    | false =>
      refine Zf (ZB (ZO (Zv (.pointer (some ⟨b3, 3, none⟩)) (Zs 0 ⟨b3, #[.int .i64 c.v.maj, .int .i64 c.v.min, .int .i64 c.v.pat, .string (mkS c.v.pre), .string (mkS c.v.build)], 44⟩ (off := 3) (.string ⟨#[]⟩) (ZN (z6 (zK (z6 ?_))))))))
      refine z7 (Zv (.bool true) (Zv (.bool false) (Zv (.bool false) (ZX (ZO (Zl 0 ⟨b3, #[.int .i64 c.v.maj, .int .i64 c.v.min, .int .i64 c.v.pat, .string ⟨#[]⟩, .string (mkS c.v.build)], 44⟩ (off := 0) (.agg #[.int .i64 c.v.maj, .int .i64 c.v.min, .int .i64 c.v.pat, .string ⟨#[]⟩, .string (mkS c.v.build)]) (Zv (.agg #[.int .i64 0, .int .i64 0, .int .i64 0, .string ⟨#[]⟩, .string ⟨#[]⟩]) ?_)))))))
      by_cases h5 : nC c.v = Ver.zero
      · refine zX (.bool true) (by kernel_rfl) (j8 (u := nC c.v) (v := Ver.zero) rfl (by kernel_rfl) (by kernel_rfl) (decide_eq_true (h5))) ?_
        refine Zv (.bool true) (ZY (ZO (Zv (.agg #[.int .i64 (-1), .int .i64 0, .int .i64 0, .int .i64 0, .string ⟨#[]⟩, .string ⟨#[]⟩, .bool false]) (Zs 1 ⟨b2, #[.int .i64 0, .int .i64 0, .int .i64 0, .int .i64 0, .string ⟨#[]⟩, .string ⟨#[]⟩, .bool false], 78⟩ (off := 0) (.agg #[.int .i64 (-1), .int .i64 0, .int .i64 0, .int .i64 0, .string ⟨#[]⟩, .string ⟨#[]⟩, .bool false]) (ZN (zC (zF ?_)))))))
        exact z8 (ZC 1 ⟨b2, #[.int .i64 (-1), .int .i64 0, .int .i64 0, .int .i64 0, .string ⟨#[]⟩, .string ⟨#[]⟩, .bool false], 78⟩ (off := 0) (.agg #[.int .i64 (-1), .int .i64 0, .int .i64 0, .int .i64 0, .string ⟨#[]⟩, .string ⟨#[]⟩, .bool false]) Tryz.results138 (fun w hO => ⟨by first | rw [nO (by omega)] | (rw [mF hm (by omega) (by assumption) (by assumption)]; rfl) | (rw [bO hm (by omega) (by assumption) (by assumption) (by assumption)]; rfl) | (rw [bN hm (by omega) (by assumption) (by assumption) (by assumption)]; rfl) | (rw [tr_at0 hm (by omega) (by assumption) (by assumption)]; rfl) | (rw [nP hm (by omega) (by assumption) (by assumption)]; rfl), hO.below⟩))
      refine zX (.bool false) (by kernel_rfl) (j8 (u := nC c.v) (v := Ver.zero) rfl (by kernel_rfl) (by kernel_rfl) (decide_eq_false (h5))) (Zv (.bool false) (ZX (yS (zS (zB (ZO (Zl 0 ⟨b3, #[.int .i64 c.v.maj, .int .i64 c.v.min, .int .i64 c.v.pat, .string ⟨#[]⟩, .string (mkS c.v.build)], 44⟩ (off := 0) (.agg #[.int .i64 c.v.maj, .int .i64 c.v.min, .int .i64 c.v.pat, .string ⟨#[]⟩, .string (mkS c.v.build)]) (Zv (.agg #[.int .i64 0, .int .i64 c.v.maj, .int .i64 c.v.min, .int .i64 c.v.pat, .string ⟨#[]⟩, .string (mkS c.v.build), .bool false]) ?_))))))))
      exact Zs 1 ⟨b2, #[.int .i64 0, .int .i64 0, .int .i64 0, .int .i64 0, .string ⟨#[]⟩, .string ⟨#[]⟩, .bool false], 78⟩ (off := 0) (.agg #[.int .i64 0, .int .i64 c.v.maj, .int .i64 c.v.min, .int .i64 c.v.pat, .string ⟨#[]⟩, .string (mkS c.v.build), .bool false]) (ZN (zC (ZC 1 ⟨b2, #[.int .i64 0, .int .i64 c.v.maj, .int .i64 c.v.min, .int .i64 c.v.pat, .string ⟨#[]⟩, .string (mkS c.v.build), .bool false], 78⟩ (off := 0) (.agg #[.int .i64 0, .int .i64 c.v.maj, .int .i64 c.v.min, .int .i64 c.v.pat, .string ⟨#[]⟩, .string (mkS c.v.build), .bool false]) Tryz.results138 (fun w hO => ⟨by first | rw [nO (by omega)] | (rw [mF hm (by omega) (by assumption) (by assumption)]; rfl) | (rw [bO hm (by omega) (by assumption) (by assumption) (by assumption)]; rfl) | (rw [bN hm (by omega) (by assumption) (by assumption) (by assumption)]; rfl) | (rw [tr_at0 hm (by omega) (by assumption) (by assumption)]; rfl) | (rw [nP hm (by omega) (by assumption) (by assumption)]; rfl), hO.below⟩))))
  refine Zn (p := (c.e : Int) = 0) false (decide_eq_false (h1)) (ZY (ZO (Zl 1 ⟨b1, (zA c).cells, 78⟩ (off := 0) (zA c) (Zs 0 ⟨b2, #[.int .i64 0, .int .i64 0, .int .i64 0, .int .i64 0, .string ⟨#[]⟩, .string ⟨#[]⟩, .bool false], 78⟩ (off := 0) (zA c) (ZN (zC (z8 ?_)))))))
  exact ZC 0 ⟨b2, (zA c).cells, 78⟩ (off := 0) (zA c) Tryz.results138 (fun w hO => ⟨by first | rw [nO (by omega)] | (rw [mF hm (by omega) (by assumption) (by assumption)]; rfl) | (rw [bO hm (by omega) (by assumption) (by assumption) (by assumption)]; rfl) | (rw [bN hm (by omega) (by assumption) (by assumption) (by assumption)]; rfl) | (rw [tr_at0 hm (by omega) (by assumption) (by assumption)]; rfl) | (rw [nP hm (by omega) (by assumption) (by assumption)]; rfl), hO.below⟩)
theorem mayRel_any (c : Cu) (W : World) (hc : c.short) (hm : c.may = true) : Calls Tryz.prog 208 #[zA c] W fun e w' => e = .returned (.bool (x6 c)) ∧ Below W.heap.size W w' := by
  rw [← turn_right hm]
  refine zQ (n := 7) Tryz.func208 rfl (by kernel_rfl) (by kernel_rfl) (ZO (Zb (zA c) (fun b1 => Zv (.bool false) (ZN (z6 (vK (by kernel_rfl) (by kernel_rfl) (Zm 0 ⟨b1, (zA c).cells, 78⟩ (off := 0) (zA c) (Zm 0 ⟨b1, (zA c).cells, 78⟩ (off := 0) (zA c) (Zq (k := 138) (args := #[zA c]) (zA (kJ c)) (fun w _ => toRel_any c w hc hm) ?_)))))))))
  by_cases h1 : c = kJ c
  · refine gF (.bool true) (by kernel_rfl) (j9 (u := c) (v := kJ c) rfl (by kernel_rfl) (by kernel_rfl) (decide_eq_true (h1))) ?_
    exact Zw (.bool true) (kP (zB (zC (ZF (.bool true) Tryz.results208 (fun w hO => ⟨by rw [decide_eq_true h1], hO.below⟩)))))
  exact gF (.bool false) (by kernel_rfl) (j9 (u := c) (v := kJ c) rfl (by kernel_rfl) (by kernel_rfl) (decide_eq_false (h1))) (Zw (.bool false) (kP (zB (zC (ZF (.bool false) Tryz.results208 (fun w hO => ⟨by rw [decide_eq_false h1], hO.below⟩))))))
def gV (s : Sp) : Bool := !x6 s.lo || !x6 s.hi
theorem bC {l : List Sp} : (!l.any gV) = l.all fun x => x6 x.lo && x6 x.hi := by
  rw [List.not_any_eq_all_not]
  congr 1
  funext s
  unfold gV
  simp
theorem foreign1_any (s : Sp) (W : World) (hs : s.short) (hm : s.may = true) : Calls Tryz.prog 207 #[yY s] W fun e w' => e = .returned (.bool (gV s)) ∧ Below W.heap.size W w' := by
  obtain ⟨m1, m2⟩ := y7 hm
  refine zQ (n := 13) Tryz.func207 rfl (by kernel_rfl) (by kernel_rfl) (ZO (Zb (yY s) (fun b1 => Zv (.bool false) (ZR (Zv (.pointer (some ⟨b1, 0, none⟩)) (Zl 0 ⟨b1, (yY s).cells, 80⟩ (off := 0) (.agg #[.int .i64 s.lo.e, .int .i64 s.lo.v.maj, .int .i64 s.lo.v.min, .int .i64 s.lo.v.pat, .string (mkS s.lo.v.pre), .string (mkS s.lo.v.build), .bool s.lo.aft]) (Zc (k := 208) (args := #[.agg #[.int .i64 s.lo.e, .int .i64 s.lo.v.maj, .int .i64 s.lo.v.min, .int .i64 s.lo.v.pat, .string (mkS s.lo.v.pre), .string (mkS s.lo.v.build), .bool s.lo.aft]]) (.bool (x6 s.lo)) (fun w _ => mayRel_any s.lo w hs.1 m1) ?_)))))))
  cases h1 : x6 s.lo with
  | true =>
    refine Zv (.bool false) (Zv (.bool false) (Zv (.pointer (some ⟨b1, 7, none⟩)) (Zl 0 ⟨b1, (yY s).cells, 80⟩ (off := 7) (.agg #[.int .i64 s.hi.e, .int .i64 s.hi.v.maj, .int .i64 s.hi.v.min, .int .i64 s.hi.v.pat, .string (mkS s.hi.v.pre), .string (mkS s.hi.v.build), .bool s.hi.aft]) (Zc (k := 208) (args := #[.agg #[.int .i64 s.hi.e, .int .i64 s.hi.v.maj, .int .i64 s.hi.v.min, .int .i64 s.hi.v.pat, .string (mkS s.hi.v.pre), .string (mkS s.hi.v.build), .bool s.hi.aft]]) (.bool (x6 s.hi)) (fun w _ => mayRel_any s.hi w hs.2 m2) ?_))))
    cases h2 : x6 s.hi with
    | true =>
      exact Zv (.bool false) (Zv (.bool false) (Zv (.bool false) (ZN (zC (ZF (.bool false) Tryz.results207 (fun w hO => ⟨by unfold gV; simp [h1, h2], hO.below⟩))))))
    | false =>
      exact Zv (.bool true) (Zv (.bool true) (Zv (.bool true) (ZN (zC (ZF (.bool true) Tryz.results207 (fun w hO => ⟨by unfold gV; simp [h1, h2], hO.below⟩))))))
  | false =>
    refine Zv (.bool true) (Zv (.bool true) (Zk (Zk (Zk (Zk (Zv (.bool true) (Zv (.bool true) (ZN (zC (ZF (.bool true) Tryz.results207 ?_))))))))))
    exact fun w hO => ⟨by unfold gV; simp [h1], hO.below⟩
def tP : List Sp → Int → Int
  | [], _ => -1
  | s :: r, k => if gV s then k else tP r (k + 1)
theorem idxR_any : ∀ (l : List Sp) (k : Int), 0 ≤ k → decide (0 ≤ tP l k) = l.any gV
  | [], k, _ => rfl
  | s :: r, k, hk => by
    unfold tP
    rw [List.any_cons]
    cases h : gV s with
    | true => rw [if_pos rfl, Bool.true_or]; exact decide_eq_true hk
    | false => rw [if_neg (by decide), Bool.false_or]; exact idxR_any r (k + 1) (by omega)
theorem idxr_any (A : Option Addr) (cap : Nat) (l : List Sp) (W : World) (hv : Reads x4 W W.heap.size A l) (hn : l.length ≤ 1000000) (hl : x7 l) (hmay : ∀ s ∈ l, s.may = true) :
    Calls Tryz.prog 226 #[.slice A l.length cap, .func (.func 207) #[] #[]] W fun e w' => e = .returned (.int .i64 (tP l 0)) ∧ Below W.heap.size W w' := by
  refine zQ (n := 19) Tryz.func226 rfl (by kernel_rfl) (by kernel_rfl) (ZO (Zv (.int .i64 0) (ZN (z6 (ZO (Zv (.slice A l.length cap) (Zv (.int .i64 (l.length : Int)) (Zv (.int .i64 0) ?_))))))))
  refine ZN (zK (yP (fun L f m => ∃ (k : Nat) (j : Nat → Value), (k ≤ l.length ∧ tP l 0 = tP (l.drop k) (k : Int)) ∧ L = [] ∧ f = kA j [(0, .slice A l.length cap), (1, .func (.func 207) #[] #[]), (7, .int .i64 (l.length : Int)), (8, .int .i64 (k : Int))] ∧ m = l.length - k) (l.length - 0) ⟨0, _, ⟨Nat.zero_le _, by rw [List.drop_zero]; rfl⟩, rfl, ZU, rfl⟩ ?_))
  rintro L f m ⟨k, j, hrel, rfl, rfl, rfl⟩
  have hkl := hrel.1
  refine z6 (z7 ?_)
  by_cases h1 : (k : Int) < (l.length : Int)
  · have hk : k < l.length := by omega
    obtain ⟨b, off, hA, hlt, hcel⟩ := hv (by omega)
    obtain ⟨s, hs⟩ : ∃ s, l[k] = s := ⟨_, rfl⟩
    have hsk : s.short := hs ▸ hl l[k] (List.getElem_mem hk)
    have hsm : s.may = true := hs ▸ hmay l[k] (List.getElem_mem hk)
    refine Zd (p := (k : Int) < (l.length : Int)) true (decide_eq_true (h1)) (ZN (z6 (Zt (ZB (z6 (zK (ZO (Zv (.int .i64 (k : Int)) ?_))))))))
    refine Zv (.int .i64 (k : Int)) (ZR (Zv (.func (.func 207) #[] #[]) (Zv (.slice A l.length cap) (Zv (.int .i64 (k : Int)) (zX (.pointer (some ⟨b, off + k * 14, none⟩)) (by kernel_rfl) (ZA (b := b) (off := off) (c := cap) (n := l.length) (k := .i64) (j := (k : Int)) (e := 80) (sz := 14) hA) (Zo (yY s) (a := ⟨b, off + k * 14, none⟩) (fun w hO => yD yB (fun j u h => (hO.below.cell (p := ⟨b, off + j, none⟩) hlt).trans (hcel j u h)) k 0 hk (by omega) _ (by rw [hs]; kernel_rfl)) (Zc (k := 207) (args := #[yY s]) (.bool (gV s)) (fun w hO => foreign1_any s w hsk hsm) (zP ?_))))))))
    refine zB ?_
    cases h2 : gV s with
    | true =>
      refine Zt (ZO (Zv (.int .i64 (k : Int)) (Zv (.int .i64 (k : Int)) (ZN (zC (zF (z8 (yC (zF ?_)))))))))
      exact z8 (ZF (.int .i64 (k : Int)) Tryz.results226 (fun w hO => ⟨by rw [hrel.2, List.drop_eq_getElem_cons hk, hs]; simp only [tP, h2]; rfl, hO.below⟩))
    | false =>
      refine Zf (yS (zS (zB (z7 (Zu (k := .i64) (((k + 1 : Nat) : Int)) (IntWalk.i64_in _ (by omega)) (Zv (.int .i64 ((k + 1 : Nat) : Int)) (zP ?_)))))))
      have hnext : tP l 0 = tP (l.drop (k + 1)) ((k + 1 : Nat) : Int) := by rw [hrel.2, List.drop_eq_getElem_cons hk, hs]; simp only [tP, h2]; rfl
      exact zU (m' := l.length - (k + 1)) (by omega) ⟨k + 1, _, ⟨by omega, hnext⟩, rfl, ZU, rfl⟩
  refine Zd (p := (k : Int) < (l.length : Int)) false (decide_eq_false (h1)) (ZN (z6 (Zf (y8 (zD (zN (zI (zB (z6 (z7 ?_))))))))))
  exact Zv (.int .i64 (-1)) (ZN (zC (ZF (.int .i64 (-1)) Tryz.results226 (fun w hO => ⟨by rw [hrel.2, List.drop_of_length_le (by omega)]; rfl, hO.below⟩))))
theorem containsr_any (A : Option Addr) (cap : Nat) (l : List Sp) (W : World) (hv : Reads x4 W W.heap.size A l) (hn : l.length ≤ 1000000) (hl : x7 l) (hmay : ∀ s ∈ l, s.may = true) :
    Calls Tryz.prog 209 #[.slice A l.length cap, .func (.func 207) #[] #[]] W fun e w' => e = .returned (.bool (l.any gV)) ∧ Below W.heap.size W w' := by
  rw [← idxR_any l 0 (by omega)]
  refine zQ (n := 9) Tryz.func209 rfl (by kernel_rfl) (by kernel_rfl) (ZO (Zv (.bool false) (ZR (Zv (.slice A l.length cap) (Zv (.func (.func 207) #[] #[]) (Zc (k := 226) (args := #[.slice A l.length cap, .func (.func 207) #[] #[]]) (.int .i64 (tP l 0)) (fun w hO => idxr_any A cap l w (hv.on hO.below hO.size) hn hl hmay) ?_))))))
  by_cases h1 : (0 : Int) ≤ tP l 0
  · refine zW (p := (0 : Int) ≤ tP l 0) true (by kernel_rfl) (fun _ => by kernel_rfl) (decide_eq_true (h1)) ?_
    exact Zv (.bool true) (ZN (zC (ZF (.bool true) Tryz.results209 (fun w hO => ⟨by simp only [decide_eq_true h1], hO.below⟩))))
  exact Zd (p := (0 : Int) ≤ tP l 0) false (decide_eq_false (h1)) (Zv (.bool false) (ZN (zC (ZF (.bool false) Tryz.results209 (fun w hO => ⟨by simp only [decide_eq_false h1], hO.below⟩)))))
theorem tB (A B : Option Addr) (c d : Nat) (a : St) (W : World) (hs : SetIn W W.heap.size A B a) (ca : a.rel.length ≤ c ∧ a.pre.length ≤ d) : Calls Tryz.prog 182 #[.agg #[.slice A a.rel.length c, .slice B a.pre.length d]] W fun e w' => e = .returned (.bool a.may) ∧ Below W.heap.size W w' := by
  refine zQ (n := 19) Tryz.func182 rfl (by kernel_rfl) (by kernel_rfl) (ZO (Zb (.agg #[.slice A a.rel.length c, .slice B a.pre.length d]) (fun b1 => Zv (.bool false) (ZR (Zv (.func (.func 207) #[] #[]) (zP (zB ?_)))))))
  refine ZO (Zv (.pointer (some ⟨b1, 0, none⟩)) (Zl 0 ⟨b1, #[.slice A a.rel.length c, .slice B a.pre.length d], 31⟩ (off := 0) (.slice A a.rel.length c) (Zc (k := 129) (args := #[.slice A a.rel.length c]) (.bool (zL a.rel)) (fun w hO => jP A c a.rel w (hs.rel.on hO.below hO.size) (Nat.le_trans hs.lr (by decide)) hs.sr) (Zv (.bool (zL a.rel)) ?_))))
  cases h1 : zL a.rel with
  | true =>
    refine Zv (.pointer (some ⟨b1, 1, none⟩)) (Zl 0 ⟨b1, #[.slice A a.rel.length c, .slice B a.pre.length d], 31⟩ (off := 1) (.slice B a.pre.length d) (Zc (k := 129) (args := #[.slice B a.pre.length d]) (.bool (zL a.pre)) (fun w hO => jP B d a.pre w (hs.pre.on hO.below hO.size) (Nat.le_trans hs.lp (by decide)) hs.sp) (Zv (.bool (zL a.pre)) (Zv (.bool (zL a.pre)) ?_))))
    cases h2 : zL a.pre with
    | true =>
      refine Zv (.pointer (some ⟨b1, 0, none⟩)) (Zl 0 ⟨b1, #[.slice A a.rel.length c, .slice B a.pre.length d], 31⟩ (off := 0) (.slice A a.rel.length c) (Zv (.func (.func 207) #[] #[]) (Zc (k := 209) (args := #[.slice A a.rel.length c, .func (.func 207) #[] #[]]) (.bool (a.rel.any gV)) (fun w hO => containsr_any A c a.rel w (hs.rel.on hO.below hO.size) (Nat.le_trans hs.lr (by decide)) hs.sr (x8 h1)) ?_)))
      cases h3 : a.rel.any gV with
      | true =>
        exact Zv (.bool false) (Zv (.bool false) (Zv (.bool false) (ZN (zC (ZF (.bool false) Tryz.results182 (fun w hO => ⟨by unfold St.may; rw [← bC]; simp [h1, h2, h3], hO.below⟩))))))
      | false =>
        exact Zv (.bool true) (Zv (.bool true) (Zv (.bool true) (ZN (zC (ZF (.bool true) Tryz.results182 (fun w hO => ⟨by unfold St.may; rw [← bC]; simp [h1, h2, h3], hO.below⟩))))))
    | false =>
      exact Zk (Zk (Zk (Zk (Zk (Zv (.bool false) (Zv (.bool false) (ZN (zC (ZF (.bool false) Tryz.results182 (fun w hO => ⟨by unfold St.may; rw [← bC]; simp [h1, h2], hO.below⟩))))))))))
  | false =>
    refine Zk (Zk (Zk (Zv (.bool false) (Zv (.bool false) (Zk (Zk (Zk (Zk (Zk (Zv (.bool false) (Zv (.bool false) ?_)))))))))))
    exact ZN (zC (ZF (.bool false) Tryz.results182 (fun w hO => ⟨by unfold St.may; rw [← bC]; simp [h1], hO.below⟩)))
theorem qT (W : World) : Calls Tryz.prog 47 #[] W fun e w' => e = .returned (.agg #[.slice none 0 0, .slice none 0 0]) ∧ Below W.heap.size W w' := by
  refine zQ (n := 2) Tryz.func47 rfl (by kernel_rfl) (by kernel_rfl) (ZO (Za (.agg #[.slice none 0 0, .slice none 0 0]) (fun b1 => ZR (Zv (.agg #[.slice none 0 0, .slice none 0 0]) (Zs 0 ⟨b1, #[.slice none 0 0, .slice none 0 0], 31⟩ (off := 0) (.agg #[.slice none 0 0, .slice none 0 0]) (zP (zB ?_)))))))
  exact zC (ZC 0 ⟨b1, #[.slice none 0 0, .slice none 0 0], 31⟩ (off := 0) (.agg #[.slice none 0 0, .slice none 0 0]) Tryz.results47 (fun w hO => ⟨rfl, hO.below⟩))
end
section
theorem not1_any (A B : Option Addr) (cap capb : Nat) (x y : List Sp) (W : World) (hv : Reads x4 W W.heap.size A x) (hu : Reads x4 W W.heap.size B y) (hx : RF x 100000) (hy : RF y 100000) (hca : x.length ≤ cap) (hcb : y.length ≤ capb) : Calls Tryz.prog 172 #[.slice A x.length cap, .slice B y.length capb] W fun e w' => ∃ v' ob', e = .returned v' ∧ SlS v' (qY x) ob' ∧ Own [] W w' ob' := by
  refine zQ (n := 7) Tryz.func172 rfl (by kernel_rfl) (by kernel_rfl) (ZO (Zv (.slice none 0 0) (ZR (Zv (.slice A x.length cap) (yK (k := 135) (args := #[.slice A x.length cap]) (fun v' L' => ∃ ob', L' = ob' ++ ([]) ∧ SlS v' (qY x) ob') (by kernel_rfl) (fun _ => by kernel_rfl) (fun w hO => (not4_any A cap x w (hv.on hO.below hO.size) (Nat.le_trans hx.len (by decide)) hx.short).mono fun e w' ⟨v', ob', k1, k2, k3⟩ => ⟨v', _, k1, ⟨ob', rfl, by rw [if_pos hx.may] at k2; exact k2⟩, Own.joinN hO k3⟩) (fun v1 L1 hv1 => ?_))))))
  obtain ⟨o1, rfl, hr1⟩ := hv1
  obtain ⟨V1, c1, rfl⟩ := hr1.form
  exact kK (L' := o1) (List.append_nil _) (Zv (.slice V1 ((qY x).length) c1) (ZN (zC (ZF (.slice V1 ((qY x).length) c1) Tryz.results172 (fun w hO => ⟨_, o1, rfl, hr1, by simpa using hO⟩)))))
theorem combOr_any (A B A' B' : Option Addr) (c d c' d' : Nat) (a b : St) (W : World) (hs : SetIn W W.heap.size A B a) (ht : SetIn W W.heap.size A' B' b) (ca : a.rel.length ≤ c ∧ a.pre.length ≤ d) (cb : b.rel.length ≤ c' ∧ b.pre.length ≤ d') : Calls Tryz.prog 140 #[.agg #[.slice A a.rel.length c, .slice B a.pre.length d], .agg #[.slice A' b.rel.length c', .slice B' b.pre.length d'], .func (.func 83) #[] #[]] W fun e w' => ∃ v' ob', e = .returned v' ∧ SetO v' (if a.may && b.may then orT a b else gP) ob' ∧ Own [] W w' ob' := by
  refine zQ (n := 29) Tryz.func140 rfl (by kernel_rfl) (by kernel_rfl) (ZO (Zb (.agg #[.slice A a.rel.length c, .slice B a.pre.length d]) (fun b1 => Zb (.agg #[.slice A' b.rel.length c', .slice B' b.pre.length d']) (fun b2 => Za (.agg #[.slice none 0 0, .slice none 0 0]) (fun b3 => ZN (z6 (ZO (Zl 2 ⟨b1, #[.slice A a.rel.length c, .slice B a.pre.length d], 31⟩ (off := 0) (.agg #[.slice A a.rel.length c, .slice B a.pre.length d]) ?_))))))))
  refine Zc (k := 182) (args := #[.agg #[.slice A a.rel.length c, .slice B a.pre.length d]]) (.bool a.may) (fun w hO => tB A B c d a w (hs.on hO.below hO.size) ca) ?_
  cases h1 : a.may with
  | true =>
    refine Zv (.bool false) (Zv (.bool false) (Zl 1 ⟨b2, #[.slice A' b.rel.length c', .slice B' b.pre.length d'], 31⟩ (off := 0) (.agg #[.slice A' b.rel.length c', .slice B' b.pre.length d']) (Zc (k := 182) (args := #[.agg #[.slice A' b.rel.length c', .slice B' b.pre.length d']]) (.bool b.may) (fun w hO => tB A' B' c' d' b w (ht.on hO.below hO.size) cb) ?_)))
    cases h2 : b.may with
    | true =>
      refine Zv (.bool false) (Zv (.bool false) (ZX (ZB (z6 (xW [⟨b2, #[.slice A' b.rel.length c', .slice B' b.pre.length d'], 31⟩, ⟨b1, #[.slice A a.rel.length c, .slice B a.pre.length d], 31⟩] (by kernel_rfl) (fun w hO => Own.sub [⟨b3, #[.slice none 0 0, .slice none 0 0], 31⟩] hO) (ZT 0 [⟨b3, #[.slice none 0 0, .slice none 0 0], 31⟩] _ (.func (.func 83) #[] #[]) (zG zJ) rfl (ZT 1 [⟨b3, #[.slice none 0 0, .slice none 0 0], 31⟩] _ (.pointer (some ⟨b1, 0, none⟩)) (zG zJ) rfl (ZL 2 [⟨b3, #[.slice none 0 0, .slice none 0 0], 31⟩] _ 1 ⟨b1, #[.slice A a.rel.length c, .slice B a.pre.length d], 31⟩ (off := 0) (.slice A a.rel.length c) (zG zJ) rfl rfl ?_))))))))
      refine ZT 3 [⟨b3, #[.slice none 0 0, .slice none 0 0], 31⟩] _ (.pointer (some ⟨b2, 0, none⟩)) (zG zJ) rfl (ZL 4 [⟨b3, #[.slice none 0 0, .slice none 0 0], 31⟩] _ 0 ⟨b2, #[.slice A' b.rel.length c', .slice B' b.pre.length d'], 31⟩ (off := 0) (.slice A' b.rel.length c') (zG zJ) rfl rfl (ZT 6 [⟨b3, #[.slice none 0 0, .slice none 0 0], 31⟩] _ (.func (.func 83) #[] #[]) (zG zJ) rfl (ZT 7 [⟨b3, #[.slice none 0 0, .slice none 0 0], 31⟩] _ (.pointer (some ⟨b1, 1, none⟩)) (zG zJ) rfl (ZL 8 [⟨b3, #[.slice none 0 0, .slice none 0 0], 31⟩] _ 1 ⟨b1, #[.slice A a.rel.length c, .slice B a.pre.length d], 31⟩ (off := 1) (.slice B a.pre.length d) (zG zJ) rfl rfl (ZT 9 [⟨b3, #[.slice none 0 0, .slice none 0 0], 31⟩] _ (.pointer (some ⟨b2, 1, none⟩)) (zG zJ) rfl (ZL 10 [⟨b3, #[.slice none 0 0, .slice none 0 0], 31⟩] _ 0 ⟨b2, #[.slice A' b.rel.length c', .slice B' b.pre.length d'], 31⟩ (off := 1) (.slice B' b.pre.length d') (zG zJ) rfl rfl (zY 5 (by kernel_rfl) (vG _ (k := 83) (args := #[.slice A a.rel.length c, .slice A' b.rel.length c']) (fun v' L' => ∃ ob', L' = ob' ++ ([⟨b3, #[.slice none 0 0, .slice none 0 0], 31⟩] ++ ([⟨b2, #[.slice A' b.rel.length c', .slice B' b.pre.length d'], 31⟩, ⟨b1, #[.slice A a.rel.length c, .slice B a.pre.length d], 31⟩])) ∧ SlS v' (orL a.rel b.rel) ob') rfl (by kernel_rfl) (fun _ => by kernel_rfl) (fun w hO => (or4_any A A' c c' a.rel b.rel w (hs.rel.on hO.below hO.size) (ht.rel.on hO.below hO.size) (SF.of h1 hs.lr hs.lp).rel.len (SF.of h2 ht.lr ht.lp).rel.len (SF.of h1 hs.lr hs.lp).rel.short (SF.of h2 ht.lr ht.lp).rel.short).mono fun e w' ⟨v', ob', k1, k2, k3⟩ => ⟨v', _, k1, ⟨ob', rfl, by rw [if_pos (by rw [(SF.of h1 hs.lr hs.lp).rel.may, (SF.of h2 ht.lr ht.lp).rel.may]; rfl)] at k2; exact k2⟩, Own.joinN hO k3⟩) (fun v' L' ⟨ob', e, _⟩ w hO => by subst e; exact Own.sub [⟨b3, #[.slice none 0 0, .slice none 0 0], 31⟩] (Own.sub ob' hO)) (fun v1 L2 hv2 => ?_)))))))))
      obtain ⟨o1, rfl, hr1⟩ := hv2
      obtain ⟨V1, c1, rfl⟩ := hr1.form
      refine jQ (L' := (o1 ++ ([⟨b3, #[.slice none 0 0, .slice none 0 0], 31⟩] : List Blk)) ++ ([⟨b2, #[.slice A' b.rel.length c', .slice B' b.pre.length d'], 31⟩, ⟨b1, #[.slice A a.rel.length c, .slice B a.pre.length d], 31⟩])) (List.append_assoc _ _ _).symm (zY 11 (by kernel_rfl) (vG _ (k := 83) (args := #[.slice B a.pre.length d, .slice B' b.pre.length d']) (fun v' L' => ∃ ob', L' = ob' ++ ((o1 ++ ([⟨b3, #[.slice none 0 0, .slice none 0 0], 31⟩] : List Blk)) ++ ([⟨b2, #[.slice A' b.rel.length c', .slice B' b.pre.length d'], 31⟩, ⟨b1, #[.slice A a.rel.length c, .slice B a.pre.length d], 31⟩])) ∧ SlS v' (orL a.pre b.pre) ob') rfl (by kernel_rfl) (fun _ => by kernel_rfl) (fun w hO => (or4_any B B' d d' a.pre b.pre w (hs.pre.on hO.below hO.size) (ht.pre.on hO.below hO.size) (SF.of h1 hs.lr hs.lp).pre.len (SF.of h2 ht.lr ht.lp).pre.len (SF.of h1 hs.lr hs.lp).pre.short (SF.of h2 ht.lr ht.lp).pre.short).mono fun e w' ⟨v', ob', k1, k2, k3⟩ => ⟨v', _, k1, ⟨ob', rfl, by rw [if_pos (by rw [(SF.of h1 hs.lr hs.lp).pre.may, (SF.of h2 ht.lr ht.lp).pre.may]; rfl)] at k2; exact k2⟩, Own.joinN hO k3⟩) (fun v' L' ⟨ob', e, _⟩ w hO => by subst e; exact Own.sub (o1 ++ ([⟨b3, #[.slice none 0 0, .slice none 0 0], 31⟩] : List Blk)) (Own.sub ob' hO)) (fun v2 L2 hv2 => ?_)))
      obtain ⟨o2, rfl, hr2⟩ := hv2
      obtain ⟨V2, c2, rfl⟩ := hr2.form
      exact jQ (L' := (o2 ++ (o1 ++ ([⟨b3, #[.slice none 0 0, .slice none 0 0], 31⟩] : List Blk))) ++ ([⟨b2, #[.slice A' b.rel.length c', .slice B' b.pre.length d'], 31⟩, ⟨b1, #[.slice A a.rel.length c, .slice B a.pre.length d], 31⟩])) (List.append_assoc _ _ _).symm (ZT 12 (o2 ++ (o1 ++ ([⟨b3, #[.slice none 0 0, .slice none 0 0], 31⟩] : List Blk))) _ (.agg #[.slice V1 ((orL a.rel b.rel).length) c1, .slice V2 ((orL a.pre b.pre).length) c2]) (zG zJ) rfl (zY 13 (by kernel_rfl) (hs_front (E' := (⟨b3, #[.slice none 0 0, .slice none 0 0], 31⟩ :: (o2 ++ (o1 ++ ([] : List Blk))))) (by simpa [List.append_assoc] using (List.perm_middle (a := ⟨b3, #[.slice none 0 0, .slice none 0 0], 31⟩) (l₁ := (o2 ++ (o1 ++ ([] : List Blk)))) (l₂ := []))) (ZS (⟨b3, #[.slice none 0 0, .slice none 0 0], 31⟩ :: (o2 ++ (o1 ++ ([] : List Blk)))) _ 0 ⟨b3, #[.slice none 0 0, .slice none 0 0], 31⟩ (off := 0) (.agg #[.slice V1 ((orL a.rel b.rel).length) c1, .slice V2 ((orL a.pre b.pre).length) c2]) rfl rfl (yO (by kernel_rfl) (zB (zC (ZC 0 ⟨b3, #[.slice V1 ((orL a.rel b.rel).length) c1, .slice V2 ((orL a.pre b.pre).length) c2], 31⟩ (off := 0) (.agg #[.slice V1 ((orL a.rel b.rel).length) c1, .slice V2 ((orL a.pre b.pre).length) c2]) Tryz.results140 (fun w hO => ⟨_, _, rfl, by rw [if_pos (by simp [h1, h2])]; exact ⟨_, _, o1, o2, rfl, rfl, hr1, hr2⟩, own_mid hO⟩)))))))))
    | false =>
      refine Zv (.bool true) (Zv (.bool true) (ZY (ZO (Zc (k := 47) (args := #[]) (.agg #[.slice none 0 0, .slice none 0 0]) (fun w _ => qT w) (Zs 0 ⟨b3, #[.slice none 0 0, .slice none 0 0], 31⟩ (off := 0) (.agg #[.slice none 0 0, .slice none 0 0]) (ZN (zC ?_)))))))
      exact z8 (ZC 0 ⟨b3, #[.slice none 0 0, .slice none 0 0], 31⟩ (off := 0) (.agg #[.slice none 0 0, .slice none 0 0]) Tryz.results140 (fun w hO => ⟨_, [], rfl, by rw [if_neg (by simp [h1, h2])]; exact SetO.none, qA hO⟩))
  | false =>
    refine Zv (.bool true) (Zv (.bool true) (Zk (Zk (Zk (Zv (.bool true) (ZY (ZO (Zc (k := 47) (args := #[]) (.agg #[.slice none 0 0, .slice none 0 0]) (fun w _ => qT w) ?_))))))))
    exact Zs 0 ⟨b3, #[.slice none 0 0, .slice none 0 0], 31⟩ (off := 0) (.agg #[.slice none 0 0, .slice none 0 0]) (ZN (zC (z8 (ZC 0 ⟨b3, #[.slice none 0 0, .slice none 0 0], 31⟩ (off := 0) (.agg #[.slice none 0 0, .slice none 0 0]) Tryz.results140 (fun w hO => ⟨_, [], rfl, by rw [if_neg (by simp [h1])]; exact SetO.none, qA hO⟩)))))
theorem combNot_any (A B A' B' : Option Addr) (c d c' d' : Nat) (a b : St) (W : World) (hs : SetIn W W.heap.size A B a) (ht : SetIn W W.heap.size A' B' b) (ca : a.rel.length ≤ c ∧ a.pre.length ≤ d) (cb : b.rel.length ≤ c' ∧ b.pre.length ≤ d') : Calls Tryz.prog 140 #[.agg #[.slice A a.rel.length c, .slice B a.pre.length d], .agg #[.slice A' b.rel.length c', .slice B' b.pre.length d'], .func (.func 172) #[] #[]] W fun e w' => ∃ v' ob', e = .returned v' ∧ SetO v' (if a.may && b.may then notT a else gP) ob' ∧ Own [] W w' ob' := by
  refine zQ (n := 29) Tryz.func140 rfl (by kernel_rfl) (by kernel_rfl) (ZO (Zb (.agg #[.slice A a.rel.length c, .slice B a.pre.length d]) (fun b1 => Zb (.agg #[.slice A' b.rel.length c', .slice B' b.pre.length d']) (fun b2 => Za (.agg #[.slice none 0 0, .slice none 0 0]) (fun b3 => ZN (z6 (ZO (Zl 2 ⟨b1, #[.slice A a.rel.length c, .slice B a.pre.length d], 31⟩ (off := 0) (.agg #[.slice A a.rel.length c, .slice B a.pre.length d]) ?_))))))))
  refine Zc (k := 182) (args := #[.agg #[.slice A a.rel.length c, .slice B a.pre.length d]]) (.bool a.may) (fun w hO => tB A B c d a w (hs.on hO.below hO.size) ca) ?_
  cases h1 : a.may with
  | true =>
    refine Zv (.bool false) (Zv (.bool false) (Zl 1 ⟨b2, #[.slice A' b.rel.length c', .slice B' b.pre.length d'], 31⟩ (off := 0) (.agg #[.slice A' b.rel.length c', .slice B' b.pre.length d']) (Zc (k := 182) (args := #[.agg #[.slice A' b.rel.length c', .slice B' b.pre.length d']]) (.bool b.may) (fun w hO => tB A' B' c' d' b w (ht.on hO.below hO.size) cb) ?_)))
    cases h2 : b.may with
    | true =>
      refine Zv (.bool false) (Zv (.bool false) (ZX (ZB (z6 (xW [⟨b2, #[.slice A' b.rel.length c', .slice B' b.pre.length d'], 31⟩, ⟨b1, #[.slice A a.rel.length c, .slice B a.pre.length d], 31⟩] (by kernel_rfl) (fun w hO => Own.sub [⟨b3, #[.slice none 0 0, .slice none 0 0], 31⟩] hO) (ZT 0 [⟨b3, #[.slice none 0 0, .slice none 0 0], 31⟩] _ (.func (.func 172) #[] #[]) (zG zJ) rfl (ZT 1 [⟨b3, #[.slice none 0 0, .slice none 0 0], 31⟩] _ (.pointer (some ⟨b1, 0, none⟩)) (zG zJ) rfl (ZL 2 [⟨b3, #[.slice none 0 0, .slice none 0 0], 31⟩] _ 1 ⟨b1, #[.slice A a.rel.length c, .slice B a.pre.length d], 31⟩ (off := 0) (.slice A a.rel.length c) (zG zJ) rfl rfl ?_))))))))
      refine ZT 3 [⟨b3, #[.slice none 0 0, .slice none 0 0], 31⟩] _ (.pointer (some ⟨b2, 0, none⟩)) (zG zJ) rfl (ZL 4 [⟨b3, #[.slice none 0 0, .slice none 0 0], 31⟩] _ 0 ⟨b2, #[.slice A' b.rel.length c', .slice B' b.pre.length d'], 31⟩ (off := 0) (.slice A' b.rel.length c') (zG zJ) rfl rfl (ZT 6 [⟨b3, #[.slice none 0 0, .slice none 0 0], 31⟩] _ (.func (.func 172) #[] #[]) (zG zJ) rfl (ZT 7 [⟨b3, #[.slice none 0 0, .slice none 0 0], 31⟩] _ (.pointer (some ⟨b1, 1, none⟩)) (zG zJ) rfl (ZL 8 [⟨b3, #[.slice none 0 0, .slice none 0 0], 31⟩] _ 1 ⟨b1, #[.slice A a.rel.length c, .slice B a.pre.length d], 31⟩ (off := 1) (.slice B a.pre.length d) (zG zJ) rfl rfl (ZT 9 [⟨b3, #[.slice none 0 0, .slice none 0 0], 31⟩] _ (.pointer (some ⟨b2, 1, none⟩)) (zG zJ) rfl (ZL 10 [⟨b3, #[.slice none 0 0, .slice none 0 0], 31⟩] _ 0 ⟨b2, #[.slice A' b.rel.length c', .slice B' b.pre.length d'], 31⟩ (off := 1) (.slice B' b.pre.length d') (zG zJ) rfl rfl (zY 5 (by kernel_rfl) (vG _ (k := 172) (args := #[.slice A a.rel.length c, .slice A' b.rel.length c']) (fun v' L' => ∃ ob', L' = ob' ++ ([⟨b3, #[.slice none 0 0, .slice none 0 0], 31⟩] ++ ([⟨b2, #[.slice A' b.rel.length c', .slice B' b.pre.length d'], 31⟩, ⟨b1, #[.slice A a.rel.length c, .slice B a.pre.length d], 31⟩])) ∧ SlS v' (qY a.rel) ob') rfl (by kernel_rfl) (fun _ => by kernel_rfl) (fun w hO => (not1_any A A' c c' a.rel b.rel w (hs.rel.on hO.below hO.size) (ht.rel.on hO.below hO.size) (SF.of h1 hs.lr hs.lp).rel (SF.of h2 ht.lr ht.lp).rel ca.1 cb.1).mono fun e w' ⟨v', ob', k1, k2, k3⟩ => ⟨v', _, k1, ⟨ob', rfl, k2⟩, Own.joinN hO k3⟩) (fun v' L' ⟨ob', e, _⟩ w hO => by subst e; exact Own.sub [⟨b3, #[.slice none 0 0, .slice none 0 0], 31⟩] (Own.sub ob' hO)) (fun v1 L2 hv2 => ?_)))))))))
      obtain ⟨o1, rfl, hr1⟩ := hv2
      obtain ⟨V1, c1, rfl⟩ := hr1.form
      refine jQ (L' := (o1 ++ ([⟨b3, #[.slice none 0 0, .slice none 0 0], 31⟩] : List Blk)) ++ ([⟨b2, #[.slice A' b.rel.length c', .slice B' b.pre.length d'], 31⟩, ⟨b1, #[.slice A a.rel.length c, .slice B a.pre.length d], 31⟩])) (List.append_assoc _ _ _).symm (zY 11 (by kernel_rfl) (vG _ (k := 172) (args := #[.slice B a.pre.length d, .slice B' b.pre.length d']) (fun v' L' => ∃ ob', L' = ob' ++ ((o1 ++ ([⟨b3, #[.slice none 0 0, .slice none 0 0], 31⟩] : List Blk)) ++ ([⟨b2, #[.slice A' b.rel.length c', .slice B' b.pre.length d'], 31⟩, ⟨b1, #[.slice A a.rel.length c, .slice B a.pre.length d], 31⟩])) ∧ SlS v' (qY a.pre) ob') rfl (by kernel_rfl) (fun _ => by kernel_rfl) (fun w hO => (not1_any B B' d d' a.pre b.pre w (hs.pre.on hO.below hO.size) (ht.pre.on hO.below hO.size) (SF.of h1 hs.lr hs.lp).pre (SF.of h2 ht.lr ht.lp).pre ca.2 cb.2).mono fun e w' ⟨v', ob', k1, k2, k3⟩ => ⟨v', _, k1, ⟨ob', rfl, k2⟩, Own.joinN hO k3⟩) (fun v' L' ⟨ob', e, _⟩ w hO => by subst e; exact Own.sub (o1 ++ ([⟨b3, #[.slice none 0 0, .slice none 0 0], 31⟩] : List Blk)) (Own.sub ob' hO)) (fun v2 L2 hv2 => ?_)))
      obtain ⟨o2, rfl, hr2⟩ := hv2
      obtain ⟨V2, c2, rfl⟩ := hr2.form
      exact jQ (L' := (o2 ++ (o1 ++ ([⟨b3, #[.slice none 0 0, .slice none 0 0], 31⟩] : List Blk))) ++ ([⟨b2, #[.slice A' b.rel.length c', .slice B' b.pre.length d'], 31⟩, ⟨b1, #[.slice A a.rel.length c, .slice B a.pre.length d], 31⟩])) (List.append_assoc _ _ _).symm (ZT 12 (o2 ++ (o1 ++ ([⟨b3, #[.slice none 0 0, .slice none 0 0], 31⟩] : List Blk))) _ (.agg #[.slice V1 ((qY a.rel).length) c1, .slice V2 ((qY a.pre).length) c2]) (zG zJ) rfl (zY 13 (by kernel_rfl) (hs_front (E' := (⟨b3, #[.slice none 0 0, .slice none 0 0], 31⟩ :: (o2 ++ (o1 ++ ([] : List Blk))))) (by simpa [List.append_assoc] using (List.perm_middle (a := ⟨b3, #[.slice none 0 0, .slice none 0 0], 31⟩) (l₁ := (o2 ++ (o1 ++ ([] : List Blk)))) (l₂ := []))) (ZS (⟨b3, #[.slice none 0 0, .slice none 0 0], 31⟩ :: (o2 ++ (o1 ++ ([] : List Blk)))) _ 0 ⟨b3, #[.slice none 0 0, .slice none 0 0], 31⟩ (off := 0) (.agg #[.slice V1 ((qY a.rel).length) c1, .slice V2 ((qY a.pre).length) c2]) rfl rfl (yO (by kernel_rfl) (zB (zC (ZC 0 ⟨b3, #[.slice V1 ((qY a.rel).length) c1, .slice V2 ((qY a.pre).length) c2], 31⟩ (off := 0) (.agg #[.slice V1 ((qY a.rel).length) c1, .slice V2 ((qY a.pre).length) c2]) Tryz.results140 (fun w hO => ⟨_, _, rfl, by rw [if_pos (by simp [h1, h2])]; exact ⟨_, _, o1, o2, rfl, rfl, hr1, hr2⟩, own_mid hO⟩)))))))))
    | false =>
      refine Zv (.bool true) (Zv (.bool true) (ZY (ZO (Zc (k := 47) (args := #[]) (.agg #[.slice none 0 0, .slice none 0 0]) (fun w _ => qT w) (Zs 0 ⟨b3, #[.slice none 0 0, .slice none 0 0], 31⟩ (off := 0) (.agg #[.slice none 0 0, .slice none 0 0]) (ZN (zC ?_)))))))
      exact z8 (ZC 0 ⟨b3, #[.slice none 0 0, .slice none 0 0], 31⟩ (off := 0) (.agg #[.slice none 0 0, .slice none 0 0]) Tryz.results140 (fun w hO => ⟨_, [], rfl, by rw [if_neg (by simp [h1, h2])]; exact SetO.none, qA hO⟩))
  | false =>
    refine Zv (.bool true) (Zv (.bool true) (Zk (Zk (Zk (Zv (.bool true) (ZY (ZO (Zc (k := 47) (args := #[]) (.agg #[.slice none 0 0, .slice none 0 0]) (fun w _ => qT w) ?_))))))))
    exact Zs 0 ⟨b3, #[.slice none 0 0, .slice none 0 0], 31⟩ (off := 0) (.agg #[.slice none 0 0, .slice none 0 0]) (ZN (zC (z8 (ZC 0 ⟨b3, #[.slice none 0 0, .slice none 0 0], 31⟩ (off := 0) (.agg #[.slice none 0 0, .slice none 0 0]) Tryz.results140 (fun w hO => ⟨_, [], rfl, by rw [if_neg (by simp [h1])]; exact SetO.none, qA hO⟩)))))
end
section
theorem own_front {M : List Nat} {W w : World} {x : Blk} {A L : List Blk} (h : Own M W w (A ++ (x :: L))) : Own M W w (x :: A) :=
  (h.sublist ((List.Sublist.refl A).append (List.Sublist.cons_cons x (List.nil_sublist L)))).perm (List.perm_append_comm (l₁ := A) (l₂ := [x]))
theorem own_tl {M : List Nat} {W w : World} {x : Blk} {A : List Blk} (h : Own M W w (x :: A)) : Own M W w A := h.sublist (List.sublist_cons_self x A)
theorem notT_none : notT gP = allT := St.eq not_nil not_nil
theorem sOr_any (A B A' B' : Option Addr) (c d c' d' : Nat) (a b : St) (W : World) (hs : SetIn W W.heap.size A B a) (ht : SetIn W W.heap.size A' B' b) (ca : a.rel.length ≤ c ∧ a.pre.length ≤ d) (cb : b.rel.length ≤ c' ∧ b.pre.length ≤ d') : Calls Tryz.prog 86 #[.agg #[.slice A a.rel.length c, .slice B a.pre.length d], .agg #[.slice A' b.rel.length c', .slice B' b.pre.length d']] W fun e w' => ∃ v' ob', e = .returned v' ∧ SetO v' (if a.may && b.may then orT a b else gP) ob' ∧ Own [] W w' ob' := by
  refine zQ (n := 8) Tryz.func86 rfl (by kernel_rfl) (by kernel_rfl) (ZO (Zb (.agg #[.slice A a.rel.length c, .slice B a.pre.length d]) (fun b1 => Zb (.agg #[.slice A' b.rel.length c', .slice B' b.pre.length d']) (fun b2 => Za (.agg #[.slice none 0 0, .slice none 0 0]) (fun b3 => ZR (Zl 2 ⟨b1, #[.slice A a.rel.length c, .slice B a.pre.length d], 31⟩ (off := 0) (.agg #[.slice A a.rel.length c, .slice B a.pre.length d]) (Zl 1 ⟨b2, #[.slice A' b.rel.length c', .slice B' b.pre.length d'], 31⟩ (off := 0) (.agg #[.slice A' b.rel.length c', .slice B' b.pre.length d']) ?_)))))))
  refine yK (k := 140) (args := #[.agg #[.slice A a.rel.length c, .slice B a.pre.length d], .agg #[.slice A' b.rel.length c', .slice B' b.pre.length d'], .func (.func 83) #[] #[]]) (fun v' L' => ∃ ob', L' = ob' ++ ([⟨b3, #[.slice none 0 0, .slice none 0 0], 31⟩, ⟨b2, #[.slice A' b.rel.length c', .slice B' b.pre.length d'], 31⟩, ⟨b1, #[.slice A a.rel.length c, .slice B a.pre.length d], 31⟩]) ∧ SetO v' (if a.may && b.may then orT a b else gP) ob') (by kernel_rfl) (fun _ => by kernel_rfl) (fun w hO => (combOr_any A B A' B' c d c' d' a b w (hs.on hO.below hO.size) (ht.on hO.below hO.size) ca cb).mono fun e w' ⟨v', ob', k1, k2, k3⟩ => ⟨v', _, k1, ⟨ob', rfl, k2⟩, Own.joinN hO k3⟩) (fun v1 L1 hv1 => ?_)
  obtain ⟨o1, rfl, hr1⟩ := hv1
  obtain ⟨V1, U1, c1, d1, rfl⟩ := hr1.form
  exact vY (L' := ⟨b3, #[.slice none 0 0, .slice none 0 0], 31⟩ :: o1) (fun w hO => own_front hO) (Zs 0 ⟨b3, #[.slice none 0 0, .slice none 0 0], 31⟩ (off := 0) (.agg #[.slice V1 (((if a.may && b.may then orT a b else gP)).rel.length) c1, .slice U1 (((if a.may && b.may then orT a b else gP)).pre.length) d1]) (ZN (zC (ZC 0 ⟨b3, #[.slice V1 (((if a.may && b.may then orT a b else gP)).rel.length) c1, .slice U1 (((if a.may && b.may then orT a b else gP)).pre.length) d1], 31⟩ (off := 0) (.agg #[.slice V1 (((if a.may && b.may then orT a b else gP)).rel.length) c1, .slice U1 (((if a.may && b.may then orT a b else gP)).pre.length) d1]) Tryz.results86 (fun w hO => ⟨_, o1, rfl, hr1, own_tl hO⟩)))))
theorem sNot_any (A B : Option Addr) (c d : Nat) (a : St) (W : World) (hs : SetIn W W.heap.size A B a) (ca : a.rel.length ≤ c ∧ a.pre.length ≤ d) : Calls Tryz.prog 128 #[.agg #[.slice A a.rel.length c, .slice B a.pre.length d]] W fun e w' => ∃ v' ob', e = .returned v' ∧ SetO v' (if a.may then notT a else gP) ob' ∧ Own [] W w' ob' := by
  refine zQ (n := 6) Tryz.func128 rfl (by kernel_rfl) (by kernel_rfl) (ZO (Zb (.agg #[.slice A a.rel.length c, .slice B a.pre.length d]) (fun b1 => Za (.agg #[.slice none 0 0, .slice none 0 0]) (fun b2 => ZR (Zl 1 ⟨b1, #[.slice A a.rel.length c, .slice B a.pre.length d], 31⟩ (off := 0) (.agg #[.slice A a.rel.length c, .slice B a.pre.length d]) (Zl 1 ⟨b1, #[.slice A a.rel.length c, .slice B a.pre.length d], 31⟩ (off := 0) (.agg #[.slice A a.rel.length c, .slice B a.pre.length d]) (yK (k := 140) (args := #[.agg #[.slice A a.rel.length c, .slice B a.pre.length d], .agg #[.slice A a.rel.length c, .slice B a.pre.length d], .func (.func 172) #[] #[]]) (fun v' L' => ∃ ob', L' = ob' ++ ([⟨b2, #[.slice none 0 0, .slice none 0 0], 31⟩, ⟨b1, #[.slice A a.rel.length c, .slice B a.pre.length d], 31⟩]) ∧ SetO v' (if a.may then notT a else gP) ob') (by kernel_rfl) (fun _ => by kernel_rfl) (fun w hO => (combNot_any A B A B c d c d a a w (hs.on hO.below hO.size) (hs.on hO.below hO.size) ca ca).mono fun e w' ⟨v', ob', k1, k2, k3⟩ => ⟨v', _, k1, ⟨ob', rfl, by rw [Bool.and_self] at k2; exact k2⟩, Own.joinN hO k3⟩) (fun v1 L1 hv1 => ?_))))))))
  obtain ⟨o1, rfl, hr1⟩ := hv1
  obtain ⟨V1, U1, c1, d1, rfl⟩ := hr1.form
  exact vY (L' := ⟨b2, #[.slice none 0 0, .slice none 0 0], 31⟩ :: o1) (fun w hO => own_front hO) (Zs 0 ⟨b2, #[.slice none 0 0, .slice none 0 0], 31⟩ (off := 0) (.agg #[.slice V1 (((if a.may then notT a else gP)).rel.length) c1, .slice U1 (((if a.may then notT a else gP)).pre.length) d1]) (ZN (zC (ZC 0 ⟨b2, #[.slice V1 (((if a.may then notT a else gP)).rel.length) c1, .slice U1 (((if a.may then notT a else gP)).pre.length) d1], 31⟩ (off := 0) (.agg #[.slice V1 (((if a.may then notT a else gP)).rel.length) c1, .slice U1 (((if a.may then notT a else gP)).pre.length) d1]) Tryz.results128 (fun w hO => ⟨_, o1, rfl, hr1, own_tl hO⟩)))))
theorem sAll_any (W : World) : Calls Tryz.prog 80 #[] W fun e w' => ∃ v' ob', e = .returned v' ∧ SetO v' (allT) ob' ∧ Own [] W w' ob' := by
  refine zQ (n := 3) Tryz.func80 rfl (by kernel_rfl) (by kernel_rfl) (ZO (Za (.agg #[.slice none 0 0, .slice none 0 0]) (fun b1 => ZR (Zc (k := 47) (args := #[]) (.agg #[.slice none 0 0, .slice none 0 0]) (fun w _ => qT w) (yK (k := 128) (args := #[.agg #[.slice none 0 0, .slice none 0 0]]) (fun v' L' => ∃ ob', L' = ob' ++ ([⟨b1, #[.slice none 0 0, .slice none 0 0], 31⟩]) ∧ SetO v' (allT) ob') (by kernel_rfl) (fun _ => by kernel_rfl) (fun w hO => (sNot_any none none 0 0 gP w (none_in _ _) ⟨Nat.le_refl 0, Nat.le_refl 0⟩).mono fun e w' ⟨v', ob', k1, k2, k3⟩ => ⟨v', _, k1, ⟨ob', rfl, by rw [if_pos none_sf.may, notT_none] at k2; exact k2⟩, Own.joinN hO k3⟩) (fun v1 L1 hv1 => ?_))))))
  obtain ⟨o1, rfl, hr1⟩ := hv1
  obtain ⟨V1, U1, c1, d1, rfl⟩ := hr1.form
  exact vY (L' := ⟨b1, #[.slice none 0 0, .slice none 0 0], 31⟩ :: o1) (fun w hO => own_front hO) (Zs 0 ⟨b1, #[.slice none 0 0, .slice none 0 0], 31⟩ (off := 0) (.agg #[.slice V1 ((allT).rel.length) c1, .slice U1 ((allT).pre.length) d1]) (ZN (zC (ZC 0 ⟨b1, #[.slice V1 ((allT).rel.length) c1, .slice U1 ((allT).pre.length) d1], 31⟩ (off := 0) (.agg #[.slice V1 ((allT).rel.length) c1, .slice U1 ((allT).pre.length) d1]) Tryz.results80 (fun w hO => ⟨_, o1, rfl, hr1, own_tl hO⟩)))))
end
section
theorem own_mk5 {M : List Nat} {W w : World} {x y : Blk} {A B : List Blk} (h : Own M W w (A ++ (x :: (B ++ [y])))) : Own M W w (x :: y :: A) :=
  (h.sublist ((List.Sublist.refl A).append (List.Sublist.cons_cons x (List.sublist_append_right B [y])))).perm (List.perm_append_comm (l₁ := A) (l₂ := [x, y]))
theorem own_mk6 {M : List Nat} {W w : World} {x y : Blk} {A B : List Blk} (h : Own M W w (A ++ (x :: y :: B))) : Own M W w (x :: y :: (A ++ B)) :=
  h.perm (by
    have e : A ++ ([x, y] ++ B) = A ++ [x, y] ++ B := (List.append_assoc ..).symm
    show (A ++ ([x, y] ++ B)).Perm ([x, y] ++ (A ++ B))
    rw [e, ← List.append_assoc]
    exact List.Perm.append_right B List.perm_append_comm)
theorem sMake_any (A B : Option Addr) (c d : Nat) (l q : List Sp) (W : World) (hv : Reads x4 W W.heap.size A l) (hu : Reads x4 W W.heap.size B q) (hn : l.length ≤ 100000) (hk : q.length ≤ 100000) (hl : x7 l) (hm : x7 q) (ca : l.length ≤ c) (cb : q.length ≤ d) :
    Calls Tryz.prog 85 #[.slice A l.length c, .slice B q.length d] W fun e w' => ∃ v' ob', e = .returned (.tuple #[v', .bool (zL l && zL q)]) ∧ SetO v' (if zL l && zL q then ⟨gO l, q⟩ else gP) ob' ∧ Own [] W w' ob' := by
  refine zQ (n := 52) Tryz.func85 rfl (by kernel_rfl) (by kernel_rfl) (ZO (Za (.agg #[.slice none 0 0, .slice none 0 0]) (fun b1 => Zv (.bool false) (ZN (z6 (ZO (Zv (.slice A l.length c) (Zc (k := 129) (args := #[.slice A l.length c]) (.bool (zL l)) (fun w hO => jP A c l w (hv.on hO.below hO.below.size) (Nat.le_trans hn (by decide)) hl) ?_))))))))
  cases h1 : zL l with
  | true =>
    refine Zv (.bool false) (Zv (.bool false) (Zv (.slice B q.length d) (Zc (k := 129) (args := #[.slice B q.length d]) (.bool (zL q)) (fun w hO => jP B d q w (hu.on hO.below hO.below.size) (Nat.le_trans hk (by decide)) hm) ?_)))
    cases h2 : zL q with
    | true =>
      refine Zv (.bool false) (Zv (.bool false) (ZX (ZB (ZO (Zv (.slice none 0 0) (zP (zB ?_)))))))
      refine z6 (ZO (Zv (.slice A l.length c) (Zv (.int .i64 (l.length : Int)) (Zv (.int .i64 0) (ZN (zK (gN (L' := [] ++ [⟨b1, #[.slice none 0 0, .slice none 0 0], 31⟩]) rfl (yP (fun L f m => ∃ (k : Nat) (u : Value) (acc : List Sp) (ob : List Blk) (j : Nat → Value), (MkI l k u acc ob) ∧ L = ob ++ [⟨b1, #[.slice none 0 0, .slice none 0 0], 31⟩] ∧ f = kA j [(1, .slice B q.length d), (4, .pointer (some ⟨b1, 0, none⟩)), (6, u), (19, .slice A l.length c), (20, .int .i64 (l.length : Int)), (21, .int .i64 (k : Int))] ∧ m = l.length - k) (l.length - 0) ⟨0, _, [], [], _, ⟨Nat.zero_le _, Sl.nil _ _, rfl⟩, rfl, ZU, rfl⟩ ?_))))))))
      rintro L f m ⟨k, u, acc, ob, j, hrel, rfl, rfl, rfl⟩
      have hkl := hrel.le
      refine z6 (z7 ?_)
      by_cases h3 : (k : Int) < (l.length : Int)
      · have hlk : k < l.length := by omega
        obtain ⟨b, off, hA, hlt, hcell⟩ := hv (by omega)
        obtain ⟨s, he⟩ : ∃ s, l[k] = s := ⟨_, rfl⟩
        have hsk : s.short := he ▸ hl _ (List.getElem_mem _)
        have hsm : s.lo.may = true ∧ s.hi.may = true := y7 (he ▸ x8 h1 _ (List.getElem_mem _))
        obtain ⟨x, hx⟩ : ∃ x, kJ s.lo = x := ⟨_, rfl⟩
        obtain ⟨y, hy⟩ : ∃ y, kJ s.hi = y := ⟨_, rfl⟩
        have hxS : x.short := hx ▸ turn_short hsk.1
        have hyS : y.short := hy ▸ turn_short hsk.2
        refine Zd (p := (k : Int) < (l.length : Int)) true (decide_eq_true (h3)) (ZN (z6 (Zt (ZB (z6 (zK (ZO (zX (.pointer (some ⟨b, off + k * 14, none⟩)) (by kernel_rfl) (ZA (b := b) (off := off) (c := c) (n := l.length) (k := .i64) (j := (k : Int)) (e := 80) (sz := 14) hA) ?_))))))))
        refine Zo (yY s) (a := ⟨b, off + k * 14, none⟩) (fun w hO => yD yB (fun j u h => (hO.below.cell (p := ⟨b, off + j, none⟩) hlt).trans (hcell j u h)) k 0 hlk (by omega) _ (by rw [he]; kernel_rfl)) (Za (.agg #[.int .i64 0, .int .i64 0, .int .i64 0, .int .i64 0, .string ⟨#[]⟩, .string ⟨#[]⟩, .bool false, .int .i64 0, .int .i64 0, .int .i64 0, .int .i64 0, .string ⟨#[]⟩, .string ⟨#[]⟩, .bool false]) (fun b2 => Zs 0 ⟨b2, #[.int .i64 0, .int .i64 0, .int .i64 0, .int .i64 0, .string ⟨#[]⟩, .string ⟨#[]⟩, .bool false, .int .i64 0, .int .i64 0, .int .i64 0, .int .i64 0, .string ⟨#[]⟩, .string ⟨#[]⟩, .bool false], 80⟩ (off := 0) (yY s) (ZN (z6 (fW 7 (by kernel_rfl) (by kernel_rfl) (by kernel_rfl) ?_)))))
        simp only [List.take_succ_cons, List.take_zero, List.drop_succ_cons, List.drop_zero]
        refine Zw (.pointer (some ⟨b2, 0, none⟩)) (Zm 0 ⟨b2, (yY s).cells, 80⟩ (off := 0) (.agg #[.int .i64 s.lo.e, .int .i64 s.lo.v.maj, .int .i64 s.lo.v.min, .int .i64 s.lo.v.pat, .string (mkS s.lo.v.pre), .string (mkS s.lo.v.build), .bool s.lo.aft]) (Zq (k := 138) (args := #[.agg #[.int .i64 s.lo.e, .int .i64 s.lo.v.maj, .int .i64 s.lo.v.min, .int .i64 s.lo.v.pat, .string (mkS s.lo.v.pre), .string (mkS s.lo.v.build), .bool s.lo.aft]]) (zA x) (fun w _ => wZ (by rw [hx]) (toRel_any s.lo w hsk.1 hsm.1)) (Zw (.pointer (some ⟨b2, 7, none⟩)) (Zm 0 ⟨b2, (yY s).cells, 80⟩ (off := 7) (.agg #[.int .i64 s.hi.e, .int .i64 s.hi.v.maj, .int .i64 s.hi.v.min, .int .i64 s.hi.v.pat, .string (mkS s.hi.v.pre), .string (mkS s.hi.v.build), .bool s.hi.aft]) (Zq (k := 138) (args := #[.agg #[.int .i64 s.hi.e, .int .i64 s.hi.v.maj, .int .i64 s.hi.v.min, .int .i64 s.hi.v.pat, .string (mkS s.hi.v.pre), .string (mkS s.hi.v.build), .bool s.hi.aft]]) (zA y) (fun w _ => wZ (by rw [hy]) (toRel_any s.hi w hsk.2 hsm.2)) (Zw (.agg #[.int .i64 x.e, .int .i64 x.v.maj, .int .i64 x.v.min, .int .i64 x.v.pat, .string (mkS x.v.pre), .string (mkS x.v.build), .bool x.aft, .int .i64 y.e, .int .i64 y.v.maj, .int .i64 y.v.min, .int .i64 y.v.pat, .string (mkS y.v.pre), .string (mkS y.v.build), .bool y.aft]) (kP (Zs 0 ⟨b2, (yY s).cells, 80⟩ (off := 0) (.agg #[.int .i64 x.e, .int .i64 x.v.maj, .int .i64 x.v.min, .int .i64 x.v.pat, .string (mkS x.v.pre), .string (mkS x.v.build), .bool x.aft, .int .i64 y.e, .int .i64 y.v.maj, .int .i64 y.v.min, .int .i64 y.v.pat, .string (mkS y.v.pre), .string (mkS y.v.build), .bool y.aft]) (ZN (z6 ?_))))))))))
        refine z7 (Zl 0 ⟨b2, #[.int .i64 x.e, .int .i64 x.v.maj, .int .i64 x.v.min, .int .i64 x.v.pat, .string (mkS x.v.pre), .string (mkS x.v.build), .bool x.aft, .int .i64 y.e, .int .i64 y.v.maj, .int .i64 y.v.min, .int .i64 y.v.pat, .string (mkS y.v.pre), .string (mkS y.v.build), .bool y.aft], 80⟩ (off := 0) (.agg #[.int .i64 x.e, .int .i64 x.v.maj, .int .i64 x.v.min, .int .i64 x.v.pat, .string (mkS x.v.pre), .string (mkS x.v.build), .bool x.aft, .int .i64 y.e, .int .i64 y.v.maj, .int .i64 y.v.min, .int .i64 y.v.pat, .string (mkS y.v.pre), .string (mkS y.v.build), .bool y.aft]) (Zc (k := 139) (args := #[.agg #[.int .i64 x.e, .int .i64 x.v.maj, .int .i64 x.v.min, .int .i64 x.v.pat, .string (mkS x.v.pre), .string (mkS x.v.build), .bool x.aft, .int .i64 y.e, .int .i64 y.v.maj, .int .i64 y.v.min, .int .i64 y.v.pat, .string (mkS y.v.pre), .string (mkS y.v.build), .bool y.aft]]) (.bool ((⟨x, y⟩ : Sp).may)) (fun w _ => wW ⟨x, y⟩ w ⟨hxS, hyS⟩) (zP (zB ?_))))
        cases h4 : (⟨x, y⟩ : Sp).may with
        | true =>
          refine Zt (z7 (Zv (u) (Zl 0 ⟨b2, #[.int .i64 x.e, .int .i64 x.v.maj, .int .i64 x.v.min, .int .i64 x.v.pat, .string (mkS x.v.pre), .string (mkS x.v.build), .bool x.aft, .int .i64 y.e, .int .i64 y.v.maj, .int .i64 y.v.min, .int .i64 y.v.pat, .string (mkS y.v.pre), .string (mkS y.v.build), .bool y.aft], 80⟩ (off := 0) (.agg #[.int .i64 x.e, .int .i64 x.v.maj, .int .i64 x.v.min, .int .i64 x.v.pat, .string (mkS x.v.pre), .string (mkS x.v.build), .bool x.aft, .int .i64 y.e, .int .i64 y.v.maj, .int .i64 y.v.min, .int .i64 y.v.pat, .string (mkS y.v.pre), .string (mkS y.v.build), .bool y.aft]) (v6 80 #[.int .i64 x.e, .int .i64 x.v.maj, .int .i64 x.v.min, .int .i64 x.v.pat, .string (mkS x.v.pre), .string (mkS x.v.build), .bool x.aft, .int .i64 y.e, .int .i64 y.v.maj, .int .i64 y.v.min, .int .i64 y.v.pat, .string (mkS y.v.pre), .string (mkS y.v.build), .bool y.aft] (by kernel_rfl) rfl (fun _ => by kernel_rfl) (fun b3 => ?_)))))
          obtain ⟨i0, z0, e1, e2, e3, e4, e5⟩ := qS
          have hln : acc.length ≤ k := by rw [hrel.eq]; exact turnL_len l k
          refine kK (L' := [⟨b3, #[.int .i64 x.e, .int .i64 x.v.maj, .int .i64 x.v.min, .int .i64 x.v.pat, .string (mkS x.v.pre), .string (mkS x.v.build), .bool x.aft, .int .i64 y.e, .int .i64 y.v.maj, .int .i64 y.v.min, .int .i64 y.v.pat, .string (mkS y.v.pre), .string (mkS y.v.build), .bool y.aft], 80⟩, ⟨b2, #[.int .i64 x.e, .int .i64 x.v.maj, .int .i64 x.v.min, .int .i64 x.v.pat, .string (mkS x.v.pre), .string (mkS x.v.build), .bool x.aft, .int .i64 y.e, .int .i64 y.v.maj, .int .i64 y.v.min, .int .i64 y.v.pat, .string (mkS y.v.pre), .string (mkS y.v.build), .bool y.aft], 80⟩] ++ ob ++ [⟨b1, #[.slice none 0 0, .slice none 0 0], 31⟩]) (by rw [List.append_assoc]; kernel_rfl) (gJ (sz := 14) (by kernel_rfl) rfl Tryz.underlying29 e1 e2 e3 e4 (by kernel_rfl) hrel.sl (a := ⟨b3, 0, none⟩) (m := 1) (c := 1) (news := x4 ⟨x, y⟩) (by kernel_rfl) rfl (fun w hO j u hj => ?_) (gZ _) (by unfold maxLen; omega) (by rw [e5]; omega) (fun u2 ob2 hu2 => ?_))
          · rw [yQ, cell_of_row w b3 (0 + j) (x4 ⟨x, y⟩).toArray 80 _ (hO.held ⟨b3, (x4 ⟨x, y⟩).toArray, 80⟩ (List.mem_append_left _ (List.mem_append_left _ (List.mem_cons_self ..))))]; simpa using hj
          exact Zv (u2) (zP (zS (zB (z7 (Zu (k := .i64) (((k + 1 : Nat) : Int)) (IntWalk.i64_in _ (by omega)) (Zv (.int .i64 ((k + 1 : Nat) : Int)) (zP (xG (L' := ob2 ++ [⟨b1, #[.slice none 0 0, .slice none 0 0], 31⟩]) (fun w hO => own_drop hO) (zU (m' := l.length - (k + 1)) (by omega) ⟨k + 1, u2, _, ob2, _, hrel.grow hlk he hx hy (by assumption) hu2, rfl, ZU, rfl⟩)))))))))
        | false =>
          exact Zf (yS (zS (zB (z7 (Zu (k := .i64) (((k + 1 : Nat) : Int)) (IntWalk.i64_in _ (by omega)) (Zv (.int .i64 ((k + 1 : Nat) : Int)) (zP (xG (L' := ob ++ [⟨b1, #[.slice none 0 0, .slice none 0 0], 31⟩]) (fun w hO => Own.sub [_] hO) (zU (m' := l.length - (k + 1)) (by omega) ⟨k + 1, u, acc, ob, _, hrel.keep hlk he hx hy (by assumption), rfl, ZU, rfl⟩)))))))))
      refine Zd (p := (k : Int) < (l.length : Int)) false (decide_eq_false (h3)) (ZN (z6 (Zf (y8 (zD (zN (zI (zB (z6 (z7 ?_))))))))))
      refine Za (.agg #[.slice none 0 0, .slice none 0 0]) (fun b2 => ZR (Zv (u) ?_))
      have hke : acc = (l.map jV).filter (·.may) := by have h := hrel.eq; unfold pY at h; rwa [List.take_of_length_le (by omega)] at h
      have hall : gA acc = true := allMay_mem.2 (by rw [hrel.eq]; exact turnL_may l k)
      have hsh : x7 acc := fun s hs => sp_short (allMay_mem.1 hall s hs)
      have hln : acc.length ≤ k := by rw [hrel.eq]; exact turnL_len l k
      have hsl := hrel.sl
      clear hrel
      obtain ⟨C, cc, rfl⟩ := hsl.form
      refine yK (k := 136) (args := #[.slice C acc.length cc]) (fun v' L' => ∃ mv ob', v' = .tuple #[mv, .bool true] ∧ L' = ob' ++ (⟨b2, #[.slice none 0 0, .slice none 0 0], 31⟩ :: (ob ++ ([⟨b1, #[.slice none 0 0, .slice none 0 0], 31⟩]))) ∧ SlS mv (gO l) ob') (by kernel_rfl) (fun _ => by kernel_rfl) (fun w hO => (mO C cc acc w (Sl.reads hsl rfl hO (fun x hx => by simp [hx])) (by omega) hsh).mono fun e w' ⟨v', ob', k1, k2, k3⟩ => ⟨_, _, k1, ⟨v', ob', by rw [hall], rfl, by rw [hall, if_pos rfl, hke] at k2; exact k2⟩, Own.joinN hO k3⟩) (fun tv L2 hv2 => ?_)
      obtain ⟨v2, o2, rfl, rfl, hr2⟩ := hv2
      obtain ⟨V2, c2, rfl⟩ := hr2.form
      refine vY (L' := ⟨b2, #[.slice none 0 0, .slice none 0 0], 31⟩ :: ⟨b1, #[.slice none 0 0, .slice none 0 0], 31⟩ :: o2) (fun w hO => own_mk5 hO) (Zv (.tuple #[.slice V2 ((gO l).length) c2, .bool true]) (Zv (.slice V2 ((gO l).length) c2) (Zv (.bool true) (Zv (.pointer (some ⟨b2, 0, none⟩)) (Zs 0 ⟨b2, #[.slice none 0 0, .slice none 0 0], 31⟩ (off := 0) (.slice V2 ((gO l).length) c2) (ZR (Zv (.slice B q.length d) ?_)))))))
      have hqa : gA q = true := allMay_mem.2 (x8 h2)
      refine yK (k := 136) (args := #[.slice B q.length d]) (fun v' L' => ∃ mv ob', v' = .tuple #[mv, .bool true] ∧ L' = ob' ++ (⟨b2, #[.slice V2 ((gO l).length) c2, .slice none 0 0], 31⟩ :: (⟨b1, #[.slice none 0 0, .slice none 0 0], 31⟩ :: (o2))) ∧ SlS mv q ob') (by kernel_rfl) (fun _ => by kernel_rfl) (fun w hO => (mO B d q w (hu.on hO.below hO.below.size) (Nat.le_trans hk (by decide)) hm).mono fun e w' ⟨v', ob', k1, k2, k3⟩ => ⟨_, _, k1, ⟨v', ob', by rw [hqa], rfl, by rw [hqa, if_pos rfl, make_self h2] at k2; exact k2⟩, Own.joinN hO k3⟩) (fun tv L3 hv3 => ?_)
      obtain ⟨v3, o3, rfl, rfl, hr3⟩ := hv3
      obtain ⟨V3, c3, rfl⟩ := hr3.form
      refine vY (L' := ⟨b2, #[.slice V2 ((gO l).length) c2, .slice none 0 0], 31⟩ :: ⟨b1, #[.slice none 0 0, .slice none 0 0], 31⟩ :: (o3 ++ o2)) (fun w hO => own_mk6 hO) (Zv (.tuple #[.slice V3 q.length c3, .bool true]) (Zv (.slice V3 q.length c3) (Zv (.bool true) (Zv (.pointer (some ⟨b2, 1, none⟩)) (Zs 0 ⟨b2, #[.slice V2 ((gO l).length) c2, .slice none 0 0], 31⟩ (off := 1) (.slice V3 q.length c3) (ZR (Zl 0 ⟨b2, #[.slice V2 ((gO l).length) c2, .slice V3 q.length c3], 31⟩ (off := 0) (.agg #[.slice V2 ((gO l).length) c2, .slice V3 q.length c3]) (Zs 1 ⟨b1, #[.slice none 0 0, .slice none 0 0], 31⟩ (off := 0) (.agg #[.slice V2 ((gO l).length) c2, .slice V3 q.length c3]) ?_))))))))
      exact Zv (.bool true) (ZN (zC (ZD 1 ⟨b1, #[.slice V2 ((gO l).length) c2, .slice V3 q.length c3], 31⟩ (off := 0) (.agg #[.slice V2 ((gO l).length) c2, .slice V3 q.length c3]) (.bool true) Tryz.results85 (fun w hO => ⟨_, _, rfl, by rw [if_pos (by simp [h1, h2])]; exact ⟨_, _, o2, o3, rfl, rfl, hr2, hr3⟩, own_tl (own_tl hO)⟩))))
    | false =>
      refine Zv (.bool true) (Zv (.bool true) (ZY (ZO (Zc (k := 47) (args := #[]) (.agg #[.slice none 0 0, .slice none 0 0]) (fun w _ => qT w) (Zs 0 ⟨b1, #[.slice none 0 0, .slice none 0 0], 31⟩ (off := 0) (.agg #[.slice none 0 0, .slice none 0 0]) (Zv (.bool false) (zP (zB ?_))))))))
      exact zC (z8 (ZD 0 ⟨b1, #[.slice none 0 0, .slice none 0 0], 31⟩ (off := 0) (.agg #[.slice none 0 0, .slice none 0 0]) (.bool false) Tryz.results85 (fun w hO => ⟨_, [], by first | rfl | (simp [h1, h2]; done), by rw [if_neg (by simp [h1, h2])]; exact SetO.none, qA hO⟩)))
  | false =>
    refine Zv (.bool true) (Zv (.bool true) (Zk (Zk (Zk (Zv (.bool true) (ZY (ZO (Zc (k := 47) (args := #[]) (.agg #[.slice none 0 0, .slice none 0 0]) (fun w _ => qT w) ?_))))))))
    exact Zs 0 ⟨b1, #[.slice none 0 0, .slice none 0 0], 31⟩ (off := 0) (.agg #[.slice none 0 0, .slice none 0 0]) (Zv (.bool false) (ZN (zC (z8 (ZD 0 ⟨b1, #[.slice none 0 0, .slice none 0 0], 31⟩ (off := 0) (.agg #[.slice none 0 0, .slice none 0 0]) (.bool false) Tryz.results85 (fun w hO => ⟨_, [], by first | rfl | (simp [h1]; done), by rw [if_neg (by simp [h1])]; exact SetO.none, qA hO⟩))))))
end
section
section
variable {M : List Nat} {W w : World} {x y z : Blk} {A B C D E F G : List Blk}
theorem own_ev1 (h : Own M W w (A ++ (B ++ (C ++ (D ++ (x :: (E ++ (F ++ [y])))))))) : Own M W w (C ++ (A ++ [y])) := by
  have h0 : [y].Sublist (D ++ (x :: (E ++ (F ++ [y])))) := (((List.sublist_append_right F [y]).trans (List.sublist_append_right E _)).trans (List.sublist_cons_self x _)).trans (List.sublist_append_right D _)
  have h1 : Own M W w (A ++ (C ++ [y])) := h.sublist (List.Sublist.append (List.Sublist.refl A) ((List.Sublist.append (List.Sublist.refl C) h0).trans (List.sublist_append_right B _)))
  exact h1.perm (by rw [← List.append_assoc, ← List.append_assoc]; exact List.Perm.append_right [y] List.perm_append_comm)
theorem own_ev2 (h : Own M W w (x :: (A ++ (B ++ (E ++ (F ++ [y])))))) : Own M W w (x :: y :: A) := by
  have h0 : [y].Sublist (B ++ (E ++ (F ++ [y]))) := ((List.sublist_append_right F [y]).trans (List.sublist_append_right E _)).trans (List.sublist_append_right B _)
  have h1 : Own M W w (x :: (A ++ [y])) := h.sublist (List.Sublist.cons_cons x (List.Sublist.append (List.Sublist.refl A) h0))
  exact h1.perm (List.Perm.cons x List.perm_append_comm)
theorem own_so1 (h : Own M W w (A ++ (x :: y :: z :: B))) : Own M W w (y :: z :: A) := by
  have h1 : Own M W w (A ++ [y, z]) := h.sublist (List.Sublist.append (List.Sublist.refl A) ((List.Sublist.cons_cons y (List.Sublist.cons_cons z (List.nil_sublist B))).trans (List.sublist_cons_self x _)))
  exact h1.perm List.perm_append_comm
theorem own_st1 (h : Own M W w ((x :: (A ++ [y, z])) ++ B ++ C)) : Own M W w (y :: z :: (B ++ (A ++ C))) := by
  have h1 : Own M W w (A ++ ([y, z] ++ (B ++ C))) := by
    have h2 : Own M W w ([x] ++ (A ++ ([y, z] ++ (B ++ C)))) := by simpa [List.append_assoc] using h
    exact h2.sublist (List.sublist_append_right [x] _)
  refine h1.perm ((List.perm_append_comm_assoc A [y, z] (B ++ C)).trans ?_)
  show ([y, z] ++ (A ++ (B ++ C))).Perm ([y, z] ++ (B ++ (A ++ C)))
  exact List.Perm.append_left _ (List.perm_append_comm_assoc A B C)
theorem own_st2 (h : Own M W w (A ++ (x :: y :: B))) : Own M W w (x :: A) := by
  have h1 : Own M W w (A ++ [x]) := h.sublist (List.Sublist.append (List.Sublist.refl A) (List.Sublist.cons_cons x (List.nil_sublist _)))
  exact h1.perm List.perm_append_comm
end
theorem gmake_al (A B : Option Addr) (c d : Nat) (a : List Co) (W : World) {n : Nat} (hv : Reads x4 W W.heap.size A (xS a)) (hu : Reads x4 W W.heap.size B (fB (xS a) (xQ a))) (h1 : RF (xS a) 4000) (h2 : RF (fB (xS a) (xQ a)) n) (ca : (xS a).length ≤ c) (cb : (fB (xS a) (xQ a)).length ≤ d) (hn : n ≤ 100000 := by decide) :
    Calls Tryz.prog 85 #[.slice A (xS a).length c, .slice B (fB (xS a) (xQ a)).length d] W fun e w' => ∃ v' ob', e = .returned (.tuple #[v', .bool true]) ∧ SetO v' (xD a) ob' ∧ Own [] W w' ob' :=
  (sMake_any A B c d _ _ W hv hu (Nat.le_trans h1.len (by decide)) (Nat.le_trans h2.len hn) h1.short h2.short ca cb).mono fun e w' ⟨v', ob', q1, q2, q3⟩ => by
    rw [h1.may, h2.may] at q1 q2
    exact ⟨v', ob', q1, q2, q3⟩
theorem gevery_any (A : Option Addr) (cap : Nat) (a : List Co) (W : World) (hv : Reads coC W W.heap.size A a) (hn : a.length ≤ 1000) (hsh : ShortA a) : Calls Tryz.prog 48 #[.slice A a.length cap] W fun e w' => ∃ v' ob', e = .returned v' ∧ SetO v' (xD a) ob' ∧ Own [] W w' ob' := by
  refine zQ (n := 37) Tryz.func48 rfl (by kernel_rfl) (by kernel_rfl) (ZO (Za (.agg #[.slice none 0 0, .slice none 0 0]) (fun b1 => ZR (yK (k := 80) (args := #[]) (fun v' L' => ∃ ob', L' = ob' ++ ([⟨b1, #[.slice none 0 0, .slice none 0 0], 31⟩]) ∧ SetO v' allT ob') (by kernel_rfl) (fun _ => by kernel_rfl) (fun w hO => (sAll_any w).mono fun e w' ⟨v', ob', k1, k2, k3⟩ => ⟨v', _, k1, ⟨ob', rfl, k2⟩, Own.joinN hO k3⟩) (fun v0 Lx1 hvx1 => ?_)))))
  obtain ⟨o0, rfl, h0⟩ := hvx1
  obtain ⟨_, _, p1, p2, rfl, rfl, hq1, hq2⟩ := h0
  obtain ⟨V0, c0, rfl⟩ := hq1.form
  obtain ⟨U0, d0, rfl⟩ := hq2.form
  refine vY (L' := p1 ++ ([⟨b1, #[.slice none 0 0, .slice none 0 0], 31⟩])) (fun w hO => own_tail hO) (Zv (.slice V0 allT.rel.length c0) (Zc (k := 47) (args := #[]) (.agg #[.slice none 0 0, .slice none 0 0]) (fun w _ => qT w) (Zv (.slice none 0 0) (Zv (.slice V0 allT.rel.length c0) (Zv (.slice none 0 0) (ZN (z6 (ZO (Zv (.slice A a.length cap) ?_)))))))))
  refine Zv (.int .i64 (a.length : Int)) (Zv (.int .i64 0) (ZN (zK (gN (L' := p1 ++ ([] ++ [⟨b1, #[.slice none 0 0, .slice none 0 0], 31⟩])) (by simp) (yP (fun L f m => ∃ (k : Nat) (V1 : Option Addr) (c1 : Nat) (o1 : List Blk) (V2 : Option Addr) (c2 : Nat) (o2 : List Blk) (j : Nat → Value), (k ≤ a.length ∧ SlS (.slice V1 (xS (a.take k)).length c1) (xS (a.take k)) o1 ∧ SlS (.slice V2 (xQ (a.take k)).length c2) (xQ (a.take k)) o2) ∧ L = o1 ++ (o2 ++ [⟨b1, #[.slice none 0 0, .slice none 0 0], 31⟩]) ∧ f = kA j [(0, .slice A a.length cap), (2, .pointer (some ⟨b1, 0, none⟩)), (3, .slice V1 (xS (a.take k)).length c1), (4, .slice V2 (xQ (a.take k)).length c2), (13, .slice A a.length cap), (14, .int .i64 (a.length : Int)), (15, .int .i64 (k : Int))] ∧ m = a.length - k) (a.length - 0) ⟨0, _, _, _, none, 0, [], _, ⟨Nat.zero_le _, hq1, Sl.nil _ _⟩, rfl, ZU, rfl⟩ ?_)))))
  rintro L f m ⟨k, V1, c1, o1, V2, c2, o2, j, hrel, rfl, rfl, rfl⟩
  obtain ⟨hkl, gq1, gq2⟩ := hrel
  refine z6 (z7 ?_)
  by_cases h1 : (k : Int) < (a.length : Int)
  · have hk : k < a.length := by omega
    obtain ⟨bp, off, hA, hlt, hcell⟩ := hv (by omega)
    obtain ⟨c, hc⟩ : ∃ c, a[k] = c := ⟨_, rfl⟩
    have hcS : c.short := hsh c (hc ▸ List.getElem_mem hk)
    refine Zd (p := (k : Int) < (a.length : Int)) true (decide_eq_true (h1)) (ZN (z6 (Zt (ZB (z6 (zK (ZO (zX (.pointer (some ⟨bp, off + k * 7, none⟩)) (by kernel_rfl) (ZA (b := bp) (off := off) (c := cap) (n := a.length) (k := .i64) (j := (k : Int)) (e := 51) (sz := 7) hA) ?_))))))))
    refine Zo (coV c) (a := ⟨bp, off + k * 7, none⟩) (fun w hO => yD uY (fun j u h => (hO.below.cell (p := ⟨bp, off + j, none⟩) hlt).trans (hcell j u h)) k 0 hk (by omega) _ (by rw [hc]; kernel_rfl)) (Za (.agg #[.int .i64 0, .int .i64 0, .int .i64 0, .int .i64 0, .int .i64 0, .string ⟨#[]⟩, .string ⟨#[]⟩]) (fun b2 => Zs 0 ⟨b2, #[.int .i64 0, .int .i64 0, .int .i64 0, .int .i64 0, .int .i64 0, .string ⟨#[]⟩, .string ⟨#[]⟩], 51⟩ (off := 0) (coV c) (ZR (Zv (.slice V1 ((xS (a.take k)).length) c1) (Zl 0 ⟨b2, (coV c).cells, 51⟩ (off := 0) (coV c) (yK (k := 82) (args := #[coV c]) (fun v' L' => ∃ ob', L' = ob' ++ (⟨b2, (coV c).cells, 51⟩ :: (o1 ++ (o2 ++ ([⟨b1, #[.slice none 0 0, .slice none 0 0], 31⟩])))) ∧ SlS v' c.region ob') (by kernel_rfl) (fun _ => by kernel_rfl) (fun w hO => (cRegion_any c w hcS).mono fun e w' ⟨v', ob', k1, k2, k3⟩ => ⟨v', _, k1, ⟨ob', rfl, k2⟩, Own.joinN hO k3⟩) (fun vr Lx2 hvx2 => ?_)))))))
    obtain ⟨oR, rfl, hR⟩ := hvx2
    obtain ⟨VR, cR, rfl⟩ := hR.form
    refine yK (k := 81) (args := #[.slice V1 ((xS (a.take k)).length) c1, .slice VR c.region.length cR]) (fun v' L' => ∃ ob', L' = ob' ++ (oR ++ (⟨b2, (coV c).cells, 51⟩ :: (o1 ++ (o2 ++ ([⟨b1, #[.slice none 0 0, .slice none 0 0], 31⟩]))))) ∧ SlS v' (xS (a.take (k + 1))) ob') (by kernel_rfl) (fun _ => by kernel_rfl) (fun w hO => (and4_any V1 VR c1 cR (xS (a.take k)) c.region w (Sl.reads gq1 rfl hO (fun x hx => by simp [hx])) (Sl.reads hR rfl hO (fun x hx => by simp [hx])) (Nat.le_trans (n3 a k hn).len (by decide)) (Nat.le_trans (j6 c).len (by decide)) (n3 a k hn).short (j6 c).short (wX gq1) (wX hR)).mono fun e w' ⟨v', ob', k1, k2, k3⟩ => ⟨v', _, k1, ⟨ob', rfl, by rw [if_pos (by rw [(n3 a k hn).may, (j6 c).may]; rfl), ← altRel_next hk hc] at k2; exact k2⟩, Own.joinN hO k3⟩) (fun va Lx3 hvx3 => ?_)
    obtain ⟨oA, rfl, hA2⟩ := hvx3
    obtain ⟨VA, cA, rfl⟩ := hA2.form
    refine Zv (.slice VA ((xS (a.take (k + 1))).length) cA) (ZN (z7 (Zv (.slice V2 ((xQ (a.take k)).length) c2) (mJ ⟨b2, (coV c).cells, 51⟩ (off := 0) (coV c) (by kernel_rfl) rfl (by simp) (by kernel_rfl) (by kernel_rfl) (yK (k := 84) (args := #[coV c]) (fun v' L' => ∃ ob', L' = ob' ++ (oA ++ (oR ++ (⟨b2, (coV c).cells, 51⟩ :: (o1 ++ (o2 ++ ([⟨b1, #[.slice none 0 0, .slice none 0 0], 31⟩])))))) ∧ SlS v' c.zone ob') (by kernel_rfl) (fun _ => by kernel_rfl) (fun w hO => (cZone_any c w hcS).mono fun e w' ⟨v', ob', k1, k2, k3⟩ => ⟨v', _, k1, ⟨ob', rfl, k2⟩, Own.joinN hO k3⟩) (fun vz Lx4 hvx4 => ?_))))))
    obtain ⟨oZ, rfl, hZ⟩ := hvx4
    obtain ⟨VZ, cZ, rfl⟩ := hZ.form
    refine yK (k := 83) (args := #[.slice V2 ((xQ (a.take k)).length) c2, .slice VZ c.zone.length cZ]) (fun v' L' => ∃ ob', L' = ob' ++ (oZ ++ (oA ++ (oR ++ (⟨b2, (coV c).cells, 51⟩ :: (o1 ++ (o2 ++ ([⟨b1, #[.slice none 0 0, .slice none 0 0], 31⟩]))))))) ∧ SlS v' (xQ (a.take (k + 1))) ob') (by kernel_rfl) (fun _ => by kernel_rfl) (fun w hO => (or4_any V2 VZ c2 cZ (xQ (a.take k)) c.zone w (Sl.reads gq2 rfl hO (fun x hx => by simp [hx])) (Sl.reads hZ rfl hO (fun x hx => by simp [hx])) (Nat.le_trans (fD a k hn).len (by decide)) (Nat.le_trans (mC c).len (by decide)) (fD a k hn).short (mC c).short).mono fun e w' ⟨v', ob', k1, k2, k3⟩ => ⟨v', _, k1, ⟨ob', rfl, by rw [if_pos (by rw [(fD a k hn).may, (mC c).may]; rfl), ← altZone_next hk hc] at k2; exact k2⟩, Own.joinN hO k3⟩) (fun vo Lx5 hvx5 => ?_)
    obtain ⟨oO, rfl, hO2⟩ := hvx5
    obtain ⟨VO, cO, rfl⟩ := hO2.form
    exact Zv (.slice VO ((xQ (a.take (k + 1))).length) cO) (zP (zS (zB (z7 (Zu (k := .i64) (((k + 1 : Nat) : Int)) (IntWalk.i64_in _ (by omega)) (Zv (.int .i64 ((k + 1 : Nat) : Int)) (zP (xG (fun w hO => own_ev1 hO) (zU (m' := a.length - (k + 1)) (by omega) ⟨k + 1, VA, cA, oA, VO, cO, oO, _, ⟨by omega, hA2, hO2⟩, rfl, ZU, rfl⟩)))))))))
  have htk : a.take k = a := List.take_of_length_le (by omega)
  have hRL := n3 a k hn
  have hZL := fD a k hn
  have hAZ := hRL.and1 hZL
  refine Zd (p := (k : Int) < (a.length : Int)) false (decide_eq_false (h1)) (ZN (z6 (Zf (y8 (zD (zN (zI (zB (z6 (z7 ?_))))))))))
  refine Zv (.slice V1 ((xS (a.take k)).length) c1) (Zv (.slice V1 ((xS (a.take k)).length) c1) (Zv (.slice V2 ((xQ (a.take k)).length) c2) (yK (k := 81) (args := #[.slice V1 ((xS (a.take k)).length) c1, .slice V2 ((xQ (a.take k)).length) c2]) (fun v' L' => ∃ ob', L' = ob' ++ (o1 ++ (o2 ++ ([⟨b1, #[.slice none 0 0, .slice none 0 0], 31⟩]))) ∧ SlS v' (fB (xS (a.take k)) (xQ (a.take k))) ob') (by kernel_rfl) (fun _ => by kernel_rfl) (fun w hO => (and4_any V1 V2 c1 c2 (xS (a.take k)) (xQ (a.take k)) w (Sl.reads gq1 rfl hO (fun x hx => by simp [hx])) (Sl.reads gq2 rfl hO (fun x hx => by simp [hx])) (Nat.le_trans hRL.len (by decide)) (Nat.le_trans hZL.len (by decide)) hRL.short hZL.short (wX gq1) (wX gq2)).mono fun e w' ⟨v', ob', k1, k2, k3⟩ => ⟨v', _, k1, ⟨ob', rfl, by rw [if_pos (by rw [hRL.may, hZL.may]; rfl)] at k2; exact k2⟩, Own.joinN hO k3⟩) (fun vb Lx6 hvx6 => ?_))))
  obtain ⟨oB, rfl, hB⟩ := hvx6
  obtain ⟨VB, cB, rfl⟩ := hB.form
  refine yK (k := 85) (args := #[.slice V1 ((xS (a.take k)).length) c1, .slice VB ((fB (xS (a.take k)) (xQ (a.take k))).length) cB]) (fun v' L' => ∃ ob', L' = ob' ++ (oB ++ (o1 ++ (o2 ++ ([⟨b1, #[.slice none 0 0, .slice none 0 0], 31⟩])))) ∧ ∃ mv, v' = .tuple #[mv, .bool true] ∧ SetO mv (xD (a.take k)) ob') (by kernel_rfl) (fun _ => by kernel_rfl) (fun w hO => (gmake_al V1 VB c1 cB (a.take k) w (Sl.reads gq1 rfl hO (fun x hx => by simp [hx])) (Sl.reads hB rfl hO (fun x hx => by simp [hx])) hRL hAZ (wX gq1) (wX hB)).mono fun e w' ⟨v', ob', k1, k2, k3⟩ => ⟨Value.tuple #[v', .bool true], _, k1, ⟨ob', rfl, ⟨v', rfl, k2⟩⟩, Own.joinN hO k3⟩) (fun tv Lx7 hvx7 => ?_)
  obtain ⟨oM, rfl, hM0⟩ := hvx7
  obtain ⟨mv, rfl, hM⟩ := hM0
  obtain ⟨VM, UM, cM, dM, rfl⟩ := hM.form
  refine Zv (.tuple #[.agg #[.slice VM ((xD (a.take k)).rel.length) cM, .slice UM ((xD (a.take k)).pre.length) dM], .bool true]) (Zv (.agg #[.slice VM ((xD (a.take k)).rel.length) cM, .slice UM ((xD (a.take k)).pre.length) dM]) (Zv (.bool true) (Za (.agg #[.slice none 0 0, .slice none 0 0]) (fun b2 => Zs 0 ⟨b2, #[.slice none 0 0, .slice none 0 0], 31⟩ (off := 0) (.agg #[.slice VM ((xD (a.take k)).rel.length) cM, .slice UM ((xD (a.take k)).pre.length) dM]) (Zv (.bool true) (ZR (Zl 0 ⟨b2, #[.slice VM ((xD (a.take k)).rel.length) cM, .slice UM ((xD (a.take k)).pre.length) dM], 31⟩ (off := 0) (.agg #[.slice VM ((xD (a.take k)).rel.length) cM, .slice UM ((xD (a.take k)).pre.length) dM]) (vY (L' := ⟨b2, #[.slice VM ((xD (a.take k)).rel.length) cM, .slice UM ((xD (a.take k)).pre.length) dM], 31⟩ :: (⟨b1, #[.slice none 0 0, .slice none 0 0], 31⟩ :: (oM))) (fun w hO => own_ev2 hO) ?_))))))))
  exact Zs 1 ⟨b1, #[.slice none 0 0, .slice none 0 0], 31⟩ (off := 0) (.agg #[.slice VM ((xD (a.take k)).rel.length) cM, .slice UM ((xD (a.take k)).pre.length) dM]) (ZN (zC (ZC 1 ⟨b1, #[.slice VM ((xD (a.take k)).rel.length) cM, .slice UM ((xD (a.take k)).pre.length) dM], 31⟩ (off := 0) (.agg #[.slice VM ((xD (a.take k)).rel.length) cM, .slice UM ((xD (a.take k)).pre.length) dM]) Tryz.results48 (fun w hO => ⟨_, oM, rfl, by rw [htk] at hM ⊢; exact hM, Own.sub [_, _] hO⟩))))
theorem gsome_any (A : Option Addr) (cap : Nat) (xs : List Se) (r : List (List Co)) (W : World) (hv : SsIn W W.heap.size A xs) (hr : xs.map Se.s = r.map xD) (hf : fewR r = true) : Calls Tryz.prog 49 #[.slice A xs.length cap] W fun e w' => ∃ v' ob', e = .returned v' ∧ SetO v' (xI r) ob' ∧ Own [] W w' ob' := by
  have hn : xs.length = r.length := by have q := congrArg List.length hr; rwa [List.length_map, List.length_map] at q
  have hr6 := (fewR.facts hf).1
  have hfin := fin_alts hf
  refine zQ (n := 18) Tryz.func49 rfl (by kernel_rfl) (by kernel_rfl) (ZO (Za (.agg #[.slice none 0 0, .slice none 0 0]) (fun b1 => ZR (Zc (k := 47) (args := #[]) (.agg #[.slice none 0 0, .slice none 0 0]) (fun w _ => qT w) (Za (.agg #[.slice none 0 0, .slice none 0 0]) (fun b2 => Zs 0 ⟨b2, #[.slice none 0 0, .slice none 0 0], 31⟩ (off := 0) (.agg #[.slice none 0 0, .slice none 0 0]) (zP ?_)))))))
  refine zB (z6 (ZO (Zv (.slice A xs.length cap) (Zv (.int .i64 (xs.length : Int)) (Zv (.int .i64 0) (ZN (zK (gN (L' := ⟨b2, #[.slice none 0 0, .slice none 0 0], 31⟩ :: ⟨b1, #[.slice none 0 0, .slice none 0 0], 31⟩ :: []) rfl (yP (fun L f m => ∃ (k : Nat) (V : Option Addr) (U : Option Addr) (c : Nat) (d : Nat) (ob : List Blk) (j : Nat → Value), (k ≤ xs.length ∧ SetO (.agg #[.slice V (xI (r.take k)).rel.length c, .slice U (xI (r.take k)).pre.length d]) (xI (r.take k)) ob) ∧ L = ⟨b2, #[.slice V ((xI (r.take k)).rel.length) c, .slice U ((xI (r.take k)).pre.length) d], 31⟩ :: ⟨b1, #[.slice none 0 0, .slice none 0 0], 31⟩ :: ob ∧ f = kA j [(2, .pointer (some ⟨b1, 0, none⟩)), (3, .pointer (some ⟨b2, 0, none⟩)), (7, .slice A xs.length cap), (8, .int .i64 (xs.length : Int)), (9, .int .i64 (k : Int))] ∧ m = xs.length - k) (xs.length - 0) ⟨0, none, none, 0, 0, [], _, ⟨Nat.zero_le _, SetO.none⟩, rfl, ZU, rfl⟩ ?_)))))))))
  rintro L f m ⟨k, V, U, c, d, ob, j, hrel, rfl, rfl, rfl⟩
  obtain ⟨hkl, hac⟩ := hrel
  refine z6 (z7 ?_)
  by_cases h1 : (k : Int) < (xs.length : Int)
  · have hk : k < xs.length := by omega
    obtain ⟨bp, off, hA, hlt, hcell⟩ := hv.top (by omega)
    obtain ⟨x, hx⟩ : ∃ x, xs[k] = x := ⟨_, rfl⟩
    have hxm : x ∈ xs := hx ▸ List.getElem_mem hk
    have hxf : SF x.s 198 := hfin x.s (hr ▸ List.mem_map.2 ⟨x, hxm, rfl⟩)
    have hxr : xD (r[k]'(by omega)) = x.s := se_at hr hk (by omega) hx
    refine Zd (p := (k : Int) < (xs.length : Int)) true (decide_eq_true (h1)) (ZN (z6 (Zt (ZB (z6 (zK (ZO (zX (.pointer (some ⟨bp, off + k * 2, none⟩)) (by kernel_rfl) (ZA (b := bp) (off := off) (c := cap) (n := xs.length) (k := .i64) (j := (k : Int)) (e := 31) (sz := 2) hA) ?_))))))))
    refine Zo (.agg #[.slice x.A x.s.rel.length x.c, .slice x.B x.s.pre.length x.d]) (a := ⟨bp, off + k * 2, none⟩) (fun w hO => yD seC_len (fun j u h => (hO.below.cell (p := ⟨bp, off + j, none⟩) hlt).trans (hcell j u h)) k 0 hk (by omega) _ (by rw [hx]; kernel_rfl)) (Za (.agg #[.slice none 0 0, .slice none 0 0]) (fun b3 => Zs 0 ⟨b3, #[.slice none 0 0, .slice none 0 0], 31⟩ (off := 0) (.agg #[.slice x.A x.s.rel.length x.c, .slice x.B x.s.pre.length x.d]) (ZN (z7 (Zl 1 ⟨b2, #[.slice V ((xI (r.take k)).rel.length) c, .slice U ((xI (r.take k)).pre.length) d], 31⟩ (off := 0) (.agg #[.slice V ((xI (r.take k)).rel.length) c, .slice U ((xI (r.take k)).pre.length) d]) (Zl 0 ⟨b3, #[.slice x.A x.s.rel.length x.c, .slice x.B x.s.pre.length x.d], 31⟩ (off := 0) (.agg #[.slice x.A x.s.rel.length x.c, .slice x.B x.s.pre.length x.d]) (yK (k := 86) (args := #[.agg #[.slice V ((xI (r.take k)).rel.length) c, .slice U ((xI (r.take k)).pre.length) d], .agg #[.slice x.A x.s.rel.length x.c, .slice x.B x.s.pre.length x.d]]) (fun v' L' => ∃ ob', L' = ob' ++ (⟨b3, #[.slice x.A x.s.rel.length x.c, .slice x.B x.s.pre.length x.d], 31⟩ :: (⟨b2, #[.slice V ((xI (r.take k)).rel.length) c, .slice U ((xI (r.take k)).pre.length) d], 31⟩ :: (⟨b1, #[.slice none 0 0, .slice none 0 0], 31⟩ :: (ob)))) ∧ SetO v' (xI (r.take (k + 1))) ob') (by kernel_rfl) (fun _ => by kernel_rfl) (fun w hO => (sOr_any V U x.A x.B c d x.c x.d (xI (r.take k)) x.s w (SetO.inn hac hO (fun x hx => by simp [hx]) (orAll_le hf k) (by decide)) ((hv.each x hxm).on hO.below hO.below.size) hac.caps (hv.caps x hxm)).mono fun e w' ⟨v', ob', k1, k2, k3⟩ => ⟨v', _, k1, ⟨ob', rfl, by rw [if_pos (by rw [(orAll_le hf k).may, hxf.may]; rfl), ← hxr, ← orAll_next (by omega) rfl] at k2; exact k2⟩, Own.joinN hO k3⟩) (fun vo Lx1 hvx1 => ?_))))))))
    obtain ⟨oO, rfl, hO2⟩ := hvx1
    obtain ⟨V2, U2, c2, d2, rfl⟩ := hO2.form
    exact vY (L' := ⟨b2, #[.slice V ((xI (r.take k)).rel.length) c, .slice U ((xI (r.take k)).pre.length) d], 31⟩ :: (⟨b1, #[.slice none 0 0, .slice none 0 0], 31⟩ :: (oO))) (fun w hO => own_so1 hO) (Zs 0 ⟨b2, #[.slice V ((xI (r.take k)).rel.length) c, .slice U ((xI (r.take k)).pre.length) d], 31⟩ (off := 0) (.agg #[.slice V2 ((xI (r.take (k + 1))).rel.length) c2, .slice U2 ((xI (r.take (k + 1))).pre.length) d2]) (zP (zS (zB (z7 (Zu (k := .i64) (((k + 1 : Nat) : Int)) (IntWalk.i64_in _ (by omega)) (Zv (.int .i64 ((k + 1 : Nat) : Int)) (zP (zU (m' := xs.length - (k + 1)) (by omega) ⟨k + 1, V2, U2, c2, d2, oO, _, ⟨by omega, hO2⟩, rfl, ZU, rfl⟩)))))))))
  have htk : r.take k = r := List.take_of_length_le (by omega)
  refine Zd (p := (k : Int) < (xs.length : Int)) false (decide_eq_false (h1)) (ZN (z6 (Zf (y8 (zD (zN (zI (zB (z6 (z7 ?_))))))))))
  exact Zl 0 ⟨b2, #[.slice V ((xI (r.take k)).rel.length) c, .slice U ((xI (r.take k)).pre.length) d], 31⟩ (off := 0) (.agg #[.slice V ((xI (r.take k)).rel.length) c, .slice U ((xI (r.take k)).pre.length) d]) (Zs 1 ⟨b1, #[.slice none 0 0, .slice none 0 0], 31⟩ (off := 0) (.agg #[.slice V ((xI (r.take k)).rel.length) c, .slice U ((xI (r.take k)).pre.length) d]) (ZN (zC (ZC 1 ⟨b1, #[.slice V ((xI (r.take k)).rel.length) c, .slice U ((xI (r.take k)).pre.length) d], 31⟩ (off := 0) (.agg #[.slice V ((xI (r.take k)).rel.length) c, .slice U ((xI (r.take k)).pre.length) d]) Tryz.results49 (fun w hO => ⟨_, ob, rfl, by rw [htk] at hac ⊢; exact hac, Own.sub [_, _] hO⟩)))))
theorem gSet_any (A : Option Addr) (cap : Nat) (xs : List Al) (W : World) (hv : RgIn W W.heap.size A xs) (ht : HasLib W) : Calls Tryz.prog 23 #[.agg #[.slice A xs.length cap]] W fun e w' => ∃ v' ob', e = .returned v' ∧ SetO v' (xB (xA xs)) ob' ∧ Own [] W w' ob' := by
  have hn := hv.n
  refine zQ (n := 25) Tryz.func23 rfl (by kernel_rfl) (by kernel_rfl) (ZO (Zb (.agg #[.slice A xs.length cap]) (fun b1 => Za (.agg #[.slice none 0 0, .slice none 0 0]) (fun b2 => ZN (z6 (ZO (Zl 1 ⟨b1, #[.slice A xs.length cap], 25⟩ (off := 0) (.agg #[.slice A xs.length cap]) (Zc (k := 19) (args := #[.agg #[.slice A xs.length cap]]) (.bool (rgMay (xA xs))) (fun w hO => gMay_any A cap xs w (hv.on hO.below hO.below.size) (ht.on hO.below)) ?_))))))))
  cases h1 : rgMay (xA xs) with
  | true =>
    have hfw : fewR (xA xs) = true := (rgMay.facts h1).1
    obtain ⟨hxs6, hxe⟩ := few_mem hfw
    refine Zv (.bool false) (ZX (ZB (ZO (Zv (.slice none 0 0) (ZN (z6 ?_))))))
    refine ZO (Zv (.pointer (some ⟨b1, 0, none⟩)) (Zl 1 ⟨b1, #[.slice A xs.length cap], 25⟩ (off := 0) (.slice A xs.length cap) (Zv (.int .i64 (xs.length : Int)) (Zv (.int .i64 0) (ZN (zK (gN (L' := ⟨b2, #[.slice none 0 0, .slice none 0 0], 31⟩ :: ⟨b1, #[.slice A xs.length cap], 25⟩ :: ([] ++ [])) rfl (yP (fun L f m => ∃ (i : Nat) (U : Option Addr) (nq : Nat) (cu : Nat) (ys : List Se) (oX : List Blk) (oY : List Blk) (j : Nat → Value), (nq = ys.length ∧ i ≤ xs.length ∧ SsO (.slice U nq cu) ys oX oY ∧ ys.map Se.s = (((xA xs).take i).map xD)) ∧ L = ⟨b2, #[.slice none 0 0, .slice none 0 0], 31⟩ :: ⟨b1, #[.slice A xs.length cap], 25⟩ :: (oX ++ oY) ∧ f = kA j [(1, .pointer (some ⟨b1, 0, none⟩)), (2, .pointer (some ⟨b2, 0, none⟩)), (3, .slice U nq cu), (11, .slice A xs.length cap), (12, .int .i64 (xs.length : Int)), (13, .int .i64 (i : Int))] ∧ m = xs.length - i) (xs.length - 0) ⟨0, none, 0, 0, [], [], [], _, ⟨rfl, Nat.zero_le _, SsO.nil, rfl⟩, rfl, ZU, rfl⟩ ?_))))))))
    rintro L f m ⟨i, U, nq, cu, ys, oX, oY, j, hrel, rfl, rfl, rfl⟩
    obtain ⟨hnq, hil, hss, hys⟩ := hrel; subst hnq
    refine z6 (z7 ?_)
    by_cases h2 : (i : Int) < (xs.length : Int)
    · have hi : i < xs.length := by omega
      obtain ⟨bp, off, hA, hlt, hcell⟩ := hv.top (by omega)
      obtain ⟨x, hx⟩ : ∃ x, xs[i] = x := ⟨_, rfl⟩
      have hxm : x ∈ xs := hx ▸ List.getElem_mem hi
      have hxr : (xA xs)[i]'(by rw [kB]; exact hi) = x.l := fR hi hx
      refine Zd (p := (i : Int) < (xs.length : Int)) true (decide_eq_true (h2)) (ZN (z6 (Zt (ZB (z6 (zK (ZO (zX (.pointer (some ⟨bp, off + i * 1, none⟩)) (by kernel_rfl) (ZA (b := bp) (off := off) (c := cap) (n := xs.length) (k := .i64) (j := (i : Int)) (e := 47) (sz := 1) hA) ?_))))))))
      refine Zo (.slice x.A x.l.length x.cap) (a := ⟨bp, off + i * 1, none⟩) (fun w hO => yD vC (fun j u h => (hO.below.cell (p := ⟨bp, off + j, none⟩) hlt).trans (hcell j u h)) i 0 hi (by omega) _ (by rw [hx]; kernel_rfl)) (Zv (.slice x.A x.l.length x.cap) (ZN (z7 (Zv (.slice U ys.length cu) (Zv (.slice x.A x.l.length x.cap) (yK (k := 48) (args := #[.slice x.A x.l.length x.cap]) (fun v' L' => ∃ ob', L' = ob' ++ (⟨b2, #[.slice none 0 0, .slice none 0 0], 31⟩ :: (⟨b1, #[.slice A xs.length cap], 25⟩ :: (oX ++ (oY)))) ∧ SetO v' (xD x.l) ob') (by kernel_rfl) (fun _ => by kernel_rfl) (fun w hO => (gevery_any x.A x.cap x.l w ((hv.each x hxm).on hO.below hO.below.size) (hv.m x hxm) (hv.short x hxm)).mono fun e w' ⟨v', ob', k1, k2, k3⟩ => ⟨v', _, k1, ⟨ob', rfl, k2⟩, Own.joinN hO k3⟩) (fun ve Lx1 hvx1 => ?_)))))))
      obtain ⟨oE, rfl, hE⟩ := hvx1
      obtain ⟨VE, UE, cE, dE, rfl⟩ := hE.form
      refine v6 31 #[.slice VE ((xD x.l).rel.length) cE, .slice UE ((xD x.l).pre.length) dE] (by kernel_rfl) rfl (fun _ => by kernel_rfl) (fun b3 => ?_)
      obtain ⟨i1, z1, e1, e2, e3, e4, e5⟩ := se_info
      have hyl : ys.length ≤ 6 := by have q := congrArg List.length hys; rw [List.length_map, List.length_map, List.length_take, kB] at q; omega
      refine kK (L' := (⟨b3, #[.slice VE ((xD x.l).rel.length) cE, .slice UE ((xD x.l).pre.length) dE], 31⟩ :: (oE ++ [⟨b2, #[.slice none 0 0, .slice none 0 0], 31⟩, ⟨b1, #[.slice A xs.length cap], 25⟩])) ++ oX ++ oY) (by simp <;> rfl) (gJ (sz := 2) (by kernel_rfl) rfl Tryz.underlying66 e1 e2 e3 e4 (by kernel_rfl) hss.top (a := ⟨b3, 0, none⟩) (m := 1) (c := 1) (news := seC ⟨VE, UE, xD x.l, cE, dE⟩) (by kernel_rfl) rfl (fun w hO j u hj => ?_) (se_cells _) (by unfold maxLen; omega) (by rw [e5]; omega) (fun u2 oX2 hu0 => ?_))
      · rw [yQ, cell_of_row w b3 (0 + j) (seC ⟨VE, UE, xD x.l, cE, dE⟩).toArray 31 _ (hO.held ⟨b3, (seC ⟨VE, UE, xD x.l, cE, dE⟩).toArray, 31⟩ (List.mem_append_left _ (List.mem_append_left _ (List.mem_cons_self ..))))]; simpa using hj
      have hss2 := hss.add hu0 hE
      obtain ⟨U2, cu2, rfl⟩ := Sl.form hu0
      exact Zv (.slice U2 (ys.length + 1) cu2) (zP (zS (zB (z7 (Zu (k := .i64) (((i + 1 : Nat) : Int)) (IntWalk.i64_in _ (by omega)) (Zv (.int .i64 ((i + 1 : Nat) : Int)) (zP (xG (fun w hO => own_st1 hO) (zU (m' := xs.length - (i + 1)) (by omega) ⟨i + 1, U2, ys.length + 1, cu2, ys ++ [⟨VE, UE, xD x.l, cE, dE⟩], oX2, (oE ++ oY), _, ⟨by simp, by omega, hss2, by rw [List.take_succ_eq_append_getElem (by rw [kB]; exact hi), hxr, List.map_append, List.map_append, hys]; rfl⟩, rfl, ZU, rfl⟩)))))))))
    have htk : (xA xs).take i = xA xs := List.take_of_length_le (by rw [kB]; omega)
    rw [htk] at hys
    have hyf : ∀ y ∈ ys, SF y.s 198 := fun y hy => fin_alts hfw y.s (hys ▸ List.mem_map.2 ⟨y, hy, rfl⟩)
    refine Zd (p := (i : Int) < (xs.length : Int)) false (decide_eq_false (h2)) (ZN (z6 (Zf (y8 (zD (zN (zI (zB (z6 (z7 ?_))))))))))
    refine Zv (.slice U ys.length cu) (yK (k := 49) (args := #[.slice U ys.length cu]) (fun v' L' => ∃ ob', L' = ob' ++ (⟨b2, #[.slice none 0 0, .slice none 0 0], 31⟩ :: (⟨b1, #[.slice A xs.length cap], 25⟩ :: (oX ++ (oY)))) ∧ SetO v' (xI (xA xs)) ob') (by kernel_rfl) (fun _ => by kernel_rfl) (fun w hO => (gsome_any U cu ys (xA xs) w (SsO.inn hss rfl hO (fun x hx => by simp [hx]) (fun x hx => by simp [hx]) hyf) hys hfw).mono fun e w' ⟨v', ob', k1, k2, k3⟩ => ⟨v', _, k1, ⟨ob', rfl, k2⟩, Own.joinN hO k3⟩) (fun vs Lx2 hvx2 => ?_))
    obtain ⟨oS, rfl, hS⟩ := hvx2
    obtain ⟨VS, US, cS, dS, rfl⟩ := hS.form
    exact vY (L' := ⟨b2, #[.slice none 0 0, .slice none 0 0], 31⟩ :: (oS)) (fun w hO => own_st2 hO) (Zs 0 ⟨b2, #[.slice none 0 0, .slice none 0 0], 31⟩ (off := 0) (.agg #[.slice VS ((xI (xA xs)).rel.length) cS, .slice US ((xI (xA xs)).pre.length) dS]) (ZN (zC (ZC 0 ⟨b2, #[.slice VS ((xI (xA xs)).rel.length) cS, .slice US ((xI (xA xs)).pre.length) dS], 31⟩ (off := 0) (.agg #[.slice VS ((xI (xA xs)).rel.length) cS, .slice US ((xI (xA xs)).pre.length) dS]) Tryz.results23 (fun w hO => ⟨_, oS, rfl, by unfold xB; rw [if_pos h1]; exact hS, Own.sub [_] hO⟩)))))
  | false =>
    refine Zv (.bool true) (ZY (ZO (Zc (k := 47) (args := #[]) (.agg #[.slice none 0 0, .slice none 0 0]) (fun w _ => qT w) (Zs 0 ⟨b2, #[.slice none 0 0, .slice none 0 0], 31⟩ (off := 0) (.agg #[.slice none 0 0, .slice none 0 0]) (ZN (zC (z8 ?_)))))))
    exact ZC 0 ⟨b2, #[.slice none 0 0, .slice none 0 0], 31⟩ (off := 0) (.agg #[.slice none 0 0, .slice none 0 0]) Tryz.results23 (fun w hO => ⟨_, [], rfl, by unfold xB; rw [if_neg (by simp [h1])]; exact SetO.none, qA hO⟩)
end
end Go.Proofs.YtkljdpiaghepfaaGreatDoor
